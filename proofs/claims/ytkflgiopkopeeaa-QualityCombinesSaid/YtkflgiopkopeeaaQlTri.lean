/-
  Contracts of the trials of package quality: isMissing, isBeyond, hasJumped, isStuck, firstVerdict; of meet and believe.
-/
import Derived.Test.YtkflgiopkopeeaaQlVer
import Derived.BigRegion
import Derived.Laws.EntriesVeiled
namespace Go.Proofs.Ytkflgiopkopeeaa.Ql
open Go.ChangeShapes Go.WideShapes Go.ChangeAt Go.RowKit
set_option linter.unusedVariables false

theorem ret_bool {a b : Bool} (h : a = b) : Ending.returned (.bool a) = .returned (.bool b) := by rw [h]
/-- A situation as a value: checks, reading, index, same, believed, believedAt. -/
def sitV (c0 c1 c2 c3 r0 r1 r2 r3 ix sm b0 b1 b2 b3 ba : Int) : Array Value := #[.int .i64 c0, .int .i64 c1, .int .i64 c2, .int .i64 c3, .int .i64 r0, .int .i64 r1, .int .i64 r2, .int .i64 r3, .int .i64 ix, .int .i64 sm, .int .i64 b0, .int .i64 b1, .int .i64 b2, .int .i64 b3, .int .i64 ba]
set_option maxHeartbeats 1000000 in
theorem miss_any (c0 c1 c2 c3 r0 r1 r2 r3 ix sm b0 b1 b2 b3 ba : Int) (w : World) : Calls Try.prog 54 #[.agg #[.int .i64 c0, .int .i64 c1, .int .i64 c2, .int .i64 c3, .int .i64 r0, .int .i64 r1, .int .i64 r2, .int .i64 r3, .int .i64 ix, .int .i64 sm, .int .i64 b0, .int .i64 b1, .int .i64 b2, .int .i64 b3, .int .i64 ba]] w (Et (decide (r3 = 2)) w) := by
  go_enter Try.func54, Try.ntmps54
  go_wp2
  go_ret
  exact ⟨rfl, (Below.refl _ _).alloc (Nat.le_refl _) _⟩
set_option maxHeartbeats 1000000 in
theorem beyond_any (c0 c1 c2 c3 r0 r1 r2 r3 ix sm b0 b1 b2 b3 ba : Int) (w : World) : Calls Try.prog 55 #[.agg #[.int .i64 c0, .int .i64 c1, .int .i64 c2, .int .i64 c3, .int .i64 r0, .int .i64 r1, .int .i64 r2, .int .i64 r3, .int .i64 ix, .int .i64 sm, .int .i64 b0, .int .i64 b1, .int .i64 b2, .int .i64 b3, .int .i64 ba]] w (Et (decide (r2 < c0 ∨ c1 < r2)) w) := by
  go_enter Try.func55, Try.ntmps55
  go_wp2
  all_goals
    go_ret
    refine ⟨?_, (Below.refl _ _).alloc (Nat.le_refl _) _⟩
    first | exact ret_bool rfl | exact ret_bool (decide_eq_decide.2 (by omega)) | exact ret_bool (Bool.decide_or _ _).symm | exact ret_bool (Bool.decide_and _ _).symm | exact ret_bool (show true = _ from (decide_eq_true (by omega)).symm) | exact ret_bool (show false = _ from (decide_eq_false (by omega)).symm) | exact ret_bool (by simp; omega)
set_option maxHeartbeats 1000000 in
theorem jump_any (c0 c1 c2 c3 r0 r1 r2 r3 ix sm b0 b1 b2 b3 ba : Int) (w : World) (hr : 0 ≤ r2 ∧ r2 ≤ 1073741824) (hb : 0 ≤ b2 ∧ b2 ≤ 1073741824) (hba : -1 ≤ ba ∧ ba ≤ 9223372036854775807) (hix : 0 ≤ ix ∧ ix ≤ 9223372036854775806) (hc : 0 ≤ c2 ∧ c2 ≤ 1073741824) : Calls Try.prog 56 #[.agg #[.int .i64 c0, .int .i64 c1, .int .i64 c2, .int .i64 c3, .int .i64 r0, .int .i64 r1, .int .i64 r2, .int .i64 r3, .int .i64 ix, .int .i64 sm, .int .i64 b0, .int .i64 b1, .int .i64 b2, .int .i64 b3, .int .i64 ba]] w (Et (decide (ba ≠ -1 ∧ wrap64 (c2 * (ix - ba)) < dst r2 b2)) w) := by
  have HD := Lib.hid (fun W => dst_any r2 b2 W (by omega) (by omega))
  have hw1 : IntKind.i64.wrap (ix - ba) = ix - ba := by rw [IntKind.wrap_i64]; omega
  obtain ⟨r21, r22⟩ := hr
  obtain ⟨b21, b22⟩ := hb
  by_cases h : ba = -1
  · subst h
    go_enter Try.func56, Try.ntmps56
    go_wp2
    go_ret
    refine ⟨?_, (Below.refl _ _).alloc (Nat.le_refl _) _⟩
    exact ret_bool (decide_eq_false (by simp)).symm
  · have hb1 : (ba == -1) = false := by simp [h]
    go_enter Try.func56, Try.ntmps56
    go_wp2
    have B1 := Lib.hid ((Below.refl w.heap.size w).alloc (Nat.le_refl _) (.cells (sitV c0 c1 c2 c3 r0 r1 r2 r3 ix sm b0 b1 b2 b3 ba) 68))
    have e6 : (w.alloc (.cells (sitV c0 c1 c2 c3 r0 r1 r2 r3 ix sm b0 b1 b2 b3 ba) 68)).cell? ⟨w.heap.size, 6, none⟩ = some (.int .i64 r2) := by simp [sitV]
    have e12 : (w.alloc (.cells (sitV c0 c1 c2 c3 r0 r1 r2 r3 ix sm b0 b1 b2 b3 ba) 68)).cell? ⟨w.heap.size, 12, none⟩ = some (.int .i64 b2) := by simp [sitV]
    have e2 : (w.alloc (.cells (sitV c0 c1 c2 c3 r0 r1 r2 r3 ix sm b0 b1 b2 b3 ba) 68)).cell? ⟨w.heap.size, 2, none⟩ = some (.int .i64 c2) := by simp [sitV]
    have e8 : (w.alloc (.cells (sitV c0 c1 c2 c3 r0 r1 r2 r3 ix sm b0 b1 b2 b3 ba) 68)).cell? ⟨w.heap.size, 8, none⟩ = some (.int .i64 ix) := by simp [sitV]
    have e14 : (w.alloc (.cells (sitV c0 c1 c2 c3 r0 r1 r2 r3 ix sm b0 b1 b2 b3 ba) 68)).cell? ⟨w.heap.size, 14, none⟩ = some (.int .i64 ba) := by simp [sitV]
    unfold sitV at B1 e6 e12 e2 e8 e14
    generalize w.alloc _ = W at *
    go_quiet (refine (HD.out _).mono fun e w' h => ⟨h.1, _, h.2.symm⟩)
    go_wp2
    go_ret
    exact ⟨ret_bool (decide_eq_decide.2 (by omega)), Gg.below_drewN B1.out _⟩
set_option maxHeartbeats 1000000 in
theorem isstuck_any (c0 c1 c2 c3 r0 r1 r2 r3 ix sm b0 b1 b2 b3 ba : Int) (w : World) : Calls Try.prog 57 #[.agg #[.int .i64 c0, .int .i64 c1, .int .i64 c2, .int .i64 c3, .int .i64 r0, .int .i64 r1, .int .i64 r2, .int .i64 r3, .int .i64 ix, .int .i64 sm, .int .i64 b0, .int .i64 b1, .int .i64 b2, .int .i64 b3, .int .i64 ba]] w (Et (decide (0 < c3 ∧ c3 ≤ sm)) w) := by
  go_enter Try.func57, Try.ntmps57
  go_wp2
  all_goals
    go_ret
    refine ⟨?_, (Below.refl _ _).alloc (Nat.le_refl _) _⟩
    first | exact ret_bool rfl | exact ret_bool (decide_eq_decide.2 (by omega)) | exact ret_bool (Bool.decide_or _ _).symm | exact ret_bool (Bool.decide_and _ _).symm | exact ret_bool (show true = _ from (decide_eq_true (by omega)).symm) | exact ret_bool (show false = _ from (decide_eq_false (by omega)).symm) | exact ret_bool (by simp; omega)

/-- The table of trials: the verdicts and their functions. -/
structure Tab (w : World) (g : Nat) : Prop where
  lt : g < w.heap.size
  v0 : w.cell? ⟨g, 0, none⟩ = some (.int .i64 2)
  f0 : w.cell? ⟨g, 1, none⟩ = some (.func (.func 54) #[] #[])
  v1 : w.cell? ⟨g, 2, none⟩ = some (.int .i64 3)
  f1 : w.cell? ⟨g, 3, none⟩ = some (.func (.func 55) #[] #[])
  v2 : w.cell? ⟨g, 4, none⟩ = some (.int .i64 4)
  f2 : w.cell? ⟨g, 5, none⟩ = some (.func (.func 56) #[] #[])
  v3 : w.cell? ⟨g, 6, none⟩ = some (.int .i64 5)
  f3 : w.cell? ⟨g, 7, none⟩ = some (.func (.func 57) #[] #[])
theorem Tab.below {w w' : World} {B g : Nat} (h : Tab w g) (hb : Below B w w') (hB : g < B) : Tab w' g where
  lt := Nat.lt_of_lt_of_le h.lt hb.size
  v0 := (hb.cell (p := ⟨g, 0, none⟩) hB).trans h.v0
  f0 := (hb.cell (p := ⟨g, 1, none⟩) hB).trans h.f0
  v1 := (hb.cell (p := ⟨g, 2, none⟩) hB).trans h.v1
  f1 := (hb.cell (p := ⟨g, 3, none⟩) hB).trans h.f1
  v2 := (hb.cell (p := ⟨g, 4, none⟩) hB).trans h.v2
  f2 := (hb.cell (p := ⟨g, 5, none⟩) hB).trans h.f2
  v3 := (hb.cell (p := ⟨g, 6, none⟩) hB).trans h.v3
  f3 := (hb.cell (p := ⟨g, 7, none⟩) hB).trans h.f3
theorem Tab.grown {w w' : World} {r : Option Nat} {g : Nat} (h : Tab w g) (hg : w.grownBy w' r) (hr : some g ≠ r) : Tab w' g where
  lt := Nat.lt_of_lt_of_le h.lt hg.size
  v0 := hg.cell h.v0 hr
  f0 := hg.cell h.f0 hr
  v1 := hg.cell h.v1 hr
  f1 := hg.cell h.f1 hr
  v2 := hg.cell h.v2 hr
  f2 := hg.cell h.f2 hr
  v3 := hg.cell h.v3 hr
  f3 := hg.cell h.f3 hr
def TrP (w : World) (e : Ending) (w' : World) : Prop := ∃ g, e = .returned (.slice (some ⟨g, 0, none⟩) 4 4) ∧ w.heap.size ≤ g ∧ Tab w' g ∧ Below w.heap.size w w'
theorem trials_any (w : World) : Calls Try.prog 32 #[] w (TrP w) := by
  go_enter Try.func32, Try.ntmps32
  go_wp2
  go_ret
  exact ⟨_, rfl, Nat.le_refl _, ⟨by simp, by simp, by simp, by simp, by simp, by simp, by simp, by simp, by simp⟩, (Below.refl _ _).alloc (Nat.le_refl _) _⟩

/-- The cells of a box with a situation. -/
structure Sb (w : World) (g : Nat) (c0 c1 c2 c3 r0 r1 r2 r3 ix sm b0 b1 b2 b3 ba : Int) : Prop where
  lt : g < w.heap.size
  fz : ∀ j, w.frozen? ⟨g, j, none⟩ = false
  e0 : w.cell? ⟨g, 0, none⟩ = some (.int .i64 c0)
  e1 : w.cell? ⟨g, 1, none⟩ = some (.int .i64 c1)
  e2 : w.cell? ⟨g, 2, none⟩ = some (.int .i64 c2)
  e3 : w.cell? ⟨g, 3, none⟩ = some (.int .i64 c3)
  e4 : w.cell? ⟨g, 4, none⟩ = some (.int .i64 r0)
  e5 : w.cell? ⟨g, 5, none⟩ = some (.int .i64 r1)
  e6 : w.cell? ⟨g, 6, none⟩ = some (.int .i64 r2)
  e7 : w.cell? ⟨g, 7, none⟩ = some (.int .i64 r3)
  e8 : w.cell? ⟨g, 8, none⟩ = some (.int .i64 ix)
  e9 : w.cell? ⟨g, 9, none⟩ = some (.int .i64 sm)
  e10 : w.cell? ⟨g, 10, none⟩ = some (.int .i64 b0)
  e11 : w.cell? ⟨g, 11, none⟩ = some (.int .i64 b1)
  e12 : w.cell? ⟨g, 12, none⟩ = some (.int .i64 b2)
  e13 : w.cell? ⟨g, 13, none⟩ = some (.int .i64 b3)
  e14 : w.cell? ⟨g, 14, none⟩ = some (.int .i64 ba)
theorem Sb.below {w w' : World} {B g : Nat} {c0 c1 c2 c3 r0 r1 r2 r3 ix sm b0 b1 b2 b3 ba : Int} (h : Sb w g c0 c1 c2 c3 r0 r1 r2 r3 ix sm b0 b1 b2 b3 ba) (hb : Below B w w') (hB : g < B) : Sb w' g c0 c1 c2 c3 r0 r1 r2 r3 ix sm b0 b1 b2 b3 ba where
  lt := Nat.lt_of_lt_of_le h.lt hb.size
  fz := fun j => (hb.frozen (p := ⟨g, j, none⟩) hB).trans (h.fz j)
  e0 := (hb.cell (p := ⟨g, 0, none⟩) hB).trans h.e0
  e1 := (hb.cell (p := ⟨g, 1, none⟩) hB).trans h.e1
  e2 := (hb.cell (p := ⟨g, 2, none⟩) hB).trans h.e2
  e3 := (hb.cell (p := ⟨g, 3, none⟩) hB).trans h.e3
  e4 := (hb.cell (p := ⟨g, 4, none⟩) hB).trans h.e4
  e5 := (hb.cell (p := ⟨g, 5, none⟩) hB).trans h.e5
  e6 := (hb.cell (p := ⟨g, 6, none⟩) hB).trans h.e6
  e7 := (hb.cell (p := ⟨g, 7, none⟩) hB).trans h.e7
  e8 := (hb.cell (p := ⟨g, 8, none⟩) hB).trans h.e8
  e9 := (hb.cell (p := ⟨g, 9, none⟩) hB).trans h.e9
  e10 := (hb.cell (p := ⟨g, 10, none⟩) hB).trans h.e10
  e11 := (hb.cell (p := ⟨g, 11, none⟩) hB).trans h.e11
  e12 := (hb.cell (p := ⟨g, 12, none⟩) hB).trans h.e12
  e13 := (hb.cell (p := ⟨g, 13, none⟩) hB).trans h.e13
  e14 := (hb.cell (p := ⟨g, 14, none⟩) hB).trans h.e14
theorem sb_new (w : World) (c0 c1 c2 c3 r0 r1 r2 r3 ix sm b0 b1 b2 b3 ba : Int) : Sb (w.alloc (.cells #[.int .i64 c0, .int .i64 c1, .int .i64 c2, .int .i64 c3, .int .i64 r0, .int .i64 r1, .int .i64 r2, .int .i64 r3, .int .i64 ix, .int .i64 sm, .int .i64 b0, .int .i64 b1, .int .i64 b2, .int .i64 b3, .int .i64 ba] 68)) w.heap.size c0 c1 c2 c3 r0 r1 r2 r3 ix sm b0 b1 b2 b3 ba where
  lt := by simp
  fz := fun j => by simp
  e0 := by simp
  e1 := by simp
  e2 := by simp
  e3 := by simp
  e4 := by simp
  e5 := by simp
  e6 := by simp
  e7 := by simp
  e8 := by simp
  e9 := by simp
  e10 := by simp
  e11 := by simp
  e12 := by simp
  e13 := by simp
  e14 := by simp
/-- The first verdict that applies. -/
def fvI (T0 T1 T2 T3 : Bool) : Int := if T0 = true then 2 else if T1 = true then 3 else if T2 = true then 4 else if T3 = true then 5 else 1
set_option maxHeartbeats 4000000 in
theorem first_any (tg : Nat) (c0 c1 c2 c3 r0 r1 r2 r3 ix sm b0 b1 b2 b3 ba : Int) (T0 T1 T2 T3 : Bool) (w : World) (ht : Tab w tg)
    (h0 : ∀ W, Calls Try.prog 54 #[.agg #[.int .i64 c0, .int .i64 c1, .int .i64 c2, .int .i64 c3, .int .i64 r0, .int .i64 r1, .int .i64 r2, .int .i64 r3, .int .i64 ix, .int .i64 sm, .int .i64 b0, .int .i64 b1, .int .i64 b2, .int .i64 b3, .int .i64 ba]] W (Et T0 W))
    (h1 : ∀ W, Calls Try.prog 55 #[.agg #[.int .i64 c0, .int .i64 c1, .int .i64 c2, .int .i64 c3, .int .i64 r0, .int .i64 r1, .int .i64 r2, .int .i64 r3, .int .i64 ix, .int .i64 sm, .int .i64 b0, .int .i64 b1, .int .i64 b2, .int .i64 b3, .int .i64 ba]] W (Et T1 W))
    (h2 : ∀ W, Calls Try.prog 56 #[.agg #[.int .i64 c0, .int .i64 c1, .int .i64 c2, .int .i64 c3, .int .i64 r0, .int .i64 r1, .int .i64 r2, .int .i64 r3, .int .i64 ix, .int .i64 sm, .int .i64 b0, .int .i64 b1, .int .i64 b2, .int .i64 b3, .int .i64 ba]] W (Et T2 W))
    (h3 : ∀ W, Calls Try.prog 57 #[.agg #[.int .i64 c0, .int .i64 c1, .int .i64 c2, .int .i64 c3, .int .i64 r0, .int .i64 r1, .int .i64 r2, .int .i64 r3, .int .i64 ix, .int .i64 sm, .int .i64 b0, .int .i64 b1, .int .i64 b2, .int .i64 b3, .int .i64 ba]] W (Et T3 W)) :
    Calls Try.prog 35 #[.slice (some ⟨tg, 0, none⟩) 4 4, .agg #[.int .i64 c0, .int .i64 c1, .int .i64 c2, .int .i64 c3, .int .i64 r0, .int .i64 r1, .int .i64 r2, .int .i64 r3, .int .i64 ix, .int .i64 sm, .int .i64 b0, .int .i64 b1, .int .i64 b2, .int .i64 b3, .int .i64 ba]] w (Ek (fvI T0 T1 T2 T3) w) := by
  have HT := Lib.hid (ht.below ((Below.refl w.heap.size w).alloc (Nat.le_refl _) (.cells #[.int .i64 c0, .int .i64 c1, .int .i64 c2, .int .i64 c3, .int .i64 r0, .int .i64 r1, .int .i64 r2, .int .i64 r3, .int .i64 ix, .int .i64 sm, .int .i64 b0, .int .i64 b1, .int .i64 b2, .int .i64 b3, .int .i64 ba] 68)) ht.lt)
  have HS := Lib.hid (sb_new w c0 c1 c2 c3 r0 r1 r2 r3 ix sm b0 b1 b2 b3 ba)
  have htl := ht.lt
  have H0 := Lib.hid h0
  have H1 := Lib.hid h1
  have H2 := Lib.hid h2
  have H3 := Lib.hid h3
  have B0 := Lib.hid ((Below.refl w.heap.size w).alloc (Nat.le_refl _) (.cells #[.int .i64 c0, .int .i64 c1, .int .i64 c2, .int .i64 c3, .int .i64 r0, .int .i64 r1, .int .i64 r2, .int .i64 r3, .int .i64 ix, .int .i64 sm, .int .i64 b0, .int .i64 b1, .int .i64 b2, .int .i64 b3, .int .i64 ba] 68))
  clear ht h0 h1 h2 h3
  go_enter Try.func35, Try.ntmps35
  go_wp2
  go_loopw [9] (fun i wr => ∃ k : Nat, k ≤ 4 ∧ i = .int .i64 k ∧ Hid ((0 < k → T0 = false) ∧ (1 < k → T1 = false) ∧ (2 < k → T2 = false) ∧ (3 < k → T3 = false)) ∧ Hid (Below (w.heap.size + 1) (w.alloc (.cells #[.int .i64 c0, .int .i64 c1, .int .i64 c2, .int .i64 c3, .int .i64 r0, .int .i64 r1, .int .i64 r2, .int .i64 r3, .int .i64 ix, .int .i64 sm, .int .i64 b0, .int .i64 b1, .int .i64 b2, .int .i64 b3, .int .i64 ba] 68)) wr)) (fun i _ => 4 - (intOf i).toNat)
  case atStart => exact ⟨0, by omega, rfl, ⟨fun h => absurd h (by omega), fun h => absurd h (by omega), fun h => absurd h (by omega), fun h => absurd h (by omega)⟩, Below.refl _ _⟩
  case round =>
    obtain ⟨k, hk, rfl, ha, hb⟩ := hrel
    have HT2 := Lib.hid (HT.out.below hb.out (by omega))
    have HS2 := Lib.hid (HS.out.below hb.out (by omega))
    have hB : Hid (Below w.heap.size w wr) := B0.out.trans (hb.out.mono (by omega))
    have hws := hb.out.size
    simp only [World.size_alloc] at hws
    clear HT HS B0
    obtain ⟨tl, v0, f0, v1, f1, v2, f2, v3, f3⟩ := HT2.out
    obtain ⟨sl, sf, e0, e1, e2, e3, e4, e5, e6, e7, e8, e9, e10, e11, e12, e13, e14⟩ := HS2.out
    clear HT2 HS2 sf
    have hc : k = 0 ∨ k = 1 ∨ k = 2 ∨ k = 3 ∨ k = 4 := by omega
    rcases hc with rfl | rfl | rfl | rfl | rfl
    · cases T0 with
      | true =>
        go_wp2_with (go_at_call 54; refine (H0.out _).mono ?_; rintro e w1 ⟨rfl, hb1⟩; have d0 : w1.cell? ⟨wr.heap.size, 0, none⟩ = some (.int .i64 2) := (hb1.cell (p := ⟨wr.heap.size, 0, none⟩) (by simp)).trans (by simp))
        go_ret
        exact ⟨by rfl, hB.out.trans (((Below.refl _ _).alloc (Nat.le_refl _) _).trans (hb1.mono (by simp)) |>.mono (by omega))⟩
      | false =>
        go_wp2_with (go_at_call 54; refine (H0.out _).mono ?_; rintro e w1 ⟨rfl, hb1⟩)
        go_roundw
        case rel => exact ⟨1, by omega, rfl, ⟨fun _ => trivial, fun h => absurd h (by omega), fun h => absurd h (by omega), fun h => absurd h (by omega)⟩, hb.out.trans (((Below.refl _ _).alloc (Nat.le_refl _) _).trans (hb1.mono (by simp)) |>.mono (by omega))⟩
        case measure => simp [intOf]
    · cases T1 with
      | true =>
        go_wp2_with (go_at_call 55; refine (H1.out _).mono ?_; rintro e w1 ⟨rfl, hb1⟩; have d0 : w1.cell? ⟨wr.heap.size, 0, none⟩ = some (.int .i64 3) := (hb1.cell (p := ⟨wr.heap.size, 0, none⟩) (by simp)).trans (by simp))
        go_ret
        exact ⟨by rw [ha.out.1 (by omega)]; rfl, hB.out.trans (((Below.refl _ _).alloc (Nat.le_refl _) _).trans (hb1.mono (by simp)) |>.mono (by omega))⟩
      | false =>
        go_wp2_with (go_at_call 55; refine (H1.out _).mono ?_; rintro e w1 ⟨rfl, hb1⟩)
        go_roundw
        case rel => exact ⟨2, by omega, rfl, ⟨fun _ => ha.out.1 (by omega), fun _ => trivial, fun h => absurd h (by omega), fun h => absurd h (by omega)⟩, hb.out.trans (((Below.refl _ _).alloc (Nat.le_refl _) _).trans (hb1.mono (by simp)) |>.mono (by omega))⟩
        case measure => simp [intOf]
    · cases T2 with
      | true =>
        go_wp2_with (go_at_call 56; refine (H2.out _).mono ?_; rintro e w1 ⟨rfl, hb1⟩; have d0 : w1.cell? ⟨wr.heap.size, 0, none⟩ = some (.int .i64 4) := (hb1.cell (p := ⟨wr.heap.size, 0, none⟩) (by simp)).trans (by simp))
        go_ret
        exact ⟨by rw [ha.out.1 (by omega), ha.out.2.1 (by omega)]; rfl, hB.out.trans (((Below.refl _ _).alloc (Nat.le_refl _) _).trans (hb1.mono (by simp)) |>.mono (by omega))⟩
      | false =>
        go_wp2_with (go_at_call 56; refine (H2.out _).mono ?_; rintro e w1 ⟨rfl, hb1⟩)
        go_roundw
        case rel => exact ⟨3, by omega, rfl, ⟨fun _ => ha.out.1 (by omega), fun _ => ha.out.2.1 (by omega), fun _ => trivial, fun h => absurd h (by omega)⟩, hb.out.trans (((Below.refl _ _).alloc (Nat.le_refl _) _).trans (hb1.mono (by simp)) |>.mono (by omega))⟩
        case measure => simp [intOf]
    · cases T3 with
      | true =>
        go_wp2_with (go_at_call 57; refine (H3.out _).mono ?_; rintro e w1 ⟨rfl, hb1⟩; have d0 : w1.cell? ⟨wr.heap.size, 0, none⟩ = some (.int .i64 5) := (hb1.cell (p := ⟨wr.heap.size, 0, none⟩) (by simp)).trans (by simp))
        go_ret
        exact ⟨by rw [ha.out.1 (by omega), ha.out.2.1 (by omega), ha.out.2.2.1 (by omega)]; rfl, hB.out.trans (((Below.refl _ _).alloc (Nat.le_refl _) _).trans (hb1.mono (by simp)) |>.mono (by omega))⟩
      | false =>
        go_wp2_with (go_at_call 57; refine (H3.out _).mono ?_; rintro e w1 ⟨rfl, hb1⟩)
        go_roundw
        case rel => exact ⟨4, by omega, rfl, ⟨fun _ => ha.out.1 (by omega), fun _ => ha.out.2.1 (by omega), fun _ => ha.out.2.2.1 (by omega), fun _ => trivial⟩, hb.out.trans (((Below.refl _ _).alloc (Nat.le_refl _) _).trans (hb1.mono (by simp)) |>.mono (by omega))⟩
        case measure => simp [intOf]
    · go_wp2
      go_ret
      exact ⟨by rw [ha.out.1 (by omega), ha.out.2.1 (by omega), ha.out.2.2.1 (by omega), ha.out.2.2.2 (by omega)]; rfl, hB.out⟩
end Go.Proofs.Ytkflgiopkopeeaa.Ql

/-
  Contracts of meet and believe of package quality.
-/
import Derived.Test.YtkflgiopkopeeaaQlTri
import Derived.Sort.AtCall
namespace Go.Proofs.Ytkflgiopkopeeaa.Ql
open Go.ChangeShapes Go.WideShapes Go.ChangeAt Go.RowKit
open Go.Proofs.Ytkflgiopkopeeaa.Cu (grown_trans grown_refl grown_drewN updF updF_same updF_other)
set_option linter.unusedVariables false

/-- A box of fifteen numbers. -/
structure SbF (w : World) (g : Nat) (S : Nat → Int) : Prop where
  lt : g < w.heap.size
  fz : ∀ j, w.frozen? ⟨g, j, none⟩ = false
  c : ∀ j, j < 15 → w.cell? ⟨g, j, none⟩ = some (.int .i64 (S j))
theorem set_grownQ (w : World) (g k : Nat) (u : Value) : w.grownBy (w.setCell ⟨g, k, none⟩ u) (some g) :=
  ⟨rfl, rfl, rfl, by simp [World.setCell], fun j hj hne => (Below.heap_setCell _ _ _ _ (by intro e; apply hne; rw [e]))⟩
theorem drew_grownQ (w : World) (g : Nat) : w.grownBy w.drew (some g) := ⟨rfl, rfl, rfl, Nat.le_refl _, fun _ _ _ => rfl⟩
theorem SbF.set {w : World} {g : Nat} {S : Nat → Int} (h : SbF w g S) (k : Nat) (x : Int) (hk : k < 15) : SbF (w.setCell ⟨g, k, none⟩ (.int .i64 x)) g (updF S k x) where
  lt := by simpa using h.lt
  fz := fun j => by simpa using h.fz j
  c := fun j hj => by
    by_cases e : j = k
    · subst e
      rw [updF_same]
      exact World.cell?_setCell_same _ _ _ (h.c j hj)
    · rw [updF_other _ _ e]
      exact (World.cell?_setCell_other _ _ _ _ (by intro e2; simp only [Addr.mk.injEq] at e2; omega)).trans (h.c j hj)
theorem SbF.alloc {w : World} {g : Nat} {S : Nat → Int} (h : SbF w g S) (o : Obj) : SbF (w.alloc o) g S where
  lt := Nat.lt_of_lt_of_le h.lt (by simp)
  fz := fun j => (((Below.refl w.heap.size w).alloc (Nat.le_refl _) o).frozen (p := ⟨g, j, none⟩) h.lt).trans (h.fz j)
  c := fun j hj => (((Below.refl w.heap.size w).alloc (Nat.le_refl _) o).cell (p := ⟨g, j, none⟩) h.lt).trans (h.c j hj)
theorem drewN_grownQ (w : World) (g q : Nat) : w.grownBy (w.drewN q) (some g) := ⟨rfl, rfl, rfl, Nat.le_refl _, fun _ _ _ => rfl⟩
theorem SbF.drewN {w : World} {g : Nat} {S : Nat → Int} (h : SbF w g S) (q : Nat) : SbF (w.drewN q) g S := ⟨h.lt, h.fz, h.c⟩
theorem SbF.drew {w : World} {g : Nat} {S : Nat → Int} (h : SbF w g S) : SbF w.drew g S := ⟨h.lt, h.fz, h.c⟩
theorem SbF.congr {w : World} {g : Nat} {S S' : Nat → Int} (h : SbF w g S) (e : ∀ j, j < 15 → S j = S' j) : SbF w g S' := ⟨h.lt, h.fz, fun j hj => by rw [← e j hj]; exact h.c j hj⟩
def sbl (c0 c1 c2 c3 r0 r1 r2 r3 ix sm b0 b1 b2 b3 ba : Int) (j : Nat) : Int := ([c0, c1, c2, c3, r0, r1, r2, r3, ix, sm, b0, b1, b2, b3, ba] : List Int).getD j 0
theorem Sb.f {w : World} {g : Nat} {c0 c1 c2 c3 r0 r1 r2 r3 ix sm b0 b1 b2 b3 ba : Int} (h : Sb w g c0 c1 c2 c3 r0 r1 r2 r3 ix sm b0 b1 b2 b3 ba) : SbF w g (sbl c0 c1 c2 c3 r0 r1 r2 r3 ix sm b0 b1 b2 b3 ba) where
  lt := h.lt
  fz := h.fz
  c := fun j hj => by
    match j, hj with
    | 0, _ => exact h.e0
    | 1, _ => exact h.e1
    | 2, _ => exact h.e2
    | 3, _ => exact h.e3
    | 4, _ => exact h.e4
    | 5, _ => exact h.e5
    | 6, _ => exact h.e6
    | 7, _ => exact h.e7
    | 8, _ => exact h.e8
    | 9, _ => exact h.e9
    | 10, _ => exact h.e10
    | 11, _ => exact h.e11
    | 12, _ => exact h.e12
    | 13, _ => exact h.e13
    | 14, _ => exact h.e14
theorem SbF.b {w : World} {g : Nat} {S : Nat → Int} (h : SbF w g S) : Sb w g (S 0) (S 1) (S 2) (S 3) (S 4) (S 5) (S 6) (S 7) (S 8) (S 9) (S 10) (S 11) (S 12) (S 13) (S 14) where
  lt := h.lt
  fz := h.fz
  e0 := h.c 0 (by omega)
  e1 := h.c 1 (by omega)
  e2 := h.c 2 (by omega)
  e3 := h.c 3 (by omega)
  e4 := h.c 4 (by omega)
  e5 := h.c 5 (by omega)
  e6 := h.c 6 (by omega)
  e7 := h.c 7 (by omega)
  e8 := h.c 8 (by omega)
  e9 := h.c 9 (by omega)
  e10 := h.c 10 (by omega)
  e11 := h.c 11 (by omega)
  e12 := h.c 12 (by omega)
  e13 := h.c 13 (by omega)
  e14 := h.c 14 (by omega)

def MeP (w : World) (g : Nat) (Q : World → Prop) (e : Ending) (w' : World) : Prop := e = .returned (.tuple #[]) ∧ Q w' ∧ w.grownBy w' (some g)
set_option maxHeartbeats 2000000 in
theorem bel_any (g : Nat) (c0 c1 c2 c3 r0 r1 r2 r3 ix sm b0 b1 b2 b3 ba : Int) (w : World) (hs : Sb w g c0 c1 c2 c3 r0 r1 r2 r3 ix sm b0 b1 b2 b3 ba) : Calls Try.prog 36 #[.pointer (some ⟨g, 0, none⟩)] w (MeP w g (fun w' => Sb w' g c0 c1 c2 c3 r0 r1 r2 r3 ix sm r0 r1 r2 r3 ix)) := by
  have HS := Lib.hid hs
  obtain ⟨sl, sf, e0, e1, e2, e3, e4, e5, e6, e7, e8, e9, e10, e11, e12, e13, e14⟩ := hs
  go_enter Try.func36, Try.ntmps36
  go_wp2
  go_region
  all_goals try go_wp2
  all_goals refine bodyPost_end (v := .tuple #[]) (by simp [results, Try.results36, go_sem]) rfl ?_
  all_goals exact ⟨rfl, (((((((HS.out.f.set 10 r0 (by omega)).set 11 r1 (by omega)).set 12 r2 (by omega)).set 13 r3 (by omega)).set 14 ix (by omega)).drew).b : Sb _ g _ _ _ _ _ _ _ _ _ _ _ _ _ _ _), grown_trans (grown_trans (grown_trans (grown_trans (grown_trans (set_grownQ _ _ _ _) (set_grownQ _ _ _ _)) (set_grownQ _ _ _ _)) (set_grownQ _ _ _ _)) (set_grownQ _ _ _ _)) (drew_grownQ _ _)⟩
set_option maxHeartbeats 2000000 in
theorem meet_miss (g : Nat) (c0 c1 c2 c3 r0 r1 r2 r3 ix sm b0 b1 b2 b3 ba i q0 q1 q2 q3 : Int) (w : World) (hs : Sb w g c0 c1 c2 c3 r0 r1 r2 r3 ix sm b0 b1 b2 b3 ba) (hq : q3 = 2) : Calls Try.prog 34 #[.pointer (some ⟨g, 0, none⟩), .int .i64 i, .agg #[.int .i64 q0, .int .i64 q1, .int .i64 q2, .int .i64 q3]] w (MeP w g (fun w' => Sb w' g c0 c1 c2 c3 q0 q1 q2 q3 i 0 b0 b1 b2 b3 ba)) := by
  have HS := Lib.hid hs
  obtain ⟨sl, sf, e0, e1, e2, e3, e4, e5, e6, e7, e8, e9, e10, e11, e12, e13, e14⟩ := hs
  subst hq
  go_enter Try.func34, Try.ntmps34
  go_wp2
  refine bodyPost_end (v := .tuple #[]) (by simp [results, Try.results34, go_sem]) rfl ?_
  exact ⟨rfl, ((((((((HS.out.f.set 9 0 (by omega)).set 4 q0 (by omega)).set 5 q1 (by omega)).set 6 q2 (by omega)).set 7 2 (by omega)).set 8 i (by omega)).alloc _).b : Sb _ g _ _ _ _ _ _ _ _ _ _ _ _ _ _ _), grown_trans (grown_trans (grown_trans (grown_trans (grown_trans (grown_trans (set_grownQ _ _ _ _) (set_grownQ _ _ _ _)) (set_grownQ _ _ _ _)) (set_grownQ _ _ _ _)) (set_grownQ _ _ _ _)) (set_grownQ _ _ _ _)) (World.grownBy_alloc _ _ _)⟩
set_option maxHeartbeats 2000000 in
theorem meet_same (g : Nat) (c0 c1 c2 c3 r0 r1 r2 r3 ix sm b0 b1 b2 b3 ba i q0 q1 q2 q3 : Int) (w : World) (hs : Sb w g c0 c1 c2 c3 r0 r1 r2 r3 ix sm b0 b1 b2 b3 ba) (hq : ¬ q3 = 2) (hv : q2 = r2) (hb : 0 ≤ sm ∧ sm ≤ 9223372036854775806) : Calls Try.prog 34 #[.pointer (some ⟨g, 0, none⟩), .int .i64 i, .agg #[.int .i64 q0, .int .i64 q1, .int .i64 q2, .int .i64 q3]] w (MeP w g (fun w' => Sb w' g c0 c1 c2 c3 q0 q1 q2 q3 i (sm + 1) b0 b1 b2 b3 ba)) := by
  have HS := Lib.hid hs
  obtain ⟨sl, sf, e0, e1, e2, e3, e4, e5, e6, e7, e8, e9, e10, e11, e12, e13, e14⟩ := hs
  have h1 : (q3 == 2) = false := by simp [hq]
  have h2 : (q2 == r2) = true := by simp [hv]
  clear hq hv
  go_enter Try.func34, Try.ntmps34
  go_wp2
  go_quiet (fail)
  go_wp2
  refine bodyPost_end (v := .tuple #[]) (by simp [results, Try.results34, go_sem]) rfl ?_
  exact ⟨rfl, (((((((((HS.out.f.alloc _).drewN _).set 9 (sm + 1) (by omega)).set 4 q0 (by omega)).set 5 q1 (by omega)).set 6 q2 (by omega)).set 7 q3 (by omega)).set 8 i (by omega)).b : Sb _ g _ _ _ _ _ _ _ _ _ _ _ _ _ _ _), grown_trans (grown_trans (World.grownBy_alloc _ _ _) (drewN_grownQ _ _ _)) (grown_trans (grown_trans (grown_trans (grown_trans (grown_trans (set_grownQ _ _ _ _) (set_grownQ _ _ _ _)) (set_grownQ _ _ _ _)) (set_grownQ _ _ _ _)) (set_grownQ _ _ _ _)) (set_grownQ _ _ _ _))⟩
set_option maxHeartbeats 2000000 in
theorem meet_new (g : Nat) (c0 c1 c2 c3 r0 r1 r2 r3 ix sm b0 b1 b2 b3 ba i q0 q1 q2 q3 : Int) (w : World) (hs : Sb w g c0 c1 c2 c3 r0 r1 r2 r3 ix sm b0 b1 b2 b3 ba) (hq : ¬ q3 = 2) (hv : ¬ q2 = r2) : Calls Try.prog 34 #[.pointer (some ⟨g, 0, none⟩), .int .i64 i, .agg #[.int .i64 q0, .int .i64 q1, .int .i64 q2, .int .i64 q3]] w (MeP w g (fun w' => Sb w' g c0 c1 c2 c3 q0 q1 q2 q3 i 1 b0 b1 b2 b3 ba)) := by
  have HS := Lib.hid hs
  obtain ⟨sl, sf, e0, e1, e2, e3, e4, e5, e6, e7, e8, e9, e10, e11, e12, e13, e14⟩ := hs
  have h1 : (q3 == 2) = false := by simp [hq]
  have h2 : (q2 == r2) = false := by simp [hv]
  clear hq hv
  go_enter Try.func34, Try.ntmps34
  go_wp2
  go_quiet (fail)
  go_wp2
  refine bodyPost_end (v := .tuple #[]) (by simp [results, Try.results34, go_sem]) rfl ?_
  exact ⟨rfl, (((((((((HS.out.f.alloc _).drewN _).set 9 1 (by omega)).set 4 q0 (by omega)).set 5 q1 (by omega)).set 6 q2 (by omega)).set 7 q3 (by omega)).set 8 i (by omega)).b : Sb _ g _ _ _ _ _ _ _ _ _ _ _ _ _ _ _), grown_trans (grown_trans (World.grownBy_alloc _ _ _) (drewN_grownQ _ _ _)) (grown_trans (grown_trans (grown_trans (grown_trans (grown_trans (set_grownQ _ _ _ _) (set_grownQ _ _ _ _)) (set_grownQ _ _ _ _)) (set_grownQ _ _ _ _)) (set_grownQ _ _ _ _)) (set_grownQ _ _ _ _))⟩
theorem meet_any (g : Nat) (c0 c1 c2 c3 r0 r1 r2 r3 ix sm b0 b1 b2 b3 ba i q0 q1 q2 q3 : Int) (w : World) (hs : Sb w g c0 c1 c2 c3 r0 r1 r2 r3 ix sm b0 b1 b2 b3 ba) (hb : 0 ≤ sm ∧ sm ≤ 9223372036854775806) : Calls Try.prog 34 #[.pointer (some ⟨g, 0, none⟩), .int .i64 i, .agg #[.int .i64 q0, .int .i64 q1, .int .i64 q2, .int .i64 q3]] w (MeP w g (fun w' => Sb w' g c0 c1 c2 c3 q0 q1 q2 q3 i (rnX q2 q3 r2 sm) b0 b1 b2 b3 ba)) := by
  unfold rnX
  by_cases h1 : q3 = 2
  · rw [if_pos h1]
    exact meet_miss g c0 c1 c2 c3 r0 r1 r2 r3 ix sm b0 b1 b2 b3 ba i q0 q1 q2 q3 w hs h1
  · rw [if_neg h1]
    by_cases h2 : q2 = r2
    · rw [if_pos h2]
      exact meet_same g c0 c1 c2 c3 r0 r1 r2 r3 ix sm b0 b1 b2 b3 ba i q0 q1 q2 q3 w hs h1 h2 hb
    · rw [if_neg h2]
      exact meet_new g c0 c1 c2 c3 r0 r1 r2 r3 ix sm b0 b1 b2 b3 ba i q0 q1 q2 q3 w hs h1 h2
end Go.Proofs.Ytkflgiopkopeeaa.Ql

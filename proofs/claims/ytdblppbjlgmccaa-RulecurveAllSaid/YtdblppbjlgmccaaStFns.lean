/-
  Contracts of the small functions of package storage.
-/
import Derived.Test.YtdblppbjlgmccaaStSort
import Derived.Test.YtdblppbjlgmccaaStRow
import Derived.Sort.AtCall
namespace Go.Proofs.Ytdblppbjlgmccaa.Cu
open Go.ChangeShapes Go.WideShapes Go.ChangeAt Go.RowKit
open Go.Shelf Go.Lib
set_option linter.unusedVariables false

/-- The cells of a reservoir in its box. -/
structure Bx (w : World) (k : Nat) (p : Option Addr) (n c : Nat) (D L F S C : Int) : Prop where
  c0 : w.cell? ⟨k, 0, none⟩ = some (.slice p n c)
  c1 : w.cell? ⟨k, 1, none⟩ = some (.int .i64 D)
  c2 : w.cell? ⟨k, 2, none⟩ = some (.int .i64 L)
  c3 : w.cell? ⟨k, 3, none⟩ = some (.int .i64 F)
  c4 : w.cell? ⟨k, 4, none⟩ = some (.int .i64 S)
  c5 : w.cell? ⟨k, 5, none⟩ = some (.int .i64 C)
theorem Bx.below {w w' : World} {B k : Nat} {p : Option Addr} {n c : Nat} {D L F S C : Int} (h : Bx w k p n c D L F S C) (hb : Below B w w') (hB : k < B) : Bx w' k p n c D L F S C :=
  ⟨(hb.cell (p := ⟨k, 0, none⟩) hB).trans h.c0, (hb.cell (p := ⟨k, 1, none⟩) hB).trans h.c1, (hb.cell (p := ⟨k, 2, none⟩) hB).trans h.c2, (hb.cell (p := ⟨k, 3, none⟩) hB).trans h.c3, (hb.cell (p := ⟨k, 4, none⟩) hB).trans h.c4, (hb.cell (p := ⟨k, 5, none⟩) hB).trans h.c5⟩
theorem bx_alloc (w : World) (p : Option Addr) (n c : Nat) (D L F S C : Int) (t : TypeId) : Bx (w.alloc (.cells #[.slice p n c, .int .i64 D, .int .i64 L, .int .i64 F, .int .i64 S, .int .i64 C] t)) w.heap.size p n c D L F S C :=
  ⟨by simp, by simp, by simp, by simp, by simp, by simp⟩
/-- Behind a call of a world in which the box was made last. -/
theorem bx_call {w w' : World} {o : Obj} {p : Option Addr} {n c : Nat} {D L F S C : Int} (h : Bx (w.alloc o) w.heap.size p n c D L F S C) (hb : Below (w.alloc o).heap.size (w.alloc o) w') : Bx w' w.heap.size p n c D L F S C := h.below hb (by simp)

theorem isl_any (x : Int) (w : World) : Calls Try.prog 47 #[.int .i64 x] w fun e w' => e = .returned (.bool (inB x 16777216)) ∧ w = w' := by
  by_cases h1 : 0 ≤ x <;> by_cases h2 : x ≤ 16777216
  all_goals
    go_enter Try.func47, Try.ntmps47
    go_wp2
    go_ret
    exact ⟨by simp [inB]; omega, rfl⟩
set_option maxHeartbeats 1600000 in
theorem lastOf_any (b off n m c : Nat) (X Y : Nat → Int) (D L F S C : Int) (w : World) (hn : n = m + 1) (hp : Pts w b off n X Y) (hm : m < 100) :
    Calls Try.prog 43 #[.agg #[.slice (some ⟨b, off, none⟩) n c, .int .i64 D, .int .i64 L, .int .i64 F, .int .i64 S, .int .i64 C]] w fun e w' => e = .returned (.agg #[.int .i64 (X m), .int .i64 (Y m)]) ∧ Below w.heap.size w w' := by
  have e1 : (n : Int) - 1 = (m : Int) := by omega
  have e2 : (m : Int) < (n : Int) := by omega
  obtain ⟨c1, c2⟩ := hp.2 m (by omega)
  have hb := hp.1
  have HB := Lib.hid hb
  generalize X m = x at *
  generalize Y m = y at *
  clear hp hn
  go_enter Try.func43, Try.ntmps43
  go_wp2
  exact bodyPost_ret (v := .agg #[.int .i64 x, .int .i64 y]) (by simp [results, Try.results43, go_sem]) rfl ⟨rfl, ((Below.refl w.heap.size w).alloc (Nat.le_refl _) _).alloc (by simp) _⟩

set_option maxHeartbeats 1600000 in
theorem rises_any (b off n m c : Nat) (X Y : Nat → Int) (w : World) (hn : n = m + 1) (hp : Pts w b off n X Y) (hm : m < 100) :
    Calls Try.prog 44 #[.slice (some ⟨b, off, none⟩) n c] w fun e w' => e = .returned (.bool (risB Y n)) ∧ ∃ q, w' = w.drewN q := by
  have HP := Lib.hid hp
  have HN := Lib.hid hn
  have hnm : (n : Int) = (m : Int) + 1 := by omega
  have HNM := Lib.hid hnm
  have n1 : 1 ≤ n := by omega
  have n2 : n ≤ 100 := by omega
  clear hp hn hnm
  go_enter Try.func44, Try.ntmps44
  go_wp2
  go_loopw [3] (fun s wr => ∃ i : Nat, 1 ≤ i ∧ i ≤ n ∧ s = .int .i64 i ∧ Hid (∀ j, j + 1 < i → Y j < Y (j + 1)) ∧ Hid (∃ q, wr = w.drewN q)) (fun s _ => n - (intOf s).toNat)
  case atStart => exact ⟨1, Nat.le_refl _, n1, rfl, fun j hj => by omega, 0, rfl⟩
  case round =>
    obtain ⟨i, hi, hin, rfl, hlo, q, rfl⟩ := hrel
    by_cases hi2 : i < n
    · have hi' : (i : Int) < (n : Int) := by omega
      have hw1 : IntKind.i64.wrap ((i : Int) - 1) = (i : Int) - 1 := by rw [IntKind.wrap_i64]; omega
      obtain ⟨k, hk⟩ : ∃ k, i = k + 1 := ⟨i - 1, by omega⟩
      have e3 : (i : Int) - 1 = (k : Int) := by omega
      have e4 : (k : Int) < (n : Int) := by omega
      have c1 := (HP.out.2 i hi2).2
      have c0 := (HP.out.2 k (by omega)).2
      have HK := Lib.hid hk
      clear hk HP hm hi2
      by_cases hy : Y i ≤ Y k
      · have d1 : decide (Y i ≤ Y k) = true := by rw [decide_eq_true_eq]; exact hy
        have er : risB Y n = false := by
          unfold risB; rw [decide_eq_false_iff_not]; intro hh
          have h1 := HN.out; have h2 := HK.out; subst h2
          have := hh k (by omega); omega
        have HE := Lib.hid er
        clear er hlo
        generalize Y i = y1 at *
        generalize Y k = y0 at *
        go_wp2_with fail
        go_quiet (fail)
        go_wp2
        go_ret
        exact ⟨congrArg (fun v => Ending.returned (.bool v)) HE.out.symm, _, World.drewN_drewN _ _ _⟩
      · have d1 : decide (Y i ≤ Y k) = false := by rw [decide_eq_false_iff_not]; exact hy
        have HY := Lib.hid hy
        have HL : Hid (∀ j, j + 1 < i + 1 → Y j < Y (j + 1)) := fun j hj => by
          have h2 := HK.out; have h3 := HY.out; subst h2
          by_cases e : j = k
          · subst e; omega
          · exact hlo.out j (by omega)
        clear hy hlo HY
        generalize Y i = y1 at d1 c1
        generalize Y k = y0 at d1 c0
        go_wp2_with fail
        go_quiet (fail)
        go_wp2
        go_roundw
        case rel => exact ⟨i + 1, by omega, by omega, by go_num, HL, _, rfl⟩
        case measure => simp [intOf]; omega
    · obtain rfl : i = n := by omega
      have er : risB Y i = true := by
        unfold risB; rw [decide_eq_true_eq]; exact fun j hj => hlo.out j (by omega)
      have HE := Lib.hid er
      clear er hlo HP HNM
      go_wp2
      go_ret
      exact ⟨congrArg (fun v => Ending.returned (.bool v)) HE.out.symm, _, rfl⟩

theorem volAt_any (b off n m c : Nat) (X Y : Nat → Int) (D L F S C l : Int) (w : World) (hn : n = m + 1) (hp : Pts w b off n X Y) (hc : Cur X Y m) :
    Calls Try.prog 48 #[.agg #[.slice (some ⟨b, off, none⟩) n c, .int .i64 D, .int .i64 L, .int .i64 F, .int .i64 S, .int .i64 C], .int .i64 l] w (RetB (val X Y m l) w) := by
  have HA := Lib.hid (fun W hp => at_any b off n m c X Y l W hn hp hc)
  have HP := Lib.hid hp
  generalize val X Y m l = v at *
  clear hn hp hc
  go_enter Try.func48, Try.ntmps48
  go_wp2_with (go_at_call 58; refine (HA.out _ (HP.out.alloc _)).mono ?_; rintro e w1 ⟨rfl, hb1⟩)
  go_ret
  exact ⟨rfl, ((Below.refl w.heap.size w).alloc (Nat.le_refl _) _).trans (hb1.mono (by simp))⟩

end Go.Proofs.Ytdblppbjlgmccaa.Cu

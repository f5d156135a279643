/-
  Contracts of inRange and checkLine of package curve, and of the closures of its searches.
-/
import Derived.Test.YtdcjgeebkinjlaaCuFns
import Derived.Test.YtdcjgeebkinjlaaCuMath
import Derived.Sort.Grow
namespace Go.Proofs.Ytdcjgeebkinjlaa.Cu
open Go.ChangeShapes Go.WideShapes Go.ChangeAt Go.RowKit
set_option linter.unusedVariables false

theorem inr_any (x y : Int) (w : World) :
    Calls Try.prog 32 #[.agg #[.int .i64 x, .int .i64 y]] w fun e w' => e = .returned (.bool (ptOk x y)) ∧ Below w.heap.size w w' := by
  by_cases h1 : 0 ≤ x
  · have d1 : decide (0 ≤ x) = true := by rw [decide_eq_true_eq]; exact h1
    by_cases h2 : x ≤ 1073741824
    · have d2 : decide (x ≤ 1073741824) = true := by rw [decide_eq_true_eq]; exact h2
      by_cases h3 : 0 ≤ y
      · have d3 : decide (0 ≤ y) = true := by rw [decide_eq_true_eq]; exact h3
        by_cases h4 : y ≤ 274877906944
        · have d4 : decide (y ≤ 274877906944) = true := by rw [decide_eq_true_eq]; exact h4
          have e : ptOk x y = true := by unfold ptOk; rw [decide_eq_true_eq]; omega
          rw [e]
          clear e
          go_enter Try.func32, Try.ntmps32
          go_wp2
          go_ret
          exact ⟨rfl, (Below.refl w.heap.size w).alloc (Nat.le_refl _) _⟩
        · have d4 : decide (y ≤ 274877906944) = false := by rw [decide_eq_false_iff_not]; exact h4
          have e : ptOk x y = false := by unfold ptOk; rw [decide_eq_false_iff_not]; omega
          rw [e]
          clear e
          go_enter Try.func32, Try.ntmps32
          go_wp2
          go_ret
          exact ⟨rfl, (Below.refl w.heap.size w).alloc (Nat.le_refl _) _⟩
      · have d3 : decide (0 ≤ y) = false := by rw [decide_eq_false_iff_not]; exact h3
        have e : ptOk x y = false := by unfold ptOk; rw [decide_eq_false_iff_not]; omega
        rw [e]
        clear e
        go_enter Try.func32, Try.ntmps32
        go_wp2
        go_ret
        exact ⟨rfl, (Below.refl w.heap.size w).alloc (Nat.le_refl _) _⟩
    · have d2 : decide (x ≤ 1073741824) = false := by rw [decide_eq_false_iff_not]; exact h2
      have e : ptOk x y = false := by unfold ptOk; rw [decide_eq_false_iff_not]; omega
      rw [e]
      clear e
      go_enter Try.func32, Try.ntmps32
      go_wp2
      go_ret
      exact ⟨rfl, (Below.refl w.heap.size w).alloc (Nat.le_refl _) _⟩
  · have d1 : decide (0 ≤ x) = false := by rw [decide_eq_false_iff_not]; exact h1
    have e : ptOk x y = false := by unfold ptOk; rw [decide_eq_false_iff_not]; omega
    rw [e]
    clear e
    go_enter Try.func32, Try.ntmps32
    go_wp2
    go_ret
    exact ⟨rfl, (Below.refl w.heap.size w).alloc (Nat.le_refl _) _⟩

set_option maxHeartbeats 800000 in
theorem vclo_any (i B1 B2 b off n c : Nat) (X : Nat → Int) (x : Int) (w : World) (h1 : w.cell? ⟨B1, 0, none⟩ = some (.slice (some ⟨b, off, none⟩) n c)) (h2 : w.cell? ⟨B2, 0, none⟩ = some (.int .i64 x))
    (hi : w.cell? ⟨b, off + i * 2, none⟩ = some (.int .i64 (X i))) (li : i < n) :
    Calls Try.prog 43 #[.int .i64 i, .pointer (some ⟨B1, 0, none⟩), .pointer (some ⟨B2, 0, none⟩)] w fun e w' => e = .returned (.bool (decide (x < X i))) ∧ ∃ q, w' = w.drewN q := by
  have li' : (i : Int) < (n : Int) := by omega
  go_enter Try.func43, Try.ntmps43
  go_wp2
  go_quiet (fail)
  go_wp2
  go_ret
  exact ⟨rfl, _, rfl⟩
end Go.Proofs.Ytdcjgeebkinjlaa.Cu

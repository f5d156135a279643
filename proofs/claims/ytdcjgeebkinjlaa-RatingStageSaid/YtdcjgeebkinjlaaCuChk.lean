/-
  Contracts of checkLine and Check of package curve.
-/
import Derived.Test.YtdcjgeebkinjlaaCuVal
namespace Go.Proofs.Ytdcjgeebkinjlaa.Cu
open Go.ChangeShapes Go.WideShapes Go.ChangeAt Go.RowKit
open Go.Shelf Go.Lib
set_option linter.unusedVariables false

def RetE (r : Int) (w : World) (e : Ending) (w' : World) : Prop := e = .returned (.int .i64 r) ∧ Below w.heap.size w w'

theorem bel2 (w : World) (o o' : Obj) : Below w.heap.size w ((w.alloc o).alloc o') := ((Below.refl w.heap.size w).alloc (Nat.le_refl _) _).alloc (by simp) _

set_option maxHeartbeats 1600000 in
theorem line_x (x y x' y' : Int) (w : World) (h : x' ≤ x) : Calls Try.prog 33 #[.agg #[.int .i64 x, .int .i64 y], .agg #[.int .i64 x', .int .i64 y']] w (RetE 4 w) := by
  have d1 : decide (x' ≤ x) = true := by rw [decide_eq_true_eq]; exact h
  go_enter Try.func33, Try.ntmps33
  go_wp2
  go_ret
  exact ⟨rfl, bel2 w _ _⟩

set_option maxHeartbeats 1600000 in
theorem line_y (x y x' y' : Int) (w : World) (h : ¬ x' ≤ x) (h2 : y' < y) : Calls Try.prog 33 #[.agg #[.int .i64 x, .int .i64 y], .agg #[.int .i64 x', .int .i64 y']] w (RetE 4 w) := by
  have d1 : decide (x' ≤ x) = false := by rw [decide_eq_false_iff_not]; exact h
  have d2 : decide (y' < y) = true := by rw [decide_eq_true_eq]; exact h2
  go_enter Try.func33, Try.ntmps33
  go_wp2
  go_ret
  exact ⟨rfl, bel2 w _ _⟩

theorem mul64 (a b : Int) (ha : 0 ≤ a) (ha2 : a ≤ 1073741824) (hb : 0 ≤ b) (hb2 : b ≤ 274877906944) (w : World) :
    Calls Try.prog 42 #[.int .u64 a, .int .u64 b] w fun e w' => e = .returned (.tuple #[.int .u64 (a * b / 18446744073709551616), .int .u64 (a * b % 18446744073709551616)]) ∧ w = w' := by
  obtain ⟨x, rfl⟩ : ∃ x : Nat, a = x := ⟨a.toNat, by omega⟩
  obtain ⟨y, rfl⟩ : ∃ y : Nat, b = y := ⟨b.toNat, by omega⟩
  have h := Any.bits_Mul64 Try.mulL x y (by omega) (by omega) w
  change Calls Try.prog 42 _ _ _ at h
  refine h.mono fun e w' ⟨he, hw⟩ => ⟨?_, hw.symm⟩
  rw [he, Int.natCast_ediv, Int.natCast_emod, Int.natCast_mul]
  rfl

set_option maxHeartbeats 1600000 in
theorem line_p (x y x' y' : Int) (w : World) (h1 : x < x') (h2 : y ≤ y') (b1 : 0 ≤ x) (b2 : x' ≤ 1073741824) (b3 : 0 ≤ y) (b4 : y' ≤ 274877906944) :
    Calls Try.prog 33 #[.agg #[.int .i64 x, .int .i64 y], .agg #[.int .i64 x', .int .i64 y']] w (RetE (if 4611686018427387904 < (x' - x) * (y' - y) then 1 else 0) w) := by
  have d1 : decide (x' ≤ x) = false := by rw [decide_eq_false_iff_not]; omega
  have d2 : decide (y' < y) = false := by rw [decide_eq_false_iff_not]; omega
  have HM := Lib.hid (fun W => mul64 (x' - x) (y' - y) (by omega) (by omega) (by omega) (by omega) W)
  have hpb := mul_bd (a := x' - x) (num := y' - y) (A := 1073741824) (B := 274877906944) (by omega) (by omega) (by omega) (by omega)
  have hdm := Int.mul_ediv_add_emod ((x' - x) * (y' - y)) 18446744073709551616
  have hm0 := Int.emod_nonneg ((x' - x) * (y' - y)) (show (18446744073709551616 : Int) ≠ 0 by omega)
  have hm1 := Int.emod_lt_of_pos ((x' - x) * (y' - y)) (show (0 : Int) < 18446744073709551616 by omega)
  generalize (x' - x) * (y' - y) = p at *
  generalize hq : p / 18446744073709551616 = hi at *
  generalize hr : p % 18446744073709551616 = lo at *
  have hq0 : 0 ≤ hi := by omega
  have hq1 : hi ≤ 16 := by omega
  by_cases hA : 0 < hi
  · rw [if_pos (by omega)]
    have d3 : decide (0 < hi) = true := by rw [decide_eq_true_eq]; exact hA
    clear hq hr hdm hpb
    go_enter Try.func33, Try.ntmps33
    go_wp2_with (go_at_call 42; refine (HM.out _).mono ?_; rintro e w' ⟨rfl, rfl⟩)
    go_ret
    exact ⟨rfl, bel2 w _ _⟩
  · have d3 : decide (0 < hi) = false := by rw [decide_eq_false_iff_not]; exact hA
    by_cases hB : 4611686018427387904 < lo
    · rw [if_pos (by omega)]
      have d4 : decide (4611686018427387904 < lo) = true := by rw [decide_eq_true_eq]; exact hB
      clear hq hr hdm hpb
      go_enter Try.func33, Try.ntmps33
      go_wp2_with (go_at_call 42; refine (HM.out _).mono ?_; rintro e w' ⟨rfl, rfl⟩)
      go_ret
      exact ⟨rfl, bel2 w _ _⟩
    · rw [if_neg (by omega)]
      have d4 : decide (4611686018427387904 < lo) = false := by rw [decide_eq_false_iff_not]; exact hB
      clear hq hr hdm hpb
      go_enter Try.func33, Try.ntmps33
      go_wp2_with (go_at_call 42; refine (HM.out _).mono ?_; rintro e w' ⟨rfl, rfl⟩)
      go_ret
      exact ⟨rfl, bel2 w _ _⟩

theorem line_any (x y x' y' : Int) (w : World) (h1 : ptOk x y = true) (h2 : ptOk x' y' = true) :
    Calls Try.prog 33 #[.agg #[.int .i64 x, .int .i64 y], .agg #[.int .i64 x', .int .i64 y']] w (RetE (lnC x y x' y') w) := by
  rw [ptOk_iff] at h1 h2
  unfold lnC
  by_cases h3 : x' ≤ x
  · rw [if_pos (.inl h3)]; exact line_x x y x' y' w h3
  by_cases h4 : y' < y
  · rw [if_pos (.inr h4)]; exact line_y x y x' y' w h3 h4
  · rw [if_neg (by omega)]
    exact line_p x y x' y' w (by omega) (by omega) h1.1 h2.2.1 h1.2.2.1 h2.2.2.2
end Go.Proofs.Ytdcjgeebkinjlaa.Cu

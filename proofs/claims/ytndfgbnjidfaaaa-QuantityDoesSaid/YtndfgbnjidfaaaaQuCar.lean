/-
  Contracts of Carry of layer 1 (package quantity and its reference).
-/
import Derived.Test.YtndfgbnjidfaaaaQuFns
namespace Go.Proofs.Ytndfgbnjidfaaaa.Qu
open Go.ChangeShapes Go.WideShapes Go.ChangeAt Go.RowKit
set_option linter.unusedVariables false

/-- P1.4: the result, what is carried on, and the error of Carry. -/
def car (a num den c : Int) : Int × Int × Int :=
  if ¬ (0 ≤ a ∧ a ≤ 274877906944) ∨ ¬ (0 ≤ num ∧ num ≤ 16777216) ∨ 274877906944 < den then (0, 0, 1)
  else if den < 1 then (0, 0, 2) else if ¬ (0 ≤ c ∧ c ≤ den - 1) then (0, 0, 3) else ((a * num + c) / den, (a * num + c) % den, 0)

def ThreeQ (a b c : Int) (w : World) (e : Ending) (w' : World) : Prop := e = .returned (.tuple #[.int .i64 a, .int .i64 b, .int .i64 c]) ∧ ∃ n, w' = w.drewN n

set_option maxHeartbeats 1600000 in
theorem carry_any (a num den c : Int) (w : World) (hd : -9223372036854775808 ≤ den ∧ den ≤ 9223372036854775807) (hc : -9223372036854775808 ≤ c ∧ c ≤ 9223372036854775807) :
    Calls Try.prog 14 #[.int .i64 a, .int .i64 num, .int .i64 den, .int .i64 c] w (ThreeQ (car a num den c).1 (car a num den c).2.1 (car a num den c).2.2 w) := by
  unfold car
  by_cases h1 : 0 ≤ a ∧ a ≤ 274877906944
  · have g1 := inB_yes h1
    by_cases h2 : 0 ≤ num ∧ num ≤ 16777216
    · have g2 := inB_yes h2
      by_cases h3 : 274877906944 < den
      · rw [if_pos (.inr (.inr h3))]
        clear h1 h2
        go_enter Try.func14, Try.ntmps14
        go_wp2_with (go_at_call 25; refine (fz_any _ _ _).mono ?_; rintro e w' ⟨rfl, rfl⟩)
        go_ret3
        exact ⟨rfl, 0, rfl⟩
      rw [if_neg (by omega)]
      by_cases h4 : den < 1
      · rw [if_pos h4]
        clear h1 h2
        go_enter Try.func14, Try.ntmps14
        go_wp2_with (go_at_call 25; refine (fz_any _ _ _).mono ?_; rintro e w' ⟨rfl, rfl⟩)
        go_ret3
        exact ⟨rfl, 0, rfl⟩
      rw [if_neg h4]
      by_cases h5 : 0 ≤ c ∧ c ≤ den - 1
      · have g5 := inB_yes h5
        rw [if_neg (by omega)]
        have hm := mul_bd h1.1 h1.2 h2.1 h2.2
        have hm2 : a * num ≤ 4611686018427387904 := by have := hm.2; omega
        have hm1 := hm.1
        have hq := div_bd (show 0 ≤ a * num + c by omega) (show 1 ≤ den by omega)
        have hr0 : 0 ≤ (a * num + c) % den := Int.emod_nonneg _ (by omega)
        have hr1 : (a * num + c) % den < den := Int.emod_lt_of_pos _ (by omega)
        have h6 : (den == 0) = false := by simp; omega
        have h7 : ¬ den = 0 := by omega
        clear h1 h2 hm
        go_enter Try.func14, Try.ntmps14
        go_wp2_with (go_at_call 25; refine (fz_any _ _ _).mono ?_; rintro e w' ⟨rfl, rfl⟩)
        go_quiet (fail)
        go_wp2
        go_ret3
        exact ⟨rfl, _, rfl⟩
      · have g5 := inB_no h5
        rw [if_pos h5]
        clear h1 h2 h5
        go_enter Try.func14, Try.ntmps14
        go_wp2_with (go_at_call 25; refine (fz_any _ _ _).mono ?_; rintro e w' ⟨rfl, rfl⟩)
        go_ret3
        exact ⟨rfl, 0, rfl⟩
    · have g2 := inB_no h2
      rw [if_pos (.inr (.inl h2))]
      clear h1 h2
      go_enter Try.func14, Try.ntmps14
      go_wp2_with (go_at_call 25; refine (fz_any _ _ _).mono ?_; rintro e w' ⟨rfl, rfl⟩)
      go_ret3
      exact ⟨rfl, 0, rfl⟩
  · have g1 := inB_no h1
    rw [if_pos (.inl h1)]
    clear h1
    go_enter Try.func14, Try.ntmps14
    go_wp2_with (go_at_call 25; refine (fz_any _ _ _).mono ?_; rintro e w' ⟨rfl, rfl⟩)
    go_ret3
    exact ⟨rfl, 0, rfl⟩

set_option maxHeartbeats 1600000 in
theorem rcarry_any (a num den c : Int) (w : World) (hd : -9223372036854775808 ≤ den ∧ den ≤ 9223372036854775807) (hc : -9223372036854775808 ≤ c ∧ c ≤ 9223372036854775807) :
    Calls Try.prog 15 #[.int .i64 a, .int .i64 num, .int .i64 den, .int .i64 c] w (ThreeQ (car a num den c).1 (car a num den c).2.1 (car a num den c).2.2 w) := by
  unfold car
  by_cases h1 : 0 ≤ a ∧ a ≤ 274877906944
  · have g1 := inB_yes h1
    by_cases h2 : 0 ≤ num ∧ num ≤ 16777216
    · have g2 := inB_yes h2
      by_cases h3 : 274877906944 < den
      · rw [if_pos (.inr (.inr h3))]
        clear h1 h2
        go_enter Try.func15, Try.ntmps15
        go_wp2_with (go_at_call 26; refine (in_any _ _ _).mono ?_; rintro e w' ⟨rfl, rfl⟩)
        go_ret3
        exact ⟨rfl, 0, rfl⟩
      rw [if_neg (by omega)]
      by_cases h4 : den < 1
      · rw [if_pos h4]
        clear h1 h2
        go_enter Try.func15, Try.ntmps15
        go_wp2_with (go_at_call 26; refine (in_any _ _ _).mono ?_; rintro e w' ⟨rfl, rfl⟩)
        go_ret3
        exact ⟨rfl, 0, rfl⟩
      rw [if_neg h4]
      by_cases h5 : 0 ≤ c ∧ c ≤ den - 1
      · have g5 := inB_yes h5
        rw [if_neg (by omega)]
        have hm := mul_bd h1.1 h1.2 h2.1 h2.2
        have hm2 : a * num ≤ 4611686018427387904 := by have := hm.2; omega
        have hm1 := hm.1
        have hq := div_bd (show 0 ≤ a * num + c by omega) (show 1 ≤ den by omega)
        have hr0 : 0 ≤ (a * num + c) % den := Int.emod_nonneg _ (by omega)
        have hr1 : (a * num + c) % den < den := Int.emod_lt_of_pos _ (by omega)
        have h6 : (den == 0) = false := by simp; omega
        have h7 : ¬ den = 0 := by omega
        clear h1 h2 hm
        go_enter Try.func15, Try.ntmps15
        go_wp2_with (go_at_call 26; refine (in_any _ _ _).mono ?_; rintro e w' ⟨rfl, rfl⟩)
        go_quiet (fail)
        go_wp2
        go_ret3
        exact ⟨rfl, _, rfl⟩
      · have g5 := inB_no h5
        rw [if_pos h5]
        clear h1 h2 h5
        go_enter Try.func15, Try.ntmps15
        go_wp2_with (go_at_call 26; refine (in_any _ _ _).mono ?_; rintro e w' ⟨rfl, rfl⟩)
        go_ret3
        exact ⟨rfl, 0, rfl⟩
    · have g2 := inB_no h2
      rw [if_pos (.inr (.inl h2))]
      clear h1 h2
      go_enter Try.func15, Try.ntmps15
      go_wp2_with (go_at_call 26; refine (in_any _ _ _).mono ?_; rintro e w' ⟨rfl, rfl⟩)
      go_ret3
      exact ⟨rfl, 0, rfl⟩
  · have g1 := inB_no h1
    rw [if_pos (.inl h1)]
    clear h1
    go_enter Try.func15, Try.ntmps15
    go_wp2_with (go_at_call 26; refine (in_any _ _ _).mono ?_; rintro e w' ⟨rfl, rfl⟩)
    go_ret3
    exact ⟨rfl, 0, rfl⟩
end Go.Proofs.Ytndfgbnjidfaaaa.Qu

/-
  Contracts of the small integer functions of layer 1 (package quantity, its reference, and Mod): what each returns; none of them changes the world.
-/
import Derived.Test.YtndfgbnjidfaaaaRows
import Derived.WalkKit
import Derived.ProofKit
import Derived.OpenShut
import Derived.Deep.QuietTactic
import Derived.BigQuiet
import Derived.Lib.Hide
namespace Go.Proofs.Ytndfgbnjidfaaaa.Qu
open Go.ChangeShapes Go.WideShapes Go.ChangeAt Go.RowKit
set_option linter.unusedVariables false

theorem ret_int {k : IntKind} {a b : Int} (h : a = b) : Ending.returned (.int k a) = .returned (.int k b) := by rw [h]

def md (n k : Int) : Int := n % k
theorem md_lo (n k : Int) (hk : 0 < k) : 0 ≤ md n k := Int.emod_nonneg _ (by omega)
theorem md_hi (n k : Int) (hk : 0 < k) : md n k < k := Int.emod_lt_of_pos _ hk

theorem tmod_add_emod (n k : Int) : (n.tmod k + k) % k = md n k := by
  unfold md
  rw [Int.add_emod_right, Int.tmod_def, Int.sub_mul_emod_self_left]

set_option maxHeartbeats 400000 in
theorem mod_any (n k : Int) (w : World) (hn : -9223372036854775808 ≤ n ∧ n ≤ 9223372036854775807) (hk : 1 ≤ k) (hk2 : k ≤ 4611686018427387904) :
    Calls Try.prog 9 #[.int .i64 n, .int .i64 k] w fun e w' => e = .returned (.int .i64 (md n k)) ∧ w = w' := by
  have h1 : -k < n.tmod k := Int.lt_tmod_of_pos n (by omega)
  have h2 : n.tmod k < k := Int.tmod_lt_of_pos n (by omega)
  have h3 : (k == 0) = false := by simp; omega
  go_enter Try.func9, Try.ntmps9
  go_wp2
  go_ret
  exact ⟨ret_int (tmod_add_emod n k), rfl⟩

/-- x is from 0 to most. -/
def inB (x most : Int) : Bool := decide (0 ≤ x ∧ x ≤ most)
theorem inB_yes {x most : Int} (h : 0 ≤ x ∧ x ≤ most) : inB x most = true := by simp [inB, h]
theorem inB_no {x most : Int} (h : ¬ (0 ≤ x ∧ x ≤ most)) : inB x most = false := by simp [inB, h]

theorem fz_any (most x : Int) (w : World) :
    Calls Try.prog 25 #[.int .i64 most, .int .i64 x] w fun e w' => e = .returned (.bool (inB x most)) ∧ w = w' := by
  by_cases h1 : 0 ≤ x <;> by_cases h2 : x ≤ most
  all_goals
    go_enter Try.func25, Try.ntmps25
    go_wp2
    go_ret
    exact ⟨by simp [inB]; omega, rfl⟩

theorem in_any (x most : Int) (w : World) :
    Calls Try.prog 26 #[.int .i64 x, .int .i64 most] w fun e w' => e = .returned (.bool (inB x most)) ∧ w = w' := by
  by_cases h1 : 0 ≤ x <;> by_cases h2 : x ≤ most
  all_goals
    go_enter Try.func26, Try.ntmps26
    go_wp2
    go_ret
    exact ⟨by simp [inB]; omega, rfl⟩

/-- P1.2: the result and the error of Scale. -/
def scl (a num den : Int) : Int × Int :=
  if ¬ (0 ≤ a ∧ a ≤ 274877906944) ∨ ¬ (0 ≤ num ∧ num ≤ 16777216) then (0, 1) else if den < 1 then (0, 2) else (a * num / den, 0)

theorem mul_bd {a num A B : Int} (h1 : 0 ≤ a) (h2 : a ≤ A) (h3 : 0 ≤ num) (h4 : num ≤ B) : 0 ≤ a * num ∧ a * num ≤ A * B :=
  ⟨Int.mul_nonneg h1 h3, Int.mul_le_mul h2 h4 h3 (by omega)⟩
theorem div_bd {x d : Int} (h0 : 0 ≤ x) (hd : 1 ≤ d) : 0 ≤ x / d ∧ x / d ≤ x :=
  ⟨Int.ediv_nonneg h0 (by omega), Int.ediv_le_self _ h0⟩

def Two (a b : Int) (w : World) (e : Ending) (w' : World) : Prop := e = .returned (.tuple #[.int .i64 a, .int .i64 b]) ∧ w = w'
def Three (a b c : Int) (w : World) (e : Ending) (w' : World) : Prop := e = .returned (.tuple #[.int .i64 a, .int .i64 b, .int .i64 c]) ∧ w = w'

set_option maxHeartbeats 400000 in
theorem scale_any (a num den : Int) (w : World) (hd : -9223372036854775808 ≤ den ∧ den ≤ 9223372036854775807) :
    Calls Try.prog 12 #[.int .i64 a, .int .i64 num, .int .i64 den] w (Two (scl a num den).1 (scl a num den).2 w) := by
  unfold scl
  by_cases h1 : 0 ≤ a ∧ a ≤ 274877906944
  · have g1 := inB_yes h1
    by_cases h2 : 0 ≤ num ∧ num ≤ 16777216
    · have g2 := inB_yes h2
      rw [if_neg (by omega)]
      by_cases h3 : den < 1
      · rw [if_pos h3]
        clear h1 h2
        go_enter Try.func12, Try.ntmps12
        go_wp2_with (go_at_call 25; refine (fz_any _ _ _).mono ?_; rintro e w' ⟨rfl, rfl⟩)
        go_ret2
        exact ⟨rfl, rfl⟩
      · rw [if_neg h3]
        have hm := mul_bd h1.1 h1.2 h2.1 h2.2
        have hm2 : a * num ≤ 4611686018427387904 := by have := hm.2; omega
        have hq := div_bd hm.1 (show 1 ≤ den by omega)
        have hm1 := hm.1
        have h4 : (den == 0) = false := by simp; omega
        clear h1 h2 hm
        go_enter Try.func12, Try.ntmps12
        go_wp2_with (go_at_call 25; refine (fz_any _ _ _).mono ?_; rintro e w' ⟨rfl, rfl⟩)
        go_ret2
        exact ⟨rfl, rfl⟩
    · have g2 := inB_no h2
      rw [if_pos (.inr h2)]
      clear h1 h2
      go_enter Try.func12, Try.ntmps12
      go_wp2_with (go_at_call 25; refine (fz_any _ _ _).mono ?_; rintro e w' ⟨rfl, rfl⟩)
      go_ret2
      exact ⟨rfl, rfl⟩
  · have g1 := inB_no h1
    rw [if_pos (.inl h1)]
    clear h1
    go_enter Try.func12, Try.ntmps12
    go_wp2_with (go_at_call 25; refine (fz_any _ _ _).mono ?_; rintro e w' ⟨rfl, rfl⟩)
    go_ret2
    exact ⟨rfl, rfl⟩

set_option maxHeartbeats 400000 in
theorem rscale_any (a num den : Int) (w : World) (hd : -9223372036854775808 ≤ den ∧ den ≤ 9223372036854775807) :
    Calls Try.prog 13 #[.int .i64 a, .int .i64 num, .int .i64 den] w (Two (scl a num den).1 (scl a num den).2 w) := by
  unfold scl
  by_cases h1 : 0 ≤ a ∧ a ≤ 274877906944
  · have g1 := inB_yes h1
    by_cases h2 : 0 ≤ num ∧ num ≤ 16777216
    · have g2 := inB_yes h2
      rw [if_neg (by omega)]
      by_cases h3 : den < 1
      · rw [if_pos h3]
        clear h1 h2
        go_enter Try.func13, Try.ntmps13
        go_wp2_with (go_at_call 26; refine (in_any _ _ _).mono ?_; rintro e w' ⟨rfl, rfl⟩)
        go_ret2
        exact ⟨rfl, rfl⟩
      · rw [if_neg h3]
        have hm := mul_bd h1.1 h1.2 h2.1 h2.2
        have hm2 : a * num ≤ 4611686018427387904 := by have := hm.2; omega
        have hq := div_bd hm.1 (show 1 ≤ den by omega)
        have hm1 := hm.1
        have h4 : (den == 0) = false := by simp; omega
        clear h1 h2 hm
        go_enter Try.func13, Try.ntmps13
        go_wp2_with (go_at_call 26; refine (in_any _ _ _).mono ?_; rintro e w' ⟨rfl, rfl⟩)
        go_ret2
        exact ⟨rfl, rfl⟩
    · have g2 := inB_no h2
      rw [if_pos (.inr h2)]
      clear h1 h2
      go_enter Try.func13, Try.ntmps13
      go_wp2_with (go_at_call 26; refine (in_any _ _ _).mono ?_; rintro e w' ⟨rfl, rfl⟩)
      go_ret2
      exact ⟨rfl, rfl⟩
  · have g1 := inB_no h1
    rw [if_pos (.inl h1)]
    clear h1
    go_enter Try.func13, Try.ntmps13
    go_wp2_with (go_at_call 26; refine (in_any _ _ _).mono ?_; rintro e w' ⟨rfl, rfl⟩)
    go_ret2
    exact ⟨rfl, rfl⟩

end Go.Proofs.Ytndfgbnjidfaaaa.Qu

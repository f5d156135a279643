/-
  Contracts of the small integer functions of layer 1 (package quantity, its reference, and Mod): what each returns; none of them changes the world.
-/
import Derived.Test.YtbcjigociliflaaRows
import Derived.WalkKit
import Derived.ProofKit
import Derived.OpenShut
import Derived.Deep.QuietTactic
import Derived.BigQuiet
import Derived.Lib.Hide
namespace Go.Proofs.Ytbcjigociliflaa.Qu
open Go.ChangeShapes Go.WideShapes Go.ChangeAt Go.RowKit
set_option linter.unusedVariables false

theorem ret_int {k : IntKind} {a b : Int} (h : a = b) : Ending.returned (.int k a) = .returned (.int k b) := by rw [h]

def md (n k : Int) : Int := n % k
theorem md_lo (n k : Int) (hk : 0 < k) : 0 ≤ md n k := Int.emod_nonneg _ (by omega)
theorem md_hi (n k : Int) (hk : 0 < k) : md n k < k := Int.emod_lt_of_pos _ hk

theorem tmod_add_emod (n k : Int) : (n.tmod k + k) % k = md n k := by
  unfold md
  rw [Int.add_emod_right, Int.tmod_def, Int.sub_mul_emod_self_left]

set_option maxHeartbeats 400000 in
theorem mod_any (n k : Int) (w : World) (hn : -9223372036854775808 ≤ n ∧ n ≤ 9223372036854775807) (hk : 1 ≤ k) (hk2 : k ≤ 4611686018427387904) :
    Calls Try.prog 16 #[.int .i64 n, .int .i64 k] w fun e w' => e = .returned (.int .i64 (md n k)) ∧ w = w' := by
  have h1 : -k < n.tmod k := Int.lt_tmod_of_pos n (by omega)
  have h2 : n.tmod k < k := Int.tmod_lt_of_pos n (by omega)
  have h3 : (k == 0) = false := by simp; omega
  go_enter Try.func16, Try.ntmps16
  go_wp2
  go_ret
  exact ⟨ret_int (tmod_add_emod n k), rfl⟩

/-- x is from 0 to most. -/
def inB (x most : Int) : Bool := decide (0 ≤ x ∧ x ≤ most)
theorem inB_yes {x most : Int} (h : 0 ≤ x ∧ x ≤ most) : inB x most = true := by simp [inB, h]
theorem inB_no {x most : Int} (h : ¬ (0 ≤ x ∧ x ≤ most)) : inB x most = false := by simp [inB, h]

theorem fz_any (most x : Int) (w : World) :
    Calls Try.prog 44 #[.int .i64 most, .int .i64 x] w fun e w' => e = .returned (.bool (inB x most)) ∧ w = w' := by
  by_cases h1 : 0 ≤ x <;> by_cases h2 : x ≤ most
  all_goals
    go_enter Try.func44, Try.ntmps44
    go_wp2
    go_ret
    exact ⟨by simp [inB]; omega, rfl⟩

theorem in_any (x most : Int) (w : World) :
    Calls Try.prog 36 #[.int .i64 x, .int .i64 most] w fun e w' => e = .returned (.bool (inB x most)) ∧ w = w' := by
  by_cases h1 : 0 ≤ x <;> by_cases h2 : x ≤ most
  all_goals
    go_enter Try.func36, Try.ntmps36
    go_wp2
    go_ret
    exact ⟨by simp [inB]; omega, rfl⟩

/-- P1.2: the result and the error of Scale. -/
def scl (a num den : Int) : Int × Int :=
  if ¬ (0 ≤ a ∧ a ≤ 274877906944) ∨ ¬ (0 ≤ num ∧ num ≤ 16777216) then (0, 1) else if den < 1 then (0, 2) else (a * num / den, 0)

theorem mul_bd {a num A B : Int} (h1 : 0 ≤ a) (h2 : a ≤ A) (h3 : 0 ≤ num) (h4 : num ≤ B) : 0 ≤ a * num ∧ a * num ≤ A * B :=
  ⟨Int.mul_nonneg h1 h3, Int.mul_le_mul h2 h4 h3 (by omega)⟩
theorem div_bd {x d : Int} (h0 : 0 ≤ x) (hd : 1 ≤ d) : 0 ≤ x / d ∧ x / d ≤ x :=
  ⟨Int.ediv_nonneg h0 (by omega), Int.ediv_le_self _ h0⟩

def Two (a b : Int) (w : World) (e : Ending) (w' : World) : Prop := e = .returned (.tuple #[.int .i64 a, .int .i64 b]) ∧ w = w'
def Three (a b c : Int) (w : World) (e : Ending) (w' : World) : Prop := e = .returned (.tuple #[.int .i64 a, .int .i64 b, .int .i64 c]) ∧ w = w'

end Go.Proofs.Ytbcjigociliflaa.Qu

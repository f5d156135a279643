/-
  Contracts of the small integer functions that piecewise linear functions use: Mod, Floor, floor, in.
-/
import Derived.Test.YtbcjigociliflaaRows
import Derived.WalkKit
import Derived.ProofKit
import Derived.OpenShut
import Derived.Deep.QuietTactic
import Derived.BigQuiet
import Derived.Lib.Hide
namespace Go.Proofs.Ytbcjigociliflaa.Cu
open Go.ChangeShapes Go.WideShapes Go.ChangeAt Go.RowKit
set_option linter.unusedVariables false

theorem ret_int {k : IntKind} {a b : Int} (h : a = b) : Ending.returned (.int k a) = .returned (.int k b) := by rw [h]

def md (n k : Int) : Int := n % k
theorem md_lo (n k : Int) (hk : 0 < k) : 0 ≤ md n k := Int.emod_nonneg _ (by omega)
theorem md_hi (n k : Int) (hk : 0 < k) : md n k < k := Int.emod_lt_of_pos _ hk

theorem tmod_add_emod (n k : Int) : (n.tmod k + k) % k = md n k := by
  unfold md
  rw [Int.add_emod_right, Int.tmod_def, Int.sub_mul_emod_self_left]

set_option maxHeartbeats 400000 in
theorem mod_any (n k : Int) (w : World) (hn : -9223372036854775808 ≤ n ∧ n ≤ 9223372036854775807) (hk : 1 ≤ k) (hk2 : k ≤ 4611686018427387904) :
    Calls Try.prog 16 #[.int .i64 n, .int .i64 k] w fun e w' => e = .returned (.int .i64 (md n k)) ∧ w = w' := by
  have h1 : -k < n.tmod k := Int.lt_tmod_of_pos n (by omega)
  have h2 : n.tmod k < k := Int.tmod_lt_of_pos n (by omega)
  have h3 : (k == 0) = false := by simp; omega
  go_enter Try.func16, Try.ntmps16
  go_wp2
  go_ret
  exact ⟨ret_int (tmod_add_emod n k), rfl⟩

/-- x is from 0 to most. -/
def inB (x most : Int) : Bool := decide (0 ≤ x ∧ x ≤ most)
theorem inB_yes {x most : Int} (h : 0 ≤ x ∧ x ≤ most) : inB x most = true := by simp [inB, h]
theorem inB_no {x most : Int} (h : ¬ (0 ≤ x ∧ x ≤ most)) : inB x most = false := by simp [inB, h]

theorem in_any (x most : Int) (w : World) :
    Calls Try.prog 36 #[.int .i64 x, .int .i64 most] w fun e w' => e = .returned (.bool (inB x most)) ∧ w = w' := by
  by_cases h1 : 0 ≤ x <;> by_cases h2 : x ≤ most
  all_goals
    go_enter Try.func36, Try.ntmps36
    go_wp2
    go_ret
    exact ⟨by simp [inB]; omega, rfl⟩

theorem mul_bd {a num A B : Int} (h1 : 0 ≤ a) (h2 : a ≤ A) (h3 : 0 ≤ num) (h4 : num ≤ B) : 0 ≤ a * num ∧ a * num ≤ A * B :=
  ⟨Int.mul_nonneg h1 h3, Int.mul_le_mul h2 h4 h3 (by omega)⟩
theorem div_bd {x d : Int} (h0 : 0 ≤ x) (hd : 1 ≤ d) : 0 ≤ x / d ∧ x / d ≤ x :=
  ⟨Int.ediv_nonneg h0 (by omega), Int.ediv_le_self _ h0⟩

def Two (a b : Int) (w : World) (e : Ending) (w' : World) : Prop := e = .returned (.tuple #[.int .i64 a, .int .i64 b]) ∧ w = w'
def Three (a b c : Int) (w : World) (e : Ending) (w' : World) : Prop := e = .returned (.tuple #[.int .i64 a, .int .i64 b, .int .i64 c]) ∧ w = w'

/-- P1.1: the result and the error of Floor. -/
def flr (a b : Int) : Int × Int :=
  if b = 0 then (0, 2) else if a ≤ -9223372036854775808 ∧ b = -1 then (0, 1)
  else if a.tmod b ≠ 0 ∧ (a < 0 ∧ 0 < b ∨ 0 ≤ a ∧ b < 0) then (a.tdiv b - 1, 0) else (a.tdiv b, 0)

theorem tdiv_bd (a b : Int) (ha : -9223372036854775808 ≤ a ∧ a ≤ 9223372036854775807) (hb : b ≠ 0) (hx : ¬ (a ≤ -9223372036854775808 ∧ b = -1)) :
    -9223372036854775808 ≤ a.tdiv b ∧ a.tdiv b ≤ 9223372036854775807 := by
  by_cases h1 : b = 1
  · subst h1; rw [Int.tdiv_one]; exact ha
  by_cases h2 : b = -1
  · subst h2; rw [Int.tdiv_neg, Int.tdiv_one]; omega
  have hn : (a.tdiv b).natAbs = a.natAbs / b.natAbs := Int.natAbs_tdiv a b
  have h3 : 2 ≤ b.natAbs := by omega
  have h4 : a.natAbs / b.natAbs ≤ a.natAbs / 2 := Nat.div_le_div_left h3 (by omega)
  omega

theorem tdiv_bd2 (a b : Int) (ha : -9223372036854775808 ≤ a ∧ a ≤ 9223372036854775807) (hb : b ≠ 0) (hm : a.tmod b ≠ 0) :
    -9223372036854775808 ≤ a.tdiv b - 1 ∧ a.tdiv b ≤ 9223372036854775807 := by
  by_cases h1 : b = 1
  · subst h1; simp at hm
  by_cases h2 : b = -1
  · subst h2; simp at hm
  have hn : (a.tdiv b).natAbs = a.natAbs / b.natAbs := Int.natAbs_tdiv a b
  have h3 : 2 ≤ b.natAbs := by omega
  have h4 : a.natAbs / b.natAbs ≤ a.natAbs / 2 := Nat.div_le_div_left h3 (by omega)
  omega

theorem tmod_bd (a b : Int) (ha : -9223372036854775808 ≤ a ∧ a ≤ 9223372036854775807) : -9223372036854775808 ≤ a.tmod b ∧ a.tmod b ≤ 9223372036854775807 := by
  have hn : (a.tmod b).natAbs = a.natAbs % b.natAbs := Int.natAbs_tmod a b
  have h4 : a.natAbs % b.natAbs ≤ a.natAbs := Nat.mod_le _ _
  have hs : 0 ≤ a → 0 ≤ a.tmod b := fun h => Int.tmod_nonneg b h
  have hs2 : a ≤ 0 → a.tmod b ≤ 0 := fun h => by have := Int.tmod_nonneg (a := -a) b (by omega); rw [Int.neg_tmod] at this; omega
  omega

theorem tmod_neg_of (a b : Int) (h : a < 0) (hm : a.tmod b ≠ 0) : a.tmod b < 0 := by
  have := Int.tmod_nonneg (a := -a) b (by omega); rw [Int.neg_tmod] at this; omega
theorem tmod_pos_of (a b : Int) (h : 0 ≤ a) (hm : a.tmod b ≠ 0) : 0 < a.tmod b := by
  have := Int.tmod_nonneg (a := a) b h; omega

set_option maxHeartbeats 1600000 in
theorem floor_any (a b : Int) (w : World) (ha : -9223372036854775808 ≤ a ∧ a ≤ 9223372036854775807) (hb : -9223372036854775808 ≤ b ∧ b ≤ 9223372036854775807) :
    Calls Try.prog 39 #[.int .i64 a, .int .i64 b] w (Two (flr a b).1 (flr a b).2 w) := by
  unfold flr
  by_cases h0 : b = 0
  · subst h0
    go_enter Try.func39, Try.ntmps39
    go_wp2
    go_ret2
    exact ⟨rfl, rfl⟩
  rw [if_neg h0]
  have e0 : (b == 0) = false := by simpa using h0
  by_cases hx : a ≤ -9223372036854775808 ∧ b = -1
  · rw [if_pos hx]
    obtain rfl : a = -9223372036854775808 := by omega
    obtain rfl : b = -1 := hx.2
    clear hx h0 e0 ha hb
    go_enter Try.func39, Try.ntmps39
    go_wp2
    go_ret2
    exact ⟨rfl, rfl⟩
  rw [if_neg hx]
  have hq := tdiv_bd a b ha h0 hx
  have hr := tmod_bd a b ha
  have e9 : ((a == -9223372036854775808) = true ∧ (b == -1) = false ∧ a < 0) ∨ (a == -9223372036854775808) = false := by
    by_cases h : a = -9223372036854775808
    · exact .inl ⟨by simp [h], by simp; omega, by omega⟩
    · exact .inr (by simp [h])
  clear hx
  by_cases hm : a.tmod b = 0
  · rw [if_neg (by simp [hm])]
    have e1 : (a.tmod b != 0) = false := by simp [hm]
    rcases e9 with ⟨e9, e8, s1⟩ | e9
    · clear hm
      go_enter Try.func39, Try.ntmps39
      go_wp2
      go_ret2
      exact ⟨rfl, rfl⟩
    by_cases h8 : b = -1
    · subst h8
      have e7 : -9223372036854775808 < a := by simp at e9; omega
      have e6 : a.tdiv (-1) = -a := by rw [Int.tdiv_neg, Int.tdiv_one]
      clear hm e1 hq hr h0 e0 hb
      have H6 := Lib.hid e6
      clear e6
      go_enter Try.func39, Try.ntmps39
      go_wp2
      go_ret2
      exact ⟨by rw [H6.out]; rfl, rfl⟩
    have e8 : (b == -1) = false := by simpa using h8
    clear h8
    by_cases s1 : 0 ≤ a
    · have e1' : (a % b != 0) = false := by rw [← Int.tmod_eq_emod_of_nonneg s1]; exact e1
      clear hm
      go_enter Try.func39, Try.ntmps39
      go_wp2
      go_ret2
      exact ⟨rfl, rfl⟩
    · clear hm
      go_enter Try.func39, Try.ntmps39
      go_wp2
      go_ret2
      exact ⟨rfl, rfl⟩
  have e1 : (a.tmod b != 0) = true := by simp [hm]
  have hq2 := tdiv_bd2 a b ha h0 hm
  have e8 : (b == -1) = false := by
    simp only [beq_eq_false_iff_ne, ne_eq]
    intro h; subst h; simp at hm
  rcases e9 with ⟨e9, _, s1⟩ | e9
  · have t1 := tmod_neg_of a b s1 hm
    have da : decide (a < 0) = true := by simpa using s1
    have dr : decide (a.tmod b < 0) = true := by simpa using t1
    by_cases s2 : 0 < b
    · rw [if_pos ⟨hm, .inl ⟨s1, s2⟩⟩]
      have db : decide (b < 0) = false := by simp; omega
      clear hm
      go_enter Try.func39, Try.ntmps39
      go_wp2
      go_ret2
      exact ⟨rfl, rfl⟩
    · rw [if_neg (by omega)]
      have db : decide (b < 0) = true := by simp; omega
      clear hm
      go_enter Try.func39, Try.ntmps39
      go_wp2
      go_ret2
      exact ⟨rfl, rfl⟩
  by_cases s1 : 0 ≤ a
  · have t1 := tmod_pos_of a b s1 hm
    have e1' : (a % b != 0) = true := by rw [← Int.tmod_eq_emod_of_nonneg s1]; exact e1
    have t1' : 0 < a % b := by rw [← Int.tmod_eq_emod_of_nonneg s1]; exact t1
    have da : decide (a < 0) = false := by simpa using s1
    have dr : decide (a % b < 0) = false := by simp; omega
    by_cases s2 : 0 < b
    · rw [if_neg (by omega)]
      have db : decide (b < 0) = false := by simp; omega
      clear hm
      go_enter Try.func39, Try.ntmps39
      go_wp2
      go_ret2
      exact ⟨rfl, rfl⟩
    · rw [if_pos ⟨hm, .inr ⟨s1, by omega⟩⟩]
      have db : decide (b < 0) = true := by simp; omega
      clear hm
      go_enter Try.func39, Try.ntmps39
      go_wp2
      go_ret2
      exact ⟨rfl, rfl⟩
  · have t1 := tmod_neg_of a b (by omega) hm
    have da : decide (a < 0) = true := by simp; omega
    have dr : decide (a.tmod b < 0) = true := by simpa using t1
    by_cases s2 : 0 < b
    · rw [if_pos ⟨hm, .inl ⟨by omega, s2⟩⟩]
      have db : decide (b < 0) = false := by simp; omega
      clear hm
      go_enter Try.func39, Try.ntmps39
      go_wp2
      go_ret2
      exact ⟨rfl, rfl⟩
    · rw [if_neg (by omega)]
      have db : decide (b < 0) = true := by simp; omega
      clear hm
      go_enter Try.func39, Try.ntmps39
      go_wp2
      go_ret2
      exact ⟨rfl, rfl⟩


theorem flr_pos (a b : Int) (h : 1 ≤ b) : flr a b = (a / b, 0) := by
  unfold flr
  rw [if_neg (by omega), if_neg (by omega)]
  have h1 := Int.mul_tdiv_add_tmod a b
  have h2 : a.tmod b < b := Int.tmod_lt_of_pos a (by omega)
  have h3 : -b < a.tmod b := Int.lt_tmod_of_pos a (by omega)
  by_cases hc : a.tmod b ≠ 0 ∧ (a < 0 ∧ 0 < b ∨ 0 ≤ a ∧ b < 0)
  · rw [if_pos hc]
    have h4 := tmod_neg_of a b (by omega) hc.1
    have e : a = (a.tmod b + b) + b * (a.tdiv b - 1) := by rw [Int.mul_sub, Int.mul_one]; omega
    have h5 : a / b = a.tdiv b - 1 := by
      have h6 : a / b = ((a.tmod b + b) + b * (a.tdiv b - 1)) / b := by rw [← e]
      rw [h6, Int.add_mul_ediv_left _ _ (by omega), Int.ediv_eq_zero_of_lt (by omega) (by omega)]; omega
    rw [h5]
  · rw [if_neg hc]
    have h4 : 0 ≤ a.tmod b := by
      by_cases h0 : 0 ≤ a
      · exact Int.tmod_nonneg b h0
      · by_cases hz : a.tmod b = 0
        · omega
        · exact absurd ⟨hz, .inl ⟨by omega, by omega⟩⟩ hc
    have e : a = a.tmod b + b * a.tdiv b := by omega
    have h5 : a / b = a.tdiv b := by
      have h6 : a / b = (a.tmod b + b * a.tdiv b) / b := by rw [← e]
      rw [h6, Int.add_mul_ediv_left _ _ (by omega), Int.ediv_eq_zero_of_lt (by omega) (by omega)]; omega
    rw [h5]

end Go.Proofs.Ytbcjigociliflaa.Cu

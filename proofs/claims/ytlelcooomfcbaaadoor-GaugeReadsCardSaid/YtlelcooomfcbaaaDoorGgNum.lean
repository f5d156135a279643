/-
  The bytes of a text; the contract of Number of the reference of chapter 6.
-/
import Derived.Test.YtlelcooomfcbaaaDoorGgFns
namespace Go.Proofs.YtlelcooomfcbaaaDoor.Gg
open Go.ChangeShapes Go.WideShapes Go.ChangeAt Go.RowKit
set_option linter.unusedVariables false

/-- Byte i of a text. -/
def sB (s : ByteArray) (i : Nat) : Int := if h : i < s.size then (s[i].toNat : Int) else 0
theorem sB_eq (s : ByteArray) (i : Nat) (h : i < s.size) : sB s i = (s[i].toNat : Int) := by unfold sB; rw [dif_pos h]
theorem sB_bt (s : ByteArray) (n : Nat) : Bt (sB s) n := fun i _ => by
  unfold sB
  split
  · rename_i h
    have := s[i].toNat_lt
    omega
  · omega

/-- The number that the first k bytes write. -/
def nuV (B : Nat → Int) : Nat → Int
  | 0 => 0
  | k + 1 => 10 * nuV B k + (B k - 48)
/-- The first n bytes are digits. -/
def Dg (B : Nat → Int) (n : Nat) : Prop := ∀ i, i < n → 48 ≤ B i ∧ B i ≤ 57
theorem nuV_bd (B : Nat → Int) : ∀ k, Dg B k → 0 ≤ nuV B k ∧ nuV B k < 10 ^ k
  | 0, _ => ⟨Int.le_refl _, by simp [nuV]⟩
  | k + 1, h => by
    obtain ⟨h1, h2⟩ := nuV_bd B k (fun i hi => h i (by omega))
    have h3 := h k (by omega)
    have e : (10 : Int) ^ (k + 1) = 10 * 10 ^ k := by rw [Int.pow_succ]; omega
    unfold nuV
    rw [e]
    omega
theorem pow10_le (k : Nat) (h : k ≤ 10) : (10 : Int) ^ k ≤ 10000000000 := by
  have hc : k = 0 ∨ k = 1 ∨ k = 2 ∨ k = 3 ∨ k = 4 ∨ k = 5 ∨ k = 6 ∨ k = 7 ∨ k = 8 ∨ k = 9 ∨ k = 10 := by omega
  rcases hc with rfl | rfl | rfl | rfl | rfl | rfl | rfl | rfl | rfl | rfl | rfl <;> decide
theorem nuV_le (B : Nat → Int) (k : Nat) (hk : k ≤ 10) (h : Dg B k) : 0 ≤ nuV B k ∧ nuV B k ≤ 9999999999 := by
  obtain ⟨h1, h2⟩ := nuV_bd B k h
  have := pow10_le k hk
  omega
instance (B : Nat → Int) (n : Nat) : Decidable (Dg B n) := by unfold Dg; infer_instance
/-- A text of n bytes is a number of 1 to 10 digits; the number. -/
def nuB (B : Nat → Int) (n : Nat) : Bool := decide (1 ≤ n ∧ n ≤ 10 ∧ Dg B n)
def nuN (B : Nat → Int) (n : Nat) : Int := if nuB B n = true then nuV B n else 0
theorem nuB_yes {B : Nat → Int} {n : Nat} (h1 : 1 ≤ n) (h2 : n ≤ 10) (h : Dg B n) : nuB B n = true ∧ nuN B n = nuV B n := by
  have e : nuB B n = true := by unfold nuB; rw [decide_eq_true_eq]; exact ⟨h1, h2, h⟩
  exact ⟨e, by unfold nuN; rw [if_pos e]⟩
theorem nuB_no {B : Nat → Int} {n : Nat} (h : ¬ (1 ≤ n ∧ n ≤ 10 ∧ Dg B n)) : nuB B n = false ∧ nuN B n = 0 := by
  have e : nuB B n = false := by unfold nuB; rw [decide_eq_false_iff_not]; exact h
  exact ⟨e, by unfold nuN; rw [e]; rfl⟩
theorem nuN_bd (B : Nat → Int) (n : Nat) : 0 ≤ nuN B n ∧ nuN B n ≤ 9999999999 := by
  by_cases h : 1 ≤ n ∧ n ≤ 10 ∧ Dg B n
  · rw [(nuB_yes h.1 h.2.1 h.2.2).2]; exact nuV_le B n h.2.1 h.2.2
  · rw [(nuB_no h).2]; omega
def RtN (v : Int) (b : Bool) (w : World) (e : Ending) (w' : World) : Prop := e = .returned (.tuple #[.int .i64 v, .bool b]) ∧ w = w'

set_option maxHeartbeats 2000000 in
theorem num_some (s : ByteArray) (w : World) (h1 : 1 ≤ s.size) (h2 : s.size ≤ 10) : Calls Tryd.prog 64 #[.string s] w (RtN (nuN (sB s) s.size) (nuB (sB s) s.size) w) := by
  have n1 : (1 : Int) ≤ (s.size : Int) := by omega
  have n2 : (s.size : Int) ≤ 10 := by omega
  have d1 : decide ((s.size : Int) < 1) = false := by rw [decide_eq_false_iff_not]; omega
  have d2 : decide ((10 : Int) < (s.size : Int)) = false := by rw [decide_eq_false_iff_not]; omega
  go_enter Tryd.func64, Tryd.ntmps64
  go_wp2
  go_loop [4, 5] (fun nv i => ∃ (k : Nat) (sv : Int), k ≤ s.size ∧ nv = .int .i64 sv ∧ i = .int .i64 k ∧ Hid (Dg (sB s) k) ∧ Hid (sv = nuV (sB s) k)) (fun _ i => s.size - (intOf i).toNat)
  case atStart => exact ⟨0, 0, Nat.zero_le _, rfl, rfl, fun i hi => absurd hi (Nat.not_lt_zero _), rfl⟩
  case round =>
    obtain ⟨k, sv, hk, rfl, rfl, hd, hs⟩ := hrel
    by_cases hkn : k < s.size
    · have hki : (k : Int) < (s.size : Int) := by omega
      obtain ⟨s0, s1⟩ := nuV_le (sB s) k (by omega) hd.out
      rw [← hs.out] at s0 s1
      have hx := sB_eq s k hkn
      by_cases hlo : sB s k < 48
      · have e1 : decide ((s[k].toNat : Int) < 48) = true := by rw [decide_eq_true_eq]; omega
        have e1' : (s[k].toNat : Int) < 48 := by omega
        have HR := Lib.hid (nuB_no (B := sB s) (n := s.size) (fun h => by have := h.2.2 k hkn; omega))
        clear hx hlo
        go_wp2
        go_ret2
        exact ⟨by rw [HR.out.1, HR.out.2]; rfl, rfl⟩
      · have e1 : decide ((s[k].toNat : Int) < 48) = false := by rw [decide_eq_false_iff_not]; omega
        have e1' : ¬ (s[k].toNat : Int) < 48 := by omega
        by_cases hhi : 57 < sB s k
        · have e2 : decide (57 < (s[k].toNat : Int)) = true := by rw [decide_eq_true_eq]; omega
          have e2' : 57 < (s[k].toNat : Int) := by omega
          have HR := Lib.hid (nuB_no (B := sB s) (n := s.size) (fun h => by have := h.2.2 k hkn; omega))
          clear hx hlo hhi
          go_wp2
          go_ret2
          exact ⟨by rw [HR.out.1, HR.out.2]; rfl, rfl⟩
        · have e2 : decide (57 < (s[k].toNat : Int)) = false := by rw [decide_eq_false_iff_not]; omega
          have e2' : ¬ 57 < (s[k].toNat : Int) := by omega
          have HDn : Hid (Dg (sB s) (k + 1)) := fun i hi => by
            by_cases e : i = k
            · subst e; omega
            · exact hd.out i (by omega)
          have HSn : Hid (10 * sv + ((s[k].toNat : Int) - 48) = nuV (sB s) (k + 1)) := by
            show 10 * sv + ((s[k].toNat : Int) - 48) = 10 * nuV (sB s) k + (sB s k - 48)
            rw [← hs.out, hx]
          clear hx hlo hhi
          go_wp2
          go_round
          case rel => exact ⟨k + 1, _, by omega, rfl, by go_num, HDn, HSn⟩
          case measure => simp [intOf]; omega
    · obtain rfl : k = s.size := by omega
      have HR := Lib.hid (nuB_yes h1 h2 hd.out)
      go_wp2
      go_ret2
      exact ⟨by rw [HR.out.1, HR.out.2, ← hs.out]; rfl, rfl⟩
theorem num_any (s : ByteArray) (w : World) : Calls Tryd.prog 64 #[.string s] w (RtN (nuN (sB s) s.size) (nuB (sB s) s.size) w) := by
  by_cases h1 : 1 ≤ s.size
  · by_cases h2 : s.size ≤ 10
    · exact num_some s w h1 h2
    · have HR := Lib.hid (nuB_no (B := sB s) (n := s.size) (fun h => h2 h.2.1))
      have d1 : decide ((s.size : Int) < 1) = false := by rw [decide_eq_false_iff_not]; omega
      have d2 : decide ((10 : Int) < (s.size : Int)) = true := by rw [decide_eq_true_eq]; omega
      have n2 : (10 : Int) < (s.size : Int) := by omega
      go_enter Tryd.func64, Tryd.ntmps64
      go_wp2
      go_ret2
      exact ⟨by rw [HR.out.1, HR.out.2]; rfl, rfl⟩
  · have HR := Lib.hid (nuB_no (B := sB s) (n := s.size) (fun h => h1 h.1))
    have d1 : decide ((s.size : Int) < 1) = true := by rw [decide_eq_true_eq]; omega
    have n2 : (s.size : Int) < 1 := by omega
    go_enter Tryd.func64, Tryd.ntmps64
    go_wp2
    go_ret2
    exact ⟨by rw [HR.out.1, HR.out.2]; rfl, rfl⟩
end Go.Proofs.YtlelcooomfcbaaaDoor.Gg

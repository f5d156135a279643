/-
  Votes: how many good values lie where, and that their order does not matter.
-/
import Derived.Test.YtkflgiopkopeeaaQlGoo
import Derived.Test.YtkflgiopkopeeaaQlAwk
import Derived.Test.YtkflgiopkopeeaaQlRvt
namespace Go.Proofs.Ytkflgiopkopeeaa.Ql
open Go.ChangeShapes Go.WideShapes Go.ChangeAt Go.RowKit
open Go.Proofs.Ytkflgiopkopeeaa.Ca (inB inB_yes inB_no Rd)
open Go.Proofs.Ytkflgiopkopeeaa.Cu (grown_below grown_own grown_trans grown_refl updF updF_same updF_other Dk next_any new_any)
set_option linter.unusedVariables false

/-- Votes among the first k. -/
def upN (V : Nat → Int) (G : Nat → Bool) (a : Int) : Nat → Int
  | 0 => 0
  | k + 1 => if G k = true ∧ a ≤ V k then upN V G a k + 1 else upN V G a k
def dnN (V : Nat → Int) (G : Nat → Bool) (a : Int) : Nat → Int
  | 0 => 0
  | k + 1 => if G k = true ∧ V k ≤ a then dnN V G a k + 1 else dnN V G a k
theorem up_len (V : Nat → Int) (G : Nat → Bool) (a : Int) : ∀ k, upN V G a k = (((gdL V G k).countP fun x => decide (a ≤ x) : Nat) : Int)
  | 0 => rfl
  | k + 1 => by
    have ih := up_len V G a k
    unfold upN
    cases h : G k
    · rw [gd_no h, if_neg (by simp), ih]
    · rw [gd_yes h, List.countP_append, List.countP_cons]
      by_cases h2 : a ≤ V k
      · rw [if_pos ⟨rfl, h2⟩, ih]; simp [h2]
      · rw [if_neg (fun h3 => h2 h3.2), ih]; simp [h2]
theorem dn_len (V : Nat → Int) (G : Nat → Bool) (a : Int) : ∀ k, dnN V G a k = (((gdL V G k).countP fun x => decide (x ≤ a) : Nat) : Int)
  | 0 => rfl
  | k + 1 => by
    have ih := dn_len V G a k
    unfold dnN
    cases h : G k
    · rw [gd_no h, if_neg (by simp), ih]
    · rw [gd_yes h, List.countP_append, List.countP_cons]
      by_cases h2 : V k ≤ a
      · rw [if_pos ⟨rfl, h2⟩, ih]; simp [h2]
      · rw [if_neg (fun h3 => h2 h3.2), ih]; simp [h2]
theorem ct_len (V : Nat → Int) (G : Nat → Bool) : ∀ k, ctD G k = (((gdL V G k).length : Nat) : Int)
  | 0 => rfl
  | k + 1 => by
    have ih := ct_len V G k
    cases h : G k
    · rw [gd_no h, ct_no h, ih]
    · rw [gd_yes h, ct_yes h, ih]; simp
/-- In an ascending list, those from the middle on are not below it, those up to it not above. -/
theorem asc_up {S : List Int} (h : S.Pairwise (· ≤ ·)) (m : Nat) (hm : m < S.length) : S.length - m ≤ S.countP (fun x => decide (S.getD m 0 ≤ x)) := by
  have e : S.countP (fun x => decide (S.getD m 0 ≤ x)) = (S.take m).countP (fun x => decide (S.getD m 0 ≤ x)) + (S.drop m).countP (fun x => decide (S.getD m 0 ≤ x)) := by
    rw [← List.countP_append, List.take_append_drop]
  have e2 : (S.drop m).countP (fun x => decide (S.getD m 0 ≤ x)) = (S.drop m).length := by
    rw [List.countP_eq_length]
    intro x hx
    obtain ⟨j, hj, e3⟩ := List.mem_iff_getElem.1 hx
    rw [List.getElem_drop] at e3
    rw [decide_eq_true_eq, List.getD_eq_getElem?_getD, List.getElem?_eq_getElem hm]
    simp only [Option.getD_some]
    rw [← e3]
    by_cases e4 : j = 0
    · subst e4; simp
    · exact List.pairwise_iff_getElem.1 h m (m + j) hm (by simp at hj; omega) (by omega)
  rw [e, e2, List.length_drop]
  omega
theorem asc_dn {S : List Int} (h : S.Pairwise (· ≤ ·)) (m : Nat) (hm : m < S.length) : m + 1 ≤ S.countP (fun x => decide (x ≤ S.getD m 0)) := by
  have e : S.countP (fun x => decide (x ≤ S.getD m 0)) = (S.take (m + 1)).countP (fun x => decide (x ≤ S.getD m 0)) + (S.drop (m + 1)).countP (fun x => decide (x ≤ S.getD m 0)) := by
    rw [← List.countP_append, List.take_append_drop]
  have e2 : (S.take (m + 1)).countP (fun x => decide (x ≤ S.getD m 0)) = (S.take (m + 1)).length := by
    rw [List.countP_eq_length]
    intro x hx
    obtain ⟨j, hj, e3⟩ := List.mem_iff_getElem.1 hx
    rw [List.getElem_take] at e3
    rw [decide_eq_true_eq, List.getD_eq_getElem?_getD, List.getElem?_eq_getElem hm]
    simp only [Option.getD_some]
    rw [← e3]
    have hj2 : j < m + 1 := by simp at hj; omega
    by_cases e4 : j = m
    · subst e4; omega
    · exact List.pairwise_iff_getElem.1 h j m (by omega) hm (by omega)
  rw [e, e2, List.length_take]
  omega
theorem vote_mid {V : Nat → Int} {G : Nat → Bool} {n : Nat} (h : 0 < (gdL V G n).length) : ctD G n < 2 * upN V G (vtI V G n) n ∧ ctD G n ≤ 2 * dnN V G (vtI V G n) n := by
  have hl := srt_len (gdL V G n)
  have hm : ((gdL V G n).length - 1) / 2 < (srt (gdL V G n)).length := by omega
  have h1 := asc_up (srt_sorted (gdL V G n)) _ hm
  have h2 := asc_dn (srt_sorted (gdL V G n)) _ hm
  rw [up_len, dn_len, ct_len V]
  have p1 := (srt_perm (gdL V G n)).countP_eq (fun x => decide (vtI V G n ≤ x))
  have p2 := (srt_perm (gdL V G n)).countP_eq (fun x => decide (x ≤ vtI V G n))
  change _ ≤ (srt (gdL V G n)).countP (fun x => decide (vtI V G n ≤ x)) at h1
  change _ ≤ (srt (gdL V G n)).countP (fun x => decide (x ≤ vtI V G n)) at h2
  rw [p1] at h1
  rw [p2] at h2
  omega
/-- Turned round, the good values are the same. -/
theorem gd_rev (V : Nat → Int) (G : Nat → Bool) (n : Nat) : ∀ k, k ≤ n → (gdL (fun i => V (n - 1 - i)) (fun i => G (n - 1 - i)) k ++ (gdL V G (n - k)).reverse) = (gdL V G n).reverse
  | 0, _ => by simp [gdL]
  | k + 1, hk => by
    have ih := gd_rev V G n k (by omega)
    rw [← ih]
    have e : n - k = (n - (k + 1)) + 1 := by omega
    have e1 : n - 1 - k = n - (k + 1) := by omega
    cases h : G (n - (k + 1))
    · rw [gd_no (k := k) (G := fun i => G (n - 1 - i)) (by simpa [e1] using h), e, gd_no h]
    · rw [gd_yes (k := k) (G := fun i => G (n - 1 - i)) (by simpa [e1] using h), e, gd_yes h]
      simp [e1]
theorem vote_rev (V : Nat → Int) (G : Nat → Bool) (n : Nat) : vtI (fun i => V (n - 1 - i)) (fun i => G (n - 1 - i)) n = vtI V G n ∧ vtB (fun i => V (n - 1 - i)) (fun i => G (n - 1 - i)) n = vtB V G n := by
  have h := gd_rev V G n n (Nat.le_refl _)
  rw [Nat.sub_self] at h
  simp only [gdL, List.reverse_nil, List.append_nil] at h
  unfold vtI vtB
  rw [h, List.length_reverse]
  exact ⟨by rw [srt_congr (List.reverse_perm _)], rfl⟩
end Go.Proofs.Ytkflgiopkopeeaa.Ql

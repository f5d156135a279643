/-
  Votes, filled values and drifts: what they are, by whole numbers and lists alone.
-/
import Derived.Lib.Hide
namespace Go.Proofs.Ytkflgiopkopeeaa.Ql
set_option linter.unusedVariables false

/-! ### votes -/
/-- The good values among the first k. -/
def gdL (V : Nat → Int) (G : Nat → Bool) : Nat → List Int
  | 0 => []
  | k + 1 => if G k = true then gdL V G k ++ [V k] else gdL V G k
theorem gd_yes {V : Nat → Int} {G : Nat → Bool} {k : Nat} (h : G k = true) : gdL V G (k + 1) = gdL V G k ++ [V k] := if_pos h
theorem gd_no {V : Nat → Int} {G : Nat → Bool} {k : Nat} (h : G k = false) : gdL V G (k + 1) = gdL V G k := if_neg (by rw [h]; simp)
theorem gd_len (V : Nat → Int) (G : Nat → Bool) : ∀ k, (gdL V G k).length ≤ k
  | 0 => Nat.le_refl _
  | k + 1 => by
    have ih := gd_len V G k
    cases h : G k
    · rw [gd_no h]; omega
    · rw [gd_yes h, List.length_append]; simp; omega
theorem gd_congr {V V' : Nat → Int} {G G' : Nat → Bool} : ∀ k, (∀ i, i < k → G i = G' i) → (∀ i, i < k → G i = true → V i = V' i) → gdL V G k = gdL V' G' k
  | 0, _, _ => rfl
  | k + 1, h, hv => by
    have ih := gd_congr k (fun i hi => h i (by omega)) (fun i hi hg => hv i (by omega) hg)
    have e := h k (by omega)
    cases hG : G k
    · rw [gd_no hG, gd_no (e.symm.trans hG), ih]
    · rw [gd_yes hG, gd_yes (e.symm.trans hG), ih, hv k (by omega) hG]
theorem gd_mem {V : Nat → Int} {G : Nat → Bool} {x : Int} : ∀ {k}, x ∈ gdL V G k → ∃ i, i < k ∧ G i = true ∧ V i = x
  | 0, h => by simp [gdL] at h
  | k + 1, h => by
    cases hG : G k
    · rw [gd_no hG] at h
      obtain ⟨i, h1, h2⟩ := gd_mem h
      exact ⟨i, by omega, h2⟩
    · rw [gd_yes hG, List.mem_append] at h
      rcases h with h | h
      · obtain ⟨i, h1, h2⟩ := gd_mem h
        exact ⟨i, by omega, h2⟩
      · simp at h
        exact ⟨k, by omega, hG, h.symm⟩
/-- Ascending. -/
def srt (L : List Int) : List Int := L.mergeSort fun x y => decide (x ≤ y)
theorem srt_len (L : List Int) : (srt L).length = L.length := List.length_mergeSort L
theorem srt_perm (L : List Int) : (srt L).Perm L := List.mergeSort_perm L _
theorem srt_sorted (L : List Int) : (srt L).Pairwise (· ≤ ·) := by
  have h := List.pairwise_mergeSort (le := fun x y : Int => decide (x ≤ y)) (by intro a b c; simp; omega) (by intro a b; simp; omega) L
  exact h.imp (by intro a b; simp)
/-- Two ascending lists of the same elements are equal. -/
theorem asc_uniq : ∀ {A B : List Int}, A.Pairwise (· ≤ ·) → B.Pairwise (· ≤ ·) → A.Perm B → A = B
  | [], B, _, _, h => (List.Perm.nil_eq h)
  | a :: A, [], _, _, h => by have := h.length_eq; simp at this
  | a :: A, b :: B, hA, hB, h => by
    have h1 := List.pairwise_cons.1 hA
    have h2 := List.pairwise_cons.1 hB
    have e : a = b := by
      have ma : a ∈ b :: B := h.subset (by simp)
      have mb : b ∈ a :: A := h.symm.subset (by simp)
      rcases List.mem_cons.1 ma with e | ma
      · exact e
      · rcases List.mem_cons.1 mb with e | mb
        · exact e.symm
        · have := h1.1 b mb; have := h2.1 a ma; omega
    subst e
    rw [asc_uniq h1.2 h2.2 (List.Perm.cons_inv h)]
theorem srt_eq {S L : List Int} (h : S.Pairwise (· ≤ ·)) (hp : S.Perm L) : S = srt L := asc_uniq h (srt_sorted L) (hp.trans (srt_perm L).symm)
theorem srt_congr {L M : List Int} (hp : L.Perm M) : srt L = srt M := srt_eq (srt_sorted L) ((srt_perm L).trans hp)
/-- The lower median, 0 of none. -/
def vtI (V : Nat → Int) (G : Nat → Bool) (n : Nat) : Int := (srt (gdL V G n)).getD (((gdL V G n).length - 1) / 2) 0
def vtB (V : Nat → Int) (G : Nat → Bool) (n : Nat) : Bool := decide (0 < (gdL V G n).length)
theorem vt_none {V : Nat → Int} {G : Nat → Bool} {n : Nat} (h : (gdL V G n).length = 0) : vtI V G n = 0 ∧ vtB V G n = false := by
  have e : gdL V G n = [] := List.length_eq_zero_iff.1 h
  unfold vtI vtB
  rw [e]
  exact ⟨by simp [srt], by simp⟩
theorem vt_congr {V V' : Nat → Int} {G G' : Nat → Bool} {n : Nat} (h : gdL V G n = gdL V' G' n) : vtI V G n = vtI V' G' n ∧ vtB V G n = vtB V' G' n := by
  unfold vtI vtB
  rw [h]
  exact ⟨rfl, rfl⟩
theorem vt_mem {V : Nat → Int} {G : Nat → Bool} {n : Nat} (h : 0 < (gdL V G n).length) : vtI V G n ∈ gdL V G n := by
  unfold vtI
  have hl := srt_len (gdL V G n)
  have hlt : ((gdL V G n).length - 1) / 2 < (srt (gdL V G n)).length := by omega
  rw [List.getD_eq_getElem?_getD, List.getElem?_eq_getElem hlt]
  exact (srt_perm _).subset (List.getElem_mem hlt)
theorem vt_bd {V : Nat → Int} {G : Nat → Bool} {n : Nat} {a b : Int} (h : ∀ i, i < n → G i = true → a ≤ V i ∧ V i ≤ b) (h0 : a ≤ 0) (h1 : 0 ≤ b) : a ≤ vtI V G n ∧ vtI V G n ≤ b := by
  by_cases hl : 0 < (gdL V G n).length
  · obtain ⟨i, hi, hg, e⟩ := gd_mem (vt_mem hl)
    rw [← e]
    exact h i hi hg
  · rw [(vt_none (by omega)).1]
    exact ⟨h0, h1⟩

/-- A number is put where it belongs. -/
theorem ins_perm (S : List Int) (v : Int) (k : Nat) : (S.take k ++ v :: S.drop k).Perm (S ++ [v]) := by
  have h1 : (S.take k ++ v :: S.drop k).Perm (v :: (S.take k ++ S.drop k)) := List.perm_middle
  rw [List.take_append_drop] at h1
  exact h1.trans ((List.perm_append_comm (l₁ := [v]) (l₂ := S)))
theorem ins_sorted {S : List Int} {v : Int} {k : Nat} (h : S.Pairwise (· ≤ ·)) (hk : k ≤ S.length) (h1 : k = 0 ∨ S.getD (k - 1) 0 ≤ v) (h2 : ∀ j, k ≤ j → j < S.length → v < S.getD j 0) : (S.take k ++ v :: S.drop k).Pairwise (· ≤ ·) := by
  rw [List.pairwise_append]
  have hp := List.pairwise_iff_getElem.1 h
  have hd : ∀ x ∈ S.drop k, v < x := by
    intro x hx
    obtain ⟨j, hj, e⟩ := List.mem_iff_getElem.1 hx
    rw [List.getElem_drop] at e
    have hj2 : k + j < S.length := by simp at hj; omega
    have := h2 (k + j) (by omega) hj2
    rw [List.getD_eq_getElem?_getD, List.getElem?_eq_getElem hj2] at this
    simp at this
    omega
  have ht : ∀ x ∈ S.take k, x ≤ v := by
    intro x hx
    obtain ⟨j, hj, e⟩ := List.mem_iff_getElem.1 hx
    rw [List.getElem_take] at e
    have hj2 : j < k := by simp at hj; omega
    rcases h1 with h1 | h1
    · omega
    · have hk2 : k - 1 < S.length := by omega
      rw [List.getD_eq_getElem?_getD, List.getElem?_eq_getElem hk2] at h1
      simp at h1
      by_cases e3 : j = k - 1
      · subst e3; omega
      · have := hp j (k - 1) (by omega) hk2 (by omega)
        omega
  refine ⟨h.sublist (List.take_sublist k S), ?_, ?_⟩
  · rw [List.pairwise_cons]
    exact ⟨fun x hx => Int.le_of_lt (hd x hx), h.sublist (List.drop_sublist k S)⟩
  · intro x hx y hy
    have a := ht x hx
    rcases List.mem_cons.1 hy with e | hy
    · subst e; exact a
    · have := hd y hy; omega

/-! ### filled values -/
/-- The last good index before k, or -1. -/
def bfI (G : Nat → Bool) : Nat → Int
  | 0 => -1
  | k + 1 => if G k = true then (k : Int) else bfI G k
theorem bf_yes {G : Nat → Bool} {k : Nat} (h : G k = true) : bfI G (k + 1) = (k : Int) := if_pos h
theorem bf_no {G : Nat → Bool} {k : Nat} (h : G k = false) : bfI G (k + 1) = bfI G k := if_neg (by rw [h]; simp)
theorem bf_bd (G : Nat → Bool) : ∀ k, -1 ≤ bfI G k ∧ bfI G k < (k : Int)
  | 0 => ⟨by simp [bfI], by simp [bfI]⟩
  | k + 1 => by
    have ih := bf_bd G k
    cases h : G k
    · rw [bf_no h]; omega
    · rw [bf_yes h]; omega
theorem bf_good (G : Nat → Bool) : ∀ k, 0 ≤ bfI G k → G (bfI G k).toNat = true
  | 0, h => by simp [bfI] at h
  | k + 1, h => by
    cases e : G k
    · rw [bf_no e] at h ⊢; exact bf_good G k h
    · rw [bf_yes e]; simpa using e
theorem bf_gap (G : Nat → Bool) : ∀ k j : Nat, bfI G k < (j : Int) → j < k → G j = false
  | 0, _, _, h => absurd h (Nat.not_lt_zero _)
  | k + 1, j, h, hj => by
    cases e : G k
    · rw [bf_no e] at h
      by_cases e2 : j = k
      · subst e2; exact e
      · exact bf_gap G k j h (by omega)
    · rw [bf_yes e] at h; omega
theorem bf_same {G : Nat → Bool} {k j : Nat} (h : bfI G k < (j : Int)) : ∀ {d : Nat}, j + d ≤ k → bfI G (j + d) = bfI G j
  | 0, _ => rfl
  | d + 1, hj => by
    show bfI G (j + d + 1) = _
    rw [bf_no (bf_gap G k (j + d) (by omega) (by omega))]
    exact bf_same h (by omega)
/-- Behind the last good one before k, this stays the last good one. -/
theorem bf_mid {G : Nat → Bool} {k j : Nat} (h : bfI G k < (j : Int)) (hj : j ≤ k) : bfI G j = bfI G k := by
  have := bf_same (k := k) h (d := k - j) (by omega)
  rw [show j + (k - j) = k by omega] at this
  exact this.symm
/-- The first good index from i on among d, or i + d. -/
def afN (G : Nat → Bool) (i : Nat) : Nat → Nat
  | 0 => i
  | d + 1 => if G i = true then i else afN G (i + 1) d
theorem af_bd (G : Nat → Bool) : ∀ d i, i ≤ afN G i d ∧ afN G i d ≤ i + d
  | 0, i => ⟨Nat.le_refl _, Nat.le_refl _⟩
  | d + 1, i => by
    unfold afN
    split
    · omega
    · have := af_bd G d (i + 1); omega
theorem af_good (G : Nat → Bool) : ∀ d i, afN G i d < i + d → G (afN G i d) = true
  | 0, i, h => absurd h (Nat.lt_irrefl _)
  | d + 1, i, h => by
    unfold afN at h ⊢
    split
    · rename_i e; exact e
    · rename_i e
      rw [if_neg e] at h
      exact af_good G d (i + 1) (by omega)
theorem af_gap (G : Nat → Bool) : ∀ d i j, i ≤ j → j < afN G i d → G j = false
  | 0, i, j, h, hj => by unfold afN at hj; omega
  | d + 1, i, j, h, hj => by
    unfold afN at hj
    split at hj
    · omega
    · rename_i e
      by_cases e2 : j = i
      · subst e2; simpa using e
      · exact af_gap G d (i + 1) j (by omega) hj
/-- .. by what it is. -/
theorem af_of {G : Nat → Bool} {d i k : Nat} (h1 : i ≤ k) (h2 : k ≤ i + d) (hg : ∀ j, i ≤ j → j < k → G j = false) (hk : k < i + d → G k = true) : afN G i d = k := by
  have hb := af_bd G d i
  by_cases e1 : afN G i d < k
  · have a := af_good G d i (by omega)
    rw [hg _ hb.1 e1] at a
    cases a
  · by_cases e2 : k < afN G i d
    · have a := af_gap G d i k h1 e2
      rw [hk (by omega)] at a
      cases a
    · omega
theorem af_end {G : Nat → Bool} {n i : Nat} (hi : i ≤ n) (h : ∀ j, i ≤ j → j < n → G j = false) : afN G i (n - i) = n := af_of hi (by omega) h (fun h => by omega)
/-- What is between two good ones. -/
def lnI (a b : Int) (t e : Int) : Int := a + (b - a) * t / e
/-- P8.3: what Fill gives at i. -/
def fil (V : Nat → Int) (G : Nat → Bool) (n : Nat) (last : Int) (i : Nat) : Int :=
  if G i = true then V i else if bfI G i < 0 then last else if afN G i (n - i) = n then V (bfI G i).toNat else lnI (V (bfI G i).toNat) (V (afN G i (n - i))) ((i : Int) - bfI G i) ((afN G i (n - i) : Int) - bfI G i)
theorem fil_good {V : Nat → Int} {G : Nat → Bool} {n : Nat} {last : Int} {i : Nat} (h : G i = true) : fil V G n last i = V i := if_pos h
theorem fil_before {V : Nat → Int} {G : Nat → Bool} {n : Nat} {last : Int} {i : Nat} (h : G i = false) (hb : bfI G i < 0) : fil V G n last i = last := by unfold fil; rw [if_neg (by rw [h]; simp), if_pos hb]
theorem fil_behind {V : Nat → Int} {G : Nat → Bool} {n : Nat} {last : Int} {i : Nat} (h : G i = false) (hb : ¬ bfI G i < 0) (ha : afN G i (n - i) = n) : fil V G n last i = V (bfI G i).toNat := by unfold fil; rw [if_neg (by rw [h]; simp), if_neg hb, if_pos ha]
theorem fil_mid {V : Nat → Int} {G : Nat → Bool} {n : Nat} {last : Int} {i : Nat} (h : G i = false) (hb : ¬ bfI G i < 0) (ha : ¬ afN G i (n - i) = n) : fil V G n last i = lnI (V (bfI G i).toNat) (V (afN G i (n - i))) ((i : Int) - bfI G i) ((afN G i (n - i) : Int) - bfI G i) := by unfold fil; rw [if_neg (by rw [h]; simp), if_neg hb, if_neg ha]
/-- A number between two others stays between them. -/
theorem ln_bd (a b t e : Int) (ht : 0 ≤ t) (hte : t ≤ e) (he : 0 < e) : min a b ≤ lnI a b t e ∧ lnI a b t e ≤ max a b := by
  unfold lnI
  by_cases h : a ≤ b
  · have h0 : 0 ≤ (b - a) * t := Int.mul_nonneg (by omega) ht
    have h1 : (b - a) * t ≤ (b - a) * e := Int.mul_le_mul_of_nonneg_left hte (by omega)
    have h2 : 0 ≤ (b - a) * t / e := Int.ediv_nonneg h0 (by omega)
    have h3 : (b - a) * t / e ≤ b - a := by
      have := Int.ediv_le_ediv he h1
      rwa [Int.mul_ediv_cancel _ (by omega)] at this
    omega
  · have h0 : (b - a) * t ≤ 0 := by
      have := Int.mul_nonneg (show 0 ≤ a - b by omega) ht
      have e2 : (b - a) * t = -((a - b) * t) := by rw [← Int.neg_mul, Int.neg_sub]
      omega
    have h1 : (b - a) * e ≤ (b - a) * t := by
      have := Int.mul_le_mul_of_nonneg_left hte (show 0 ≤ a - b by omega)
      have e1 : (b - a) * e = -((a - b) * e) := by rw [← Int.neg_mul, Int.neg_sub]
      have e2 : (b - a) * t = -((a - b) * t) := by rw [← Int.neg_mul, Int.neg_sub]
      omega
    have h2 : (b - a) * t / e ≤ 0 := by
      have := Int.ediv_le_ediv he h0
      rwa [Int.zero_ediv] at this
    have h3 : b - a ≤ (b - a) * t / e := by
      have := Int.ediv_le_ediv he h1
      rwa [Int.mul_ediv_cancel _ (by omega)] at this
    omega
/-- Filling again changes nothing. -/
theorem fil_again (V : Nat → Int) (G : Nat → Bool) (n : Nat) (last : Int) (i : Nat) (hi : i < n) : fil (fil V G n last) G n last i = fil V G n last i := by
  cases h : G i
  · by_cases hb : bfI G i < 0
    · rw [fil_before h hb, fil_before h hb]
    · have e1 : fil V G n last (bfI G i).toNat = V (bfI G i).toNat := fil_good (bf_good G i (by omega))
      by_cases ha : afN G i (n - i) = n
      · rw [fil_behind h hb ha, fil_behind h hb ha, e1]
      · have hab := af_bd G (n - i) i
        have e2 : fil V G n last (afN G i (n - i)) = V (afN G i (n - i)) := fil_good (af_good G (n - i) i (by omega))
        rw [fil_mid h hb ha, fil_mid h hb ha, e1, e2]
  · rw [fil_good h]
theorem fil_bd {V : Nat → Int} {G : Nat → Bool} {n : Nat} {last a b : Int} (hV : ∀ i, i < n → a ≤ V i ∧ V i ≤ b) (hl : a ≤ last ∧ last ≤ b) {i : Nat} (hi : i < n) : a ≤ fil V G n last i ∧ fil V G n last i ≤ b := by
  cases h : G i
  · by_cases hb : bfI G i < 0
    · rw [fil_before h hb]; exact hl
    · have hbd := bf_bd G i
      have e1 := hV (bfI G i).toNat (by omega)
      by_cases ha : afN G i (n - i) = n
      · rw [fil_behind h hb ha]; exact e1
      · have hab := af_bd G (n - i) i
        have e2 := hV (afN G i (n - i)) (by omega)
        rw [fil_mid h hb ha]
        have := ln_bd (V (bfI G i).toNat) (V (afN G i (n - i))) ((i : Int) - bfI G i) ((afN G i (n - i) : Int) - bfI G i) (by omega) (by omega) (by omega)
        omega
  · rw [fil_good h]; exact hV i hi

/-! ### drifts -/
def smD (A B : Nat → Int) (G : Nat → Bool) : Nat → Int
  | 0 => 0
  | k + 1 => if G k = true then smD A B G k + (B k - A k) else smD A B G k
def ctD (G : Nat → Bool) : Nat → Int
  | 0 => 0
  | k + 1 => if G k = true then ctD G k + 1 else ctD G k
theorem sm_yes {A B : Nat → Int} {G : Nat → Bool} {k : Nat} (h : G k = true) : smD A B G (k + 1) = smD A B G k + (B k - A k) := if_pos h
theorem sm_no {A B : Nat → Int} {G : Nat → Bool} {k : Nat} (h : G k = false) : smD A B G (k + 1) = smD A B G k := if_neg (by rw [h]; simp)
theorem ct_yes {G : Nat → Bool} {k : Nat} (h : G k = true) : ctD G (k + 1) = ctD G k + 1 := if_pos h
theorem ct_no {G : Nat → Bool} {k : Nat} (h : G k = false) : ctD G (k + 1) = ctD G k := if_neg (by rw [h]; simp)
theorem ct_bd (G : Nat → Bool) : ∀ k, 0 ≤ ctD G k ∧ ctD G k ≤ (k : Int)
  | 0 => ⟨Int.le_refl _, Int.le_refl _⟩
  | k + 1 => by
    have ih := ct_bd G k
    cases h : G k
    · rw [ct_no h]; omega
    · rw [ct_yes h]; omega
theorem sm_bd {A B : Nat → Int} {G : Nat → Bool} {n : Nat} (h : ∀ i, i < n → (0 ≤ A i ∧ A i ≤ 1073741824) ∧ 0 ≤ B i ∧ B i ≤ 1073741824) : ∀ k : Nat, k ≤ n → -1073741824 * (k : Int) ≤ smD A B G k ∧ smD A B G k ≤ 1073741824 * (k : Int)
  | 0, _ => ⟨by simp [smD], by simp [smD]⟩
  | k + 1, hk => by
    have ih := sm_bd (G := G) h k (by omega)
    have hh := h k (by omega)
    cases e : G k
    · rw [sm_no e]; omega
    · rw [sm_yes e]; omega
/-- P8.4. -/
def drI (A B : Nat → Int) (G : Nat → Bool) (n : Nat) : Int := if ctD G n = 0 then 0 else smD A B G n / ctD G n
def drB (G : Nat → Bool) (n : Nat) : Bool := !decide (ctD G n = 0)
theorem sm_off {A B : Nat → Int} {G : Nat → Bool} {d : Int} : ∀ {n : Nat}, (∀ i, i < n → B i - A i = d) → smD A B G n = ctD G n * d
  | 0, _ => by simp [smD, ctD]
  | k + 1, h => by
    have ih := sm_off (G := G) (n := k) (fun i hi => h i (by omega))
    cases e : G k
    · rw [sm_no e, ct_no e, ih]
    · rw [sm_yes e, ct_yes e, ih, h k (by omega), Int.add_mul, Int.one_mul]
theorem dr_off {A B : Nat → Int} {G : Nat → Bool} {d : Int} {n : Nat} (h : ∀ i, i < n → B i - A i = d) (hc : ctD G n ≠ 0) : drI A B G n = d := by
  unfold drI
  rw [if_neg hc, sm_off h, Int.mul_ediv_cancel_left _ hc]
end Go.Proofs.Ytkflgiopkopeeaa.Ql

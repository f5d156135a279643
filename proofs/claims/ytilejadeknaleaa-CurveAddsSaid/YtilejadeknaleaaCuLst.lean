/-
  Lists of numbers that ascend: one of each, and what can be gathered of them.
-/
import Derived.Test.YtilejadeknaleaaCuSrt
namespace Go.Proofs.Ytilejadeknaleaa.Cu
open Go.ChangeShapes Go.WideShapes Go.ChangeAt Go.RowKit
set_option linter.unusedVariables false

/-- Strictly ascending. -/
def SA (L : List Int) : Prop := L.Pairwise (fun a b => a < b)
theorem sa_snoc {L : List Int} {x : Int} (h : SA L) (hx : ∀ y, y ∈ L → y < x) : SA (L ++ [x]) := by
  unfold SA at *
  rw [List.pairwise_append]
  exact ⟨h, List.pairwise_singleton _ _, fun a ha b hb => by rw [List.mem_singleton] at hb; rw [hb]; exact hx a ha⟩
/-- Two such lists with the same numbers are equal. -/
theorem sa_unique : ∀ (L M : List Int), SA L → SA M → (∀ x, x ∈ L ↔ x ∈ M) → L = M
  | [], [], _, _, _ => rfl
  | [], b :: M, _, _, h => by have := (h b).2 (by simp); simp at this
  | a :: L, [], _, _, h => by have := (h a).1 (by simp); simp at this
  | a :: L, b :: M, hL, hM, h => by
    unfold SA at *
    rw [List.pairwise_cons] at hL hM
    have e : a = b := by
      have h1 := (h a).1 (by simp)
      have h2 := (h b).2 (by simp)
      rcases List.mem_cons.1 h1 with h1 | h1
      · exact h1
      rcases List.mem_cons.1 h2 with h2 | h2
      · exact h2.symm
      have := hM.1 a h1
      have := hL.1 b h2
      omega
    subst e
    rw [sa_unique L M hL.2 hM.2 (fun x => ?_)]
    constructor
    · intro hx
      rcases List.mem_cons.1 ((h x).1 (List.mem_cons_of_mem _ hx)) with e | e
      · have := hL.1 x hx; omega
      · exact e
    · intro hx
      rcases List.mem_cons.1 ((h x).2 (List.mem_cons_of_mem _ hx)) with e | e
      · have := hM.1 x hx; omega
      · exact e

/-- One of each of the first k numbers. -/
def ddL (D : Nat → Int) : Nat → List Int
  | 0 => []
  | k + 1 => if 0 < k ∧ D k = D (k - 1) then ddL D k else ddL D k ++ [D k]
theorem ddL_skip (D : Nat → Int) (k : Nat) (h : D (k + 1) = D k) : ddL D (k + 1 + 1) = ddL D (k + 1) := by
  show (if 0 < k + 1 ∧ D (k + 1) = D (k + 1 - 1) then ddL D (k + 1) else _) = _
  rw [if_pos ⟨by omega, h⟩]
theorem ddL_take (D : Nat → Int) (k : Nat) (h : ¬ (0 < k ∧ D k = D (k - 1))) : ddL D (k + 1) = ddL D k ++ [D k] := by
  show (if 0 < k ∧ D k = D (k - 1) then _ else _) = _
  rw [if_neg h]
theorem ddL_mem (D : Nat → Int) : ∀ (k : Nat) (x : Int), x ∈ ddL D k ↔ ∃ i, i < k ∧ D i = x
  | 0, x => by simp [ddL]
  | k + 1, x => by
    have ih := ddL_mem D k x
    by_cases h : 0 < k ∧ D k = D (k - 1)
    · have e : ddL D (k + 1) = ddL D k := by show (if 0 < k ∧ D k = D (k - 1) then _ else _) = _; rw [if_pos h]
      rw [e, ih]
      constructor
      · rintro ⟨i, hi, hx⟩; exact ⟨i, by omega, hx⟩
      · rintro ⟨i, hi, hx⟩
        by_cases e2 : i = k
        · exact ⟨k - 1, by omega, by rw [← h.2, ← e2]; exact hx⟩
        · exact ⟨i, by omega, hx⟩
    · rw [ddL_take D k h, List.mem_append, ih, List.mem_singleton]
      constructor
      · rintro (⟨i, hi, hx⟩ | rfl)
        · exact ⟨i, by omega, hx⟩
        · exact ⟨k, by omega, rfl⟩
      · rintro ⟨i, hi, hx⟩
        by_cases e2 : i = k
        · subst e2; exact .inr hx.symm
        · exact .inl ⟨i, by omega, hx⟩
theorem ddL_sa (D : Nat → Int) (n : Nat) (hm : ∀ i j, i ≤ j → j < n → D i ≤ D j) : ∀ k, k ≤ n → SA (ddL D k)
  | 0, _ => List.Pairwise.nil
  | k + 1, hk => by
    have ih := ddL_sa D n hm k (by omega)
    by_cases h : 0 < k ∧ D k = D (k - 1)
    · have e : ddL D (k + 1) = ddL D k := by show (if 0 < k ∧ D k = D (k - 1) then _ else _) = _; rw [if_pos h]
      rw [e]; exact ih
    · rw [ddL_take D k h]
      refine sa_snoc ih fun y hy => ?_
      obtain ⟨i, hi, rfl⟩ := (ddL_mem D k y).1 hy
      have h1 := hm i (k - 1) (by omega) (by omega)
      have h2 := hm (k - 1) k (by omega) (by omega)
      have h3 : D k ≠ D (k - 1) := fun e => h ⟨by omega, e⟩
      omega
theorem ddL_len (D : Nat → Int) : ∀ k, (ddL D k).length ≤ k
  | 0 => Nat.le_refl _
  | k + 1 => by
    have ih := ddL_len D k
    unfold ddL
    split
    · omega
    · rw [List.length_append]; simp; omega

/-- The points of a list of X. -/
def lx (L : List Int) (t : Nat) : Int := L.getD t 0
def ly (S : Int → Int) (L : List Int) (t : Nat) : Int := S (L.getD t 0)
theorem lx_snoc (L : List Int) (x : Int) (t : Nat) (ht : t < L.length + 1) : lx (L ++ [x]) t = updF (lx L) L.length x t := by
  unfold lx updF
  by_cases e : t = L.length
  · rw [if_pos e]; subst e; simp [List.getD]
  · rw [if_neg e]
    have : t < L.length := by omega
    simp [List.getD, List.getElem?_append, this]
theorem gotP_snoc {w : World} {base : Nat} {v : Value} {L : List Int} {S : Int → Int} {x s : Int} (h : w.ownsRow base 43 2 v (L.length + 1) (ptL (lx L) (ly S L) L.length ++ [.int .i64 x, .int .i64 s])) (hs : s = S x) : GotP w base v (L ++ [x]).length (lx (L ++ [x])) (ly S (L ++ [x])) := by
  have h2 := gotP_next h
  have e : (L ++ [x]).length = L.length + 1 := by simp
  rw [e]
  refine gotP_congr h2 fun t ht => ?_
  refine ⟨(lx_snoc L x t ht).symm, ?_⟩
  have h3 := lx_snoc L x t ht
  unfold ly
  show updF (fun t => S (L.getD t 0)) L.length s t = S (lx (L ++ [x]) t)
  rw [h3]
  unfold updF
  by_cases e : t = L.length
  · rw [if_pos e, if_pos e]; exact hs
  · rw [if_neg e, if_neg e]; rfl
/-- .. and each number of such a list. -/
theorem lx_mem {L : List Int} {t : Nat} (ht : t < L.length) : lx L t ∈ L := by
  unfold lx; simp only [List.getD, List.getElem?_eq_getElem ht, Option.getD_some]; exact List.getElem_mem _
theorem mem_lx {L : List Int} {x : Int} (h : x ∈ L) : ∃ t, t < L.length ∧ lx L t = x := by
  obtain ⟨i, hi, e⟩ := List.mem_iff_getElem.1 h
  exact ⟨i, hi, by unfold lx; simp only [List.getD, List.getElem?_eq_getElem hi, Option.getD_some]; exact e⟩
theorem lx_lt {L : List Int} (h : SA L) {i j : Nat} (hij : i < j) (hj : j < L.length) : lx L i < lx L j := by
  have := List.pairwise_iff_getElem.1 h i j (by omega) hj hij
  unfold lx; simp only [List.getD, List.getElem?_eq_getElem hj, List.getElem?_eq_getElem (show i < L.length by omega), Option.getD_some]; exact this
end Go.Proofs.Ytilejadeknaleaa.Cu

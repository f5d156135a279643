/-
  The plain mathematics of shares: what is left over goes to the greatest remainders, the least index first.
-/
import Derived.Test.YtbcjigociliflaaQuLst
namespace Go.Proofs.Ytbcjigociliflaa.Qu

/-- Index i stands before index j: its remainder is greater, or equal and its index is not greater. -/
def bef (r : Nat → Int) (i j : Nat) : Bool := decide (r j < r i ∨ (r i = r j ∧ i ≤ j))
theorem bef_iff {r : Nat → Int} {i j : Nat} : bef r i j = true ↔ (r j < r i ∨ (r i = r j ∧ i ≤ j)) := by unfold bef; exact decide_eq_true_iff
theorem bef_trans (r : Nat → Int) (a b c : Nat) (h1 : bef r a b = true) (h2 : bef r b c = true) : bef r a c = true := by
  rw [bef_iff] at *; omega
theorem bef_total (r : Nat → Int) (a b : Nat) : (bef r a b || bef r b a) = true := by
  rw [Bool.or_eq_true, bef_iff, bef_iff]; omega
theorem bef_anti {r : Nat → Int} {a b : Nat} (h1 : bef r a b = true) (h2 : bef r b a = true) : a = b := by
  rw [bef_iff] at *; omega

/-- The indices below n, in order. -/
def ordL (r : Nat → Int) (n : Nat) : List Nat := (List.range n).mergeSort (bef r)
theorem ordL_perm (r : Nat → Int) (n : Nat) : (ordL r n).Perm (List.range n) := List.mergeSort_perm _ _
theorem ordL_len (r : Nat → Int) (n : Nat) : (ordL r n).length = n := by rw [(ordL_perm r n).length_eq]; simp
theorem ordL_nodup (r : Nat → Int) (n : Nat) : (ordL r n).Nodup := (ordL_perm r n).nodup_iff.2 List.nodup_range
theorem ordL_mem (r : Nat → Int) (n i : Nat) : i ∈ ordL r n ↔ i < n := by rw [(ordL_perm r n).mem_iff]; simp
theorem ordL_sorted (r : Nat → Int) (n : Nat) : (ordL r n).Pairwise (fun a b => bef r a b = true) :=
  List.pairwise_mergeSort (bef_trans r) (bef_total r) _

def ordA (r : Nat → Int) (n k : Nat) : Nat := (ordL r n).getD k 0
theorem ordA_get (r : Nat → Int) (n k : Nat) (hk : k < n) : ordA r n k = (ordL r n)[k]'(by rw [ordL_len]; exact hk) := by
  unfold ordA; simp [List.getD, ordL_len, hk]
theorem ordA_lt (r : Nat → Int) (n k : Nat) (hk : k < n) : ordA r n k < n := by
  rw [← ordL_mem r, ordA_get r n k hk]; exact List.getElem_mem _

/-- The first k indices of the order. -/
def tak (r : Nat → Int) (n k : Nat) : List Nat := (ordL r n).take k
theorem tak_succ (r : Nat → Int) (n k : Nat) (hk : k < n) : tak r n (k + 1) = tak r n k ++ [ordA r n k] := by
  unfold tak; rw [ordA_get r n k hk, List.take_succ_eq_append_getElem]
theorem ordA_fresh (r : Nat → Int) (n k : Nat) (hk : k < n) : ordA r n k ∉ tak r n k := by
  have h := ordL_nodup r n
  rw [← List.take_append_drop (k + 1) (ordL r n)] at h
  have h2 := (List.nodup_append.1 h).1
  have h3 : (ordL r n).take (k + 1) = tak r n (k + 1) := rfl
  rw [h3, tak_succ r n k hk] at h2
  have h4 := (List.nodup_append.1 h2).2.2
  intro hm
  exact h4 _ hm _ (List.mem_singleton.2 rfl) rfl
theorem ordA_first (r : Nat → Int) (n k j : Nat) (hk : k < n) (hj : j < n) (hn : j ∉ tak r n k) : bef r (ordA r n k) j = true := by
  have hs := ordL_sorted r n
  rw [← List.take_append_drop k (ordL r n)] at hs
  have h1 := (List.pairwise_append.1 hs).2.1
  have hm : j ∈ (ordL r n).drop k := by
    have : j ∈ ordL r n := (ordL_mem r n j).2 hj
    rw [← List.take_append_drop k (ordL r n), List.mem_append] at this
    rcases this with h | h
    · exact absurd h hn
    · exact h
  rw [List.drop_eq_getElem_cons (by rw [ordL_len]; exact hk), ← ordA_get r n k hk] at h1 hm
  rcases List.mem_cons.1 hm with rfl | hm
  · rw [bef_iff]; omega
  · exact (List.pairwise_cons.1 h1).1 j hm
theorem tak_zero (r : Nat → Int) (n : Nat) : tak r n 0 = [] := rfl

/-- One more for each of the first k. -/
def plus (r : Nat → Int) (n k i : Nat) : Int := if i ∈ tak r n k then 1 else 0
theorem plus_zero (r : Nat → Int) (n i : Nat) : plus r n 0 i = 0 := by unfold plus; rw [tak_zero]; simp
theorem plus_succ (r : Nat → Int) (n k i : Nat) (hk : k < n) : plus r n (k + 1) i = if i = ordA r n k then plus r n k i + 1 else plus r n k i := by
  unfold plus
  rw [tak_succ r n k hk]
  by_cases e : i = ordA r n k
  · subst e; rw [if_pos (by simp), if_pos rfl, if_neg (ordA_fresh r n k hk)]; rfl
  · rw [if_neg e]; simp [e]
theorem plus_bd (r : Nat → Int) (n k i : Nat) : 0 ≤ plus r n k i ∧ plus r n k i ≤ 1 := by unfold plus; split <;> omega

/-- The remainders that are left behind k rounds; -1 for what has got one. -/
def rst (r : Nat → Int) (n k i : Nat) : Int := if i ∈ tak r n k then -1 else r i
theorem rst_zero (r : Nat → Int) (n i : Nat) : rst r n 0 i = r i := by unfold rst; rw [tak_zero]; simp
theorem rst_succ (r : Nat → Int) (n k i : Nat) (hk : k < n) : rst r n (k + 1) i = if i = ordA r n k then -1 else rst r n k i := by
  unfold rst
  rw [tak_succ r n k hk]
  by_cases e : i = ordA r n k
  · subst e; rw [if_pos (by simp), if_pos rfl]
  · rw [if_neg e]; simp [e]

/-- The best index among the first i. -/
def BestIs (r : Nat → Int) (n k i : Nat) (b : Int) : Prop :=
  (b = -1 ∧ ∀ j, j < i → j ∈ tak r n k) ∨ ∃ m : Nat, b = m ∧ m < i ∧ m ∉ tak r n k ∧ ∀ j, j < i → j ∉ tak r n k → bef r m j = true
theorem best_zero (r : Nat → Int) (n k : Nat) : BestIs r n k 0 (-1) := .inl ⟨rfl, fun _ h => absurd h (Nat.not_lt_zero _)⟩
theorem best_pass (r : Nat → Int) (n k i : Nat) (b : Int) (h : BestIs r n k i b) (hi : i ∈ tak r n k) : BestIs r n k (i + 1) b := by
  rcases h with ⟨h1, h2⟩ | ⟨m, h1, h2, h3, h4⟩
  · refine .inl ⟨h1, fun j hj => ?_⟩
    by_cases e : j = i
    · subst e; exact hi
    · exact h2 j (by omega)
  · refine .inr ⟨m, h1, by omega, h3, fun j hj hn => ?_⟩
    by_cases e : j = i
    · subst e; exact absurd hi hn
    · exact h4 j (by omega) hn
theorem best_first (r : Nat → Int) (n k i : Nat) (h : BestIs r n k i (-1)) (hi : i ∉ tak r n k) : BestIs r n k (i + 1) i := by
  rcases h with ⟨_, h2⟩ | ⟨m, h1, h2, h3, h4⟩
  · refine .inr ⟨i, rfl, by omega, hi, fun j hj hn => ?_⟩
    by_cases e : j = i
    · subst e; rw [bef_iff]; omega
    · exact absurd (h2 j (by omega)) hn
  · omega
theorem best_take (r : Nat → Int) (n k i m : Nat) (h : BestIs r n k i m) (hi : i ∉ tak r n k) (hr : r m < r i) : BestIs r n k (i + 1) i := by
  rcases h with ⟨h1, _⟩ | ⟨m', h1, h2, h3, h4⟩
  · omega
  · obtain rfl : m = m' := by omega
    refine .inr ⟨i, rfl, by omega, hi, fun j hj hn => ?_⟩
    by_cases e : j = i
    · subst e; rw [bef_iff]; omega
    · exact bef_trans r _ _ _ (bef_iff.2 (.inl hr)) (h4 j (by omega) hn)
theorem best_keep (r : Nat → Int) (n k i m : Nat) (h : BestIs r n k i m) (hi : i ∉ tak r n k) (hr : r i ≤ r m) : BestIs r n k (i + 1) m := by
  rcases h with ⟨h1, _⟩ | ⟨m', h1, h2, h3, h4⟩
  · omega
  · obtain rfl : m = m' := by omega
    refine .inr ⟨m, rfl, by omega, h3, fun j hj hn => ?_⟩
    by_cases e : j = i
    · subst e; rw [bef_iff]; omega
    · exact h4 j (by omega) hn
theorem best_lt {r : Nat → Int} {n k i m : Nat} (h : BestIs r n k i m) : m < i ∧ m ∉ tak r n k := by
  rcases h with ⟨h1, _⟩ | ⟨m', h1, h2, h3, h4⟩
  · omega
  · obtain rfl : m = m' := by omega
    exact ⟨h2, h3⟩
theorem best_end (r : Nat → Int) (n k : Nat) (b : Int) (hk : k < n) (h : BestIs r n k n b) : b = ordA r n k := by
  rcases h with ⟨_, h2⟩ | ⟨m, h1, h2, h3, h4⟩
  · exact absurd (h2 _ (ordA_lt r n k hk)) (ordA_fresh r n k hk)
  · have e1 := h4 _ (ordA_lt r n k hk) (ordA_fresh r n k hk)
    have e2 := ordA_first r n k m hk h2 h3
    rw [h1, bef_anti e1 e2]

/-! ### the parts -/
def qF (z : Nat → Int) (a t : Int) (i : Nat) : Int := a * z i / t
def rF (z : Nat → Int) (a t : Int) (i : Nat) : Int := a * z i % t
theorem qr (z : Nat → Int) (a t : Int) (i : Nat) : a * z i = t * qF z a t i + rF z a t i := by unfold qF rF; exact (Int.mul_ediv_add_emod _ _).symm
theorem rF_lo (z : Nat → Int) (a t : Int) (i : Nat) (ht : 0 < t) : 0 ≤ rF z a t i := Int.emod_nonneg _ (by omega)
theorem rF_hi (z : Nat → Int) (a t : Int) (i : Nat) (ht : 0 < t) : rF z a t i < t := Int.emod_lt_of_pos _ ht
theorem qF_lo (z : Nat → Int) (a t : Int) (i : Nat) (ht : 0 < t) (ha : 0 ≤ a) (hz : 0 ≤ z i) : 0 ≤ qF z a t i := Int.ediv_nonneg (Int.mul_nonneg ha hz) (by omega)
theorem sumZ_mul (z : Nat → Int) (a : Int) : ∀ n, sumZ (fun i => a * z i) n = a * sumZ z n
  | 0 => by simp [sumZ]
  | n + 1 => by unfold sumZ; rw [sumZ_mul z a n, Int.mul_add]
theorem sumZ_add (f g : Nat → Int) : ∀ n, sumZ (fun i => f i + g i) n = sumZ f n + sumZ g n
  | 0 => by simp [sumZ]
  | n + 1 => by unfold sumZ; rw [sumZ_add f g n]; omega
theorem sumZ_congr {f g : Nat → Int} : ∀ {n : Nat}, (∀ i, i < n → f i = g i) → sumZ f n = sumZ g n
  | 0, _ => rfl
  | n + 1, h => by unfold sumZ; rw [sumZ_congr (fun i hi => h i (by omega)), h n (by omega)]
theorem sumZ_le (z : Nat → Int) : ∀ (n : Nat) (i : Nat), (∀ i, i < n → 0 ≤ z i) → i < n → z i ≤ sumZ z n
  | 0, _, _, hi => absurd hi (Nat.not_lt_zero _)
  | n + 1, i, h, hi => by
    have h0 : ∀ k, k ≤ n → 0 ≤ sumZ z k := by
      intro k; induction k with
      | zero => intro _; simp [sumZ]
      | succ k ih => intro hk; unfold sumZ; have := ih (by omega); have := h k (by omega); omega
    have := h0 n (Nat.le_refl _)
    unfold sumZ
    by_cases e : i = n
    · subst e; omega
    · have := sumZ_le z n i (fun j hj => h j (by omega)) (by omega); have := h n (by omega); omega

/-- What is left over. -/
def lef (z : Nat → Int) (a t : Int) (k : Nat) : Int := a - sumZ (qF z a t) k
theorem rest_sum (z : Nat → Int) (a : Int) (n : Nat) : sumZ (rF z a (sumZ z n)) n = sumZ z n * lef z a (sumZ z n) n := by
  have h1 : sumZ (fun i => a * z i) n = sumZ (fun i => sumZ z n * qF z a (sumZ z n) i + rF z a (sumZ z n) i) n := sumZ_congr fun i _ => qr z a (sumZ z n) i
  rw [sumZ_mul, sumZ_add, sumZ_mul] at h1
  unfold lef
  rw [Int.mul_sub, Int.mul_comm (sumZ z n) a]
  omega
theorem rest_bd (z : Nat → Int) (a t : Int) (ht : 0 < t) : ∀ n, 0 ≤ sumZ (rF z a t) n ∧ sumZ (rF z a t) n ≤ (t - 1) * n
  | 0 => by simp [sumZ]
  | n + 1 => by
    have h := rest_bd z a t ht n
    have h1 := rF_lo z a t n ht
    have h2 := rF_hi z a t n ht
    have e : (t - 1) * ((n + 1 : Nat) : Int) = (t - 1) * n + (t - 1) := by rw [Int.natCast_add, Int.mul_add]; simp
    unfold sumZ
    rw [e]
    omega
theorem lef_bd (z : Nat → Int) (a : Int) (n : Nat) (hn : 0 < n) (ht : 0 < sumZ z n) : 0 ≤ lef z a (sumZ z n) n ∧ lef z a (sumZ z n) n < n := by
  have h := rest_sum z a n
  have h2 := rest_bd z a (sumZ z n) ht n
  generalize hT : sumZ z n = T at *
  generalize hL : lef z a T n = L at *
  constructor
  · apply Classical.byContradiction
    intro hc
    have : T * L ≤ T * (-1) := Int.mul_le_mul_of_nonneg_left (by omega) (by omega)
    omega
  · apply Classical.byContradiction
    intro hc
    have h3 : T * n ≤ T * L := Int.mul_le_mul_of_nonneg_left (by omega) (by omega)
    have h4 : (T - 1) * (n : Int) = T * n - n := by rw [Int.sub_mul]; simp
    omega
theorem lef_mono (z : Nat → Int) (a t : Int) (n : Nat) (ht : 0 < t) (ha : 0 ≤ a) (hz : ∀ i, i < n → 0 ≤ z i) : ∀ k, k ≤ n → lef z a t k ≤ a := by
  intro k
  induction k with
  | zero => intro _; simp [lef, sumZ]
  | succ k ih =>
    intro hk
    have h1 := ih (by omega)
    have h2 := qF_lo z a t k ht ha (hz k (by omega))
    have h3 : lef z a t (k + 1) = lef z a t k - qF z a t k := by unfold lef; rw [sumZ]; omega
    omega
theorem lef_lo (z : Nat → Int) (a t : Int) (n : Nat) (ht : 0 < t) (ha : 0 ≤ a) (hz : ∀ i, i < n → 0 ≤ z i) : ∀ d k, k + d = n → lef z a t n ≤ lef z a t k := by
  intro d
  induction d with
  | zero => intro k hk; obtain rfl : k = n := by omega
            exact Int.le_refl _
  | succ d ih =>
    intro k hk
    have h1 := ih (k + 1) (by omega)
    have h2 := qF_lo z a t k ht ha (hz k (by omega))
    have h3 : lef z a t (k + 1) = lef z a t k - qF z a t k := by unfold lef; rw [sumZ]; omega
    omega

/-- P1.3: the shares. -/
def shF (z : Nat → Int) (a : Int) (n i : Nat) : Int := qF z a (sumZ z n) i + plus (rF z a (sumZ z n)) n (lef z a (sumZ z n) n).toNat i
def shCode (a : Int) (z : Nat → Int) (n : Nat) : Int := if chk a z n = 0 then (if a = 0 then 0 else if sumZ z n = 0 then 2 else 0) else 1
def shLen (a : Int) (z : Nat → Int) (n : Nat) : Nat := if shCode a z n = 0 then n else 0
def shVal (a : Int) (z : Nat → Int) (n i : Nat) : Int := if a = 0 then 0 else shF z a n i
end Go.Proofs.Ytbcjigociliflaa.Qu

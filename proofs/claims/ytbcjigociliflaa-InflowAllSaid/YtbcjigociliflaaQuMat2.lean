/-
  More mathematics of shares: they add up to the amount, each is within 1 of its exact part, a greater weight gets no less.
-/
import Derived.Test.YtbcjigociliflaaQuMath
namespace Go.Proofs.Ytbcjigociliflaa.Qu

theorem sumZ_one (g h : Nat → Int) (x : Nat) (e : ∀ i, h i = if i = x then g i + 1 else g i) : ∀ n, sumZ h n = sumZ g n + if x < n then 1 else 0
  | 0 => by simp [sumZ]
  | n + 1 => by
    unfold sumZ
    rw [sumZ_one g h x e n, e n]
    by_cases h1 : n = x
    · subst h1; rw [if_pos rfl, if_neg (Nat.lt_irrefl _), if_pos (by omega)]; omega
    · rw [if_neg h1]
      by_cases h2 : x < n
      · rw [if_pos h2, if_pos (by omega)]; omega
      · rw [if_neg h2, if_neg (by omega)]; omega
theorem sumZ_zero (n : Nat) : sumZ (fun _ => 0) n = 0 := by
  induction n with
  | zero => rfl
  | succ n ih => unfold sumZ; rw [ih]; rfl
theorem plus_sum (r : Nat → Int) (n : Nat) : ∀ k, k ≤ n → sumZ (plus r n k) n = k
  | 0, _ => by rw [sumZ_congr (fun i _ => plus_zero r n i), sumZ_zero]; rfl
  | k + 1, hk => by
    rw [sumZ_one (plus r n k) (plus r n (k + 1)) (ordA r n k) (fun i => plus_succ r n k i (by omega)) n, plus_sum r n k (by omega), if_pos (ordA_lt r n k (by omega))]
    omega
theorem tak_at (r : Nat → Int) (n L i : Nat) (hL : L ≤ n) (h : i ∈ tak r n L) : ∃ j, j < L ∧ i = ordA r n j := by
  induction L with
  | zero => rw [tak_zero] at h; cases h
  | succ L ih =>
    rw [tak_succ r n L (by omega), List.mem_append] at h
    rcases h with h | h
    · obtain ⟨j, h1, h2⟩ := ih (by omega) h
      exact ⟨j, by omega, h2⟩
    · exact ⟨L, by omega, List.mem_singleton.1 h⟩
theorem tak_mono (r : Nat → Int) (n j i : Nat) : ∀ L, j ≤ L → L ≤ n → i ∈ tak r n j → i ∈ tak r n L
  | 0, h, _, hi => by obtain rfl : j = 0 := by omega
                      exact hi
  | L + 1, h, hL, hi => by
    by_cases e : j = L + 1
    · subst e; exact hi
    · rw [tak_succ r n L (by omega), List.mem_append]
      exact .inl (tak_mono r n j i L (by omega) (by omega) hi)
theorem sumZ_mono (f g : Nat → Int) : ∀ n, (∀ i, i < n → f i ≤ g i) → sumZ f n ≤ sumZ g n
  | 0, _ => by simp [sumZ]
  | n + 1, h => by unfold sumZ; have := sumZ_mono f g n (fun i hi => h i (by omega)); have := h n (by omega); omega
/-- Whoever gets one of what is left has a remainder. -/
theorem tak_pos (z : Nat → Int) (a : Int) (n i L : Nat) (hn : 0 < n) (ht : 0 < sumZ z n) (hL : lef z a (sumZ z n) n = L) (hi : i ∈ tak (rF z a (sumZ z n)) n L) : 0 < rF z a (sumZ z n) i := by
  have hb := lef_bd z a n hn ht
  rw [hL] at hb
  obtain ⟨j, hj, rfl⟩ := tak_at _ n L i (by omega) hi
  have h1 := rF_lo z a (sumZ z n) (ordA (rF z a (sumZ z n)) n j) ht
  apply Classical.byContradiction
  intro hc
  have h0 : rF z a (sumZ z n) (ordA (rF z a (sumZ z n)) n j) = 0 := by omega
  have hall : ∀ i, i < n → rF z a (sumZ z n) i ≤ (sumZ z n - 1) * plus (rF z a (sumZ z n)) n j i := by
    intro i hi
    have hh := rF_hi z a (sumZ z n) i ht
    unfold plus
    by_cases hm : i ∈ tak (rF z a (sumZ z n)) n j
    · rw [if_pos hm]; omega
    · rw [if_neg hm]
      have := bef_iff.1 (ordA_first (rF z a (sumZ z n)) n j i (by omega) hi hm)
      omega
  have h2 := sumZ_mono _ _ n hall
  rw [sumZ_mul (plus (rF z a (sumZ z n)) n j) (sumZ z n - 1) n, plus_sum _ n j (by omega), rest_sum, hL] at h2
  generalize sumZ z n = T at *
  have h3 : T * (j : Int) + T ≤ T * (L : Int) := by
    have : T * ((j : Int) + 1) ≤ T * (L : Int) := Int.mul_le_mul_of_nonneg_left (by omega) (by omega)
    rw [Int.mul_add] at this
    omega
  have h4 : (T - 1) * (j : Int) = T * (j : Int) - j := by rw [Int.sub_mul]; simp
  omega

structure Fair (z : Nat → Int) (a : Int) (n : Nat) (s : Nat → Int) : Prop where
  all : sumZ s n = a
  lo : ∀ i, i < n → a * z i - sumZ z n + 1 ≤ s i * sumZ z n
  hi : ∀ i, i < n → s i * sumZ z n ≤ a * z i + sumZ z n - 1
  mono : ∀ i j, i < n → j < n → z i < z j → s i ≤ s j
  q : ∀ i, i < n → a * z i / sumZ z n ≤ s i ∧ s i ≤ a * z i / sumZ z n + 1
  pos : ∀ i, i < n → 0 ≤ s i
  left : 0 ≤ lef z a (sumZ z n) n ∧ lef z a (sumZ z n) n < n

theorem share_fair (z : Nat → Int) (a : Int) (n : Nat) (hn : 0 < n) (ht : 0 < sumZ z n) (ha : 0 ≤ a) (hz : ∀ i, i < n → 0 ≤ z i) : Fair z a n (shVal a z n) := by
  have hb := lef_bd z a n hn ht
  by_cases h0 : a = 0
  · subst h0
    have hv : shVal 0 z n = fun _ => 0 := by funext i; unfold shVal; rw [if_pos rfl]
    rw [hv]
    refine ⟨sumZ_zero n, fun i hi => by simp; omega, fun i hi => by simp; omega, fun i j _ _ _ => Int.le_refl _, fun i hi => by simp, fun i hi => Int.le_refl _, hb⟩
  have hv : shVal a z n = shF z a n := by funext i; unfold shVal; rw [if_neg h0]
  rw [hv]
  obtain ⟨L, hL⟩ : ∃ L : Nat, lef z a (sumZ z n) n = L := ⟨(lef z a (sumZ z n) n).toNat, by omega⟩
  have hs : ∀ i, shF z a n i = qF z a (sumZ z n) i + plus (rF z a (sumZ z n)) n L i := fun i => by unfold shF; rw [hL, Int.toNat_natCast]
  have hLn : L < n := by omega
  have hpos := fun i hi => tak_pos z a n i L hn ht hL hi
  have hsum : sumZ (shF z a n) n = a := by
    rw [sumZ_congr (fun i _ => hs i), sumZ_add, plus_sum _ n L (by omega)]
    unfold lef at hL
    omega
  have hq0 := fun i hi => qF_lo z a (sumZ z n) i ht ha (hz i hi)
  have hqr := fun i => qr z a (sumZ z n) i
  have hr0 := fun i => rF_lo z a (sumZ z n) i ht
  have hr1 := fun i => rF_hi z a (sumZ z n) i ht
  refine ⟨hsum, fun i hi => ?_, fun i hi => ?_, fun i j hi hj hij => ?_, fun i hi => ?_, fun i hi => ?_, hb⟩
  · rw [hs i, Int.add_mul, hqr i, Int.mul_comm (sumZ z n)]
    have h1 := hr1 i
    have h2 := (plus_bd (rF z a (sumZ z n)) n L i).1
    have h3 : 0 ≤ plus (rF z a (sumZ z n)) n L i * sumZ z n := Int.mul_nonneg h2 (by omega)
    omega
  · rw [hs i, Int.add_mul, hqr i, Int.mul_comm (sumZ z n)]
    have h1 := hr0 i
    unfold plus
    by_cases hm : i ∈ tak (rF z a (sumZ z n)) n L
    · rw [if_pos hm]; have := hpos i hm; omega
    · rw [if_neg hm]; omega
  · rw [hs i, hs j]
    have h1 := plus_bd (rF z a (sumZ z n)) n L i
    have h2 := plus_bd (rF z a (sumZ z n)) n L j
    have h3 : a * z i < a * z j := Int.mul_lt_mul_of_pos_left hij (by omega)
    have h4 : qF z a (sumZ z n) i ≤ qF z a (sumZ z n) j := Int.ediv_le_ediv ht (Int.le_of_lt h3)
    apply Classical.byContradiction
    intro hc
    have h5 : qF z a (sumZ z n) i = qF z a (sumZ z n) j := by omega
    have h6 : plus (rF z a (sumZ z n)) n L i = 1 := by omega
    have h7 : plus (rF z a (sumZ z n)) n L j = 0 := by omega
    have h8 := hqr i
    have h9 := hqr j
    rw [h5] at h8
    have hmi : i ∈ tak (rF z a (sumZ z n)) n L := by
      apply Classical.byContradiction; intro hx; unfold plus at h6; rw [if_neg hx] at h6; omega
    have hmj : j ∉ tak (rF z a (sumZ z n)) n L := by
      intro hx; unfold plus at h7; rw [if_pos hx] at h7; omega
    obtain ⟨m, hm, rfl⟩ := tak_at _ n L i (by omega) hmi
    have := bef_iff.1 (ordA_first (rF z a (sumZ z n)) n m j (by omega) hj (fun hx => hmj (tak_mono _ n m j L (by omega) (by omega) hx)))
    omega
  · rw [hs i]
    have h1 := plus_bd (rF z a (sumZ z n)) n L i
    unfold qF
    omega
  · rw [hs i]
    have h1 := plus_bd (rF z a (sumZ z n)) n L i
    have := hq0 i hi
    omega
end Go.Proofs.Ytbcjigociliflaa.Qu

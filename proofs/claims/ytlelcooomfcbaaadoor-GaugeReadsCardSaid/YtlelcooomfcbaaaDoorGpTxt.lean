/-
  What Print writes Parse reads back: the texts alone, no code.
-/
import Derived.Test.YtlelcooomfcbaaaDoorGpPri
import Derived.Test.YtlelcooomfcbaaaDoorGpPrs
namespace Go.Proofs.YtlelcooomfcbaaaDoor.Gg
set_option linter.unusedVariables false

abbrev bT (l : List UInt8) : ByteArray := ⟨l.toArray⟩
theorem bT_size (l : List UInt8) : (bT l).size = l.length := by simp [ByteArray.size]
theorem bT_ext (l : List UInt8) (i j : Nat) : (bT l).extract i j = bT ((l.take j).drop i) := by
  apply ByteArray.ext
  rw [ByteArray.data_extract, List.drop_take]
  simp
theorem bT_mid (pre w suf : List UInt8) : (bT (pre ++ (w ++ suf))).extract pre.length (pre.length + w.length) = bT w := by
  rw [bT_ext, ← List.append_assoc, List.take_append_of_le_length (by simp), List.take_of_length_le (by simp)]
  simp
theorem sB_bT (l : List UInt8) (i : Nat) (x : UInt8) (h : l[i]? = some x) : sB (bT l) i = (x.toNat : Int) := by
  have hi : i < l.length := by
    rcases Nat.lt_or_ge i l.length with h1 | h1
    · exact h1
    · rw [List.getElem?_eq_none h1] at h; cases h
  have hs : i < (bT l).size := by rw [bT_size]; exact hi
  obtain ⟨y, h1, h2⟩ := sB_list (bT l) i hs
  rw [h2]
  have e : (bT l).data.toList = l := by simp
  rw [e, h] at h1
  rw [Option.some.inj h1]
theorem sB_mid (pre w suf : List UInt8) (j : Nat) (hj : j < w.length) : ∃ x ∈ w, sB (bT (pre ++ (w ++ suf))) (pre.length + j) = (x.toNat : Int) := by
  refine ⟨w[j], List.getElem_mem hj, sB_bT _ _ _ ?_⟩
  rw [List.getElem?_append_right (by omega), show pre.length + j - pre.length = j by omega, List.getElem?_append_left hj, List.getElem?_eq_getElem hj]
theorem sB_behind (pre w : List UInt8) (c : UInt8) (suf : List UInt8) : sB (bT (pre ++ (w ++ c :: suf))) (pre.length + w.length) = (c.toNat : Int) := by
  refine sB_bT _ _ _ ?_
  rw [List.getElem?_append_right (by omega), show pre.length + w.length - pre.length = w.length by omega, List.getElem?_append_right (Nat.le_refl _), Nat.sub_self]
  rfl
theorem bT_rest (pre w : List UInt8) (c : UInt8) (suf : List UInt8) : (bT (w ++ c :: suf)).extract (w.length + 1) (bT (w ++ c :: suf)).size = bT suf := by
  rw [bT_ext, bT_size, List.take_of_length_le (Nat.le_refl _)]
  rw [show w ++ c :: suf = (w ++ [c]) ++ suf by simp, show w.length + 1 = (w ++ [c]).length by simp, List.drop_left]
/-- Nothing that parts lines; nothing that parts words. -/
def NoL (l : List UInt8) : Prop := ∀ x ∈ l, x.toNat ≠ 10
def NoW (l : List UInt8) : Prop := ∀ x ∈ l, x.toNat ≠ 32 ∧ x.toNat ≠ 10
theorem lines_cons (l rest : List UInt8) (h : NoL l) : linesG (bT (l ++ 10 :: rest)) = bT l :: linesG (bT rest) := by
  have h1 := lines_hit (bT (l ++ 10 :: rest)) l.length (by rw [bT_size]; simp) (by have h := sB_behind [] l 10 rest; simpa using h) (fun j hj => by
    obtain ⟨x, hx, e⟩ := sB_mid [] l (10 :: rest) j hj
    have e2 : sB (bT (l ++ 10 :: rest)) j = (x.toNat : Int) := by simpa using e
    rw [e2]
    have := h x hx
    omega)
  rw [h1, bT_rest [] l 10 rest]
  have h2 := bT_mid [] l (10 :: rest)
  simp only [List.nil_append, List.length_nil, Nat.zero_add] at h2
  rw [h2]
theorem lines_nil : linesG (bT []) = [bT []] := lines_miss _ (fun i hi => by rw [bT_size] at hi; simp at hi)
/-- A word behind what is read. -/
theorem wd_word (s : ByteArray) (a n : Nat) (acc : List ByteArray) (h0 : wdG s a = (acc, a)) (hn : 1 ≤ n) (hns : ∀ j, j < n → sepW s (a + j) = false) (hs : sepW s (a + n) = true) : wdG s (a + n + 1) = (acc ++ [s.extract a (a + n)], a + n + 1) := by
  have h1 : wdG s (a + n) = (acc, a) := by rw [wd_skip s a n hns, h0]
  show (if sepW s (a + n) = true then ((if (wdG s (a + n)).2 < a + n then (wdG s (a + n)).1 ++ [s.extract (wdG s (a + n)).2 (a + n)] else (wdG s (a + n)).1), a + n + 1) else wdG s (a + n)) = _
  rw [if_pos hs, h1]
  show ((if a < a + n then acc ++ [s.extract a (a + n)] else acc), a + n + 1) = _
  rw [if_pos (by omega)]
theorem sep_in (pre w suf : List UInt8) (h : NoW w) (j : Nat) (hj : j < w.length) : sepW (bT (pre ++ (w ++ suf))) (pre.length + j) = false := by
  obtain ⟨x, hx, e⟩ := sB_mid pre w suf j hj
  have := h x hx
  unfold sepW
  rw [decide_eq_false_iff_not, e, bT_size]
  simp only [List.length_append]
  omega
theorem wd_piece (pre w suf : List UInt8) (acc : List ByteArray) (h0 : wdG (bT (pre ++ (w ++ 32 :: suf))) pre.length = (acc, pre.length)) (hn : 1 ≤ w.length) (h : NoW w) :
    wdG (bT (pre ++ (w ++ 32 :: suf))) (pre.length + w.length + 1) = (acc ++ [bT w], pre.length + w.length + 1) := by
  have h1 := wd_word _ pre.length w.length acc h0 hn (fun j hj => sep_in pre w (32 :: suf) h j hj) (by
    unfold sepW
    rw [decide_eq_true_eq, sB_behind pre w 32 suf]
    exact .inr (.inl rfl))
  rw [h1, bT_mid pre w (32 :: suf)]
theorem wd_last (pre w : List UInt8) (acc : List ByteArray) (h0 : wdG (bT (pre ++ (w ++ []))) pre.length = (acc, pre.length)) (hn : 1 ≤ w.length) (h : NoW w) :
    wordsG (bT (pre ++ (w ++ []))) = acc ++ [bT w] := by
  have h1 := wd_word _ pre.length w.length acc h0 hn (fun j hj => sep_in pre w [] h j hj) (by
    unfold sepW
    rw [decide_eq_true_eq, bT_size]
    exact .inl (by simp))
  have e : (pre ++ (w ++ [])).length = pre.length + w.length := by simp
  unfold wordsG
  rw [bT_size, e, h1, bT_mid pre w []]
theorem words_four (a b c d : List UInt8) (ha : 1 ≤ a.length) (hb : 1 ≤ b.length) (hc : 1 ≤ c.length) (hd : 1 ≤ d.length) (na : NoW a) (nb : NoW b) (nc : NoW c) (nd : NoW d) :
    wordsG (bT ([] ++ (a ++ 32 :: (b ++ 32 :: (c ++ 32 :: d))))) = [bT a, bT b, bT c, bT d] := by
  have l1 : (a ++ [(32 : UInt8)]).length = ([] : List UInt8).length + a.length + 1 := by simp
  have l2 : (a ++ [(32 : UInt8)] ++ b ++ [(32 : UInt8)]).length = (a ++ [(32 : UInt8)]).length + b.length + 1 := by simp only [List.length_append, List.length_singleton]
  have l3 : (a ++ [(32 : UInt8)] ++ b ++ [(32 : UInt8)] ++ c ++ [(32 : UInt8)]).length = (a ++ [(32 : UInt8)] ++ b ++ [(32 : UInt8)]).length + c.length + 1 := by simp only [List.length_append, List.length_singleton]
  have h1 := wd_piece [] a (b ++ 32 :: (c ++ 32 :: d)) [] rfl ha na
  have e2 : [] ++ (a ++ 32 :: (b ++ 32 :: (c ++ 32 :: d))) = (a ++ [32]) ++ (b ++ 32 :: (c ++ 32 :: d)) := by simp
  rw [e2] at h1 ⊢
  have h2 := wd_piece (a ++ [32]) b (c ++ 32 :: d) [bT a] (by rw [l1]; exact h1) hb nb
  have e3 : (a ++ [32]) ++ (b ++ 32 :: (c ++ 32 :: d)) = (a ++ [32] ++ b ++ [32]) ++ (c ++ 32 :: d) := by simp
  rw [e3] at h2 ⊢
  have h3 := wd_piece (a ++ [32] ++ b ++ [32]) c d [bT a, bT b] (by rw [l2]; exact h2) hc nc
  have e4 : (a ++ [32] ++ b ++ [32]) ++ (c ++ 32 :: d) = (a ++ [32] ++ b ++ [32] ++ c ++ [32]) ++ (d ++ []) := by simp
  rw [e4] at h3 ⊢
  exact wd_last (a ++ [32] ++ b ++ [32] ++ c ++ [32]) d [bT a, bT b, bT c] (by rw [l3]; exact h3) hd nd

/-! ### numerals -/
theorem dd_small {u : Nat} (h : u < 10) : Lib.decDigits u = [UInt8.ofNat (48 + u)] := Lib.decDigits_one h
theorem dd_big {u : Nat} (h : ¬ u < 10) : Lib.decDigits u = Lib.decDigits (u / 10) ++ [UInt8.ofNat (48 + u % 10)] := by rw [Lib.decDigits, dif_neg h]
theorem dg_nat (d : Nat) (h : d < 10) : (UInt8.ofNat (48 + d)).toNat = 48 + d := by
  have e : (UInt8.ofNat (48 + d)).toNat = (48 + d) % 256 := rfl
  omega
theorem dd_dig : ∀ (f u : Nat), u ≤ f → ∀ x ∈ Lib.decDigits u, 48 ≤ x.toNat ∧ x.toNat ≤ 57
  | f, u, hf => by
    intro x hx
    by_cases h : u < 10
    · rw [dd_small h, List.mem_singleton] at hx
      subst hx
      rw [dg_nat u h]; omega
    · rw [dd_big h, List.mem_append] at hx
      rcases hx with hx | hx
      · cases f with
        | zero => omega
        | succ f => exact dd_dig f (u / 10) (by omega) x hx
      · rw [List.mem_singleton] at hx
        subst hx
        rw [dg_nat (u % 10) (by omega)]; omega
theorem dd_len : ∀ (k u : Nat), 1 ≤ k → u < 10 ^ k → 1 ≤ (Lib.decDigits u).length ∧ (Lib.decDigits u).length ≤ k
  | 0, u, h1, _ => absurd h1 (by omega)
  | k + 1, u, _, hu => by
    by_cases h : u < 10
    · rw [dd_small h]; simp
    · rw [dd_big h]
      have hk : 1 ≤ k := by
        rcases Nat.eq_zero_or_pos k with rfl | h1
        · simp at hu; omega
        · exact h1
      have ih := dd_len k (u / 10) hk (by rw [Nat.pow_succ] at hu; omega)
      simp only [List.length_append, List.length_singleton]
      omega
theorem nuV_congr (B C : Nat → Int) : ∀ n, (∀ i, i < n → B i = C i) → nuV B n = nuV C n
  | 0, _ => rfl
  | n + 1, h => by
    show 10 * nuV B n + (B n - 48) = 10 * nuV C n + (C n - 48)
    rw [nuV_congr B C n (fun i hi => h i (by omega)), h n (by omega)]
theorem sB_left (a b : List UInt8) (i : Nat) (h : i < a.length) : sB (bT (a ++ b)) i = sB (bT a) i := by
  rw [sB_bT (a ++ b) i a[i] (by rw [List.getElem?_append_left h, List.getElem?_eq_getElem h]), sB_bT a i a[i] (List.getElem?_eq_getElem h)]
theorem dd_val : ∀ (f u : Nat), u ≤ f → nuV (sB (bT (Lib.decDigits u))) (Lib.decDigits u).length = (u : Int)
  | f, u, hf => by
    by_cases h : u < 10
    · rw [dd_small h]
      show 10 * 0 + (sB (bT [UInt8.ofNat (48 + u)]) 0 - 48) = (u : Int)
      rw [sB_bT [UInt8.ofNat (48 + u)] 0 (UInt8.ofNat (48 + u)) rfl, dg_nat u h]
      omega
    · have ih : nuV (sB (bT (Lib.decDigits (u / 10)))) (Lib.decDigits (u / 10)).length = ((u / 10 : Nat) : Int) := by
        cases f with
        | zero => omega
        | succ f => exact dd_val f (u / 10) (by omega)
      rw [dd_big h]
      generalize Lib.decDigits (u / 10) = D at *
      rw [List.length_append, List.length_singleton]
      show 10 * nuV (sB (bT (D ++ [UInt8.ofNat (48 + u % 10)]))) D.length + (sB (bT (D ++ [UInt8.ofNat (48 + u % 10)])) D.length - 48) = (u : Int)
      rw [nuV_congr _ (sB (bT D)) D.length (fun i hi => sB_left D _ i hi), ih, sB_bT (D ++ [UInt8.ofNat (48 + u % 10)]) D.length (UInt8.ofNat (48 + u % 10)) (by rw [List.getElem?_append_right (Nat.le_refl _), Nat.sub_self]; rfl), dg_nat (u % 10) (by omega)]
      omega
theorem itoa_pos (x : Int) (h : 0 ≤ x) : Lib.itoa x = Lib.decDigits x.toNat := by unfold Lib.itoa; rw [if_neg (by omega)]
/-- A numeral is read as its number. -/
theorem itoa_back (x : Int) (h0 : 0 ≤ x) (h1 : x ≤ 9999999999) : nuK (bT (Lib.itoa x)) = true ∧ nuI (bT (Lib.itoa x)) = x ∧ NoW (Lib.itoa x) ∧ 1 ≤ (Lib.itoa x).length := by
  rw [itoa_pos x h0]
  have hl := dd_len 10 x.toNat (by omega) (by omega)
  have hd := dd_dig x.toNat x.toNat (Nat.le_refl _)
  have hv := dd_val x.toNat x.toNat (Nat.le_refl _)
  generalize Lib.decDigits x.toNat = D at *
  have hD : Dg (sB (bT D)) D.length := fun i hi => by
    rw [sB_bT D i D[i] (List.getElem?_eq_getElem hi)]
    have := hd D[i] (List.getElem_mem hi)
    omega
  obtain ⟨y1, y2⟩ := nuB_yes hl.1 hl.2 hD
  refine ⟨?_, ?_, fun y hy => ?_, hl.1⟩
  · unfold nuK; rw [bT_size]; exact y1
  · unfold nuI; rw [bT_size, y2, hv]; omega
  · have := hd y hy
    omega
theorem fw_back (f : Int) (h : f = 0 ∨ f = 1 ∨ f = 2) : flG (bT (fwL f)) = f ∧ NoW (fwL f) ∧ 1 ≤ (fwL f).length := by
  rcases h with rfl | rfl | rfl
  · exact ⟨by decide +kernel, by unfold NoW; decide +kernel, by decide⟩
  · exact ⟨by decide +kernel, by unfold NoW; decide +kernel, by decide⟩
  · exact ⟨by decide +kernel, by unfold NoW; decide +kernel, by decide⟩

/-! ### lines of readings -/
def lnB (r : Nat → Int) : List UInt8 := [] ++ (Lib.itoa (r 0) ++ 32 :: (Lib.itoa (r 1) ++ 32 :: (Lib.itoa (r 2) ++ 32 :: fwL (r 3))))
theorem lnL_eq (r : Nat → Int) (t : List UInt8) : lnL r ++ t = lnB r ++ 10 :: t := by
  unfold lnL lnB
  simp [pcL]
theorem ln_back (r : Nat → Int) (h : Vr r) : NoL (lnB r) ∧ (wordsG (bT (lnB r))).length = 4 ∧ rdE (wordsG (bT (lnB r))) = 0 ∧ ∀ j, j < 4 → rdV (wordsG (bT (lnB r))) j = r j := by
  have hv := h
  unfold Vr at h
  obtain ⟨a1, a2, a3, a4⟩ := itoa_back (r 0) (by omega) (by omega)
  obtain ⟨b1, b2, b3, b4⟩ := itoa_back (r 1) (by omega) (by omega)
  obtain ⟨c1, c2, c3, c4⟩ := itoa_back (r 2) (by omega) (by omega)
  obtain ⟨d1, d2, d3⟩ := fw_back (r 3) (by omega)
  have hw := words_four _ _ _ _ a4 b4 c4 d3 a3 b3 c3 d2
  refine ⟨?_, ?_, ?_, ?_⟩
  · intro x hx
    unfold lnB at hx
    simp only [List.nil_append, List.mem_append, List.mem_cons] at hx
    rcases hx with hx | rfl | hx | rfl | hx | rfl | hx
    · exact (a3 x hx).2
    · decide
    · exact (b3 x hx).2
    · decide
    · exact (c3 x hx).2
    · decide
    · exact (d2 x hx).2
  · unfold lnB; rw [hw]; rfl
  all_goals
    unfold lnB
    rw [hw]
  · have hk : rdK [bT (Lib.itoa (r 0)), bT (Lib.itoa (r 1)), bT (Lib.itoa (r 2)), bT (fwL (r 3))] = true := by
      show (decide (4 = 4) && (nuK (bT (Lib.itoa (r 0))) && (nuK (bT (Lib.itoa (r 1))) && (nuK (bT (Lib.itoa (r 2))) && decide (0 ≤ flG (bT (fwL (r 3)))))))) = true
      rw [a1, b1, c1, d1, decide_eq_true (show (0 : Int) ≤ r 3 by omega)]
      rfl
    unfold rdE
    rw [if_pos hk]
    show ckG (nuI (bT (Lib.itoa (r 0)))) (nuI (bT (Lib.itoa (r 1)))) (nuI (bT (Lib.itoa (r 2)))) (flG (bT (fwL (r 3)))) = 0
    rw [a2, b2, c2, d1]
    exact (ckG_zero _ _ _ _).2 (by omega)
  · intro j hj
    show mkR (nuI (bT (Lib.itoa (r 0)))) (nuI (bT (Lib.itoa (r 1)))) (nuI (bT (Lib.itoa (r 2)))) (flG (bT (fwL (r 3)))) j = r j
    rw [a2, b2, c2, d1]
    have hc : j = 0 ∨ j = 1 ∨ j = 2 ∨ j = 3 := by omega
    rcases hc with rfl | rfl | rfl | rfl <;> rfl
end Go.Proofs.YtlelcooomfcbaaaDoor.Gg

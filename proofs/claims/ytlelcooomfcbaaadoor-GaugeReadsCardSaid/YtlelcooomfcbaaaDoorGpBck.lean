/-
  The lines that Print writes are the readings that Parse returns: the texts alone, no code.
-/
import Derived.Test.YtlelcooomfcbaaaDoorGpTxt
namespace Go.Proofs.YtlelcooomfcbaaaDoor.Gg
set_option linter.unusedVariables false

/-- m lines from reading k on. -/
def prT (R : Nat → Nat → Int) (k : Nat) : Nat → List UInt8
  | 0 => []
  | m + 1 => lnL (R k) ++ prT R (k + 1) m
theorem prT_prL (R : Nat → Nat → Int) : ∀ m k, prL R k ++ prT R k m = prL R (k + m)
  | 0, k => by simp [prT]
  | m + 1, k => by
    have ih := prT_prL R m (k + 1)
    show prL R k ++ (lnL (R k) ++ prT R (k + 1) m) = _
    rw [← List.append_assoc, show prL R k ++ lnL (R k) = prL R (k + 1) from rfl, ih, show k + 1 + m = k + (m + 1) by omega]
def lnT (R : Nat → Nat → Int) (k : Nat) : Nat → List ByteArray
  | 0 => [bT []]
  | m + 1 => bT (lnB (R k)) :: lnT R (k + 1) m
theorem lines_pr (R : Nat → Nat → Int) : ∀ m k, (∀ i, k ≤ i → i < k + m → Vr (R i)) → linesG (bT (prT R k m)) = lnT R k m
  | 0, k, _ => lines_nil
  | m + 1, k, h => by
    show linesG (bT (lnL (R k) ++ prT R (k + 1) m)) = bT (lnB (R k)) :: lnT R (k + 1) m
    rw [lnL_eq, lines_cons _ _ (ln_back (R k) (h k (Nat.le_refl _) (by omega))).1, lines_pr R m (k + 1) (fun i h1 h2 => h i (by omega) (by omega))]
theorem lnT_len (R : Nat → Nat → Int) : ∀ m k, (lnT R k m).length = m + 1
  | 0, _ => rfl
  | m + 1, k => by show (lnT R (k + 1) m).length + 1 = _; rw [lnT_len R m (k + 1)]
theorem lnT_at (R : Nat → Nat → Int) : ∀ m k i, i < m → (lnT R k m).getD i ByteArray.empty = bT (lnB (R (k + i)))
  | 0, _, _, h => absurd h (Nat.not_lt_zero _)
  | m + 1, k, 0, _ => rfl
  | m + 1, k, i + 1, h => by
    show (lnT R (k + 1) m).getD i ByteArray.empty = _
    rw [lnT_at R m (k + 1) i (by omega), show k + 1 + i = k + (i + 1) by omega]
theorem lnT_end (R : Nat → Nat → Int) : ∀ m k, (lnT R k m).getD m ByteArray.empty = bT []
  | 0, _ => rfl
  | m + 1, k => by
    show (lnT R (k + 1) m).getD m ByteArray.empty = _
    exact lnT_end R m (k + 1)
theorem words_nil : wordsG (bT []) = [] := by decide +kernel
theorem pa_lines (R : Nat → Nat → Int) (L : List ByteArray) (n : Nat) (hL : ∀ i, i < n → (lw L i).length = 4 ∧ rdE (lw L i) = 0 ∧ ∀ j, j < 4 → rdV (lw L i) j = R i j) :
    ∀ m, m ≤ n → cwG L m = m ∧ paA L m = (0, 0) ∧ ∀ k, k < m → ∀ j, j < 4 → paR L m k j = R k j
  | 0, _ => ⟨rfl, rfl, fun k hk => absurd hk (Nat.not_lt_zero _)⟩
  | m + 1, h => by
    obtain ⟨h1, h2, h3⟩ := pa_lines R L n hL m (by omega)
    obtain ⟨a1, a2, a3⟩ := hL m (by omega)
    refine ⟨?_, ?_, fun k hk j hj => ?_⟩
    · show (if 0 < (lw L m).length then cwG L m + 1 else cwG L m) = _
      rw [if_pos (by omega), h1]
    · rw [paA_next L m h2, if_neg (by unfold paE; rw [if_pos (by omega), a2]; simp)]
    · have e : paR L (m + 1) = updR (paR L m) m (rdV (lw L m)) := by
        show (if 0 < (lw L m).length then updR (paR L m) (cwG L m) (rdV (lw L m)) else paR L m) = _
        rw [if_pos (by omega), h1]
      rw [e]
      by_cases hc : k = m
      · subst hc; rw [updR_same]; exact a3 j hj
      · rw [updR_other _ _ hc]; exact h3 k (by omega) j hj
/-- P6 (Consequences): what Print writes Parse reads back. -/
theorem pr_back (R : Nat → Nat → Int) (n : Nat) (hn : n ≤ 900) (hok : alG R n = 0) : paX (bT (prL R n)) = (0, 0) ∧ paN (bT (prL R n)) = n ∧ ∀ k, k < n → ∀ j, j < 4 → paR (linesG (bT (prL R n))) (linesG (bT (prL R n))).length k j = R k j := by
  have hv := (alG_zero R n).1 hok
  have hsz : (bT (prL R n)).size ≤ 65536 := by rw [bT_size]; have := pr_le R n hv; omega
  have hL : linesG (bT (prL R n)) = lnT R 0 n := by
    have h := lines_pr R n 0 (fun i _ hi => hv i (by omega))
    have e := prT_prL R n 0
    rw [show prL R 0 = [] from rfl, List.nil_append, Nat.zero_add] at e
    rw [e] at h
    exact h
  have hlen : (linesG (bT (prL R n))).length = n + 1 := by rw [hL, lnT_len]
  have hw : ∀ i, i < n → (lw (lnT R 0 n) i).length = 4 ∧ rdE (lw (lnT R 0 n) i) = 0 ∧ ∀ j, j < 4 → rdV (lw (lnT R 0 n) i) j = R i j := fun i hi => by
    unfold lw
    rw [lnT_at R n 0 i hi, Nat.zero_add]
    exact (ln_back (R i) (hv i hi)).2
  have he : lw (lnT R 0 n) n = [] := by
    unfold lw
    rw [lnT_end R n 0, words_nil]
  obtain ⟨h1, h2, h3⟩ := pa_lines R (lnT R 0 n) n hw n (Nat.le_refl _)
  have c1 : cwG (lnT R 0 n) (n + 1) = n := by
    show (if 0 < (lw (lnT R 0 n) n).length then _ else cwG (lnT R 0 n) n) = _
    rw [he, if_neg (by simp), h1]
  have c2 : paA (lnT R 0 n) (n + 1) = (0, 0) := by
    rw [paA_next _ n h2, if_neg (by unfold paE; rw [he]; simp)]
  have c3 : paR (lnT R 0 n) (n + 1) = paR (lnT R 0 n) n := by
    show (if 0 < (lw (lnT R 0 n) n).length then _ else paR (lnT R 0 n) n) = _
    rw [he, if_neg (by simp)]
  have hX : paX (bT (prL R n)) = (0, 0) := by
    unfold paX
    rw [if_neg (by omega), hlen, hL, c1, if_neg (by omega), c2]
  refine ⟨hX, ?_, ?_⟩
  · unfold paN
    rw [hX, if_pos rfl, hlen, hL, c1]
  · rw [hlen, hL, c3]
    exact h3
end Go.Proofs.YtlelcooomfcbaaaDoor.Gg

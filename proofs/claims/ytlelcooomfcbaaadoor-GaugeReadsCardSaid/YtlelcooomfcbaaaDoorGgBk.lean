/-
  What Encode writes Decode reads back: the bytes alone, no code.
-/
import Derived.Test.YtlelcooomfcbaaaDoorGgEca
import Derived.Test.YtlelcooomfcbaaaDoorGgDca
namespace Go.Proofs.YtlelcooomfcbaaaDoor.Gg
set_option linter.unusedVariables false

theorem enL_at (R : Nat → Nat → Int) : ∀ n i j, i < n → j < 12 → enL R n (i * 12 + j) = enW (R i) j
  | 0, i, _, hi, _ => absurd hi (Nat.not_lt_zero _)
  | n + 1, i, j, hi, hj => by
    show catB (enL R n) (enW (R n)) (n * 12) (i * 12 + j) = _
    unfold catB
    by_cases e : i < n
    · rw [if_pos (by omega)]; exact enL_at R n i j e hj
    · obtain rfl : i = n := by omega
      rw [if_neg (by omega), show i * 12 + j - i * 12 = j by omega]
theorem enW_low (r : Nat → Int) (j : Nat) (h : j < 10) : enW r j = enT r j := by unfold enW catB; rw [if_pos h]
theorem enT_0 (r : Nat → Int) : enT r 0 = r 0 := rfl
theorem enT_p (r : Nat → Int) (j : Nat) (h : j < 4) : enT r (1 + j) = pbG (r 1) j := by
  unfold enT catB
  rw [if_pos (by omega), if_pos (by omega), if_neg (by omega), show 1 + j - 1 = j by omega]
theorem enT_q (r : Nat → Int) (j : Nat) (h : j < 4) : enT r (5 + j) = pbG (r 2) j := by
  unfold enT catB
  rw [if_pos (by omega), if_neg (by omega), show 5 + j - 5 = j by omega]
theorem enT_9 (r : Nat → Int) : enT r 9 = r 3 := rfl
theorem enW_10 (r : Nat → Int) : enW r 10 = smG (enT r) 10 / 256 := rfl
theorem enW_11 (r : Nat → Int) : enW r 11 = smG (enT r) 10 % 256 := rfl
theorem pb_four (x : Int) (h0 : 0 ≤ x) : pbG x 0 * 16777216 + pbG x 1 * 65536 + pbG x 2 * 256 + pbG x 3 = x := by
  have e0 : pbG x 0 = x / 16777216 := rfl
  have e1 : pbG x 1 = x / 65536 % 256 := rfl
  have e2 : pbG x 2 = x / 256 % 256 := rfl
  have e3 : pbG x 3 = x % 256 := rfl
  rw [e0, e1, e2, e3]
  omega
/-- A record is read back. -/
theorem rec_back (R : Nat → Nat → Int) (n k : Nat) (hk : k < n) (hv : Vr (R k)) : deE (enL R n) (n * 12) k = 0 ∧ ∀ j, j < 4 → deR (enL R n) k j = R k j := by
  have a : ∀ j, j < 12 → enL R n (k * 12 + j) = enW (R k) j := fun j hj => enL_at R n k j hk hj
  unfold Vr at hv
  have hs : smG (fun j => enL R n (k * 12 + j)) 10 = smG (enT (R k)) 10 := smG_congr _ _ 10 (fun j hj => (a j (by omega)).trans (enW_low _ j hj))
  have h0 : enL R n (k * 12) = R k 0 := (a 0 (by omega)).trans rfl
  have h9 : enL R n (k * 12 + 9) = R k 3 := (a 9 (by omega)).trans rfl
  have h10 := (a 10 (by omega)).trans (enW_10 _)
  have h11 := (a 11 (by omega)).trans (enW_11 _)
  have p : ∀ j, j < 4 → enL R n (k * 12 + 1 + j) = pbG (R k 1) j := fun j hj => by
    rw [Nat.add_assoc, a (1 + j) (by omega), enW_low _ _ (by omega), enT_p _ j hj]
  have q : ∀ j, j < 4 → enL R n (k * 12 + 5 + j) = pbG (R k 2) j := fun j hj => by
    rw [Nat.add_assoc, a (5 + j) (by omega), enW_low _ _ (by omega), enT_q _ j hj]
  have f1 : fourB (enL R n) (k * 12 + 1) = R k 1 := by
    have p0 : enL R n (k * 12 + 1) = pbG (R k 1) 0 := p 0 (by omega)
    unfold fourB
    rw [p0, p 1 (by omega), p 2 (by omega), p 3 (by omega)]
    exact pb_four _ (by omega)
  have f5 : fourB (enL R n) (k * 12 + 5) = R k 2 := by
    have q0 : enL R n (k * 12 + 5) = pbG (R k 2) 0 := q 0 (by omega)
    unfold fourB
    rw [q0, q 1 (by omega), q 2 (by omega), q 3 (by omega)]
    exact pb_four _ (by omega)
  constructor
  · unfold deE
    rw [if_neg (by omega), hs, h10, h11, if_neg (by omega), h0, f1, f5, h9, ckG_zero]
    omega
  · intro j hj
    unfold deR
    rw [h0, f1, f5, h9]
    have hc : j = 0 ∨ j = 1 ∨ j = 2 ∨ j = 3 := by omega
    rcases hc with rfl | rfl | rfl | rfl <;> rfl
theorem dec_enc (R : Nat → Nat → Int) (n : Nat) (hn : n ≤ 4096) (hok : alG R n = 0) : deX (enL R n) (n * 12) = (0, 0) ∧ deN (enL R n) (n * 12) = n ∧ ∀ k, k < n → ∀ j, j < 4 → deR (enL R n) k j = R k j := by
  have hv := (alG_zero R n).1 hok
  have hA : ∀ k, k ≤ n → deA (enL R n) (n * 12) k = (0, 0) := by
    intro k
    induction k with
    | zero => intro _; rfl
    | succ k ih =>
      intro hk
      rw [deA_next _ _ k (ih (by omega)), if_neg (by rw [(rec_back R n k (by omega) (hv k (by omega))).1]; simp)]
  have hX : deX (enL R n) (n * 12) = (0, 0) := by
    unfold deX
    rw [if_neg (by omega), show (n * 12 + 11) / 12 = n by omega]
    exact hA n (Nat.le_refl _)
  refine ⟨hX, ?_, fun k hk => (rec_back R n k hk (hv k hk)).2⟩
  unfold deN
  rw [hX, if_pos rfl]
  omega
end Go.Proofs.YtlelcooomfcbaaaDoor.Gg

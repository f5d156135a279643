/-
  A byte of what Encode writes that is changed is noticed; what stands ahead of it is read: the bytes alone, no code.
-/
import Derived.Test.YtlelcooomfcbaaaDoorGgNo
import Derived.Laws.BitsAllLaws
namespace Go.Proofs.YtlelcooomfcbaaaDoor.Gg
set_option linter.unusedVariables false

theorem xor_byte (x y : Int) (x0 : 0 ≤ x) (x1 : x ≤ 255) (y0 : 1 ≤ y) (y1 : y ≤ 255) : 0 ≤ bits .xor .u8 x y ∧ bits .xor .u8 x y ≤ 255 ∧ bits .xor .u8 x y ≠ x := by
  rw [u8_xor x y x0 (by omega) (by omega) (by omega)]
  have h1 : x.toNat ^^^ y.toNat < 2 ^ 8 := Nat.xor_lt_two_pow (by omega) (by omega)
  refine ⟨by omega, by omega, fun h => ?_⟩
  have h2 : x.toNat ^^^ y.toNat = x.toNat := by omega
  have h3 : x.toNat ^^^ (x.toNat ^^^ y.toNat) = x.toNat ^^^ x.toNat := by rw [h2]
  rw [← Nat.xor_assoc, Nat.xor_self, Nat.zero_xor] at h3
  omega
theorem deE_bytes (B C : Nat → Int) (n m k : Nat) (hn : k * 12 + 12 ≤ n) (hm : k * 12 + 12 ≤ m) (h : ∀ j, j < 12 → C (k * 12 + j) = B (k * 12 + j)) : deE C m k = deE B n k ∧ deR C k = deR B k := by
  have f : ∀ i, i + 3 < 12 → fourB C (k * 12 + i) = fourB B (k * 12 + i) := fun i hi => by
    unfold fourB
    rw [Nat.add_assoc (k * 12) i 1, Nat.add_assoc (k * 12) i 2, Nat.add_assoc (k * 12) i 3, h i (by omega), h (i + 1) (by omega), h (i + 2) (by omega), h (i + 3) (by omega)]
  have h0 : C (k * 12) = B (k * 12) := h 0 (by omega)
  have hs : smG (fun j => C (k * 12 + j)) 10 = smG (fun j => B (k * 12 + j)) 10 := smG_congr _ _ 10 (fun j hj => h j (by omega))
  constructor
  · unfold deE
    have a1 : ¬ m < k * 12 + 12 := by omega
    have a2 : ¬ n < k * 12 + 12 := by omega
    rw [if_neg a1, if_neg a2, hs, h 10 (by omega), h 11 (by omega), h0, h 9 (by omega), f 1 (by omega), f 5 (by omega)]
  · unfold deR
    rw [h0, h 9 (by omega), f 1 (by omega), f 5 (by omega)]
/-- What stands ahead of the changed byte. -/
theorem deA_ahead (B C : Nat → Int) (n m : Nat) (hB : ∀ k, k * 12 + 12 ≤ n → deE B n k = 0) : ∀ q, q * 12 ≤ n → q * 12 ≤ m → (∀ j, j < q * 12 → C j = B j) → deA C m q = (0, 0)
  | 0, _, _, _ => rfl
  | q + 1, h1, h2, h => by
    rw [deA_next C m q (deA_ahead B C n m hB q (by omega) (by omega) (fun j hj => h j (by omega))), (deE_bytes B C n m q (by omega) (by omega) (fun j hj => h _ (by omega))).1, hB q (by omega), if_neg (by simp)]
theorem not_seen (R : Nat → Nat → Int) (n i : Nat) (c : Int) (hn : n ≤ 4096) (hok : alG R n = 0) (hi : i < n * 12) (hb : 0 ≤ enL R n i ∧ enL R n i ≤ 255) (hc : 0 ≤ c ∧ c ≤ 255) (hd : c ≠ enL R n i) :
    deX (fun m => if m = i then c else enL R n m) (n * 12) = (8, ((i / 12 : Nat) : Int) * 12) := by
  have hv := (alG_zero R n).1 hok
  have hB : ∀ k, k * 12 + 12 ≤ n * 12 → deE (enL R n) (n * 12) k = 0 := fun k hk => (rec_back R n k (by omega) (hv k (by omega))).1
  have hne : ∀ m, m ≠ i → (fun m => if m = i then c else enL R n m) m = enL R n m := fun m hm => if_neg hm
  have hsame : (fun m => if m = i then c else enL R n m) i = c := if_pos rfl
  generalize (fun m => if m = i then c else enL R n m) = C at *
  have hq : i / 12 * 12 + 12 ≤ n * 12 := by omega
  have hA := deA_ahead (enL R n) C (n * 12) (n * 12) hB (i / 12) (by omega) (by omega) (fun j hj => hne j (by omega))
  have hz := hB (i / 12) hq
  have hE : deE C (n * 12) (i / 12) = 8 := by
    unfold deE at hz ⊢
    have a1 : ¬ n * 12 < i / 12 * 12 + 12 := by omega
    rw [if_neg a1] at hz ⊢
    have hs : smG (fun j => enL R n (i / 12 * 12 + j)) 10 = enL R n (i / 12 * 12 + 10) * 256 + enL R n (i / 12 * 12 + 11) := by
      by_cases e : smG (fun j => enL R n (i / 12 * 12 + j)) 10 = enL R n (i / 12 * 12 + 10) * 256 + enL R n (i / 12 * 12 + 11)
      · exact e
      · rw [if_pos e] at hz; omega
    refine if_pos ?_
    obtain ⟨r, hr⟩ : ∃ r, r = i % 12 := ⟨_, rfl⟩
    have hir : i = i / 12 * 12 + r := by omega
    by_cases h10 : r < 10
    · rw [hne (i / 12 * 12 + 10) (by omega), hne (i / 12 * 12 + 11) (by omega), ← hs]
      refine smG_moved (fun j => enL R n (i / 12 * 12 + j)) (fun j => C (i / 12 * 12 + j)) r h10 (fun j hj => hne _ (by omega)) ?_ ?_ ?_
      · show 0 ≤ enL R n (i / 12 * 12 + r) ∧ enL R n (i / 12 * 12 + r) ≤ 255
        rw [← hir]; exact hb
      · show 0 ≤ C (i / 12 * 12 + r) ∧ C (i / 12 * 12 + r) ≤ 255
        rw [← hir, hsame]; exact hc
      · show C (i / 12 * 12 + r) ≠ enL R n (i / 12 * 12 + r)
        rw [← hir, hsame]; exact hd
    · have hs2 : smG (fun j => C (i / 12 * 12 + j)) 10 = smG (fun j => enL R n (i / 12 * 12 + j)) 10 := smG_congr _ _ 10 (fun j hj => hne _ (by omega))
      rw [hs2, hs]
      by_cases h : r = 10
      · rw [show i / 12 * 12 + 10 = i by omega, hsame, hne (i / 12 * 12 + 11) (by omega)]
        omega
      · rw [show i / 12 * 12 + 11 = i by omega, hsame, hne (i / 12 * 12 + 10) (by omega)]
        omega
  unfold deX
  rw [if_neg (by omega)]
  have h1 : deA C (n * 12) (i / 12 + 1) = (8, ((i / 12 : Nat) : Int) * 12) := by
    rw [deA_next _ _ _ hA, hE]; rfl
  rw [deA_stick C (n * 12) (i / 12 + 1) (by rw [h1]; simp) _ (by omega), h1]
theorem ahead_read (R : Nat → Nat → Int) (n i : Nat) (c : Int) (hn : n ≤ 4096) (hok : alG R n = 0) (hi : i < n * 12) :
    deX (fun m => if m = i then c else enL R n m) (i / 12 * 12) = (0, 0) ∧ deN (fun m => if m = i then c else enL R n m) (i / 12 * 12) = i / 12 ∧ ∀ k, k < i / 12 → ∀ j, j < 4 → deR (fun m => if m = i then c else enL R n m) k j = R k j := by
  have hv := (alG_zero R n).1 hok
  have hB : ∀ k, k * 12 + 12 ≤ n * 12 → deE (enL R n) (n * 12) k = 0 := fun k hk => (rec_back R n k (by omega) (hv k (by omega))).1
  have hne : ∀ m, m ≠ i → (fun m => if m = i then c else enL R n m) m = enL R n m := fun m hm => if_neg hm
  generalize (fun m => if m = i then c else enL R n m) = C at *
  have hA := deA_ahead (enL R n) C (n * 12) (i / 12 * 12) hB (i / 12) (by omega) (by omega) (fun j hj => hne j (by omega))
  have hX : deX C (i / 12 * 12) = (0, 0) := by
    unfold deX
    rw [if_neg (by omega), show (i / 12 * 12 + 11) / 12 = i / 12 by omega]
    exact hA
  refine ⟨hX, ?_, fun k hk j hj => ?_⟩
  · unfold deN
    rw [hX, if_pos rfl]
    omega
  · rw [(deE_bytes (enL R n) C (n * 12) (n * 12) k (by omega) (by omega) (fun j hj => hne _ (by omega))).2]
    exact (rec_back R n k (by omega) (hv k (by omega))).2 j hj
theorem enL_bt (R : Nat → Nat → Int) (n : Nat) (hok : alG R n = 0) : Bt (enL R n) (n * 12) := by
  have hv := (alG_zero R n).1 hok
  intro i hi
  have e : i = i / 12 * 12 + i % 12 := by omega
  rw [e, enL_at R n (i / 12) (i % 12) (by omega) (by omega)]
  have hr := hv (i / 12) (by omega)
  generalize R (i / 12) = r at *
  unfold Vr at hr
  have hT := enT_bt r (by omega) (by omega) (by omega) (by omega)
  by_cases h : i % 12 < 10
  · rw [enW_low _ _ h]; exact hT _ h
  · have hs := smG_bd (enT r) 10
    by_cases h2 : i % 12 = 10
    · rw [h2, enW_10]; omega
    · rw [show i % 12 = 11 by omega, enW_11]; omega
end Go.Proofs.YtlelcooomfcbaaaDoor.Gg

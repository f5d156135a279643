/-
  The contract of stuck of the reference of chapter 8.
-/
import Derived.Test.YtkflgiopkopeeaaQlVer
namespace Go.Proofs.Ytkflgiopkopeeaa.Ql
open Go.ChangeShapes Go.WideShapes Go.ChangeAt Go.RowKit
open Go.Proofs.Ytkflgiopkopeeaa.Gg (Rs RdR)
set_option linter.unusedVariables false

theorem dec_stuck {R : Nat → Nat → Int} {i k : Nat} {s : Int} (h1 : (i : Int) + 1 - s ≤ k) (hk : k ≤ i) (hb : ¬ (R k 3 ≠ 2 ∧ R k 2 = R i 2)) : decide (0 < s ∧ s ≤ (rnN R i : Int)) = false := by
  refine decide_eq_false fun h => hb (rn_all R i k (by omega) hk)
set_option maxHeartbeats 2000000 in
theorem stk_zero (l m j s : Int) (p : Option Addr) (n c : Nat) (R : Nat → Nat → Int) (i : Nat) (w : World) (hs : s = 0) (hi : i < n) (hn : n ≤ 17592186044416) :
    Calls Try.prog 38 #[.agg #[.int .i64 l, .int .i64 m, .int .i64 j, .int .i64 s], .slice p n c, .int .i64 i] w (Et (decide (0 < s ∧ s ≤ (rnN R i : Int))) w) := by
  have e : decide (0 < s ∧ s ≤ (rnN R i : Int)) = false := decide_eq_false (by omega)
  rw [e]
  clear e
  subst hs
  go_enter Try.func38, Try.ntmps38
  go_wp2
  go_ret
  exact ⟨rfl, (Below.refl _ _).alloc (Nat.le_refl _) _⟩
set_option maxHeartbeats 2000000 in
theorem stk_few (l m j s : Int) (p : Option Addr) (n c : Nat) (R : Nat → Nat → Int) (i : Nat) (w : World) (hs0 : ¬ s = 0) (hs : (i : Int) + 1 < s) (hi : i < n) (hn : n ≤ 17592186044416) :
    Calls Try.prog 38 #[.agg #[.int .i64 l, .int .i64 m, .int .i64 j, .int .i64 s], .slice p n c, .int .i64 i] w (Et (decide (0 < s ∧ s ≤ (rnN R i : Int))) w) := by
  have e : decide (0 < s ∧ s ≤ (rnN R i : Int)) = false := decide_eq_false (by have := rn_le R i; omega)
  rw [e]
  clear e
  have hii : (i : Int) ≤ 17592186044416 := by omega
  have h0 : (s == 0) = false := by simp [hs0]
  go_enter Try.func38, Try.ntmps38
  go_wp2
  go_ret
  exact ⟨rfl, (Below.refl _ _).alloc (Nat.le_refl _) _⟩
set_option maxHeartbeats 2000000 in
theorem stk_some (l m j s : Int) (b off n c : Nat) (R : Nat → Nat → Int) (i : Nat) (w : World) (hs0 : 1 ≤ s) (hs : s ≤ (i : Int) + 1) (hp : Rs w b off n R) (hi : i < n) (hn : n ≤ 17592186044416) :
    Calls Try.prog 38 #[.agg #[.int .i64 l, .int .i64 m, .int .i64 j, .int .i64 s], .slice (some ⟨b, off, none⟩) n c, .int .i64 i] w (Et (decide (0 < s ∧ s ≤ (rnN R i : Int))) w) := by
  obtain ⟨B, hB⟩ : ∃ B, B = decide (0 < s ∧ s ≤ (rnN R i : Int)) := ⟨_, rfl⟩
  rw [← hB]
  have HB := Lib.hid hB
  clear hB
  have HP := Lib.hid hp
  clear hp
  have hii : (i : Int) ≤ 17592186044416 := by omega
  have h0 : (s == 0) = false := by simp; omega
  obtain ⟨k0, hk0⟩ : ∃ k0 : Nat, (k0 : Int) = (i : Int) - s + 1 := ⟨((i : Int) - s + 1).toNat, by omega⟩
  have HK := Lib.hid hk0
  have hk1 : (k0 : Int) ≤ i := by omega
  clear hk0
  go_enter Try.func38, Try.ntmps38
  go_wp2
  go_loopw [7] (fun x wr => ∃ k : Nat, k0 ≤ k ∧ k ≤ i + 1 ∧ x = .int .i64 k ∧ Hid (∀ q, k0 ≤ q → q < k → R q 3 ≠ 2 ∧ R q 2 = R i 2) ∧ Hid (Below w.heap.size w wr)) (fun x _ => i + 1 - (intOf x).toNat)
  case atStart => exact ⟨k0, Nat.le_refl _, by omega, by rw [HK.out], fun q h1 h2 => by omega, (Below.refl _ _).alloc (Nat.le_refl _) _⟩
  case round =>
    obtain ⟨k, hkl, hku, rfl, ha, hb⟩ := hrel
    by_cases hlt : k ≤ i
    · have HP2 := Lib.hid (HP.out.up hb.out (Nat.le_refl _))
      have e3 := HP2.out.2 k (by omega) 3 (by omega)
      have e2 := HP2.out.2 k (by omega) 2 (by omega)
      have ei := HP2.out.2 i hi 2 (by omega)
      have hki : (k : Int) ≤ (i : Int) := by omega
      have hkn : (k : Int) < (n : Int) := by omega
      have hin : (i : Int) < (n : Int) := by omega
      have HD := Lib.hid (dec_stuck (R := R) (i := i) (k := k) (s := s) (by have := HK.out; omega) hlt)
      clear HP2
      by_cases h3 : R k 3 = 2
      · have hd : (R k 3 == 2) = true := by simp [h3]
        have hd2 : decide (R k 3 = 2) = true := by simp [h3]
        have HF : Hid (B = false) := HB.out.trans (HD.out (fun h => h.1 h3))
        clear h3 HD HB ha
        go_wp2
        go_quiet (fail)
        go_wp2
        go_ret
        exact ⟨by rw [HF.out]; rfl, Gg.below_drewN hb.out _⟩
      · have hd : (R k 3 == 2) = false := by simp [h3]
        have hd2 : decide (R k 3 = 2) = false := by simp [h3]
        by_cases h2 : R k 2 = R i 2
        · have hv : (R k 2 != R i 2) = false := by simp [h2]
          have HA : Hid (∀ q, k0 ≤ q → q < k + 1 → R q 3 ≠ 2 ∧ R q 2 = R i 2) := fun q h4 h5 => by
            by_cases e : q = k
            · subst e; exact ⟨h3, h2⟩
            · exact ha.out q h4 (by omega)
          clear h3 h2 HD ha
          go_wp2
          go_quiet (fail)
          go_wp2
          go_roundw
          case rel => exact ⟨k + 1, by omega, by omega, by go_num, HA, Gg.below_drewN hb.out _⟩
          case measure => simp [intOf]; omega
        · have hv : (R k 2 != R i 2) = true := by simp [h2]
          have HF : Hid (B = false) := HB.out.trans (HD.out (fun h => h2 h.2))
          clear h3 h2 HD HB ha
          go_wp2
          go_quiet (fail)
          go_wp2
          go_ret
          exact ⟨by rw [HF.out]; rfl, Gg.below_drewN hb.out _⟩
    · obtain rfl : k = i + 1 := by omega
      have HF : Hid (B = true) := HB.out.trans (decide_eq_true ⟨by omega, by
        have := rn_ge R i s.toNat (by omega) (fun q h1 h2 => ha.out q (by have := HK.out; omega) (by omega))
        omega⟩)
      clear ha HB
      go_wp2
      go_ret
      exact ⟨by rw [HF.out]; rfl, hb.out⟩
theorem stk_any (l m j s : Int) (p : Option Addr) (n c : Nat) (R : Nat → Nat → Int) (i : Nat) (w : World) (hs : 0 ≤ s) (hp : RdR w p n R) (hi : i < n) (hn : n ≤ 17592186044416) :
    Calls Try.prog 38 #[.agg #[.int .i64 l, .int .i64 m, .int .i64 j, .int .i64 s], .slice p n c, .int .i64 i] w (Et (decide (0 < s ∧ s ≤ (rnN R i : Int))) w) := by
  by_cases h0 : s = 0
  · exact stk_zero l m j s p n c R i w h0 hi hn
  · by_cases h1 : (i : Int) + 1 < s
    · exact stk_few l m j s p n c R i w h0 h1 hi hn
    · obtain ⟨b, off, rfl, hrs⟩ := hp (by omega)
      exact stk_some l m j s b off n c R i w (by omega) (by omega) hrs hi hn
end Go.Proofs.Ytkflgiopkopeeaa.Ql

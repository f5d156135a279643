/-
  The contract of Share of the reference of layer 1.
-/
import Derived.Test.YtbcjigociliflaaQuShm
namespace Go.Proofs.Ytbcjigociliflaa.Qu
open Go.ChangeShapes Go.WideShapes Go.ChangeAt Go.RowKit
set_option linter.unusedVariables false

set_option maxHeartbeats 800000 in
theorem rshare_bad (a : Int) (p : Option Addr) (n c : Nat) (z : Nat → Int) (w : World) (hn : n ≤ 4096) (hr : Rd w p n z) (hk : chk a z n = 1) :
    Calls Try.prog 35 #[.int .i64 a, .slice p n c] w (ShP a z n w) := by
  have hS : shCode a z n = 1 := by unfold shCode; rw [hk]; simp
  have hL : shLen a z n = 0 := by unfold shLen; rw [hS]; simp
  have HSL := Lib.hid (And.intro hS hL)
  have HR := Lib.hid hr
  clear hr hS hL
  by_cases h1 : inB a 274877906944 = true
  · have hall : ∀ k, k ≤ n → allB z k = true → k < n := by
      intro k hkn h
      by_cases e : k = n
      · subst e; rw [chk_yes h1 h] at hk; omega
      · omega
    have HA := Lib.hid hall
    clear hall hk
    go_enter Try.func35, Try.ntmps35
    go_wp2_with (go_at_call 36; refine (in_any _ _ _).mono ?_; rintro e w' ⟨rfl, rfl⟩)
    go_loop [6, 22] (fun s i => ∃ k : Nat, k ≤ n ∧ i = .int .i64 k ∧ s = .int .i64 (sumZ z k) ∧ Hid (allB z k = true)) (fun _ i => n - (intOf i).toNat)
    case atStart => exact ⟨0, Nat.zero_le _, rfl, rfl, rfl⟩
    case round =>
      obtain ⟨k, hkn, rfl, rfl, ha⟩ := hrel
      have hlt := HA.out k hkn ha.out
      obtain ⟨b, off, rfl, _, hc⟩ := HR.out (by omega)
      have h5 := hc k hlt
      have hs := sumZ_bd z k 10000 (fun i hi => allB_all ha.out i hi) k (Nat.le_refl _)
      have hs2 : sumZ z k ≤ 40960000 := by omega
      have hs1 := hs.1
      have HNX := Lib.hid (show sumZ z (k + 1) = sumZ z k + z k from rfl)
      clear hc hs
      by_cases hi : inB (z k) 10000 = true
      · have hb : 0 ≤ z k ∧ z k ≤ 10000 := of_decide_eq_true hi
        go_wp2_with (go_at_call 36; refine (in_any _ _ _).mono ?_; rintro e w' ⟨rfl, rfl⟩)
        go_round
        case rel => exact ⟨k + 1, by omega, by go_num, by rw [HNX.out], by show allB z (k + 1) = true; unfold allB; rw [ha.out, hi]; rfl⟩
        case measure => simp [intOf]; omega
      · have hi' : inB (z k) 10000 = false := by simpa using hi
        clear hi
        go_wp2_with (go_at_call 36; refine (in_any _ _ _).mono ?_; rintro e w' ⟨rfl, rfl⟩)
        go_ret2
        exact ⟨none, 0, by rw [HSL.out.1, HSL.out.2]; rfl, by rw [HSL.out.2]; exact rd_zero _ _ _, Below.refl _ _⟩
  · have h1' : inB a 274877906944 = false := by simpa using h1
    clear h1 hk
    go_enter Try.func35, Try.ntmps35
    go_wp2_with (go_at_call 36; refine (in_any _ _ _).mono ?_; rintro e w' ⟨rfl, rfl⟩)
    go_ret2
    exact ⟨none, 0, by rw [HSL.out.1, HSL.out.2]; rfl, by rw [HSL.out.2]; exact rd_zero _ _ _, Below.refl _ _⟩

set_option maxHeartbeats 2000000 in
theorem rshare_nil (a : Int) (p : Option Addr) (n c : Nat) (z : Nat → Int) (w : World) (hn : n ≤ 4096) (hr : Rd w p n z) (h1 : inB a 274877906944 = true) (h2 : allB z n = true) (ha : a = 0) :
    Calls Try.prog 35 #[.int .i64 a, .slice p n c] w (ShP a z n w) := by
  have hk : chk a z n = 0 := chk_yes h1 h2
  have hall := allB_all h2
  have hBD := sumZ_bd z n 10000 hall n (Nat.le_refl _)
  obtain ⟨i0, hi, hz0, hz1, hz2⟩ := info_parts Try.info3
  subst ha
  have hS : shCode 0 z n = 0 := by unfold shCode; rw [hk]; simp
  have hL : shLen 0 z n = n := by unfold shLen; rw [hS]; simp
  have hV : shVal 0 z n = fun _ => 0 := by funext i; unfold shVal; simp
  have HSL := Lib.hid (And.intro hS hL)
  have HV := Lib.hid hV
  clear hS hL hV
  have HR := Lib.hid hr
  have HA := Lib.hid hall
  have HBD := Lib.hid hBD
  have hn2 : (n : Int) ≤ 4096 := by omega
  clear hr hall h2 hk hBD
  go_enter Try.func35, Try.ntmps35
  go_wp2_with (go_at_call 36; refine (in_any _ _ _).mono ?_; rintro e w' ⟨rfl, rfl⟩)
  go_loop [6, 22] (fun s i => ∃ k : Nat, k ≤ n ∧ i = .int .i64 k ∧ s = .int .i64 (sumZ z k)) (fun _ i => n - (intOf i).toNat)
  case atStart => exact ⟨0, Nat.zero_le _, rfl, rfl⟩
  case round =>
    obtain ⟨k, hkn, rfl, rfl⟩ := hrel
    by_cases hlt : k < n
    · obtain ⟨b, off, rfl, _, hc⟩ := HR.out (by omega)
      have h5 := hc k hlt
      have hs := sumZ_bd z n 10000 HA.out k hkn
      have hs2 : sumZ z k ≤ 40960000 := by omega
      have hs1 := hs.1
      have HNX := Lib.hid (show sumZ z (k + 1) = sumZ z k + z k from rfl)
      have hb := HA.out k hlt
      have hib : inB (z k) 10000 = true := inB_yes hb
      clear hc hs
      go_wp2_with (go_at_call 36; refine (in_any _ _ _).mono ?_; rintro e w' ⟨rfl, rfl⟩)
      go_round
      case rel => exact ⟨k + 1, by omega, by go_num, by rw [HNX.out]⟩
      case measure => simp [intOf]; omega
    · obtain rfl : n = k := by omega
      go_wp2_with (at_make; refine wpList_make_full _ rfl (.tmp 37) (.tmp 37) 22 rfl w.heap.size 3 i0 (.int .i64 0) 1 Try.underlying22 hi hz0 hz1 .i64 .i64 _ _ n rfl rfl rfl rfl (by rw [hz2]; omega) (by unfold maxLen; omega) (by simp) ?_; intro w1 hown hgrow)
      go_ret2
      exact ⟨some ⟨w.heap.size, 0, none⟩, n, by rw [HSL.out.1, HSL.out.2]; rfl, by rw [HSL.out.2, HV.out]; exact (own_made hown (hown.lt _ rfl).2).rd, (Below.refl w.heap.size w).grown hgrow (Nat.le_refl _) (by intro k hk; cases hk)⟩

set_option maxHeartbeats 2000000 in
theorem rshare_none (a : Int) (p : Option Addr) (n c : Nat) (z : Nat → Int) (w : World) (hn : n ≤ 4096) (hr : Rd w p n z) (h1 : inB a 274877906944 = true) (h2 : allB z n = true) (ha : a ≠ 0) (ht : sumZ z n = 0) :
    Calls Try.prog 35 #[.int .i64 a, .slice p n c] w (ShP a z n w) := by
  have hk : chk a z n = 0 := chk_yes h1 h2
  have hall := allB_all h2
  have hBD := sumZ_bd z n 10000 hall n (Nat.le_refl _)
  obtain ⟨i0, hi, hz0, hz1, hz2⟩ := info_parts Try.info3
  have hS : shCode a z n = 2 := by unfold shCode; rw [hk, ht]; simp [ha]
  have hL : shLen a z n = 0 := by unfold shLen; rw [hS]; simp
  have HSL := Lib.hid (And.intro hS hL)
  have ha' : (a == 0) = false := by simpa using ha
  have HT := Lib.hid ht
  clear hS hL ht ha
  have HR := Lib.hid hr
  have HA := Lib.hid hall
  have HBD := Lib.hid hBD
  have hn2 : (n : Int) ≤ 4096 := by omega
  clear hr hall h2 hk hBD
  go_enter Try.func35, Try.ntmps35
  go_wp2_with (go_at_call 36; refine (in_any _ _ _).mono ?_; rintro e w' ⟨rfl, rfl⟩)
  go_loop [6, 22] (fun s i => ∃ k : Nat, k ≤ n ∧ i = .int .i64 k ∧ s = .int .i64 (sumZ z k)) (fun _ i => n - (intOf i).toNat)
  case atStart => exact ⟨0, Nat.zero_le _, rfl, rfl⟩
  case round =>
    obtain ⟨k, hkn, rfl, rfl⟩ := hrel
    by_cases hlt : k < n
    · obtain ⟨b, off, rfl, _, hc⟩ := HR.out (by omega)
      have h5 := hc k hlt
      have hs := sumZ_bd z n 10000 HA.out k hkn
      have hs2 : sumZ z k ≤ 40960000 := by omega
      have hs1 := hs.1
      have HNX := Lib.hid (show sumZ z (k + 1) = sumZ z k + z k from rfl)
      have hb := HA.out k hlt
      have hib : inB (z k) 10000 = true := inB_yes hb
      clear hc hs
      go_wp2_with (go_at_call 36; refine (in_any _ _ _).mono ?_; rintro e w' ⟨rfl, rfl⟩)
      go_round
      case rel => exact ⟨k + 1, by omega, by go_num, by rw [HNX.out]⟩
      case measure => simp [intOf]; omega
    · obtain rfl : n = k := by omega
      rw [HT.out]
      go_wp2_with (at_make; refine wpList_make_full _ rfl (.tmp 37) (.tmp 37) 22 rfl w.heap.size 3 i0 (.int .i64 0) 1 Try.underlying22 hi hz0 hz1 .i64 .i64 _ _ n rfl rfl rfl rfl (by rw [hz2]; omega) (by unfold maxLen; omega) (by simp) ?_; intro w1 hown hgrow)
      go_ret2
      exact ⟨none, 0, by rw [HSL.out.1, HSL.out.2]; rfl, by rw [HSL.out.2]; exact rd_zero _ _ _, (Below.refl w.heap.size w).grown hgrow (Nat.le_refl _) (by intro k hk; cases hk)⟩
end Go.Proofs.Ytbcjigociliflaa.Qu

/-
  Contracts of the reference of chapter 9 that only read: Check; floor and Down of the reference of chapter 1 at a positive divisor; Floor of the package at one.
-/
import Derived.Test.YtbcjigociliflaaIfFns
import Derived.Test.YtbcjigociliflaaCuFns
namespace Go.Proofs.Ytbcjigociliflaa.If
open Go.ChangeShapes Go.WideShapes Go.ChangeAt Go.RowKit
open Go.Proofs.Ytbcjigociliflaa.Cu (flr flr_pos tdiv_bd tdiv_bd2 tmod_bd tmod_neg_of tmod_pos_of div_bd mul_bd Two)
open Go.Proofs.Ytbcjigociliflaa.Qu (sumZ Rd)
set_option linter.unusedVariables false

theorem tdiv_floor (a b : Int) (ha : a < 0) (hb : 1 ≤ b) : a / b = if a.tmod b < 0 then a.tdiv b - 1 else a.tdiv b := by
  have h := flr_pos a b hb
  have h2 : (flr a b).1 = a / b := by rw [h]
  unfold flr at h2
  rw [if_neg (by omega), if_neg (by omega)] at h2
  have h3 : a.tmod b ≤ 0 := by have := Int.tmod_nonneg (a := -a) b (by omega); rw [Int.neg_tmod] at this; omega
  by_cases c : a.tmod b < 0
  · rw [if_pos c]
    rw [if_pos ⟨by omega, .inl ⟨ha, by omega⟩⟩] at h2
    exact h2.symm
  · rw [if_neg c]
    rw [if_neg (by omega)] at h2
    exact h2.symm

set_option maxHeartbeats 1000000 in
theorem rflo_any (a b : Int) (w : World) (ha : -4611686018427387904 ≤ a ∧ a ≤ 4611686018427387904) (hb : 1 ≤ b ∧ b ≤ 4611686018427387904) :
    Calls Try.prog 40 #[.int .i64 a, .int .i64 b] w fun e w' => e = .returned (.int .i64 (a / b)) ∧ w = w' := by
  have e0 : (b == 0) = false := by rw [beq_eq_false_iff_ne]; omega
  have n0 : ¬ b = 0 := by omega
  have n1 : ¬ b = -1 := by omega
  have e9 : (a == -9223372036854775808) = false := by rw [beq_eq_false_iff_ne]; omega
  by_cases s : 0 ≤ a
  · have h1 := div_bd (x := a) (d := b) s hb.1
    have h2 : 0 ≤ a % b := Int.emod_nonneg _ n0
    have h3 : a % b < b := Int.emod_lt_of_pos _ (by omega)
    have dr : decide (a % b < 0) = false := by rw [decide_eq_false_iff_not]; omega
    go_enter Try.func40, Try.ntmps40
    go_wp2
    go_ret
    exact ⟨rfl, rfl⟩
  · have hq := tdiv_bd a b (by omega) n0 (by omega)
    have hr := tmod_bd a b (by omega)
    have hf := tdiv_floor a b (by omega) hb.1
    by_cases c : a.tmod b < 0
    · rw [if_pos c] at hf
      rw [hf]
      have hq2 := tdiv_bd2 a b (by omega) n0 (by omega)
      have HF := Lib.hid hf
      clear hf
      go_enter Try.func40, Try.ntmps40
      go_wp2
      go_ret
      exact ⟨rfl, rfl⟩
    · rw [if_neg c] at hf
      rw [hf]
      have HF := Lib.hid hf
      clear hf
      go_enter Try.func40, Try.ntmps40
      go_wp2
      go_ret
      exact ⟨rfl, rfl⟩
theorem rdown_any (a b : Int) (w : World) (ha : -4611686018427387904 ≤ a ∧ a ≤ 4611686018427387904) (hb : 1 ≤ b ∧ b ≤ 4611686018427387904) :
    Calls Try.prog 33 #[.int .i64 a, .int .i64 b] w fun e w' => e = .returned (.int .i64 (a / b)) ∧ w = w' := by
  have HF := Lib.hid (fun W => rflo_any a b W ha hb)
  generalize a / b = q at *
  go_enter Try.func33, Try.ntmps33
  go_wp2_with (go_at_call 40; refine (HF.out _).mono ?_; rintro e w' ⟨rfl, rfl⟩)
  go_ret
  exact ⟨rfl, rfl⟩


theorem pfl_any (a b : Int) (w : World) (ha : -4611686018427387904 ≤ a ∧ a ≤ 4611686018427387904) (hb : 1 ≤ b ∧ b ≤ 4611686018427387904) :
    Calls Try.prog 39 #[.int .i64 a, .int .i64 b] w fun e w' => e = .returned (.tuple #[.int .i64 (a / b), .int .i64 0]) ∧ w = w' := by
  have h := Cu.floor_any a b w (by omega) (by omega)
  rw [flr_pos a b hb.1] at h
  exact h

set_option maxHeartbeats 800000 in
theorem rck_any (p q : Option Addr) (n m c d : Nat) (z y : Nat → Int) (w : World) (hn : n ≤ 4096) (hm : m ≤ 4096) (hr : Rd w p n z) (hq : Rd w q m y) :
    Calls Try.prog 12 #[.slice p n c, .slice q m d] w (Ec (cB n m z y) w) := by
  have HR := Lib.hid hr
  have HQ := Lib.hid hq
  clear hr hq
  by_cases h : n = m + 1
  · have hi : ((n : Int) != (m : Int) + 1) = false := by simp; omega
    have HX := Lib.hid h
    clear h
    go_enter Try.func12, Try.ntmps12
    go_wp2
    go_loop [20] (fun i => ∃ k : Nat, k ≤ n ∧ i = .int .i64 k ∧ Hid (allW 0 274877906944 z k = true)) (fun i => n - (intOf i).toNat)
    case atStart => exact ⟨0, Nat.zero_le _, rfl, rfl⟩
    case round =>
      clear hi
      obtain ⟨k, hk, rfl, ha⟩ := hrel
      by_cases hlt : k < n
      · obtain ⟨bb, off, rfl, _, hc⟩ := HR.out (by omega)
        have h5 := hc k hlt
        clear hc
        have hki : (k : Int) < (n : Int) := by omega
        have HC := Lib.hid (fun W => rin_any (z k) 274877906944 W)
        cases hi : btB 0 (z k) 274877906944 with
        | true =>
          rw [hi] at HC
          have HN : Hid (allW 0 274877906944 z (k + 1) = true) := (show (allW 0 274877906944 z k && btB 0 (z k) 274877906944) = true by rw [ha.out, hi]; rfl)
          clear hi ha
          go_wp2_with (go_at_call 27; refine (HC.out _).mono ?_; rintro e w' ⟨rfl, rfl⟩)
          go_round
          case rel => exact ⟨k + 1, by omega, by go_num, HN⟩
          case measure => simp [intOf]; omega
        | false =>
          rw [hi] at HC
          have HN := Lib.hid (allW_no hi hlt)
          clear hi ha
          go_wp2_with (go_at_call 27; refine (HC.out _).mono ?_; rintro e w' ⟨rfl, rfl⟩)
          go_ret
          exact ⟨by rw [cB_z HX.out HN.out]; rfl, rfl⟩
      · have hkn : ¬ (k : Int) < (n : Int) := by omega
        have HA : Hid (allW 0 274877906944 z n = true) := by
          obtain rfl : k = n := by omega
          exact ha
        clear ha hlt
        go_wp2
        clear hkn hk
        go_loop [30] (fun i => ∃ j : Nat, j ≤ m ∧ i = .int .i64 j ∧ Hid (allW 0 1073741824 y j = true)) (fun i => m - (intOf i).toNat)
        case atStart => exact ⟨0, Nat.zero_le _, rfl, rfl⟩
        case round =>
          obtain ⟨j, hj, rfl, ha⟩ := hrel
          by_cases hlt : j < m
          · obtain ⟨bb, off, rfl, _, hc⟩ := HQ.out (by omega)
            have h5 := hc j hlt
            clear hc
            have hki : (j : Int) < (m : Int) := by omega
            have HC := Lib.hid (fun W => rin_any (y j) 1073741824 W)
            cases hi : btB 0 (y j) 1073741824 with
            | true =>
              rw [hi] at HC
              have HN : Hid (allW 0 1073741824 y (j + 1) = true) := (show (allW 0 1073741824 y j && btB 0 (y j) 1073741824) = true by rw [ha.out, hi]; rfl)
              clear hi ha
              go_wp2_with (go_at_call 27; refine (HC.out _).mono ?_; rintro e w' ⟨rfl, rfl⟩)
              go_round
              case rel => exact ⟨j + 1, by omega, by go_num, HN⟩
              case measure => simp [intOf]; omega
            | false =>
              rw [hi] at HC
              have HN := Lib.hid (allW_no hi hlt)
              clear hi ha
              go_wp2_with (go_at_call 27; refine (HC.out _).mono ?_; rintro e w' ⟨rfl, rfl⟩)
              go_ret
              exact ⟨by rw [cB_y HX.out HN.out]; rfl, rfl⟩
          · have hjm : ¬ (j : Int) < (m : Int) := by omega
            have HB : Hid (allW 0 1073741824 y m = true) := by
              obtain rfl : j = m := by omega
              exact ha
            clear ha hlt
            go_wp2
            go_ret
            exact ⟨by rw [cB_ok HX.out HA.out HB.out]; rfl, rfl⟩
  · have hi : ((n : Int) != (m : Int) + 1) = true := by simp; omega
    rw [cB_form h]
    clear h
    go_enter Try.func12, Try.ntmps12
    go_wp2
    go_ret
    exact ⟨rfl, rfl⟩
end Go.Proofs.Ytbcjigociliflaa.If

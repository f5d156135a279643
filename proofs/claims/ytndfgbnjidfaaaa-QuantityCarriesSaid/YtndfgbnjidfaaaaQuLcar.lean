/-
  The walk of the law QuantityCarries: it returns true for every list and every two numbers, and writes nothing that was there.
-/
import Derived.Test.YtndfgbnjidfaaaaQuAwk
import Derived.Test.YtndfgbnjidfaaaaQuCar
import Derived.Test.YtndfgbnjidfaaaaQuRow
namespace Go.Proofs.Ytndfgbnjidfaaaa.Qu
open Go.ChangeShapes Go.WideShapes Go.ChangeAt Go.RowKit
set_option linter.unusedVariables false

/-- The sum of the first k amounts times N. -/
def carS (z : Nat → Int) (N : Int) : Nat → Int
  | 0 => 0
  | k + 1 => carS z N k + md (z k) 1000 * N
theorem carS_bd (z : Nat → Int) (N : Int) (h1 : 1 ≤ N) (h2 : N ≤ 50) : ∀ k, 0 ≤ carS z N k ∧ carS z N k ≤ 50000 * k
  | 0 => by simp [carS]
  | k + 1 => by
    have h := carS_bd z N h1 h2 k
    have l1 := md_lo (z k) 1000 (by omega)
    have l2 := md_hi (z k) 1000 (by omega)
    have l3 := mul_bd l1 (show md (z k) 1000 ≤ 1000 by omega) (show 0 ≤ N by omega) h2
    unfold carS
    omega
theorem carS_div (S x M : Int) (hM : 1 ≤ M) : S / M + (x + S % M) / M = (S + x) / M ∧ (x + S % M) % M = (S + x) % M := by
  have h1 := Int.mul_ediv_add_emod S M
  constructor
  · have e : S + x = (x + S % M) + M * (S / M) := by omega
    rw [e, Int.add_mul_ediv_left _ _ (by omega)]
    omega
  · have e : S + x = (x + S % M) + M * (S / M) := by omega
    rw [e, Int.add_mul_emod_self_left]

theorem car_ok (a N M c : Int) (ha : 0 ≤ a ∧ a ≤ 999) (hN : 1 ≤ N ∧ N ≤ 50) (hM : 1 ≤ M ∧ M ≤ 60) (hc : 0 ≤ c ∧ c < M) : car a N M c = ((a * N + c) / M, (a * N + c) % M, 0) := by
  unfold car
  rw [if_neg (by omega), if_neg (by omega), if_neg (by omega)]

set_option maxHeartbeats 1600000 in
theorem lcar_walk (p : Option Addr) (n c : Nat) (z : Nat → Int) (num den : Int) (w : World) (hr : Rd w p n z) (hn : n ≤ 9223372036854775807) (hz : ∀ i, -9223372036854775808 ≤ z i ∧ z i ≤ 9223372036854775807)
    (h1 : -9223372036854775808 ≤ num ∧ num ≤ 9223372036854775807) (h2 : -9223372036854775808 ≤ den ∧ den ≤ 9223372036854775807) :
    Calls Try.prog 6 #[.slice p n c, .int .i64 num, .int .i64 den] w fun e w' => e = .returned (.bool true) ∧ Below w.heap.size w w' := by
  have n1 := md_lo num 50 (by omega)
  have n2 := md_hi num 50 (by omega)
  have m1 := md_lo den 60 (by omega)
  have m2 := md_hi den 60 (by omega)
  have HR := Lib.hid hr
  have HZ := Lib.hid hz
  clear hr hz
  go_enter Try.func6, Try.ntmps6
  go_wp2_with (go_at_call 9; refine (mod_any _ _ _ (by omega) (by omega) (by omega)).mono ?_; rintro e w' ⟨rfl, rfl⟩)
  obtain ⟨N, hN⟩ : ∃ N, N = 1 + md num 50 := ⟨_, rfl⟩
  obtain ⟨M, hM⟩ : ∃ M, M = 1 + md den 60 := ⟨_, rfl⟩
  rw [← hN, ← hM]
  have hN1 : 1 ≤ N ∧ N ≤ 50 := by omega
  have hM1 : 1 ≤ M ∧ M ≤ 60 := by omega
  have hM2 : ¬ M = 0 := by omega
  have hM3 : (M == 0) = false := by simp; omega
  clear hN hM n1 n2 m1 m2 h1 h2
  go_loopw [9, 10, 11, 12] (fun cc al su i wr => ∃ k : Nat, k ≤ 40 ∧ k ≤ n ∧ i = .int .i64 k ∧ su = .int .i64 (carS z N k) ∧ al = .int .i64 (carS z N k / M) ∧ cc = .int .i64 (carS z N k % M) ∧ Hid (Below w.heap.size w wr)) (fun _ _ _ i _ => 40 - (intOf i).toNat)
  case atStart => exact ⟨0, by omega, Nat.zero_le _, rfl, rfl, by simp [carS], by simp [carS], Below.refl _ _⟩
  case round =>
    obtain ⟨k, hk40, hk, rfl, rfl, rfl, rfl, hbel⟩ := hrel
    have b1 := carS_bd z N hN1.1 hN1.2 k
    have b2 : carS z N k ≤ 2000000 := by omega
    have b3 := b1.1
    have b4 := div_bd b3 hM1.1
    have b5 : 0 ≤ carS z N k % M := Int.emod_nonneg _ hM2
    have b6 : carS z N k % M < M := Int.emod_lt_of_pos _ (by omega)
    clear b1
    by_cases hlt : k < n
    · have e1 : decide ((k : Int) < (n : Int)) = true := by simpa using hlt
      by_cases hl2 : k < 40
      · obtain ⟨b, off, rfl, hb, hc⟩ := HR.out (by omega)
        have h5 : wr.cell? ⟨b, off + k, none⟩ = some (.int .i64 (z k)) := (hbel.out.cell (p := ⟨b, off + k, none⟩) hb).trans (hc k hlt)
        have h6 := HZ.out k
        have a1 := md_lo (z k) 1000 (by omega)
        have a2 := md_hi (z k) 1000 (by omega)
        have HS := Lib.hid (show carS z N (k + 1) = carS z N k + md (z k) 1000 * N from rfl)
        generalize hX : md (z k) 1000 = x at *
        have HX := Lib.hid hX
        clear hX
        have p1 := mul_bd a1 (show x ≤ 999 by omega) (show 0 ≤ N by omega) hN1.2
        have p2 : x * N ≤ 49950 := by have := p1.2; omega
        have p3 := p1.1
        have d := carS_div (carS z N k) (x * N) M hM1.1
        have hC : ∀ W, Calls Try.prog 14 #[.int .i64 x, .int .i64 N, .int .i64 M, .int .i64 (carS z N k % M)] W (ThreeQ ((x * N + carS z N k % M) / M) ((x * N + carS z N k % M) % M) 0 W) := by
          intro W
          have h := carry_any x N M (carS z N k % M) W (by omega) (by omega)
          rw [car_ok x N M _ (by omega) hN1 hM1 (by omega)] at h
          exact h
        have q1 := div_bd (show 0 ≤ x * N + carS z N k % M by omega) hM1.1
        have q3 : 0 ≤ (x * N + carS z N k % M) % M := Int.emod_nonneg _ hM2
        have q4 : (x * N + carS z N k % M) % M < M := Int.emod_lt_of_pos _ (by omega)
        generalize (x * N + carS z N k % M) / M = y1 at *
        generalize (x * N + carS z N k % M) % M = y2 at *
        generalize carS z N k % M = y3 at *
        generalize carS z N k / M = y4 at *
        generalize carS z N k = s at *
        have HC := Lib.hid hC
        have HD := Lib.hid d
        clear hC d p1 hc
        go_wp2_with (first | (go_at_call 9; refine (mod_any _ _ _ (by omega) (by omega) (by omega)).mono ?_; rintro e w' ⟨rfl, rfl⟩; rw [HX.out]) | (go_at_call 14; refine (HC.out _).mono ?_; rintro e w' ⟨rfl, q, rfl⟩))
        go_roundw
        case rel => exact ⟨k + 1, by omega, by omega, by go_num, by rw [HS.out], by rw [HS.out, HD.out.1], by rw [HS.out, HD.out.2], Below.drewN hbel.out q⟩
        case measure => simp [intOf]; omega
      · have e2 : decide ((k : Int) < 40) = false := by simp; omega
        obtain rfl : k = 40 := by omega
        clear hl2 e1
        go_wp2_with (go_at_call 20; refine (awake_any _).mono ?_; rintro e w' ⟨rfl, hb2⟩)
        go_ret
        exact ⟨rfl, hbel.out.trans (hb2.mono hbel.out.size)⟩
    · obtain rfl : n = k := by omega
      have e1 : decide ((n : Int) < (n : Int)) = false := by simp
      clear hlt
      go_wp2_with (go_at_call 20; refine (awake_any _).mono ?_; rintro e w' ⟨rfl, hb2⟩)
      go_ret
      exact ⟨rfl, hbel.out.trans (hb2.mono hbel.out.size)⟩
end Go.Proofs.Ytndfgbnjidfaaaa.Qu

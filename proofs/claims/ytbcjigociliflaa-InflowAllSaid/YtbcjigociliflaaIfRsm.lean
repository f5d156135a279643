/-
  The contract of Smooth of the reference.
-/
import Derived.Test.YtbcjigociliflaaIfUnr
namespace Go.Proofs.Ytbcjigociliflaa.If
open Go.ChangeShapes Go.WideShapes Go.ChangeAt Go.RowKit
open Go.Proofs.Ytbcjigociliflaa.Qu (sumZ sumZ_congr Rd Got got_nil got_rd got_block)
set_option linter.unusedVariables false

theorem df {p : Prop} [Decidable p] (h : ¬ p) : decide p = false := by rw [decide_eq_false_iff_not]; exact h
theorem dt {p : Prop} [Decidable p] (h : p) : decide p = true := by rw [decide_eq_true_eq]; exact h
/-- Step a + k of a group that begins at a = g * w. -/
theorem sm_lev (z : Nat → Int) (n w g a k L : Nat) (hw : 1 ≤ w) (ha : a = g * w) (hL : gl w n a = L) (hk : k < L) : sm z n w (a + k) = avg z a L + if (k : Int) < If.rem z a L then 1 else 0 := by
  subst ha
  rw [sm_at z n w g k hw (by unfold gl at hL; omega), hL]
  rfl

set_option maxRecDepth 100000 in
set_option maxHeartbeats 4000000 in
theorem rsm_ok (p : Option Addr) (n c w : Nat) (z : Nat → Int) (W : World) (hw : 1 ≤ w ∧ w ≤ 4096) (hn : n ≤ 4096) (hcap : n ≤ c) (hz : ∀ i, i < n → -274877906944 ≤ z i ∧ z i ≤ 274877906944) (hr : Rd W p n z) :
    Calls Try.prog 21 #[.slice p n c, .int .i64 (w : Int)] W (LcP 0 n (sm z n w) W) := by
  obtain ⟨w1, w2⟩ := hw
  have HZ := Lib.hid hz
  have HR := Lib.hid hr
  have HG0 := Lib.hid (got_nil W W.heap.size (sm z n w))
  have HB0 := Lib.hid (Below.refl W.heap.size W)
  have x1 : decide ((w : Int) < 1) = false := df (by omega)
  have x2 : decide (4096 < (w : Int)) = false := df (by omega)
  clear hz hr
  obtain ⟨i0, hi, hz0, hz1, hz2⟩ := info_parts Qu.Try.info3
  go_enter Try.func21, Try.ntmps21
  go_wp2
  clear x1 x2
  go_loop [25] (fun i => ∃ k : Nat, k ≤ n ∧ i = .int .i64 k) (fun i => n - (intOf i).toNat)
  case atStart => exact ⟨0, Nat.zero_le _, rfl⟩
  case round =>
    obtain ⟨k, hk, rfl⟩ := hrel
    by_cases hlt : k < n
    · obtain ⟨b, off, rfl, _, hc⟩ := HR.out (by omega)
      have h5 := hc k hlt
      have hki : (k : Int) < (n : Int) := by omega
      obtain ⟨z1, z2⟩ := HZ.out k hlt
      have x1 : decide (z k < -274877906944) = false := df (by omega)
      have x2 : decide (274877906944 < z k) = false := df (by omega)
      clear hc
      generalize z k = zk at *
      go_wp2
      go_round
      case rel => exact ⟨k + 1, by omega, by go_num⟩
      case measure => simp [intOf]; omega
    · have hkn : ¬ (k : Int) < (n : Int) := by omega
      clear hlt hk
      go_wp2
      clear hkn
      go_loopw [8, 9] (fun v i wr => ∃ (g a : Nat) (V : Value), V = v ∧ a ≤ n + w ∧ i = .int .i64 a ∧ Hid (a = g * w) ∧ Hid (Got wr W.heap.size v (min a n) (sm z n w)) ∧ Hid (Below W.heap.size W wr)) (fun _ i _ => n - (intOf i).toNat)
      case atStart => exact ⟨0, 0, _, rfl, by omega, rfl, (Nat.zero_mul w).symm, by rw [Nat.zero_min]; exact HG0, HB0⟩
      case round =>
        clear HG0 HB0
        obtain ⟨g, a, V, rfl, han, rfl, hag, hgot, hbel⟩ := hrel
        by_cases hlt : a < n
        · have hki : (a : Int) < (n : Int) := by omega
          obtain ⟨b, off, rfl, hb, hc⟩ := HR.out (by omega)
          obtain ⟨L, hL⟩ : ∃ L, gl w n a = L := ⟨_, rfl⟩
          have hL1 : 1 ≤ L := by rw [← hL]; unfold gl; omega
          have hL2 : a + L ≤ n := by rw [← hL]; unfold gl; omega
          have hL3 : L ≤ w := by rw [← hL]; unfold gl; omega
          have hmin : min (w : Int) ((n : Int) - (a : Int)) = (L : Int) := by rw [← hL]; unfold gl; omega
          have HL := Lib.hid hL
          have HC := Lib.hid (fun i hi => (hbel.out.cell (p := ⟨b, off + i, none⟩) hb).trans (hc i hi))
          have HZL : Hid (∀ j, j < L → -274877906944 ≤ z (a + j) ∧ z (a + j) ≤ 274877906944) := fun j hj => HZ.out _ (by omega)
          have HGA : Hid (Got wr W.heap.size V (a + 0) (sm z n w)) := by
            have h := hgot.out
            rw [Nat.min_eq_left (by omega)] at h
            exact h
          have y1 : (a : Int) + (L : Int) ≤ (c : Int) := by omega
          have y2 : ¬ (c : Int) < (a : Int) + (L : Int) := by omega
          have y3 : ¬ c = a := by omega
          have y4 : ((a : Int) + (L : Int)).toNat = a + L := by omega
          have y5 : a ≤ a + L := by omega
          have y6 : a + L - a = L := by omega
          clear hc hL hgot
          go_wp2
          go_loop [11, 59] (fun s i => ∃ j : Nat, j ≤ L ∧ i = .int .i64 j ∧ s = .int .i64 (gsum z a j)) (fun _ i => L - (intOf i).toNat)
          case atStart => exact ⟨0, Nat.zero_le _, rfl, rfl⟩
          case round =>
            obtain ⟨j, hj, rfl, rfl⟩ := hrel
            have h1 := gsum_bd z a j (fun i hi => HZL.out i (by omega))
            have h2 : gsum z a j ≤ 1125899906842624 := by omega
            have h3 : -1125899906842624 ≤ gsum z a j := by omega
            clear h1
            by_cases hjl : j < L
            · obtain ⟨h4, h6⟩ := HZL.out j hjl
              have h5 := HC.out (a + j) (by omega)
              rw [show off + (a + j) = off + a + j by omega] at h5
              have hji : (j : Int) < (L : Int) := by omega
              have hgs : gsum z a (j + 1) = gsum z a j + z (a + j) := rfl
              have HGS := Lib.hid hgs
              clear hgs
              go_wp2
              go_round
              case rel => exact ⟨j + 1, by omega, by go_num, by rw [HGS.out]⟩
              case measure => simp [intOf]; omega
            · have hji : ¬ (j : Int) < (L : Int) := by omega
              have hjL : j = L := by omega
              rw [hjL] at h2 h3
              rw [hjL]
              have b1 := avg_bd z a L hL1 HZL.out
              have b2 := rem_bd z a L hL1
              have HLV := Lib.hid (fun k (hk : k < L) => sm_lev z n w g a k L w1 hag.out HL.out hk)
              have HD := Lib.hid (fun X => rdown_any (gsum z a L) (L : Int) X (by omega) (by omega))
              have hR : gsum z a L - avg z a L * (L : Int) = If.rem z a L := rfl
              have hq : gsum z a L / (L : Int) = avg z a L := rfl
              rw [hq] at HD
              have e1 := avg_eq z a L
              generalize avg z a L = q at *
              generalize If.rem z a L = r at *
              generalize gsum z a L = S at *
              have p1 : -1200000000000000 ≤ q * (L : Int) := by omega
              have p2 : q * (L : Int) ≤ 1200000000000000 := by omega
              obtain ⟨q1, q2, q3⟩ := b1
              obtain ⟨r1, r2⟩ := b2
              have HRr := Lib.hid hR
              clear hR hq e1 HC HZL y1 y2 y3 y4 y5 y6 hj hjl
              rw [← hjL] at hji
              clear hjL
              go_wp2_with (go_at_call 33; refine (HD.out _).mono ?_; rintro e w' ⟨rfl, rfl⟩)
              clear HD
              go_loopw [8, 71] (fun v i wq => ∃ (k : Nat) (V : Value), V = v ∧ k ≤ L ∧ i = .int .i64 k ∧ Hid (Got wq W.heap.size v (a + k) (sm z n w)) ∧ Hid (Below W.heap.size W wq)) (fun _ i _ => L - (intOf i).toNat)
              case atStart => exact ⟨0, _, rfl, Nat.zero_le _, rfl, HGA, hbel⟩
              case round =>
                clear HGA hbel
                obtain ⟨k, V, rfl, hk, rfl, hgot, hbel⟩ := hrel
                by_cases hkL : k < L
                · have hki3 : (k : Int) < (L : Int) := by omega
                  have hV := HLV.out k hkL
                  by_cases hkr : (k : Int) < r
                  · rw [if_pos hkr] at hV
                    have hd : decide ((k : Int) < S - q * (L : Int)) = true := dt (by rw [HRr.out]; exact hkr)
                    have HV := Lib.hid hV
                    have q4 := q3 (by omega)
                    clear hV
                    go_wp2_with (at_builtin; refine wpList_append_own _ rfl _ _ 22 rfl W.heap.size 3 i0 (.int .i64 0) 1 8 Try.underlying22 hi hz0 hz1 hz2 rfl (by decide) _ (a + k) _ rfl (hgot.out.alloc _) ⟨wr.heap.size, 0, none⟩ 1 1 [.int .i64 (q + 1)] rfl rfl (cell_one _ _ _) (fun u hu => by simp at hu; subst hu; rfl) (by unfold maxLen; omega) (by omega) (by have := hbel.out.size; simp; omega) ?_; intro v' w4 hown' hgrow hnil)
                    have HG' : Hid (Got w4 W.heap.size v' (a + (k + 1)) (sm z n w)) := got_next' hown' HV.out.symm
                    have HB' : Hid (Below W.heap.size W w4) := below_own (hbel.out.alloc hbel.out.size _) (Nat.le_refl _) hgrow (fun k hk => got_block hgot.out k hk)
                    clear hown' hgrow hnil hgot hbel
                    go_wp2
                    go_roundw
                    case rel => exact ⟨k + 1, _, rfl, by omega, by go_num, HG', HB'⟩
                    case measure => simp [intOf]; omega
                  · rw [if_neg hkr, Int.add_zero] at hV
                    have hd : decide ((k : Int) < S - q * (L : Int)) = false := df (by rw [HRr.out]; exact hkr)
                    have HV := Lib.hid hV
                    clear hV
                    go_wp2_with (at_builtin; refine wpList_append_own _ rfl _ _ 22 rfl W.heap.size 3 i0 (.int .i64 0) 1 8 Try.underlying22 hi hz0 hz1 hz2 rfl (by decide) _ (a + k) _ rfl (hgot.out.alloc _) ⟨wr.heap.size, 0, none⟩ 1 1 [.int .i64 (q)] rfl rfl (cell_one _ _ _) (fun u hu => by simp at hu; subst hu; rfl) (by unfold maxLen; omega) (by omega) (by have := hbel.out.size; simp; omega) ?_; intro v' w4 hown' hgrow hnil)
                    have HG' : Hid (Got w4 W.heap.size v' (a + (k + 1)) (sm z n w)) := got_next' hown' HV.out.symm
                    have HB' : Hid (Below W.heap.size W w4) := below_own (hbel.out.alloc hbel.out.size _) (Nat.le_refl _) hgrow (fun k hk => got_block hgot.out k hk)
                    clear hown' hgrow hnil hgot hbel
                    go_wp2
                    go_roundw
                    case rel => exact ⟨k + 1, _, rfl, by omega, by go_num, HG', HB'⟩
                    case measure => simp [intOf]; omega
                · have hki3 : ¬ (k : Int) < (L : Int) := by omega
                  have hkL2 : k = L := by omega
                  have HG' : Hid (Got wr W.heap.size V (min (a + w) n) (sm z n w)) := by
                    have h := hgot.out
                    rw [hkL2] at h
                    rw [show min (a + w) n = a + L by have := HL.out; unfold gl at this; omega]
                    exact h
                  have hag' : Hid (a + w = (g + 1) * w) := by
                    show _ = _
                    rw [Nat.add_mul, Nat.one_mul, hag.out]
                  clear hgot hkL2
                  go_wp2
                  go_roundw
                  case rel => exact ⟨g + 1, a + w, _, rfl, by omega, by go_num, hag', HG', hbel⟩
                  case measure => simp [intOf]; omega
        · have hkn : ¬ (a : Int) < (n : Int) := by omega
          have hg := hgot.out
          rw [Nat.min_eq_right (by omega)] at hg
          obtain ⟨pp, cc, rfl, hrd⟩ := got_rd hg
          have HRD := Lib.hid hrd
          clear hg hrd hgot hlt
          go_wp2
          go_ret2
          exact ⟨_, _, rfl, HRD.out, hbel.out⟩
end Go.Proofs.Ytbcjigociliflaa.If

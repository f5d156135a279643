/-
  The contract of the program's Print.
-/
import Derived.Test.YtlelcooomfcbaaaDoorGpStr
import Derived.Test.YtlelcooomfcbaaaDoorGpFns
import Derived.Test.YtlelcooomfcbaaaDoorGgEca
namespace Go.Proofs.YtlelcooomfcbaaaDoor.Gg
open Go.ChangeShapes Go.WideShapes Go.ChangeAt Go.RowKit
set_option linter.unusedVariables false

/-- P6.3: the text of readings. -/
def prS (R : Nat → Nat → Int) (n : Nat) : List UInt8 := if enX R n = 0 then prL R n else []
def PrP (w : World) (x : Int) (l : List UInt8) (e : Ending) (w' : World) : Prop := e = .returned (.tuple #[.string ⟨l.toArray⟩, .int .i64 x]) ∧ Below w.heap.size w w'
theorem ix0 (a b c : Value) (w : World) : (Instr.index 50 (.agg #[a, b, c]) (.int .i64 0)).run Tryd.prog w = .ok a w := by kernel_rfl
theorem ix1 (a b c : Value) (w : World) : (Instr.index 50 (.agg #[a, b, c]) (.int .i64 1)).run Tryd.prog w = .ok b w := by kernel_rfl
theorem ix2 (a b c : Value) (w : World) : (Instr.index 50 (.agg #[a, b, c]) (.int .i64 2)).run Tryd.prog w = .ok c w := by kernel_rfl
attribute [local go_sem] ix0 ix1 ix2
theorem ppri_bad (p : Option Addr) (n c : Nat) (R : Nat → Nat → Int) (w : World) (hp : RdR w p n R) (hn : n ≤ 9223372036854775806) (hx : enX R n ≠ 0) : Calls Tryd.prog 16 #[.slice p n c] w (PrP w (enX R n) []) := by
  have HA : Hid (Calls Tryd.prog 30 #[.slice p n c] w (Ek (enX R n) w)) := pcl_any p n c R w hp hn
  have hcn : (enX R n != 0) = true := by simpa using hx
  clear hp hx
  generalize enX R n = cd at *
  go_enter Tryd.func16, Tryd.ntmps16
  go_wp2_with (go_at_call 30; refine HA.out.mono ?_; rintro e w1 ⟨rfl, hb1⟩; have HB1 := Lib.hid hb1; clear hb1)
  go_ret2
  exact ⟨rfl, HB1.out⟩
set_option maxRecDepth 100000 in
set_option maxHeartbeats 4000000 in
theorem ppri_good (p : Option Addr) (n c : Nat) (R : Nat → Nat → Int) (w : World) (hp : RdR w p n R) (hn : n ≤ 4096) (hx : alG R n = 0) (hw : FlW w) (ht : TbW w) : Calls Tryd.prog 16 #[.slice p n c] w (PrP w 0 (prL R n)) := by
  have HA : Hid (Calls Tryd.prog 30 #[.slice p n c] w (Ek 0 w)) := by
    have h := pcl_any p n c R w hp (by omega)
    have e : lsE R n = 0 := by unfold lsE; rw [if_neg (by omega), hx]
    rw [e] at h
    exact h
  have HP := Lib.hid hp
  have HV := Lib.hid ((alG_zero R n).1 hx)
  have HW := Lib.hid hw
  have HT := Lib.hid ht
  clear hp hx hw ht
  have hni : (n : Int) ≤ 4096 := by omega
  go_enter Tryd.func16, Tryd.ntmps16
  go_wp2_with (go_at_call 30; refine HA.out.mono ?_; rintro e w1 ⟨rfl, hb1⟩; have HP1 := Lib.hid (HP.out.below hb1 (Nat.le_refl _)); have HW1 := Lib.hid (HW.out.up hb1 (Nat.le_refl _)); have HT1 := Lib.hid (tb_up HT.out hb1); have HB1 := Lib.hid hb1; have hs1 := hb1.size; clear hb1 HP HW HT)
  go_loopw [17] (fun i wr => ∃ k : Nat, k ≤ n ∧ i = .int .i64 k ∧ Hid (Bl w1 (prL R k) wr)) (fun i _ => n - (intOf i).toNat)
  case atStart => exact ⟨0, Nat.zero_le _, rfl, Bl.start w1⟩
  case round =>
    obtain ⟨k, hk, rfl, hbl⟩ := hrel
    by_cases hkn : k < n
    · have hki : (k : Int) < (n : Int) := by omega
      obtain ⟨b, off, rfl, hrs⟩ := HP1.out (by omega)
      obtain ⟨c0, c1, c2, c3⟩ := (hrs.up hbl.out.2 (Nat.le_refl _)).cells k hkn
      have HVk := Lib.hid (HV.out k hkn)
      have HNk := Lib.hid (HVk.out.nums)
      have HPC := Lib.hid (pc_le (R k) HNk.out)
      have hpl := pr_le R k (fun i hi => HV.out i (by omega))
      have HL : Hid (prL R (k + 1) = prL R k ++ (pcL (R k) 3 ++ (fwL (R k 3) ++ [10]))) := rfl
      clear hrs
      generalize prL R k = L at *
      go_upto_region 8 with fail
      have hbx0 : Hid (Bx4 (wr.alloc (.cells #[.int .i64 (R k 0), .int .i64 (R k 1), .int .i64 (R k 2), .int .i64 (R k 3)] 23)) wr.heap.size (R k 0) (R k 1) (R k 2) (R k 3)) := Bx4.new _ _ _ _ _
      have hbl0 : Hid (Bl w1 L (wr.alloc (.cells #[.int .i64 (R k 0), .int .i64 (R k 1), .int .i64 (R k 2), .int .i64 (R k 3)] 23))) := hbl.out.up ((Below.refl _ _).alloc (Nat.le_refl _) _)
      have hbx0c := hbx0.out.cells
      have hne : w1.heap.size < wr.heap.size := hbl.out.lt
      obtain ⟨d0, d1, d2, d3⟩ := hbx0c
      have hVr := HVk.out
      have p0 := HPC.out 0 (by omega)
      have p1 := HPC.out 1 (by omega)
      have p2 := HPC.out 2 (by omega)
      have p3 := HPC.out 3 (by omega)
      have i0 := itoa_le _ (HNk.out 0 (by omega))
      have i1 := itoa_le _ (HNk.out 1 (by omega))
      have i2 := itoa_le _ (HNk.out 2 (by omega))
      generalize wr.alloc (.cells #[.int .i64 (R k 0), .int .i64 (R k 1), .int .i64 (R k 2), .int .i64 (R k 3)] 23) = w2 at *
      obtain ⟨N, hN⟩ : ∃ N, N = wr.heap.size := ⟨_, rfl⟩
      rw [← hN] at hbx0 hne d0 d1 d2 d3 ⊢
      clear hN hbl
      go_wp2
      go_loopw [28] (fun i wq => ∃ q : Nat, q ≤ 3 ∧ i = .int .i64 q ∧ Hid (Bl w1 (L ++ pcL (R k) q) wq) ∧ Hid (Bx4 wq N (R k 0) (R k 1) (R k 2) (R k 3))) (fun i _ => 3 - (intOf i).toNat)
      case atStart => exact ⟨0, by omega, rfl, by rw [show pcL (R k) 0 = [] from rfl, List.append_nil]; exact hbl0.out, hbx0.out⟩
      case round =>
        obtain ⟨q, hq3, rfl, hq, hbx⟩ := hrel
        have hc : q = 0 ∨ q = 1 ∨ q = 2 ∨ q = 3 := by omega
        clear hq3 hbl0 hbx0 d0 d1 d2 d3
        rcases hc with rfl | rfl | rfl | rfl
        · have hqq : (pcL (R k) 0).length ≤ 66 := by omega
          go_wp2_with (first
            | (go_at_call 35; refine (itoa_any _ _ (HNk.out 0 (by omega)) (tb_up HT1.out hq.out.2)).mono ?_; rintro e w3 ⟨rfl, hb3⟩; have HQ3 := Lib.hid (hq.out.up hb3); have HX3 := Lib.hid (hbx.out.up hb3); clear hb3)
            | (go_at_call 34; refine (wstr_any w1 _ _ _ HQ3.out (by rw [List.length_append]; omega)).mono ?_; rintro e w4 ⟨⟨n4, rfl⟩, hq4, hk4⟩; have HQ4 := Lib.hid hq4; have HX4 := Lib.hid (HX3.out.kept hk4 (by omega)); clear hq4 hk4)
            | (go_at_call 36; refine (wbyt_any w1 _ 32 _ HQ4.out (by rw [List.length_append, List.length_append]; omega)).mono ?_; rintro e w5 ⟨rfl, hq5, hk5⟩; have HQ5 := Lib.hid hq5; have HX5 := Lib.hid (HX4.out.kept hk5 (by omega)); clear hq5 hk5))
          go_roundw
          case rel => exact ⟨0 + 1, by omega, by go_num, by
            have h := HQ5.out
            rw [List.append_assoc, List.append_assoc] at h
            exact h, HX5.out⟩
          case measure => simp [intOf]
        · have hqq : (pcL (R k) 1).length ≤ 66 := by omega
          go_wp2_with (first
            | (go_at_call 35; refine (itoa_any _ _ (HNk.out 1 (by omega)) (tb_up HT1.out hq.out.2)).mono ?_; rintro e w3 ⟨rfl, hb3⟩; have HQ3 := Lib.hid (hq.out.up hb3); have HX3 := Lib.hid (hbx.out.up hb3); clear hb3)
            | (go_at_call 34; refine (wstr_any w1 _ _ _ HQ3.out (by rw [List.length_append]; omega)).mono ?_; rintro e w4 ⟨⟨n4, rfl⟩, hq4, hk4⟩; have HQ4 := Lib.hid hq4; have HX4 := Lib.hid (HX3.out.kept hk4 (by omega)); clear hq4 hk4)
            | (go_at_call 36; refine (wbyt_any w1 _ 32 _ HQ4.out (by rw [List.length_append, List.length_append]; omega)).mono ?_; rintro e w5 ⟨rfl, hq5, hk5⟩; have HQ5 := Lib.hid hq5; have HX5 := Lib.hid (HX4.out.kept hk5 (by omega)); clear hq5 hk5))
          go_roundw
          case rel => exact ⟨1 + 1, by omega, by go_num, by
            have h := HQ5.out
            rw [List.append_assoc, List.append_assoc] at h
            exact h, HX5.out⟩
          case measure => simp [intOf]
        · have hqq : (pcL (R k) 2).length ≤ 66 := by omega
          go_wp2_with (first
            | (go_at_call 35; refine (itoa_any _ _ (HNk.out 2 (by omega)) (tb_up HT1.out hq.out.2)).mono ?_; rintro e w3 ⟨rfl, hb3⟩; have HQ3 := Lib.hid (hq.out.up hb3); have HX3 := Lib.hid (hbx.out.up hb3); clear hb3)
            | (go_at_call 34; refine (wstr_any w1 _ _ _ HQ3.out (by rw [List.length_append]; omega)).mono ?_; rintro e w4 ⟨⟨n4, rfl⟩, hq4, hk4⟩; have HQ4 := Lib.hid hq4; have HX4 := Lib.hid (HX3.out.kept hk4 (by omega)); clear hq4 hk4)
            | (go_at_call 36; refine (wbyt_any w1 _ 32 _ HQ4.out (by rw [List.length_append, List.length_append]; omega)).mono ?_; rintro e w5 ⟨rfl, hq5, hk5⟩; have HQ5 := Lib.hid hq5; have HX5 := Lib.hid (HX4.out.kept hk5 (by omega)); clear hq5 hk5))
          go_roundw
          case rel => exact ⟨2 + 1, by omega, by go_num, by
            have h := HQ5.out
            rw [List.append_assoc, List.append_assoc] at h
            exact h, HX5.out⟩
          case measure => simp [intOf]
        · obtain ⟨d0, d1, d2, d3⟩ := hbx.out.cells
          obtain ⟨_, g0, g1, g2⟩ := HW1.out.up hq.out.2 (Nat.le_refl _)
          unfold Vr at hVr
          have hf : R k 3 = 0 ∨ R k 3 = 1 ∨ R k 3 = 2 := by omega
          rcases hf with hf | hf | hf
          · rw [hf] at d3 HL
            rw [show fwL 0 = [111, 107] from rfl] at HL
            clear hf hbx
            go_wp2_with (first
              | (go_at_call 34; refine (wstr_any w1 _ [111, 107] _ hq.out (by rw [List.length_append]; simp; omega)).mono ?_; rintro e w4 ⟨⟨n4, rfl⟩, hq4, hk4⟩; have HQ4 := Lib.hid hq4; clear hq4 hk4)
              | (go_at_call 36; refine (wbyt_any w1 _ 10 _ HQ4.out (by rw [List.length_append, List.length_append]; simp; omega)).mono ?_; rintro e w5 ⟨rfl, hq5, hk5⟩; have HQ5 := Lib.hid hq5; clear hq5 hk5))
            go_roundw
            case rel => exact ⟨k + 1, by omega, by go_num, by
              rw [HL.out]
              have h := HQ5.out
              rw [List.append_assoc, List.append_assoc] at h
              exact h⟩
            case measure => simp [intOf]; omega
          · rw [hf] at d3 HL
            rw [show fwL 1 = [105, 99, 101] from rfl] at HL
            clear hf hbx
            go_wp2_with (first
              | (go_at_call 34; refine (wstr_any w1 _ [105, 99, 101] _ hq.out (by rw [List.length_append]; simp; omega)).mono ?_; rintro e w4 ⟨⟨n4, rfl⟩, hq4, hk4⟩; have HQ4 := Lib.hid hq4; clear hq4 hk4)
              | (go_at_call 36; refine (wbyt_any w1 _ 10 _ HQ4.out (by rw [List.length_append, List.length_append]; simp; omega)).mono ?_; rintro e w5 ⟨rfl, hq5, hk5⟩; have HQ5 := Lib.hid hq5; clear hq5 hk5))
            go_roundw
            case rel => exact ⟨k + 1, by omega, by go_num, by
              rw [HL.out]
              have h := HQ5.out
              rw [List.append_assoc, List.append_assoc] at h
              exact h⟩
            case measure => simp [intOf]; omega
          · rw [hf] at d3 HL
            rw [show fwL 2 = [102, 97, 117, 108, 116] from rfl] at HL
            clear hf hbx
            go_wp2_with (first
              | (go_at_call 34; refine (wstr_any w1 _ [102, 97, 117, 108, 116] _ hq.out (by rw [List.length_append]; simp; omega)).mono ?_; rintro e w4 ⟨⟨n4, rfl⟩, hq4, hk4⟩; have HQ4 := Lib.hid hq4; clear hq4 hk4)
              | (go_at_call 36; refine (wbyt_any w1 _ 10 _ HQ4.out (by rw [List.length_append, List.length_append]; simp; omega)).mono ?_; rintro e w5 ⟨rfl, hq5, hk5⟩; have HQ5 := Lib.hid hq5; clear hq5 hk5))
            go_roundw
            case rel => exact ⟨k + 1, by omega, by go_num, by
              rw [HL.out]
              have h := HQ5.out
              rw [List.append_assoc, List.append_assoc] at h
              exact h⟩
            case measure => simp [intOf]; omega
    · obtain rfl : k = n := by omega
      go_wp2_with (go_at_call 37; refine (bstr_any w1 _ _ hbl.out).mono ?_; rintro e w2 ⟨rfl, hb2⟩; have HB2 := Lib.hid (HB1.out.trans (hb2.mono hs1)); clear hb2)
      go_ret2
      exact ⟨rfl, HB2.out⟩
end Go.Proofs.YtlelcooomfcbaaaDoor.Gg

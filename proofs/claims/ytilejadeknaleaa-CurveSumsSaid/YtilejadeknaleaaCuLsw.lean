/-
  The walk of the law CurveSums.
-/
import Derived.Test.YtilejadeknaleaaCuLsu
namespace Go.Proofs.Ytilejadeknaleaa.Cu
open Go.ChangeShapes Go.WideShapes Go.ChangeAt Go.RowKit
set_option linter.unusedVariables false

set_option maxRecDepth 100000 in
set_option maxHeartbeats 16000000 in
theorem lsu_walk (p : Option Addr) (n c : Nat) (z : Nat → Int) (x : Int) (w : World) (hr : RdI w p n z) (hn : n ≤ 9223372036854775807) (hz : ∀ i, -9223372036854775808 ≤ z i ∧ z i ≤ 9223372036854775807)
    (h1 : -9223372036854775808 ≤ x ∧ x ≤ 9223372036854775807) :
    Calls Try.prog 5 #[.slice p n c, .int .i64 x] w fun e w' => e = .returned (.bool true) ∧ Below w.heap.size w w' := by
  have HN := Lib.hid (new_any p n c z w hn hz hr)
  have HM1 := Lib.hid (fun W => mod_any x 160 W h1 (by omega) (by omega))
  have v1 := md_lo x 160 (by omega)
  have v2 := md_hi x 160 (by omega)
  clear hr hz hn h1
  generalize md x 160 = v at *
  go_enter Try.func5, Try.ntmps5
  go_wp2_with (first
    | (go_at_call 8; refine HN.out.mono ?_; rintro e w1 ⟨rfl, hd1, hb1⟩)
    | (go_at_call 15; first
      | (refine (next_any w.heap.size p n c z _ _ hd1 (by omega)).mono ?_; rintro e w2 ⟨r1, rfl, r11, r12, hd2, hg2⟩; clear hd1)
      | (refine (next_any w.heap.size p n c z _ _ hd2 (by omega)).mono ?_; rintro e w3 ⟨r2, rfl, r21, r22, hd3, hg3⟩; clear hd2)
      | (refine (next_any w.heap.size p n c z _ _ hd4 (by omega)).mono ?_; rintro e w5 ⟨r3, rfl, r31, r32, hd5, hg5⟩; clear hd4)
      | (refine (next_any w.heap.size p n c z _ _ hd5 (by omega)).mono ?_; rintro e w6 ⟨r4, rfl, r41, r42, hd6, hg6⟩; clear hd5))
    | (go_at_call 14; first
      | (refine (curve_any w.heap.size p n c z r1 r2 30 40 false _ hd3 (by omega) (by omega) (by omega) (by omega)).mono ?_; intro e w4 hcv; obtain ⟨b, cap, k, m, X, Y, rfl, m1, m4, hk, hwb, hpt, hcur, hbd, hd4, hg4⟩ := cv_open hcv (by omega) (by omega) (by omega) (by omega); have HK := Lib.hid hk; have HPT := Lib.hid hpt; have HCU := Lib.hid hcur; have HBD := Lib.hid hbd; have HG4 := Lib.hid hg4; have hbg := hd3.lt; clear hd3 hcv hk hpt hcur hbd hg4)
      | (refine (curve_any w.heap.size p n c z r3 r4 30 40 false _ hd6 (by omega) (by omega) (by omega) (by omega)).mono ?_; intro e w7 hcv; obtain ⟨b2, cap2, k2, m2, X2, Y2, rfl, m21, m24, hk2, hwb2, hpt2, hcur2, hbd2, hd7, hg7⟩ := cv_open hcv (by omega) (by omega) (by omega) (by omega); have HK2 := Lib.hid hk2; have HPT2 := Lib.hid hpt2; have HCU2 := Lib.hid hcur2; have HBD2 := Lib.hid hbd2; have HG7 := Lib.hid hg7; clear hd6 hcv hk2 hpt2 hcur2 hbd2 hg7))
    | (go_at_call 10; first
      | (have HT : Hid (Two2 w7 b 0 k cap m b2 0 k2 cap2 m2 X Y X2 Y2) := ⟨HK.out, HK2.out, HPT.out.grown (grown_trans (grown_trans hg5 hg6) HG7.out) (by intro e; cases e; omega), HPT2.out, HCU.out, HCU2.out⟩; have HXA : Hid (∀ i, i ≤ m → X i ≤ 5000 ∧ Y i ≤ 5000) := (fun i hi => by have := HBD.out i hi; omega); have HXB : Hid (∀ i, i ≤ m2 → X2 i ≤ 5000 ∧ Y2 i ≤ 5000) := (fun i hi => by have := HBD2.out i hi; omega); have HBL : Hid (Below w.heap.size w w7) := (hb1.grown (grown_trans (grown_trans (grown_trans (grown_trans (grown_trans hg2 hg3) HG4.out) hg5) hg6) HG7.out) hb1.size (by intro k hk; cases hk; exact Nat.le_refl _)); refine (add_later HT.out m4 m24 HXA.out HXB.out _ (Below.refl _ _)).mono ?_; rintro e w8 ⟨g, cg, rfl, hp8, hb8⟩; obtain ⟨LX, LY, a, bb, cc, HSU, ⟨a1, a2⟩, ⟨b1, b2'⟩, cc1, cc2⟩ := su_pack (cg := cg) HT.out m4 m24 HXA.out HXB.out hb8.out hp8.out v; have HFin : Hid (∀ W, Hid (Below w8.heap.size w8 W) → Below w.heap.size w W) := (fun W h => (HBL.out.trans (hb8.out.mono HBL.out.size)).trans (h.out.mono (Nat.le_trans HBL.out.size hb8.out.size))); have hbb : Hid (Below w8.heap.size w8 w8) := Below.refl _ _; have dd1 : decide (a + bb - 1 ≤ cc) = true := (by rw [decide_eq_true_eq]; omega); have dd2 : decide (cc ≤ a + bb + 1) = true := (by rw [decide_eq_true_eq]; omega); clear HT HXA HXB HBL hp8 hb8 HK HK2 HPT HPT2 HCU HCU2 HBD HBD2 HG4 HG7 hg2 hg3 hg5 hg6 hd7 hb1 HN; generalize (sumL X X2 (m + 1) (m2 + 1)).length = nl at *)
      | (refine (HSU.out.D _ (by assumption)).mono ?_; rintro e w9 ⟨g2, cg2, rfl, hp9, hbb⟩))
    | (go_at_call 16; refine (HM1.out _).mono ?_; rintro e w' ⟨rfl, rfl⟩)
    | (go_at_call 17; first
      | (go_at_call_has 17 (Value.slice (some ⟨b, 0, none⟩) k cap); refine (HSU.out.A _ (by assumption)).mono ?_; rintro e w9 ⟨rfl, hbb⟩)
      | (go_at_call_has 17 (Value.slice (some ⟨b2, 0, none⟩) k2 cap2); refine (HSU.out.B _ (by assumption)).mono ?_; rintro e w9 ⟨rfl, hbb⟩)
      | (go_at_call_has 17 (Value.slice (some ⟨g, 0, none⟩) nl cg); refine (HSU.out.C _ (by assumption)).mono ?_; rintro e w9 ⟨rfl, hbb⟩))
    | (go_at_call 12; refine (HSU.out.E _ _ _ (by assumption) (by assumption)).mono ?_; rintro e w9 ⟨rfl, hbb⟩)
    | (go_at_call 20; refine (HSU.out.F _ (by assumption)).mono ?_; rintro e w9 ⟨rfl, hbb⟩)
    | (go_at_call 13; refine (awake_later _ (by assumption)).mono ?_; rintro e w9 ⟨rfl, hbb⟩))
  go_ret
  exact ⟨rfl, HFin.out _ hbb⟩
end Go.Proofs.Ytilejadeknaleaa.Cu

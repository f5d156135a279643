/-
  The walk of the law RatingStage.
-/
import Derived.Test.YtdcjgeebkinjlaaRaSg
import Derived.Deep.DeepCutAuto
namespace Go.Proofs.Ytdcjgeebkinjlaa.Ra
open Go.ChangeShapes Go.WideShapes Go.ChangeAt Go.RowKit
open Go.Proofs.Ytdcjgeebkinjlaa.Cu hiding inB inB_yes inB_no exX exY exC exP
open Go.Proofs.Ytdcjgeebkinjlaa.Gg (ckG ckG_zero pck_any Ek Vr Rs RdR MkR alG gotR_rd gall_any readings_any)
set_option linter.unusedVariables false

set_option maxRecDepth 100000 in
set_option maxHeartbeats 8000000 in
theorem lst_walk (p : Option Addr) (n c : Nat) (z : Nat → Int) (x : Int) (w : World) (hr : RdI w p n z) (hn : n ≤ 9223372036854775807) (hz : ∀ i, -9223372036854775808 ≤ z i ∧ z i ≤ 9223372036854775807)
    (h1 : -9223372036854775808 ≤ x ∧ x ≤ 9223372036854775807) :
    Calls Try.prog 5 #[.slice p n c, .int .i64 x] w fun e w' => e = .returned (.bool true) ∧ Below w.heap.size w w' := by
  have HN := Lib.hid (new_any p n c z w hn hz hr)
  have HM := Lib.hid (fun W => mod_any x 400 W h1 (by omega) (by omega))
  have v1 := md_lo x 400 (by omega)
  have v2 := md_hi x 400 (by omega)
  clear hr hz hn h1
  generalize md x 400 = nn at *
  go_enter Try.func5, Try.ntmps5
  go_upto_region 4 with (first
    | (go_at_call 8; refine HN.out.mono ?_; rintro e w1 ⟨rfl, hd1, hb1⟩)
    | (go_at_call 7; refine (rating_any w.heap.size p n c z _ hd1).mono ?_; rintro e w2 ⟨b, cap, k, m, X, Y, ice, rfl, hk, hwb, hpt, hcap, hra, hd2, hg2⟩; have hgl := hd1.lt; have hsg := hg2.size; have HBL : Hid (Below w.heap.size w w2) := (hb1.grown hg2 hb1.size (by intro k hk; cases hk; exact Nat.le_refl _)); obtain ⟨s, fx, ym, a, bv, ev, ok, tv, HSG, ⟨hs0, hs1⟩, hcs⟩ := sg_pack (cap := cap) hk hpt hra ⟨v1, v2⟩; have HCS := Lib.hid hcs; have HK := Lib.hid hk; have hm4 := hra.m4; have hkl : k ≤ 5 := (by omega); have hk0 : 0 < k := (by omega); have hk1 : (k : Int) - 1 = (m : Int) := (by omega); have hmk : (m : Int) < (k : Int) := (by omega); have HPT := Lib.hid hpt; have HRA := Lib.hid hra; have HD2 := Lib.hid hd2; have hbg : w.heap.size < b := (by omega); have hrg : w.heap.size < w2.heap.size := (by omega); have HB0 := Lib.hid ((Below.refl w2.heap.size w2).alloc (Nat.le_refl _) (.cells #[.slice (some ⟨b, 0, none⟩) k cap, .int .i64 ice] 25)); have HR0 := Lib.hid (C2.new w2 (.slice (some ⟨b, 0, none⟩) k cap) (.int .i64 ice) 25); clear hk hwb hpt hcap hra hd2 hg2 hd1 hb1 hcs hgl hsg)
    | (go_at_call 9; refine (HM.out _).mono ?_; rintro e w' ⟨rfl, rfl⟩))
  clear HN HM
  rcases HCS.out with ⟨rfl, y1, y2, y3, y4, rfl⟩ | ⟨rfl, y1, y2, y3⟩ | ⟨rfl, y1⟩
  case' inl =>
    have e1 : decide (nn ≤ ym) = true := by rw [decide_eq_true_eq]; exact y1
    have e2 : decide (a < nn) = false := by rw [decide_eq_false_iff_not]; omega
    have e3 : decide (s < fx) = false := by rw [decide_eq_false_iff_not]; omega
    have e4 : decide (fx < s) = true := by rw [decide_eq_true_eq]; exact y2
    have e5 : decide (nn ≤ bv) = false := by rw [decide_eq_false_iff_not]; omega
    go_upto_region 15 with (first
      | (go_at_call 13; refine (HSG.out.S _ HB0).mono ?_; rintro e w3 ⟨rfl, hb3⟩; have HR3 := Lib.hid (HR0.out.next hb3); obtain ⟨c0, c1⟩ := HR3.out; have HB3 := Lib.hid (HB0.out.trans (hb3.mono HB0.out.size)); obtain ⟨l0, l1⟩ := HSG.out.cells m HK.out _ HB3; clear HB0 HR0 hb3)
      | (go_at_call 10; first
        | (refine (HSG.out.F _ HB3).mono ?_; rintro e w4 ⟨rfl, hb4⟩; have HR4 := Lib.hid (HR3.out.next hb4); obtain ⟨c0, c1⟩ := HR4.out; have HB4 := Lib.hid (HB3.out.trans (hb4.mono HB3.out.size)); clear HB3 HR3 hb4)
        | (refine (HSG.out.G _ HB4).mono ?_; rintro e w5 ⟨rfl, hb5⟩; have HR5 := Lib.hid (HR4.out.next hb5); obtain ⟨c0, c1⟩ := HR5.out; have HB5 := Lib.hid (HB4.out.trans (hb5.mono HB4.out.size)); clear HB4 HR4 hb5)))
  case' inr.inl =>
    have e1 : decide (nn ≤ ym) = true := by rw [decide_eq_true_eq]; exact y1
    have e2 : decide (a < nn) = false := by rw [decide_eq_false_iff_not]; omega
    have e3 : decide (s < fx) = false := by rw [decide_eq_false_iff_not]; omega
    have e4 : decide (fx < s) = false := by rw [decide_eq_false_iff_not]; omega
    have y4 : s ≤ fx := by omega
    have y5 : fx ≤ s := by omega
    have Y2 := Lib.hid y2
    clear y2
    go_upto_region 15 with (first
      | (go_at_call 13; refine (HSG.out.S _ HB0).mono ?_; rintro e w3 ⟨rfl, hb3⟩; have HR3 := Lib.hid (HR0.out.next hb3); obtain ⟨c0, c1⟩ := HR3.out; have HB3 := Lib.hid (HB0.out.trans (hb3.mono HB0.out.size)); obtain ⟨l0, l1⟩ := HSG.out.cells m HK.out _ HB3; clear HB0 HR0 hb3)
      | (go_at_call 10; first
        | (refine (HSG.out.F _ HB3).mono ?_; rintro e w4 ⟨rfl, hb4⟩; have HR4 := Lib.hid (HR3.out.next hb4); obtain ⟨c0, c1⟩ := HR4.out; have HB4 := Lib.hid (HB3.out.trans (hb4.mono HB3.out.size)); clear HB3 HR3 hb4)
        | (refine (HSG.out.G _ HB4).mono ?_; rintro e w5 ⟨rfl, hb5⟩; have HR5 := Lib.hid (HR4.out.next hb5); obtain ⟨c0, c1⟩ := HR5.out; have HB5 := Lib.hid (HB4.out.trans (hb5.mono HB4.out.size)); clear HB4 HR4 hb5)))
  case' inr.inr =>
    have e1 : decide (nn ≤ ym) = false := by rw [decide_eq_false_iff_not]; omega
    go_upto_region 15 with (first
      | (go_at_call 13; refine (HSG.out.S _ HB0).mono ?_; rintro e w3 ⟨rfl, hb3⟩; have HR3 := Lib.hid (HR0.out.next hb3); obtain ⟨c0, c1⟩ := HR3.out; have HB3 := Lib.hid (HB0.out.trans (hb3.mono HB0.out.size)); obtain ⟨l0, l1⟩ := HSG.out.cells m HK.out _ HB3; clear HB0 HR0 hb3)
      | (go_at_call 10; first
        | (refine (HSG.out.F _ HB3).mono ?_; rintro e w4 ⟨rfl, hb4⟩; have HR4 := Lib.hid (HR3.out.next hb4); obtain ⟨c0, c1⟩ := HR4.out; have HB4 := Lib.hid (HB3.out.trans (hb4.mono HB3.out.size)); clear HB3 HR3 hb4)
        | (refine (HSG.out.G _ HB4).mono ?_; rintro e w5 ⟨rfl, hb5⟩; have HR5 := Lib.hid (HR4.out.next hb5); obtain ⟨c0, c1⟩ := HR5.out; have HB5 := Lib.hid (HB4.out.trans (hb5.mono HB4.out.size)); clear HB4 HR4 hb5)))
    have HB5 := HB3
    have HR5 := HR3
    clear HB3 HR3
    obtain ⟨w5, rfl⟩ : ∃ w5, w5 = w3 := ⟨_, rfl⟩
  all_goals
    clear HSG HCS
    have HD5 := Lib.hid (HD2.out.below HB5.out hrg)
    go_upto_region 19 with (first
      | (go_at_call 14; refine (readings_any w.heap.size p n c z 8 _ HD5.out (by omega)).mono ?_; rintro e w6 ⟨v, j, R, rfl, hj8, hmk6, hgi⟩; obtain ⟨pl, cl, rfl, hrd⟩ := gotR_rd hgi.got; have HR6 := Lib.hid (HR5.out.grown hgi.gr (by intro e; have e2 := Option.some.inj e; omega)); obtain ⟨c0, c1⟩ := HR6.out; have HP6 := Lib.hid ((HPT.out.up HB5.out (Nat.le_refl _)).grown hgi.gr (by intro e; have e2 := Option.some.inj e; omega)); have HRD := Lib.hid hrd; have HVR : Hid (∀ i, i < j → Vr (R i)) := (Gg.alG_zero R j).1 (hmk6.ok (by omega)); have HB6 : Hid (Below w.heap.size w w6) := (HBL.out.trans (HB5.out.mono HBL.out.size)).grown hgi.gr (Nat.le_trans HBL.out.size HB5.out.size) (by intro k hk; cases hk; exact Nat.le_refl _); have dj : ((j : Int) != (j : Int)) = false := (by simp); have hj9 : (j : Int) ≤ 8 := (by omega); clear hrd hmk6 hgi HD5 HR5 HB5)
      | (go_at_call 15; refine (flows_ok b 0 k cap m X Y ice pl j cl R _ (cv_ok b 0 k m cap X Y HK.out HRA.out.cur) HP6.out (by have h0 := HRA.out.ice0; have h1 := HRA.out.ice1; omega) HRD.out (by omega) HVR.out).mono ?_; rintro e w7 ⟨gp, gq, rfl, hpq, hb7⟩; have HPQ := Lib.hid hpq; have HB7 := Lib.hid hb7; have HR7 := Lib.hid (HR6.out.next hb7); obtain ⟨c0, c1⟩ := HR7.out; have HRD7 := Lib.hid (HRD.out.below hb7 (Nat.le_refl _)); have HAL : Hid (∀ W, RdR W pl j R → Calls Try.prog 16 #[.slice pl j cl] W (Ek 0 W)) := (fun W h => (gall_any pl j cl R W h (by omega)).mono fun e w' h => (by rw [(Gg.alG_zero R j).2 HVR.out] at h; exact h)); clear hpq hb7 HR6 HRD)
      | (go_at_call 16; refine (HAL.out _ HRD7.out).mono ?_; rintro e w8 ⟨rfl, hb8⟩; have HB8 := Lib.hid hb8; have HR8 := Lib.hid (HR7.out.next hb8); obtain ⟨c0, c1⟩ := HR8.out; clear hb8))
    have HP8 := Lib.hid ((HP6.out.up HB7.out (Nat.le_refl _)).up HB8.out (Nat.le_refl _))
    have HRD8 := Lib.hid (HRD7.out.below HB8.out (Nat.le_refl _))
    have HFin : Hid (∀ W, Hid (Below w8.heap.size w8 W) → Below w.heap.size w W) := fun W h => ((HB6.out.trans (HB7.out.mono HB6.out.size)).trans (HB8.out.mono (HB6.out.trans (HB7.out.mono HB6.out.size)).size)).trans (h.out.mono ((HB6.out.trans (HB7.out.mono HB6.out.size)).trans (HB8.out.mono (HB6.out.trans (HB7.out.mono HB6.out.size)).size)).size)
    have HPW : Hid (∀ i, i < j → ∀ W, Hid (Below w8.heap.size w8 W) → W.cell? ⟨gp, i, none⟩ = some (.int .i64 (flV X Y m ice (R i 2) (R i 3))) ∧ W.cell? ⟨gq, i, none⟩ = some (.bool (flB (R i 3)))) := fun i hi W hb => by
      obtain ⟨a1, a2⟩ := HPQ.out i hi
      have hb7 : Below w7.heap.size w7 W := HB8.out.trans (hb.out.mono HB8.out.size)
      exact ⟨(hb7.cell (p := ⟨gp, i, none⟩) (World.block_lt_of_cell? _ _ a1)).trans a1, (hb7.cell (p := ⟨gq, i, none⟩) (World.block_lt_of_cell? _ _ a2)).trans a2⟩
    have HFL : Hid (∀ i, i < j → ∀ W, Hid (Below w8.heap.size w8 W) → Calls Try.prog 10 #[.agg #[.slice (some ⟨b, 0, none⟩) k cap, .int .i64 ice], .agg #[.int .i64 (R i 0), .int .i64 (R i 1), .int .i64 (R i 2), .int .i64 (R i 3)]] W fun e w' => e = .returned (.tuple #[.int .i64 (flV X Y m ice (R i 2) (R i 3)), .bool (flB (R i 3)), .int .i64 0]) ∧ Below W.heap.size W w') := fun i hi W hb => by
      have hv := HVR.out i hi
      have h0 := HRA.out.ice0
      have h1 := HRA.out.ice1
      exact flow_ok b 0 k cap m X Y ice (R i 0) (R i 1) (R i 2) (R i 3) W (cv_ok b 0 k m cap X Y HK.out HRA.out.cur) (HP8.out.up hb.out (Nat.le_refl _)) (by omega) ((ckG_zero _ _ _ _).2 ⟨⟨hv.1, hv.2.1⟩, ⟨hv.2.2.1, hv.2.2.2.1⟩, ⟨hv.2.2.2.2.1, hv.2.2.2.2.2.1⟩, hv.2.2.2.2.2.2⟩)
    clear HPQ HB7 HB8 HR7 HRD7 HAL HP6 HB6 HVR HP8 HPT HRA HD2 HK HBL l0 l1
    go_wp2
    go_loopw [136] (fun u wr => ∃ i : Nat, u = .int .i64 i ∧ i ≤ j ∧ Hid (Below w8.heap.size w8 wr)) (fun u _ => j - (intOf u).toNat)
    case atStart => exact ⟨0, rfl, Nat.zero_le _, Below.refl _ _⟩
    case round =>
      obtain ⟨i, rfl, hij, hbel⟩ := hrel
      by_cases hi : i < j
      · have hij' : (i : Int) < (j : Int) := by omega
        obtain ⟨rb, ro, hrp, hrs0⟩ := HRD8.out (by omega)
        obtain ⟨d0, d1, d2, d3⟩ := (hrs0.up hbel.out (Nat.le_refl _)).cells i hi
        have HF := Lib.hid (HFL.out i hi)
        have HG := Lib.hid (HPW.out i hi)
        subst hrp
        clear hrs0 c0 c1
        generalize flV X Y m ice (R i 2) (R i 3) = fv at *
        generalize flB (R i 3) = fb at *
        generalize R i 0 = r0 at *
        generalize R i 1 = r1 at *
        generalize R i 2 = r2 at *
        generalize R i 3 = r3 at *
        have dfv : (fv != fv) = false := by simp
        have HBA := Lib.hid (hbel.out.alloc hbel.out.size (.cells #[.int .i64 r0, .int .i64 r1, .int .i64 r2, .int .i64 r3] 31))
        obtain ⟨c0, c1⟩ := HR8.out.next HBA.out
        cases fb
        all_goals
          go_wp2_with (go_at_call 10; refine (HF.out _ HBA).mono ?_; rintro e w9 ⟨rfl, hb9⟩; have HB9 := Lib.hid (HBA.out.trans (hb9.mono HBA.out.size)); obtain ⟨g1, g2⟩ := HG.out _ HB9; clear hb9)
          go_roundw
          case rel => exact ⟨i + 1, by go_num, by omega, HB9⟩
          case measure => simp [intOf]; omega
      · obtain rfl : i = j := by omega
        go_wp2_with (go_at_call 11; refine (awk_later (w4 := w8) _ hbel).mono ?_; rintro e w9 ⟨rfl, hb9⟩)
        go_ret
        exact ⟨rfl, HFin.out _ hb9⟩
end Go.Proofs.Ytdcjgeebkinjlaa.Ra

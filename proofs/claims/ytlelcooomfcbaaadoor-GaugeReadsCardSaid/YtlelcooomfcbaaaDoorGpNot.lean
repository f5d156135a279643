/-
  The law GaugeNotices.
-/
import Derived.Test.YtlelcooomfcbaaaDoorGpNsn
import Derived.Test.YtlelcooomfcbaaaDoorGpDed
import Derived.Test.YtlelcooomfcbaaaDoorGpEnc
import Derived.Test.YtlelcooomfcbaaaDoorGpLga
import Derived.StillTailTactics
namespace Go.Proofs.YtlelcooomfcbaaaDoor.Gg
open Go.ChangeShapes Go.WideShapes Go.ChangeAt Go.RowKit
open Go.Proofs.YtlelcooomfcbaaaDoor.Ca (mod_any md md_lo md_hi inB inB_yes)
set_option linter.unusedVariables false

/-- One byte is set. -/
theorem by_set {W : World} {b off n i : Nat} {B : Nat → Int} {x : Int} (h : By W b off n B) (hi : i < n) : By (W.setCell ⟨b, off + i, none⟩ (.int .u8 x)) b off n (fun m => if m = i then x else B m) :=
  ⟨by simpa [World.setCell] using h.1, fun m hm => by
    by_cases e : m = i
    · subst e
      show _ = some (Value.int .u8 (if m = m then x else B m))
      rw [if_pos rfl]
      exact World.cell?_setCell_same _ _ _ (h.2 m hm)
    · show _ = some (Value.int .u8 (if m = i then x else B m))
      rw [if_neg e]
      exact (World.cell?_setCell_other _ _ _ _ (by intro e2; simp only [Addr.mk.injEq] at e2; omega)).trans (h.2 m hm)⟩
set_option maxRecDepth 100000 in
set_option maxHeartbeats 4000000 in
theorem gno_walk (p : Option Addr) (n c : Nat) (z : Nat → Int) (x y : Int) (w : World) (hr : RdI w p n z) (hn : n ≤ 9223372036854775807) (hz : ∀ i, -9223372036854775808 ≤ z i ∧ z i ≤ 9223372036854775807)
    (hx : -9223372036854775808 ≤ x ∧ x ≤ 9223372036854775807) (hy : -9223372036854775808 ≤ y ∧ y ≤ 9223372036854775807) (hw : FlW w) :
    Calls Tryd.prog 7 #[.slice p n c, .int .i64 x, .int .i64 y] w fun e w' => e = .returned (.bool true) ∧ Below w.heap.size w w' := by
  have HN := Lib.hid (Cu.new_any p n c z w hn hz hr)
  have HM5 := Lib.hid (fun W => mod_any y 255 W hy (by omega) (by omega))
  have HMN := Lib.hid (fun W (k : Int) (h1 : 1 ≤ k) (h2 : k ≤ 1000) => mod_any x k W hx h1 (by omega))
  have y0 := md_lo y 255 (by omega)
  have y1 := md_hi y 255 (by omega)
  generalize md y 255 = ym at *
  have HW := Lib.hid hw
  have HW0 := Lib.hid hw
  clear hr hn hz hx hy hw
  go_enter Tryd.func7, Tryd.ntmps7
  go_upto_region 3 with (first
    | (go_at_call 10; refine HN.out.mono ?_; rintro e w1 ⟨rfl, hd1, hb1⟩; have HD1 := Lib.hid hd1; have HB1 := Lib.hid hb1; clear hd1 hb1 HN)
    | (go_at_call 11; refine (readings_any _ p n c z 8 _ HD1.out (by omega)).mono ?_; rintro e w2 ⟨v, j, R, rfl, hj, hmk, hgi⟩; obtain ⟨p1, cap1, rfl, hrd⟩ := gotR_rd hgi.got; have HRD := Lib.hid hrd; have HMK := Lib.hid (vr_mk hmk (by omega)); have HGT := Lib.hid hgi.got; have HB2 : Hid (Below w.heap.size w w2) := HB1.out.grown hgi.gr HB1.out.size (fun k hk => by cases hk; exact Nat.le_refl _); clear hrd hmk hgi HD1 HB1)
    | (go_at_call 14; have HE : EnP w2 (enX R j) (enN R j) (enL R j) = EnP w2 0 (j * 12) (enL R j) := (by have e : enX R j = 0 := (by unfold enX; rw [if_neg (by omega)]; exact HMK.out); unfold enN; rw [e]; rfl); have HC := penc_any p1 j cap1 R _ HRD.out (by omega); rw [HE] at HC; refine HC.mono ?_; clear HC HE; rintro e w3 ⟨vb, rfl, hgb, hb3⟩; have HGB := Lib.hid hgb; have HR3 := Lib.hid (HRD.out.below hb3 (Nat.le_refl _)); have HG3 := Lib.hid (gotR_kept HGT.out hb3); have hs2 := HB2.out.size; have HB3 := Lib.hid (HB2.out.trans (hb3.mono HB2.out.size)); have hs3 := HB3.out.size; clear hgb hb3 HGT HB2))
  obtain ⟨m, hm⟩ : ∃ m, m = j * 12 := ⟨_, rfl⟩
  rw [← hm] at HGB
  have HMJ := Lib.hid hm
  have hmj : ((m : Int) != 12 * (j : Int)) = false := by simp; omega
  have hj2 : (j : Int) ≤ 8 := by omega
  by_cases hm0 : m = 0
  · have hme : ((m : Int) == 0) = true := by simp; omega
    obtain ⟨pb, cb, rfl, _⟩ := gotB_rd HGB.out
    clear hm hm0 HGB HR3 HG3 HRD
    go_wp2_with (go_at_call 9; refine (awake_any _ (HW.out.up HB3.out (Nat.le_refl _))).mono ?_; rintro e w4 ⟨rfl, hb4⟩; have HB4 := Lib.hid (HB3.out.trans (hb4.mono hs3)); clear hb4)
    go_ret
    exact ⟨rfl, HB4.out⟩
  · have hme : ((m : Int) == 0) = false := by simp; omega
    have hm1 : (m : Int) ≤ 96 := by omega
    have hm2 : 0 < (m : Int) := by omega
    obtain ⟨gb, cb, rfl, hgb2, hby, hcb, hfz⟩ := gotB_by HGB.out (by omega)
    obtain ⟨gl, cl, el, hgl, hrs, hcl, _⟩ := gotR_rs HG3.out (by omega)
    simp only [Value.slice.injEq] at el
    obtain ⟨rfl, _, rfl⟩ := el
    have x0 := md_lo x (m : Int) hm2
    have x1 := md_hi x (m : Int) hm2
    have HMI := Lib.hid (fun W => HMN.out W (m : Int) (by omega) (by omega))
    generalize md x (m : Int) = xi at *
    obtain ⟨i, rfl⟩ := Int.eq_ofNat_of_zero_le x0
    have hi : i < m := by omega
    have HBY := Lib.hid hby
    have HRS := Lib.hid hrs
    have HFZ := Lib.hid (hfz i)
    have hcbi : (m : Int) ≤ (cb : Int) := by omega
    have hgbl : gb < w3.heap.size := hby.1
    have hgln : gl < w2.heap.size := by
      obtain ⟨b9, o9, e9, h9⟩ := HRD.out (by omega)
      simp only [Option.some.injEq, Addr.mk.injEq] at e9
      rw [e9.1]; exact h9.1
    have hgne : gl ≠ gb := by omega
    clear hm HGB HG3 HR3 HRD HMN x0 hby hrs hfz
    go_upto_region 8 with (go_at_call 22; refine (HMI.out _).mono ?_; rintro e w' ⟨rfl, rfl⟩)
    have HB8 : Hid (Below w.heap.size w w3.drew) := below_drewN HB3.out 1
    have HBY8 : Hid (By w3.drew gb 0 m (enL R j)) := HBY.out
    have HRS8 : Hid (Rs w3.drew gl 0 j R) := HRS.out
    have HFZ8 : Hid (w3.drew.frozen? ⟨gb, i, none⟩ = false) := HFZ.out
    have hbt := (enL_bt R j HMK.out) i (by rw [← HMJ.out]; exact hi)
    have hgb8 : w.heap.size ≤ gb := by omega
    refine wp_region_still_tail 10 (by kernel_rfl) (by kernel_rfl) ?_
    change wpStill _ _ w3.drew (fun a' => wpList _ _ _ _ a' w3.drew) _ _
    clear HB3 HW HBY HRS HFZ hs3
    generalize w3.drew = w4 at *
    have c0 : w4.cell? ⟨gb, i, none⟩ = some (.int .u8 (enL R j i)) := by have h := HBY8.out.2 i hi; rwa [Nat.zero_add] at h
    have HX := Lib.hid (fun xc (h1 : 0 ≤ xc ∧ xc ≤ 255) (h2 : xc ≠ enL R j i) => not_seen R j i xc (by omega) HMK.out (by rw [← HMJ.out]; exact hi) hbt h1 h2)
    have HY := Lib.hid (fun xc => ahead_read R j i xc (by omega) HMK.out (by rw [← HMJ.out]; exact hi))
    have HBT := Lib.hid (enL_bt R j HMK.out)
    rw [← HMJ.out] at HX HBT
    generalize hL : enL R j = L at *
    clear hL
    obtain ⟨b0, b1⟩ := hbt
    have HXB := xor_byte (L i) (1 + ym) b0 b1 (by omega) (by omega)
    have hwy : IntKind.u8.wrap (1 + ym) = 1 + ym := by rw [IntKind.wrap_u8']; omega
    generalize L i = xv at *
    have hfz8 := HFZ8.out
    simp only [List.take_succ_cons, List.take_zero, List.drop_succ_cons, List.drop_zero]
    still_step
    still_step
    still_step
    still_step
    still_step
    still_call (((HM5.out _).mono fun e w' h => ⟨h.1, h.2.symm⟩))
    repeat still_step
    refine wpStill_nil ?_
    obtain ⟨xc, hxe⟩ : ∃ xc, bits BinOp.xor IntKind.u8 xv (1 + ym) = xc := ⟨_, rfl⟩
    rw [hxe] at HXB
    have HX2 := Lib.hid (HX.out xc ⟨HXB.1, HXB.2.1⟩ HXB.2.2)
    have HY2 := Lib.hid (HY.out xc)
    have hby9 := by_set (x := xc) HBY8.out hi
    rw [Nat.zero_add] at hby9
    have HBY9 := Lib.hid hby9
    have HBT9 : Hid (Bt (fun m => if m = i then xc else L m) m) := fun k hk => by
      show 0 ≤ (if k = i then xc else L k) ∧ (if k = i then xc else L k) ≤ 255
      split
      · exact ⟨HXB.1, HXB.2.1⟩
      · exact HBT.out k hk
    have HB9 : Hid (Below w.heap.size w (w4.setCell ⟨gb, i, none⟩ (.int .u8 xc))) := HB8.out.setCell (p := ⟨gb, i, none⟩) hgb8 _
    have HRS9 : Hid (Rs (w4.setCell ⟨gb, i, none⟩ (.int .u8 xc)) gl 0 j R) := HRS8.out.grown (setG w4 ⟨gb, i, none⟩ _) (by simp; exact hgne)
    clear hby9 HX HY HBT HXB hwy HBY8 HB8 HRS8 HFZ8
    go_upto_region 9 with fail
    rw [hxe]
    clear hxe c0 hfz8 HM5 HMI
    generalize w4.setCell ⟨gb, i, none⟩ (.int .u8 xc) = w5 at *
    generalize (fun m => if m = i then xc else L m) = C at *
    have HC1 := Lib.hid (pdec_any (some ⟨gb, 0, none⟩) m cb C w5 (fun _ => ⟨gb, 0, rfl, HBY9.out⟩) HBT9.out hcb)
    rw [HX2.out] at HC1
    have hs5 := HB9.out.size
    go_upto_region 10 with (go_at_call 23; refine HC1.out.mono ?_; rintro e w6 ⟨vd, rfl, _, hb6⟩; have HBY6 := Lib.hid (HBY9.out.up hb6 (Nat.le_refl _)); have HRS6 := Lib.hid (HRS9.out.up hb6 (Nat.le_refl _)); have HB6 := Lib.hid (HB9.out.trans (hb6.mono hs5)); clear hb6 HBY9 HRS9 HB9)
    obtain ⟨q, hq⟩ : ∃ q, q = i / 12 := ⟨_, rfl⟩
    rw [← hq] at HY2
    have hq1 : 12 * q ≤ i := by omega
    have hq2 : i < 12 * q + 12 := by omega
    have hqi : (i : Int) / 12 = (q : Int) := by omega
    have hqj : q < j := by rw [HMJ.out] at hi; omega
    have HC2 := Lib.hid (fun W h => pdec_any (some ⟨gb, 0, none⟩) (q * 12) cb C W h (fun k hk => HBT9.out k (by omega)) (by omega))
    rw [HY2.out.1, HY2.out.2.1] at HC2
    rw [hqi]
    clear hq
    have hs6 := HB6.out.size
    have HSM : Hid (smB (deR C) R q q = true) := by
      show smB (deR C) R q q = true
      unfold smB
      rw [decide_eq_true_eq]
      exact ⟨rfl, HY2.out.2.2⟩
    have hqj2 : (q : Int) ≤ (j : Int) := by omega
    have hqc : (q : Int) ≤ (cap1 : Int) := by omega
    go_wp2_with (first
      | (go_at_call 23; refine (HC2.out _ (fun _ => ⟨gb, 0, rfl, ⟨HBY6.out.1, fun k hk => HBY6.out.2 k (by omega)⟩⟩)).mono ?_; rintro e w7 ⟨vp, rfl, hgp, hb7⟩; obtain ⟨pp, cp, rfl, hrp⟩ := gotR_rd hgp; have HP7 := Lib.hid hrp; have HRS7 := Lib.hid (HRS6.out.up hb7 (Nat.le_refl _)); have HB7 := Lib.hid (HB6.out.trans (hb7.mono hs6)); have hs7 := HB7.out.size; clear hgp hrp hb7 HBY6 HRS6 HB6 HC2)
      | (go_at_call 25; refine (same_any pp (some ⟨gl, 0, none⟩) q q cp cap1 (deR C) R _ HP7.out (fun _ => ⟨gl, 0, rfl, ⟨HRS7.out.1, fun i hi => HRS7.out.2 i (by omega)⟩⟩) (by omega)).mono ?_; rintro e w8 ⟨rfl, hb8⟩; rw [HSM.out]; have HB8 := Lib.hid (HB7.out.trans (hb8.mono hs7)); have hs8 := HB8.out.size; clear hb8 HP7 HRS7 HB7)
      | (go_at_call 9; refine (awake_any _ (HW0.out.up HB8.out (Nat.le_refl _))).mono ?_; rintro e w9 ⟨rfl, hb9⟩; have HB9 := Lib.hid (HB8.out.trans (hb9.mono hs8)); clear hb9))
    go_ret
    exact ⟨rfl, HB9.out⟩
end Go.Proofs.YtlelcooomfcbaaaDoor.Gg

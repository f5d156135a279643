/-
  The law GaugeBack.
-/
import Derived.Test.YtlelcooomfcbaaaDoorGpCat
import Derived.Test.YtlelcooomfcbaaaDoorGpBck
import Derived.Test.YtlelcooomfcbaaaDoorGpDed
import Derived.Test.YtlelcooomfcbaaaDoorGpLga
namespace Go.Proofs.YtlelcooomfcbaaaDoor.Gg
open Go.ChangeShapes Go.WideShapes Go.ChangeAt Go.RowKit
open Go.Proofs.YtlelcooomfcbaaaDoor.Cu (Dk)
set_option linter.unusedVariables false

theorem stL_len (B : Nat → Int) : ∀ n, (stL B n).length = n
  | 0 => rfl
  | n + 1 => by
    show (stL B n ++ [_]).length = _
    rw [List.length_append, stL_len B n]; rfl
theorem stB_size (B : Nat → Int) (n : Nat) : (stB B n).size = n := by
  show (stL B n).toArray.size = n
  rw [List.size_toArray, stL_len]
theorem ppri_ok (p : Option Addr) (n c : Nat) (R : Nat → Nat → Int) (w : World) (hp : RdR w p n R) (hn : n ≤ 4096) (hx : alG R n = 0) (hw : FlW w) (ht : TbW w) : Calls Tryd.prog 16 #[.slice p n c] w fun e w' => e = .returned (.tuple #[.string (bT (prL R n)), .int .i64 0]) ∧ Below w.heap.size w w' := ppri_good p n c R w hp hn hx hw ht
theorem pdec_back (p : Option Addr) (n c : Nat) (R : Nat → Nat → Int) (w : World) (hp : RdB w p (n * 12) (enL R n)) (hc : n * 12 ≤ c) (hn : n ≤ 4096) (hok : alG R n = 0) : Calls Tryd.prog 23 #[.slice p (n * 12) c] w (DeP w (0, 0) n R) := by
  have h := pdec_any p (n * 12) c (enL R n) w hp (enL_bt R n hok) hc
  obtain ⟨h1, h2, h3⟩ := dec_enc R n hn hok
  rw [h1, h2] at h
  refine h.mono ?_
  rintro e w' ⟨v, rfl, hg, hb⟩
  exact ⟨v, rfl, gotR_congr hg h3, hb⟩
theorem ppar_back (n : Nat) (R : Nat → Nat → Int) (w : World) (hw : FlW w) (hn : n ≤ 900) (hok : alG R n = 0) : Calls Tryd.prog 26 #[.string (bT (prL R n))] w (DeP w (0, 0) n R) := by
  have hv := (alG_zero R n).1 hok
  have h := pparse_any (bT (prL R n)) w hw (by rw [bT_size]; have := pr_le R n hv; omega)
  obtain ⟨h1, h2, h3⟩ := pr_back R n hn hok
  rw [h1, h2] at h
  refine h.mono ?_
  rintro e w' ⟨v, rfl, hg, hb⟩
  exact ⟨v, rfl, gotR_congr hg h3, hb⟩
theorem RdI.up {w w' : World} {B : Nat} {p : Option Addr} {n : Nat} {z : Nat → Int} (h : RdI w p n z) (hb : Below B w w') (hB : w.heap.size ≤ B) : RdI w' p n z := fun hn => by
  obtain ⟨b, off, e, h1, h2⟩ := h hn
  exact ⟨b, off, e, Nat.lt_of_lt_of_le h1 hb.size, fun i hi => (hb.cell (p := ⟨b, off + i, none⟩) (Nat.lt_of_lt_of_le h1 hB)).trans (h2 i hi)⟩
/-- Readings of a test: a list of the call's own, all valid. -/
theorem made_ok (g : Nat) (p : Option Addr) (n c : Nat) (z : Nat → Int) (most : Nat) (w0 w : World) (hd : Dk w g p n c z) (hm : most ≤ 100) (hg : w0.heap.size ≤ g) (hb : Below w0.heap.size w0 w) :
    Calls Tryd.prog 11 #[.pointer (some ⟨g, 0, none⟩), .int .i64 most] w fun e w' => ∃ p1 j c1 R, e = .returned (.slice p1 j c1) ∧ j ≤ most ∧ alG R j = 0 ∧ GotR w' w.heap.size (.slice p1 j c1) j R ∧ Below w0.heap.size w0 w' := by
  refine (readings_any g p n c z most w hd hm).mono ?_
  rintro e w2 ⟨v, j, R, rfl, hj, hmk, hgi⟩
  obtain ⟨p1, cap1, rfl, hrd⟩ := gotR_rd hgi.got
  exact ⟨p1, j, cap1, R, rfl, hj, vr_mk hmk (by omega), hgi.got, hb.grown hgi.gr hb.size (fun k hk => by cases hk; exact hg)⟩
theorem gotR_rdr {w : World} {base : Nat} {p : Option Addr} {n c : Nat} {R : Nat → Nat → Int} (h : GotR w base (.slice p n c) n R) : RdR w p n R := by
  obtain ⟨p', c', e, hr⟩ := gotR_rd h
  simp only [Value.slice.injEq] at e
  rw [e.1]; exact hr
theorem gotB_rdb {w : World} {base : Nat} {p : Option Addr} {n c : Nat} {B : Nat → Int} (h : GotB w base (.slice p n c) n B) : RdB w p n B := by
  obtain ⟨p', c', e, hr⟩ := gotB_rd h
  simp only [Value.slice.injEq] at e
  rw [e.1]; exact hr
set_option maxRecDepth 100000 in
set_option maxHeartbeats 4000000 in
theorem gba_walk (p : Option Addr) (n c : Nat) (z : Nat → Int) (q : Option Addr) (m d : Nat) (y : Nat → Int) (w : World) (hr : RdI w p n z) (hn : n ≤ 9223372036854775807) (hz : ∀ i, -9223372036854775808 ≤ z i ∧ z i ≤ 9223372036854775807)
    (hr2 : RdI w q m y) (hm : m ≤ 9223372036854775807) (hy : ∀ i, -9223372036854775808 ≤ y i ∧ y i ≤ 9223372036854775807) (hw : FlW w) (ht : TbW w) :
    Calls Tryd.prog 6 #[.slice p n c, .slice q m d] w fun e w' => e = .returned (.bool true) ∧ Below w.heap.size w w' := by
  have HN := Lib.hid (Cu.new_any p n c z w hn hz hr)
  have HN2 := Lib.hid (fun W (h : RdI W q m y) => Cu.new_any q m d y W hm hy h)
  have HR2 := Lib.hid hr2
  have HW := Lib.hid hw
  have HT := Lib.hid ht
  clear hr hn hz hr2 hm hy hw ht
  go_enter Tryd.func6, Tryd.ntmps6
  go_upto_region 2 with (first
    | (go_at_call 10; first
      | (refine HN.out.mono ?_; rintro e w1 ⟨rfl, hd1, hb1⟩; have HD1 := Lib.hid hd1; have HB1 := Lib.hid hb1; clear hd1 hb1 HN)
      | (refine (HN2.out _ (HR2.out.up HB2.out (Nat.le_refl _))).mono ?_; rintro e w3 ⟨rfl, hd3, hb3⟩; have HD3 := Lib.hid hd3; have HB3 := Lib.hid hb3; clear hd3 hb3 HN2 HR2))
    | (go_at_call 11; first
      | (refine (made_ok _ p n c z 9 w _ HD1.out (by omega) (Nat.le_refl _) HB1.out).mono ?_; rintro e w2 ⟨p1, j1, c1, R1, rfl, hj1, hok1, hg2, hb2⟩; have HO1 := Lib.hid hok1; have HG2 := Lib.hid hg2; have HB2 := Lib.hid hb2; clear hok1 hg2 hb2 HD1 HB1)
      | (refine (made_ok _ q m d y 9 w2 _ HD3.out (by omega) (Nat.le_refl _) HB3.out).mono ?_; rintro e w4 ⟨p2, j2, c2, R2, rfl, hj2, hok2, hg4, hb4⟩; have HO2 := Lib.hid hok2; have HG4 := Lib.hid hg4; have HA4 := Lib.hid (gotR_kept HG2.out hb4); have HB4 := Lib.hid (HB2.out.trans (hb4.mono HB2.out.size)); have hs4 := HB4.out.size; clear hok2 hg4 hb4 HD3 HB3 HG2 HB2)))
  go_upto_region 3 with (at_builtin; first
    | (refine wp_app_nil rfl _ _ rfl rfl (.slice p1 j1 c1) rfl _ j1 R1 HA4.out w4.heap.size (Nat.le_refl _) (by omega) ?_; intro v5 w5 hg5 hgr; have HB5 : Hid (Below w4.heap.size w4 w5) := (Below.refl _ _).grown hgr (Nat.le_refl _) (fun _ h => by cases h); have HG5 := Lib.hid hg5; have HBB5 := Lib.hid (gotR_kept HG4.out HB5.out); have hs5 := HB5.out.size; clear hg5 hgr)
    | (refine wp_app_own rfl _ _ rfl v5 rfl j1 R1 w4.heap.size HG5.out (.slice p2 j2 c2) rfl _ j2 R2 HBB5.out hs5 (by omega) ?_; intro v6 w6 hg6 hgr; have HB6 : Hid (Below w4.heap.size w4 w6) := below_own HB5.out (Nat.le_refl _) hgr (fun k hk => gotR_block HG5.out k hk); have HG6 := Lib.hid hg6; clear hg6 hgr HG5 HBB5 HB5))
  have HA6 := Lib.hid (gotR_kept HA4.out HB6.out)
  have HC6 := Lib.hid (gotR_kept HG4.out HB6.out)
  have HBW6 := Lib.hid (HB4.out.trans (HB6.out.mono hs4))
  have HOC := Lib.hid (cat_ok R1 R2 j1 j2 HO1.out HO2.out)
  have HEC := Lib.hid (enL_cat R1 R2 j1 j2)
  obtain ⟨p3, c3, rfl, _⟩ := gotR_rd HG6.out
  clear HA4 HG4 HB6 HB4 hs4 hs5
  obtain ⟨j3, hj3⟩ : ∃ j3, j3 = j1 + j2 := ⟨_, rfl⟩
  have HJ3 := Lib.hid hj3
  have hj3b : j3 ≤ 18 := by omega
  rw [← hj3] at HG6 HOC HEC ⊢
  clear hj3
  generalize catR R1 R2 j1 = R3 at *
  have hs6 := HBW6.out.size
  go_upto_region 4 with (go_at_call 14; refine (penc_good p1 j1 c1 R1 _ (gotR_rdr HA6.out) (by omega) HO1.out).mono ?_; rintro e w7 ⟨x, rfl, hx, hb7⟩; have HX7 := Lib.hid hx; have HC7 := Lib.hid (gotR_kept HC6.out hb7); have HG7 := Lib.hid (gotR_kept HG6.out hb7); have HB7 := Lib.hid (HBW6.out.trans (hb7.mono hs6)); have hs7 := HB7.out.size; clear hx hb7 HA6 HC6 HG6 HBW6)
  go_upto_region 5 with (go_at_call 14; refine (penc_good p2 j2 c2 R2 _ (gotR_rdr HC7.out) (by omega) HO2.out).mono ?_; rintro e w8 ⟨y, rfl, hy, hb8⟩; have HY8 := Lib.hid hy; have HX8 := Lib.hid (gotB_kept HX7.out hb8); have HG8 := Lib.hid (gotR_kept HG7.out hb8); have HB8 := Lib.hid (HB7.out.trans (hb8.mono hs7)); have hs8 := HB8.out.size; clear hy hb8 HX7 HC7 HG7 HB7)
  go_upto_region 6 with (go_at_call 14; refine (penc_good p3 j3 c3 R3 _ (gotR_rdr HG8.out) (by omega) HOC.out).mono ?_; rintro e w9 ⟨z', rfl, hz', hb9⟩; obtain ⟨pz, cz, rfl, hrz, hcz⟩ := gotB_rdc hz'; have HZ9 := Lib.hid hz'; have HRZ := Lib.hid hrz; have HY9 := Lib.hid (gotB_kept HY8.out hb9); have HX9 := Lib.hid (gotB_kept HX8.out hb9); have HG9 := Lib.hid (gotR_kept HG8.out hb9); have HB9 := Lib.hid (HB8.out.trans (hb9.mono hs8)); have hs9 := HB9.out.size; clear hz' hrz hb9 HX8 HY8 HG8 HB8)
  go_upto_region 7 with (go_at_call 23; refine (pdec_back pz j3 cz R3 _ HRZ.out hcz (by omega) HOC.out).mono ?_; rintro e wa ⟨vd, rfl, hd, hba⟩; obtain ⟨pd, cd, rfl, _⟩ := gotR_rd hd; have HDa := Lib.hid hd; have HZa := Lib.hid (gotB_kept HZ9.out hba); have HYa := Lib.hid (gotB_kept HY9.out hba); have HXa := Lib.hid (gotB_kept HX9.out hba); have HGa := Lib.hid (gotR_kept HG9.out hba); have HBa := Lib.hid (HB9.out.trans (hba.mono hs9)); have hsa := HBa.out.size; clear hd hba HX9 HY9 HZ9 HRZ HG9 HB9)
  go_upto_region 8 with (go_at_call 16; refine (ppri_ok p3 j3 c3 R3 _ (gotR_rdr HGa.out) (by omega) HOC.out (HW.out.up HBa.out (Nat.le_refl _)) (tb_up HT.out HBa.out)).mono ?_; rintro e wb ⟨rfl, hbb⟩; have HDb := Lib.hid (gotR_kept HDa.out hbb); have HZb := Lib.hid (gotB_kept HZa.out hbb); have HYb := Lib.hid (gotB_kept HYa.out hbb); have HXb := Lib.hid (gotB_kept HXa.out hbb); have HGb := Lib.hid (gotR_kept HGa.out hbb); have HBb := Lib.hid (HBa.out.trans (hbb.mono hsa)); have hsb := HBb.out.size; clear hbb HXa HYa HZa HGa HDa HBa)
  go_upto_region 9 with (go_at_call 26; refine (ppar_back j3 R3 _ (HW.out.up HBb.out (Nat.le_refl _)) (by omega) HOC.out).mono ?_; rintro e wc ⟨vq, rfl, hq, hbc⟩; obtain ⟨pq, cq, rfl, _⟩ := gotR_rd hq; have HQc := Lib.hid hq; have HDc := Lib.hid (gotR_kept HDb.out hbc); have HZc := Lib.hid (gotB_kept HZb.out hbc); have HYc := Lib.hid (gotB_kept HYb.out hbc); have HXc := Lib.hid (gotB_kept HXb.out hbc); have HGc := Lib.hid (gotR_kept HGb.out hbc); have HBc := Lib.hid (HBb.out.trans (hbc.mono hsb)); have hsc := HBc.out.size; clear hq hbc HXb HYb HZb HGb HDb HBb)
  have hcx := gotB_str HXc.out
  have hcy := gotB_str HYc.out
  have hcz := gotB_str HZc.out
  have hst : stB (enL R1 j1) (j1 * 12) ++ stB (enL R2 j2) (j2 * 12) = stB (enL R3 j3) (j3 * 12) := by
    rw [stB_cat, show j3 * 12 = j1 * 12 + j2 * 12 by rw [HJ3.out]; omega]
    exact stB_congr _ _ _ (fun i hi => (HEC.out i (by rw [HJ3.out]; omega)).symm)
  have HSM : Hid (smB R3 R3 j3 j3 = true) := by
    show smB R3 R3 j3 j3 = true
    unfold smB
    rw [decide_eq_true_eq]
    exact ⟨rfl, fun i _ j _ => rfl⟩
  have hs12 : ¬ 9223372036854775807 < (stB (enL R1 j1) (j1 * 12)).size + (stB (enL R2 j2) (j2 * 12)).size := by rw [stB_size, stB_size]; omega
  generalize stB (enL R1 j1) (j1 * 12) = S1 at *
  generalize stB (enL R2 j2) (j2 * 12) = S2 at *
  generalize stB (enL R3 j3) (j3 * 12) = S3 at *
  have e2 := bq_yes hst
  clear hst HXc HYc HZc
  go_wp2_with (first
    | (go_at_call 25; first
      | (refine (same_any pd p3 j3 j3 cd c3 R3 R3 _ (gotR_rdr HDc.out) (gotR_rdr HGc.out) (by omega)).mono ?_; rintro e wd ⟨rfl, hbd⟩; rw [HSM.out]; have HQd := Lib.hid (gotR_kept HQc.out hbd); have HGd := Lib.hid (gotR_kept HGc.out hbd); have HBd := Lib.hid (HBc.out.trans (hbd.mono hsc)); have hsd := HBd.out.size; clear hbd HDc HQc HGc HBc)
      | (refine (same_any pq p3 j3 j3 cq c3 R3 R3 _ (gotR_rdr HQd.out) (gotR_rdr HGd.out) (by omega)).mono ?_; rintro e we ⟨rfl, hbe⟩; rw [HSM.out]; have HBe := Lib.hid (HBd.out.trans (hbe.mono hsd)); have hse := HBe.out.size; clear hbe HQd HGd HBd))
    | (go_at_call 9; refine (awake_any _ (HW.out.up HBe.out (Nat.le_refl _))).mono ?_; rintro e wf ⟨rfl, hbf⟩; have HBf := Lib.hid (HBe.out.trans (hbf.mono hse)); clear hbf))
  go_ret
  exact ⟨rfl, HBf.out⟩
end Go.Proofs.YtlelcooomfcbaaaDoor.Gg

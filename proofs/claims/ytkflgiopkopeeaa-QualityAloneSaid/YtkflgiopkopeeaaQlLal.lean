/-
  QualityAlone: the walk.
-/
import Derived.Test.YtkflgiopkopeeaaQlAlo
import Derived.Test.YtkflgiopkopeeaaQlLw
import Derived.Test.YtkflgiopkopeeaaQlAwk
import Derived.Deep.QuietTactic
import Derived.BigQuiet
import Derived.Sort.AtCall
namespace Go.Proofs.Ytkflgiopkopeeaa.Ql
open Go.ChangeShapes Go.WideShapes Go.ChangeAt Go.RowKit
open Go.Proofs.Ytkflgiopkopeeaa.Ca (inB inB_yes inB_no Rd)
open Go.Proofs.Ytkflgiopkopeeaa.Cu (grown_below grown_own grown_trans grown_refl updF updF_same updF_other Dk next_any new_any md md_lo md_hi mod_any)
open Go.Proofs.Ytkflgiopkopeeaa.Gg (GotR gotR_nil gotR_rs gotR_rd gotR_next gotR_block rsL rsL_len rsL_one RdR Rs updR updR_same updR_other mkR cell_four)
set_option linter.unusedVariables false

theorem al_verd {l m j s : Int} {R : Nat → Nat → Int} {n cp : Nat} {p : Option Addr} {w : World} (he : vdE l m j s R n = 0) (hr : RdR w p n R) (hn : n ≤ 17592186044416) : Calls Try.prog 15 #[.agg #[.int .i64 l, .int .i64 m, .int .i64 j, .int .i64 s], .slice p n cp] w (VdP 0 n (vrI l m j s R) w) := by
  have h := pvd_any l m j s p n cp R w hr hn
  have hN : vdN l m j s R n = n := if_pos he
  rw [hN, he] at h
  exact h
set_option maxRecDepth 100000 in
set_option maxHeartbeats 4000000 in
theorem al_walk (a0 : Option Addr) (len0 cap0 : Nat) (z : Nat → Int) (by0 : Int) (w : World) (hn : len0 ≤ 9223372036854775807) (hz : ∀ i, -9223372036854775808 ≤ z i ∧ z i ≤ 9223372036854775807) (hr : Rd w a0 len0 z) (hby : -9223372036854775808 ≤ by0 ∧ by0 ≤ 9223372036854775807) :
    Calls Try.prog 10 #[.slice a0 len0 cap0, .int .i64 by0] w fun e w' => e = .returned (.bool true) ∧ Below w.heap.size w w' := by
  obtain ⟨i0, hi, hz0, hz1, hz2⟩ := info_parts Try.infoC
  obtain ⟨i1, hj, hw0, hw1, hw2⟩ := info_parts Try.infoQ
  have HR := Lib.hid hr
  have HZ := Lib.hid hz
  have hm0 := md_lo by0 4 (by omega)
  have hm1 := md_hi by0 4 (by omega)
  have HMD := Lib.hid (fun W => mod_any by0 4 W hby (by omega) (by omega))
  generalize md by0 4 = mm at *
  clear hr hz hby
  go_enter Try.func10, Try.ntmps10
  go_wp2_with (first
    | (go_at_call 11; refine (new_any a0 len0 cap0 z w hn HZ.out HR.out).mono ?_; rintro e w1 ⟨rfl, hd1, hb1⟩; have HD1 := Lib.hid hd1; have HB1 := Lib.hid hb1; clear hd1 hb1)
    | (go_at_call 12; refine (checks_any w.heap.size a0 len0 cap0 z w1 HD1.out).mono ?_; rintro e w2 ⟨l, m, j, s, rfl, hl, hm, hj', hs, hd2, hg2⟩; have HD2 := Lib.hid (hd2.alloc (.cells #[.int .i64 l, .int .i64 m, .int .i64 j, .int .i64 s] 23)); have HB2 : Hid (Below w.heap.size w (w2.alloc (.cells #[.int .i64 l, .int .i64 m, .int .i64 j, .int .i64 s] 23))) := (below_grown HB1.out (Nat.le_refl _) hg2 (Nat.le_refl _)).alloc (Nat.le_trans HB1.out.size hg2.size) _; have HC2 : Hid (C4 (w2.alloc (.cells #[.int .i64 l, .int .i64 m, .int .i64 j, .int .i64 s] 23)) w2.heap.size l m j s ∧ w.heap.size < w2.heap.size ∧ w2.heap.size < (w2.alloc (.cells #[.int .i64 l, .int .i64 m, .int .i64 j, .int .i64 s] 23)).heap.size) := ⟨⟨by simp, by simp, by simp, by simp⟩, hd2.lt, by simp⟩; have HCK : Hid (chC l m j s = 0) := ck_valid hl hm hj' hs; clear hd2 hg2 hl hm hj' hs)
    | (go_at_call 14; refine (next_any w.heap.size a0 len0 cap0 z _ _ HD2.out (by omega)).mono ?_; rintro e w3 ⟨r, rfl, hr0, hr1, hd3, hg3⟩; have HD3 := Lib.hid hd3; have HG3 := Lib.hid hg3; clear hd3 hg3)
    | (go_at_call 13; obtain ⟨n, rfl⟩ : ∃ n : Nat, r = (n : Int) := ⟨r.toNat, by omega⟩; have hn13 : n ≤ 13 := (by omega); refine (series_any w.heap.size a0 len0 cap0 z n w3 HD3.out (by omega)).mono ?_; rintro e w4 ⟨v4, R, rfl, hsr, hsw⟩; have hg4 := hsw.gr; have HB4 : Hid (Below w.heap.size w w4) := below_grown (below_grown HB2.out (Nat.le_refl _) HG3.out (Nat.le_refl _)) (Nat.le_refl _) hg4 (Nat.le_refl _); have HK4 : Hid (C4 w4 w2.heap.size l m j s) := (HC2.out.1.grown HG3.out (by intro e; have e2 := Option.some.inj e; have := HC2.out.2.1; omega)).grown hg4 (by intro e; have e2 := Option.some.inj e; have := HC2.out.2.1; omega); have hk24 : w2.heap.size < w4.heap.size := Nat.lt_of_lt_of_le HC2.out.2.2 (Nat.le_trans HG3.out.size hg4.size); obtain ⟨p, cp, rfl, hpn, hkd⟩ := kdr_of hsw.o hsw.gl; have HKD := Lib.hid hkd; have HE : Hid (vdE l m j s R n = 0) := (if_pos HCK.out).trans (hsr.al (by omega)); have HPV : Hid (Calls Try.prog 15 #[.agg #[.int .i64 l, .int .i64 m, .int .i64 j, .int .i64 s], .slice p n cp] w4 (VdP 0 n (vrI l m j s R) w4)) := al_verd HE.out (HKD.out.rd) (by omega); clear hsw hg4 hsr hkd; obtain ⟨k0, k1, k2, k3⟩ := HK4.out)
    | (go_at_call 15; refine HPV.out.mono ?_; rintro e w5 ⟨p8, d8, rfl, hr8, _, hb8⟩; have HB5 : Hid (Below w.heap.size w w5) := HB4.out.trans (hb8.mono HB4.out.size); have HK5 : Hid (C4 w5 w2.heap.size l m j s) := HK4.out.below hb8 hk24; have hk25 : w2.heap.size < w5.heap.size := Nat.lt_of_lt_of_le hk24 hb8.size; have HKD5 := Lib.hid (HKD.out.below hb8); have HV5 := Lib.hid hr8; clear k0 k1 k2 k3 hr8 hb8 HPV HKD HK4; obtain ⟨k0, k1, k2, k3⟩ := HK5.out)
    | (go_at_call 29; refine (com_same _ _ n 1 1 1 _ _ _ (fun _ => R) (fun _ => mkR l m j s) l m j s R _ (one_ll w5 HKD5.out.rd _ _) (one_ck w5 l m j s _ _ _) (by omega) (by omega) (by omega) HE.out (fun i hi => ⟨rfl, rfl, rfl, rfl, rfl, rfl⟩)).mono ?_; rintro e w6 ⟨q1, c1, q2, c2, q3, c3, rfl, ha, hb, ho, hbl⟩; have hb6 : Below w5.heap.size w5 w6 := (((Below.refl w5.heap.size w5).alloc (Nat.le_refl _) _).alloc (by simp) _).trans (hbl.mono (by simp; omega)); have HB6 : Hid (Below w.heap.size w w6) := HB5.out.trans (hb6.mono HB5.out.size); have HK6 : Hid (C4 w6 w2.heap.size l m j s) := HK5.out.below hb6 hk25; have HKD6 := Lib.hid (HKD5.out.below hb6); have HV6 : Hid (RdV w6 p8 n (iC (vrI l m j s R))) := HV5.out.below hb6 (Nat.le_refl _); have HRA := Lib.hid ha; have HRB := Lib.hid hb; have HRO := Lib.hid ho; have hgl : w.heap.size < w6.heap.size := (by have := hb6.size; have := HC2.out.2.1; omega); clear k0 k1 k2 k3 ha hb ho hbl hb6 HK5 HKD5 HV5)
    | (go_at_call 26; refine (HMD.out _).mono ?_; rintro e w' ⟨rfl, rfl⟩))
  clear HR HZ HD1 HB1 HD2 HB2 HD3 HG3 HB4 HB5 HMD
  have hk2g : w2.heap.size ≠ w.heap.size := by have := HC2.out.2.1; omega
  clear HC2
  have HL0 := Lib.hid (lw_nil (n := n) hgl)
  have HQ0 : Hid (∀ i, i < 0 → (fun _ _ => (0 : Int)) i = mkR l m j s ∧ (fun _ _ _ => (0 : Int)) i = R) := fun i hi => absurd hi (Nat.not_lt_zero _)
  go_loopw [15, 16, 51] (fun s15 s16 s51 wr => ∃ (k : Nat) (v1 v2 : Value) (K : Nat → Nat → Int) (P : Nat → Option Addr) (Cp : Nat → Nat) (RR : Nat → Nat → Nat → Int), v1 = s15 ∧ v2 = s16 ∧ s51 = .int .i64 k ∧ (k : Int) ≤ 1 + mm ∧ Hid (Lw w6 w.heap.size v1 v2 k k n K P Cp RR wr) ∧ Hid (∀ i, i < k → K i = mkR l m j s ∧ RR i = R) ∧ Hid (Below w6.heap.size w6 wr)) (fun _ _ s51 _ => 5 - (intOf s51).toNat)
  case atStart => exact ⟨0, _, _, _, _, _, _, rfl, rfl, rfl, by omega, HL0, HQ0, Below.refl _ _⟩
  case round =>
    clear HL0 HQ0
    obtain ⟨k, v1, v2, K, P, Cp, RR, rfl, rfl, rfl, hk, hl, hq, hb⟩ := hrel
    by_cases hlt : (k : Int) < 1 + mm
    · have hk2l : w2.heap.size < w6.heap.size := World.block_lt_of_cell? _ _ HK6.out.c0
      obtain ⟨t0, t1, t2, t3⟩ : C4 wr w2.heap.size l m j s := HK6.out.below hb.out hk2l
      have HT1 := Lib.hid (hl.out.alloc (.cells #[.int .i64 l, .int .i64 m, .int .i64 j, .int .i64 s] 23))
      have hsz := hb.out.size
      have HKDr := Lib.hid (HKD6.out.below hb.out)
      go_wp2_with (at_builtin; first
        | (refine wpList_append_own _ rfl _ _ 33 rfl w6.heap.size 23 i0 (.agg #[.int .i64 0, .int .i64 0, .int .i64 0, .int .i64 0]) 4 32 Try.underlying33 hi hz0 hz1 hz2 rfl (by decide) v1 k _ rfl HT1.out.o1 ⟨wr.heap.size, 0, none⟩ 1 1 [.int .i64 l, .int .i64 m, .int .i64 j, .int .i64 s] rfl rfl (cell_four _ _ _ _ _ _) (by intro u hu; simp at hu; rcases hu with rfl | rfl | rfl | rfl <;> rfl) (by unfold maxLen; omega) (by omega) (by simp; omega) ?_; intro v' w7 hown' hgrow hnil; have H7 := Lib.hid ((HT1.out.one hown' hgrow).alloc (.cells #[.slice p n cp] 30)); have hb7 : Below w6.heap.size w6 w7 := Gg.below_own (hb.out.alloc hsz _) (Nat.le_refl _) hgrow (fun b hb => (HT1.out.o1.lt b hb).1); have HB7 := Lib.hid (hb7.alloc hb7.size (.cells #[.slice p n cp] 30)); have hs7 := hb7.size; clear hown' hgrow hnil hb7)
        | (refine wpList_append_own _ rfl _ _ 34 rfl w6.heap.size 30 i1 (.slice none 0 0) 1 24 Try.underlying34 hj hw0 hw1 hw2 rfl (by decide) v2 k _ rfl H7.out.o2 ⟨w7.heap.size, 0, none⟩ 1 1 [.slice p n cp] rfl rfl (cell_one _ _ _) (by intro u hu; simp at hu; subst hu; rfl) (by unfold maxLen; omega) (by omega) (by simp; omega) ?_; intro v'' w8 hown' hgrow hnil; have H8 := Lib.hid (H7.out.two hown' hgrow (HKD6.out.below HB7.out)); have HB8 : Hid (Below w6.heap.size w6 w8) := Gg.below_own HB7.out (Nat.le_refl _) hgrow (own_block H7.out.o2); clear hown' hgrow hnil))
      have HQ8 : Hid (∀ i, i < k + 1 → updR K k (mkR l m j s) i = mkR l m j s ∧ upV RR k R i = R) := fun i hi => by
        by_cases e : i = k
        · subst e; exact ⟨updR_same _ _ _, if_pos rfl⟩
        · have h := hq.out i (by omega); exact ⟨(updR_other _ _ e).trans h.1, (if_neg e).trans h.2⟩
      refine ⟨⟨k + 1, _, _, _, _, _, _, rfl, rfl, by go_num, by omega, H8, HQ8, HB8⟩, ?_⟩
      simp [intOf]
      omega
    · have hk1 : 0 < k := by omega
      have hk4 : k ≤ 4 := by omega
      obtain ⟨qz, dz, pz, cz, rfl, rfl, hrk, hll⟩ := hl.out.both
      have HRK := Lib.hid hrk
      have HLL := Lib.hid hll
      have hnn : ((n : Int) != (n : Int)) = false := by simp
      clear hrk hll hl
      go_wp2_with (go_at_call 29; refine (com_same qz pz n k dz cz P (fun _ => n) Cp RR K l m j s R wr HLL.out HRK.out hk1 (by omega) (by omega) HE.out (fun i hi => by obtain ⟨h1, h2⟩ := hq.out i hi; rw [h1, h2]; exact ⟨rfl, rfl, rfl, rfl, rfl, rfl⟩)).mono ?_; rintro e w10 ⟨y1, b1, y2, b2, y3, b3, rfl, ha, hb', ho, hbl⟩; have HB10 : Hid (Below w6.heap.size w6 w10) := hb.out.trans (hbl.mono hb.out.size); have HYA := Lib.hid ha; have HYB := Lib.hid hb'; have HYO := Lib.hid ho; clear ha hb' ho hbl)
      have HA := Lib.hid (RdV.below (C := iC _) HRA.out HB10.out (Nat.le_refl _))
      have HBB := Lib.hid (RdV.below (C := bC _) HRB.out HB10.out (Nat.le_refl _))
      have HO := Lib.hid (RdV.below (C := iC _) HRO.out HB10.out (Nat.le_refl _))
      have HV := Lib.hid (HV6.out.below HB10.out (Nat.le_refl _))
      have HKL := Lib.hid (HKD6.out.below HB10.out)
      have HBW : Hid (Below w.heap.size w w10) := HB6.out.trans (HB10.out.mono HB6.out.size)
      have hbs := HBW.out.size
      clear HRA HRB HRO HV6 HKD6 HRK HLL hq hb HB10 HK6 HB6
      go_loopw [106] (fun y wr => ∃ t : Nat, t ≤ n ∧ y = .int .i64 t ∧ Hid (Below w10.heap.size w10 wr)) (fun y _ => n - (intOf y).toNat)
      case atStart => exact ⟨0, Nat.zero_le _, rfl, Below.refl _ _⟩
      case round =>
        obtain ⟨t, ht, rfl, hb⟩ := hrel
        by_cases htn : t < n
        · obtain ⟨x1, o1, rfl, l1, d1⟩ := (HA.out.below hb.out (Nat.le_refl _)) (by omega)
          obtain ⟨x2, o2, rfl, l2, d2⟩ := (HBB.out.below hb.out (Nat.le_refl _)) (by omega)
          obtain ⟨x3, o3, rfl, l3, d3⟩ := (HO.out.below hb.out (Nat.le_refl _)) (by omega)
          obtain ⟨x4, o4, rfl, l4, d4⟩ := (HV.out.below hb.out (Nat.le_refl _)) (by omega)
          obtain ⟨x5, o5, rfl, d5⟩ := (HKL.out.below hb.out).rd (by omega)
          have e1 := d1 t htn
          have e2 := d2 t htn
          have e3 := d3 t htn
          have e4 := d4 t htn
          have e5 := (d5.cells t htn).2.2.1
          simp only [iC, bC] at e1 e2 e3 e4
          have hti : (t : Int) < (n : Int) := by omega
          clear d1 d2 d3 d4 d5
          by_cases hg : vrI l m j s R t = 1
          · have hge : (vrI l m j s R t == 1) = true := by rw [hg]; rfl
            rw [hge] at e1 e2
            rw [hg] at e4
            rw [if_pos rfl] at e1
            have hxx : (R t 2 != R t 2) = false := by simp
            clear hg hge
            generalize R t 2 = xv at *
            go_wp2_with fail
            go_quiet (fail)
            go_wp2_with fail
            go_roundw
            case rel => exact ⟨t + 1, by omega, by go_num, Gg.below_drewN hb.out _⟩
            case measure => simp [intOf]; omega
          · have hge : (vrI l m j s R t == 1) = false := by simp [hg]
            rw [hge] at e1 e2
            rw [if_neg (by simp)] at e1
            clear hg
            generalize vrI l m j s R t = vv at *
            go_wp2_with fail
            go_quiet (fail)
            go_wp2_with fail
            go_roundw
            case rel => exact ⟨t + 1, by omega, by go_num, Gg.below_drewN hb.out _⟩
            case measure => simp [intOf]; omega
        · obtain rfl : t = n := by omega
          have HS1 : Hid (∀ W, Below wr.heap.size wr W → Calls Try.prog 17 #[.slice q1 t c1, .slice y1 t b1] W (Et true W)) := fun W hW => same_t q1 y1 t c1 b1 _ W (by omega) (RdV.below (C := iC _) HA.out (hb.out.trans (hW.mono hb.out.size)) (Nat.le_refl _)) (RdV.below (C := iC _) HYA.out (hb.out.trans (hW.mono hb.out.size)) (Nat.le_refl _))
          have HS2 : Hid (∀ W, Below wr.heap.size wr W → Calls Try.prog 31 #[.slice q2 t c2, .slice y2 t b2] W (Et true W)) := fun W hW => sameb_t q2 y2 t c2 b2 _ W (by omega) (RdV.below (C := bC _) HBB.out (hb.out.trans (hW.mono hb.out.size)) (Nat.le_refl _)) (RdV.below (C := bC _) HYB.out (hb.out.trans (hW.mono hb.out.size)) (Nat.le_refl _))
          have HS3 : Hid (∀ W, Below wr.heap.size wr W → Calls Try.prog 17 #[.slice q3 t c3, .slice y3 t b3] W (Et true W)) := fun W hW => same_t q3 y3 t c3 b3 _ W (by omega) (RdV.below (C := iC _) HO.out (hb.out.trans (hW.mono hb.out.size)) (Nat.le_refl _)) (RdV.below (C := iC _) HYO.out (hb.out.trans (hW.mono hb.out.size)) (Nat.le_refl _))
          have HBR : Hid (Below w.heap.size w wr) := HBW.out.trans (hb.out.mono hbs)
          clear HA HBB HO HV HKL HYA HYB HYO HE
          go_wp2_with (first
            | (go_at_call 17; first
              | (refine (HS1.out _ (Below.refl _ _)).mono ?_; rintro e w11 ⟨rfl, hb11⟩; have HB11 := Lib.hid hb11; clear HS1 hb11)
              | (refine (HS3.out _ HB12.out).mono ?_; rintro e w13 ⟨rfl, hb13⟩; have HB13 : Hid (Below wr.heap.size wr w13) := HB12.out.trans (hb13.mono HB12.out.size); clear HS3 hb13))
            | (go_at_call 31; refine (HS2.out _ HB11.out).mono ?_; rintro e w12 ⟨rfl, hb12⟩; have HB12 : Hid (Below wr.heap.size wr w12) := HB11.out.trans (hb12.mono HB11.out.size); clear hb12)
            | (go_at_call 20; refine (awake_any _).mono ?_; rintro e w14 ⟨rfl, hb14⟩; have HB14 : Hid (Below wr.heap.size wr w14) := HB13.out.trans (hb14.mono HB13.out.size); clear hb14))
          go_ret
          exact ⟨rfl, HBR.out.trans (HB14.out.mono HBR.out.size)⟩
end Go.Proofs.Ytkflgiopkopeeaa.Ql

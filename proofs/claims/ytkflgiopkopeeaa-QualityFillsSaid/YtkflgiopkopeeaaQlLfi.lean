/-
  QualityFills: the walk.
-/
import Derived.Test.YtkflgiopkopeeaaQlGoo
import Derived.Test.YtkflgiopkopeeaaQlAwk
namespace Go.Proofs.Ytkflgiopkopeeaa.Ql
open Go.ChangeShapes Go.WideShapes Go.ChangeAt Go.RowKit
open Go.Proofs.Ytkflgiopkopeeaa.Ca (inB inB_yes inB_no Rd)
open Go.Proofs.Ytkflgiopkopeeaa.Cu (grown_below grown_own grown_trans grown_refl updF updF_same updF_other Dk next_any new_any md md_lo md_hi mod_any)
set_option linter.unusedVariables false

set_option maxRecDepth 100000 in
set_option maxHeartbeats 4000000 in
theorem fi_walk (a0 : Option Addr) (len0 cap0 : Nat) (z : Nat → Int) (last : Int) (w : World) (hn : len0 ≤ 9223372036854775807) (hz : ∀ i, -9223372036854775808 ≤ z i ∧ z i ≤ 9223372036854775807) (hr : Rd w a0 len0 z) (hby : -9223372036854775808 ≤ last ∧ last ≤ 9223372036854775807) :
    Calls Try.prog 7 #[.slice a0 len0 cap0, .int .i64 last] w fun e w' => e = .returned (.bool true) ∧ Below w.heap.size w w' := by
  have HR := Lib.hid hr
  have HZ := Lib.hid hz
  have HMD := Lib.hid (fun W => mod_any last 60 W hby (by omega) (by omega))
  have hm0 := md_lo last 60 (by omega)
  have hm1 := md_hi last 60 (by omega)
  generalize md last 60 = x at *
  clear hr hz hby
  go_enter Try.func7, Try.ntmps7
  go_wp2_with (first
    | (go_at_call 11; refine (new_any a0 len0 cap0 z w hn HZ.out HR.out).mono ?_; rintro e w1 ⟨rfl, hd1, hb1⟩; have HD1 := Lib.hid hd1; have HB1 := Lib.hid hb1; clear hd1 hb1)
    | (go_at_call 21; refine (goods_any w.heap.size a0 len0 cap0 z 14 w1 HD1.out (by omega)).mono ?_; rintro e w2 ⟨u1, u2, n, V, G, rfl, hn12, hgw⟩; obtain ⟨p1, c1, rfl, hr1, _⟩ := own_rd hgw.o1; obtain ⟨p2, c2, rfl, hr2, _⟩ := own_rd hgw.o2; have HB2 : Hid (Below w.heap.size w w2) := below_grown HB1.out (Nat.le_refl _) hgw.gr (Nat.le_refl _); have HR1 : Hid (Rd w2 p1 n V) := hr1; have HR2 : Hid (RdL w2 p2 n G) := hr2; have HBD := Lib.hid hgw.bd; have HFN : Hid (flE V n n x = 0 ∧ flN V n n x = n) := fl_ok (alF_of (fun i hi => by have := hgw.bd i hi; omega)) (inB_yes (by omega)); have HFM : Hid (flE (fil V G n x) n n x = 0 ∧ flN (fil V G n x) n n x = n) := fl_ok (alF_of (fun i hi => by have := fil_bd (V := V) (G := G) (n := n) (last := x) (a := 0) (b := 59) (fun i hi => hgw.bd i hi) (by omega) hi; omega)) (inB_yes (by omega)); clear hgw hr1 hr2)
    | (go_at_call 26; refine (HMD.out _).mono ?_; rintro e w' ⟨rfl, rfl⟩)
    | (go_at_call 24; first
      | (refine (pfi_any p3 p2 n n c3 c2 (fil V G n x) G x _ (by omega) (by omega) HR3.out HG3.out).mono ?_; rintro e w4 ⟨p4, c4, rfl, hr4, _, hb4⟩; rw [HFM.out.1, HFM.out.2]; rw [HFM.out.2] at hr4; have HB4 : Hid (Below w.heap.size w w4) := HB3.out.trans (hb4.mono HB3.out.size); have HR4 : Hid (Rd w4 p4 n (fil V G n x)) := RdV.congr hr4 (fun i hi => by unfold iC; rw [fil_again V G n x i hi]); have HA4 : Hid (Rd w4 p3 n (fil V G n x)) := RdV.below (C := iC (fil V G n x)) HR3.out hb4 (Nat.le_refl _); have HV4 : Hid (Rd w4 p1 n V) := RdV.below (C := iC V) HV3.out hb4 (Nat.le_refl _); have HG4 : Hid (RdL w4 p2 n G) := HG3.out.below hb4 (Nat.le_refl _); clear hr4 hb4)
      | (refine (pfi_any p1 p2 n n c1 c2 V G x _ (by omega) (by omega) HR1.out HR2.out).mono ?_; rintro e w3 ⟨p3, c3, rfl, hr3, _, hb3⟩; rw [HFN.out.1, HFN.out.2]; rw [HFN.out.2] at hr3; have HB3 : Hid (Below w.heap.size w w3) := HB2.out.trans (hb3.mono HB2.out.size); have HR3 : Hid (Rd w3 p3 n (fil V G n x)) := hr3; have HV3 : Hid (Rd w3 p1 n V) := RdV.below (C := iC V) HR1.out hb3 (Nat.le_refl _); have HG3 : Hid (RdL w3 p2 n G) := HR2.out.below hb3 (Nat.le_refl _); clear hr3 hb3))
    | (go_at_call 17; refine (same_t p3 p4 n c3 c4 (fil V G n x) _ (by omega) HA4.out HR4.out).mono ?_; rintro e w5 ⟨rfl, hb5⟩; have HB5 : Hid (Below w.heap.size w w5) := HB4.out.trans (hb5.mono HB4.out.size); have HA5 : Hid (Rd w5 p3 n (fil V G n x)) := RdV.below (C := iC (fil V G n x)) HA4.out hb5 (Nat.le_refl _); have HV5 : Hid (Rd w5 p1 n V) := RdV.below (C := iC V) HV4.out hb5 (Nat.le_refl _); have HG5 : Hid (RdL w5 p2 n G) := HG4.out.below hb5 (Nat.le_refl _); clear hb5))
  clear HD1 HB1 HB2 HB3 HB4 HR1 HR2 HR3 HR4 HV3 HV4 HG3 HG4 HA4 HFN HFM HZ HR HMD
  have hni : (n : Int) ≤ 14 := by omega
  go_loopw [13, 60] (fun s i wr => ∃ k : Nat, k ≤ n ∧ i = .int .i64 k ∧ s = .int .i64 (bfI G k) ∧ Hid (∃ q, wr = w5.drewN q)) (fun _ i _ => n - (intOf i).toNat)
  case atStart => exact ⟨0, Nat.zero_le _, rfl, rfl, 0, rfl⟩
  case round =>
    obtain ⟨k, hk, rfl, rfl, hw⟩ := hrel
    obtain ⟨qq, hq⟩ := hw.out
    have hbd := bf_bd G k
    by_cases hlt : k < n
    · obtain ⟨b1, o1, rfl, l1, d1⟩ := HV5.out (by omega)
      obtain ⟨b2, o2, rfl, l2, d2⟩ := HG5.out (by omega)
      obtain ⟨b3, o3, rfl, l3, d3⟩ := HA5.out (by omega)
      have D1 : Hid (∀ i, i < n → wr.cell? ⟨b1, o1 + i, none⟩ = some (.int .i64 (V i))) := by show ∀ i, _; rw [hq]; exact d1
      have D2 : Hid (∀ i, i < n → wr.cell? ⟨b2, o2 + i, none⟩ = some (.bool (G i))) := by show ∀ i, _; rw [hq]; exact d2
      have D3 : Hid (∀ i, i < n → wr.cell? ⟨b3, o3 + i, none⟩ = some (.int .i64 (fil V G n x i))) := by show ∀ i, _; rw [hq]; exact d3
      have HQ := Lib.hid hq
      have e1 := D1.out k hlt
      have e2 := D2.out k hlt
      have e3 := D3.out k hlt
      have hkn : (k : Int) < (n : Int) := by omega
      clear d1 d2 d3 hq hw
      cases hg : G k with
      | true =>
        rw [hg] at e2
        rw [fil_good hg] at e3
        have HN : Hid (bfI G (k + 1) = (k : Int)) := bf_yes hg
        have hv : (V k != V k) = false := by simp
        clear hg
        go_wp2
        go_quiet (fail)
        go_wp2
        go_roundw
        case rel => exact ⟨k + 1, by omega, by go_num, by rw [HN.out], qq + nq, by rw [HQ.out, World.drewN_drewN]⟩
        case measure => simp [intOf]; omega
      | false =>
        rw [hg] at e2
        have HN : Hid (bfI G (k + 1) = bfI G k) := bf_no hg
        have HG0 := Lib.hid hg
        clear hg
        go_wp2_with fail
        go_loop [15] (fun y => ∃ j : Nat, k ≤ j ∧ j ≤ n ∧ y = .int .i64 j ∧ Hid (∀ t, k ≤ t → t < j → G t = false)) (fun y => n - (intOf y).toNat)
        case atStart => exact ⟨k, Nat.le_refl _, by omega, rfl, fun t h1 h2 => by omega⟩
        case round =>
          obtain ⟨j, hkj, hjn, rfl, hgap⟩ := hrel
          by_cases hjl : j < n
          · have e4 := D2.out j hjl
            have hjni : (j : Int) < (n : Int) := by omega
            cases hgj : G j with
            | false =>
              rw [hgj] at e4
              have HGN : Hid (∀ t, k ≤ t → t < j + 1 → G t = false) := fun t h1 h2 => by
                by_cases e : t = j
                · subst e; exact hgj
                · exact hgap.out t h1 (by omega)
              clear hgj hgap
              go_wp2
              go_round
              case rel => exact ⟨j + 1, by omega, by omega, by go_num, HGN⟩
              case measure => simp [intOf]; omega
            | true =>
              rw [hgj] at e4
              have haf : afN G k (n - k) = j := af_of hkj (by omega) hgap.out (fun _ => hgj)
              clear hgj hgap
              by_cases hneg : bfI G k < 0
              · have hm : bfI G k = -1 := by omega
                rw [fil_before HG0.out hneg] at e3
                have hv : (x != x) = false := by simp
                have HN2 : Hid (bfI G (k + 1) = -1) := HN.out.trans hm
                rw [hm]
                clear hneg hm hbd haf
                go_wp2
                go_roundw
                case rel => exact ⟨k + 1, by omega, by go_num, by rw [HN2.out], qq, HQ.out⟩
                case measure => simp [intOf]; omega
              · obtain ⟨b0, hb0⟩ : ∃ b0 : Nat, bfI G k = (b0 : Int) := ⟨(bfI G k).toNat, by omega⟩
                have hkj2 : k ≠ j := fun e => by subst e; have := HG0.out; simp_all
                have c1 := D1.out b0 (by omega)
                have c2 := D1.out j hjl
                have hfm := fil_mid (V := V) (n := n) (last := x) HG0.out hneg (by omega)
                rw [haf, hb0] at hfm
                simp only [Int.toNat_natCast] at hfm
                have hlb := ln_bd (V b0) (V j) ((k : Int) - b0) ((j : Int) - b0) (by omega) (by omega) (by omega)
                rw [← hfm] at hlb
                have HN2 : Hid (bfI G (k + 1) = (b0 : Int)) := HN.out.trans hb0
                have hbk : b0 < n := by omega
                rw [hb0]
                clear hneg hb0 hbd haf hfm
                have hbi : (b0 : Int) < (n : Int) := by omega
                have hbi0 : ¬ (b0 : Int) < 0 := by omega
                have hjne : ((j : Int) == (n : Int)) = false := by simp; omega
                generalize V b0 = vb at *
                generalize V j = vj at *
                generalize fil V G n x k = fk at *
                have g1 : decide (fk < min vb vj) = false := decide_eq_false (by omega)
                have g2 : decide (max vb vj < fk) = false := decide_eq_false (by omega)
                by_cases hvv : vb ≤ vj
                · have hmn : min vb vj = vb := by omega
                  have hmx : max vb vj = vj := by omega
                  rw [hmn] at g1
                  rw [hmx] at g2
                  go_wp2_with fail
                  go_quiet (fail)
                  go_wp2
                  go_roundw
                  case rel => exact ⟨k + 1, by omega, by go_num, by rw [HN2.out], qq + nq, by rw [HQ.out, World.drewN_drewN]⟩
                  case measure => simp [intOf]; omega
                · have hmn : min vb vj = vj := by omega
                  have hmx : max vb vj = vb := by omega
                  rw [hmn] at g1
                  rw [hmx] at g2
                  go_wp2_with fail
                  go_quiet (fail)
                  go_wp2
                  go_roundw
                  case rel => exact ⟨k + 1, by omega, by go_num, by rw [HN2.out], qq + nq, by rw [HQ.out, World.drewN_drewN]⟩
                  case measure => simp [intOf]; omega
          · obtain rfl : j = n := by omega
            have haf : afN G k (j - k) = j := af_of hkj (by omega) hgap.out (fun h => by omega)
            clear hgap
            by_cases hneg : bfI G k < 0
            · have hm : bfI G k = -1 := by omega
              rw [fil_before HG0.out hneg] at e3
              have hv : (x != x) = false := by simp
              have HN2 : Hid (bfI G (k + 1) = -1) := HN.out.trans hm
              rw [hm]
              clear hneg hm hbd haf
              go_wp2
              go_roundw
              case rel => exact ⟨k + 1, by omega, by go_num, by rw [HN2.out], qq, HQ.out⟩
              case measure => simp [intOf]; omega
            · obtain ⟨b0, hb0⟩ : ∃ b0 : Nat, bfI G k = (b0 : Int) := ⟨(bfI G k).toNat, by omega⟩
              have c1 := D1.out b0 (by omega)
              have hfm := fil_behind (V := V) (last := x) HG0.out hneg haf
              rw [hb0] at hfm
              simp only [Int.toNat_natCast] at hfm
              rw [hfm] at e3
              have HN2 : Hid (bfI G (k + 1) = (b0 : Int)) := HN.out.trans hb0
              rw [hb0]
              have hbi : (b0 : Int) < (j : Int) := by omega
              have hbi0 : ¬ (b0 : Int) < 0 := by omega
              have hv : (V b0 != V b0) = false := by simp
              clear hneg hb0 hbd haf hfm
              generalize V b0 = vb at *
              go_wp2
              go_quiet (fail)
              go_wp2
              go_roundw
              case rel => exact ⟨k + 1, by omega, by go_num, by rw [HN2.out], qq + nq, by rw [HQ.out, World.drewN_drewN]⟩
              case measure => simp [intOf]; omega
    · obtain rfl : k = n := by omega
      have HBW : Hid (Below w.heap.size w wr) := by show Below _ _ _; rw [hq]; exact Gg.below_drewN HB5.out _
      clear hq hw
      go_wp2_with (go_at_call 20; refine (awake_any _).mono ?_; rintro e w7 ⟨rfl, hb7⟩; have HB7 : Hid (Below w.heap.size w w7) := HBW.out.trans (hb7.mono HBW.out.size); clear hb7)
      go_ret
      exact ⟨rfl, HB7.out⟩
end Go.Proofs.Ytkflgiopkopeeaa.Ql

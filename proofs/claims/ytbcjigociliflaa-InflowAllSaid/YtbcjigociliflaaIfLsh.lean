/-
  The law InflowShares.
-/
import Derived.Test.YtbcjigociliflaaIfLsm
namespace Go.Proofs.Ytbcjigociliflaa.If
open Go.ChangeShapes Go.WideShapes Go.ChangeAt Go.RowKit
open Go.Proofs.Ytbcjigociliflaa.Qu (sumZ sumZ_congr sumZ_bd Rd md md_lo md_hi mod_any upd Got got_nil got_block shLen shCode shVal share_fair)
open Go.Proofs.Ytbcjigociliflaa.Cu (Dk NxP next_any new_any grown_trans grown_refl grown_own)
set_option linter.unusedVariables false

theorem sum_pos (z : Nat → Int) : ∀ n, (∀ i, i < n → 0 ≤ z i) → 0 ≤ sumZ z n
  | 0, _ => Int.le_refl _
  | n + 1, h => by have h1 := sum_pos z n (fun i hi => h i (by omega)); have h2 := h n (by omega); rw [sumZ]; omega
theorem sum_gt (z : Nat → Int) (n : Nat) (hn : 0 < n) (h : ∀ i, i < n → 0 ≤ z i) (h0 : 1 ≤ z 0) : 0 < sumZ z n := by
  have := Qu.sumZ_le z n 0 h hn
  omega
/-- Spread of weights of which the first is not 0. -/
theorem spr_small (a : Int) (p : Option Addr) (n c : Nat) (z : Nat → Int) (w : World) (hn : n ≤ 4096) (hn0 : 0 < n) (ha : 0 ≤ a ∧ a ≤ 5000) (hz : ∀ i, i < n → 0 ≤ z i ∧ z i ≤ 10000) (h0 : 1 ≤ z 0) (hr : Rd w p n z) :
    Calls Try.prog 22 #[.int .i64 a, .slice p n c] w (LcP 0 n (shVal a z n) w) := by
  have h := spr_any a p n c z w hn hr
  have ht := sum_gt z n hn0 (fun i hi => (hz i hi).1) h0
  have e1 : Qu.allB z n = true := by
    have : ∀ k, k ≤ n → Qu.allB z k = true := by
      intro k
      induction k with
      | zero => intro _; rfl
      | succ k ih => intro hk; unfold Qu.allB; rw [ih (by omega), Qu.inB_yes (hz k (by omega))]; rfl
    exact this n (Nat.le_refl _)
  have e2 : Qu.chk a z n = 0 := Qu.chk_yes (Qu.inB_yes (by omega)) e1
  have e3 : shCode a z n = 0 := by
    unfold shCode
    rw [if_pos e2]
    by_cases h0 : a = 0
    · rw [if_pos h0]
    · rw [if_neg h0, if_neg (by omega)]
  have e4 : shLen a z n = n := by unfold shLen; rw [if_pos e3]
  unfold SpP at h
  rw [e3, e4] at h
  exact h

set_option maxRecDepth 100000 in
set_option maxHeartbeats 4000000 in
theorem lsh_walk (p : Option Addr) (n c : Nat) (z : Nat → Int) (total width : Int) (w : World) (hr : Rd w p n z) (hn : n ≤ 9223372036854775807) (hz : ∀ i, -9223372036854775808 ≤ z i ∧ z i ≤ 9223372036854775807)
    (ha : -9223372036854775808 ≤ total ∧ total ≤ 9223372036854775807) (hb : -9223372036854775808 ≤ width ∧ width ≤ 9223372036854775807) :
    Calls Try.prog 7 #[.slice p n c, .int .i64 total, .int .i64 width] w fun e w' => e = .returned (.bool true) ∧ Below w.heap.size w w' := by
  have HN := Lib.hid (fun W (hW : W = w) => (show W = w from hW) ▸ new_any p n c z w hn hz hr)
  have HAW := Lib.hid (fun W => awake_any W)
  have HX1 := Lib.hid (fun W => mod_any total 5000 W ha (by omega) (by omega))
  have HX2 := Lib.hid (fun W => mod_any width 9 W hb (by omega) (by omega))
  obtain ⟨x0, hx0⟩ : ∃ x0 : Nat, md width 9 = (x0 : Int) := ⟨(md width 9).toNat, by have := md_lo width 9 (by omega); omega⟩
  have hx1 := md_hi width 9 (by omega)
  rw [hx0] at HX2 hx1
  obtain ⟨wd, hwd⟩ : ∃ wd, x0 + 1 = wd := ⟨_, rfl⟩
  have hw0 : 1 + (x0 : Int) = (wd : Int) := by omega
  have hw1 : 1 ≤ wd := by omega
  have hw2 : wd ≤ 9 := by omega
  have a1 := md_lo total 5000 (by omega)
  have a2 := md_hi total 5000 (by omega)
  generalize md total 5000 = am at *
  clear hr hz hx0 hwd
  go_enter Try.func7, Try.ntmps7
  go_upto_region 3 with (first
    | (go_at_call 9; refine (HN.out _ rfl).mono ?_; rintro e w1 ⟨rfl, hd1, hb1⟩; have HD1 := Lib.hid hd1; have HB1 := Lib.hid hb1; clear hd1 hb1 HN)
    | (go_at_call 24; refine (next_any _ p n c z _ _ HD1.out (by omega)).mono ?_; rintro e w2 ⟨r, rfl, hr1, hr2, hd2, hg2⟩; have HD2 := Lib.hid hd2; have HB2 : Hid (Below w.heap.size w w2) := below_own HB1.out (Nat.le_refl _) hg2 (fun k hk => by cases hk; exact Nat.le_refl _); clear hd2 hg2; obtain ⟨r0, rfl⟩ : ∃ r0 : Nat, r = (r0 : Int) := ⟨r.toNat, (by omega)⟩)
    | (go_at_call 25; refine (flows_int _ p n c z (r0 + 1) _ 30 _ HD2.out (by omega) (by omega) (by omega)).mono ?_; rintro e w3 ⟨v3, f3, rfl, hg3, hf3, _, hr3⟩; have HG3 := Lib.hid hg3; have HF3 := Lib.hid hf3; have HB3 : Hid (Below w.heap.size w w3) := below_own HB2.out (Nat.le_refl _) hr3 (fun k hk => by cases hk; exact Nat.le_refl _); clear hg3 hf3 hr3))
  obtain ⟨K, hK⟩ : ∃ K, r0 + 1 = K := ⟨_, rfl⟩
  rw [hK] at HG3 HF3
  have k1 : 1 ≤ K := by omega
  have k2 : K ≤ 12 := by omega
  obtain ⟨pv, cv, rfl, _, _, ho3, _⟩ := got_all HG3.out
  obtain ⟨gv, rfl, hgv, hov⟩ := ho3 (by omega)
  have d1 := hov.cell (i := 0) (by omega)
  have d2 := hov.free (i := 0) (by omega)
  obtain ⟨v1, v2⟩ := HF3.out 0 (by omega)
  have k3 : (0 : Int) < (K : Int) := by omega
  obtain ⟨w4, hw4⟩ : ∃ w4, w3.setCell ⟨gv, 0, none⟩ (.int .i64 (f3 0 + 1)) = w4 := ⟨_, rfl⟩
  have HO4 : Hid (Qu.Own w4 gv K (upd f3 0 (f3 0 + 1))) := by rw [← hw4]; exact hov.store (by omega) _
  have HB4 : Hid (Below w.heap.size w w4) := by rw [← hw4]; exact HB3.out.setCell (show w.heap.size ≤ gv from Nat.le_trans HB2.out.size hgv) _
  have HZ4 : Hid (∀ i, i < K → 0 ≤ upd f3 0 (f3 0 + 1) i ∧ upd f3 0 (f3 0 + 1) i ≤ 10000) := fun i hi => by
    by_cases e : i = 0
    · subst e; rw [Qu.upd_same]; omega
    · rw [Qu.upd_other _ _ e]; have := HF3.out i hi; omega
  have hz0 : 1 ≤ upd f3 0 (f3 0 + 1) 0 := by rw [Qu.upd_same]; omega
  have HSP := Lib.hid (spr_small am (some ⟨gv, 0, none⟩) K cv (upd f3 0 (f3 0 + 1)) w4 (by omega) (by omega) (by omega) HZ4.out hz0 HO4.out.rd)
  have HFR := Lib.hid (share_fair (upd f3 0 (f3 0 + 1)) am K (by omega) (sum_gt _ K (by omega) (fun i hi => (HZ4.out i hi).1) hz0) a1 (fun i hi => (HZ4.out i hi).1))
  generalize shVal am (upd f3 0 (f3 0 + 1)) K = X at *
  have HXB : Hid (∀ i, i < K → -274877906944 ≤ X i ∧ X i ≤ 274877906944) := fun i hi => by
    have h1 := HFR.out.pos i hi
    have h2 := Qu.sumZ_le X K i HFR.out.pos hi
    rw [HFR.out.all] at h2
    omega
  have HW4 := Lib.hid hw4
  clear hw4 hov hgv ho3 HG3 HF3 HB3 HD1 HD2 HO4 HZ4
  go_upto_region 5 with (go_at_call 16; refine (HX1.out _).mono ?_; rintro e w' ⟨rfl, rfl⟩)
  rw [HW4.out]
  have HSM : Hid (∀ W q cc (wd : Nat), 1 ≤ wd → wd ≤ 4096 → Rd W q K X → Calls Try.prog 20 #[.slice q K cc, .int .i64 (wd : Int)] W (LcP 0 K (sm X K wd) W)) := fun W q cc wd h1 h2 h => smo_small q K cc wd X W (by omega) ⟨h1, h2⟩ HXB.out h
  go_wp2_with (first
    | (go_at_call 22; refine HSP.out.mono ?_; rintro e w5 ⟨px, cx, rfl, hrx, hb5⟩; have HRX := Lib.hid hrx; have HB5 := Lib.hid hb5; clear hrx hb5 HSP)
    | (go_at_call 16; refine (HX2.out _).mono ?_; rintro e w' ⟨rfl, rfl⟩)
    | (go_at_call_has 20 (Value.int .i64 (wd : Int)); refine (HSM.out _ _ _ wd hw1 (by omega) HRX.out).mono ?_; rintro e w6 ⟨py, cy, rfl, hry, hb6⟩; have HRY := Lib.hid hry; have HB6 := Lib.hid hb6; clear hry hb6)
    | (go_at_call_has 20 (Value.int .i64 1); refine (HSM.out _ _ _ 1 (by omega) (by omega) (HRX.out.below HB6.out (Nat.le_refl _))).mono ?_; rintro e w7 ⟨pz, cz, rfl, hrz, hb7⟩; have HRZ := Lib.hid hrz; have HB7 := Lib.hid hb7; clear hrz hb7)
    | (go_at_call_has 20 (Value.int .i64 4096); refine (HSM.out _ _ _ 4096 (by omega) (by omega) ((HRX.out.below HB6.out (Nat.le_refl _)).below HB7.out (Nat.le_refl _))).mono ?_; rintro e w8 ⟨pw, cw, rfl, hrw, hb8⟩; have HRW := Lib.hid hrw; have HB8 := Lib.hid hb8; clear hrw hb8)
    | (go_at_call 15; refine (same_t px pz K cx cz X _ (by omega) (((HRX.out.below HB6.out (Nat.le_refl _)).below HB7.out (Nat.le_refl _)).below HB8.out (Nat.le_refl _)) ((HRZ.out.congr (fun i hi => sm_one X K i hi)).below HB8.out (Nat.le_refl _))).mono ?_; rintro e w9 ⟨rfl, hb9⟩; have HB9 := Lib.hid hb9; clear hb9))
  have HX9 : Hid (Rd w9 px K X) := (((HRX.out.below HB6.out (Nat.le_refl _)).below HB7.out (Nat.le_refl _)).below HB8.out (Nat.le_refl _)).below HB9.out (Nat.le_refl _)
  have HY9 : Hid (Rd w9 py K (sm X K wd)) := ((HRY.out.below HB7.out (Nat.le_refl _)).below HB8.out (Nat.le_refl _)).below HB9.out (Nat.le_refl _)
  have HW9 : Hid (Rd w9 pw K (sm X K 4096)) := HRW.out.below HB9.out (Nat.le_refl _)
  have HBZ : Hid (Below w.heap.size w w9) := by
    have b5 := HB4.out.trans (HB5.out.mono HB4.out.size)
    have b6 := b5.trans (HB6.out.mono b5.size)
    have b7 := b6.trans (HB7.out.mono b6.size)
    have b8 := b7.trans (HB8.out.mono b7.size)
    exact b8.trans (HB9.out.mono b8.size)
  have HYB : Hid (∀ i, i < K → -274877906944 ≤ sm X K wd i ∧ sm X K wd i ≤ 274877906944) := fun i hi => sm_bd X K wd i hw1 hi HXB.out
  clear HRX HRY HRZ HRW HB4 HB5 HB6 HB7 HB8 HB9 HSM HW4 d1 d2 HX1 HX2
  go_loopw [18, 19, 89] (fun x y i wr => ∃ (t q : Nat), t ≤ K ∧ i = .int .i64 t ∧ x = .int .i64 (sumZ X t) ∧ y = .int .i64 (sumZ (sm X K wd) t) ∧ Hid (wr = w9.drewN q)) (fun _ _ i _ => K - (intOf i).toNat)
  case atStart => exact ⟨0, 0, Nat.zero_le _, rfl, rfl, rfl, rfl⟩
  case round =>
    obtain ⟨t, q, ht, rfl, rfl, rfl, hwq⟩ := hrel
    by_cases hlt : t < K
    · have hti : (t : Int) < (K : Int) := by omega
      obtain ⟨bx, ox, rfl, _, hcx⟩ := HX9.out (by omega)
      obtain ⟨by_, oy, rfl, _, hcy⟩ := HY9.out (by omega)
      have l1 : wr.cell? ⟨bx, ox + t, none⟩ = some (.int .i64 (X t)) := by rw [hwq.out]; exact hcx t hlt
      have l2 : wr.cell? ⟨by_, oy + t, none⟩ = some (.int .i64 (sm X K wd t)) := by rw [hwq.out]; exact hcy t hlt
      obtain ⟨s1, s2⟩ := sum_bd X K t ht (by omega) HXB.out
      obtain ⟨s3, s4⟩ := HXB.out t hlt
      obtain ⟨s5, s6⟩ := sum_bd (sm X K wd) K t ht (by omega) HYB.out
      obtain ⟨s7, s8⟩ := HYB.out t hlt
      have HS1 := Lib.hid (show sumZ X (t + 1) = sumZ X t + X t from rfl)
      have HS2 := Lib.hid (show sumZ (sm X K wd) (t + 1) = sumZ (sm X K wd) t + sm X K wd t from rfl)
      have u1 : IntKind.i64.wrap (sumZ X t + X t) = sumZ X t + X t := by rw [IntKind.wrap_i64]; omega
      have u2 : IntKind.i64.wrap (sumZ (sm X K wd) t + sm X K wd t) = sumZ (sm X K wd) t + sm X K wd t := by rw [IntKind.wrap_i64]; omega
      clear hcx hcy
      generalize sm X K wd t = ft2 at *
      generalize sumZ (sm X K wd) t = sy at *
      generalize sumZ X t = sx at *
      generalize X t = ft at *
      go_wp2
      go_quiet (fail)
      clear l1 l2
      go_wp2
      go_roundw
      case rel => exact ⟨t + 1, _, by omega, by go_num, by rw [HS1.out], by rw [HS2.out], by show _ = _; rw [hwq.out, World.drewN_drewN]⟩
      case measure => simp [intOf]; omega
    · have hjm : ¬ (t : Int) < (K : Int) := by omega
      have htK : t = K := by omega
      have HBE : Hid (Below w.heap.size w wr) := by rw [hwq.out]; exact Qu.Below.drewN HBZ.out q
      obtain ⟨bw, ow, rfl, _, hcw⟩ := HW9.out (by omega)
      have l1 : wr.cell? ⟨bw, ow, none⟩ = some (.int .i64 (sm X K 4096 0)) := by rw [hwq.out]; exact hcw 0 (by omega)
      obtain ⟨k0, hk0⟩ : ∃ k0, K - 1 = k0 := ⟨_, rfl⟩
      have l2 : wr.cell? ⟨bw, ow + k0, none⟩ = some (.int .i64 (sm X K 4096 k0)) := by rw [hwq.out]; exact hcw k0 (by omega)
      have hbig := sm_big X K 0 k0 (by omega) (by omega) (by omega)
      obtain ⟨g1, g2⟩ := sm_bd X K 4096 0 (by omega) (by omega) HXB.out
      obtain ⟨g3, g4⟩ := sm_bd X K 4096 k0 (by omega) (by omega) HXB.out
      have hs1 : sumZ X t = am := by rw [htK]; exact HFR.out.all
      have hs2 : sumZ (sm X K wd) t = am := by rw [htK, sm_all X K wd hw1]; exact HFR.out.all
      rw [hs1, hs2]
      generalize sm X K 4096 0 = A1 at *
      generalize sm X K 4096 k0 = A2 at *
      have e1 : IntKind.i64.wrap ((K : Int) - 1) = (k0 : Int) := by rw [IntKind.wrap_i64]; omega
      have e2 : IntKind.i64.wrap (A1 - A2) = A1 - A2 := by rw [IntKind.wrap_i64]; omega
      have e3 : (k0 : Int) < (K : Int) := by omega
      have e4 : decide (A1 - A2 ≤ 1) = true := dt hbig
      have e5 : (am == am) = true := by simp
      have HST : Hid (∀ W, (W.cell? ⟨bw, ow, none⟩ = some (.int .i64 A1) ∧ W.cell? ⟨bw, ow + k0, none⟩ = some (.int .i64 A2) ∧ Hid (Below w.heap.size w W)) → Calls Try.prog 8 #[] W fun e w' => e = .returned (.bool true) ∧ (w'.cell? ⟨bw, ow, none⟩ = some (.int .i64 A1) ∧ w'.cell? ⟨bw, ow + k0, none⟩ = some (.int .i64 A2) ∧ Hid (Below w.heap.size w w'))) := fun W ⟨s1, s2, s5⟩ => (HAW.out W).mono fun e w' ⟨he, hb⟩ =>
        ⟨he, (hb.cell (p := ⟨bw, ow, none⟩) (World.block_lt_of_cell? _ _ s1)).trans s1, (hb.cell (p := ⟨bw, ow + k0, none⟩) (World.block_lt_of_cell? _ _ s2)).trans s2, s5.out.trans (hb.mono s5.out.size)⟩
      have k4 : 0 < K := by omega
      clear hcw hk0 hs1 hs2 htK ht hlt
      go_wp2
      go_region_held3 (fun W => W.cell? ⟨bw, ow, none⟩ = some (.int .i64 A1) ∧ W.cell? ⟨bw, ow + k0, none⟩ = some (.int .i64 A2) ∧ Hid (Below w.heap.size w W)) (first | exact ⟨l1, l2, HBE⟩ | exact ⟨l1, l2, below_drew HBE.out⟩ | assumption | go_keep)
        (first
          | (go_at_call 8; refine (HST.out _ (by assumption)).mono ?_; rintro e wz ⟨rfl, hS⟩)
          | fail)
      go_wp2_with fail
      go_ret
      exact ⟨rfl, hS.2.2.out⟩
end Go.Proofs.Ytbcjigociliflaa.If

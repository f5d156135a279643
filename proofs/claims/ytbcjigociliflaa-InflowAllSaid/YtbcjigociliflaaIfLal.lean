/-
  The law InflowAll.
-/
import Derived.Test.YtbcjigociliflaaIfLsh
namespace Go.Proofs.Ytbcjigociliflaa.If
open Go.ChangeShapes Go.WideShapes Go.ChangeAt Go.RowKit
open Go.Proofs.Ytbcjigociliflaa.Qu (sumZ sumZ_congr sumZ_bd Rd md md_lo md_hi mod_any upd Got got_nil got_block shLen shCode shVal)
open Go.Proofs.Ytbcjigociliflaa.Cu (Dk NxP next_any new_any grown_trans grown_refl grown_own RdP)
set_option linter.unusedVariables false

theorem row_cap {w : World} {a : Option Addr} {len cap : Nat} {zs : List Int}
    (h : (a = none ∧ len = 0 ∧ cap = 0 ∧ zs = []) ∨ ∃ x, a = some x ∧ len ≤ cap ∧ cap ≤ maxLen ∧ zs.length = cap ∧ (∀ i, i < zs.length → w.cell? (x.add i) = some (.int .i64 (zs.getD i 0))) ∧ ∀ n ∈ zs, (Lit.int .i64 n).wf = true) : len ≤ cap := by
  rcases h with ⟨rfl, rfl, rfl, rfl⟩ | ⟨x, rfl, h1, h2, h3, h4, h5⟩
  · exact Nat.le_refl _
  · exact h1

/-- The pair of lists of a round lies in block kb; the world is one later than wb. -/
structure Kw (wb : World) (kb : Nat) (p : Option Addr) (n c : Nat) (q : Option Addr) (m d : Nat) (W : World) : Prop where
  c0 : W.cell? ⟨kb, 0, none⟩ = some (.slice p n c)
  c1 : W.cell? ⟨kb, 1, none⟩ = some (.slice q m d)
  bel : Below wb.heap.size wb W
theorem Kw.up {wb : World} {kb : Nat} {p : Option Addr} {n c : Nat} {q : Option Addr} {m d : Nat} {W W' : World} (h : Kw wb kb p n c q m d W) (hb : Below W.heap.size W W') : Kw wb kb p n c q m d W' where
  c0 := (hb.cell (p := ⟨kb, 0, none⟩) (World.block_lt_of_cell? _ _ h.c0)).trans h.c0
  c1 := (hb.cell (p := ⟨kb, 1, none⟩) (World.block_lt_of_cell? _ _ h.c1)).trans h.c1
  bel := h.bel.trans (hb.mono h.bel.size)
theorem Kw.rd {wb : World} {kb : Nat} {p : Option Addr} {n c : Nat} {q : Option Addr} {m d : Nat} {W : World} (h : Kw wb kb p n c q m d W) {a : Option Addr} {k : Nat} {f : Nat → Int} (hr : Rd wb a k f) : Rd W a k f := hr.below h.bel (Nat.le_refl _)

/-- The four pairs of lists that the law goes through, as the literal at lb holds them. -/
def Ps (w : World) (lb : Nat) : Prop := ∀ k, k < 4 → ∃ (p : Option Addr) (n c : Nat) (z : Nat → Int) (q : Option Addr) (m d : Nat) (y : Nat → Int),
  w.cell? ⟨lb, k * 2, none⟩ = some (.slice p n c) ∧ w.cell? ⟨lb, k * 2 + 1, none⟩ = some (.slice q m d) ∧ Rd w p n z ∧ Rd w q m y ∧ n ≤ 300 ∧ m ≤ 300 ∧ n ≤ c

theorem kw_lc {wb : World} {kb : Nat} {p : Option Addr} {n c : Nat} {q : Option Addr} {m d : Nat} {W : World} {f : FuncId} {args : Array Value} {cc : Int} {k : Nat} {F : Nat → Int} (hk : Kw wb kb p n c q m d W) (h : Calls Try.prog f args W (LcP cc k F W)) :
    Calls Try.prog f args W fun e w' => ∃ pa ca, e = .returned (.tuple #[.slice pa k ca, .int .i64 cc]) ∧ Rd w' pa k F ∧ Kw wb kb p n c q m d w' ∧ Below W.heap.size W w' :=
  h.mono fun e w' ⟨pa, ca, he, hr, hb⟩ => ⟨pa, ca, he, hr, hk.up hb, hb⟩
theorem kw_ln {wb : World} {kb : Nat} {p : Option Addr} {n c : Nat} {q : Option Addr} {m d : Nat} {W : World} {f : FuncId} {args : Array Value} {cc : Int} {k : Nat} {F : Nat → Int} (hk : Kw wb kb p n c q m d W) (h : Calls Try.prog f args W (LcN cc k F W)) :
    Calls Try.prog f args W fun e w' => ∃ pa ca, e = .returned (.tuple #[.slice pa k ca, .int .i64 cc]) ∧ Rd w' pa k F ∧ Kw wb kb p n c q m d w' ∧ Below W.heap.size W w' :=
  h.mono fun e w' ⟨pa, ca, he, hr, hb, _⟩ => ⟨pa, ca, he, hr, hk.up hb, hb⟩
theorem kw_t {wb : World} {kb : Nat} {p : Option Addr} {n c : Nat} {q : Option Addr} {m d : Nat} {W : World} {f : FuncId} {args : Array Value} {t : Bool} (hk : Kw wb kb p n c q m d W) (h : Calls Try.prog f args W (Et t W)) :
    Calls Try.prog f args W fun e w' => e = .returned (.bool t) ∧ Kw wb kb p n c q m d w' ∧ Below W.heap.size W w' :=
  h.mono fun e w' ⟨he, hb⟩ => ⟨he, hk.up hb, hb⟩
theorem baN_le (n m : Nat) (z y : Nat → Int) : baN n m z y ≤ m := by unfold baN; split <;> omega
theorem ucN_le (n m : Nat) (z y : Nat → Int) (o : Int) : ucN n m z y o ≤ m := by unfold ucN; split <;> omega
theorem smN_le (z : Nat → Int) (n : Nat) (w : Int) : smN z n w ≤ n := by unfold smN; split <;> omega
theorem shLen_le (a : Int) (z : Nat → Int) (n : Nat) : shLen a z n ≤ n := by unfold shLen; split <;> omega

theorem kw_uc {wb : World} {kb : Nat} {p : Option Addr} {n c : Nat} {q : Option Addr} {m d : Nat} {W : World} {f : FuncId} {args : Array Value} {N M : Nat} {z y : Nat → Int} {o : Int} (hk : Kw wb kb p n c q m d W) (h : Calls Try.prog f args W (UcP N M z y o W)) :
    Calls Try.prog f args W fun e w' => ∃ pa ca, e = .returned (.tuple #[.slice pa (ucN N M z y o) ca, .int .i64 (ucE N M z y o)]) ∧ RdP w' pa (ucN N M z y o) (unL z y o) (unM z y o) ∧ Kw wb kb p n c q m d w' ∧ Below W.heap.size W w' :=
  h.mono fun e w' ⟨pa, ca, he, hr, hb, _⟩ => ⟨pa, ca, he, hr, hk.up hb, hb⟩
/-- Two numbers that a literal holds. -/
theorem two_in {wl W : World} {b : Nat} {x y : Int} (h0 : wl.cell? ⟨b, 0, none⟩ = some (.int .i64 x)) (h1 : wl.cell? ⟨b, 1, none⟩ = some (.int .i64 y)) (hb : Below wl.heap.size wl W) (j : Nat) (hj : j < 2) : ∃ v : Int, W.cell? ⟨b, j, none⟩ = some (.int .i64 v) := by
  match j, hj with
  | 0, _ => exact ⟨x, (hb.cell (p := ⟨b, 0, none⟩) (World.block_lt_of_cell? _ _ h0)).trans h0⟩
  | 1, _ => exact ⟨y, (hb.cell (p := ⟨b, 1, none⟩) (World.block_lt_of_cell? _ _ h1)).trans h1⟩

set_option maxRecDepth 100000 in
set_option maxHeartbeats 8000000 in
theorem lal_walk (pv : Option Addr) (nv cv : Nat) (zv : Nat → Int) (po : Option Addr) (no co : Nat) (zo : Nat → Int) (p : Option Addr) (n c : Nat) (z : Nat → Int) (off_ width : Int) (w : World)
    (hsv : nv ≤ 140737488355328) (hso : no ≤ 140737488355328) (hrv : Rd w pv nv zv) (hro : Rd w po no zo) (hcv : nv ≤ cv) (hr : Rd w p n z) (hn : n ≤ 9223372036854775807) (hz : ∀ i, -9223372036854775808 ≤ z i ∧ z i ≤ 9223372036854775807)
    (ha : -9223372036854775808 ≤ off_ ∧ off_ ≤ 9223372036854775807) (hb : -9223372036854775808 ≤ width ∧ width ≤ 9223372036854775807) :
    Calls Try.prog 3 #[.slice pv nv cv, .slice po no co, .slice p n c, .int .i64 off_, .int .i64 width] w fun e w' => e = .returned (.bool true) ∧ Below w.heap.size w w' := by
  have HN := Lib.hid (fun W (hW : W = w) => (show W = w from hW) ▸ new_any p n c z w hn hz hr)
  have HAW := Lib.hid (fun W => awake_any W)
  have HRV := Lib.hid hrv
  have HRO := Lib.hid hro
  clear hr hz hrv hro
  have HM1 := Lib.hid (fun W => mod_any off_ 40 W ha (by omega) (by omega))
  have HM2 := Lib.hid (fun W => mod_any width 9 W hb (by omega) (by omega))
  have a1 := md_lo off_ 40 (by omega)
  have a2 := md_hi off_ 40 (by omega)
  have a3 := md_lo width 9 (by omega)
  have a4 := md_hi width 9 (by omega)
  generalize md off_ 40 = off2 at *
  generalize md width 9 = wid2 at *
  by_cases h300 : nv + no ≤ 300
  · have g1 : ¬ (300 : Int) < (nv : Int) + (no : Int) := by omega
    have g2 : decide ((300 : Int) < (nv : Int) + (no : Int)) = false := df g1
    have hnv : nv ≤ 300 := by omega
    have hno : no ≤ 300 := by omega
    clear h300
    go_enter Try.func3, Try.ntmps3
    go_wp2_with (first
      | (go_at_call 9; refine (HN.out _ rfl).mono ?_; rintro e w1 ⟨rfl, hd1, hb1⟩; have HD1 := Lib.hid hd1; have HB1 := Lib.hid hb1; clear hd1 hb1 HN)
      | (go_at_call 10; refine (run_any _ _ _ _ _ _ HD1.out).mono ?_; rintro e w2 ⟨m, pr, pq, cr, cq, gv, V, O, rfl, hrn, _, hg2⟩; have HRN := Lib.hid hrn; have HB2 : Hid (Below w.heap.size w w2) := below_own HB1.out (Nat.le_refl _) hg2 (fun k hk => by cases hk; exact Nat.le_refl _); obtain ⟨M, hM⟩ : ∃ M, m + 1 = M := ⟨_, rfl⟩; rw [hM]; have HM := Lib.hid hM; clear hrn hg2 hM HD1))
    have HPS : Hid (Ps (w2.alloc (.cells #[.slice pr M cr, .slice pq m cq, .slice pv nv cv, .slice po no co, .slice pr M cr, .slice po no co, .slice pv nv cv, .slice pq m cq] 28)) w2.heap.size) := by
      have hm := HRN.out.len
      have hM := HM.out
      have b2 : Below w2.heap.size w2 (w2.alloc (.cells #[.slice pr M cr, .slice pq m cq, .slice pv nv cv, .slice po no co, .slice pr M cr, .slice po no co, .slice pv nv cv, .slice pq m cq] 28)) := (Below.refl _ w2).alloc (Nat.le_refl _) _
      have r1 : Rd w2 pr M V := by
        have h := HRN.out.own.rd
        rw [← HRN.out.pve, HM.out] at h
        exact h
      have r2 := HRN.out.rd
      have r3 := HRV.out.below HB2.out (Nat.le_refl _)
      have r4 := HRO.out.below HB2.out (Nat.le_refl _)
      have c1 := HRN.out.cvl
      intro k hk
      match k, hk with
      | 0, _ => exact ⟨pr, M, cr, V, pq, m, cq, O, by simp, by simp, r1.below b2 (Nat.le_refl _), r2.below b2 (Nat.le_refl _), by omega, by omega, by omega⟩
      | 1, _ => exact ⟨pv, nv, cv, zv, po, no, co, zo, by simp, by simp, r3.below b2 (Nat.le_refl _), r4.below b2 (Nat.le_refl _), hnv, hno, hcv⟩
      | 2, _ => exact ⟨pr, M, cr, V, po, no, co, zo, by simp, by simp, r1.below b2 (Nat.le_refl _), r4.below b2 (Nat.le_refl _), by omega, hno, by omega⟩
      | 3, _ => exact ⟨pv, nv, cv, zv, pq, m, cq, O, by simp, by simp, r3.below b2 (Nat.le_refl _), r2.below b2 (Nat.le_refl _), hnv, by omega, hcv⟩
    have HB3 : Hid (Below w.heap.size w (w2.alloc (.cells #[.slice pr M cr, .slice pq m cq, .slice pv nv cv, .slice po no co, .slice pr M cr, .slice po no co, .slice pv nv cv, .slice pq m cq] 28))) := HB2.out.alloc HB2.out.size _
    clear HB1 HB2 HRN HM HRV HRO g1 g2
    generalize w2.alloc (.cells #[.slice pr M cr, .slice pq m cq, .slice pv nv cv, .slice po no co, .slice pr M cr, .slice po no co, .slice pv nv cv, .slice pq m cq] 28) = w3 at *
    generalize w2.heap.size = lb at *
    go_loopw [64] (fun i wr => ∃ k : Nat, k ≤ 4 ∧ i = .int .i64 k ∧ Hid (Below w3.heap.size w3 wr)) (fun i _ => 4 - (intOf i).toNat)
    case atStart => exact ⟨0, Nat.zero_le _, rfl, Below.refl _ _⟩
    case round =>
      obtain ⟨k, hk, rfl, hbr⟩ := hrel
      by_cases hlt : k < 4
      · have hki : (k : Int) < 4 := by omega
        obtain ⟨P, N, C, Z, Q, S, D, Y, l0, l1, rp, rq, hN, hS, hC⟩ := HPS.out k hlt
        have c0 : wr.cell? ⟨lb, k * 2, none⟩ = some (.slice P N C) := (hbr.out.cell (p := ⟨lb, k * 2, none⟩) (World.block_lt_of_cell? _ _ l0)).trans l0
        have c1 : wr.cell? ⟨lb, k * 2 + 1, none⟩ = some (.slice Q S D) := (hbr.out.cell (p := ⟨lb, k * 2 + 1, none⟩) (World.block_lt_of_cell? _ _ l1)).trans l1
        have RP := Lib.hid (rp.below hbr.out (Nat.le_refl _))
        have RQ := Lib.hid (rq.below hbr.out (Nat.le_refl _))
        clear l0 l1 rp rq
        go_upto_region 8 with (fail)
        have hkb : Kw (wr.alloc (.cells #[.slice P N C, .slice Q S D] 28)) wr.heap.size P N C Q S D (wr.alloc (.cells #[.slice P N C, .slice Q S D] 28)) := ⟨by simp, by simp, Below.refl _ _⟩
        have hwb : Below wr.heap.size wr (wr.alloc (.cells #[.slice P N C, .slice Q S D] 28)) := (Below.refl _ wr).alloc (Nat.le_refl _) _
        have RPB := Lib.hid (RP.out.below hwb (Nat.le_refl _))
        have RQB := Lib.hid (RQ.out.below hwb (Nat.le_refl _))
        have HB4 := Lib.hid (hbr.out.trans (hwb.mono hbr.out.size))
        clear hwb RP RQ hbr c0 c1
        generalize wr.alloc (.cells #[.slice P N C, .slice Q S D] 28) = wb at *
        generalize wr.heap.size = kb at *
        have KB := Lib.hid hkb
        obtain ⟨b0, b1, _⟩ := hkb
        have HC1 : Hid (∀ q, Calls Try.prog 11 #[.slice P N C, .slice Q S D] (wb.drewN q) (Ec (cB N S Z Y) (wb.drewN q))) := fun q => ck_any P Q N S C D Z Y _ (by omega) (by omega) RPB.out RQB.out
        have HC2 : Hid (∀ q, Calls Try.prog 12 #[.slice P N C, .slice Q S D] (wb.drewN q) (Ec (cB N S Z Y) (wb.drewN q))) := fun q => rck_any P Q N S C D Z Y _ (by omega) (by omega) RPB.out RQB.out
        go_quiet (first
          | (go_at_call 11; refine (HC1.out _).mono fun e w' h => ⟨h.1, _, h.2.symm⟩)
          | (go_at_call 12; refine (HC2.out _).mono fun e w' h => ⟨h.1, _, h.2.symm⟩))
        have K4 : Hid (Kw wb kb P N C Q S D (wb.drewN nq)) := KB.out.up (Qu.Below.drewN (Below.refl _ _) nq)
        clear b0 b1 HC1 HC2 KB
        generalize wb.drewN nq = w4 at *
        obtain ⟨b0, b1, _⟩ := K4.out
        have hx : (cB N S Z Y != cB N S Z Y) = false := by simp
        have HBN := Lib.hid (baN_le N S Z Y)
        go_wp2_with (first
          | (go_at_call 13; refine (kw_ln K4.out (bal_any P Q N S C D Z Y _ (by omega) (by omega) (K4.out.rd RPB.out) (K4.out.rd RQB.out))).mono ?_; rintro e w5 ⟨pa, ca, rfl, ra, k5, hb5⟩; have RA5 := Lib.hid ra; have K5 := Lib.hid k5; have HB5 := Lib.hid hb5; clear b0 b1 ra hb5; obtain ⟨b0, b1, _⟩ := k5)
          | (go_at_call 14; refine (kw_ln K5.out (rbal_any P Q N S C D Z Y _ (by omega) (by omega) (K5.out.rd RPB.out) (K5.out.rd RQB.out))).mono ?_; rintro e w6 ⟨pb, cb, rfl, rb, k6, hb6⟩; have RB6 := Lib.hid rb; have K6 := Lib.hid k6; have HB6 := Lib.hid hb6; clear b0 b1 rb hb6 K4; obtain ⟨b0, b1, _⟩ := k6)
          | (go_at_call 15; refine (kw_t K6.out (same_t pa pb _ ca cb (bal Z Y) _ (by have := HBN.out; omega) (RA5.out.below HB6.out (Nat.le_refl _)) RB6.out)).mono ?_; rintro e w7 ⟨rfl, k7, hb7⟩; have K7 := Lib.hid k7; clear b0 b1 hb7 RA5 RB6 HB5 HB6 K5 K6; obtain ⟨b0, b1, _⟩ := k7)
          | (go_at_call 16; refine (HM1.out _).mono ?_; rintro e w' ⟨rfl, rfl⟩))
        have KL : Hid (Kw wb kb P N C Q S D (w7.alloc (.cells #[.int .i64 off_, .int .i64 off2] 3))) := K7.out.up ((Below.refl _ w7).alloc (Nat.le_refl _) _)
        have t0 : (w7.alloc (.cells #[.int .i64 off_, .int .i64 off2] 3)).cell? ⟨w7.heap.size, 0, none⟩ = some (.int .i64 off_) := by simp
        have t1 : (w7.alloc (.cells #[.int .i64 off_, .int .i64 off2] 3)).cell? ⟨w7.heap.size, 1, none⟩ = some (.int .i64 off2) := by simp
        have HT := Lib.hid (fun W hb j hj => two_in (W := W) t0 t1 hb j hj)
        clear b0 b1 K7 t0 t1 hx
        generalize w7.alloc (.cells #[.int .i64 off_, .int .i64 off2] 3) = wl at *
        generalize w7.heap.size = ql at *
        go_loopw [109] (fun i wr => ∃ j : Nat, j ≤ 2 ∧ i = .int .i64 j ∧ Hid (Below wl.heap.size wl wr)) (fun i _ => 2 - (intOf i).toNat)
        case atStart => exact ⟨0, Nat.zero_le _, rfl, Below.refl _ _⟩
        case round =>
          obtain ⟨j, hj, rfl, hbl⟩ := hrel
          have K8 : Hid (Kw wb kb P N C Q S D wr) := KL.out.up hbl.out
          obtain ⟨b0, b1, _⟩ := K8.out
          by_cases hj2 : j < 2
          · have hji : (j : Int) < 2 := by omega
            obtain ⟨x, hxc⟩ := HT.out wr hbl.out j hj2
            have hx : (ucE N S Z Y x != ucE N S Z Y x) = false := by simp
            have HUN := Lib.hid (ucN_le N S Z Y x)
            go_wp2_with (first
              | (go_at_call 17; refine (kw_uc K8.out (unc_any P Q N S C D Z Y x _ (by omega) (by omega) (K8.out.rd RPB.out) (K8.out.rd RQB.out))).mono ?_; rintro e w9 ⟨pc, cc, rfl, rc, k9, hb9⟩; have RC9 := Lib.hid rc; have K9 := Lib.hid k9; have HB9 := Lib.hid hb9; clear b0 b1 rc hb9; obtain ⟨b0, b1, _⟩ := k9)
              | (go_at_call 18; refine (kw_uc K9.out (runc_any P Q N S C D Z Y x _ (by omega) (by omega) (K9.out.rd RPB.out) (K9.out.rd RQB.out))).mono ?_; rintro e w10 ⟨pd, cd, rfl, rd, k10, hb10⟩; have RD10 := Lib.hid rd; have K10 := Lib.hid k10; have HB10 := Lib.hid hb10; clear b0 b1 rd hb10 k10)
              | (go_at_call 19; refine (sameb_yes pc pd _ cc cd (unL Z Y x) (unM Z Y x) _ (by have := HUN.out; omega) (RC9.out.below HB10.out (Nat.le_refl _)) RD10.out).mono ?_; rintro e w11 ⟨rfl, hb11⟩; have HB11 := Lib.hid hb11; clear hb11))
            have HBN2 : Hid (Below wl.heap.size wl w11) := by
              have h1 := hbl.out.trans (HB9.out.mono hbl.out.size)
              have h2 := h1.trans (HB10.out.mono h1.size)
              exact h2.trans (HB11.out.mono h2.size)
            clear RC9 RD10 K9 K10 HB9 HB10 HB11 hxc
            go_roundw
            case rel => exact ⟨j + 1, by omega, by go_num, HBN2⟩
            case measure => simp [intOf]; omega
          · have hji : ¬ (j : Int) < 2 := by omega
            clear hj hj2 KL HT hbl
            have hwr : IntKind.i64.wrap (1 + wid2) = 1 + wid2 := by rw [IntKind.wrap_i64]; omega
            go_wp2_with (go_at_call 16; refine (HM2.out _).mono ?_; rintro e w' ⟨rfl, rfl⟩)
            have KL : Hid (Kw wb kb P N C Q S D (wr.alloc (.cells #[.int .i64 width, .int .i64 (1 + wid2)] 3))) := K8.out.up ((Below.refl _ wr).alloc (Nat.le_refl _) _)
            have t0 : (wr.alloc (.cells #[.int .i64 width, .int .i64 (1 + wid2)] 3)).cell? ⟨wr.heap.size, 0, none⟩ = some (.int .i64 width) := by simp
            have t1 : (wr.alloc (.cells #[.int .i64 width, .int .i64 (1 + wid2)] 3)).cell? ⟨wr.heap.size, 1, none⟩ = some (.int .i64 (1 + wid2)) := by simp
            have HT := Lib.hid (fun W hb j hj => two_in (W := W) t0 t1 hb j hj)
            clear b0 b1 K8 t0 t1 hji hwr
            generalize wr.alloc (.cells #[.int .i64 width, .int .i64 (1 + wid2)] 3) = wm at *
            generalize wr.heap.size = qm at *
            go_loopw [147] (fun i wr => ∃ j : Nat, j ≤ 2 ∧ i = .int .i64 j ∧ Hid (Below wm.heap.size wm wr)) (fun i _ => 2 - (intOf i).toNat)
            case atStart => exact ⟨0, Nat.zero_le _, rfl, Below.refl _ _⟩
            case round =>
              obtain ⟨j, hj, rfl, hbl⟩ := hrel
              have K8 : Hid (Kw wb kb P N C Q S D wr) := KL.out.up hbl.out
              obtain ⟨b0, b1, _⟩ := K8.out
              by_cases hj2 : j < 2
              · have hji : (j : Int) < 2 := by omega
                obtain ⟨x, hxc⟩ := HT.out wr hbl.out j hj2
                have hx : (smC Z N x != smC Z N x) = false := by simp
                have HSN := Lib.hid (smN_le Z N x)
                go_wp2_with (first
                  | (go_at_call 20; refine (kw_lc K8.out (smo_any P N C Z x _ (by omega) (K8.out.rd RPB.out))).mono ?_; rintro e w9 ⟨pc, cc, rfl, rc, k9, hb9⟩; have RC9 := Lib.hid rc; have K9 := Lib.hid k9; have HB9 := Lib.hid hb9; clear b0 b1 rc hb9; obtain ⟨b0, b1, _⟩ := k9)
                  | (go_at_call 21; refine (kw_lc K9.out (rsm_any P N C Z x _ (by omega) hC (K9.out.rd RPB.out))).mono ?_; rintro e w10 ⟨pd, cd, rfl, rd, k10, hb10⟩; have RD10 := Lib.hid rd; have K10 := Lib.hid k10; have HB10 := Lib.hid hb10; clear b0 b1 rd hb10 k10)
                  | (go_at_call 15; refine (same_t pc pd _ cc cd (sm Z N x.toNat) _ (by have := HSN.out; omega) (RC9.out.below HB10.out (Nat.le_refl _)) RD10.out).mono ?_; rintro e w11 ⟨rfl, hb11⟩; have HB11 := Lib.hid hb11; clear hb11))
                have HBN2 : Hid (Below wm.heap.size wm w11) := by
                  have h1 := hbl.out.trans (HB9.out.mono hbl.out.size)
                  have h2 := h1.trans (HB10.out.mono h1.size)
                  exact h2.trans (HB11.out.mono h2.size)
                clear RC9 RD10 K9 K10 HB9 HB10 HB11 hxc
                go_roundw
                case rel => exact ⟨j + 1, by omega, by go_num, HBN2⟩
                case measure => simp [intOf]; omega
              · have hji : ¬ (j : Int) < 2 := by omega
                have hx : (shCode off_ Y S != shCode off_ Y S) = false := by simp
                have HSL := Lib.hid (shLen_le off_ Y S)
                clear hj hj2 KL HT hbl
                go_wp2_with (first
                  | (go_at_call 22; refine (kw_lc K8.out (spr_any off_ Q S D Y _ (by omega) (K8.out.rd RQB.out))).mono ?_; rintro e w9 ⟨pc, cc, rfl, rc, k9, hb9⟩; have RC9 := Lib.hid rc; have K9 := Lib.hid k9; have HB9 := Lib.hid hb9; clear b0 b1 rc hb9; obtain ⟨b0, b1, _⟩ := k9)
                  | (go_at_call 23; refine (kw_lc K9.out (rspr_any off_ Q S D Y _ (by omega) (K9.out.rd RQB.out))).mono ?_; rintro e w10 ⟨pd, cd, rfl, rd, k10, hb10⟩; have RD10 := Lib.hid rd; have K10 := Lib.hid k10; have HB10 := Lib.hid hb10; clear b0 b1 rd hb10 k10)
                  | (go_at_call 15; refine (kw_t K10.out (same_t pc pd _ cc cd (shVal off_ Y S) _ (by have := HSL.out; omega) (RC9.out.below HB10.out (Nat.le_refl _)) RD10.out)).mono ?_; rintro e w11 ⟨rfl, k11, _⟩; have HBF : Hid (Below w3.heap.size w3 w11) := HB4.out.trans (k11.bel.mono HB4.out.size); clear k11))
                clear RC9 RD10 K9 K10 HB9 HB10
                go_roundw
                case rel => exact ⟨k + 1, by omega, by go_num, HBF⟩
                case measure => simp [intOf]; omega
      · have hki : ¬ (k : Int) < 4 := by omega
        have HBE : Hid (Below w.heap.size w wr) := HB3.out.trans (hbr.out.mono HB3.out.size)
        clear hlt hk
        go_wp2_with (go_at_call 8; refine (HAW.out _).mono ?_; rintro e w9 ⟨rfl, hb9⟩)
        go_ret
        exact ⟨rfl, HBE.out.trans (hb9.mono HBE.out.size)⟩
  · have g1 : (300 : Int) < (nv : Int) + (no : Int) := by omega
    have g2 : decide ((300 : Int) < (nv : Int) + (no : Int)) = true := dt g1
    go_enter Try.func3, Try.ntmps3
    go_wp2_with (go_at_call 8; refine (HAW.out _).mono ?_; rintro e w5 ⟨rfl, hb5⟩)
    go_ret
    exact ⟨rfl, hb5⟩
end Go.Proofs.Ytbcjigociliflaa.If

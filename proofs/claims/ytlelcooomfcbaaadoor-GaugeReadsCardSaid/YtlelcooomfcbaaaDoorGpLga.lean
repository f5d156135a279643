/-
  The law GaugeLast.
-/
import Derived.Test.YtlelcooomfcbaaaDoorGpLst
import Derived.Test.YtlelcooomfcbaaaDoorGpRow
import Derived.Test.YtlelcooomfcbaaaDoorGpAwk
import Derived.Test.YtlelcooomfcbaaaDoorGgRead
namespace Go.Proofs.YtlelcooomfcbaaaDoor.Gg
open Go.ChangeShapes Go.WideShapes Go.ChangeAt Go.RowKit
open Go.Proofs.YtlelcooomfcbaaaDoor.Ca (mod_any md md_lo md_hi inB inB_yes)
set_option linter.unusedVariables false

theorem vr_mk {R : Nat → Nat → Int} {j : Nat} (h : MkR R j) (hj : j ≤ 100) : alG R j = 0 := h.ok (by omega)
/-- The error is none where all is in range. -/
theorem seE_ok {R : Nat → Nat → Int} {n : Nat} {g f c : Int} (h0 : 0 ≤ g ∧ g ≤ 255) (h1 : 0 ≤ c ∧ c ≤ 4096) (h2 : 0 ≤ f ∧ f + c ≤ 16777216) (h3 : alG R n = 0) : seE R n g f c = 0 := by
  unfold seE
  rw [inB_yes h0, inB_yes h1, inB_yes (show 0 ≤ f ∧ f ≤ 16777216 by omega), inB_yes (show 0 ≤ f + c ∧ f + c ≤ 16777216 by omega), h3]
  rfl
/-- A good call of Series: a list of the call's own of nine readings. -/
theorem ser_ok (p : Option Addr) (n cap : Nat) (R : Nat → Nat → Int) (g f : Int) (w : World) (hp : RdR w p n R) (hn : n ≤ 1000000000) (h0 : 0 ≤ g ∧ g ≤ 255) (h2 : 0 ≤ f ∧ f + 9 ≤ 16777216) (h3 : alG R n = 0) :
    Calls Tryd.prog 28 #[.slice p n cap, .int .i64 g, .int .i64 f, .int .i64 9] w fun e w' => ∃ gx cx, e = .returned (.tuple #[.slice (some ⟨gx, 0, none⟩) 9 cx, .int .i64 0]) ∧ Rs w' gx 0 9 (seR R n g f) ∧ Below w.heap.size w w' := by
  have hE := seE_ok (R := R) (n := n) (g := g) (f := f) (c := 9) h0 (by omega) h2 h3
  refine (pser_any p n cap R g f 9 w hp hn (by omega) (by omega)).mono ?_
  rintro e w' ⟨v, rfl, hg, hb⟩
  rw [hE]
  have hN : seN R n g f 9 = 9 := by unfold seN; rw [hE]; rfl
  rw [hN] at hg
  obtain ⟨gx, cx, rfl, _, hrs, _⟩ := gotR_rs hg (by omega)
  exact ⟨gx, cx, rfl, hrs, hb⟩

set_option maxRecDepth 100000 in
set_option maxHeartbeats 4000000 in
theorem lga_walk (p : Option Addr) (n c : Nat) (z : Nat → Int) (x y : Int) (w : World) (hr : RdI w p n z) (hn : n ≤ 9223372036854775807) (hz : ∀ i, -9223372036854775808 ≤ z i ∧ z i ≤ 9223372036854775807)
    (hx : -9223372036854775808 ≤ x ∧ x ≤ 9223372036854775807) (hy : -9223372036854775808 ≤ y ∧ y ≤ 9223372036854775807) (hw : FlW w) :
    Calls Tryd.prog 8 #[.slice p n c, .int .i64 x, .int .i64 y] w fun e w' => e = .returned (.bool true) ∧ Below w.heap.size w w' := by
  obtain ⟨i0, hi, hz0, hz1, hz2⟩ := info_parts Tryd.infoR
  have HN := Lib.hid (Cu.new_any p n c z w hn hz hr)
  have HM4 := Lib.hid (fun W => mod_any x 4 W hx (by omega) (by omega))
  have HM12 := Lib.hid (fun W => mod_any y 12 W hy (by omega) (by omega))
  have g0 := md_lo x 4 (by omega)
  have g1 := md_hi x 4 (by omega)
  have t0 := md_lo y 12 (by omega)
  have t1 := md_hi y 12 (by omega)
  generalize md x 4 = g at *
  generalize md y 12 = t at *
  have HW := Lib.hid hw
  clear hr hn hz hx hy hw
  go_enter Tryd.func8, Tryd.ntmps8
  go_wp2_with (first
    | (go_at_call 10; refine HN.out.mono ?_; rintro e w1 ⟨rfl, hd1, hb1⟩; have HD1 := Lib.hid hd1; have HB1 := Lib.hid hb1; clear hd1 hb1 HN)
    | (go_at_call 11; refine (readings_any _ p n c z 14 _ HD1.out (by omega)).mono ?_; rintro e w2 ⟨v, j, R, rfl, hj, hmk, hgi⟩; obtain ⟨p1, cap1, rfl, hrd⟩ := gotR_rd hgi.got; have HRD := Lib.hid hrd; have HMK := Lib.hid (vr_mk hmk (by omega)); have HGT := Lib.hid hgi.got; have HB2 : Hid (Below w.heap.size w w2) := HB1.out.grown hgi.gr HB1.out.size (fun k hk => by cases hk; exact Nat.le_refl _); clear hrd hmk hgi HD1 HB1)
    | (go_at_call_has 22 (Value.int .i64 4); refine (HM4.out _).mono ?_; rintro e w' ⟨rfl, rfl⟩)
    | (go_at_call_has 22 (Value.int .i64 12); refine (HM12.out _).mono ?_; rintro e w' ⟨rfl, rfl⟩)
    | (go_at_call 28; refine (ser_ok p1 j cap1 R g t _ HRD.out (by omega) (by omega) (by omega) HMK.out).mono ?_; rintro e w3 ⟨gx, cx, rfl, hrx, hb3⟩; have HX3 := Lib.hid hrx; have HR3 := Lib.hid (HRD.out.below hb3 (Nat.le_refl _)); have HG3 := Lib.hid (gotR_kept HGT.out hb3); have HB3 := Lib.hid (HB2.out.trans (hb3.mono HB2.out.size)); have hs3 := HB3.out.size; clear hrx hb3 HRD HB2 HGT))
  go_loopw [13, 42] (fun sv i wr => ∃ (k : Nat) (V : Value), V = sv ∧ k ≤ j ∧ i = .int .i64 k ∧ Hid (GotR wr w3.heap.size sv (fiC R g k) (fiF R g k)) ∧ Hid (Below w3.heap.size w3 wr)) (fun _ i _ => j - (intOf i).toNat)
  case atStart => exact ⟨0, _, rfl, Nat.zero_le _, rfl, gotR_nil _ _ _, Below.refl _ _⟩
  case round =>
    obtain ⟨k, sv, rfl, hk, rfl, hgot, hb⟩ := hrel
    have hj2 : (j : Int) ≤ 14 := by omega
    by_cases hkn : k < j
    · have hki : (k : Int) < (j : Int) := by omega
      obtain ⟨b, off, rfl, hrs⟩ := HR3.out (by omega)
      obtain ⟨c0, c1, c2, c3⟩ := (hrs.up hb.out (Nat.le_refl _)).cells k hkn
      have HFC : Hid (fiC R g (k + 1) = if R k 0 = g then fiC R g k + 1 else fiC R g k) := rfl
      have HFF : Hid (fiF R g (k + 1) = if R k 0 = g then updR (fiF R g k) (fiC R g k) (R k) else fiF R g k) := rfl
      have HRK := Lib.hid (mkR_of (R k))
      have hfl := fiC_le R g k
      have hbs := hb.out.size
      clear hrs
      generalize fiC R g k = ck at *
      by_cases hg : R k 0 = g
      · have e1 : Hid (fiC R g (k + 1) = ck + 1) := by show _ = _; rw [HFC.out, if_pos hg]
        have e2 : Hid (fiF R g (k + 1) = updR (fiF R g k) ck (R k)) := by show _ = _; rw [HFF.out, if_pos hg]
        have e3 : (R k 0 == g) = true := by rw [beq_iff_eq]; exact hg
        clear hg HFC HFF
        generalize R k 0 = r0 at *
        generalize R k 1 = r1 at *
        generalize R k 2 = r2 at *
        generalize R k 3 = r3 at *
        go_wp2_with (at_builtin; have HA := Lib.hid (World.ownsRow.alloc (World.ownsRow.alloc hgot.out (.cells #[.int .i64 r0, .int .i64 r1, .int .i64 r2, .int .i64 r3] 23)) (.cells #[.int .i64 r0, .int .i64 r1, .int .i64 r2, .int .i64 r3] 23)); refine wpList_append_own _ rfl _ _ 29 rfl w3.heap.size 23 i0 (.agg #[.int .i64 0, .int .i64 0, .int .i64 0, .int .i64 0]) 4 32 Tryd.underlying29 hi hz0 hz1 hz2 rfl (by decide) sv ck _ rfl HA.out ⟨wr.heap.size + 1, 0, none⟩ 1 1 [.int .i64 r0, .int .i64 r1, .int .i64 r2, .int .i64 r3] rfl rfl (cell_fourN _ _ (by simp) _ _ _ _ _) (by intro u hu; simp at hu; rcases hu with rfl | rfl | rfl | rfl <;> rfl) (by unfold maxLen; omega) (by omega) (by simp; omega) ?_; intro v' w9 hown' hgrow hnil; have H9 := Lib.hid (gotR_next hown'); have hb9 := Lib.hid (below_own ((hb.out.alloc hbs _).alloc (by simp; omega) _) (Nat.le_refl _) hgrow (fun j hj => gotR_block hgot.out j hj)); clear hown' hgrow hnil HA)
        go_roundw
        case rel => exact ⟨k + 1, _, rfl, by omega, by go_num, by rw [e1.out, e2.out]; exact gotR_congr H9.out (fun i hi j hj => by
          by_cases e : i = ck
          · subst e; rw [updR_same, updR_same]; exact (HRK.out j hj).symm
          · rw [updR_other _ _ e, updR_other _ _ e]), hb9⟩
        case measure => simp [intOf]; omega
      · have e1 : Hid (fiC R g (k + 1) = ck) := by show _ = _; rw [HFC.out, if_neg hg]
        have e2 : Hid (fiF R g (k + 1) = fiF R g k) := by show _ = _; rw [HFF.out, if_neg hg]
        have e3 : (R k 0 == g) = false := by rw [beq_eq_false_iff_ne]; exact hg
        clear hg HFC HFF
        generalize R k 0 = r0 at *
        generalize R k 1 = r1 at *
        generalize R k 2 = r2 at *
        generalize R k 3 = r3 at *
        go_wp2
        go_roundw
        case rel => exact ⟨k + 1, sv, rfl, by omega, by go_num, by rw [e1.out, e2.out]; exact World.ownsRow.alloc hgot.out _, hb.out.alloc hbs _⟩
        case measure => simp [intOf]; omega
    · obtain rfl : k = j := by omega
      have hfl := fiC_le R g k
      have HOK := Lib.hid (fi_ok R g k HMK.out)
      have HVF := Lib.hid (fun u => va_fi R g u k)
      have HFG := Lib.hid (fi_gauge R g k)
      obtain ⟨ps, cs, rfl, hrd⟩ := gotR_rd hgot.out
      have HRS := Lib.hid hrd
      have HXr := Lib.hid (HX3.out.up hb.out (Nat.le_refl _))
      have HGr := Lib.hid (gotR_kept HG3.out hb.out)
      have HBr := Lib.hid (HB3.out.trans (hb.out.mono hs3))
      clear hrd hgot hb HX3 HG3 HB3 HR3
      generalize fiC R g k = ck at *
      generalize fiF R g k = S at *
      go_wp2_with (first
        | (go_at_call 28; first
          | (refine (ser_ok ps ck cs S g t _ HRS.out (by omega) (by omega) (by omega) HOK.out).mono ?_; rintro e w5 ⟨gy, cy, rfl, hry, hb5⟩; have HY5 := Lib.hid hry; have HX5 := Lib.hid (HXr.out.up hb5 (Nat.le_refl _)); have HS5 := Lib.hid (HRS.out.below hb5 (Nat.le_refl _)); have HG5 := Lib.hid (gotR_kept HGr.out hb5); have HB5 := Lib.hid (HBr.out.trans (hb5.mono HBr.out.size)); have hs5 := HB5.out.size; clear hry hb5 HRS HXr HGr HBr)
          | (refine (ser_ok pz (k + 1) cz (updR R k (mkR g (t + 3) 7 0)) g t _ HRZ.out (by omega) (by omega) (by omega) HOZ.out).mono ?_; rintro e w8 ⟨gz, cz2, rfl, hrz, hb8⟩; have HZ8 := Lib.hid hrz; have HX8 := Lib.hid (HX5.out.up (HB7.out.trans (hb8.mono HB7.out.size)) (Nat.le_refl _)); have HY8 := Lib.hid (HY5.out.up (HB7.out.trans (hb8.mono HB7.out.size)) (Nat.le_refl _)); have HS8 := Lib.hid (HS5.out.below (HB7.out.trans (hb8.mono HB7.out.size)) (Nat.le_refl _)); have HB8 := Lib.hid (HB5.out.trans ((HB7.out.trans (hb8.mono HB7.out.size)).mono hs5)); have hs8 := HB8.out.size; clear hrz hb8 HX5 HY5 HS5 HB5 HB7 HRZ))
        | (at_builtin; first
          | (refine wp_app_nil rfl _ _ rfl rfl (.slice p1 k cap1) rfl _ k R HG5.out w5.heap.size (Nat.le_refl _) (by omega) ?_; intro zv w6 hgz hgr; have HZ6 := Lib.hid hgz; have HB6 : Hid (Below w5.heap.size w5 w6) := (Below.refl _ _).grown hgr (Nat.le_refl _) (fun _ h => by cases h); have hs6 := HB6.out.size; clear hgz hgr HG5)
          | (have HA := Lib.hid (World.ownsRow.alloc HZ6.out (.cells #[.int .i64 g, .int .i64 (t + 3), .int .i64 7, .int .i64 0] 23)); refine wpList_append_own _ rfl _ _ 29 rfl w5.heap.size 23 i0 (.agg #[.int .i64 0, .int .i64 0, .int .i64 0, .int .i64 0]) 4 32 Tryd.underlying29 hi hz0 hz1 hz2 rfl (by decide) zv k _ rfl HA.out ⟨w6.heap.size, 0, none⟩ 1 1 [.int .i64 g, .int .i64 (t + 3), .int .i64 7, .int .i64 0] rfl rfl (cell_fourN _ _ (by simp) _ _ _ _ _) (by intro u hu; simp at hu; rcases hu with rfl | rfl | rfl | rfl <;> rfl) (by unfold maxLen; omega) (by omega) (by simp; omega) ?_; intro zv2 w7 hown' hgrow hnil; have H7 := Lib.hid (gotR_next hown'); have HB7 := Lib.hid (below_own (HB6.out.alloc hs6 _) (Nat.le_refl _) hgrow (fun j hj => gotR_block HZ6.out j hj)); obtain ⟨pz, cz, rfl, hrz⟩ := gotR_rd H7.out; have HRZ := Lib.hid hrz; have HOZ := Lib.hid (app_ok R k (mkR g (t + 3) 7 0) HMK.out (by unfold Vr mkR; simp; omega)); clear hown' hgrow hnil HA hrz H7)))
      have HXY : Hid (smB (seR R k g t) (seR S ck g t) 9 9 = true) := by
        show smB (seR R k g t) (seR S ck g t) 9 9 = true
        unfold smB
        rw [decide_eq_true_eq]
        refine ⟨rfl, fun i _ j _ => ?_⟩
        show serG R k g (t + i) j = serG S ck g (t + i) j
        rw [serG_va, serG_va, HVF.out]
      have HZX : Hid (∀ i : Nat, i ≠ 3 → seR (updR R k (mkR g (t + 3) 7 0)) (k + 1) g t i = seR R k g t i) := fun i hne => by
        show serG _ _ _ _ = serG _ _ _ _
        rw [serG_va, serG_va, va_app, if_neg (by unfold mkR; simp; omega)]
      have HZ3 : Hid (seR (updR R k (mkR g (t + 3) 7 0)) (k + 1) g t 3 = mkR g (t + 3) 7 0) := by
        show serG _ _ _ _ = _
        rw [serG_va, va_app, if_pos ⟨rfl, rfl⟩]
        rfl
      have HFF : Hid (∀ m : Nat, fnB S (t + m) ck = false → seR R k g t m = mkR g (t + m) 0 2) := fun m hf => by
        show serG _ _ _ _ = _
        rw [serG_va, ← HVF.out, fn_none S g (t + m) ck HFG.out hf]
        rfl
      have HXG : Hid (∀ m : Nat, seR R k g t m 0 = g ∧ seR R k g t m 1 = t + m) := fun m => ser_gt R k g (t + m)
      clear HZ6 HB6 HOZ HVF HFG HOK HMK hs6
      generalize seR (updR R k (mkR g (t + 3) 7 0)) (k + 1) g t = Z at *
      generalize hX : seR R k g t = X at *
      generalize seR S ck g t = Y at *
      clear hX
      go_wp2_with (go_at_call 25; refine (same_any (some ⟨gx, 0, none⟩) (some ⟨gy, 0, none⟩) 9 9 cx cy X Y _ (fun _ => ⟨gx, 0, rfl, HX8.out⟩) (fun _ => ⟨gy, 0, rfl, HY8.out⟩) (by omega)).mono ?_; rintro e w9 ⟨rfl, hb9⟩; rw [HXY.out]; have HX9 := Lib.hid (HX8.out.up hb9 (Nat.le_refl _)); have HZ9 := Lib.hid (HZ8.out.up hb9 (Nat.le_refl _)); have HS9 := Lib.hid (HS8.out.below hb9 (Nat.le_refl _)); have HB9 := Lib.hid (HB8.out.trans (hb9.mono hs8)); have hs9 := HB9.out.size; clear hb9 HX8 HY8 HZ8 HS8 HB8 HXY)
      go_loopw [100] (fun i wr => ∃ m : Nat, m ≤ 9 ∧ i = .int .i64 m ∧ Hid (Below w9.heap.size w9 wr)) (fun i _ => 9 - (intOf i).toNat)
      case atStart => exact ⟨0, by omega, rfl, Below.refl _ _⟩
      case round =>
        obtain ⟨m, hm, rfl, hb⟩ := hrel
        obtain ⟨wa, rfl⟩ : ∃ wa, wa = wr := ⟨_, rfl⟩
        by_cases hm9 : m < 9
        · have hmi : (m : Int) < 9 := by omega
          obtain ⟨c0, c1, c2, c3⟩ := (HX9.out.up hb.out (Nat.le_refl _)).cells m hm9
          obtain ⟨z0, z1, z2, z3⟩ := (HZ9.out.up hb.out (Nat.le_refl _)).cells m hm9
          rw [Nat.zero_add] at c0 c1 c2 c3 z0 z1 z2 z3
          rw [(HXG.out m).1] at c0
          rw [(HXG.out m).2] at c1
          have HZm := Lib.hid (HZX.out m)
          have HFm := Lib.hid (HFF.out m)
          have HXm := Lib.hid (HXG.out m)
          have hbs := hb.out.size
          have hgzl : gz < wa.heap.size := World.block_lt_of_cell? _ _ z0
          have HQ : Hid (m ≠ 3 → Z m 0 = g ∧ Z m 1 = t + m ∧ Z m 2 = X m 2 ∧ Z m 3 = X m 3) := fun hne => by
            rw [HZm.out hne]
            exact ⟨HXm.out.1, HXm.out.2, rfl, rfl⟩
          have HQ2 : Hid (fnB S (t + m) ck = false → X m 2 = 0 ∧ X m 3 = 2) := fun hf => by
            rw [HFm.out hf]
            exact ⟨rfl, rfl⟩
          have hwm : IntKind.i64.wrap (t + m) = t + m := by rw [IntKind.wrap_i64]; omega
          clear HZm HFm HXm
          generalize X m 2 = r2 at *
          generalize X m 3 = r3 at *
          generalize Z m 0 = y0 at *
          generalize Z m 1 = y1 at *
          generalize Z m 2 = y2 at *
          generalize Z m 3 = y3 at *
          go_wp2
          go_loopw [22, 107] (fun f i wq => ∃ (q : Nat) (fb : Bool), q ≤ ck ∧ i = .int .i64 q ∧ f = .bool fb ∧ Hid (fnB S (t + m) q = fb) ∧ Hid (Below (wa.heap.size + 1) (wa.alloc (.cells #[.int .i64 g, .int .i64 (t + m), .int .i64 r2, .int .i64 r3] 23)) wq)) (fun _ i _ => ck - (intOf i).toNat)
          case atStart => exact ⟨0, false, Nat.zero_le _, rfl, rfl, rfl, Below.refl _ _⟩
          case round =>
            obtain ⟨q, fb, hq, rfl, rfl, hfb, hbq⟩ := hrel
            have hck : (ck : Int) ≤ 14 := by omega
            have HWQ : Hid (Below w9.heap.size w9 wr) := (hb.out.alloc hbs _).trans (hbq.out.mono (by omega))
            have hbqs := hbq.out.size
            have hbqs2 : wa.heap.size + 1 ≤ wr.heap.size := by simpa using hbqs
            by_cases hqc : q < ck
            · have hqi : (q : Int) < (ck : Int) := by omega
              obtain ⟨b, off, rfl, hrs⟩ := HS9.out (by omega)
              obtain ⟨s0, s1, s2, s3⟩ := (hrs.up HWQ.out (Nat.le_refl _)).cells q hqc
              have HFN : Hid (fnB S (t + m) (q + 1) = (fb || (S q 1 == t + m))) := by
                show (fnB S (t + m) q || (S q 1 == t + m)) = _
                rw [hfb.out]
              clear hrs
              generalize S q 0 = x0 at *
              generalize S q 1 = x1 at *
              generalize S q 2 = x2 at *
              generalize S q 3 = x3 at *
              cases fb with
              | true =>
                go_wp2
                go_roundw
                case rel => exact ⟨q + 1, true, by omega, by go_num, rfl, by rw [HFN.out]; rfl, hbq.out.alloc hbqs2 _⟩
                case measure => simp [intOf]; omega
              | false =>
                by_cases hx1 : x1 = t + m
                · have e1 : (x1 == t + (m : Int)) = true := by rw [beq_iff_eq]; exact hx1
                  have HT : Hid (fnB S (t + m) (q + 1) = true) := by show _ = _; rw [HFN.out, e1]; rfl
                  clear hx1 HFN
                  go_wp2
                  go_roundw
                  case rel => exact ⟨q + 1, true, by omega, by go_num, rfl, HT, hbq.out.alloc hbqs2 _⟩
                  case measure => simp [intOf]; omega
                · have e1 : (x1 == t + (m : Int)) = false := by rw [beq_eq_false_iff_ne]; exact hx1
                  have HT : Hid (fnB S (t + m) (q + 1) = false) := by show _ = _; rw [HFN.out, e1]; rfl
                  clear hx1 HFN
                  go_wp2
                  go_roundw
                  case rel => exact ⟨q + 1, false, by omega, by go_num, rfl, HT, hbq.out.alloc hbqs2 _⟩
                  case measure => simp [intOf]; omega
            · obtain rfl : q = ck := by omega
              have d0 : wr.cell? ⟨wa.heap.size, 0, none⟩ = some (.int .i64 g) := (hbq.out.cell (p := ⟨wa.heap.size, 0, none⟩) (by show wa.heap.size < _; omega)).trans (by simp)
              have d1 : wr.cell? ⟨wa.heap.size, 1, none⟩ = some (.int .i64 (t + m)) := (hbq.out.cell (p := ⟨wa.heap.size, 1, none⟩) (by show wa.heap.size < _; omega)).trans (by simp)
              have d2 : wr.cell? ⟨wa.heap.size, 2, none⟩ = some (.int .i64 r2) := (hbq.out.cell (p := ⟨wa.heap.size, 2, none⟩) (by show wa.heap.size < _; omega)).trans (by simp)
              have d3 : wr.cell? ⟨wa.heap.size, 3, none⟩ = some (.int .i64 r3) := (hbq.out.cell (p := ⟨wa.heap.size, 3, none⟩) (by show wa.heap.size < _; omega)).trans (by simp)
              have HBW : Hid (Below wa.heap.size wa wr) := ((Below.refl _ _).alloc (Nat.le_refl _) _).trans (hbq.out.mono (by omega))
              have y0' : wr.cell? ⟨gz, m * 4, none⟩ = some (.int .i64 y0) := (HBW.out.cell (p := ⟨gz, m * 4, none⟩) hgzl).trans z0
              have y1' : wr.cell? ⟨gz, m * 4 + 1, none⟩ = some (.int .i64 y1) := (HBW.out.cell (p := ⟨gz, m * 4 + 1, none⟩) hgzl).trans z1
              have y2' : wr.cell? ⟨gz, m * 4 + 2, none⟩ = some (.int .i64 y2) := (HBW.out.cell (p := ⟨gz, m * 4 + 2, none⟩) hgzl).trans z2
              have y3' : wr.cell? ⟨gz, m * 4 + 3, none⟩ = some (.int .i64 y3) := (HBW.out.cell (p := ⟨gz, m * 4 + 3, none⟩) hgzl).trans z3
              have gg : (g != g) = false := by simp
              have tt : (t + (m : Int) != t + m) = false := by simp
              clear z0 z1 z2 z3 c0 c1 c2 c3 hbq HBW
              by_cases h3 : m = 3
              · have e3 : ((m : Int) != 3) = false := by rw [h3]; rfl
                clear h3 HQ y0' y1' y2' y3'
                cases fb with
                | true =>
                  go_wp2
                  go_quiet (fail)
                  go_wp2
                  go_roundw
                  case rel => exact ⟨m + 1, by omega, by go_num, below_drewN HWQ.out _⟩
                  case measure => simp [intOf]; omega
                | false =>
                  obtain ⟨q2, q3⟩ := HQ2.out hfb.out
                  rw [q2] at d2
                  rw [q3] at d3
                  clear q2 q3 HQ2
                  go_wp2
                  go_quiet (fail)
                  go_wp2
                  go_roundw
                  case rel => exact ⟨m + 1, by omega, by go_num, below_drewN HWQ.out _⟩
                  case measure => simp [intOf]; omega
              · have e3 : ((m : Int) != 3) = true := by rw [bne_iff_ne]; omega
                obtain ⟨q0, q1, q2, q3⟩ := HQ.out h3
                rw [q0] at y0'
                rw [q1] at y1'
                rw [q2] at y2'
                rw [q3] at y3'
                clear h3 HQ q0 q1 q2 q3
                cases fb with
                | true =>
                  go_wp2
                  go_quiet (fail)
                  go_wp2
                  go_roundw
                  case rel => exact ⟨m + 1, by omega, by go_num, below_drewN HWQ.out _⟩
                  case measure => simp [intOf]; omega
                | false =>
                  obtain ⟨q2, q3⟩ := HQ2.out hfb.out
                  rw [q2] at d2 y2'
                  rw [q3] at d3 y3'
                  clear q2 q3 HQ2
                  go_wp2
                  go_quiet (fail)
                  go_wp2
                  go_roundw
                  case rel => exact ⟨m + 1, by omega, by go_num, below_drewN HWQ.out _⟩
                  case measure => simp [intOf]; omega
        · obtain rfl : m = 9 := by omega
          obtain ⟨z0, z1, z2, z3⟩ := (HZ9.out.up hb.out (Nat.le_refl _)).cells 3 (by omega)
          rw [HZ3.out] at z0 z1 z2 z3
          have HBW := Lib.hid (HB9.out.trans (hb.out.mono hs9))
          have HAW := Lib.hid (awake_any wa (HW.out.up HBW.out (Nat.le_refl _)))
          have hwm : IntKind.i64.wrap (t + 3) = t + 3 := by rw [IntKind.wrap_i64]; omega
          simp only [mkR, Nat.zero_add, Nat.reduceMul, Nat.reduceAdd, if_true, if_false, Nat.reduceEqDiff] at z0 z1 z2 z3
          go_wp2_with (go_at_call 9; refine HAW.out.mono ?_; rintro e w10 ⟨rfl, hb10⟩)
          go_ret
          exact ⟨rfl, HBW.out.trans (hb10.mono HBW.out.size)⟩
end Go.Proofs.YtlelcooomfcbaaaDoor.Gg

/-
  The walk of the law RulecurveHeights.
-/
import Derived.Test.YtdblppbjlgmccaaRuLsu
namespace Go.Proofs.Ytdblppbjlgmccaa.Ru
open Go.ChangeShapes Go.WideShapes Go.ChangeAt Go.RowKit
open Go.Proofs.Ytdblppbjlgmccaa.Cu
open Go.Proofs.Ytdblppbjlgmccaa.Ca (dayB)
set_option linter.unusedVariables false

theorem below_own {B : Nat} {a w w' : World} {v : Value} (h : Below B a w) (hB : B ≤ a.heap.size) (hg : w.grownBy w' v.ownBlock) (hv : ∀ k, v.ownBlock = some k → B ≤ k) : Below B a w' :=
  h.grown hg (Nat.le_trans hB h.size) hv

/-- Two numbers of the same sign. -/
theorem prod_bd {a b : Int} (h1 : -16777216 ≤ a ∧ a ≤ 16777216) (h2 : -16777216 ≤ b ∧ b ≤ 16777216) : -281474976710656 ≤ a * b ∧ a * b ≤ 281474976710656 := by
  by_cases hb : 0 ≤ b
  · have := mulab (a := a) (b := b) (A := 16777216) (B := 16777216) h1.1 h1.2 hb h2.2
    omega
  · have := mulab (a := a) (b := -b) (A := 16777216) (B := 16777216) h1.1 h1.2 (by omega) (by omega)
    rw [Int.mul_neg] at this
    omega

set_option maxRecDepth 100000 in
set_option maxHeartbeats 16000000 in
theorem lhe_walk (p : Option Addr) (n c : Nat) (z : Nat → Int) (x y : Int) (w : World) (hr : RdI w p n z) (hn : n ≤ 9223372036854775807) (hz : ∀ i, -9223372036854775808 ≤ z i ∧ z i ≤ 9223372036854775807)
    (hx : -9223372036854775808 ≤ x ∧ x ≤ 9223372036854775807) (hy : -9223372036854775808 ≤ y ∧ y ≤ 9223372036854775807) :
    Calls Try.prog 7 #[.slice p n c, .int .i64 x, .int .i64 y] w fun e w' => e = .returned (.bool true) ∧ Below w.heap.size w w' := by
  obtain ⟨i0, hi, hz0, hz1, hz2⟩ := info_parts Try.infoP
  have HN := Lib.hid (new_any p n c z w hn hz hr)
  have HM1 := Lib.hid (fun W => mod_any x 200 W hx (by omega) (by omega))
  have HM2 := Lib.hid (fun W => mod_any y 365 W hy (by omega) (by omega))
  have v1 := md_lo x 200 (by omega)
  have v2 := md_hi x 200 (by omega)
  have n1 := md_lo y 365 (by omega)
  have n2 := md_hi y 365 (by omega)
  clear hr hz hn hx hy
  generalize md x 200 = u at *
  generalize md y 365 = s at *
  go_enter Try.func7, Try.ntmps7
  go_upto_region 3 with (first
    | (go_at_call 9; refine HN.out.mono ?_; rintro e w1 ⟨rfl, hd1, hb1⟩; have HB1 := Lib.hid hb1; clear HN hb1)
    | (go_at_call 11; refine (made_any w.heap.size p n c z _ hd1).mono ?_; rintro e w3 ⟨g2, q2, c2, X, Y, rfl, hp3, hqc, hg2w, q1, q6, hd3, hg3⟩; have HP3 := Lib.hid hp3; have HW3 : Hid (Below w.heap.size w w3) := (HB1.out.grown hg3 HB1.out.size (by intro k hk; cases hk; exact Nat.le_refl _)); clear hp3 hg3 hd3 HB1 hd1))
  have hb3 : Hid (Below w3.heap.size w3 w3) := Below.refl _ _
  have HFin : Hid (∀ W, Hid (Below w3.heap.size w3 W) → Below w.heap.size w W) := fun W h => HW3.out.trans (h.out.mono HW3.out.size)
  have HCK := Lib.hid (rck_later HP3.out c2)
  by_cases hck : ckR X Y q2 = 0
  · have HR := Lib.hid ((rc_iff X Y q2).1 hck)
    rw [hck] at HCK
    clear hck HW3
    go_wp2_with (first
      | (go_at_call 13; refine (HCK.out _ (by assumption)).mono ?_; rintro e w6 ⟨rfl, hb6⟩)
      | (go_at_call_has 16 (Value.int .i64 200); refine (HM1.out _).mono ?_; rintro e w' ⟨rfl, rfl⟩))
    clear HCK HM1 hb3
    go_loopw [10, 36] (fun v i wr => ∃ (k : Nat) (V : Value), V = v ∧ k ≤ q2 ∧ i = .int .i64 k ∧ Hid (GotP wr w3.heap.size v k X (fun i => Y i + u)) ∧ Hid (∀ i, i < k → Y i + u ≤ 16777216) ∧ Hid (Below w3.heap.size w3 wr)) (fun _ i _ => q2 - (intOf i).toNat)
    case atStart => exact ⟨0, _, rfl, Nat.zero_le _, rfl, gotP_nil _ _ _ _, fun i hi => absurd hi (Nat.not_lt_zero _), hb6⟩
    case round =>
      obtain ⟨k, v, rfl, hk, rfl, hgot, hle, hb⟩ := hrel
      clear hb6
      by_cases hkn : k < q2
      · have HPr := Lib.hid (HP3.out.up hb.out (Nat.le_refl _))
        obtain ⟨c1, c2'⟩ := HPr.out.2 k hkn
        rw [Nat.zero_add] at c1 c2'
        have hbl := HPr.out.1
        have y0 := HR.out.ylo k hkn
        have y1 := HR.out.yhi k hkn
        have hws := hb.out.size
        have hki : (k : Int) ≤ 6 := by omega
        have HB2 : Hid (∀ o, Hid (Below w3.heap.size w3 (wr.alloc o))) := fun o => hb.out.alloc hws o
        by_cases hbig : 16777216 < Y k + u
        · generalize X k = xk at *
          generalize Y k = yk at *
          have dd : decide (16777216 < yk + u) = true := by rw [decide_eq_true_eq]; exact hbig
          clear HPr
          go_wp2_with (go_at_call 8; refine (awk5_later _ (HB2.out _)).mono ?_; rintro e w7 ⟨rfl, hb7⟩)
          go_ret
          exact ⟨rfl, HFin.out _ hb7⟩
        · have HLE : Hid (∀ i, i < k + 1 → Y i + u ≤ 16777216) := fun i hi => by
            by_cases e : i = k
            · subst e; omega
            · exact hle.out i (by omega)
          have HGX : Hid (∀ W v', W.ownsRow w3.heap.size 45 2 v' (k + 1) (ptL X (fun i => Y i + u) k ++ [.int .i64 (X k), .int .i64 (Y k + u)]) → GotP W w3.heap.size v' (k + 1) X (fun i => Y i + u)) := fun W v' h =>
            gotP_congr (gotP_next h) (fun i hi => by
              by_cases e : i = k
              · subst e; rw [updF_same, updF_same]; exact ⟨rfl, rfl⟩
              · rw [updF_other _ _ e, updF_other _ _ e]; exact ⟨rfl, rfl⟩)
          generalize X k = xk at *
          generalize Y k = yk at *
          have dd : decide (16777216 < yk + u) = false := by rw [decide_eq_false_iff_not]; exact hbig
          clear HPr
          go_wp2_with (at_builtin; refine wpList_append_own _ rfl _ _ 22 rfl w3.heap.size 45 i0 (.agg #[.int .i64 0, .int .i64 0]) 2 16 Try.underlying22 hi hz0 hz1 hz2 rfl (by decide) _ k _ rfl ((World.ownsRow.alloc hgot.out _).alloc _) ⟨wr.heap.size + 1, 0, none⟩ 1 1 [.int .i64 xk, .int .i64 (yk + u)] rfl rfl (by have := cell_two (wr.alloc (.cells #[.int .i64 xk, .int .i64 yk] 45)) (.int .i64 xk) (.int .i64 (yk + u)) 45; simpa using this) (by intro u hu; simp at hu; rcases hu with rfl | rfl <;> rfl) (by unfold maxLen; omega) (by omega) (by simp; omega) ?_; intro v' w7 hown' hgrow hnil)
          have HG7 := Lib.hid (HGX.out _ _ hown')
          have HB7 : Hid (Below w3.heap.size w3 w7) := below_own (((hb.out.alloc hws _).alloc (by simp; omega) _)) (Nat.le_refl _) hgrow (fun k hk => gotP_block hgot.out k hk)
          clear hown' hgrow hnil HGX HB2 hgot hb
          go_wp2_with fail
          go_roundw
          case rel => exact ⟨k + 1, _, rfl, by omega, by go_num, HG7, HLE, HB7⟩
          case measure => simp [intOf]; omega
      · obtain rfl : q2 = k := by omega
        have hpos := HR.out.pos
        have hlen := HR.out.len
        obtain ⟨gh, ch, rfl, _, hph, hch, _⟩ := gotP_pts hgot.out (by omega)
        have HPr := Lib.hid (HP3.out.up hb.out (Nat.le_refl _))
        have HRh := Lib.hid (HR.out.raised u v1 hle.out)
        have HA := Lib.hid (at_later HPr.out c2 hqc HR.out s n1 (by omega))
        have HB := Lib.hid (at_later hph ch hch HRh.out s n1 (by omega))
        have e1 := rl_raised HR.out u v1 hle.out s n1 (by omega)
        have l0 := rl_ge HR.out 0 HR.out.ylo s n1 (by omega)
        have l1 := rl_le HR.out 16777216 HR.out.yhi s n1 (by omega)
        rw [e1] at HB
        have hb0 : Hid (Below wr.heap.size wr wr) := Below.refl _ _
        have HF2 : Hid (∀ W, Hid (Below wr.heap.size wr W) → Below w.heap.size w W) := fun W h => HFin.out W (hb.out.trans (h.out.mono hb.out.size))
        clear e1 hph hgot hle hb HRh HP3 HFin
        generalize rl X Y q2 s = lv at *
        go_wp2_with (first
          | (go_at_call 16; refine (HM2.out _).mono ?_; rintro e w' ⟨rfl, rfl⟩)
          | (go_at_call_has 18 (Value.slice (some ⟨g2, 0, none⟩) q2 c2); refine (HA.out _ hb0).mono ?_; rintro e w7 ⟨rfl, hb7⟩; clear HA)
          | (go_at_call_has 18 (Value.slice (some ⟨gh, 0, none⟩) q2 ch); refine (HB.out _ hb7).mono ?_; rintro e w8 ⟨rfl, hb8⟩; clear HB))
        clear hb7 HM2 hb0
        obtain ⟨w9, rfl⟩ : ∃ w9, w9 = wr := ⟨_, rfl⟩
        go_loopw [18] (fun i W2 => ∃ k : Nat, 1 ≤ k ∧ k ≤ q2 ∧ i = .int .i64 k ∧ Hid (Below w9.heap.size w9 W2)) (fun i _ => q2 - (intOf i).toNat)
        case atStart => exact ⟨1, Nat.le_refl _, hpos, rfl, hb8⟩
        case round =>
          obtain ⟨k, hk1, hk2, rfl, hb9⟩ := hrel
          clear hb8
          by_cases hkn : k < q2
          · obtain ⟨j, hj⟩ : ∃ j, k = j + 1 := ⟨k - 1, by omega⟩
            have HPw := Lib.hid (HPr.out.up hb9.out (Nat.le_refl _))
            obtain ⟨c1, _⟩ := HPw.out.2 j (by omega)
            rw [Nat.zero_add] at c1
            have j1 : (j : Int) < (q2 : Int) := by omega
            have j2 : (k : Int) < (q2 : Int) := by omega
            have hwj : (k : Int) - 1 = (j : Int) := by omega
            have hkn' : j + 1 < q2 := by omega
            have xlo := HR.out.xlo j (by omega)
            have xhi := HR.out.xhi k hkn
            have xup : X j < X k := by rw [hj]; exact HR.out.asc j hkn'
            have y0 := HR.out.ylo j (by omega)
            have y1 := HR.out.yhi j (by omega)
            have y2 := HR.out.ylo k hkn
            have y3 := HR.out.yhi k hkn
            have HCE : Hid (∀ W, Hid (Below w9.heap.size w9 W) → W.cell? ⟨g2, k * 2, none⟩ = some (.int .i64 (X k)) ∧ W.cell? ⟨g2, k * 2 + 1, none⟩ = some (.int .i64 (Y k)) ∧ W.cell? ⟨g2, j * 2 + 1, none⟩ = some (.int .i64 (Y j))) := fun W hW => by
              have hq := HPr.out.up hW.out (Nat.le_refl _)
              have q1 := hq.2 k hkn
              have q2 := hq.2 j (by omega)
              rw [Nat.zero_add] at q1 q2
              exact ⟨q1.1, q1.2, q2.2⟩
            have HAT : Hid (∀ t W, Hid (Below w9.heap.size w9 W) → X j ≤ t → t ≤ X k → Calls Try.prog 18 #[.slice (some ⟨g2, 0, none⟩) q2 c2, .int .i64 t] W fun e w' => e = .returned (.tuple #[.int .i64 (rl X Y q2 t), .int .i64 0]) ∧ Hid (Below w9.heap.size w9 w')) :=
              fun t W hW h1 h2 => at_later HPr.out c2 hqc HR.out t (by omega) (by omega) W hW
            have HDIR : Hid (∀ t, X j ≤ t → t < X k → 0 ≤ (Y k - Y j) * (rl X Y q2 (t + 1) - rl X Y q2 t)) := fun t h1 h2 => by
              have := rl_dir HR.out j hkn' t h1 (by rw [← hj]; exact h2)
              rwa [← hj] at this
            have HLO : Hid (∀ t, X j ≤ t → t ≤ X k → 0 ≤ rl X Y q2 t ∧ rl X Y q2 t ≤ 16777216) := fun t h1 h2 => ⟨rl_ge HR.out 0 HR.out.ylo t (by omega) (by omega), rl_le HR.out 16777216 HR.out.yhi t (by omega) (by omega)⟩
            clear HPw hj hkn'
            generalize X j = xa at *
            generalize X k = xb at *
            generalize Y j = ya at *
            generalize Y k = yb at *
            obtain ⟨wo, rfl⟩ : ∃ wo, wo = wr := ⟨_, rfl⟩
            go_wp2_with fail
            clear c1
            go_loopw [19] (fun t W3 => ∃ tv : Int, t = .int .i64 tv ∧ xa ≤ tv ∧ tv ≤ xb ∧ Hid (Below w9.heap.size w9 W3)) (fun t _ => (xb - intOf t).toNat)
            case atStart => exact ⟨xa, rfl, Int.le_refl _, by omega, hb9⟩
            case round =>
              obtain ⟨tv, rfl, t1, t2, hb10⟩ := hrel
              obtain ⟨c1, c2', c3⟩ := HCE.out _ hb10
              clear hb9
              by_cases htx : tv < xb
              · have hdir := HDIR.out tv t1 htx
                obtain ⟨p1, p2⟩ := HLO.out tv t1 t2
                obtain ⟨p3, p4⟩ := HLO.out (tv + 1) (by omega) (by omega)
                have HA1 := Lib.hid (fun W hW => HAT.out tv W hW t1 t2)
                have HA2 := Lib.hid (fun W hW => HAT.out (tv + 1) W hW (by omega) (by omega))
                generalize rl X Y q2 tv = la at *
                generalize rl X Y q2 (tv + 1) = lb at *
                have mb := prod_bd (a := yb - ya) (b := lb - la) (by omega) (by omega)
                obtain ⟨mb1, mb2⟩ := mb
                have ww1 : IntKind.i64.wrap (yb - ya) = yb - ya := by rw [IntKind.wrap_i64]; omega
                have ww2 : IntKind.i64.wrap (lb - la) = lb - la := by rw [IntKind.wrap_i64]; omega
                have ww3 : IntKind.i64.wrap ((yb - ya) * (lb - la)) = (yb - ya) * (lb - la) := by rw [IntKind.wrap_i64]; omega
                generalize hpr : (yb - ya) * (lb - la) = pr at *
                have dd : decide (pr < 0) = false := by rw [decide_eq_false_iff_not]; omega
                go_wp2_with (first
                  | (go_at_call_has 18 (Value.int .i64 tv); refine (HA1.out _ hb10).mono ?_; rintro e w11 ⟨rfl, hb11⟩; clear HA1)
                  | (go_at_call_has 18 (Value.int .i64 (tv + 1)); refine (HA2.out _ hb11).mono ?_; rintro e w12 ⟨rfl, hb12⟩; clear HA2 c1 c2' c3; obtain ⟨c1, c2', c3⟩ := HCE.out _ hb12))
                go_quiet (fail)
                go_wp2_with fail
                go_roundw
                case rel => exact ⟨tv + 1, by go_num, by omega, by omega, below_drewN hb12.out _⟩
                case measure => simp [intOf]; omega
              · go_wp2_with fail
                go_roundw
                case rel => exact ⟨k + 1, by omega, by omega, by go_num, hb10⟩
                case measure => simp [intOf]; omega
          · obtain rfl : q2 = k := by omega
            go_wp2_with (go_at_call 8; refine (awk5_later _ hb9).mono ?_; rintro e w10 ⟨rfl, hb10⟩)
            go_ret
            exact ⟨rfl, HF2.out _ hb10⟩
  · have hcn : (ckR X Y q2 != 0) = true := by simpa using hck
    generalize ckR X Y q2 = cd at *
    clear hck
    go_wp2_with (first
      | (go_at_call 13; refine (HCK.out _ (by assumption)).mono ?_; rintro e w6 ⟨rfl, hb6⟩)
      | (go_at_call 8; refine (awk5_later _ (by assumption)).mono ?_; rintro e w6 ⟨rfl, hb5⟩))
    go_ret
    exact ⟨rfl, HFin.out _ hb5⟩
end Go.Proofs.Ytdblppbjlgmccaa.Ru

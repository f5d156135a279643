/-
  The walk of the law RatingAdds.
-/
import Derived.Test.YtdcjgeebkinjlaaRaDbl
import Derived.Deep.DeepCutAuto
namespace Go.Proofs.Ytdcjgeebkinjlaa.Ra
open Go.ChangeShapes Go.WideShapes Go.ChangeAt Go.RowKit
open Go.Proofs.Ytdcjgeebkinjlaa.Cu hiding inB inB_yes inB_no exX exY exC exP
open Go.Proofs.Ytdcjgeebkinjlaa.Gg (ckG ckG_zero pck_any Ek Vr setG)
set_option linter.unusedVariables false

/-- What the law looks at behind the loop, by names. -/
structure AdC (w9 : World) (b k cap g capm : Nat) (ice v t p q lx ly : Int) : Prop where
  F0 : ∀ W, Hid (Below w9.heap.size w9 W) → Calls Try.prog 10 #[.agg #[.slice (some ⟨b, 0, none⟩) k cap, .int .i64 ice], .agg #[.int .i64 0, .int .i64 0, .int .i64 v, .int .i64 0]] W fun e w' => e = .returned (.tuple #[.int .i64 p, .bool true, .int .i64 0]) ∧ Below W.heap.size W w'
  F1 : ∀ W, Hid (Below w9.heap.size w9 W) → Calls Try.prog 10 #[.agg #[.slice (some ⟨g, 0, none⟩) k capm, .int .i64 ice], .agg #[.int .i64 0, .int .i64 0, .int .i64 v, .int .i64 0]] W fun e w' => e = .returned (.tuple #[.int .i64 q, .bool true, .int .i64 0]) ∧ Below W.heap.size W w'
  F2 : ∀ W, Hid (Below w9.heap.size w9 W) → Calls Try.prog 10 #[.agg #[.slice (some ⟨b, 0, none⟩) k cap, .int .i64 ice], .agg #[.int .i64 0, .int .i64 0, .int .i64 (lx + t), .int .i64 0]] W fun e w' => e = .returned (.tuple #[.int .i64 ly, .bool true, .int .i64 0]) ∧ Below W.heap.size W w'
  cells : ∀ (m : Nat), k = m + 1 → ∀ W, Hid (Below w9.heap.size w9 W) → W.cell? ⟨b, m * 2, none⟩ = some (.int .i64 lx) ∧ W.cell? ⟨b, m * 2 + 1, none⟩ = some (.int .i64 ly)
theorem ad_pack {w9 : World} {b k m cap g capm : Nat} {X Y : Nat → Int} {ice v t : Int} (hk : k = m + 1) (hp : Pts w9 b 0 k X Y) (hp2 : Pts w9 g 0 k X (dbl Y)) (hr : Ra X Y m ice) (hv : 0 ≤ v ∧ v < 300) (ht : 0 ≤ t ∧ t < 1000) :
    ∃ p q lx ly, Hid (AdC w9 b k cap g capm ice v t p q lx ly) ∧ 2 * p ≤ q ∧ q ≤ 2 * p + 1 ∧ (0 ≤ p ∧ p ≤ 4009) ∧ (0 ≤ lx ∧ lx ≤ 4019) := by
  have h0 := hr.ice0
  have h1 := hr.ice1
  have x0 := hr.cur.xlo m (Nat.le_refl _)
  have x1 := hr.xm
  have y1 := hr.ym
  have y0 := hr.y0
  have ho := cv_ok b 0 k m cap X Y hk hr.cur
  have hvb := val_bd X Y m hr.cur.asc v
  have hd := val_dbl X Y m hr.cur.asc v
  refine ⟨val X Y m v, val X (dbl Y) m v, X m, Y m, ⟨fun W hb => ?_, fun W hb => ?_, fun W hb => ?_, fun m' hm W hb => ?_⟩, hd.1, hd.2, by omega, by omega⟩
  · exact flow_ok b 0 k cap m X Y ice 0 0 v 0 W ho (hp.up hb.out (Nat.le_refl _)) (by omega) (ck0 v 0 (by omega) (by omega))
  · exact flow_ok g 0 k capm m X (dbl Y) ice 0 0 v 0 W (cv_ok g 0 k m capm X (dbl Y) hk (dbl_cur hr)) (hp2.up hb.out (Nat.le_refl _)) (by omega) (ck0 v 0 (by omega) (by omega))
  · have h := flow_ok b 0 k cap m X Y ice 0 0 (X m + t) 0 W ho (hp.up hb.out (Nat.le_refl _)) (by omega) (ck0 (X m + t) 0 (by omega) (by omega))
    rw [show flV X Y m ice (X m + t) 0 = Y m from val_high X Y m _ (by omega)] at h
    exact h
  · obtain rfl : m' = m := by omega
    have h1 := (hp.up hb.out (Nat.le_refl _)).2 m' (by omega)
    simp only [Nat.zero_add] at h1
    exact h1

/-- What the last but one step holds. -/
abbrev Sq (wr : World) (kr : Nat) (s : Value) (ice : Int) (kl : Nat) (lx ly : Int) (W : World) : Prop := W.cell? ⟨kr, 0, none⟩ = some s ∧ W.cell? ⟨kr, 1, none⟩ = some (.int .i64 ice) ∧ W.cell? ⟨kl, 0, none⟩ = some (.int .i64 lx) ∧ W.cell? ⟨kl, 1, none⟩ = some (.int .i64 ly) ∧ Hid (Below wr.heap.size wr W)
theorem Sq.step {wr : World} {kr : Nat} {s : Value} {ice : Int} {kl : Nat} {lx ly : Int} {W W' : World} (h : Sq wr kr s ice kl lx ly W) (hb : Below W.heap.size W W') : Sq wr kr s ice kl lx ly W' := by
  obtain ⟨h0, h1, h2, h3, h4⟩ := h
  obtain ⟨r0, r1⟩ := C2.next ⟨h0, h1⟩ hb
  obtain ⟨l0, l1⟩ := C2.next ⟨h2, h3⟩ hb
  exact ⟨r0, r1, l0, l1, h4.out.trans (hb.mono h4.out.size)⟩

set_option maxRecDepth 100000 in
set_option maxHeartbeats 4000000 in
theorem lad_walk (p : Option Addr) (n c : Nat) (z : Nat → Int) (x : Int) (w : World) (hr : RdI w p n z) (hn : n ≤ 9223372036854775807) (hz : ∀ i, -9223372036854775808 ≤ z i ∧ z i ≤ 9223372036854775807)
    (h1 : -9223372036854775808 ≤ x ∧ x ≤ 9223372036854775807) :
    Calls Try.prog 6 #[.slice p n c, .int .i64 x] w fun e w' => e = .returned (.bool true) ∧ Below w.heap.size w w' := by
  obtain ⟨i0, hi, hz0, hz1, hz2⟩ := info_parts Try.infoP
  have HN := Lib.hid (new_any p n c z w hn hz hr)
  have HM1 := Lib.hid (fun W => mod_any x 300 W h1 (by omega) (by omega))
  have HM2 := Lib.hid (fun W => mod_any x 1000 W h1 (by omega) (by omega))
  have v1 := md_lo x 300 (by omega)
  have v2 := md_hi x 300 (by omega)
  have t1 := md_lo x 1000 (by omega)
  have t2 := md_hi x 1000 (by omega)
  clear hr hz hn h1
  generalize md x 300 = v at *
  generalize md x 1000 = t at *
  go_enter Try.func6, Try.ntmps6
  go_wp2_with (first
    | (go_at_call 8; refine HN.out.mono ?_; rintro e w1 ⟨rfl, hd1, hb1⟩)
    | (go_at_call 7; refine (rating_any w.heap.size p n c z _ hd1).mono ?_; rintro e w2 ⟨b, cap, k, m, X, Y, ice, rfl, hk, hwb, hpt, hcap, hra, hd2, hg2⟩; have HBL : Hid (Below w.heap.size w w2) := (hb1.grown hg2 hb1.size (by intro k hk; cases hk; exact Nat.le_refl _)); have HK := Lib.hid hk; have hm4 := hra.m4; have hkl : k ≤ 5 := (by omega); have hk0 : 0 < k := (by omega); have hk1 : (k : Int) - 1 = (m : Int) := (by omega); have HPT := Lib.hid hpt; have HRA := Lib.hid hra; have HDA := Lib.hid (Da.new w2 b k cap ice X Y); clear hk hwb hpt hcap hra hd2 hg2 hd1 hb1))
  clear HN
  go_loopw [29] (fun i wr => ∃ (j : Nat) (V : Value), i = .int .i64 j ∧ j ≤ k ∧ Hid (Da w2 b k cap ice X Y j V wr)) (fun i _ => k - (intOf i).toNat)
  case atStart => exact ⟨0, _, rfl, Nat.zero_le _, HDA⟩
  case round =>
    clear HDA
    obtain ⟨j, V, rfl, hjk, hda⟩ := hrel
    obtain ⟨r0, r1⟩ := hda.out.r
    obtain ⟨s0, s1⟩ := hda.out.t
    have sf := hda.out.tf
    have hws : w2.heap.size + 1 < wr.heap.size := World.block_lt_of_cell? _ _ s0
    by_cases hj : j < k
    · obtain ⟨c1, c2⟩ := (HPT.out.up hda.out.bel (Nat.le_refl _)).2 j hj
      rw [Nat.zero_add] at c1 c2
      have y1 : 0 ≤ Y j := HRA.out.cur.ylo j (by have := HK.out; omega)
      have y2 : Y j ≤ 4009 := by
        have h1 := HRA.out.cur.asc.yle m j (by have := HK.out; omega) (Nat.le_refl _)
        have h2 := HRA.out.ym
        omega
      have hjk' : (j : Int) < (k : Int) := by omega
      generalize hxj : X j = xj at *
      generalize hyj : Y j = yj at *
      have HXJ := Lib.hid hxj
      have HYJ := Lib.hid hyj
      clear hxj hyj
      go_wp2_with (at_builtin; refine wpList_append_own _ rfl _ _ 23 rfl (w2.heap.size + 2) 44 i0 (.agg #[.int .i64 0, .int .i64 0]) 2 16 Try.underlying23 hi hz0 hz1 hz2 rfl (by decide) _ j _ rfl ((hda.out.got.alloc _).alloc _) ⟨wr.heap.size + 1, 0, none⟩ 1 1 [.int .i64 xj, .int .i64 (2 * yj)] rfl rfl ?c1 ?c2 ?c3 ?c4 ?c5 ?_)
      case c1 =>
        have h := cell_two (wr.alloc (.cells #[.int .i64 xj, .int .i64 yj] 44)) (.int .i64 xj) (.int .i64 (2 * yj)) 44
        rw [World.size_alloc] at h
        exact h
      case c2 => intro u hu; simp at hu; rcases hu with rfl | rfl <;> rfl
      case c3 => unfold maxLen; omega
      case c4 => omega
      case c5 => simp; omega
      intro v' w3 hown' hgrow hnil
      obtain ⟨s3, sf3, g3, hda3⟩ := hda.out.app HXJ.out HYJ.out hown' hgrow
      obtain ⟨p', cap', rfl, _⟩ := gotP_rd g3
      have HDA3 := Lib.hid hda3
      clear hown' hgrow hnil g3 hda3 hda c1 c2 r0 r1 s0 s1 sf
      go_wp2
      go_roundw
      case rel => exact ⟨j + 1, _, by go_num, by omega, HDA3⟩
      case measure => simp [intOf]; omega
    · obtain rfl : k = j := by omega
      obtain ⟨g, capm, rfl, hg, hpm, _, _⟩ := gotP_pts hda.out.got (by omega)
      obtain ⟨pp, q, lx, ly, HAD, hq1, hq2, ⟨hp0, hp1⟩, ⟨hl0, hl1⟩⟩ := ad_pack (cap := cap) (capm := capm) HK.out (HPT.out.up hda.out.bel (Nat.le_refl _)) hpm HRA.out ⟨v1, v2⟩ ⟨t1, t2⟩
      have HFin : Hid (∀ W, Hid (Below wr.heap.size wr W) → Below w.heap.size w W) := fun W h => (HBL.out.trans (hda.out.bel.mono HBL.out.size)).trans (h.out.mono (Nat.le_trans HBL.out.size hda.out.bel.size))
      have HR0 := Lib.hid (hda.out.r.alloc (.cells #[.int .i64 0, .int .i64 0, .int .i64 v, .int .i64 0] 31))
      have HT0 := Lib.hid (hda.out.t.alloc (.cells #[.int .i64 0, .int .i64 0, .int .i64 v, .int .i64 0] 31))
      have HG0 := Lib.hid (C4.new wr (.int .i64 0) (.int .i64 0) (.int .i64 v) (.int .i64 0) 31)
      have HB0 := Lib.hid ((Below.refl wr.heap.size wr).alloc (Nat.le_refl _) (.cells #[.int .i64 0, .int .i64 0, .int .i64 v, .int .i64 0] 31))
      have d1 : decide (2 * pp ≤ q) = true := by rw [decide_eq_true_eq]; exact hq1
      have d2 : decide (q ≤ 2 * pp + 1) = true := by rw [decide_eq_true_eq]; exact hq2
      have d3 : (ly == ly) = true := by rw [beq_iff_eq]
      have hmk : (m : Int) < (k : Int) := by omega
      have hw : IntKind.i64.wrap (lx + t) = lx + t := by rw [IntKind.wrap_i64]; omega
      clear hda HPT HRA HBL hpm hg r0 r1 s0 s1 sf
      obtain ⟨r0, r1⟩ := HR0.out
      obtain ⟨s0, s1⟩ := HT0.out
      go_upto_region 12 with (first
        | (go_at_call_has 9 (Value.int .i64 300); refine (HM1.out _).mono ?_; rintro e w' ⟨rfl, rfl⟩)
        | (go_at_call 10; first
          | (refine (HAD.out.F0 _ HB0).mono ?_; rintro e w4 ⟨rfl, hb4⟩; have HR4 := Lib.hid (HR0.out.next hb4); have HT4 := Lib.hid (HT0.out.next hb4); have HG4 := Lib.hid (HG0.out.next hb4); obtain ⟨r0, r1⟩ := HR4.out; obtain ⟨s0, s1⟩ := HT4.out; obtain ⟨g0, g1, g2, g3⟩ := HG4.out; have HB4 := Lib.hid (HB0.out.trans (hb4.mono HB0.out.size)); clear HB0 HR0 HT0 HG0 hb4)
          | (refine (HAD.out.F1 _ HB4).mono ?_; rintro e w5 ⟨rfl, hb5⟩; have HR5 := Lib.hid (HR4.out.next hb5); obtain ⟨r0, r1⟩ := HR5.out; have HB5 := Lib.hid (HB4.out.trans (hb5.mono HB4.out.size)); obtain ⟨l0, l1⟩ := HAD.out.cells m HK.out _ HB5; clear HB4 HR4 HT4 HG4 hb5)))
      have hlc := C2.new w5 (.int .i64 lx) (.int .i64 ly) 44
      have hrc := HR5.out.alloc (.cells #[.int .i64 lx, .int .i64 ly] 44)
      have hSq : Sq wr w2.heap.size (.slice (some ⟨b, 0, none⟩) k cap) ice w5.heap.size lx ly (w5.alloc (.cells #[.int .i64 lx, .int .i64 ly] 44)) := ⟨hrc.1, hrc.2, hlc.1, hlc.2, HB5.out.alloc HB5.out.size _⟩
      have HS0 := Lib.hid (hSq.step (W' := (w5.alloc (.cells #[.int .i64 lx, .int .i64 ly] 44)).drew) ⟨rfl, rfl, rfl, Nat.le_refl _, fun _ _ => rfl⟩)
      have HMS : Hid (∀ W, Sq wr w2.heap.size (.slice (some ⟨b, 0, none⟩) k cap) ice w5.heap.size lx ly W → Calls Try.prog 9 #[.int .i64 x, .int .i64 1000] W fun e w' => e = .returned (.int .i64 t) ∧ Sq wr w2.heap.size (.slice (some ⟨b, 0, none⟩) k cap) ice w5.heap.size lx ly w') := fun W h => (HM2.out W).mono fun e w' ⟨he, hw⟩ => ⟨he, hw ▸ h⟩
      have HFS : Hid (∀ W, Sq wr w2.heap.size (.slice (some ⟨b, 0, none⟩) k cap) ice w5.heap.size lx ly W → Calls Try.prog 10 #[.agg #[.slice (some ⟨b, 0, none⟩) k cap, .int .i64 ice], .agg #[.int .i64 0, .int .i64 0, .int .i64 (lx + t), .int .i64 0]] W fun e w' => e = .returned (.tuple #[.int .i64 ly, .bool true, .int .i64 0]) ∧ Sq wr w2.heap.size (.slice (some ⟨b, 0, none⟩) k cap) ice w5.heap.size lx ly w') := fun W h => (HAD.out.F2 W h.2.2.2.2).mono fun e w' ⟨he, hb⟩ => ⟨he, h.step hb⟩
      obtain ⟨q0, q1⟩ := hrc
      obtain ⟨e0, e1⟩ := hlc
      clear hSq HR5 HB5 r0 r1 l0 l1 HM1 HM2 HAD
      go_region_held3 (fun W => W.cell? ⟨w2.heap.size, 0, none⟩ = some (.slice (some ⟨b, 0, none⟩) k cap) ∧ W.cell? ⟨w2.heap.size, 1, none⟩ = some (.int .i64 ice) ∧ W.cell? ⟨w5.heap.size, 0, none⟩ = some (.int .i64 lx) ∧ W.cell? ⟨w5.heap.size, 1, none⟩ = some (.int .i64 ly) ∧ Hid (Below wr.heap.size wr W)) (first | exact HS0.out | assumption | go_keep)
        (first
          | (go_at_call 9; refine (HMS.out _ (by assumption)).mono ?_; rintro e w7 ⟨rfl, hS⟩)
          | (go_at_call 10; refine (HFS.out _ (by assumption)).mono ?_; rintro e w7 ⟨rfl, hS⟩))
      go_wp2_with (go_at_call 11; refine (awk_later (w4 := wr) _ hS.2.2.2.2).mono ?_; rintro e w9 ⟨rfl, hb9⟩)
      go_ret
      exact ⟨rfl, HFin.out _ hb9⟩
end Go.Proofs.Ytdcjgeebkinjlaa.Ra

/-
  The law GaugeWrites.
-/
import Derived.Test.YtlelcooomfcbaaaDoorGpBac
import Derived.Test.YtlelcooomfcbaaaDoorGgPrj
import Derived.Test.YtlelcooomfcbaaaDoorGgOde
namespace Go.Proofs.YtlelcooomfcbaaaDoor.Gg
open Go.ChangeShapes Go.WideShapes Go.ChangeAt Go.RowKit
open Go.Proofs.YtlelcooomfcbaaaDoor.Cu (Dk next_any)
set_option linter.unusedVariables false

theorem made_dk (g : Nat) (p : Option Addr) (n c : Nat) (z : Nat → Int) (most : Nat) (w0 w : World) (hd : Dk w g p n c z) (hm : most ≤ 100) (hg : w0.heap.size ≤ g) (hb : Below w0.heap.size w0 w) :
    Calls Tryd.prog 11 #[.pointer (some ⟨g, 0, none⟩), .int .i64 most] w fun e w' => ∃ p1 j c1 R, e = .returned (.slice p1 j c1) ∧ j ≤ most ∧ alG R j = 0 ∧ GotR w' w.heap.size (.slice p1 j c1) j R ∧ Below w0.heap.size w0 w' ∧ Dk w' g p n c z ∧ g < w.heap.size := by
  refine (readings_any g p n c z most w hd hm).mono ?_
  rintro e w2 ⟨v, j, R, rfl, hj, hmk, hgi⟩
  obtain ⟨p1, cap1, rfl, hrd⟩ := gotR_rd hgi.got
  exact ⟨p1, j, cap1, R, rfl, hj, vr_mk hmk (by omega), hgi.got, hb.grown hgi.gr hb.size (fun k hk => by cases hk; exact hg), hgi.dk, hgi.lt⟩
/-- A reading of a list is set. -/
theorem rs_set4 {W : World} {b n i : Nat} {R : Nat → Nat → Int} {a0 a1 a2 a3 : Int} (h : Rs W b 0 n R) (hi : i < n) :
    Rs ((((W.setCell ⟨b, i * 4, none⟩ (.int .i64 a0)).setCell ⟨b, i * 4 + 1, none⟩ (.int .i64 a1)).setCell ⟨b, i * 4 + 2, none⟩ (.int .i64 a2)).setCell ⟨b, i * 4 + 3, none⟩ (.int .i64 a3)) b 0 n (updR R i (mkR a0 a1 a2 a3)) := by
  have o : ∀ (V : World) (x y : Nat) (u v : Value), x ≠ y → V.cell? ⟨b, y, none⟩ = some v → (V.setCell ⟨b, x, none⟩ u).cell? ⟨b, y, none⟩ = some v := fun V x y u v hne h => (World.cell?_setCell_other _ _ _ _ (by intro e; simp only [Addr.mk.injEq] at e; omega)).trans h
  have s : ∀ (V : World) (x : Nat) (u z : Value), V.cell? ⟨b, x, none⟩ = some z → (V.setCell ⟨b, x, none⟩ u).cell? ⟨b, x, none⟩ = some u := fun V x u z h => World.cell?_setCell_same _ _ _ h
  obtain ⟨c0, c1, c2, c3⟩ := h.cells i hi
  rw [Nat.zero_add] at c0 c1 c2 c3
  refine ⟨by simpa [World.setCell] using h.1, fun k hk j hj => ?_⟩
  rw [Nat.zero_add]
  by_cases e : k = i
  · subst e
    rw [updR_same]
    have hc : j = 0 ∨ j = 1 ∨ j = 2 ∨ j = 3 := by omega
    rcases hc with rfl | rfl | rfl | rfl
    · exact o _ _ _ _ _ (by omega) (o _ _ _ _ _ (by omega) (o _ _ _ _ _ (by omega) (s _ _ _ _ c0)))
    · exact o _ _ _ _ _ (by omega) (o _ _ _ _ _ (by omega) (s _ _ _ _ (o _ _ _ _ _ (by omega) c1)))
    · exact o _ _ _ _ _ (by omega) (s _ _ _ _ (o _ _ _ _ _ (by omega) (o _ _ _ _ _ (by omega) c2)))
    · exact s _ _ _ _ (o _ _ _ _ _ (by omega) (o _ _ _ _ _ (by omega) (o _ _ _ _ _ (by omega) c3)))
  · rw [updR_other _ _ e]
    have c := h.2 k hk j hj
    rw [Nat.zero_add] at c
    exact o _ _ _ _ _ (by omega) (o _ _ _ _ _ (by omega) (o _ _ _ _ _ (by omega) (o _ _ _ _ _ (by omega) c)))
/-- What the loop of the law keeps. -/
structure Wk (w0 : World) (kb : Nat) (r0 r1 r2 r3 : Int) (p1 : Option Addr) (R1 : Nat → Nat → Int) (p3 : Option Addr) (R2 : Nat → Nat → Int) (j g gb c1 c3 : Nat) (W : World) : Prop where
  bx : Bx4 W kb r0 r1 r2 r3
  l1 : RdR W p1 j R1
  l2 : RdR W p3 j R2
  l3 : RdR W (some ⟨g, 0, none⟩) 1 (fun _ => mkR r0 r1 r2 r3)
  k0 : W.cell? ⟨gb, 0, none⟩ = some (.slice p1 j c1)
  k1 : W.cell? ⟨gb, 1, none⟩ = some (.slice p3 j c3)
  k2 : W.cell? ⟨gb, 2, none⟩ = some (.slice (some ⟨g, 0, none⟩) 1 1)
  bel : Below w0.heap.size w0 W
theorem Wk.up {w0 : World} {kb : Nat} {r0 r1 r2 r3 : Int} {p1 : Option Addr} {R1 : Nat → Nat → Int} {p3 : Option Addr} {R2 : Nat → Nat → Int} {j g gb c1 c3 : Nat} {W W' : World} (h : Wk w0 kb r0 r1 r2 r3 p1 R1 p3 R2 j g gb c1 c3 W) (hb : Below W.heap.size W W') : Wk w0 kb r0 r1 r2 r3 p1 R1 p3 R2 j g gb c1 c3 W' :=
  { bx := h.bx.up hb, l1 := h.l1.below hb (Nat.le_refl _), l2 := h.l2.below hb (Nat.le_refl _), l3 := h.l3.below hb (Nat.le_refl _)
    k0 := (hb.cell (p := ⟨gb, 0, none⟩) (World.block_lt_of_cell? _ _ h.k0)).trans h.k0
    k1 := (hb.cell (p := ⟨gb, 1, none⟩) (World.block_lt_of_cell? _ _ h.k1)).trans h.k1
    k2 := (hb.cell (p := ⟨gb, 2, none⟩) (World.block_lt_of_cell? _ _ h.k2)).trans h.k2
    bel := h.bel.trans (hb.mono h.bel.size) }
theorem Wk.start {w0 wc : World} {kb : Nat} {r0 r1 r2 r3 : Int} {p1 : Option Addr} {R1 : Nat → Nat → Int} {p3 : Option Addr} {R2 : Nat → Nat → Int} {j c1 c3 : Nat} (hb : Bx4 wc kb r0 r1 r2 r3) (h1 : RdR wc p1 j R1) (h2 : RdR wc p3 j R2) (hw : Below w0.heap.size w0 wc) :
    Wk w0 kb r0 r1 r2 r3 p1 R1 p3 R2 j wc.heap.size (wc.heap.size + 1) c1 c3 ((wc.alloc (.cells #[.int .i64 r0, .int .i64 r1, .int .i64 r2, .int .i64 r3] 23)).alloc (.cells #[.slice p1 j c1, .slice p3 j c3, .slice (some ⟨wc.heap.size, 0, none⟩) 1 1] 29)) :=
  have hb1 : Below wc.heap.size wc (wc.alloc (.cells #[.int .i64 r0, .int .i64 r1, .int .i64 r2, .int .i64 r3] 23)) := (Below.refl _ _).alloc (Nat.le_refl _) _
  have hb2 := hb1.alloc hb1.size (.cells #[.slice p1 j c1, .slice p3 j c3, .slice (some ⟨wc.heap.size, 0, none⟩) 1 1] 29)
  { bx := hb.up hb2, l1 := h1.below hb2 (Nat.le_refl _), l2 := h2.below hb2 (Nat.le_refl _)
    l3 := fun _ => ⟨wc.heap.size, 0, rfl, by simp; omega, fun i hi q hq => by
      have e : i = 0 := by omega
      subst e
      have h := cell_four wc (.int .i64 r0) (.int .i64 r1) (.int .i64 r2) (.int .i64 r3) 23 q (.int .i64 (mkR r0 r1 r2 r3 q)) (by
        have hc : q = 0 ∨ q = 1 ∨ q = 2 ∨ q = 3 := by omega
        rcases hc with rfl | rfl | rfl | rfl <;> rfl)
      rw [add_plain] at h
      have h2 := cell_alloc (kb := wc.heap.size) (i := 0 + q) h (.cells #[.slice p1 j c1, .slice p3 j c3, .slice (some ⟨wc.heap.size, 0, none⟩) 1 1] 29)
      simpa using h2⟩
    k0 := by simp, k1 := by simp, k2 := by simp
    bel := hw.trans (hb2.mono hw.size) }
theorem gwr_early (r0 r1 r2 r3 : Int) (pb : Option Addr) (nb cb : Nat) (p : Option Addr) (n c : Nat) (x y : Int) (w : World) (hb : 2000 < nb) (hw : FlW w) :
    Calls Tryd.prog 3 #[.agg #[.int .i64 r0, .int .i64 r1, .int .i64 r2, .int .i64 r3], .slice pb nb cb, .slice p n c, .int .i64 x, .int .i64 y] w fun e w' => e = .returned (.bool true) ∧ Below w.heap.size w w' := by
  have h2 : (2000 : Int) < (nb : Int) := by omega
  have HW := Lib.hid hw
  clear hw
  go_enter Tryd.func3, Tryd.ntmps3
  go_wp2_with (go_at_call 9; refine (awake_any _ (HW.out.up ((Below.refl _ _).alloc (Nat.le_refl _) _) (Nat.le_refl _))).mono ?_; rintro e w1 ⟨rfl, hb1⟩; have HB1 : Hid (Below w.heap.size w w1) := ((Below.refl _ _).alloc (Nat.le_refl _) _).trans (hb1.mono (by simp)); clear hb1)
  go_ret
  exact ⟨rfl, HB1.out⟩
set_option maxRecDepth 100000 in
set_option maxHeartbeats 4000000 in
theorem gwr_main (r0 r1 r2 r3 : Int) (pb : Option Addr) (nb cb : Nat) (B : Nat → Int) (p : Option Addr) (n c : Nat) (z : Nat → Int) (x y : Int) (w : World) (hnb : nb ≤ 2000) (hB : RdB w pb nb B) (hBt : Bt B nb) (hr : RdI w p n z) (hn : n ≤ 9223372036854775807) (hz : ∀ i, -9223372036854775808 ≤ z i ∧ z i ≤ 9223372036854775807)
    (hx : -9223372036854775808 ≤ x ∧ x ≤ 9223372036854775807) (hy : -9223372036854775808 ≤ y ∧ y ≤ 9223372036854775807) (hw : FlW w) (ht : TbW w) :
    Calls Tryd.prog 3 #[.agg #[.int .i64 r0, .int .i64 r1, .int .i64 r2, .int .i64 r3], .slice pb nb cb, .slice p n c, .int .i64 x, .int .i64 y] w fun e w' => e = .returned (.bool true) ∧ Below w.heap.size w w' := by
  have h2 : ¬ (2000 : Int) < (nb : Int) := by omega
  have hb0 : Below w.heap.size w (w.alloc (.cells #[.int .i64 r0, .int .i64 r1, .int .i64 r2, .int .i64 r3] 23)) := (Below.refl _ _).alloc (Nat.le_refl _) _
  have hs0 : w.heap.size + 1 ≤ (w.alloc (.cells #[.int .i64 r0, .int .i64 r1, .int .i64 r2, .int .i64 r3] 23)).heap.size := by simp
  have hx0 := Bx4.new w r0 r1 r2 r3
  have HN : Hid (∀ W, Below w.heap.size w W → Calls Tryd.prog 10 #[.slice p n c] W fun e w' => e = .returned (.pointer (some ⟨W.heap.size, 0, none⟩)) ∧ Dk w' W.heap.size p n c z ∧ Below W.heap.size W w') := fun W h => Cu.new_any p n c z W hn hz (hr.up h (Nat.le_refl _))
  have HOD := Lib.hid (fun a b c d => odd_fix a b c d x y hx hy)
  have HW := Lib.hid hw
  have HT := Lib.hid ht
  have HBD : Hid (∀ W, Below w.heap.size w W → RdB W pb nb B) := fun W h => hB.below h (Nat.le_refl _)
  have HBT := Lib.hid hBt
  clear hB hBt hr hn hz hx hy hw ht
  go_enter Tryd.func3, Tryd.ntmps3
  go_upto_region 3 with fail
  have HB0 := Lib.hid hb0
  have HX0 := Lib.hid hx0
  clear hb0 hx0
  generalize w.alloc (.cells #[.int .i64 r0, .int .i64 r1, .int .i64 r2, .int .i64 r3] 23) = w0 at *
  obtain ⟨kb, hkb⟩ : ∃ kb, kb = w.heap.size := ⟨_, rfl⟩
  have HKB := Lib.hid hkb
  rw [← hkb] at HX0 ⊢
  clear hkb
  go_upto_region 5 with (first
    | (go_at_call 10; refine (HN.out _ HB0.out).mono ?_; rintro e w1 ⟨rfl, hd1, hb1⟩; have HD1 := Lib.hid hd1; have HB1 := Lib.hid hb1; clear hd1 hb1 HN)
    | (go_at_call 11; refine (made_dk _ p n c z 8 w0 _ HD1.out (by omega) (Nat.le_refl _) HB1.out).mono ?_; rintro e w2 ⟨p1, j, c1, R1, rfl, hj, hok1, hg2, hb2, hd2, hl2⟩; have HO1 := Lib.hid hok1; have HG2 := Lib.hid hg2; have HB2 := Lib.hid hb2; have HD2 := Lib.hid hd2; clear hok1 hg2 hb2 hd2 HD1))
  have hs2 := HB2.out.size
  go_upto_region 6 with (at_builtin; refine wp_app_nil rfl _ _ rfl rfl (.slice p1 j c1) rfl _ j R1 HG2.out w2.heap.size (Nat.le_refl _) (by omega) ?_; intro v3 w3 hg3 hgr; have HB3 : Hid (Below w2.heap.size w2 w3) := (Below.refl _ _).grown hgr (Nat.le_refl _) (fun _ h => by cases h); have HG3 := Lib.hid hg3; clear hg3 hgr)
  have HP2 := Lib.hid (gotR_rdr HG2.out)
  have HA3 := Lib.hid (gotR_kept HG2.out HB3.out)
  have HD3 := Lib.hid (HD2.out.below HB3.out HD2.out.lt)
  have HBW3 := Lib.hid (HB2.out.trans (HB3.out.mono hs2))
  obtain ⟨p3, c3, rfl, _⟩ := gotR_rd HG3.out
  have hs3 := HB3.out.size
  have hl3 : w0.heap.size < w2.heap.size := HD2.out.lt
  clear HG2 HD2 HB2 HB3
  have hj8 : (j : Int) ≤ 8 := by omega
  go_upto_if 37 with fail
  go_cut [14] from 37 to 102 (fun s14 wx => ∃ R2 : Nat → Nat → Int, Hid (RdR wx p3 j R2) ∧ Hid (RdR wx p1 j R1) ∧ Hid (Bx4 wx kb r0 r1 r2 r3) ∧ Hid (Below w0.heap.size w0 wx))
  case first =>
    by_cases hj0 : j = 0
    · have hji : ¬ (0 : Int) < (j : Int) := by omega
      have hjd : decide ((0 : Int) < (j : Int)) = false := by rw [decide_eq_false_iff_not]; exact hji
      clear hj0
      go_wp2_with fail
      go_meet
      exact ⟨R1, gotR_rdr HG3.out, gotR_rdr HA3.out, HX0.out.up (HBW3.out), HBW3.out⟩
    · have hji : (0 : Int) < (j : Int) := by omega
      have hjd : decide ((0 : Int) < (j : Int)) = true := by rw [decide_eq_true_eq]; exact hji
      obtain ⟨g5, c5, e5, hg5, hrs5, _, hfz5⟩ := gotR_rs HG3.out (by omega)
      simp only [Value.slice.injEq] at e5
      obtain ⟨rfl, _, rfl⟩ := e5
      clear hj0
      have HRS := Lib.hid hrs5
      have HFZ := Lib.hid hfz5
      have hgne : g5 ≠ w0.heap.size := by omega
      clear hrs5 hfz5 HG3
      go_upto_region 8 with (go_at_call 12; refine (next_any w0.heap.size p n c z (j : Int) _ HD3.out (by omega)).mono ?_; rintro e w4 ⟨r, rfl, hr0, hr1, hd4, hgr4⟩; obtain ⟨i, rfl⟩ := Int.eq_ofNat_of_zero_le hr0; have HGR := Lib.hid hgr4; clear hd4 hgr4)
      have hij : i < j := by omega
      obtain ⟨g1, c9, e9, hg1, hrs1, _, _⟩ := gotR_rs HA3.out (by omega)
      simp only [Value.slice.injEq] at e9
      obtain ⟨rfl, _, rfl⟩ := e9
      have hg1l : g1 < w2.heap.size := by
        obtain ⟨b9, o9, e8, h9⟩ := HP2.out (by omega)
        simp only [Option.some.injEq, Addr.mk.injEq] at e8
        rw [e8.1]; exact h9.1
      have hrs14 := hrs1.grown HGR.out (by simp; omega)
      have hrs4 := HRS.out.grown HGR.out (by simpa using hgne)
      have hfz4 : ∀ q, w4.frozen? ⟨g5, q, none⟩ = false := fun q => (World.frozen?_of_block (w := w3) (a := ⟨g5, q, none⟩) (HGR.out.block g5 HRS.out.1 (by simpa using hgne))).trans (HFZ.out q)
      have HB4 : Hid (Below w0.heap.size w0 w4) := HBW3.out.grown HGR.out HBW3.out.size (fun k hk => by cases hk; exact Nat.le_refl _)
      have HR4 := Lib.hid hrs4
      have HL4 := Lib.hid hrs14
      have HF4 := Lib.hid hfz4
      obtain ⟨q0, q1, q2, q3⟩ := hrs4.cells i hij
      rw [Nat.zero_add] at q0 q1 q2 q3
      obtain ⟨a0, a1, a2, a3, hod⟩ := HOD.out (R1 i 0) (R1 i 1) (R1 i 2) (R1 i 3)
      have HOD2 := Lib.hid hod
      have hii : (i : Int) < (j : Int) := by omega
      have hw4 := HB4.out.size
      have hw42 : w2.heap.size ≤ w4.heap.size := Nat.le_trans hs3 HGR.out.size
      clear hod hrs1 hrs14 hrs4 hfz4 HA3 HRS HFZ HGR HOD hr0 hr1 HP2 HD3 HBW3 HBD HBT HW HT
      generalize R1 i 0 = t0 at *
      generalize R1 i 1 = t1 at *
      generalize R1 i 2 = t2 at *
      generalize R1 i 3 = t3 at *
      go_wp2_with (go_at_call 13; refine (HOD2.out _).mono ?_; rintro e w5 ⟨rfl, hb5⟩; have HB5 := Lib.hid hb5; have d0 := (hb5.cell (p := ⟨g5, i * 4, none⟩) HR4.out.1).trans q0; have d1 := (hb5.cell (p := ⟨g5, i * 4 + 1, none⟩) HR4.out.1).trans q1; have d2 := (hb5.cell (p := ⟨g5, i * 4 + 2, none⟩) HR4.out.1).trans q2; have d3 := (hb5.cell (p := ⟨g5, i * 4 + 3, none⟩) HR4.out.1).trans q3; have f0 := (hb5.frozen (p := ⟨g5, i * 4, none⟩) HR4.out.1).trans (HF4.out _); have f1 := (hb5.frozen (p := ⟨g5, i * 4 + 1, none⟩) HR4.out.1).trans (HF4.out _); have f2 := (hb5.frozen (p := ⟨g5, i * 4 + 2, none⟩) HR4.out.1).trans (HF4.out _); have f3 := (hb5.frozen (p := ⟨g5, i * 4 + 3, none⟩) HR4.out.1).trans (HF4.out _); clear hb5)
      go_meet
      have HBS : Hid (Below w2.heap.size w4 ((((w5.setCell ⟨g5, i * 4, none⟩ (.int .i64 a0)).setCell ⟨g5, i * 4 + 1, none⟩ (.int .i64 a1)).setCell ⟨g5, i * 4 + 2, none⟩ (.int .i64 a2)).setCell ⟨g5, i * 4 + 3, none⟩ (.int .i64 a3))) :=
        ((((HB5.out.mono (by omega)).setCell (p := ⟨g5, i * 4, none⟩) hg5 _).setCell (p := ⟨g5, i * 4 + 1, none⟩) hg5 _).setCell (p := ⟨g5, i * 4 + 2, none⟩) hg5 _).setCell (p := ⟨g5, i * 4 + 3, none⟩) hg5 _
      have hrs5 : Rs w5 g5 0 j R1 := HR4.out.up HB5.out (Nat.le_refl _)
      have hfin := HB4.out.trans (HBS.out.mono (by omega))
      exact ⟨updR R1 i (mkR a0 a1 a2 a3), (show RdR _ _ _ _ from fun _ => ⟨g5, 0, rfl, rs_set4 hrs5 hij⟩), (show RdR _ _ _ _ from fun _ => ⟨g1, 0, rfl, HL4.out.below HBS.out hg1l⟩), HX0.out.up hfin, hfin⟩
  case rest =>
    obtain ⟨R2, hp3, hp1, hbx, hbw⟩ := hcut
    obtain ⟨d0, d1, d2, d3⟩ := hbx.out.cells
    clear HP2 HA3 HD3 HBW3 HG3 HX0 hs2 hs3 hl3 hl2
    have hwk := Lib.hid (Wk.start (c1 := c1) (c3 := c3) hbx.out hp1.out hp3.out hbw.out)
    clear hbx hp1 hp3 hbw
    obtain ⟨g3, hg3⟩ : ∃ g3, g3 = wc.heap.size := ⟨_, rfl⟩
    go_wp2_with fail
    generalize (wc.alloc (.cells #[.int .i64 r0, .int .i64 r1, .int .i64 r2, .int .i64 r3] 23)).alloc (.cells #[.slice p1 j c1, .slice p3 j c3, .slice (some ⟨wc.heap.size, 0, none⟩) 1 1] 29) = wd at *
    rw [← hg3] at hwk ⊢
    clear hg3 d0 d1 d2 d3
    have hwB : Hid (∀ W, Below w0.heap.size w0 W → Below w.heap.size w W) := fun W h => HB0.out.trans (h.mono HB0.out.size)
    go_loopw [58] (fun i wr => ∃ k : Nat, k ≤ 3 ∧ i = .int .i64 k ∧ Hid (Wk w0 kb r0 r1 r2 r3 p1 R1 p3 R2 j g3 (g3 + 1) c1 c3 wr)) (fun i _ => 3 - (intOf i).toNat)
    case atStart => exact ⟨0, by omega, rfl, hwk.out⟩
    case round =>
      obtain ⟨k, hk, rfl, hwr⟩ := hrel
      by_cases hk3 : k < 3
      · have hki : (k : Int) < 3 := by omega
        have hex : ∃ (pk : Option Addr) (nk ck : Nat) (Rk : Nat → Nat → Int), wr.cell? ⟨g3 + 1, k, none⟩ = some (.slice pk nk ck) ∧ nk ≤ 8 ∧ ∀ W, Wk w0 kb r0 r1 r2 r3 p1 R1 p3 R2 j g3 (g3 + 1) c1 c3 W → RdR W pk nk Rk := by
          have hc : k = 0 ∨ k = 1 ∨ k = 2 := by omega
          rcases hc with rfl | rfl | rfl
          · exact ⟨p1, j, c1, R1, hwr.out.k0, hj, fun W h => h.l1⟩
          · exact ⟨p3, j, c3, R2, hwr.out.k1, hj, fun W h => h.l2⟩
          · exact ⟨_, 1, 1, _, hwr.out.k2, by omega, fun W h => h.l3⟩
        obtain ⟨pk, nk, ck, Rk, ckk, hnk, hrk⟩ := hex
        have HE1 : Hid (∀ W, Wk w0 kb r0 r1 r2 r3 p1 R1 p3 R2 j g3 (g3 + 1) c1 c3 W → Calls Tryd.prog 14 #[.slice pk nk ck] W (EnP W (enX Rk nk) (enN Rk nk) (enL Rk nk))) := fun W h => penc_any pk nk ck Rk W (hrk W h) (by omega)
        have HE2 : Hid (∀ W, Wk w0 kb r0 r1 r2 r3 p1 R1 p3 R2 j g3 (g3 + 1) c1 c3 W → Calls Tryd.prog 15 #[.slice pk nk ck] W (EnP W (enX Rk nk) (enN Rk nk) (enL Rk nk))) := fun W h => genc_any pk nk ck Rk W (hrk W h)
        have HE3 : Hid (∀ W, Wk w0 kb r0 r1 r2 r3 p1 R1 p3 R2 j g3 (g3 + 1) c1 c3 W → Calls Tryd.prog 16 #[.slice pk nk ck] W (PrP W (enX Rk nk) (prS Rk nk))) := fun W h => ppri_any pk nk ck Rk W (hrk W h) (by omega) (HW.out.up (hwB.out W h.bel) (Nat.le_refl _)) (tb_up HT.out (hwB.out W h.bel))
        have HE4 : Hid (∀ W, Wk w0 kb r0 r1 r2 r3 p1 R1 p3 R2 j g3 (g3 + 1) c1 c3 W → Calls Tryd.prog 17 #[.slice pk nk ck] W (PrP W (enX Rk nk) (prS Rk nk))) := fun W h => gpri_any pk nk ck Rk W (hrk W h) (tb_up HT.out (hwB.out W h.bel))
        clear hrk
        generalize enX Rk nk = cd at *
        generalize enN Rk nk = eN at *
        generalize enL Rk nk = eL at *
        generalize prS Rk nk = eT at *
        go_wp2_with (first
          | (go_at_call 14; refine (HE1.out _ hwr.out).mono ?_; rintro e w1' ⟨vp, rfl, hgp, hb1⟩; have HP1 := Lib.hid hgp; have HK1 := Lib.hid (hwr.out.up hb1); clear hgp hb1)
          | (go_at_call 15; refine (HE2.out _ HK1.out).mono ?_; rintro e w2' ⟨vq, rfl, hgq, hb2⟩; have HQ2 := Lib.hid hgq; have HP2' := Lib.hid (gotB_kept HP1.out hb2); have HK2 := Lib.hid (HK1.out.up hb2); clear hgq hb2 HP1 HK1)
          | (go_at_call 16; refine (HE3.out _ HK2.out).mono ?_; rintro e w3' ⟨rfl, hb3⟩; have HQ3 := Lib.hid (gotB_kept HQ2.out hb3); have HP3 := Lib.hid (gotB_kept HP2'.out hb3); have HK3 := Lib.hid (HK2.out.up hb3); clear hb3 HP2' HQ2 HK2)
          | (go_at_call 17; refine (HE4.out _ HK3.out).mono ?_; rintro e w4' ⟨rfl, hb4⟩; have hcq := gotB_str (gotB_kept HQ3.out hb4); have hcp := gotB_str (gotB_kept HP3.out hb4); have HK4 := Lib.hid (HK3.out.up hb4); clear hb4 HP3 HQ3 HK3))
        go_roundw
        case rel => exact ⟨k + 1, by omega, by go_num, HK4.out⟩
        case measure => simp [intOf]; omega
      · obtain rfl : k = 3 := by omega
        obtain ⟨a0, a1, a2, a3, hod⟩ := HOD.out r0 r1 r2 r3
        obtain ⟨d0, d1, d2, d3⟩ := hwr.out.bx.cells
        have hkl := heap_lt hwr.out.bx
        have HS0 : Hid (S4 wr kb r0 r1 r2 r3 wr) := ⟨d0, d1, d2, d3, (show kb < wr.heap.size ∧ Below wr.heap.size wr wr from ⟨hkl, Below.refl _ _⟩)⟩
        have hwrB := Lib.hid (hwB.out wr hwr.out.bel)
        have HUP : Hid (∀ W, S4 wr kb r0 r1 r2 r3 W → Below w.heap.size w W) := fun W h => hwrB.out.trans (h.2.2.2.2.out.2.mono hwrB.out.size)
        have HC1 : Hid (∀ W, S4 wr kb r0 r1 r2 r3 W → Calls Tryd.prog 18 #[.agg #[.int .i64 r0, .int .i64 r1, .int .i64 r2, .int .i64 r3]] W fun e w' => e = .returned (.int .i64 (ckG r0 r1 r2 r3)) ∧ S4 wr kb r0 r1 r2 r3 w') := fun W h => (pck_any r0 r1 r2 r3 W).mono fun e w' hh => ⟨hh.1, S4_up h hh.2⟩
        have HC2 : Hid (∀ W, S4 wr kb r0 r1 r2 r3 W → Calls Tryd.prog 19 #[.agg #[.int .i64 r0, .int .i64 r1, .int .i64 r2, .int .i64 r3]] W fun e w' => e = .returned (.int .i64 (ckG r0 r1 r2 r3)) ∧ S4 wr kb r0 r1 r2 r3 w') := fun W h => (gck_any r0 r1 r2 r3 W).mono fun e w' hh => ⟨hh.1, S4_up h hh.2⟩
        have HO : Hid (∀ W, S4 wr kb r0 r1 r2 r3 W → Calls Tryd.prog 13 #[.agg #[.int .i64 r0, .int .i64 r1, .int .i64 r2, .int .i64 r3], .int .i64 x, .int .i64 y] W fun e w' => e = .returned (.agg #[.int .i64 a0, .int .i64 a1, .int .i64 a2, .int .i64 a3]) ∧ S4 wr kb r0 r1 r2 r3 w') := fun W h => (hod W).mono fun e w' hh => ⟨hh.1, S4_up h hh.2⟩
        have HC3 : Hid (∀ W, S4 wr kb r0 r1 r2 r3 W → Calls Tryd.prog 18 #[.agg #[.int .i64 a0, .int .i64 a1, .int .i64 a2, .int .i64 a3]] W fun e w' => e = .returned (.int .i64 (ckG a0 a1 a2 a3)) ∧ S4 wr kb r0 r1 r2 r3 w') := fun W h => (pck_any a0 a1 a2 a3 W).mono fun e w' hh => ⟨hh.1, S4_up h hh.2⟩
        have HC4 : Hid (∀ W, S4 wr kb r0 r1 r2 r3 W → Calls Tryd.prog 19 #[.agg #[.int .i64 a0, .int .i64 a1, .int .i64 a2, .int .i64 a3]] W fun e w' => e = .returned (.int .i64 (ckG a0 a1 a2 a3)) ∧ S4 wr kb r0 r1 r2 r3 w') := fun W h => (gck_any a0 a1 a2 a3 W).mono fun e w' hh => ⟨hh.1, S4_up h hh.2⟩
        have HM1 : Hid (∀ W, S4 wr kb r0 r1 r2 r3 W → Calls Tryd.prog 20 #[.slice pb nb cb] W fun e w' => e = .returned (.int .i64 (smG B nb)) ∧ S4 wr kb r0 r1 r2 r3 w') := fun W h => (psum_any pb nb cb B W (HBD.out W (HUP.out W h)) HBT.out (by omega)).mono fun e w' hh => by obtain ⟨rfl, rfl⟩ := hh; exact ⟨rfl, h⟩
        have HM2 : Hid (∀ W, S4 wr kb r0 r1 r2 r3 W → Calls Tryd.prog 21 #[.slice pb nb cb] W fun e w' => e = .returned (.int .i64 (smG B nb)) ∧ S4 wr kb r0 r1 r2 r3 w') := fun W h => (gsum_any pb nb cb B W (HBD.out W (HUP.out W h)) HBT.out (by omega)).mono fun e w' hh => by obtain ⟨rfl, rfl⟩ := hh; exact ⟨rfl, h⟩
        have HAW : Hid (∀ W, S4 wr kb r0 r1 r2 r3 W → Calls Tryd.prog 9 #[] W fun e w' => e = .returned (.bool true) ∧ S4 wr kb r0 r1 r2 r3 w') := fun W h => (awake_any W (HW.out.up (HUP.out W h) (Nat.le_refl _))).mono fun e w' hh => ⟨hh.1, S4_up h hh.2⟩
        clear HOD hod hwk hwr d0 d1 d2 d3 HW HT HBD HBT hwB
        generalize ckG r0 r1 r2 r3 = ck1 at *
        generalize ckG a0 a1 a2 a3 = ck2 at *
        generalize smG B nb = sm at *
        go_upto_region 19 with fail
        go_region_held3 (fun W => W.cell? ⟨kb, 0, none⟩ = some (.int .i64 r0) ∧ W.cell? ⟨kb, 1, none⟩ = some (.int .i64 r1) ∧ W.cell? ⟨kb, 2, none⟩ = some (.int .i64 r2) ∧ W.cell? ⟨kb, 3, none⟩ = some (.int .i64 r3) ∧ Hid (kb < wr.heap.size ∧ Below wr.heap.size wr W)) (first | (with_reducible assumption) | (with_reducible exact HS0.out) | (with_reducible exact S4_drew HS0.out) | (with_reducible exact S4_drewN HS0.out _) | (with_reducible exact S4_drew (by assumption)) | (with_reducible exact S4_drewN (by assumption) _) | fail) (first
          | (go_at_call_has 18 (Value.agg #[.int .i64 r0, .int .i64 r1, .int .i64 r2, .int .i64 r3]); refine (HC1.out _ (by assumption)).mono ?_; rintro e v1 ⟨rfl, hs1⟩)
          | (go_at_call_has 19 (Value.agg #[.int .i64 r0, .int .i64 r1, .int .i64 r2, .int .i64 r3]); refine (HC2.out _ (by assumption)).mono ?_; rintro e v2 ⟨rfl, hs2⟩)
          | (go_at_call_has 18 (Value.agg #[.int .i64 a0, .int .i64 a1, .int .i64 a2, .int .i64 a3]); refine (HC3.out _ (by assumption)).mono ?_; rintro e v3 ⟨rfl, hs3⟩)
          | (go_at_call_has 19 (Value.agg #[.int .i64 a0, .int .i64 a1, .int .i64 a2, .int .i64 a3]); refine (HC4.out _ (by assumption)).mono ?_; rintro e v4 ⟨rfl, hs4⟩)
          | (go_at_call 13; refine (HO.out _ (by assumption)).mono ?_; rintro e v5 ⟨rfl, hs5⟩)
          | (go_at_call 20; refine (HM1.out _ (by assumption)).mono ?_; rintro e v6 ⟨rfl, hs6⟩)
          | (go_at_call 21; refine (HM2.out _ (by assumption)).mono ?_; rintro e v7 ⟨rfl, hs7⟩)
          | (go_at_call 9; refine (HAW.out _ (by assumption)).mono ?_; rintro e v8 ⟨rfl, hs8⟩))
        have HFIN := Lib.hid (HUP.out _ hs8)
        clear hs1 hs2 hs3 hs4 hs5 hs6 hs7 hs8 HS0 HUP HC1 HC2 HO HC3 HC4 HM1 HM2 HAW
        go_wp2_with fail
        go_ret
        exact ⟨rfl, HFIN.out⟩
theorem gwr_walk (r0 r1 r2 r3 : Int) (pb : Option Addr) (nb cb : Nat) (B : Nat → Int) (p : Option Addr) (n c : Nat) (z : Nat → Int) (x y : Int) (w : World) (hB : RdB w pb nb B) (hBt : Bt B nb) (hr : RdI w p n z) (hn : n ≤ 9223372036854775807) (hz : ∀ i, -9223372036854775808 ≤ z i ∧ z i ≤ 9223372036854775807)
    (hx : -9223372036854775808 ≤ x ∧ x ≤ 9223372036854775807) (hy : -9223372036854775808 ≤ y ∧ y ≤ 9223372036854775807) (hw : FlW w) (ht : TbW w) :
    Calls Tryd.prog 3 #[.agg #[.int .i64 r0, .int .i64 r1, .int .i64 r2, .int .i64 r3], .slice pb nb cb, .slice p n c, .int .i64 x, .int .i64 y] w fun e w' => e = .returned (.bool true) ∧ Below w.heap.size w w' := by
  by_cases h : 2000 < nb
  · exact gwr_early r0 r1 r2 r3 pb nb cb p n c x y w h hw
  · exact gwr_main r0 r1 r2 r3 pb nb cb B p n c z x y w (by omega) hB hBt hr hn hz hx hy hw ht
end Go.Proofs.YtlelcooomfcbaaaDoor.Gg

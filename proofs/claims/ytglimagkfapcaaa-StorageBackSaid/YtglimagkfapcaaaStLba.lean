/-
  The walk of the law StorageBack.
-/
import Derived.Test.YtglimagkfapcaaaStAwk
import Derived.Test.YtglimagkfapcaaaStRes
import Derived.Test.YtglimagkfapcaaaStRow
import Derived.Deep.DeepCutAuto
namespace Go.Proofs.Ytglimagkfapcaaa.Cu
open Go.ChangeShapes Go.WideShapes Go.ChangeAt Go.RowKit
set_option linter.unusedVariables false

/-- What the law looks at, by names. -/
structure Ba3 (w5 : World) (b k cap : Nat) (D L F S C x ww v yy zz u kk : Int) : Prop where
  VX : ∀ W, Hid (Below w5.heap.size w5 W) → Calls Try.prog 14 #[.agg #[.slice (some ⟨b, 0, none⟩) k cap, .int .i64 D, .int .i64 L, .int .i64 F, .int .i64 S, .int .i64 C], .int .i64 x] W fun e w' => e = .returned (.tuple #[.int .i64 (v), .int .i64 0]) ∧ Hid (Below w5.heap.size w5 w')
  LV : ∀ W, Hid (Below w5.heap.size w5 W) → Calls Try.prog 16 #[.agg #[.slice (some ⟨b, 0, none⟩) k cap, .int .i64 D, .int .i64 L, .int .i64 F, .int .i64 S, .int .i64 C], .int .i64 v] W fun e w' => e = .returned (.tuple #[.int .i64 (yy), .int .i64 0]) ∧ Hid (Below w5.heap.size w5 w')
  LW : ∀ W, Hid (Below w5.heap.size w5 W) → Calls Try.prog 16 #[.agg #[.slice (some ⟨b, 0, none⟩) k cap, .int .i64 D, .int .i64 L, .int .i64 F, .int .i64 S, .int .i64 C], .int .i64 ww] W fun e w' => e = .returned (.tuple #[.int .i64 (zz), .int .i64 0]) ∧ Hid (Below w5.heap.size w5 w')
  VZ : ∀ W, Hid (Below w5.heap.size w5 W) → Calls Try.prog 14 #[.agg #[.slice (some ⟨b, 0, none⟩) k cap, .int .i64 D, .int .i64 L, .int .i64 F, .int .i64 S, .int .i64 C], .int .i64 zz] W fun e w' => e = .returned (.tuple #[.int .i64 (u), .int .i64 0]) ∧ Hid (Below w5.heap.size w5 w')
  VK : ∀ W, Hid (Below w5.heap.size w5 W) → Calls Try.prog 14 #[.agg #[.slice (some ⟨b, 0, none⟩) k cap, .int .i64 D, .int .i64 L, .int .i64 F, .int .i64 S, .int .i64 C], .int .i64 (zz + 1)] W fun e w' => e = .returned (.tuple #[.int .i64 (kk), .int .i64 0]) ∧ Hid (Below w5.heap.size w5 w')
theorem ba3_pack {w5 : World} {b k m cap : Nat} {X Y : Nat → Int} {D L F S C : Int} (hk : k = m + 1) (hp : Pts w5 b 0 k X Y) (hr : Res X Y m D L F S C) (x ww : Int) (hx : X 0 ≤ x ∧ x ≤ X m) (h0 : 100 ≤ X 0) (hm : X m ≤ 309) (hw : Y 0 ≤ ww ∧ ww ≤ 2000) (hy : 0 ≤ Y 0) (hym : Y m ≤ 1019) :
    ∃ v yy zz u kk, Hid (Ba3 w5 b k cap D L F S C x ww v yy zz u kk) ∧ x ≤ yy ∧ u ≤ ww ∧ (zz = X m ∨ (zz ≠ X m ∧ ww < kk)) ∧ 0 ≤ zz ∧ zz ≤ 309 := by
  have h1 := val_bd X Y m hr.cur.asc x
  obtain ⟨f1, f2, f3, f4⟩ := lev_facts hr.cur ww
  obtain ⟨e1, e2, e3, e4⟩ := lev_facts hr.cur (val X Y m x)
  refine ⟨val X Y m x, levV X Y m (val X Y m x), levV X Y m ww, val X Y m (levV X Y m ww), val X Y m (levV X Y m ww + 1), ⟨vol_later hk hp hr _ (by omega), lev_later hk hp hr _ (by omega), lev_later hk hp hr _ (by omega), vol_later hk hp hr _ (by omega), vol_later hk hp hr _ (by omega)⟩, ?_, f3 hw.1, ?_, by omega, by omega⟩
  · apply Classical.byContradiction
    intro hc
    have h2 := e4 (by omega)
    have h3 := val_mono X Y m hr.cur.asc (levV X Y m (val X Y m x) + 1) x (by omega)
    omega
  · by_cases h : levV X Y m ww = X m
    · exact .inl h
    · exact .inr ⟨h, f4 (by omega)⟩

/-- What the law holds behind its second line. -/
structure S7 (w w7 : World) (kb fb lb b k cap : Nat) (D L F S C x0 y0 xm : Int) (X Y : Nat → Int) : Prop where
  cel : ∀ W, Hid (Below w7.heap.size w7 W) → Bx W kb (some ⟨b, 0, none⟩) k cap D L F S C ∧ W.cell? ⟨fb, 0, none⟩ = some (.int .i64 x0) ∧ W.cell? ⟨fb, 1, none⟩ = some (.int .i64 y0) ∧ W.cell? ⟨lb, 0, none⟩ = some (.int .i64 xm)
  fin : ∀ W, Hid (Below w7.heap.size w7 W) → Below w.heap.size w W
  pts : Pts w7 b 0 k X Y
theorem s7_mk {w w5 w7 : World} {kb fb lb b k cap : Nat} {D L F S C : Int} {X Y : Nat → Int} (hx : Bx w5 kb (some ⟨b, 0, none⟩) k cap D L F S C) (hp : Pts w5 b 0 k X Y) (hw : Below w.heap.size w w5) (x0 y0 xm : Int) (hb : Below w5.heap.size w5 w7)
    (f1 : w7.cell? ⟨fb, 0, none⟩ = some (.int .i64 x0)) (f2 : w7.cell? ⟨fb, 1, none⟩ = some (.int .i64 y0)) (f3 : w7.cell? ⟨lb, 0, none⟩ = some (.int .i64 xm)) : S7 w w7 kb fb lb b k cap D L F S C x0 y0 xm X Y where
  cel := fun W h => by
    have hb7 := hx.below hb (World.block_lt_of_cell? _ _ hx.c0)
    exact ⟨hb7.below h.out (World.block_lt_of_cell? _ _ hb7.c0), (h.out.cell (p := ⟨fb, 0, none⟩) (World.block_lt_of_cell? _ _ f1)).trans f1, (h.out.cell (p := ⟨fb, 1, none⟩) (World.block_lt_of_cell? _ _ f2)).trans f2, (h.out.cell (p := ⟨lb, 0, none⟩) (World.block_lt_of_cell? _ _ f3)).trans f3⟩
  fin := fun W h => (hw.trans (hb.mono hw.size)).trans (h.out.mono (hw.trans (hb.mono hw.size)).size)
  pts := hp.up hb (Nat.le_refl _)
theorem s7_ab {w w5 w7 : World} {kb b k cap : Nat} {D L F S C : Int} {X Y : Nat → Int} (hx : Bx w5 kb (some ⟨b, 0, none⟩) k cap D L F S C) (hp : Pts w5 b 0 k X Y) (hw : Below w.heap.size w w5) (x0 y0 xm ym : Int)
    (h7 : w7 = ((w5.alloc (.cells #[.int .i64 x0, .int .i64 y0] 42)).alloc (.cells #[.int .i64 xm, .int .i64 ym] 42)).drew) : S7 w w7 kb w5.heap.size (w5.heap.size + 1) b k cap D L F S C x0 y0 xm X Y := by
  subst h7
  exact s7_mk hx hp hw x0 y0 xm ((((Below.refl w5.heap.size w5).alloc (Nat.le_refl _) _).alloc (by simp) _).trans ⟨rfl, rfl, rfl, Nat.le_refl _, fun _ _ => rfl⟩) (by simp) (by simp) (by simp)
theorem s7_ba {w w5 w7 : World} {kb b k cap : Nat} {D L F S C : Int} {X Y : Nat → Int} (hx : Bx w5 kb (some ⟨b, 0, none⟩) k cap D L F S C) (hp : Pts w5 b 0 k X Y) (hw : Below w.heap.size w w5) (x0 y0 xm ym : Int)
    (h7 : w7 = ((w5.alloc (.cells #[.int .i64 xm, .int .i64 ym] 42)).alloc (.cells #[.int .i64 x0, .int .i64 y0] 42)).drew) : S7 w w7 kb (w5.heap.size + 1) w5.heap.size b k cap D L F S C x0 y0 xm X Y := by
  subst h7
  exact s7_mk hx hp hw x0 y0 xm ((((Below.refl w5.heap.size w5).alloc (Nat.le_refl _) _).alloc (by simp) _).trans ⟨rfl, rfl, rfl, Nat.le_refl _, fun _ _ => rfl⟩) (by simp) (by simp) (by simp)

set_option maxRecDepth 100000 in
set_option maxHeartbeats 16000000 in
theorem lba_walk (p : Option Addr) (n c : Nat) (z : Nat → Int) (x y : Int) (w : World) (hr : RdI w p n z) (hn : n ≤ 9223372036854775807) (hz : ∀ i, -9223372036854775808 ≤ z i ∧ z i ≤ 9223372036854775807)
    (hx : -9223372036854775808 ≤ x ∧ x ≤ 9223372036854775807) (hy : -9223372036854775808 ≤ y ∧ y ≤ 9223372036854775807) :
    Calls Try.prog 4 #[.slice p n c, .int .i64 x, .int .i64 y] w fun e w' => e = .returned (.bool true) ∧ Below w.heap.size w w' := by
  have HN := Lib.hid (new_any p n c z w hn hz hr)
  have HM2 := Lib.hid (fun W => mod_any y 1000 W hy (by omega) (by omega))
  have n1 := md_lo y 1000 (by omega)
  have n2 := md_hi y 1000 (by omega)
  have HXX := Lib.hid hx
  clear hr hz hn hy hx
  generalize md y 1000 = t at *
  go_enter Try.func4, Try.ntmps4
  go_wp2_with (first
    | (go_at_call 8; refine HN.out.mono ?_; rintro e w1 ⟨rfl, hd1, hb1⟩)
    | (go_at_call 9; refine (reservoir_any w.heap.size p n c z _ hd1).mono ?_; rintro e w4 ⟨b, cap, k, m, X, Y, D, L, F, S, C, rfl, hk, m4, hwb, hpt, hres, hbd, hd4, hg4⟩; have HK := Lib.hid hk; have HPT := Lib.hid hpt; have HRS := Lib.hid hres; have HBD := Lib.hid hbd; have HBL : Hid (Below w.heap.size w w4) := (hb1.grown hg4 hb1.size (by intro k hk; cases hk; exact Nat.le_refl _)); clear hk hpt hres hbd hd4 hg4 hd1))
  have HX := Lib.hid (bx_alloc w4 (some ⟨b, 0, none⟩) k cap D L F S C 24)
  have HP5 := Lib.hid (HPT.out.alloc (.cells #[.slice (some ⟨b, 0, none⟩) k cap, .int .i64 D, .int .i64 L, .int .i64 F, .int .i64 S, .int .i64 C] 24))
  have HW5 := Lib.hid (HBL.out.alloc HBL.out.size (.cells #[.slice (some ⟨b, 0, none⟩) k cap, .int .i64 D, .int .i64 L, .int .i64 F, .int .i64 S, .int .i64 C] 24))
  clear HN HPT HBL hb1
  generalize w4.alloc (.cells #[.slice (some ⟨b, 0, none⟩) k cap, .int .i64 D, .int .i64 L, .int .i64 F, .int .i64 S, .int .i64 C] 24) = w5 at *
  generalize w4.heap.size = kb at *
  have hb5 : Hid (Below w5.heap.size w5 w5) := Below.refl _ _
  have HFin : Hid (∀ W, Hid (Below w5.heap.size w5 W) → Below w.heap.size w W) := fun W h => HW5.out.trans (h.out.mono HW5.out.size)
  have HCel : Hid (∀ W, Hid (Below w5.heap.size w5 W) → Bx W kb (some ⟨b, 0, none⟩) k cap D L F S C) := fun W h => HX.out.below h.out (World.block_lt_of_cell? _ _ HX.out.c0)
  obtain ⟨c0, c1, c2, c3, c4, c5⟩ := HX.out
  have hx0m := HRS.out.cur.asc.xle m 0 (Nat.zero_le _) (Nat.le_refl _)
  obtain ⟨p1, p2, p3, p4, p5, p6⟩ := HBD.out
  have HM1 := Lib.hid (fun W => mod_any x (X m - X 0 + 1) W HXX.out (by omega) (by omega))
  have s1 := md_lo x (X m - X 0 + 1) (by omega)
  have s2 := md_hi x (X m - X 0 + 1) (by omega)
  generalize md x (X m - X 0 + 1) = s at *
  have HPK := Lib.hid (fun (w7 : World) (h : Pts w7 b 0 k X Y) => ba3_pack (w5 := w7) (cap := cap) HK.out h HRS.out (X 0 + s) (Y 0 + t) ⟨by omega, by omega⟩ p1 p3 ⟨by omega, by omega⟩ p4 p6)
  have hk0 : (0 : Int) < (k : Int) := by have := HK.out; omega
  have hk0n : 0 < k := by have := HK.out; omega
  have hk1 : (k : Int) - 1 = (m : Int) := by have := HK.out; omega
  have hwk : IntKind.i64.wrap ((k : Int) - 1) = (m : Int) := by rw [IntKind.wrap_i64]; omega
  have hkm : (m : Int) < (k : Int) := by omega
  have i0 := HP5.out.2 0 hk0n
  have im := HP5.out.2 m (by have := HK.out; omega)
  simp only [Nat.zero_add, Nat.zero_mul] at i0 im
  obtain ⟨i1, i2⟩ := i0
  obtain ⟨i3, i4⟩ := im
  generalize X 0 = x0 at *
  generalize X m = xm at *
  generalize Y 0 = y0 at *
  generalize Y m = ym at *
  clear HXX
  have hwm : IntKind.i64.wrap (m : Int) = (m : Int) := by rw [IntKind.wrap_i64]; omega
  have hbs : b < w5.heap.size := HP5.out.1
  have hks : kb < w5.heap.size := World.block_lt_of_cell? _ _ c0
  have hu1 : IntKind.i64.wrap (xm - x0) = xm - x0 := by rw [IntKind.wrap_i64]; omega
  have hu2 : IntKind.i64.wrap (xm - x0 + 1) = xm - x0 + 1 := by rw [IntKind.wrap_i64]; omega
  have hu3 : IntKind.i64.wrap (x0 + s) = x0 + s := by rw [IntKind.wrap_i64]; omega
  have hu4 : IntKind.i64.wrap (y0 + t) = y0 + t := by rw [IntKind.wrap_i64]; omega
  go_cut [8, 9] (fun s8 s9 wx => ∃ fb lb : Nat, s8 = .pointer (some ⟨fb, 0, none⟩) ∧ s9 = .pointer (some ⟨lb, 0, none⟩) ∧ Hid (S7 w wx kb fb lb b k cap D L F S C x0 y0 xm X Y))
  case first =>
    go_region
    · go_wp2_with fail
      go_meet
      exact ⟨_, _, rfl, rfl, s7_ab HX.out HP5.out HW5.out x0 y0 xm ym rfl⟩
    · go_wp2_with fail
      go_meet
      exact ⟨_, _, rfl, rfl, s7_ba HX.out HP5.out HW5.out x0 y0 xm ym rfl⟩
  case rest =>
    obtain ⟨fb, lb, rfl, rfl, HS7⟩ := hcut
    clear HX HP5 HW5 hb5 HFin HCel hbs hks i1 i2 i3 i4 c0 c1 c2 c3 c4 c5
    obtain ⟨w7, hw7⟩ : ∃ w7, w7 = wc := ⟨_, rfl⟩
    subst hw7
    obtain ⟨v, yy, zz, u, kk, HRI, g1, g2, g3, g4, g5⟩ := HPK.out _ HS7.out.pts
    have hb5 : Hid (Below w7.heap.size w7 w7) := Below.refl _ _
    obtain ⟨⟨c0, c1, c2, c3, c4, c5⟩, f1, f2, f3⟩ := HS7.out.cel _ hb5
    have d1 : decide (x0 + s ≤ yy) = true := by rw [decide_eq_true_eq]; exact g1
    have d2 : decide (u ≤ y0 + t) = true := by rw [decide_eq_true_eq]; exact g2
    have HG3 := Lib.hid g3
    clear HPK g3
    go_upto_region 3 with fail
    go_cut [10] (fun s10 wx => s10 = .int .i64 (x0 + s) ∧ Hid (Below w7.heap.size w7 wx))
    case first =>
      go_quiet (refine (HM1.out _).mono fun e w' h => ⟨h.1, _, h.2.symm⟩)
      go_wp2_with fail
      go_meet
      exact ⟨rfl, bel_drewN hb5.out _⟩
    case rest =>
      obtain ⟨rfl, hb6⟩ := hcut
      clear hb5 c0 c1 c2 c3 c4 c5 f1 f2 f3
      obtain ⟨⟨c0, c1, c2, c3, c4, c5⟩, f1, f2, f3⟩ := HS7.out.cel _ hb6
      go_upto_region 6 with (first
        | (go_at_call 14; refine (HRI.out.VX _ (by assumption)).mono ?_; clear c0 c1 c2 c3 c4 c5 f1 f2 f3; rintro e w9 ⟨rfl, hb5⟩; have hcf := HS7.out.cel _ hb5; obtain ⟨⟨c0, c1, c2, c3, c4, c5⟩, f1, f2, f3⟩ := hcf)
        | (go_at_call 16; refine (HRI.out.LV _ (by assumption)).mono ?_; clear c0 c1 c2 c3 c4 c5 f1 f2 f3; rintro e w9 ⟨rfl, hb5⟩; have hcf := HS7.out.cel _ hb5; obtain ⟨⟨c0, c1, c2, c3, c4, c5⟩, f1, f2, f3⟩ := hcf))
      go_cut [15] (fun s15 wx => s15 = .int .i64 (y0 + t) ∧ Hid (Below w7.heap.size w7 wx))
      case first =>
        go_quiet (refine (HM2.out _).mono fun e w' h => ⟨h.1, _, h.2.symm⟩)
        go_wp2_with fail
        go_meet
        exact ⟨rfl, bel_drewN hb5.out _⟩
      case rest =>
        obtain ⟨rfl, hb8⟩ := hcut
        clear hb5 hb6 c0 c1 c2 c3 c4 c5 f1 f2 f3
        obtain ⟨⟨c0, c1, c2, c3, c4, c5⟩, f1, f2, f3⟩ := HS7.out.cel _ hb8
        rcases HG3.out with g3 | ⟨g3, g6⟩
        · have d3 : (zz == xm) = true := by simpa using g3
          clear HG3 g3
          go_wp2_with
        (first
          | (go_at_call 16; refine (HRI.out.LW _ (by assumption)).mono ?_; clear c0 c1 c2 c3 c4 c5 f1 f2 f3; rintro e w11 ⟨rfl, hb5⟩; have hcf := HS7.out.cel _ hb5; obtain ⟨⟨c0, c1, c2, c3, c4, c5⟩, f1, f2, f3⟩ := hcf)
          | (go_at_call 14; first
            | (go_at_call_has 14 (Value.int .i64 (zz + 1)); refine (HRI.out.VK _ (by assumption)).mono ?_; clear c0 c1 c2 c3 c4 c5 f1 f2 f3; rintro e w11 ⟨rfl, hb5⟩; have hcf := HS7.out.cel _ hb5; obtain ⟨⟨c0, c1, c2, c3, c4, c5⟩, f1, f2, f3⟩ := hcf)
            | (go_at_call_has 14 (Value.int .i64 zz); refine (HRI.out.VZ _ (by assumption)).mono ?_; clear c0 c1 c2 c3 c4 c5 f1 f2 f3; rintro e w11 ⟨rfl, hb5⟩; have hcf := HS7.out.cel _ hb5; obtain ⟨⟨c0, c1, c2, c3, c4, c5⟩, f1, f2, f3⟩ := hcf))
          | (go_at_call 24; refine (awk_later _ (by assumption)).mono ?_; rintro e w12 ⟨rfl, hb5⟩))
          go_ret
          exact ⟨rfl, HS7.out.fin _ hb5⟩
        · have d3 : (zz == xm) = false := by simpa using g3
          have d4 : decide (y0 + t < kk) = true := by rw [decide_eq_true_eq]; exact g6
          clear HG3 g3 g6
          go_wp2_with
        (first
          | (go_at_call 16; refine (HRI.out.LW _ (by assumption)).mono ?_; clear c0 c1 c2 c3 c4 c5 f1 f2 f3; rintro e w11 ⟨rfl, hb5⟩; have hcf := HS7.out.cel _ hb5; obtain ⟨⟨c0, c1, c2, c3, c4, c5⟩, f1, f2, f3⟩ := hcf)
          | (go_at_call 14; first
            | (go_at_call_has 14 (Value.int .i64 (zz + 1)); refine (HRI.out.VK _ (by assumption)).mono ?_; clear c0 c1 c2 c3 c4 c5 f1 f2 f3; rintro e w11 ⟨rfl, hb5⟩; have hcf := HS7.out.cel _ hb5; obtain ⟨⟨c0, c1, c2, c3, c4, c5⟩, f1, f2, f3⟩ := hcf)
            | (go_at_call_has 14 (Value.int .i64 zz); refine (HRI.out.VZ _ (by assumption)).mono ?_; clear c0 c1 c2 c3 c4 c5 f1 f2 f3; rintro e w11 ⟨rfl, hb5⟩; have hcf := HS7.out.cel _ hb5; obtain ⟨⟨c0, c1, c2, c3, c4, c5⟩, f1, f2, f3⟩ := hcf))
          | (go_at_call 24; refine (awk_later _ (by assumption)).mono ?_; rintro e w12 ⟨rfl, hb5⟩))
          go_ret
          exact ⟨rfl, HS7.out.fin _ hb5⟩
end Go.Proofs.Ytglimagkfapcaaa.Cu

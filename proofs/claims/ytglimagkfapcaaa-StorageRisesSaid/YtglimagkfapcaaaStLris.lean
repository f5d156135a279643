/-
  The walk of the law StorageRises.
-/
import Derived.Test.YtglimagkfapcaaaStAwk
import Derived.Test.YtglimagkfapcaaaStRes
import Derived.Test.YtglimagkfapcaaaStRow
namespace Go.Proofs.Ytglimagkfapcaaa.Cu
open Go.ChangeShapes Go.WideShapes Go.ChangeAt Go.RowKit
set_option linter.unusedVariables false

/-- What the law looks at, by names. -/
structure Ris3 (w5 : World) (b k cap : Nat) (D L F S C x y P Q u v mm nn : Int) : Prop where
  LP : ∀ W, Hid (Below w5.heap.size w5 W) → Calls Try.prog 16 #[.agg #[.slice (some ⟨b, 0, none⟩) k cap, .int .i64 D, .int .i64 L, .int .i64 F, .int .i64 S, .int .i64 C], .int .i64 (2 * x)] W fun e w' => e = .returned (.tuple #[.int .i64 (P), .int .i64 0]) ∧ Hid (Below w5.heap.size w5 w')
  LQ : ∀ W, Hid (Below w5.heap.size w5 W) → Calls Try.prog 16 #[.agg #[.slice (some ⟨b, 0, none⟩) k cap, .int .i64 D, .int .i64 L, .int .i64 F, .int .i64 S, .int .i64 C], .int .i64 (2 * y)] W fun e w' => e = .returned (.tuple #[.int .i64 (Q), .int .i64 0]) ∧ Hid (Below w5.heap.size w5 w')
  VX : ∀ W, Hid (Below w5.heap.size w5 W) → Calls Try.prog 14 #[.agg #[.slice (some ⟨b, 0, none⟩) k cap, .int .i64 D, .int .i64 L, .int .i64 F, .int .i64 S, .int .i64 C], .int .i64 x] W fun e w' => e = .returned (.tuple #[.int .i64 (u), .int .i64 0]) ∧ Hid (Below w5.heap.size w5 w')
  VY : ∀ W, Hid (Below w5.heap.size w5 W) → Calls Try.prog 14 #[.agg #[.slice (some ⟨b, 0, none⟩) k cap, .int .i64 D, .int .i64 L, .int .i64 F, .int .i64 S, .int .i64 C], .int .i64 y] W fun e w' => e = .returned (.tuple #[.int .i64 (v), .int .i64 0]) ∧ Hid (Below w5.heap.size w5 w')
  ZX : ∀ W, Hid (Below w5.heap.size w5 W) → Calls Try.prog 18 #[.agg #[.slice (some ⟨b, 0, none⟩) k cap, .int .i64 D, .int .i64 L, .int .i64 F, .int .i64 S, .int .i64 C], .int .i64 x] W fun e w' => e = .returned (.tuple #[.int .i64 (mm), .int .i64 0]) ∧ Hid (Below w5.heap.size w5 w')
  ZY : ∀ W, Hid (Below w5.heap.size w5 W) → Calls Try.prog 18 #[.agg #[.slice (some ⟨b, 0, none⟩) k cap, .int .i64 D, .int .i64 L, .int .i64 F, .int .i64 S, .int .i64 C], .int .i64 y] W fun e w' => e = .returned (.tuple #[.int .i64 (nn), .int .i64 0]) ∧ Hid (Below w5.heap.size w5 w')
theorem ris3_pack {w5 : World} {b k m cap : Nat} {X Y : Nat → Int} {D L F S C : Int} (hk : k = m + 1) (hp : Pts w5 b 0 k X Y) (hr : Res X Y m D L F S C) (x y : Int) (hx : 0 ≤ x) (hxy : x ≤ y) (hy : y < 400) :
    ∃ P Q u v mm nn, Hid (Ris3 w5 b k cap D L F S C x y P Q u v mm nn) ∧ P ≤ Q ∧ u ≤ v ∧ mm ≤ nn :=
  ⟨levV X Y m (2 * x), levV X Y m (2 * y), val X Y m x, val X Y m y, zon D L F S C x, zon D L F S C y, ⟨lev_later hk hp hr _ (by omega), lev_later hk hp hr _ (by omega), vol_later hk hp hr _ (by omega), vol_later hk hp hr _ (by omega), zone_later hk hp hr _ (by omega), zone_later hk hp hr _ (by omega)⟩,
    lev_mono hr.cur (by omega), val_mono X Y m hr.cur.asc _ _ hxy, zon_mono ⟨hr.lev.2.1, hr.lev.2.2.1, hr.lev.2.2.2.1, hr.lev.2.2.2.2.1⟩ hxy⟩

set_option maxRecDepth 100000 in
set_option maxHeartbeats 16000000 in
theorem lris_walk (p : Option Addr) (n c : Nat) (z : Nat → Int) (x y : Int) (w : World) (hr : RdI w p n z) (hn : n ≤ 9223372036854775807) (hz : ∀ i, -9223372036854775808 ≤ z i ∧ z i ≤ 9223372036854775807)
    (hx : -9223372036854775808 ≤ x ∧ x ≤ 9223372036854775807) (hy : -9223372036854775808 ≤ y ∧ y ≤ 9223372036854775807) :
    Calls Try.prog 5 #[.slice p n c, .int .i64 x, .int .i64 y] w fun e w' => e = .returned (.bool true) ∧ Below w.heap.size w w' := by
  have HN := Lib.hid (new_any p n c z w hn hz hr)
  have HM1 := Lib.hid (fun W => mod_any x 400 W hx (by omega) (by omega))
  have HM2 := Lib.hid (fun W => mod_any y 400 W hy (by omega) (by omega))
  have v1 := md_lo x 400 (by omega)
  have v2 := md_hi x 400 (by omega)
  have n1 := md_lo y 400 (by omega)
  have n2 := md_hi y 400 (by omega)
  clear hr hz hn hx hy
  generalize md x 400 = s at *
  generalize md y 400 = t at *
  go_enter Try.func5, Try.ntmps5
  go_wp2_with (first
    | (go_at_call 8; refine HN.out.mono ?_; rintro e w1 ⟨rfl, hd1, hb1⟩)
    | (go_at_call 9; refine (reservoir_any w.heap.size p n c z _ hd1).mono ?_; rintro e w4 ⟨b, cap, k, m, X, Y, D, L, F, S, C, rfl, hk, m4, hwb, hpt, hres, hbd, hd4, hg4⟩; have HK := Lib.hid hk; have HPT := Lib.hid hpt; have HRS := Lib.hid hres; have HBD := Lib.hid hbd; have HBL : Hid (Below w.heap.size w w4) := (hb1.grown hg4 hb1.size (by intro k hk; cases hk; exact Nat.le_refl _)); clear hk hpt hres hbd hd4 hg4 hd1))
  have HX := Lib.hid (bx_alloc w4 (some ⟨b, 0, none⟩) k cap D L F S C 24)
  have HP5 := Lib.hid (HPT.out.alloc (.cells #[.slice (some ⟨b, 0, none⟩) k cap, .int .i64 D, .int .i64 L, .int .i64 F, .int .i64 S, .int .i64 C] 24))
  have HW5 := Lib.hid (HBL.out.alloc HBL.out.size (.cells #[.slice (some ⟨b, 0, none⟩) k cap, .int .i64 D, .int .i64 L, .int .i64 F, .int .i64 S, .int .i64 C] 24))
  clear HN HPT HBL hb1
  generalize w4.alloc (.cells #[.slice (some ⟨b, 0, none⟩) k cap, .int .i64 D, .int .i64 L, .int .i64 F, .int .i64 S, .int .i64 C] 24) = w5 at *
  generalize w4.heap.size = kb at *
  have hb5 : Hid (Below w5.heap.size w5 w5) := Below.refl _ _
  have HFin : Hid (∀ W, Hid (Below w5.heap.size w5 W) → Below w.heap.size w W) := fun W h => HW5.out.trans (h.out.mono HW5.out.size)
  have HCel : Hid (∀ W, Hid (Below w5.heap.size w5 W) → Bx W kb (some ⟨b, 0, none⟩) k cap D L F S C) := fun W h => HX.out.below h.out (World.block_lt_of_cell? _ _ HX.out.c0)
  obtain ⟨c0, c1, c2, c3, c4, c5⟩ := HX.out
  by_cases h : t < s
  · obtain ⟨P, Q, u, v, mm, nn, HRI, g1, g2, g3⟩ := ris3_pack (cap := cap) HK.out HP5.out HRS.out t s (by omega) (by omega) (by omega)
    have d1 : decide (P ≤ Q) = true := by rw [decide_eq_true_eq]; exact g1
    have d2 : decide (u ≤ v) = true := by rw [decide_eq_true_eq]; exact g2
    have d3 : decide (mm ≤ nn) = true := by rw [decide_eq_true_eq]; exact g3
    clear HX HP5 HW5 HBD HRS
    go_wp2_with (first
      | (go_at_call 25; first | (go_at_call_has 25 (Value.int .i64 x); refine (HM1.out _).mono ?_; rintro e w' ⟨rfl, rfl⟩) | (go_at_call_has 25 (Value.int .i64 y); refine (HM2.out _).mono ?_; rintro e w' ⟨rfl, rfl⟩))
      | (go_at_call 16; go_at_call_has 16 (Value.int .i64 (2 * t)); refine (HRI.out.LP _ (by assumption)).mono ?_; clear c0 c1 c2 c3 c4 c5; rintro e w6 ⟨rfl, hb5⟩; have hbx := HCel.out _ hb5; obtain ⟨c0, c1, c2, c3, c4, c5⟩ := hbx)
      | (go_at_call 16; go_at_call_has 16 (Value.int .i64 (2 * s)); refine (HRI.out.LQ _ (by assumption)).mono ?_; clear c0 c1 c2 c3 c4 c5; rintro e w6 ⟨rfl, hb5⟩; have hbx := HCel.out _ hb5; obtain ⟨c0, c1, c2, c3, c4, c5⟩ := hbx)
      | (go_at_call 14; go_at_call_has 14 (Value.int .i64 t); refine (HRI.out.VX _ (by assumption)).mono ?_; clear c0 c1 c2 c3 c4 c5; rintro e w6 ⟨rfl, hb5⟩; have hbx := HCel.out _ hb5; obtain ⟨c0, c1, c2, c3, c4, c5⟩ := hbx)
      | (go_at_call 14; go_at_call_has 14 (Value.int .i64 s); refine (HRI.out.VY _ (by assumption)).mono ?_; clear c0 c1 c2 c3 c4 c5; rintro e w6 ⟨rfl, hb5⟩; have hbx := HCel.out _ hb5; obtain ⟨c0, c1, c2, c3, c4, c5⟩ := hbx)
      | (go_at_call 18; go_at_call_has 18 (Value.int .i64 t); refine (HRI.out.ZX _ (by assumption)).mono ?_; clear c0 c1 c2 c3 c4 c5; rintro e w6 ⟨rfl, hb5⟩; have hbx := HCel.out _ hb5; obtain ⟨c0, c1, c2, c3, c4, c5⟩ := hbx)
      | (go_at_call 18; go_at_call_has 18 (Value.int .i64 s); refine (HRI.out.ZY _ (by assumption)).mono ?_; clear c0 c1 c2 c3 c4 c5; rintro e w6 ⟨rfl, hb5⟩; have hbx := HCel.out _ hb5; obtain ⟨c0, c1, c2, c3, c4, c5⟩ := hbx)
      | (go_at_call 24; refine (awk_later _ (by assumption)).mono ?_; rintro e w6 ⟨rfl, hb5⟩))
    go_ret
    exact ⟨rfl, HFin.out _ hb5⟩
  · obtain ⟨P, Q, u, v, mm, nn, HRI, g1, g2, g3⟩ := ris3_pack (cap := cap) HK.out HP5.out HRS.out s t (by omega) (by omega) (by omega)
    have d1 : decide (P ≤ Q) = true := by rw [decide_eq_true_eq]; exact g1
    have d2 : decide (u ≤ v) = true := by rw [decide_eq_true_eq]; exact g2
    have d3 : decide (mm ≤ nn) = true := by rw [decide_eq_true_eq]; exact g3
    clear HX HP5 HW5 HBD HRS
    go_wp2_with (first
      | (go_at_call 25; first | (go_at_call_has 25 (Value.int .i64 x); refine (HM1.out _).mono ?_; rintro e w' ⟨rfl, rfl⟩) | (go_at_call_has 25 (Value.int .i64 y); refine (HM2.out _).mono ?_; rintro e w' ⟨rfl, rfl⟩))
      | (go_at_call 16; go_at_call_has 16 (Value.int .i64 (2 * s)); refine (HRI.out.LP _ (by assumption)).mono ?_; clear c0 c1 c2 c3 c4 c5; rintro e w6 ⟨rfl, hb5⟩; have hbx := HCel.out _ hb5; obtain ⟨c0, c1, c2, c3, c4, c5⟩ := hbx)
      | (go_at_call 16; go_at_call_has 16 (Value.int .i64 (2 * t)); refine (HRI.out.LQ _ (by assumption)).mono ?_; clear c0 c1 c2 c3 c4 c5; rintro e w6 ⟨rfl, hb5⟩; have hbx := HCel.out _ hb5; obtain ⟨c0, c1, c2, c3, c4, c5⟩ := hbx)
      | (go_at_call 14; go_at_call_has 14 (Value.int .i64 s); refine (HRI.out.VX _ (by assumption)).mono ?_; clear c0 c1 c2 c3 c4 c5; rintro e w6 ⟨rfl, hb5⟩; have hbx := HCel.out _ hb5; obtain ⟨c0, c1, c2, c3, c4, c5⟩ := hbx)
      | (go_at_call 14; go_at_call_has 14 (Value.int .i64 t); refine (HRI.out.VY _ (by assumption)).mono ?_; clear c0 c1 c2 c3 c4 c5; rintro e w6 ⟨rfl, hb5⟩; have hbx := HCel.out _ hb5; obtain ⟨c0, c1, c2, c3, c4, c5⟩ := hbx)
      | (go_at_call 18; go_at_call_has 18 (Value.int .i64 s); refine (HRI.out.ZX _ (by assumption)).mono ?_; clear c0 c1 c2 c3 c4 c5; rintro e w6 ⟨rfl, hb5⟩; have hbx := HCel.out _ hb5; obtain ⟨c0, c1, c2, c3, c4, c5⟩ := hbx)
      | (go_at_call 18; go_at_call_has 18 (Value.int .i64 t); refine (HRI.out.ZY _ (by assumption)).mono ?_; clear c0 c1 c2 c3 c4 c5; rintro e w6 ⟨rfl, hb5⟩; have hbx := HCel.out _ hb5; obtain ⟨c0, c1, c2, c3, c4, c5⟩ := hbx)
      | (go_at_call 24; refine (awk_later _ (by assumption)).mono ?_; rintro e w6 ⟨rfl, hb5⟩))
    go_ret
    exact ⟨rfl, HFin.out _ hb5⟩
end Go.Proofs.Ytglimagkfapcaaa.Cu

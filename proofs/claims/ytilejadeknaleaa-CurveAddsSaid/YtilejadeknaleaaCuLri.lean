/-
  The walk of the law CurveRises.
-/
import Derived.Test.YtilejadeknaleaaCuRow
import Derived.Sort.AtCall
namespace Go.Proofs.Ytilejadeknaleaa.Cu
open Go.ChangeShapes Go.WideShapes Go.ChangeAt Go.RowKit
set_option linter.unusedVariables false

theorem fi_facts {X Y : Nat → Int} {m : Nat} (h : Cur X Y m) (y : Int) :
    (fiB Y m y = true ∧ X 0 < fiV X Y m y ∧ fiV X Y m y ≤ X m ∧ y ≤ val X Y m (fiV X Y m y) ∧ val X Y m (fiV X Y m y - 1) < y) ∨
    (fiB Y m y = true ∧ X 0 ≤ fiV X Y m y ∧ fiV X Y m y ≤ X 0 ∧ fiV X Y m y ≤ X m ∧ y ≤ val X Y m (fiV X Y m y)) ∨ (fiB Y m y = false ∧ Y m < y ∧ fiV X Y m y = 0) := by
  unfold fiB fiV
  by_cases hy : Y m < y
  · rw [if_pos hy, decide_eq_true hy]; exact .inr (.inr ⟨rfl, hy, rfl⟩)
  · rw [if_neg hy, decide_eq_false hy]
    obtain ⟨f1, f2, f3, f4⟩ := fst_spec X Y m h.asc y (by omega)
    by_cases hx : X 0 < fst X Y m y
    · exact .inl ⟨rfl, hx, f2, f3, f4 _ hx (by omega)⟩
    · exact .inr (.inl ⟨rfl, f1, by omega, f2, f3⟩)
theorem la_facts {X Y : Nat → Int} {m : Nat} (h : Cur X Y m) (y : Int) :
    (laB Y y = true ∧ X 0 ≤ laV X Y m y ∧ laV X Y m y < X m ∧ val X Y m (laV X Y m y) ≤ y ∧ y < val X Y m (laV X Y m y + 1)) ∨
    (laB Y y = true ∧ X 0 ≤ laV X Y m y ∧ laV X Y m y ≤ X m ∧ X m ≤ laV X Y m y ∧ val X Y m (laV X Y m y) ≤ y) ∨ (laB Y y = false ∧ y < Y 0 ∧ laV X Y m y = 0) := by
  unfold laB laV
  by_cases hy : y < Y 0
  · rw [if_pos hy, decide_eq_true hy]; exact .inr (.inr ⟨rfl, hy, rfl⟩)
  · rw [if_neg hy, decide_eq_false hy]
    by_cases hz : Y m ≤ y
    · rw [if_pos hz]
      have hx := h.asc.xle m 0 (Nat.zero_le _) (Nat.le_refl _)
      exact .inr (.inl ⟨rfl, hx, Int.le_refl _, Int.le_refl _, by rw [val_high X Y m _ (Int.le_refl _)]; exact hz⟩)
    · rw [if_neg hz]
      obtain ⟨f1, f2, f3, f4⟩ := fst_spec X Y m h.asc (y + 1) (by omega)
      have hx : X 0 < fst X Y m (y + 1) := by
        apply Classical.byContradiction
        intro hc
        have e : fst X Y m (y + 1) = X 0 := by omega
        rw [e, val_low X Y m h.asc _ (Int.le_refl _)] at f3
        omega
      have h5 := f4 _ hx (show fst X Y m (y + 1) - 1 < _ by omega)
      exact .inl ⟨rfl, by omega, by omega, by omega, by rw [show fst X Y m (y + 1) - 1 + 1 = fst X Y m (y + 1) by omega]; omega⟩

/-- The three searches at any later world. -/
theorem at_later {w4 : World} {b off k m c : Nat} {X Y : Nat → Int} (hk : k = m + 1) (hp : Pts w4 b off k X Y) (hc : Cur X Y m) (x : Int) (W : World) (hb : Hid (Below w4.heap.size w4 W)) :
    Calls Try.prog 17 #[.slice (some ⟨b, off, none⟩) k c, .int .i64 x] W fun e w' => e = .returned (.tuple #[.int .i64 (val X Y m x), .int .i64 0]) ∧ Hid (Below w4.heap.size w4 w') :=
  (at_any b off k m c X Y x W hk (hp.up hb.out (Nat.le_refl _)) hc).mono fun _ _ ⟨he, h⟩ => ⟨he, hb.out.trans (h.mono hb.out.size)⟩
theorem first_later {w4 : World} {b off k m c : Nat} {X Y : Nat → Int} (hk : k = m + 1) (hp : Pts w4 b off k X Y) (hc : Cur X Y m) (y : Int) (W : World) (hb : Hid (Below w4.heap.size w4 W)) :
    Calls Try.prog 18 #[.slice (some ⟨b, off, none⟩) k c, .int .i64 y] W fun e w' => e = .returned (.tuple #[.int .i64 (fiV X Y m y), .bool (fiB Y m y), .int .i64 0]) ∧ Hid (Below w4.heap.size w4 w') :=
  (first_any b off k m c X Y y W hk (hp.up hb.out (Nat.le_refl _)) hc).mono fun _ _ ⟨he, h⟩ => ⟨he, hb.out.trans (h.mono hb.out.size)⟩
theorem last_later {w4 : World} {b off k m c : Nat} {X Y : Nat → Int} (hk : k = m + 1) (hp : Pts w4 b off k X Y) (hc : Cur X Y m) (y : Int) (hy : -9223372036854775808 ≤ y ∧ y ≤ 9223372036854775807) (W : World) (hb : Hid (Below w4.heap.size w4 W)) :
    Calls Try.prog 19 #[.slice (some ⟨b, off, none⟩) k c, .int .i64 y] W fun e w' => e = .returned (.tuple #[.int .i64 (laV X Y m y), .bool (laB Y y), .int .i64 0]) ∧ Hid (Below w4.heap.size w4 w') :=
  (last_any b off k m c X Y y W hk (hp.up hb.out (Nat.le_refl _)) hc hy).mono fun _ _ ⟨he, h⟩ => ⟨he, hb.out.trans (h.mono hb.out.size)⟩
theorem awake_later {w4 : World} (W : World) (hb : Hid (Below w4.heap.size w4 W)) : Calls Try.prog 13 #[] W fun e w' => e = .returned (.bool true) ∧ Hid (Below w4.heap.size w4 w') :=
  (awake_any W).mono fun _ _ ⟨he, h⟩ => ⟨he, hb.out.trans (h.mono hb.out.size)⟩

/-- What the law looks at, by names. -/
structure Ri (w4 : World) (b k cap : Nat) (v nn va vb P Q at_ un to_ ov f l y0 ym : Int) (ok is_ : Bool) : Prop where
  A : ∀ W, Hid (Below w4.heap.size w4 W) → Calls Try.prog 17 #[.slice (some ⟨b, 0, none⟩) k cap, .int .i64 v] W fun e w' => e = .returned (.tuple #[.int .i64 va, .int .i64 0]) ∧ Hid (Below w4.heap.size w4 w')
  B : ∀ W, Hid (Below w4.heap.size w4 W) → Calls Try.prog 17 #[.slice (some ⟨b, 0, none⟩) k cap, .int .i64 (v + 1)] W fun e w' => e = .returned (.tuple #[.int .i64 vb, .int .i64 0]) ∧ Hid (Below w4.heap.size w4 w')
  F : ∀ W, Hid (Below w4.heap.size w4 W) → Calls Try.prog 18 #[.slice (some ⟨b, 0, none⟩) k cap, .int .i64 nn] W fun e w' => e = .returned (.tuple #[.int .i64 P, .bool ok, .int .i64 0]) ∧ Hid (Below w4.heap.size w4 w')
  L : ∀ W, Hid (Below w4.heap.size w4 W) → Calls Try.prog 19 #[.slice (some ⟨b, 0, none⟩) k cap, .int .i64 nn] W fun e w' => e = .returned (.tuple #[.int .i64 Q, .bool is_, .int .i64 0]) ∧ Hid (Below w4.heap.size w4 w')
  P0 : ∀ W, Hid (Below w4.heap.size w4 W) → Calls Try.prog 17 #[.slice (some ⟨b, 0, none⟩) k cap, .int .i64 P] W fun e w' => e = .returned (.tuple #[.int .i64 at_, .int .i64 0]) ∧ Hid (Below w4.heap.size w4 w')
  P1 : ∀ W, Hid (Below w4.heap.size w4 W) → Calls Try.prog 17 #[.slice (some ⟨b, 0, none⟩) k cap, .int .i64 (P - 1)] W fun e w' => e = .returned (.tuple #[.int .i64 un, .int .i64 0]) ∧ Hid (Below w4.heap.size w4 w')
  Q0 : ∀ W, Hid (Below w4.heap.size w4 W) → Calls Try.prog 17 #[.slice (some ⟨b, 0, none⟩) k cap, .int .i64 Q] W fun e w' => e = .returned (.tuple #[.int .i64 to_, .int .i64 0]) ∧ Hid (Below w4.heap.size w4 w')
  Q1 : ∀ W, Hid (Below w4.heap.size w4 W) → Calls Try.prog 17 #[.slice (some ⟨b, 0, none⟩) k cap, .int .i64 (Q + 1)] W fun e w' => e = .returned (.tuple #[.int .i64 ov, .int .i64 0]) ∧ Hid (Below w4.heap.size w4 w')
  cells : ∀ (m : Nat), k = m + 1 → ∀ W, Hid (Below w4.heap.size w4 W) → W.cell? ⟨b, 0, none⟩ = some (.int .i64 f) ∧ W.cell? ⟨b, 1, none⟩ = some (.int .i64 y0) ∧ W.cell? ⟨b, m * 2, none⟩ = some (.int .i64 l) ∧ W.cell? ⟨b, m * 2 + 1, none⟩ = some (.int .i64 ym)
theorem ri_pack {w4 : World} {b k m cap : Nat} {X Y : Nat → Int} (hk : k = m + 1) (hp : Pts w4 b 0 k X Y) (hc : Cur X Y m) (v nn : Int) (hn : 0 ≤ nn ∧ nn < 200) :
    ∃ va vb P Q at_ un to_ ov f l y0 ym ok is_, Hid (Ri w4 b k cap v nn va vb P Q at_ un to_ ov f l y0 ym ok is_) ∧ va ≤ vb ∧ (0 ≤ P ∧ P ≤ 1073741824 ∧ 0 ≤ Q ∧ Q ≤ 1073741824) ∧
      ((ok = true ∧ f < P ∧ P ≤ l ∧ nn ≤ at_ ∧ un < nn) ∨ (ok = true ∧ f ≤ P ∧ P ≤ f ∧ P ≤ l ∧ nn ≤ at_) ∨ (ok = false ∧ ym < nn)) ∧
      ((is_ = true ∧ f ≤ Q ∧ Q < l ∧ to_ ≤ nn ∧ nn < ov) ∨ (is_ = true ∧ f ≤ Q ∧ Q ≤ l ∧ l ≤ Q ∧ to_ ≤ nn) ∨ (is_ = false ∧ nn < y0)) := by
  refine ⟨val X Y m v, val X Y m (v + 1), fiV X Y m nn, laV X Y m nn, val X Y m (fiV X Y m nn), val X Y m (fiV X Y m nn - 1), val X Y m (laV X Y m nn), val X Y m (laV X Y m nn + 1), X 0, X m, Y 0, Y m, fiB Y m nn, laB Y nn, ⟨at_later hk hp hc v, at_later hk hp hc _, first_later hk hp hc nn, last_later hk hp hc nn (by omega), at_later hk hp hc _, at_later hk hp hc _, at_later hk hp hc _, at_later hk hp hc _, ?_⟩, val_mono X Y m hc.asc _ _ (by omega), ?_, ?_, ?_⟩
  · intro m' hm' W hb
    obtain rfl : m' = m := by omega
    have h0 := (hp.up hb.out (Nat.le_refl _)).2 0 (by omega)
    have h1 := (hp.up hb.out (Nat.le_refl _)).2 m' (by omega)
    simp only [Nat.zero_add, Nat.zero_mul] at h0 h1
    exact ⟨h0.1, h0.2, h1.1, h1.2⟩
  · have hf := fi_facts hc nn
    have hl := la_facts hc nn
    have a1 := hc.xlo 0 (Nat.zero_le _)
    have a2 := hc.xhi m (Nat.le_refl _)
    omega
  · rcases fi_facts hc nn with h | h | h
    · exact .inl h
    · exact .inr (.inl h)
    · exact .inr (.inr ⟨h.1, h.2.1⟩)
  · rcases la_facts hc nn with h | h | h
    · exact .inl ⟨h.1, h.2.1, h.2.2.1, h.2.2.2.1, h.2.2.2.2⟩
    · exact .inr (.inl ⟨h.1, h.2.1, h.2.2.1, h.2.2.2.1, h.2.2.2.2⟩)
    · exact .inr (.inr ⟨h.1, h.2.1⟩)

set_option maxRecDepth 100000 in
set_option maxHeartbeats 16000000 in
theorem lri_walk (p : Option Addr) (n c : Nat) (z : Nat → Int) (x y : Int) (w : World) (hr : RdI w p n z) (hn : n ≤ 9223372036854775807) (hz : ∀ i, -9223372036854775808 ≤ z i ∧ z i ≤ 9223372036854775807)
    (h1 : -9223372036854775808 ≤ x ∧ x ≤ 9223372036854775807) (h2 : -9223372036854775808 ≤ y ∧ y ≤ 9223372036854775807) :
    Calls Try.prog 4 #[.slice p n c, .int .i64 x, .int .i64 y] w fun e w' => e = .returned (.bool true) ∧ Below w.heap.size w w' := by
  have HN := Lib.hid (new_any p n c z w hn hz hr)
  have HM1 := Lib.hid (fun W => mod_any x 150 W h1 (by omega) (by omega))
  have HM2 := Lib.hid (fun W => mod_any y 200 W h2 (by omega) (by omega))
  have v1 := md_lo x 150 (by omega)
  have v2 := md_hi x 150 (by omega)
  have n1 := md_lo y 200 (by omega)
  have n2 := md_hi y 200 (by omega)
  clear hr hz hn h1 h2
  generalize md x 150 = v at *
  generalize md y 200 = nn at *
  go_enter Try.func4, Try.ntmps4
  go_wp2_with (first
    | (go_at_call 8; refine HN.out.mono ?_; rintro e w1 ⟨rfl, hd1, hb1⟩)
    | (go_at_call 15; first | (refine (next_any w.heap.size p n c z _ _ hd1 (by omega)).mono ?_; rintro e w2 ⟨r1, rfl, r11, r12, hd2, hg2⟩) | (refine (next_any w.heap.size p n c z _ _ hd2 (by omega)).mono ?_; rintro e w3 ⟨r2, rfl, r21, r22, hd3, hg3⟩))
    | (go_at_call 14; refine (curve_any w.heap.size p n c z r1 r2 30 40 false _ hd3 (by omega) (by omega) (by omega) (by omega)).mono ?_; intro e w4 hcv; obtain ⟨b, cap, k, m, X, Y, rfl, m1, m4, hk, hwb, hpt, hcur, hbd, hd4, hg4⟩ := cv_open hcv (by omega) (by omega) (by omega) (by omega); have HK := Lib.hid hk; have hk1 : (k : Int) - 1 = (m : Int) := (by omega); have HPT := Lib.hid hpt; have HCU := Lib.hid hcur; have HBD := Lib.hid hbd; have HBL : Hid (Below w.heap.size w w4) := (hb1.grown (grown_trans (grown_trans hg2 hg3) hg4) hb1.size (by intro k hk; cases hk; exact Nat.le_refl _)); clear hcv hk hpt hcur hbd hd4 hg4 hg2 hg3 hd1 hd2 hd3)
    | (go_at_call 16; first | (go_at_call_has 16 (Value.int .i64 x); refine (HM1.out _).mono ?_; rintro e w' ⟨rfl, rfl⟩; have hb5 : Hid (Below w4.heap.size w4 w4) := Below.refl _ _; obtain ⟨va, vb, P, Q, at_, un, to_, ov, f, l, y0, ym, ok, is_, HRI, hab, ⟨hP0, hP1, hQ0, hQ1⟩, hF, hL⟩ := ri_pack (cap := cap) HK.out HPT.out HCU.out v nn ⟨n1, n2⟩; have HF := Lib.hid hF; have HL := Lib.hid hL; clear hF hL; have dab : decide (vb < va) = false := (by rw [decide_eq_false_iff_not]; omega)) | (go_at_call_has 16 (Value.int .i64 y); refine (HM2.out _).mono ?_; rintro e w' ⟨rfl, rfl⟩))
    | (go_at_call 18; refine (HRI.out.F _ (by assumption)).mono ?_; rintro e w5 ⟨rfl, hb5⟩)
    | (go_at_call 19; refine (HRI.out.L _ (by assumption)).mono ?_; rintro e w5 ⟨rfl, hb5⟩)
    | (go_at_call 17; first
      | (go_at_call_has 17 (Value.int .i64 v); refine (HRI.out.A _ (by assumption)).mono ?_; rintro e w5 ⟨rfl, hb5⟩)
      | (go_at_call_has 17 (Value.int .i64 (v + 1)); refine (HRI.out.B _ (by assumption)).mono ?_; rintro e w5 ⟨rfl, hb5⟩)
      | (go_at_call_has 17 (Value.int .i64 P); refine (HRI.out.P0 _ (by assumption)).mono ?_; rintro e w5 ⟨rfl, hb5⟩)
      | (go_at_call_has 17 (Value.int .i64 (P - 1)); refine (HRI.out.P1 _ (by assumption)).mono ?_; rintro e w5 ⟨rfl, hb5⟩)
      | (go_at_call_has 17 (Value.int .i64 Q); refine (HRI.out.Q0 _ (by assumption)).mono ?_; rintro e w5 ⟨rfl, hb5⟩)
      | (go_at_call_has 17 (Value.int .i64 (Q + 1)); refine (HRI.out.Q1 _ (by assumption)).mono ?_; rintro e w5 ⟨rfl, hb5⟩)))
  obtain ⟨c1, c2, c3, c4⟩ := HRI.out.cells m HK.out _ hb5
  have hk0 : (0 : Int) < (k : Int) := by omega
  have hkm : (m : Int) < (k : Int) := by omega
  have hwm : IntKind.i64.wrap (m : Int) = (m : Int) := by rw [IntKind.wrap_i64]; omega
  have HFin : Hid (∀ W, Hid (Below w4.heap.size w4 W) → Below w.heap.size w W) := fun W h => HBL.out.trans (h.out.mono HBL.out.size)
  clear HN HM1 HM2 HRI HPT HCU HBD HBL HK hb1
  go_quiet (fail)
  have hb6 : Hid (Below w4.heap.size w4 (w5.drewN nq)) := bel_drewN hb5.out nq
  have e2 : (w5.drewN nq).cell? ⟨b, 1, none⟩ = some (.int .i64 y0) := c2
  have e4 : (w5.drewN nq).cell? ⟨b, m * 2 + 1, none⟩ = some (.int .i64 ym) := c4
  clear c1 c2 c3 c4 hb5
  generalize w5.drewN nq = w6 at *
  rcases HF.out with ⟨rfl, f1, f2, f3, f4⟩ | ⟨rfl, f1, f2, f3, f4⟩ | ⟨rfl, f1⟩
  · have g1 : decide (at_ < nn) = false := by rw [decide_eq_false_iff_not]; omega
    have g2 : decide (P < f) = false := by rw [decide_eq_false_iff_not]; omega
    have g3 : decide (l < P) = false := by rw [decide_eq_false_iff_not]; omega
    have g4 : decide (f < P) = true := by rw [decide_eq_true_eq]; omega
    have g5 : decide (nn ≤ un) = false := by rw [decide_eq_false_iff_not]; omega
    clear HF f1 f2 f3 f4
    rcases HL.out with ⟨rfl, l1, l2, l3, l4⟩ | ⟨rfl, l1, l2, l3, l4⟩ | ⟨rfl, l1⟩
    · have j1 : decide (nn < to_) = false := by rw [decide_eq_false_iff_not]; omega
      have j2 : decide (Q < f) = false := by rw [decide_eq_false_iff_not]; omega
      have j3 : decide (l < Q) = false := by rw [decide_eq_false_iff_not]; omega
      have j4 : decide (Q < l) = true := by rw [decide_eq_true_eq]; omega
      have j5 : decide (ov ≤ nn) = false := by rw [decide_eq_false_iff_not]; omega
      clear HL l1 l2 l3 l4
      go_wp2_with (go_at_call 13; refine (awake_later _ (by assumption)).mono ?_; rintro e w9 ⟨rfl, hb9⟩)
      go_ret
      exact ⟨rfl, HFin.out _ hb9⟩
    · have j1 : decide (nn < to_) = false := by rw [decide_eq_false_iff_not]; omega
      have j2 : decide (Q < f) = false := by rw [decide_eq_false_iff_not]; omega
      have j3 : decide (l < Q) = false := by rw [decide_eq_false_iff_not]; omega
      have j4 : decide (Q < l) = false := by rw [decide_eq_false_iff_not]; omega
      clear HL l1 l2 l3 l4
      go_wp2_with (go_at_call 13; refine (awake_later _ (by assumption)).mono ?_; rintro e w9 ⟨rfl, hb9⟩)
      go_ret
      exact ⟨rfl, HFin.out _ hb9⟩
    · have j1 : decide (y0 ≤ nn) = false := by rw [decide_eq_false_iff_not]; omega
      clear HL l1
      go_wp2_with (go_at_call 13; refine (awake_later _ (by assumption)).mono ?_; rintro e w9 ⟨rfl, hb9⟩)
      go_ret
      exact ⟨rfl, HFin.out _ hb9⟩
  · have g1 : decide (at_ < nn) = false := by rw [decide_eq_false_iff_not]; omega
    have g2 : decide (P < f) = false := by rw [decide_eq_false_iff_not]; omega
    have g3 : decide (l < P) = false := by rw [decide_eq_false_iff_not]; omega
    have g4 : decide (f < P) = false := by rw [decide_eq_false_iff_not]; omega
    clear HF f1 f2 f3 f4
    rcases HL.out with ⟨rfl, l1, l2, l3, l4⟩ | ⟨rfl, l1, l2, l3, l4⟩ | ⟨rfl, l1⟩
    · have j1 : decide (nn < to_) = false := by rw [decide_eq_false_iff_not]; omega
      have j2 : decide (Q < f) = false := by rw [decide_eq_false_iff_not]; omega
      have j3 : decide (l < Q) = false := by rw [decide_eq_false_iff_not]; omega
      have j4 : decide (Q < l) = true := by rw [decide_eq_true_eq]; omega
      have j5 : decide (ov ≤ nn) = false := by rw [decide_eq_false_iff_not]; omega
      clear HL l1 l2 l3 l4
      go_wp2_with (go_at_call 13; refine (awake_later _ (by assumption)).mono ?_; rintro e w9 ⟨rfl, hb9⟩)
      go_ret
      exact ⟨rfl, HFin.out _ hb9⟩
    · have j1 : decide (nn < to_) = false := by rw [decide_eq_false_iff_not]; omega
      have j2 : decide (Q < f) = false := by rw [decide_eq_false_iff_not]; omega
      have j3 : decide (l < Q) = false := by rw [decide_eq_false_iff_not]; omega
      have j4 : decide (Q < l) = false := by rw [decide_eq_false_iff_not]; omega
      clear HL l1 l2 l3 l4
      go_wp2_with (go_at_call 13; refine (awake_later _ (by assumption)).mono ?_; rintro e w9 ⟨rfl, hb9⟩)
      go_ret
      exact ⟨rfl, HFin.out _ hb9⟩
    · have j1 : decide (y0 ≤ nn) = false := by rw [decide_eq_false_iff_not]; omega
      clear HL l1
      go_wp2_with (go_at_call 13; refine (awake_later _ (by assumption)).mono ?_; rintro e w9 ⟨rfl, hb9⟩)
      go_ret
      exact ⟨rfl, HFin.out _ hb9⟩
  · have g1 : decide (nn ≤ ym) = false := by rw [decide_eq_false_iff_not]; omega
    clear HF f1
    rcases HL.out with ⟨rfl, l1, l2, l3, l4⟩ | ⟨rfl, l1, l2, l3, l4⟩ | ⟨rfl, l1⟩
    · have j1 : decide (nn < to_) = false := by rw [decide_eq_false_iff_not]; omega
      have j2 : decide (Q < f) = false := by rw [decide_eq_false_iff_not]; omega
      have j3 : decide (l < Q) = false := by rw [decide_eq_false_iff_not]; omega
      have j4 : decide (Q < l) = true := by rw [decide_eq_true_eq]; omega
      have j5 : decide (ov ≤ nn) = false := by rw [decide_eq_false_iff_not]; omega
      clear HL l1 l2 l3 l4
      go_wp2_with (go_at_call 13; refine (awake_later _ (by assumption)).mono ?_; rintro e w9 ⟨rfl, hb9⟩)
      go_ret
      exact ⟨rfl, HFin.out _ hb9⟩
    · have j1 : decide (nn < to_) = false := by rw [decide_eq_false_iff_not]; omega
      have j2 : decide (Q < f) = false := by rw [decide_eq_false_iff_not]; omega
      have j3 : decide (l < Q) = false := by rw [decide_eq_false_iff_not]; omega
      have j4 : decide (Q < l) = false := by rw [decide_eq_false_iff_not]; omega
      clear HL l1 l2 l3 l4
      go_wp2_with (go_at_call 13; refine (awake_later _ (by assumption)).mono ?_; rintro e w9 ⟨rfl, hb9⟩)
      go_ret
      exact ⟨rfl, HFin.out _ hb9⟩
    · have j1 : decide (y0 ≤ nn) = false := by rw [decide_eq_false_iff_not]; omega
      clear HL l1
      go_wp2_with (go_at_call 13; refine (awake_later _ (by assumption)).mono ?_; rintro e w9 ⟨rfl, hb9⟩)
      go_ret
      exact ⟨rfl, HFin.out _ hb9⟩
end Go.Proofs.Ytilejadeknaleaa.Cu

/-
  The contract of valuesOfStep: the values of all gauges for a step, and which are good.
-/
import Derived.Test.YtkflgiopkopeeaaQlCmb
import Derived.Deep.OwnRows
import Derived.Deep.DeepCutAuto
import Derived.BigRegion
namespace Go.Proofs.Ytkflgiopkopeeaa.Ql
open Go.ChangeShapes Go.WideShapes Go.ChangeAt Go.RowKit
open Go.Proofs.Ytkflgiopkopeeaa.Ca (inB inB_yes inB_no Rd)
open Go.Proofs.Ytkflgiopkopeeaa.Cu (updF updF_same updF_other)
open Go.Proofs.Ytkflgiopkopeeaa.Gg (RdR Rs)
set_option linter.unusedVariables false

theorem mk_get (z : Value) (n i : Nat) (h : i < n) : (madeCells #[z] n)[i]? = some z := by
  rw [← Array.getElem?_toList, toList_madeCells_one]
  simp [h]
/-- m lists of verdicts. -/
structure LV (w : World) (p : Option Addr) (m : Nat) (P : Nat → Option Addr) (Ln Cp : Nat → Nat) (F : Nat → Nat → Int) : Prop where
  c : RdV w p m (fun i => .slice (P i) (Ln i) (Cp i))
  r : ∀ i, i < m → Rd w (P i) (Ln i) (F i)
theorem LV.below {w w' : World} {B : Nat} {p : Option Addr} {m : Nat} {P : Nat → Option Addr} {Ln Cp : Nat → Nat} {F : Nat → Nat → Int} (h : LV w p m P Ln Cp F) (hb : Below B w w') (hB : w.heap.size ≤ B) : LV w' p m P Ln Cp F :=
  ⟨h.c.below hb hB, fun i hi => RdV.below (C := iC (F i)) (h.r i hi) hb hB⟩
/-- Two lists of the call's own, filled cell by cell. -/
structure Fb (w : World) (gp gq n : Nat) (P : Nat → Int) (Q : Nat → Bool) (W : World) : Prop where
  own : ∀ i, i < n → W.cell? ⟨gp, i, none⟩ = some (.int .i64 (P i)) ∧ W.frozen? ⟨gp, i, none⟩ = false ∧ W.cell? ⟨gq, i, none⟩ = some (.bool (Q i)) ∧ W.frozen? ⟨gq, i, none⟩ = false
  lp : gp < W.heap.size
  lq : gq < W.heap.size
  ne : gp ≠ gq
  bp : w.heap.size ≤ gp
  bq : w.heap.size ≤ gq
  bel : Below w.heap.size w W
theorem Fb.next {w : World} {gp gq n : Nat} {P : Nat → Int} {Q : Nat → Bool} {W W' : World} (h : Fb w gp gq n P Q W) (hb : Below W.heap.size W W') : Fb w gp gq n P Q W' where
  own := fun i hi => by
    obtain ⟨a, b, c, d⟩ := h.own i hi
    exact ⟨(hb.cell (p := ⟨gp, i, none⟩) h.lp).trans a, (hb.frozen (p := ⟨gp, i, none⟩) h.lp).trans b, (hb.cell (p := ⟨gq, i, none⟩) h.lq).trans c, (hb.frozen (p := ⟨gq, i, none⟩) h.lq).trans d⟩
  lp := Nat.lt_of_lt_of_le h.lp hb.size
  lq := Nat.lt_of_lt_of_le h.lq hb.size
  ne := h.ne
  bp := h.bp
  bq := h.bq
  bel := h.bel.trans (hb.mono h.bel.size)
theorem Fb.store {w : World} {gp gq n : Nat} {P : Nat → Int} {Q : Nat → Bool} {W : World} (h : Fb w gp gq n P Q W) (j : Nat) (hj : j < n) (x : Int) (b : Bool) : Fb w gp gq n (updF P j x) (updB Q j b) ((W.setCell ⟨gp, j, none⟩ (.int .i64 x)).setCell ⟨gq, j, none⟩ (.bool b)) := by
  have hne := h.ne
  have o1 : ∀ (a : Addr) , (⟨gp, j, none⟩ : Addr) ≠ a → (⟨gq, j, none⟩ : Addr) ≠ a → ((W.setCell ⟨gp, j, none⟩ (.int .i64 x)).setCell ⟨gq, j, none⟩ (.bool b)).cell? a = W.cell? a := fun a h1 h2 => (World.cell?_setCell_other _ _ _ _ h2).trans (World.cell?_setCell_other _ _ _ _ h1)
  refine ⟨fun i hi => ?_, by simpa using h.lp, by simpa using h.lq, h.ne, h.bp, h.bq, (h.bel.setCell (p := ⟨gp, j, none⟩) h.bp _).setCell (p := ⟨gq, j, none⟩) h.bq _⟩
  obtain ⟨a, f1, c, f2⟩ := h.own i hi
  obtain ⟨a', _, c', _⟩ := h.own j hj
  refine ⟨?_, by simpa using f1, ?_, by simpa using f2⟩
  · by_cases e : i = j
    · subst e
      rw [updF_same]
      exact (World.cell?_setCell_other _ _ _ _ (by intro e; simp only [Addr.mk.injEq] at e; omega)).trans (World.cell?_setCell_same _ _ _ a')
    · rw [updF_other _ _ e]
      exact (o1 _ (by intro e; simp only [Addr.mk.injEq] at e; omega) (by intro e; simp only [Addr.mk.injEq] at e; omega)).trans a
  · unfold updB
    by_cases e : i = j
    · subst e
      rw [if_pos rfl]
      exact World.cell?_setCell_same _ _ _ ((World.cell?_setCell_other _ _ _ _ (by intro e; simp only [Addr.mk.injEq] at e; omega)).trans c')
    · rw [if_neg e]
      exact (o1 _ (by intro e; simp only [Addr.mk.injEq] at e; omega) (by intro e; simp only [Addr.mk.injEq] at e; omega)).trans c
theorem fb_pq {w W : World} {n : Nat} (hb : Below w.heap.size w W) (t t' : TypeId) : Fb w W.heap.size (W.heap.size + 1) n (fun _ => 0) (fun _ => false) ((W.alloc (.cells (madeCells #[.int .i64 0] n) t)).alloc (.cells (madeCells #[.bool false] n) t')) := by
  have hs := hb.size
  refine ⟨fun i hi => ⟨?_, by simp, ?_, by simp⟩, by simp; omega, by simp, by omega, by omega, by omega, (hb.alloc hs _).alloc (by simp; omega) _⟩
  · simp [mk_get _ _ _ hi]
  · simp [mk_get _ _ _ hi]
theorem fb_qp {w W : World} {n : Nat} (hb : Below w.heap.size w W) (t t' : TypeId) : Fb w (W.heap.size + 1) W.heap.size n (fun _ => 0) (fun _ => false) ((W.alloc (.cells (madeCells #[.bool false] n) t)).alloc (.cells (madeCells #[.int .i64 0] n) t')) := by
  have hs := hb.size
  refine ⟨fun i hi => ⟨?_, by simp, ?_, by simp⟩, by simp, by simp; omega, by omega, by omega, by omega, (hb.alloc hs _).alloc (by simp; omega) _⟩
  · simp [mk_get _ _ _ hi]
  · simp [mk_get _ _ _ hi]
/-- What valuesOfStep returns. -/
def VsP (n : Nat) (V : Nat → Int) (G : Nat → Bool) (w : World) (e : Ending) (w' : World) : Prop :=
  ∃ gp gq, e = .returned (.tuple #[.slice (some ⟨gp, 0, none⟩) n n, .slice (some ⟨gq, 0, none⟩) n n]) ∧ Rd w' (some ⟨gp, 0, none⟩) n V ∧ RdL w' (some ⟨gq, 0, none⟩) n G ∧ Below w.heap.size w w' ∧ w.heap.size ≤ gp ∧ w.heap.size ≤ gq

set_option maxRecDepth 100000 in
set_option maxHeartbeats 4000000 in
theorem vos_any (p q : Option Addr) (m c d step : Nat) (P : Nat → Option Addr) (Ln Cp : Nat → Nat) (RR : Nat → Nat → Nat → Int) (Q : Nat → Option Addr) (Vn Vc : Nat → Nat) (F : Nat → Nat → Int) (w : World) (h : LL w p m P Ln Cp RR) (hv : LV w q m Q Vn Vc F) (hm : m ≤ 1000000) (hs : ∀ i, i < m → step < Ln i ∧ step < Vn i) :
    Calls Try.prog 52 #[.slice p m c, .slice q m d, .int .i64 step] w (VsP m (fun i => RR i step 2) (fun i => F i step == 1) w) := by
  have HL := Lib.hid h
  have HV := Lib.hid hv
  have HS := Lib.hid hs
  have hmi : (m : Int) ≤ 1000000 := by omega
  have hmk1 : ∀ W : World, (Instr.makeSlice 26 (.int .i64 (m : Int)) (.int .i64 (m : Int))).run Try.prog W = .ok (.slice (some ⟨W.heap.size, 0, none⟩) m m) (W.alloc (.cells (madeCells #[.int .i64 0] m) 3)) := fun W => run_make_row' 26 3 (.int .i64 0) 8 Try.underlying26 Try.infoI rfl .i64 .i64 m (by omega) (by omega) W
  have hmk2 : ∀ W : World, (Instr.makeSlice 42 (.int .i64 (m : Int)) (.int .i64 (m : Int))).run Try.prog W = .ok (.slice (some ⟨W.heap.size, 0, none⟩) m m) (W.alloc (.cells (madeCells #[.bool false] m) 4)) := fun W => run_make_row' 42 4 (.bool false) 1 Try.underlying42 Try.infoL rfl .i64 .i64 m (by omega) (by omega) W
  clear h hv hs
  go_enter Try.func52, Try.ntmps52
  go_upto_region 1 with (fail)
  go_cut [8, 9] (fun u8 u9 wx => ∃ gp gq, u8 = .slice (some ⟨gp, 0, none⟩) m m ∧ u9 = .slice (some ⟨gq, 0, none⟩) m m ∧ Hid (Fb w gp gq m (fun _ => 0) (fun _ => false) wx))
  case first =>
    have HPQ := Lib.hid ((fb_pq (n := m) (Below.refl w.heap.size w) 3 4).next (W' := (((w.alloc (.cells (madeCells #[.int .i64 0] m) 3)).alloc (.cells (madeCells #[.bool false] m) 4)).drew)) ⟨rfl, rfl, rfl, Nat.le_refl _, fun _ _ => rfl⟩)
    have HQP := Lib.hid ((fb_qp (n := m) (Below.refl w.heap.size w) 4 3).next (W' := (((w.alloc (.cells (madeCells #[.bool false] m) 4)).alloc (.cells (madeCells #[.int .i64 0] m) 3)).drew)) ⟨rfl, rfl, rfl, Nat.le_refl _, fun _ _ => rfl⟩)
    go_region
    all_goals go_wp2_with fail
    all_goals go_meet
    all_goals first | exact ⟨_, _, rfl, rfl, HPQ⟩ | exact ⟨_, _, rfl, rfl, HQP⟩
  case rest =>
    obtain ⟨gp, gq, rfl, rfl, hfo0⟩ := hcut
    clear hmk1 hmk2
    have HF0 : Hid (∀ i, i < 0 → (fun _ => (0 : Int)) i = RR i step 2 ∧ (fun _ => false) i = (F i step == 1)) := fun i hi => absurd hi (Nat.not_lt_zero _)
    go_wp2
    go_loopw [20] (fun y wr => ∃ (j : Nat) (A : Nat → Int) (B : Nat → Bool), y = .int .i64 j ∧ j ≤ m ∧ Hid (Fb w gp gq m A B wr) ∧ Hid (∀ i, i < j → A i = RR i step 2 ∧ B i = (F i step == 1))) (fun y _ => m - (intOf y).toNat)
    case atStart => exact ⟨0, _, _, rfl, Nat.zero_le _, hfo0, HF0⟩
    case round =>
      clear hfo0 HF0
      obtain ⟨j, A, B, rfl, hjk, hfo, hpq⟩ := hrel
      by_cases hj : j < m
      · have hji : (j : Int) < (m : Int) := by omega
        have hll := HL.out.below hfo.out.bel (Nat.le_refl _)
        have hlv := HV.out.below hfo.out.bel (Nat.le_refl _)
        obtain ⟨b1, o1, rfl, l1, d1⟩ := hll.c (by omega)
        obtain ⟨b2, o2, rfl, l2, d2⟩ := hlv.c (by omega)
        have e1 := d1 j hj
        have e2 := d2 j hj
        have hsj := HS.out j hj
        obtain ⟨b3, o3, hp3, hrs⟩ := hll.r j hj (by omega)
        obtain ⟨b4, o4, hp4, l4, d4⟩ := hlv.r j hj (by omega)
        have e3 := (hrs.cells step hsj.1).2.2.1
        have e4 := d4 step hsj.2
        obtain ⟨q1, q2, q3, q4⟩ := hfo.out.own j hj
        have hne := hfo.out.ne
        have hsl : (step : Int) < (Ln j : Int) := by omega
        have hsv : (step : Int) < (Vn j : Int) := by omega
        simp only [hp3] at e1
        simp only [hp4] at e2
        have HNX : Hid (∀ i, i < j + 1 → updF A j (RR j step 2) i = RR i step 2 ∧ updB B j (F j step == 1) i = (F i step == 1)) := fun i hij => by
          by_cases e : i = j
          · subst e
            exact ⟨updF_same _ _ _, if_pos rfl⟩
          · have h := hpq.out i (by omega)
            exact ⟨(updF_other _ _ e).trans h.1, (if_neg e).trans h.2⟩
        have HFN := Lib.hid ((hfo.out.store j hj (RR j step 2) (F j step == 1)).next (W' := ((wr.setCell ⟨gp, j, none⟩ (.int .i64 (RR j step 2))).setCell ⟨gq, j, none⟩ (.bool (F j step == 1))).drew) ⟨rfl, rfl, rfl, Nat.le_refl _, fun _ _ => rfl⟩)
        clear hll hlv d1 d2 d4 hrs hpq hsj hp3 hp4 l1 l2 l4 hfo
        generalize RR j step 2 = xv at *
        generalize F j step = fv at *
        generalize Ln j = ln at *
        generalize Vn j = vn at *
        generalize Cp j = cp at *
        generalize Vc j = vc at *
        go_upto_region 5 with (fail)
        go_region
        all_goals go_wp2_with fail
        all_goals go_roundw
        all_goals first | exact ⟨j + 1, _, _, by go_num, by omega, HFN, HNX⟩ | (simp [intOf]; omega)
      · obtain rfl : j = m := by omega
        go_wp2
        go_ret2
        refine ⟨gp, gq, rfl, fun hn => ⟨gp, 0, rfl, hfo.out.lp, fun i hi => ?_⟩, fun hn => ⟨gq, 0, rfl, hfo.out.lq, fun i hi => ?_⟩, hfo.out.bel, hfo.out.bp, hfo.out.bq⟩
        · rw [Nat.zero_add]; exact (hfo.out.own i hi).1.trans (by rw [(hpq.out i hi).1])
        · rw [Nat.zero_add]; exact (hfo.out.own i hi).2.2.1.trans (by rw [(hpq.out i hi).2])
end Go.Proofs.Ytkflgiopkopeeaa.Ql

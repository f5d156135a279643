/-
  The contract of Flows of package rating at a valid rating and a list of valid readings.
-/
import Derived.Test.YtdcjgeebkinjlaaRaDbl
import Derived.Test.YtdcjgeebkinjlaaGgRead
import Derived.Deep.OwnRows
import Derived.Deep.DeepCutAuto
namespace Go.Proofs.Ytdcjgeebkinjlaa.Ra
open Go.ChangeShapes Go.WideShapes Go.ChangeAt Go.RowKit
open Go.Proofs.Ytdcjgeebkinjlaa.Cu hiding inB inB_yes inB_no exX exY exC exP
open Go.Proofs.Ytdcjgeebkinjlaa.Gg (ckG ckG_zero pck_any Ek Vr Rs RdR)
set_option linter.unusedVariables false

theorem Try.infoI : (Try.prog.info? 3).map (fun i => (i.zero, i.size, i.bytes)) = some (some (.int .i64 0), 1, 8) := by kernel_rfl
theorem Try.infoL : (Try.prog.info? 4).map (fun i => (i.zero, i.size, i.bytes)) = some (some (.bool false), 1, 1) := by kernel_rfl

theorem made_get (z : Value) (n i : Nat) (h : i < n) : (madeCells #[z] n)[i]? = some z := by
  rw [← Array.getElem?_toList, toList_madeCells_one]
  simp [h]
def updB (s : Nat → Bool) (j : Nat) (x : Bool) (i : Nat) : Bool := if i = j then x else s i

/-- What the loop holds: the table's box, the two lists of the call's own. -/
structure Fo (w : World) (kt gp gq n : Nat) (s : Value) (ice : Int) (P : Nat → Int) (Q : Nat → Bool) (W : World) : Prop where
  tb : C2 kt s (.int .i64 ice) W
  own : ∀ i, i < n → W.cell? ⟨gp, i, none⟩ = some (.int .i64 (P i)) ∧ W.frozen? ⟨gp, i, none⟩ = false ∧ W.cell? ⟨gq, i, none⟩ = some (.bool (Q i)) ∧ W.frozen? ⟨gq, i, none⟩ = false
  lp : gp < W.heap.size
  lq : gq < W.heap.size
  ne : gp ≠ gq
  np : kt ≠ gp
  nq : kt ≠ gq
  bp : w.heap.size ≤ gp
  bq : w.heap.size ≤ gq
  bel : Below w.heap.size w W
theorem Fo.next {w : World} {kt gp gq n : Nat} {s : Value} {ice : Int} {P : Nat → Int} {Q : Nat → Bool} {W W' : World} (h : Fo w kt gp gq n s ice P Q W) (hb : Below W.heap.size W W') : Fo w kt gp gq n s ice P Q W' where
  tb := h.tb.next hb
  own := fun i hi => by
    obtain ⟨a, b, c, d⟩ := h.own i hi
    exact ⟨(hb.cell (p := ⟨gp, i, none⟩) h.lp).trans a, (hb.frozen (p := ⟨gp, i, none⟩) h.lp).trans b, (hb.cell (p := ⟨gq, i, none⟩) h.lq).trans c, (hb.frozen (p := ⟨gq, i, none⟩) h.lq).trans d⟩
  lp := Nat.lt_of_lt_of_le h.lp hb.size
  lq := Nat.lt_of_lt_of_le h.lq hb.size
  ne := h.ne
  np := h.np
  nq := h.nq
  bp := h.bp
  bq := h.bq
  bel := h.bel.trans (hb.mono h.bel.size)
theorem Fo.store {w : World} {kt gp gq n : Nat} {s : Value} {ice : Int} {P : Nat → Int} {Q : Nat → Bool} {W : World} (h : Fo w kt gp gq n s ice P Q W) (j : Nat) (hj : j < n) (x : Int) (b : Bool) : Fo w kt gp gq n s ice (updF P j x) (updB Q j b) ((W.setCell ⟨gp, j, none⟩ (.int .i64 x)).setCell ⟨gq, j, none⟩ (.bool b)) := by
  have hne := h.ne
  have hnp := h.np
  have hnq := h.nq
  have o1 : ∀ (a : Addr) , (⟨gp, j, none⟩ : Addr) ≠ a → (⟨gq, j, none⟩ : Addr) ≠ a → ((W.setCell ⟨gp, j, none⟩ (.int .i64 x)).setCell ⟨gq, j, none⟩ (.bool b)).cell? a = W.cell? a := fun a h1 h2 => (World.cell?_setCell_other _ _ _ _ h2).trans (World.cell?_setCell_other _ _ _ _ h1)
  refine ⟨⟨(o1 _ (by intro e; simp only [Addr.mk.injEq] at e; omega) (by intro e; simp only [Addr.mk.injEq] at e; omega)).trans h.tb.1, (o1 _ (by intro e; simp only [Addr.mk.injEq] at e; omega) (by intro e; simp only [Addr.mk.injEq] at e; omega)).trans h.tb.2⟩, fun i hi => ?_, by simpa using h.lp, by simpa using h.lq, h.ne, h.np, h.nq, h.bp, h.bq, (h.bel.setCell (p := ⟨gp, j, none⟩) h.bp _).setCell (p := ⟨gq, j, none⟩) h.bq _⟩
  obtain ⟨a, f1, c, f2⟩ := h.own i hi
  obtain ⟨a', _, c', _⟩ := h.own j hj
  refine ⟨?_, by simpa using f1, ?_, by simpa using f2⟩
  · by_cases e : i = j
    · subst e
      rw [updF_same]
      exact (World.cell?_setCell_other _ _ _ _ (by intro e; simp only [Addr.mk.injEq] at e; omega)).trans (World.cell?_setCell_same _ _ _ a')
    · rw [updF_other _ _ e]
      exact (o1 _ (by intro e; simp only [Addr.mk.injEq] at e; omega) (by intro e; simp only [Addr.mk.injEq] at e; omega)).trans a
  · unfold updB
    by_cases e : i = j
    · subst e
      rw [if_pos rfl]
      exact World.cell?_setCell_same _ _ _ ((World.cell?_setCell_other _ _ _ _ (by intro e; simp only [Addr.mk.injEq] at e; omega)).trans c')
    · rw [if_neg e]
      exact (o1 _ (by intro e; simp only [Addr.mk.injEq] at e; omega) (by intro e; simp only [Addr.mk.injEq] at e; omega)).trans c
/-- The two new lists, in either order. -/
theorem fo_pq {w W : World} {kt n : Nat} {s : Value} {ice : Int} (ht : C2 kt s (.int .i64 ice) W) (hb : Below w.heap.size w W) (t t' : TypeId) : Fo w kt W.heap.size (W.heap.size + 1) n s ice (fun _ => 0) (fun _ => false) ((W.alloc (.cells (madeCells #[.int .i64 0] n) t)).alloc (.cells (madeCells #[.bool false] n) t')) := by
  have hl : kt < W.heap.size := World.block_lt_of_cell? _ _ ht.1
  have hs := hb.size
  refine ⟨(ht.alloc _).alloc _, fun i hi => ⟨?_, by simp, ?_, by simp⟩, by simp; omega, by simp, by omega, by omega, by omega, by omega, by omega, (hb.alloc hs _).alloc (by simp; omega) _⟩
  · simp [made_get _ _ _ hi]
  · simp [made_get _ _ _ hi]
theorem fo_qp {w W : World} {kt n : Nat} {s : Value} {ice : Int} (ht : C2 kt s (.int .i64 ice) W) (hb : Below w.heap.size w W) (t t' : TypeId) : Fo w kt (W.heap.size + 1) W.heap.size n s ice (fun _ => 0) (fun _ => false) ((W.alloc (.cells (madeCells #[.bool false] n) t)).alloc (.cells (madeCells #[.int .i64 0] n) t')) := by
  have hl : kt < W.heap.size := World.block_lt_of_cell? _ _ ht.1
  have hs := hb.size
  refine ⟨(ht.alloc _).alloc _, fun i hi => ⟨?_, by simp, ?_, by simp⟩, by simp, by simp; omega, by omega, by omega, by omega, by omega, by omega, (hb.alloc hs _).alloc (by simp; omega) _⟩
  · simp [made_get _ _ _ hi]
  · simp [made_get _ _ _ hi]

/-- What Flows returns. -/
def FsP (n : Nat) (F : Nat → Int) (G : Nat → Bool) (w : World) (e : Ending) (w' : World) : Prop :=
  ∃ gp gq, e = .returned (.tuple #[.slice (some ⟨gp, 0, none⟩) n n, .slice (some ⟨gq, 0, none⟩) n n, .int .i64 0]) ∧ (∀ i, i < n → w'.cell? ⟨gp, i, none⟩ = some (.int .i64 (F i)) ∧ w'.cell? ⟨gq, i, none⟩ = some (.bool (G i))) ∧ Below w.heap.size w w'

set_option maxRecDepth 100000 in
set_option maxHeartbeats 4000000 in
theorem flows_ok (b off n c m : Nat) (X Y : Nat → Int) (ice : Int) (rp : Option Addr) (k rc : Nat) (R : Nat → Nat → Int) (w : World) (hc : CvOk b off n c X Y m) (hp : Pts w b off n X Y) (hi : 0 ≤ ice ∧ ice ≤ 16777216) (hr : RdR w rp k R) (hk : k ≤ 1000) (hv : ∀ i, i < k → Vr (R i)) :
    Calls Try.prog 15 #[.agg #[.slice (some ⟨b, off, none⟩) n c, .int .i64 ice], .slice rp k rc] w (FsP k (fun i => flV X Y m ice (R i 2) (R i 3)) (fun i => flB (R i 3)) w) := by
  have HT := Lib.hid (fun W hp => tab_ok b off n c m X Y ice W hc hp hi)
  have HF := Lib.hid (fun a0 a1 a2 a3 W hp hk => fof_ok b off n c m X Y ice a0 a1 a2 a3 W hc hp hi hk)
  have HP := Lib.hid hp
  have HP0 := Lib.hid (hp.alloc (.cells #[.slice (some ⟨b, off, none⟩) n c, .int .i64 ice] 25))
  have HR := Lib.hid hr
  have HV := Lib.hid hv
  have hki : (k : Int) ≤ 1000 := by omega
  have hmk1 : ∀ W : World, (Instr.makeSlice 22 (.int .i64 (k : Int)) (.int .i64 (k : Int))).run Try.prog W = .ok (.slice (some ⟨W.heap.size, 0, none⟩) k k) (W.alloc (.cells (madeCells #[.int .i64 0] k) 3)) := fun W => run_make_row' 22 3 (.int .i64 0) 8 Try.underlying22 Try.infoI rfl .i64 .i64 k (by omega) (by omega) W
  have hmk2 : ∀ W : World, (Instr.makeSlice 47 (.int .i64 (k : Int)) (.int .i64 (k : Int))).run Try.prog W = .ok (.slice (some ⟨W.heap.size, 0, none⟩) k k) (W.alloc (.cells (madeCells #[.bool false] k) 4)) := fun W => run_make_row' 47 4 (.bool false) 1 Try.underlying47 Try.infoL rfl .i64 .i64 k (by omega) (by omega) W
  clear hc hp hr hv
  go_enter Try.func15, Try.ntmps15
  go_upto_region 4 with (go_at_call 19; refine (HT.out _ HP0.out).mono ?_; rintro e w1 ⟨rfl, hb1⟩; have HB1 : Hid (Below w.heap.size w w1) := ((Below.refl _ _).alloc (Nat.le_refl _) _).trans (hb1.mono (by simp)); clear hb1)
  go_cut [9, 10] (fun u9 u10 wx => ∃ gp gq, u9 = .slice (some ⟨gp, 0, none⟩) k k ∧ u10 = .slice (some ⟨gq, 0, none⟩) k k ∧ Hid (Fo w w1.heap.size gp gq k (.slice (some ⟨b, off, none⟩) n c) ice (fun _ => 0) (fun _ => false) wx))
  case first =>
    have hne := C2.new w1 (.slice (some ⟨b, off, none⟩) n c) (.int .i64 ice) 58
    have hbe := HB1.out.alloc HB1.out.size (.cells #[.slice (some ⟨b, off, none⟩) n c, .int .i64 ice] 58)
    have HPQ := Lib.hid ((fo_pq (n := k) hne hbe 3 4).next (W' := (((w1.alloc (.cells #[.slice (some ⟨b, off, none⟩) n c, .int .i64 ice] 58)).alloc (.cells (madeCells #[.int .i64 0] k) 3)).alloc (.cells (madeCells #[.bool false] k) 4)).drew) ⟨rfl, rfl, rfl, Nat.le_refl _, fun _ _ => rfl⟩)
    have HQP := Lib.hid ((fo_qp (n := k) hne hbe 4 3).next (W' := (((w1.alloc (.cells #[.slice (some ⟨b, off, none⟩) n c, .int .i64 ice] 58)).alloc (.cells (madeCells #[.bool false] k) 4)).alloc (.cells (madeCells #[.int .i64 0] k) 3)).drew) ⟨rfl, rfl, rfl, Nat.le_refl _, fun _ _ => rfl⟩)
    rw [World.size_alloc] at HPQ HQP
    clear hne hbe
    go_region
    all_goals go_wp2_with fail
    all_goals go_meet
    all_goals first | exact ⟨_, _, rfl, rfl, HPQ⟩ | exact ⟨_, _, rfl, rfl, HQP⟩
  case rest =>
    obtain ⟨gp, gq, rfl, rfl, hfo0⟩ := hcut
    clear HT HP0 HB1 hmk1 hmk2
    generalize w1.heap.size = kt at *
    have HF0 : Hid (∀ i, i < 0 → (fun _ => (0 : Int)) i = flV X Y m ice (R i 2) (R i 3) ∧ (fun _ => false) i = flB (R i 3)) := fun i hi => absurd hi (Nat.not_lt_zero _)
    go_wp2
    go_loopw [32] (fun u32 wr => ∃ (j : Nat) (P : Nat → Int) (Q : Nat → Bool), u32 = .int .i64 j ∧ j ≤ k ∧ Hid (Fo w kt gp gq k (.slice (some ⟨b, off, none⟩) n c) ice P Q wr) ∧ Hid (∀ i, i < j → P i = flV X Y m ice (R i 2) (R i 3) ∧ Q i = flB (R i 3))) (fun u32 _ => k - (intOf u32).toNat)
    case atStart => exact ⟨0, _, _, rfl, Nat.zero_le _, hfo0, HF0⟩
    case round =>
      clear hfo0 HF0
      obtain ⟨j, P, Q, rfl, hjk, hfo, hpq⟩ := hrel
      by_cases hj : j < k
      · have hjk' : (j : Int) < (k : Int) := by omega
        obtain ⟨rb, ro, hrp, hrs0⟩ := HR.out (by omega)
        have hrs := hrs0.up hfo.out.bel (Nat.le_refl _)
        subst hrp
        clear hrs0
        obtain ⟨d0, d1, d2, d3⟩ := hrs.cells j hj
        have hvj := HV.out j hj
        have HFJ := Lib.hid (fun W hp => HF.out (R j 0) (R j 1) (R j 2) (R j 3) W hp ((ckG_zero _ _ _ _).2 ⟨⟨hvj.1, hvj.2.1⟩, ⟨hvj.2.2.1, hvj.2.2.2.1⟩, ⟨hvj.2.2.2.2.1, hvj.2.2.2.2.2.1⟩, hvj.2.2.2.2.2.2⟩))
        have HNX : Hid (∀ i, i < j + 1 → updF P j (flV X Y m ice (R j 2) (R j 3)) i = flV X Y m ice (R i 2) (R i 3) ∧ updB Q j (flB (R j 3)) i = flB (R i 3)) := fun i hij => by
          by_cases e : i = j
          · subst e
            exact ⟨updF_same _ _ _, if_pos rfl⟩
          · have h := hpq.out i (by omega)
            exact ⟨(updF_other _ _ e).trans h.1, (if_neg e).trans h.2⟩
        have HA := Lib.hid (hfo.out.next ((Below.refl _ _).alloc (Nat.le_refl _) (.cells #[.int .i64 (R j 0), .int .i64 (R j 1), .int .i64 (R j 2), .int .i64 (R j 3)] 31)))
        obtain ⟨c0, c1⟩ := HA.out.tb
        clear hrs hvj hpq hfo
        generalize flV X Y m ice (R j 2) (R j 3) = fv at *
        generalize flB (R j 3) = fb at *
        generalize R j 0 = r0 at *
        generalize R j 1 = r1 at *
        generalize R j 2 = r2 at *
        generalize R j 3 = r3 at *
        go_wp2_with (go_at_call 20; refine (HFJ.out _ (HP.out.up HA.out.bel (Nat.le_refl _))).mono ?_; rintro e w9 ⟨rfl, hb9⟩; have HFO9 := Lib.hid (HA.out.next hb9); obtain ⟨a9, f9, e9, g9⟩ := HFO9.out.own j hj; have hne9 := HFO9.out.ne; have e10 : (w9.setCell ⟨gp, j, none⟩ (.int .i64 fv)).cell? ⟨gq, j, none⟩ = some (.bool (Q j)) := (World.cell?_setCell_other _ _ _ _ (by intro e; simp only [Addr.mk.injEq] at e; omega)).trans e9; clear hb9)
        go_roundw
        case rel => exact ⟨j + 1, _, _, by go_num, by omega, HFO9.out.store j hj fv fb, HNX⟩
        case measure => simp [intOf]; omega
      · obtain rfl : k = j := by omega
        go_wp2
        go_ret3
        refine ⟨gp, gq, rfl, fun i hi => ?_, hfo.out.bel⟩
        have h := hfo.out.own i hi
        have h2 := hpq.out i hi
        exact ⟨h.1.trans (by rw [h2.1]), h.2.2.1.trans (by rw [h2.2])⟩
end Go.Proofs.Ytdcjgeebkinjlaa.Ra

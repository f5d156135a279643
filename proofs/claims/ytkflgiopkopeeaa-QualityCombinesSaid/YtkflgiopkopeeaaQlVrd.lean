/-
  The contract of Verdicts of package quality.
-/
import Derived.Test.YtkflgiopkopeeaaQlMee
import Derived.Test.YtkflgiopkopeeaaGpFns
import Derived.Deep.OwnRows
import Derived.Deep.DeepCutAuto
namespace Go.Proofs.Ytkflgiopkopeeaa.Ql
open Go.ChangeShapes Go.WideShapes Go.ChangeAt Go.RowKit
open Go.Proofs.Ytkflgiopkopeeaa.Cu (grown_trans grown_refl updF updF_same updF_other)
open Go.Proofs.Ytkflgiopkopeeaa.Gg (ckG ckG_zero pck_any alG alG_next alG_stick alG_zero Vr Rs RdR)
set_option linter.unusedVariables false

theorem fv_any (tg : Nat) (c0 c1 c2 c3 r0 r1 r2 r3 ix sm b0 b1 b2 b3 ba : Int) (w : World) (ht : Tab w tg) (hr : 0 ≤ r2 ∧ r2 ≤ 1073741824) (hb : 0 ≤ b2 ∧ b2 ≤ 1073741824) (hba : -1 ≤ ba ∧ ba ≤ 9223372036854775807) (hix : 0 ≤ ix ∧ ix ≤ 9223372036854775806) (hc : 0 ≤ c2 ∧ c2 ≤ 1073741824) :
    Calls Try.prog 35 #[.slice (some ⟨tg, 0, none⟩) 4 4, .agg #[.int .i64 c0, .int .i64 c1, .int .i64 c2, .int .i64 c3, .int .i64 r0, .int .i64 r1, .int .i64 r2, .int .i64 r3, .int .i64 ix, .int .i64 sm, .int .i64 b0, .int .i64 b1, .int .i64 b2, .int .i64 b3, .int .i64 ba]] w (Ek (vdI c0 c1 c2 c3 r2 r3 ba b2 ix sm) w) := by
  have e : vdI c0 c1 c2 c3 r2 r3 ba b2 ix sm = fvI (decide (r3 = 2)) (decide (r2 < c0 ∨ c1 < r2)) (decide (ba ≠ -1 ∧ wrap64 (c2 * (ix - ba)) < dst r2 b2)) (decide (0 < c3 ∧ c3 ≤ sm)) := by
    unfold vdI fvI
    simp only [decide_eq_true_eq]
  rw [e]
  exact first_any tg c0 c1 c2 c3 r0 r1 r2 r3 ix sm b0 b1 b2 b3 ba _ _ _ _ w ht (fun W => miss_any c0 c1 c2 c3 r0 r1 r2 r3 ix sm b0 b1 b2 b3 ba W) (fun W => beyond_any c0 c1 c2 c3 r0 r1 r2 r3 ix sm b0 b1 b2 b3 ba W) (fun W => jump_any c0 c1 c2 c3 r0 r1 r2 r3 ix sm b0 b1 b2 b3 ba W hr hb hba hix hc) (fun W => isstuck_any c0 c1 c2 c3 r0 r1 r2 r3 ix sm b0 b1 b2 b3 ba W)

/-- What Verdicts returns. -/
def VdP (E : Int) (N : Nat) (F : Nat → Int) (w : World) (e : Ending) (w' : World) : Prop :=
  ∃ p cap, e = .returned (.tuple #[.slice p N cap, .int .i64 E]) ∧ RdV w' p N (iC F) ∧ (∀ b off, p = some ⟨b, off, none⟩ → w.heap.size ≤ b) ∧ Below w.heap.size w w'
theorem vdp_bad {E : Int} {F : Nat → Int} {w w' : World} (h : Below w.heap.size w w') : VdP E 0 F w (.returned (.tuple #[.slice none 0 0, .int .i64 E])) w' :=
  ⟨none, 0, rfl, fun h => absurd h (Nat.lt_irrefl _), (fun b off e => by cases e), h⟩

/-- What the loop holds: the list of verdicts and the table. -/
structure Vw (w : World) (gv gt n : Nat) (F : Nat → Int) (W : World) : Prop where
  tb : Tab W gt
  own : ∀ i, i < n → W.cell? ⟨gv, i, none⟩ = some (.int .i64 (F i)) ∧ W.frozen? ⟨gv, i, none⟩ = false
  lv : gv < W.heap.size
  ne : gv ≠ gt
  bv : w.heap.size ≤ gv
  bt : w.heap.size ≤ gt
  bel : Below w.heap.size w W
theorem Vw.next {w : World} {gv gt n : Nat} {F : Nat → Int} {W W' : World} (h : Vw w gv gt n F W) (hb : Below W.heap.size W W') : Vw w gv gt n F W' where
  tb := h.tb.below hb h.tb.lt
  own := fun i hi => by
    obtain ⟨a, b⟩ := h.own i hi
    exact ⟨(hb.cell (p := ⟨gv, i, none⟩) h.lv).trans a, (hb.frozen (p := ⟨gv, i, none⟩) h.lv).trans b⟩
  lv := Nat.lt_of_lt_of_le h.lv hb.size
  ne := h.ne
  bv := h.bv
  bt := h.bt
  bel := h.bel.trans (hb.mono h.bel.size)
theorem Vw.grown {w : World} {gv gt n : Nat} {F : Nat → Int} {W W' : World} {g : Nat} (h : Vw w gv gt n F W) (hg : W.grownBy W' (some g)) (h1 : gv ≠ g) (h2 : gt ≠ g) (h3 : w.heap.size ≤ g) : Vw w gv gt n F W' where
  tb := h.tb.grown hg (by intro e; exact h2 (Option.some.inj e))
  own := fun i hi => by
    obtain ⟨a, b⟩ := h.own i hi
    have hne : some gv ≠ some g := by intro e; exact h1 (Option.some.inj e)
    exact ⟨hg.cell a hne, (World.frozen?_of_block (w := W) (a := ⟨gv, i, none⟩) (hg.block gv h.lv hne)).trans b⟩
  lv := Nat.lt_of_lt_of_le h.lv hg.size
  ne := h.ne
  bv := h.bv
  bt := h.bt
  bel := h.bel.grown hg h.bel.size (by intro k hk; cases hk; exact h3)
theorem Vw.store {w : World} {gv gt n : Nat} {F : Nat → Int} {W : World} (h : Vw w gv gt n F W) (j : Nat) (hj : j < n) (x : Int) : Vw w gv gt n (updF F j x) (W.setCell ⟨gv, j, none⟩ (.int .i64 x)) where
  tb := h.tb.grown (set_grownQ W gv j (.int .i64 x)) (by intro e; exact h.ne (Option.some.inj e).symm)
  own := fun i hi => by
    obtain ⟨a, b⟩ := h.own i hi
    refine ⟨?_, by simpa using b⟩
    by_cases e : i = j
    · subst e
      rw [updF_same]
      exact World.cell?_setCell_same _ _ _ a
    · rw [updF_other _ _ e]
      exact (World.cell?_setCell_other _ _ _ _ (by intro e2; simp only [Addr.mk.injEq] at e2; omega)).trans a
  lv := by simpa using h.lv
  ne := h.ne
  bv := h.bv
  bt := h.bt
  bel := h.bel.setCell (p := ⟨gv, j, none⟩) h.bv _
theorem below_undrew {B : Nat} {w w2 : World} (h : Below B w.drew w2) : Below B w w2 := ⟨h.os, h.tape, h.output, h.size, h.block⟩
theorem vw_a {w w1 w2 : World} {n gt : Nat} {t : TypeId} (hb : Below w.heap.size w w1) (hgt : (w1.alloc (.cells (madeCells #[.int .i64 0] n) t)).drew.heap.size ≤ gt) (ht : Tab w2 gt) (hbt : Below (w1.alloc (.cells (madeCells #[.int .i64 0] n) t)).drew.heap.size (w1.alloc (.cells (madeCells #[.int .i64 0] n) t)).drew w2) : Vw w w1.heap.size gt n (fun _ => 0) w2 ∧ Below w1.heap.size w1 w2 := by
  have hs := hb.size
  have hgt2 : w1.heap.size + 1 ≤ gt := by simpa using hgt
  have hz : (w1.alloc (.cells (madeCells #[.int .i64 0] n) t)).drew.heap.size = w1.heap.size + 1 := by simp
  rw [hz] at hbt
  have h2 := hbt.size
  rw [hz] at h2
  have B : Below w1.heap.size w1 w2 := ((Below.refl w1.heap.size w1).alloc (Nat.le_refl _) (.cells (madeCells #[.int .i64 0] n) t)).trans (((below_undrew hbt).mono (by omega)))
  refine ⟨⟨ht, fun i hi => ⟨?_, ?_⟩, by omega, by omega, hs, by omega, hb.trans (B.mono hs)⟩, B⟩
  · exact (hbt.cell (p := ⟨w1.heap.size, i, none⟩) (by show w1.heap.size < _; omega)).trans (show (w1.alloc _).cell? _ = _ by simp [made_get _ _ _ hi])
  · exact (hbt.frozen (p := ⟨w1.heap.size, i, none⟩) (by show w1.heap.size < _; omega)).trans (show (w1.alloc _).frozen? _ = _ by simp)
theorem vw_b {w w1 w2 : World} {n gt : Nat} {t : TypeId} (hb : Below w.heap.size w w1) (hgt : w1.drew.heap.size ≤ gt) (ht : Tab w2 gt) (hbt : Below w1.drew.heap.size w1.drew w2) : Vw w w2.heap.size gt n (fun _ => 0) (w2.alloc (.cells (madeCells #[.int .i64 0] n) t)) ∧ Below w1.heap.size w1 (w2.alloc (.cells (madeCells #[.int .i64 0] n) t)) := by
  have hs := hb.size
  have hgt2 : w1.heap.size ≤ gt := hgt
  have hbt2 : Below w1.heap.size w1 w2 := below_undrew hbt
  have h2 := hbt2.size
  have B : Below w1.heap.size w1 (w2.alloc (.cells (madeCells #[.int .i64 0] n) t)) := hbt2.alloc h2 _
  refine ⟨⟨ht.below ((Below.refl w2.heap.size w2).alloc (Nat.le_refl _) _) ht.lt, fun i hi => ⟨by simp [made_get _ _ _ hi], by simp⟩, by simp, by have := ht.lt; omega, by omega, by omega, hb.trans (B.mono hs)⟩, B⟩
theorem Sb.grown {w w' : World} {g g' : Nat} {c0 c1 c2 c3 r0 r1 r2 r3 ix sm b0 b1 b2 b3 ba : Int} (h : Sb w g c0 c1 c2 c3 r0 r1 r2 r3 ix sm b0 b1 b2 b3 ba) (hg : w.grownBy w' (some g')) (hr : some g ≠ some g') : Sb w' g c0 c1 c2 c3 r0 r1 r2 r3 ix sm b0 b1 b2 b3 ba :=
  (SbF.mk (Nat.lt_of_lt_of_le h.lt hg.size) (fun j => (World.frozen?_of_block (w := w) (a := ⟨g, j, none⟩) (hg.block g h.lt hr)).trans (h.fz j)) (fun j hj => hg.cell (h.f.c j hj) hr)).b
/-- What the box of the situation holds ahead of reading k. -/
structure St (l m j s : Int) (R : Nat → Nat → Int) (k : Nat) (r2 sm b2 : Int) : Prop where
  z : k = 0 → r2 = 0 ∧ sm = 0
  p : ∀ i, k = i + 1 → r2 = R i 2 ∧ sm = (rnN R i : Int)
  b : lgN l m j s R k ≠ -1 → b2 = R (lgN l m j s R k).toNat 2
  bb : 0 ≤ b2 ∧ b2 ≤ 1073741824
theorem St.run {l m j s : Int} {R : Nat → Nat → Int} {k : Nat} {r2 sm b2 : Int} (h : St l m j s R k r2 sm b2) : rnX (R k 2) (R k 3) r2 sm = (rnN R k : Int) := by
  cases k with
  | zero =>
    obtain ⟨h1, h2⟩ := h.z rfl
    show _ = ((if _ then _ else _ : Nat) : Int)
    unfold rnX
    rw [h2]
    repeat' split
    all_goals simp
  | succ i =>
    obtain ⟨h1, h2⟩ := h.p i rfl
    rw [h1, h2, rn_step]
theorem St.sm_bd {l m j s : Int} {R : Nat → Nat → Int} {k : Nat} {r2 sm b2 : Int} (h : St l m j s R k r2 sm b2) (hk : k ≤ 9223372036854775806) : 0 ≤ sm ∧ sm ≤ 9223372036854775806 := by
  cases k with
  | zero => have := h.z rfl; omega
  | succ i => have h1 := (h.p i rfl).2; have h2 := rn_le R i; omega
theorem vd_any_b {l m j s v f lg b b' i sm : Int} (h : lg ≠ -1 → b = b') : vdI l m j s v f lg b i sm = vdI l m j s v f lg b' i sm := by
  by_cases e : lg = -1
  · unfold vdI; simp [e]
  · rw [h e]
theorem St.vd {l m j s : Int} {R : Nat → Nat → Int} {k : Nat} {r2 sm b2 : Int} (h : St l m j s R k r2 sm b2) : vdI l m j s (R k 2) (R k 3) (lgN l m j s R k) b2 (k : Int) (rnN R k : Int) = vrI l m j s R k := vd_any_b h.b
theorem St.yes {l m j s : Int} {R : Nat → Nat → Int} {k : Nat} {r2 sm b2 : Int} (h : St l m j s R k r2 sm b2) (hv : vrI l m j s R k = 1) (hr : 0 ≤ R k 2 ∧ R k 2 ≤ 1073741824) : St l m j s R (k + 1) (R k 2) (rnN R k : Int) (R k 2) where
  z := fun e => absurd e (Nat.succ_ne_zero k)
  p := fun i e => by obtain rfl : i = k := by omega
                     exact ⟨rfl, rfl⟩
  b := fun _ => by rw [lg_yes hv]; rfl
  bb := hr
theorem St.no {l m j s : Int} {R : Nat → Nat → Int} {k : Nat} {r2 sm b2 : Int} (h : St l m j s R k r2 sm b2) (hv : ¬ vrI l m j s R k = 1) : St l m j s R (k + 1) (R k 2) (rnN R k : Int) b2 where
  z := fun e => absurd e (Nat.succ_ne_zero k)
  p := fun i e => by obtain rfl : i = k := by omega
                     exact ⟨rfl, rfl⟩
  b := by rw [lg_no hv]; exact h.b
  bb := h.bb
theorem vdE_bad {l m j s : Int} {R : Nat → Nat → Int} {n : Nat} (h : chC l m j s ≠ 0) : vdE l m j s R n = chC l m j s ∧ vdN l m j s R n = 0 := by
  have e : vdE l m j s R n = chC l m j s := if_neg h
  exact ⟨e, by unfold vdN; rw [e, if_neg h]⟩
theorem vdE_ok {l m j s : Int} {R : Nat → Nat → Int} {n : Nat} (h : chC l m j s = 0) : vdE l m j s R n = alG R n := if_pos h
theorem vdN_ok {l m j s : Int} {R : Nat → Nat → Int} {n : Nat} (h : vdE l m j s R n = 0) : vdN l m j s R n = n := if_pos h
theorem vdN_no {l m j s : Int} {R : Nat → Nat → Int} {n : Nat} (h : vdE l m j s R n ≠ 0) : vdN l m j s R n = 0 := if_neg h

set_option maxHeartbeats 1000000 in
theorem pvd_bad (l m j s : Int) (p : Option Addr) (n c : Nat) (R : Nat → Nat → Int) (w : World) (hc : chC l m j s ≠ 0) :
    Calls Try.prog 15 #[.agg #[.int .i64 l, .int .i64 m, .int .i64 j, .int .i64 s], .slice p n c] w (VdP (vdE l m j s R n) (vdN l m j s R n) (vrI l m j s R) w) := by
  rw [(vdE_bad (R := R) (n := n) hc).1, (vdE_bad (R := R) (n := n) hc).2]
  have HC := Lib.hid (fun W => pchk_any l m j s W)
  generalize chC l m j s = cd at *
  have hcn : (cd != 0) = true := by simpa using hc
  clear hc
  go_enter Try.func15, Try.ntmps15
  go_wp2_with (go_at_call 18; refine (HC.out _).mono ?_; rintro e w1 ⟨rfl, hb1⟩)
  go_ret2
  exact vdp_bad (((Below.refl _ _).alloc (Nat.le_refl _) _).trans (hb1.mono (by simp)))

set_option maxRecDepth 100000 in
set_option maxHeartbeats 4000000 in
theorem pvd_ok (l m j s : Int) (p : Option Addr) (n c : Nat) (R : Nat → Nat → Int) (w : World) (hc : chC l m j s = 0) (hr : RdR w p n R) (hn : n ≤ 17592186044416) :
    Calls Try.prog 15 #[.agg #[.int .i64 l, .int .i64 m, .int .i64 j, .int .i64 s], .slice p n c] w (VdP (vdE l m j s R n) (vdN l m j s R n) (vrI l m j s R) w) := by
  have HC := Lib.hid (fun W => pchk_any l m j s W)
  rw [hc] at HC
  have HE := Lib.hid (vdE_ok (R := R) (n := n) hc)
  obtain ⟨_, _, _, hj, _⟩ := chC_zero.1 hc
  have HR := Lib.hid hr
  have HB0 := Lib.hid ((Below.refl w.heap.size w).alloc (Nat.le_refl _) (.cells #[.int .i64 l, .int .i64 m, .int .i64 j, .int .i64 s] 23))
  have hki : (n : Int) ≤ 17592186044416 := by omega
  have hmk1 : ∀ W : World, (Instr.makeSlice 26 (.int .i64 (n : Int)) (.int .i64 (n : Int))).run Try.prog W = .ok (.slice (some ⟨W.heap.size, 0, none⟩) n n) (W.alloc (.cells (madeCells #[.int .i64 0] n) 3)) := fun W => run_make_row' 26 3 (.int .i64 0) 8 Try.underlying26 Try.infoI rfl .i64 .i64 n (by omega) (by omega) W
  clear hc hr
  go_enter Try.func15, Try.ntmps15
  go_upto_region 4 with (go_at_call 18; refine (HC.out _).mono ?_; rintro e w1 ⟨rfl, hb1⟩; have HB1 : Hid (Below w.heap.size w w1) := HB0.out.trans (hb1.mono (by simp)); have cb0 : w1.cell? ⟨w.heap.size, 0, none⟩ = some (.int .i64 l) := (hb1.cell (p := ⟨w.heap.size, 0, none⟩) (by simp)).trans (by simp); have cb1 : w1.cell? ⟨w.heap.size, 1, none⟩ = some (.int .i64 m) := (hb1.cell (p := ⟨w.heap.size, 1, none⟩) (by simp)).trans (by simp); have cb2 : w1.cell? ⟨w.heap.size, 2, none⟩ = some (.int .i64 j) := (hb1.cell (p := ⟨w.heap.size, 2, none⟩) (by simp)).trans (by simp); have cb3 : w1.cell? ⟨w.heap.size, 3, none⟩ = some (.int .i64 s) := (hb1.cell (p := ⟨w.heap.size, 3, none⟩) (by simp)).trans (by simp); have hws : w.heap.size + 1 ≤ w1.heap.size := (by have := hb1.size; simp at this; omega); clear hb1)
  go_cut [7, 8] (fun u7 u8 wx => ∃ gv gt, u7 = .slice (some ⟨gv, 0, none⟩) n n ∧ u8 = .slice (some ⟨gt, 0, none⟩) 4 4 ∧ Hid (Vw w gv gt n (fun _ => 0) wx) ∧ Hid (Below w1.heap.size w1 wx))
  case first =>
    have hsz := HB1.out.size
    go_region_with (go_at_call 32; refine (trials_any _).mono ?_; rintro e w2 ⟨gt, rfl, hgt, htab, hbt⟩)
    · have HA := Lib.hid (vw_a (w := w) HB1.out hgt htab hbt)
      clear hgt htab hbt
      go_wp2_with fail
      go_meet
      exact ⟨_, _, rfl, rfl, HA.out.1, HA.out.2⟩
    · have HA := Lib.hid (vw_b (w := w) (n := n) (t := 3) HB1.out hgt htab hbt)
      clear hgt htab hbt
      go_wp2_with fail
      go_meet
      exact ⟨_, _, rfl, rfl, HA.out.1, HA.out.2⟩
  case rest =>
    obtain ⟨gv, gt, rfl, rfl, hvw, hbx⟩ := hcut
    have db0 := (hbx.out.cell (p := ⟨w.heap.size, 0, none⟩) (by show w.heap.size < _; omega)).trans cb0
    have db1 := (hbx.out.cell (p := ⟨w.heap.size, 1, none⟩) (by show w.heap.size < _; omega)).trans cb1
    have db2 := (hbx.out.cell (p := ⟨w.heap.size, 2, none⟩) (by show w.heap.size < _; omega)).trans cb2
    have db3 := (hbx.out.cell (p := ⟨w.heap.size, 3, none⟩) (by show w.heap.size < _; omega)).trans cb3
    have hks : w.heap.size + 1 ≤ wc.heap.size := Nat.le_trans hws hbx.out.size
    have HVn := Lib.hid (hvw.out.next (W' := wc.alloc (.cells #[.int .i64 l, .int .i64 m, .int .i64 j, .int .i64 s, .int .i64 0, .int .i64 0, .int .i64 0, .int .i64 0, .int .i64 0, .int .i64 0, .int .i64 0, .int .i64 0, .int .i64 0, .int .i64 0, .int .i64 (-1)] 68)) ((Below.refl _ _).alloc (Nat.le_refl _) _))
    have HSn := Lib.hid (sb_new wc l m j s 0 0 0 0 0 0 0 0 0 0 (-1))
    have hgk : gv ≠ wc.heap.size := by have := hvw.out.lv; omega
    have htk : gt ≠ wc.heap.size := by have := hvw.out.tb.lt; omega
    have HTn : Hid (St l m j s R 0 0 0 0) := ⟨fun _ => ⟨rfl, rfl⟩, (fun i e => by omega), fun h => absurd rfl h, by omega⟩
    have HFn : Hid (∀ i, i < 0 → (fun _ => (0 : Int)) i = vrI l m j s R i) := fun i hi => absurd hi (Nat.not_lt_zero _)
    clear hvw hbx cb0 cb1 cb2 cb3 hmk1 HC HB0 HB1
    go_wp2
    clear db0 db1 db2 db3
    generalize wc.heap.size = ks at *
    go_loopw [26] (fun i wr => ∃ (k : Nat) (F : Nat → Int) (r0 r1 r2 r3 ix sm b0 b1 b2 b3 : Int), k ≤ n ∧ i = .int .i64 k ∧ Hid (∀ i, i < k → F i = vrI l m j s R i) ∧ Hid (alG R k = 0) ∧ Hid (Vw w gv gt n F wr) ∧ Hid (Sb wr ks l m j s r0 r1 r2 r3 ix sm b0 b1 b2 b3 (lgN l m j s R k)) ∧ Hid (St l m j s R k r2 sm b2)) (fun i _ => n - (intOf i).toNat)
    case atStart => exact ⟨0, _, 0, 0, 0, 0, 0, 0, 0, 0, 0, 0, Nat.zero_le _, rfl, HFn, rfl, HVn, HSn, HTn⟩
    case round =>
      clear HVn HSn HTn HFn
      obtain ⟨k, F, r0, r1, r2, r3, ix, sm, b0, b1, b2, b3, hk, rfl, hF, hal, hv, hs, hst⟩ := hrel
      by_cases hlt : k < n
      · obtain ⟨b, off, rfl, hrs⟩ := HR.out (by omega)
        have HP2 := Lib.hid (hrs.up hv.out.bel (Nat.le_refl _))
        clear hrs
        obtain ⟨c0, c1, c2, c3⟩ := HP2.out.cells k hlt
        have hblt := HP2.out.1
        clear HP2
        have hwr := hv.out.bel.size
        have hslt := hs.out.lt
        have hkn : (k : Int) < (n : Int) := by omega
        have HG := Lib.hid (fun W => pck_any (R k 0) (R k 1) (R k 2) (R k 3) W)
        have HN := Lib.hid (alG_next R k hal.out)
        have HK : Hid (alG R (k + 1) ≠ 0 → alG R n = alG R (k + 1)) := fun h => alG_stick R (k + 1) h n (by omega)
        by_cases hcd : ckG (R k 0) (R k 1) (R k 2) (R k 3) = 0
        · rw [hcd] at HG HN
          obtain ⟨_, _, hq2, _⟩ := (ckG_zero _ _ _ _).1 hcd
          clear hcd HK
          have hb := lg_bd l m j s R k
          have hrn := rn_le R k
          have HM := Lib.hid (fun W hs => meet_any ks l m j s r0 r1 r2 r3 ix sm b0 b1 b2 b3 (lgN l m j s R k) k (R k 0) (R k 1) (R k 2) (R k 3) W hs (hst.out.sm_bd (by omega)))
          rw [hst.out.run] at HM
          have HV := Lib.hid (fun W ht => fv_any gt l m j s (R k 0) (R k 1) (R k 2) (R k 3) k (rnN R k : Int) b0 b1 b2 b3 (lgN l m j s R k) W ht hq2 hst.out.bb (by omega) (by omega) hj)
          rw [hst.out.vd] at HV
          by_cases hvd : vrI l m j s R k = 1
          · have HSy := Lib.hid (hst.out.yes hvd hq2)
            have HLy := Lib.hid (lg_yes hvd)
            have HFy : Hid (∀ i, i < k + 1 → updF F k 1 i = vrI l m j s R i) := fun i hi => by
              by_cases e : i = k
              · subst e; rw [updF_same, hvd]
              · rw [updF_other _ _ e]; exact hF.out i (by omega)
            rw [hvd] at HV
            clear hF hst hvd hb hrn hq2
            generalize R k 0 = q0 at *
            generalize R k 1 = q1 at *
            generalize R k 2 = q2 at *
            generalize R k 3 = q3 at *
            generalize (rnN R k : Int) = rn at *
            generalize lgN l m j s R k = lg at *
            go_wp2_with (first
              | (go_at_call 33; refine (HG.out _).mono ?_; rintro e w2 ⟨rfl, hb2⟩; have d0 : w2.cell? ⟨wr.heap.size, 0, none⟩ = some (.int .i64 q0) := (hb2.cell (p := ⟨wr.heap.size, 0, none⟩) (by simp)).trans (by simp); have d1 : w2.cell? ⟨wr.heap.size, 1, none⟩ = some (.int .i64 q1) := (hb2.cell (p := ⟨wr.heap.size, 1, none⟩) (by simp)).trans (by simp); have d2 : w2.cell? ⟨wr.heap.size, 2, none⟩ = some (.int .i64 q2) := (hb2.cell (p := ⟨wr.heap.size, 2, none⟩) (by simp)).trans (by simp); have d3 : w2.cell? ⟨wr.heap.size, 3, none⟩ = some (.int .i64 q3) := (hb2.cell (p := ⟨wr.heap.size, 3, none⟩) (by simp)).trans (by simp); have B2 : Below wr.heap.size wr w2 := ((Below.refl _ _).alloc (Nat.le_refl _) _).trans (hb2.mono (by simp)); have HS2 := Lib.hid (hs.out.below B2 hslt); have HV2 := Lib.hid (hv.out.next B2); clear hb2 B2)
              | (go_at_call 34; refine (HM.out _ HS2.out).mono ?_; rintro e w3 ⟨rfl, hs3, hg3⟩; have HS3 := Lib.hid hs3; have HV3 := Lib.hid (HV2.out.grown hg3 hgk htk (by omega)); obtain ⟨_, _, e0, e1, e2, e3, e4, e5, e6, e7, e8, e9, e10, e11, e12, e13, e14⟩ := hs3; clear hg3)
              | (go_at_call 35; refine (HV.out _ HV3.out.tb).mono ?_; rintro e w4 ⟨rfl, hb4⟩; have HV4 := Lib.hid (HV3.out.next hb4); have HS4 := Lib.hid (HS3.out.below hb4 HS3.out.lt); obtain ⟨g1, g2⟩ := HV4.out.own k hlt; clear hb4)
              | (go_at_call 36; refine (bel_any ks l m j s q0 q1 q2 q3 k rn b0 b1 b2 b3 lg _ (HS4.out.grown (set_grownQ w4 gv k (.int .i64 1)) (by intro e; exact hgk (Option.some.inj e).symm))).mono ?_; rintro e w6 ⟨rfl, hs6, hg6⟩; have HV6 := Lib.hid ((HV4.out.store k hlt 1).grown hg6 hgk htk (by omega))))
            go_roundw
            case rel => exact ⟨k + 1, updF F k 1, q0, q1, q2, q3, k, rn, q0, q1, q2, q3, by omega, by go_num, HFy, HN, HV6, (by show Sb _ _ _ _ _ _ _ _ _ _ _ _ _ _ _ _ _; rw [HLy.out]; exact hs6), HSy⟩
            case measure => simp [intOf]; omega
          · have HSy := Lib.hid (hst.out.no hvd)
            have HLy := Lib.hid (lg_no hvd)
            have HFy : Hid (∀ i, i < k + 1 → updF F k (vrI l m j s R k) i = vrI l m j s R i) := fun i hi => by
              by_cases e : i = k
              · subst e; rw [updF_same]
              · rw [updF_other _ _ e]; exact hF.out i (by omega)
            have hvd2 : (vrI l m j s R k == 1) = false := by simp [hvd]
            clear hF hst hvd hb hrn hq2
            generalize R k 0 = q0 at *
            generalize R k 1 = q1 at *
            generalize R k 2 = q2 at *
            generalize R k 3 = q3 at *
            generalize (rnN R k : Int) = rn at *
            generalize lgN l m j s R k = lg at *
            generalize vrI l m j s R k = vd at *
            go_wp2_with (first
              | (go_at_call 33; refine (HG.out _).mono ?_; rintro e w2 ⟨rfl, hb2⟩; have d0 : w2.cell? ⟨wr.heap.size, 0, none⟩ = some (.int .i64 q0) := (hb2.cell (p := ⟨wr.heap.size, 0, none⟩) (by simp)).trans (by simp); have d1 : w2.cell? ⟨wr.heap.size, 1, none⟩ = some (.int .i64 q1) := (hb2.cell (p := ⟨wr.heap.size, 1, none⟩) (by simp)).trans (by simp); have d2 : w2.cell? ⟨wr.heap.size, 2, none⟩ = some (.int .i64 q2) := (hb2.cell (p := ⟨wr.heap.size, 2, none⟩) (by simp)).trans (by simp); have d3 : w2.cell? ⟨wr.heap.size, 3, none⟩ = some (.int .i64 q3) := (hb2.cell (p := ⟨wr.heap.size, 3, none⟩) (by simp)).trans (by simp); have B2 : Below wr.heap.size wr w2 := ((Below.refl _ _).alloc (Nat.le_refl _) _).trans (hb2.mono (by simp)); have HS2 := Lib.hid (hs.out.below B2 hslt); have HV2 := Lib.hid (hv.out.next B2); clear hb2 B2)
              | (go_at_call 34; refine (HM.out _ HS2.out).mono ?_; rintro e w3 ⟨rfl, hs3, hg3⟩; have HS3 := Lib.hid hs3; have HV3 := Lib.hid (HV2.out.grown hg3 hgk htk (by omega)); obtain ⟨_, _, e0, e1, e2, e3, e4, e5, e6, e7, e8, e9, e10, e11, e12, e13, e14⟩ := hs3; clear hg3)
              | (go_at_call 35; refine (HV.out _ HV3.out.tb).mono ?_; rintro e w4 ⟨rfl, hb4⟩; have HV4 := Lib.hid (HV3.out.next hb4); have HS4 := Lib.hid (HS3.out.below hb4 HS3.out.lt); obtain ⟨g1, g2⟩ := HV4.out.own k hlt; clear hb4))
            go_roundw
            case rel => exact ⟨k + 1, updF F k vd, q0, q1, q2, q3, k, rn, b0, b1, b2, b3, by omega, by go_num, HFy, HN, HV4.out.store k hlt vd, (by show Sb _ _ _ _ _ _ _ _ _ _ _ _ _ _ _ _ _; rw [HLy.out]; exact HS4.out.grown (set_grownQ w4 gv k (.int .i64 vd)) (by intro e; exact hgk (Option.some.inj e).symm)), HSy⟩
            case measure => simp [intOf]; omega
        · have hE : Hid (vdE l m j s R n = ckG (R k 0) (R k 1) (R k 2) (R k 3)) := by
            show vdE l m j s R n = _
            rw [HE.out, HK.out (by rw [HN.out]; exact hcd), HN.out]
          have hN : Hid (vdN l m j s R n = 0) := vdN_no (by rw [hE.out]; exact hcd)
          have hcn : (ckG (R k 0) (R k 1) (R k 2) (R k 3) != 0) = true := by simpa using hcd
          clear hcd HK HN hst hs hal hF
          generalize R k 0 = q0 at *
          generalize R k 1 = q1 at *
          generalize R k 2 = q2 at *
          generalize R k 3 = q3 at *
          generalize ckG q0 q1 q2 q3 = cd at *
          go_wp2_with (go_at_call 33; refine (HG.out _).mono ?_; rintro e w2 ⟨rfl, hb2⟩)
          go_ret2
          rw [hE.out, hN.out]
          exact vdp_bad (hv.out.bel.trans (((Below.refl _ _).alloc (Nat.le_refl _) _ |>.trans (hb2.mono (by simp))).mono (by omega)))
      · obtain rfl : k = n := by omega
        have hE : Hid (vdE l m j s R k = 0) := by show _ = _; rw [HE.out]; exact hal.out
        have hN : Hid (vdN l m j s R k = k) := vdN_ok hE.out
        go_wp2
        go_ret2
        rw [hE.out, hN.out]
        exact ⟨_, _, rfl, fun hk => ⟨gv, 0, rfl, hv.out.lv, fun i hi => by rw [Nat.zero_add]; exact (hv.out.own i hi).1.trans (by rw [hF.out i hi]; rfl)⟩, (fun b off e => by cases e; exact hv.out.bv), hv.out.bel⟩
end Go.Proofs.Ytkflgiopkopeeaa.Ql

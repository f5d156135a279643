/-
  Three lists of the call's own, filled cell by cell.
-/
import Derived.Test.YtkflgiopkopeeaaQlCom
namespace Go.Proofs.Ytkflgiopkopeeaa.Ql
open Go.ChangeShapes Go.WideShapes Go.ChangeAt Go.RowKit
open Go.Proofs.Ytkflgiopkopeeaa.Cu (updF updF_same updF_other)
set_option linter.unusedVariables false

/-- A list of values lies in a block and may be written. -/
def Ow (W : World) (g n : Nat) (C : Nat → Value) : Prop := g < W.heap.size ∧ ∀ i, i < n → W.cell? ⟨g, i, none⟩ = some (C i) ∧ W.frozen? ⟨g, i, none⟩ = false
theorem Ow.next {W W' : World} {g n : Nat} {C : Nat → Value} (h : Ow W g n C) (hb : Below W.heap.size W W') : Ow W' g n C :=
  ⟨Nat.lt_of_lt_of_le h.1 hb.size, fun i hi => ⟨(hb.cell (p := ⟨g, i, none⟩) h.1).trans (h.2 i hi).1, (hb.frozen (p := ⟨g, i, none⟩) h.1).trans (h.2 i hi).2⟩⟩
theorem Ow.same {W : World} {g n : Nat} {C C' : Nat → Value} (h : Ow W g n C) (j : Nat) (hj : j < n) (u : Value) (h1 : C' j = u) (h2 : ∀ i, i ≠ j → C' i = C i) : Ow (W.setCell ⟨g, j, none⟩ u) g n C' :=
  ⟨by simpa using h.1, fun i hi => ⟨by
    by_cases e : i = j
    · subst e; rw [h1]; exact World.cell?_setCell_same _ _ _ (h.2 i hi).1
    · rw [h2 i e]; exact (World.cell?_setCell_other _ _ _ _ (by intro e3; simp only [Addr.mk.injEq] at e3; omega)).trans (h.2 i hi).1, by simpa using (h.2 i hi).2⟩⟩
theorem Ow.other {W : World} {g g' n : Nat} {C : Nat → Value} (h : Ow W g n C) (j : Nat) (u : Value) (hne : g' ≠ g) : Ow (W.setCell ⟨g', j, none⟩ u) g n C :=
  ⟨by simpa using h.1, fun i hi => ⟨(World.cell?_setCell_other _ _ _ _ (by intro e3; simp only [Addr.mk.injEq] at e3; omega)).trans (h.2 i hi).1, by simpa using (h.2 i hi).2⟩⟩
theorem ow_new (W : World) (n : Nat) (z : Value) (t : TypeId) : Ow (W.alloc (.cells (madeCells #[z] n) t)) W.heap.size n (fun _ => z) :=
  ⟨by simp, fun i hi => ⟨by simp [mk_get _ _ _ hi], by simp⟩⟩
/-- The three lists. -/
structure F3 (w : World) (gp gq go n : Nat) (P : Nat → Int) (Q : Nat → Bool) (O : Nat → Int) (W : World) : Prop where
  p : Ow W gp n (iC P)
  q : Ow W gq n (bC Q)
  o : Ow W go n (iC O)
  n1 : gp ≠ gq
  n2 : gp ≠ go
  n3 : gq ≠ go
  bp : w.heap.size ≤ gp
  bq : w.heap.size ≤ gq
  bo : w.heap.size ≤ go
  bel : Below w.heap.size w W
theorem F3.next {w : World} {gp gq go n : Nat} {P : Nat → Int} {Q : Nat → Bool} {O : Nat → Int} {W W' : World} (h : F3 w gp gq go n P Q O W) (hb : Below W.heap.size W W') : F3 w gp gq go n P Q O W' :=
  ⟨h.p.next hb, h.q.next hb, h.o.next hb, h.n1, h.n2, h.n3, h.bp, h.bq, h.bo, h.bel.trans (hb.mono h.bel.size)⟩
theorem F3.two {w : World} {gp gq go n : Nat} {P : Nat → Int} {Q : Nat → Bool} {O : Nat → Int} {W : World} (h : F3 w gp gq go n P Q O W) (j : Nat) (hj : j < n) (x : Int) (b : Bool) : F3 w gp gq go n (updF P j x) (updB Q j b) O ((W.setCell ⟨gp, j, none⟩ (.int .i64 x)).setCell ⟨gq, j, none⟩ (.bool b)) :=
  ⟨(h.p.same j hj _ (by unfold iC; rw [updF_same]) (fun i hi => by unfold iC; rw [updF_other _ _ hi])).other j _ (fun e => h.n1 e.symm), (h.q.other j _ h.n1).same j hj _ (by unfold bC updB; rw [if_pos rfl]) (fun i hi => by unfold bC updB; rw [if_neg hi]), (h.o.other j _ h.n2).other j _ h.n3, h.n1, h.n2, h.n3, h.bp, h.bq, h.bo, (h.bel.setCell (p := ⟨gp, j, none⟩) h.bp _).setCell (p := ⟨gq, j, none⟩) h.bq _⟩
theorem F3.one {w : World} {gp gq go n : Nat} {P : Nat → Int} {Q : Nat → Bool} {O : Nat → Int} {W : World} (h : F3 w gp gq go n P Q O W) (j : Nat) (hj : j < n) (x : Int) : F3 w gp gq go n P Q (updF O j x) (W.setCell ⟨go, j, none⟩ (.int .i64 x)) :=
  ⟨h.p.other j _ (fun e => h.n2 e.symm), h.q.other j _ (fun e => h.n3 e.symm), h.o.same j hj _ (by unfold iC; rw [updF_same]) (fun i hi => by unfold iC; rw [updF_other _ _ hi]), h.n1, h.n2, h.n3, h.bp, h.bq, h.bo, h.bel.setCell (p := ⟨go, j, none⟩) h.bo _⟩
theorem ow3 (W : World) (n : Nat) (z1 z2 z3 : Value) (t1 t2 t3 : TypeId) : Ow (((W.alloc (.cells (madeCells #[z1] n) t1)).alloc (.cells (madeCells #[z2] n) t2)).alloc (.cells (madeCells #[z3] n) t3)).drew W.heap.size n (fun _ => z1) ∧ Ow (((W.alloc (.cells (madeCells #[z1] n) t1)).alloc (.cells (madeCells #[z2] n) t2)).alloc (.cells (madeCells #[z3] n) t3)).drew (W.heap.size + 1) n (fun _ => z2) ∧ Ow (((W.alloc (.cells (madeCells #[z1] n) t1)).alloc (.cells (madeCells #[z2] n) t2)).alloc (.cells (madeCells #[z3] n) t3)).drew (W.heap.size + 1 + 1) n (fun _ => z3) ∧ Below W.heap.size W (((W.alloc (.cells (madeCells #[z1] n) t1)).alloc (.cells (madeCells #[z2] n) t2)).alloc (.cells (madeCells #[z3] n) t3)).drew := by
  have al : ∀ (X : World) (o : Obj), Below X.heap.size X (X.alloc o) := fun X o => (Below.refl _ _).alloc (Nat.le_refl _) o
  have dr : ∀ X : World, Below X.heap.size X X.drew := fun X => ⟨rfl, rfl, rfl, Nat.le_refl _, fun _ _ => rfl⟩
  have s1 : ∀ (X : World) (o : Obj), (X.alloc o).heap.size = X.heap.size + 1 := fun X o => by simp
  have h2 := ow_new (W.alloc (.cells (madeCells #[z1] n) t1)) n z2 t2
  have h3 := ow_new ((W.alloc (.cells (madeCells #[z1] n) t1)).alloc (.cells (madeCells #[z2] n) t2)) n z3 t3
  rw [s1] at h2
  rw [s1, s1] at h3
  refine ⟨(((ow_new W n z1 t1).next (al _ _)).next (al _ _)).next (dr _), (h2.next (al _ _)).next (dr _), h3.next (dr _), ?_⟩
  exact (((Below.refl _ _).alloc (Nat.le_refl _) _).alloc (by simp) _ |>.alloc (by simp; omega) _).trans ((dr _).mono (by simp; omega))
end Go.Proofs.Ytkflgiopkopeeaa.Ql

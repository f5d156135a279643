/-
  A row of integers that the call itself has made: what a store, a new block and a draw do to it.
-/
import Derived.Test.YtbcjigociliflaaQuMath
namespace Go.Proofs.Ytbcjigociliflaa.Qu
open Go.RowKit

/-- Block g holds the n integers s 0, .., s (n - 1), and none of these cells is frozen. -/
def Own (w : World) (g n : Nat) (s : Nat → Int) : Prop :=
  g < w.heap.size ∧ ∀ i, i < n → w.cell? ⟨g, i, none⟩ = some (.int .i64 (s i)) ∧ w.frozen? ⟨g, i, none⟩ = false
theorem Own.cell {w : World} {g n : Nat} {s : Nat → Int} (h : Own w g n s) {i : Nat} (hi : i < n) : w.cell? ⟨g, i, none⟩ = some (.int .i64 (s i)) := (h.2 i hi).1
theorem Own.free {w : World} {g n : Nat} {s : Nat → Int} (h : Own w g n s) {i : Nat} (hi : i < n) : w.frozen? ⟨g, i, none⟩ = false := (h.2 i hi).2
theorem Own.rd {w : World} {g n : Nat} {s : Nat → Int} (h : Own w g n s) : Rd w (some ⟨g, 0, none⟩) n s :=
  fun _ => ⟨g, 0, rfl, h.1, fun i hi => by rw [Nat.zero_add]; exact h.cell hi⟩
theorem Own.congr {w : World} {g n : Nat} {s s' : Nat → Int} (h : Own w g n s) (e : ∀ i, i < n → s i = s' i) : Own w g n s' :=
  ⟨h.1, fun i hi => by rw [← e i hi]; exact h.2 i hi⟩
theorem Own.below {w w' : World} {B g n : Nat} {s : Nat → Int} (h : Own w g n s) (hb : Below B w w') (hg : g < B) : Own w' g n s :=
  ⟨Nat.lt_of_lt_of_le h.1 hb.size, fun i hi => ⟨(hb.cell (p := ⟨g, i, none⟩) hg).trans (h.cell hi), (hb.frozen (p := ⟨g, i, none⟩) hg).trans (h.free hi)⟩⟩
theorem Own.drewN {w : World} {g n : Nat} {s : Nat → Int} (h : Own w g n s) (q : Nat) : Own (w.drewN q) g n s := h
theorem Own.drew {w : World} {g n : Nat} {s : Nat → Int} (h : Own w g n s) : Own w.drew g n s := h
theorem Own.alloc {w : World} {g n : Nat} {s : Nat → Int} (h : Own w g n s) (o : Obj) : Own (w.alloc o) g n s :=
  h.below ((Below.refl w.heap.size w).alloc (Nat.le_refl _) o) h.1
/-- One number changed. -/
def upd (s : Nat → Int) (j : Nat) (x : Int) (i : Nat) : Int := if i = j then x else s i
theorem upd_same (s : Nat → Int) (j : Nat) (x : Int) : upd s j x j = x := if_pos rfl
theorem upd_other (s : Nat → Int) {i j : Nat} (x : Int) (h : i ≠ j) : upd s j x i = s i := if_neg h
theorem Own.store {w : World} {g n : Nat} {s : Nat → Int} (h : Own w g n s) {j : Nat} (hj : j < n) (x : Int) :
    Own (w.setCell ⟨g, j, none⟩ (.int .i64 x)) g n (upd s j x) := by
  refine ⟨by simpa using h.1, fun i hi => ⟨?_, ?_⟩⟩
  · by_cases e : i = j
    · subst e; rw [upd_same]; exact World.cell?_setCell_same _ _ _ (h.cell hi)
    · rw [upd_other _ _ e]
      exact (World.cell?_setCell_other _ _ _ _ (by intro e'; simp only [Addr.mk.injEq] at e'; omega)).trans (h.cell hi)
  · simpa using h.free hi
theorem Own.other {w : World} {g n : Nat} {s : Nat → Int} (h : Own w g n s) {a : Addr} (ha : a.block ≠ g) (u : Value) : Own (w.setCell a u) g n s := by
  refine ⟨by simpa using h.1, fun i hi => ⟨?_, ?_⟩⟩
  · exact (World.cell?_setCell_other _ _ _ _ (by intro e'; apply ha; rw [e'])).trans (h.cell hi)
  · simpa using h.free hi
theorem Rd.below {w w' : World} {B : Nat} {a : Option Addr} {n : Nat} {z : Nat → Int} (h : Rd w a n z) (hb : Below B w w') (hB : w.heap.size ≤ B) : Rd w' a n z := by
  intro hn
  obtain ⟨b, off, rfl, hlt, hc⟩ := h hn
  exact ⟨b, off, rfl, Nat.lt_of_lt_of_le hlt hb.size, fun i hi => (hb.cell (p := ⟨b, off + i, none⟩) (Nat.lt_of_lt_of_le hlt hB)).trans (hc i hi)⟩
theorem Rd.drewN {w : World} {a : Option Addr} {n : Nat} {z : Nat → Int} (h : Rd w a n z) (q : Nat) : Rd (w.drewN q) a n z := h
theorem Rd.congr {w : World} {a : Option Addr} {n : Nat} {z z' : Nat → Int} (h : Rd w a n z) (e : ∀ i, i < n → z i = z' i) : Rd w a n z' := by
  intro hn
  obtain ⟨b, off, rfl, hlt, hc⟩ := h hn
  exact ⟨b, off, rfl, hlt, fun i hi => by rw [← e i hi]; exact hc i hi⟩
theorem Below.drewN {B : Nat} {a w : World} (h : Below B a w) (q : Nat) : Below B a (w.drewN q) := ⟨h.os, h.tape, h.output, h.size, h.block⟩
/-- What make leaves is such a row of zeros. -/
theorem own_made {w : World} {base : Nat} {e : TypeId} {g n : Nat} (h : w.ownsRow base e 1 (.slice (some ⟨g, 0, none⟩) n n) n (madeCells (Value.cells (.int .i64 0)) (n * 1)).toList) (hg : g < w.heap.size) : Own w g n (fun _ => 0) := by
  refine ⟨hg, fun i hi => ⟨?_, h.frozenAt i⟩⟩
  have hc := h.cellAt i (by omega)
  rw [hc, Nat.mul_one]
  show (madeCells #[Value.int .i64 0] n).toList[i]? = _
  rw [toList_madeCells_one]
  simp [hi]
end Go.Proofs.Ytbcjigociliflaa.Qu

/-
  The contract of Uncertain of package inflow.
-/
import Derived.Test.YtbcjigociliflaaIfBlr
namespace Go.Proofs.Ytbcjigociliflaa.If
open Go.ChangeShapes Go.WideShapes Go.ChangeAt Go.RowKit
open Go.Proofs.Ytbcjigociliflaa.Qu (sumZ sumZ_congr Rd)
open Go.Proofs.Ytbcjigociliflaa.Cu (Pts RdP ptL ptL_len ptL_get ptL_congr updF updF_same updF_other cell_two)
set_option linter.unusedVariables false

def ArP (x o : Int) (w : World) (e : Ending) (w' : World) : Prop := e = .returned (.agg #[.int .i64 (max 0 (x - o)), .int .i64 (x + o)]) ∧ w.alloc (.cells #[.int .i64 (max 0 (x - o)), .int .i64 (x + o)] 47) = w'
theorem ar_any (x o : Int) (w : World) (hx : 0 ≤ x ∧ x ≤ 274877906944) (ho : 0 ≤ o ∧ o ≤ 274877906944) :
    Calls Try.prog 29 #[.int .i64 x, .int .i64 o] w (ArP x o w) := by
  obtain ⟨x1, x2⟩ := hx
  obtain ⟨o1, o2⟩ := ho
  go_enter Try.func29, Try.ntmps29
  go_wp2
  exact bodyPost_ret (v := .agg #[.int .i64 (max 0 (x - o)), .int .i64 (x + o)]) (by simp [results, Try.results29, go_sem]) rfl ⟨rfl, rfl⟩

theorem cell_st {w : World} {a b : Addr} {v : Value} (h : w.cell? a = some v) (u : Value) (hb : a.block ≠ b.block) : (w.setCell b u).cell? a = some v :=
  (World.cell?_setCell_other _ _ _ _ (by intro e; apply hb; rw [e])).trans h

theorem Try.infoB : (Try.prog.info? 47).map (fun i => (i.zero, i.size, i.bytes)) = some (some (.agg #[.int .i64 0, .int .i64 0]), 2, 16) := by kernel_rfl
/-- Block g holds the n pairs X i, Y i, and none of these cells is frozen. -/
def OwnP (w : World) (g n : Nat) (X Y : Nat → Int) : Prop :=
  g < w.heap.size ∧ ∀ i, i < n → (w.cell? ⟨g, i * 2, none⟩ = some (.int .i64 (X i)) ∧ w.frozen? ⟨g, i * 2, none⟩ = false) ∧ (w.cell? ⟨g, i * 2 + 1, none⟩ = some (.int .i64 (Y i)) ∧ w.frozen? ⟨g, i * 2 + 1, none⟩ = false)
theorem OwnP.rd {w : World} {g n : Nat} {X Y : Nat → Int} (h : OwnP w g n X Y) : RdP w (some ⟨g, 0, none⟩) n X Y :=
  fun _ => ⟨g, 0, rfl, h.1, fun i hi => by rw [Nat.zero_add]; exact ⟨(h.2 i hi).1.1, (h.2 i hi).2.1⟩⟩
theorem OwnP.congr {w : World} {g n : Nat} {X Y X' Y' : Nat → Int} (h : OwnP w g n X Y) (e : ∀ i, i < n → X i = X' i ∧ Y i = Y' i) : OwnP w g n X' Y' :=
  ⟨h.1, fun i hi => by rw [← (e i hi).1, ← (e i hi).2]; exact h.2 i hi⟩
theorem OwnP.below {w w' : World} {B g n : Nat} {X Y : Nat → Int} (h : OwnP w g n X Y) (hb : Below B w w') (hg : g < B) : OwnP w' g n X Y :=
  ⟨Nat.lt_of_lt_of_le h.1 hb.size, fun i hi => ⟨⟨(hb.cell (p := ⟨g, i * 2, none⟩) hg).trans (h.2 i hi).1.1, (hb.frozen (p := ⟨g, i * 2, none⟩) hg).trans (h.2 i hi).1.2⟩, ⟨(hb.cell (p := ⟨g, i * 2 + 1, none⟩) hg).trans (h.2 i hi).2.1, (hb.frozen (p := ⟨g, i * 2 + 1, none⟩) hg).trans (h.2 i hi).2.2⟩⟩⟩
theorem made_at (z : Value) (n i : Nat) (hi : i < n) : (madeCells #[z, z] n).toList[i]? = some z := by
  rcases (show i % 2 = 0 ∨ i % 2 = 1 by omega) with e | e <;> simp [madeCells, hi, e]
theorem ownP_made {w : World} {base : Nat} {e : TypeId} {g n : Nat} (h : w.ownsRow base e 2 (.slice (some ⟨g, 0, none⟩) n n) n (madeCells (Value.cells (.agg #[.int .i64 0, .int .i64 0])) (n * 2)).toList) (hg : g < w.heap.size) : OwnP w g n (fun _ => 0) (fun _ => 0) := by
  have hc : Value.cells (.agg #[.int .i64 0, .int .i64 0]) = #[.int .i64 0, .int .i64 0] := by simp [Value.cells]
  rw [hc] at h
  refine ⟨hg, fun i hi => ⟨⟨?_, h.frozenAt _⟩, ⟨?_, h.frozenAt _⟩⟩⟩
  · rw [h.cellAt _ (by omega)]; exact made_at _ _ _ (by omega)
  · rw [h.cellAt _ (by omega)]; exact made_at _ _ _ (by omega)
theorem upTo_step (f : Nat → Int) {k i : Nat} (h : i ≠ k) : Qu.upTo f (k + 1) i = Qu.upTo f k i := by
  unfold Qu.upTo
  by_cases h2 : i < k
  · rw [if_pos h2, if_pos (by omega)]
  · rw [if_neg h2, if_neg (by omega)]
theorem OwnP.next {w : World} {g n k : Nat} {X Y : Nat → Int} (h : OwnP w g n (Qu.upTo X k) (Qu.upTo Y k)) (hk : k < n) {x y : Int} (hx : x = X k) (hy : y = Y k) :
    OwnP ((w.setCell ⟨g, k * 2, none⟩ (.int .i64 x)).setCell ⟨g, k * 2 + 1, none⟩ (.int .i64 y)) g n (Qu.upTo X (k + 1)) (Qu.upTo Y (k + 1)) := by
  refine ⟨by simpa using h.1, fun i hi => ?_⟩
  obtain ⟨⟨c1, f1⟩, c2, f2⟩ := h.2 i hi
  refine ⟨⟨?_, by simpa using f1⟩, ⟨?_, by simpa using f2⟩⟩
  · by_cases e : i = k
    · subst e
      rw [World.cell?_setCell_other _ _ _ _ (by intro e; simp only [Addr.mk.injEq] at e; omega), World.cell?_setCell_same _ _ _ c1, hx, Qu.upTo_all X (Nat.lt_succ_self i)]
    · rw [World.cell?_setCell_other _ _ _ _ (by intro e; simp only [Addr.mk.injEq] at e; omega), World.cell?_setCell_other _ _ _ _ (by intro e; simp only [Addr.mk.injEq] at e; omega), c1, upTo_step X e]
  · by_cases e : i = k
    · subst e
      rw [World.cell?_setCell_same _ _ _ ((World.cell?_setCell_other _ _ _ _ (by intro e; simp only [Addr.mk.injEq] at e; omega)).trans c2), hy, Qu.upTo_all Y (Nat.lt_succ_self i)]
    · rw [World.cell?_setCell_other _ _ _ _ (by intro e; simp only [Addr.mk.injEq] at e; omega), World.cell?_setCell_other _ _ _ _ (by intro e; simp only [Addr.mk.injEq] at e; omega), c2, upTo_step Y e]
end Go.Proofs.Ytbcjigociliflaa.If

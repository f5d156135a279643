/-
  Contracts of In of package calendar and of its reference.
-/
import Derived.Test.YtkflgiopkopeeaaCaFns
namespace Go.Proofs.Ytkflgiopkopeeaa.Ca
open Go.ChangeShapes Go.WideShapes Go.ChangeAt Go.RowKit
set_option linter.unusedVariables false

/-- P4.2: the day is in the span. -/
def insB (f t d : Int) : Bool := valB f t && dayB d && (if f ≤ t then btw f d t else decide (f ≤ d ∨ d ≤ t))
theorem ins_no1 {f t d : Int} (h : valB f t = false) : insB f t d = false := by unfold insB; rw [h]; rfl
theorem ins_no2 {f t d : Int} (h : dayB d = false) : insB f t d = false := by unfold insB; rw [h]; simp
theorem ins_le {f t d : Int} (h : valB f t = true) (h2 : dayB d = true) (h3 : f ≤ t) : insB f t d = btw f d t := by unfold insB; rw [h, h2, if_pos h3]; rfl
theorem ins_gt {f t d : Int} (h : valB f t = true) (h2 : dayB d = true) (h3 : ¬ f ≤ t) : insB f t d = decide (f ≤ d ∨ d ≤ t) := by unfold insB; rw [h, h2, if_neg h3]; rfl
def RetB (b : Bool) (w : World) (e : Ending) (w' : World) : Prop := e = .returned (.bool b) ∧ Below w.heap.size w w'
/-- A box of two numbers. -/
structure Bx2 (w : World) (k : Nat) (a b : Int) : Prop where
  c0 : w.cell? ⟨k, 0, none⟩ = some (.int .i64 a)
  c1 : w.cell? ⟨k, 1, none⟩ = some (.int .i64 b)
theorem Bx2.below {w w' : World} {B k : Nat} {a b : Int} (h : Bx2 w k a b) (hb : Below B w w') (hB : k < B) : Bx2 w' k a b :=
  ⟨(hb.cell (p := ⟨k, 0, none⟩) hB).trans h.c0, (hb.cell (p := ⟨k, 1, none⟩) hB).trans h.c1⟩
theorem Bx2.up {w w' : World} {k : Nat} {a b : Int} (h : Bx2 w k a b) (hb : Below w.heap.size w w') : Bx2 w' k a b := h.below hb (World.block_lt_of_cell? _ _ h.c0)
theorem Bx2.grown {w w' : World} {r : Option Nat} {k : Nat} {a b : Int} (h : Bx2 w k a b) (hg : w.grownBy w' r) (hr : some k ≠ r) : Bx2 w' k a b := ⟨hg.cell h.c0 hr, hg.cell h.c1 hr⟩
theorem bx2_alloc (w : World) (a b : Int) (t : TypeId) : Bx2 (w.alloc (.cells #[.int .i64 a, .int .i64 b] t)) w.heap.size a b := ⟨by simp, by simp⟩
theorem Bx2.alloc {w : World} {k : Nat} {a b : Int} (h : Bx2 w k a b) (o : Obj) : Bx2 (w.alloc o) k a b := h.up ((Below.refl w.heap.size w).alloc (Nat.le_refl _) o)

end Go.Proofs.Ytkflgiopkopeeaa.Ca

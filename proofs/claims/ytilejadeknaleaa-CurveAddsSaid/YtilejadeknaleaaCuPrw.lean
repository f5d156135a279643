/-
  What the opened argument of a law says of a list of points.
-/
import Derived.Test.YtilejadeknaleaaCuLad
import Derived.Deep.SlicePairs
namespace Go.Proofs.Ytilejadeknaleaa.Cu
open Go.ChangeShapes Go.WideShapes Go.ChangeAt Go.RowKit
set_option linter.unusedVariables false

def numOf : Value → Int
  | .int _ u => u
  | _ => 0
theorem pts_rd {w : World} {x : Addr} {len m : Nat} {V0 V1 : Nat → Value} (h : ∀ i, i < m → w.cell? (x.add (i * 2)) = some (V0 i) ∧ w.cell? (x.add (i * 2 + 1)) = some (V1 i) ∧ (∃ u, V0 i = .int .i64 u) ∧ ∃ u, V1 i = .int .i64 u) (hlm : len ≤ m) :
    RdP w (some x) len (fun i => numOf (V0 i)) (fun i => numOf (V1 i)) := by
  intro hn
  obtain ⟨b, off, spot⟩ := x
  have hspot : spot = none := by simpa [Addr.add] using World.cell?_spot (h 0 (by omega)).1
  subst hspot
  have h6 : ∀ i, i < len → w.cell? ⟨b, off + i * 2, none⟩ = some (.int .i64 (numOf (V0 i))) ∧ w.cell? ⟨b, off + i * 2 + 1, none⟩ = some (.int .i64 (numOf (V1 i))) := fun i hi => by
    obtain ⟨h1, h2, ⟨u, hu⟩, ⟨v, hv⟩⟩ := h i (by omega)
    rw [add_plain] at h1 h2
    rw [h1, hu, Nat.add_assoc, h2, hv]
    exact ⟨rfl, rfl⟩
  exact ⟨b, off, rfl, World.block_lt_of_cell? _ _ (h6 0 hn).1, h6⟩
end Go.Proofs.Ytilejadeknaleaa.Cu

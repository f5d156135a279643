/-
  What the opened argument of a law says of a list of truths.
-/
import Derived.Test.YtkflgiopkopeeaaQlRow
namespace Go.Proofs.Ytkflgiopkopeeaa.Ql
open Go.ChangeShapes Go.WideShapes Go.ChangeAt Go.RowKit
set_option linter.unusedVariables false

theorem bools_rd {w : World} {x : Addr} {n : Nat} {B : Nat → Bool} (h : ∀ i, i < n → w.cell? (x.add i) = some (.bool (B i))) : RdL w (some x) n B := fun hn => by
  obtain ⟨b, off, spot⟩ := x
  have hspot : spot = none := by simpa [Addr.add] using World.cell?_spot (h 0 hn)
  subst hspot
  have h6 : ∀ i, i < n → w.cell? ⟨b, off + i, none⟩ = some (.bool (B i)) := fun i hi => by rw [← add_plain]; exact h i hi
  exact ⟨b, off, rfl, World.block_lt_of_cell? _ _ (h6 0 hn), h6⟩
end Go.Proofs.Ytkflgiopkopeeaa.Ql

/-
  The opened argument []byte of a test as bytes that can be read.
-/
import Derived.Test.YtlelcooomfcbaaaDoorGpRow
import Derived.Test.YtlelcooomfcbaaaDoorGgBase
namespace Go.Proofs.YtlelcooomfcbaaaDoor.Gg
open Go.ChangeShapes Go.WideShapes Go.ChangeAt Go.RowKit
set_option linter.unusedVariables false

theorem wf_u8 {x : Int} (h : (Lit.int .u8 x).wf = true) : 0 ≤ x ∧ x ≤ 255 := by
  simp [Lit.wf, IntKind.min, IntKind.max, IntKind.signed, IntKind.bits] at h
  omega
theorem row_by {w : World} {a : Option Addr} {len cap : Nat} {zs : List Int}
    (h : (a = none ∧ len = 0 ∧ cap = 0 ∧ zs = []) ∨ ∃ x, a = some x ∧ len ≤ cap ∧ cap ≤ maxLen ∧ zs.length = cap ∧ (∀ i, i < zs.length → w.cell? (x.add i) = some (.int .u8 (zs.getD i 0))) ∧ ∀ n ∈ zs, (Lit.int .u8 n).wf = true) :
    RdB w a len (fun i => zs.getD i 0) ∧ Bt (fun i => zs.getD i 0) len ∧ len ≤ cap := by
  rcases h with ⟨rfl, rfl, rfl, rfl⟩ | ⟨x, rfl, h1, h2, h3, h4, h5⟩
  · exact ⟨fun h => absurd h (Nat.lt_irrefl _), fun i hi => absurd hi (Nat.not_lt_zero _), Nat.le_refl _⟩
  · refine ⟨fun hn => ?_, fun i hi => ?_, h1⟩
    · obtain ⟨b, off, spot⟩ := x
      have hspot : spot = none := by simpa [Addr.add] using World.cell?_spot (h4 0 (by omega))
      subst hspot
      have h6 : ∀ i, i < zs.length → w.cell? ⟨b, off + i, none⟩ = some (.int .u8 (zs.getD i 0)) := fun i hi => by rw [← add_plain]; exact h4 i hi
      exact ⟨b, off, rfl, World.block_lt_of_cell? _ _ (h6 0 (by omega)), fun i hi => h6 i (by omega)⟩
    · have hi2 : i < zs.length := by omega
      have e : zs.getD i 0 = zs[i] := by simp [List.getD, hi2]
      show 0 ≤ zs.getD i 0 ∧ zs.getD i 0 ≤ 255
      rw [e]
      exact wf_u8 (h5 _ (List.getElem_mem hi2))
end Go.Proofs.YtlelcooomfcbaaaDoor.Gg

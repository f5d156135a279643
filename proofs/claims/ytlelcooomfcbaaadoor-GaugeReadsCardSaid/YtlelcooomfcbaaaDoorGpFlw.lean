/-
  The words of the flags, out of what the rows list.
-/
import Derived.Test.YtlelcooomfcbaaaDoorRows
import Derived.Test.YtlelcooomfcbaaaDoorGpPar
import Derived.Lib.LaidU8
import Derived.ChangeBears2
import Derived.ChangeArms
namespace Go.Proofs.YtlelcooomfcbaaaDoor.Gg
open Go.ChangeShapes Go.WideShapes Go.ChangeAt Go.RowKit
set_option linter.unusedVariables false

theorem flw_of {W : World} {l : List (String × DataW Unit)} (h : laidMet Tryd.prog l W) (hm : ("hydrocascade/gauge.flagWords", Rows.laid_hydrocascade_gauge_flagWords) ∈ l) : FlW W := by
  obtain ⟨g, t, cs, fuel, p, hg, hty, hvar, hd⟩ := Lib.laidMet.reads h hm
  obtain rfl : g = 0 := Option.some.inj (hg.symm.trans (by kernel_rfl))
  obtain rfl : t = 72 := Option.some.inj (hty.symm.trans (by kernel_rfl))
  have c1 : Tryd.prog.cellsOf 9 = 1 := by kernel_rfl
  have el : ∀ (i : Nat) (bs : List UInt8), i < 3 → [([111, 107] : List UInt8), [105, 99, 101], [102, 97, 117, 108, 116]][i]? = some bs → W.cell? ⟨0, i, none⟩ = some (.string ⟨bs.toArray⟩) := by
    intro i bs hi hb
    obtain ⟨fuel', d, q, hdi, he⟩ := Lib.array_elem Tryd.underlying72 hd i hi
    rw [c1, Nat.mul_one] at he
    obtain ⟨s, hs, hx, _⟩ := DataW.trod_string Tryd.underlying9 he
    have hd2 : d = .lit (.string bs) := by
      have hc : i = 0 ∨ i = 1 ∨ i = 2 := by omega
      rcases hc with rfl | rfl | rfl <;> simp at hdi hb <;> subst hdi hb <;> rfl
    rw [hd2] at hx
    simp only [Prod.mk.injEq, DataW.lit.injEq, Lit.string.injEq] at hx
    have hse : s = ⟨bs.toArray⟩ := by
      obtain ⟨⟨sl⟩⟩ := s
      have : bs = sl := hx.1
      rw [this]
    rw [World.var?_cell hg hvar i, ← Array.getElem?_toList, ← hse]
    have := congrArg (·[0]?) hs
    simpa [List.getElem?_take, List.getElem?_drop] using this
  exact ⟨World.block_lt_of_cell? _ _ (el 0 _ (by omega) rfl), el 0 _ (by omega) rfl, el 1 _ (by omega) rfl, el 2 _ (by omega) rfl⟩
end Go.Proofs.YtlelcooomfcbaaaDoor.Gg

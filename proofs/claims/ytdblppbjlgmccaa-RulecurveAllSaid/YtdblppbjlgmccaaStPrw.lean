/-
  What the opened argument of a law says of a reservoir.
-/
import Derived.Test.YtdblppbjlgmccaaStRqs
import Derived.Deep.SlicePairs
import Derived.Lib.SmallJoins
namespace Go.Proofs.Ytdblppbjlgmccaa.Cu
open Go.ChangeShapes Go.WideShapes Go.ChangeAt Go.RowKit Go.Joins Go.Deep
set_option linter.unusedVariables false

def numOf : Value → Int
  | .int _ u => u
  | _ => 0
theorem pts_rd {w : World} {x : Addr} {len m : Nat} {V0 V1 : Nat → Value} (h : ∀ i, i < m → w.cell? (x.add (i * 2)) = some (V0 i) ∧ w.cell? (x.add (i * 2 + 1)) = some (V1 i) ∧ (∃ u, V0 i = .int .i64 u) ∧ ∃ u, V1 i = .int .i64 u) (hlm : len ≤ m) :
    RdP w (some x) len (fun i => numOf (V0 i)) (fun i => numOf (V1 i)) := by
  intro hn
  obtain ⟨b, off, spot⟩ := x
  have hspot : spot = none := by simpa [Addr.add] using World.cell?_spot (h 0 (by omega)).1
  subst hspot
  have h6 : ∀ i, i < len → w.cell? ⟨b, off + i * 2, none⟩ = some (.int .i64 (numOf (V0 i))) ∧ w.cell? ⟨b, off + i * 2 + 1, none⟩ = some (.int .i64 (numOf (V1 i))) := fun i hi => by
    obtain ⟨h1, h2, ⟨u, hu⟩, ⟨v, hv⟩⟩ := h i (by omega)
    rw [add_plain] at h1 h2
    rw [h1, hu, Nat.add_assoc, h2, hv]
    exact ⟨rfl, rfl⟩
  exact ⟨b, off, rfl, World.block_lt_of_cell? _ _ (h6 0 hn).1, h6⟩

theorem arr_six {α : Type} {cs : Array α} (h : cs.size = 6) : ∃ c0 c1 c2 c3 c4 c5, cs = #[c0, c1, c2, c3, c4, c5] := by
  obtain ⟨l⟩ := cs
  match l, h with
  | [c0, c1, c2, c3, c4, c5], _ => exact ⟨c0, c1, c2, c3, c4, c5, rfl⟩
section
variable {H : Type} {enc : TypeId × Value → H} {P : Program} {w : World} {base : Nat} {spare : Nat → Bool} {held : Bool}
/-- A struct of six fields of one cell each, by value: its six cells, each with its reading. -/
theorem six_open {r : Reach} {b0 : Nat} {t : TypeId} {f0 f1 f2 f3 f4 f5 : Field} {v : Value} {d : DataW H} {p : List MemPlace} (hs : P.underlying t = some (.struct #[f0, f1, f2, f3, f4, f5])) (hone : oneCellFields P #[f0, f1, f2, f3, f4, f5] = true) (hC : P.cellsOf t = 6)
    (hv : Value.okWide P w r b0 t v) (h : DataW.Trod enc P w base spare held t v d p) :
    ∃ (c0 c1 c2 c3 c4 c5 : Value) (y0 y1 y2 y3 y4 y5 : DataW H × List MemPlace) (n : Nat), v = .agg #[c0, c1, c2, c3, c4, c5] ∧ DataW.trod enc P w base spare held n f0.type [c0] = some y0 ∧ DataW.trod enc P w base spare held n f1.type [c1] = some y1 ∧ DataW.trod enc P w base spare held n f2.type [c2] = some y2 ∧
      DataW.trod enc P w base spare held n f3.type [c3] = some y3 ∧ DataW.trod enc P w base spare held n f4.type [c4] = some y4 ∧ DataW.trod enc P w base spare held n f5.type [c5] = some y5 := by
  obtain ⟨cs, rfl, hsz⟩ := okWide_struct hs hv
  obtain ⟨c0, c1, c2, c3, c4, c5, rfl⟩ := arr_six (hsz.trans hC)
  obtain ⟨fuel, hf⟩ := h
  obtain ⟨xs, n, _, _, _, hlen, hall⟩ := DataW.trod_struct hs hf
  match xs, hlen with
  | [y0, y1, y2, y3, y4, y5], _ =>
    obtain ⟨o0, k0⟩ := hone_of hone 0 f0 rfl
    obtain ⟨o1, k1⟩ := hone_of hone 1 f1 rfl
    obtain ⟨o2, k2⟩ := hone_of hone 2 f2 rfl
    obtain ⟨o3, k3⟩ := hone_of hone 3 f3 rfl
    obtain ⟨o4, k4⟩ := hone_of hone 4 f4 rfl
    obtain ⟨o5, k5⟩ := hone_of hone 5 f5 rfl
    exact ⟨c0, c1, c2, c3, c4, c5, y0, y1, y2, y3, y4, y5, n, rfl, by simpa [Value.cells, o0, k0] using hall 0 f0 rfl, by simpa [Value.cells, o1, k1] using hall 1 f1 rfl, by simpa [Value.cells, o2, k2] using hall 2 f2 rfl,
      by simpa [Value.cells, o3, k3] using hall 3 f3 rfl, by simpa [Value.cells, o4, k4] using hall 4 f4 rfl, by simpa [Value.cells, o5, k5] using hall 5 f5 rfl⟩
end
end Go.Proofs.Ytdblppbjlgmccaa.Cu

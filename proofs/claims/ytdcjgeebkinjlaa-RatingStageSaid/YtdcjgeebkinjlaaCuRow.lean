/-
  What the opened argument of a law says of a list of integers; the start that the laws of layer 2 share.
-/
import Derived.Test.YtdcjgeebkinjlaaCuAt
import Derived.Test.YtdcjgeebkinjlaaCuDeck
import Derived.SizedLaws
import Derived.Deep.RegionHeld3
namespace Go.Proofs.Ytdcjgeebkinjlaa.Cu
open Go.ChangeShapes Go.WideShapes Go.ChangeAt Go.RowKit
set_option linter.unusedVariables false

theorem wf_bd {x : Int} (h : (Lit.int .i64 x).wf = true) : -9223372036854775808 ≤ x ∧ x ≤ 9223372036854775807 := by
  simp [Lit.wf, IntKind.min, IntKind.max, IntKind.signed, IntKind.bits] at h; omega

/-- A list of integers that can be read. -/
def RdI (w : World) (a : Option Addr) (n : Nat) (z : Nat → Int) : Prop :=
  0 < n → ∃ b off, a = some ⟨b, off, none⟩ ∧ b < w.heap.size ∧ ∀ i, i < n → w.cell? ⟨b, off + i, none⟩ = some (.int .i64 (z i))
theorem row_rd {w : World} {a : Option Addr} {len cap : Nat} {zs : List Int}
    (h : (a = none ∧ len = 0 ∧ cap = 0 ∧ zs = []) ∨ ∃ x, a = some x ∧ len ≤ cap ∧ cap ≤ maxLen ∧ zs.length = cap ∧ (∀ i, i < zs.length → w.cell? (x.add i) = some (.int .i64 (zs.getD i 0))) ∧ ∀ n ∈ zs, (Lit.int .i64 n).wf = true) :
    RdI w a len (fun i => zs.getD i 0) ∧ len ≤ 9223372036854775807 ∧ ∀ i, -9223372036854775808 ≤ zs.getD i 0 ∧ zs.getD i 0 ≤ 9223372036854775807 := by
  rcases h with ⟨rfl, rfl, rfl, rfl⟩ | ⟨x, rfl, h1, h2, h3, h4, h5⟩
  · exact ⟨fun h => absurd h (Nat.lt_irrefl _), by omega, fun i => by simp⟩
  · refine ⟨fun hn => ?_, by unfold maxLen at h2; omega, fun i => ?_⟩
    · obtain ⟨b, off, spot⟩ := x
      have hspot : spot = none := by simpa [Addr.add] using World.cell?_spot (h4 0 (by omega))
      subst hspot
      have h6 : ∀ i, i < zs.length → w.cell? ⟨b, off + i, none⟩ = some (.int .i64 (zs.getD i 0)) := fun i hi => by rw [← add_plain]; exact h4 i hi
      exact ⟨b, off, rfl, World.block_lt_of_cell? _ _ (h6 0 (by omega)), fun i hi => h6 i (by omega)⟩
    · by_cases hi : i < zs.length
      · have e : zs.getD i 0 = zs[i] := by simp [List.getD, hi]
        rw [e]
        exact wf_bd (h5 _ (List.getElem_mem _))
      · have e : zs.getD i 0 = 0 := by simp [List.getD, hi]
        rw [e]; omega

/-- A curve that Curve has made behind the deck g, with what is known of it. -/
theorem cv_open {w w' : World} {g : Nat} {p : Option Addr} {n c : Nat} {z : Nat → Int} {x y dx dy : Int} {e : Ending} (h : CvP w g p n c z x y dx dy e w') (hdx : dx ≤ 50) (hdy : dy ≤ 250) (hx : 0 ≤ x ∧ x ≤ 1000) (hy : 0 ≤ y ∧ y ≤ 1000) :
    ∃ (b cap k m : Nat) (X Y : Nat → Int), e = .returned (.slice (some ⟨b, 0, none⟩) k cap) ∧ 1 ≤ m ∧ m ≤ 4 ∧ k = m + 1 ∧ w.heap.size ≤ b ∧ Pts w' b 0 k X Y ∧ Cur X Y m ∧ (∀ i, i ≤ m → x ≤ X i ∧ X i ≤ x + 50 * i ∧ y ≤ Y i ∧ Y i ≤ y + 250 * i) ∧ Dk w' g p n c z ∧ w.grownBy w' (some g) := by
  obtain ⟨v, m, X, Y, rfl, h1, h2, hg, hm, hd, hgr⟩ := h
  obtain ⟨b, cap, rfl, hb, hp, _, _⟩ := gotP_pts hg (by omega)
  exact ⟨b, cap, m + 1, m, X, Y, rfl, h1, h2, rfl, hb, hp, hm.cur hdx hdy h2 hx hy, fun i hi => hm.hi hdx hdy i hi, hd, hgr⟩
end Go.Proofs.Ytdcjgeebkinjlaa.Cu

/-
  slices.IsSorted at this translation, by the library's contract: seven integers.
-/
import Derived.Shelf.SlSorted.IsSorted
import Derived.Test.YtdblppbjlgmccaaProg
import Derived.Test.YtdblppbjlgmccaaStMath
namespace Go.Proofs
open Go.Shelf
def Try.ascL_ren : Go.Shelf.Ren := ⟨fun | 10 => 57 | 18 => 61 | 24 => 63 | n => n, fun | 0 => 0 | 3 => 3 | 4 => 4 | 22 => 25 | 24 => 3 | n => n, fun | n => n⟩
theorem Try.ascL : Go.Proofs.SlLaysO.n10 Try.prog Try.ascL_ren := {
  mixed := by kernel_rfl
  f10 := ⟨Try.f57.name, by decide, Try.func57.trans (congrArg some (by kernel_rfl))⟩
  f18 := ⟨Try.f61.name, by decide, Try.func61.trans (congrArg some (by kernel_rfl))⟩
  f24 := ⟨Try.f63.name, by decide, Try.func63.trans (congrArg some (by kernel_rfl))⟩
  t0 := Try.underlying0
  a0 := Try.isAgg0
  z0 := Try.sizeOf0
  v0 := Try.zeroValue0
  t3 := Try.underlying3
  a3 := Try.isAgg3
  z3 := Try.sizeOf3
  v3 := Try.zeroValue3
  t4 := Try.underlying4
  a4 := Try.isAgg4
  z4 := Try.sizeOf4
  v4 := Try.zeroValue4
  t22 := Try.underlying25
  a22 := Try.isAgg25
  z22 := Try.sizeOf25
  v22 := Try.zeroValue25
  t24 := Try.underlying3
  a24 := Try.isAgg3
  z24 := Try.sizeOf3
  v24 := Try.zeroValue3 }
namespace Ytdblppbjlgmccaa.Cu

theorem down_seven (a b c d e f g : Int) : Lib.downOK (fun x y => decide (x < y)) #[a, b, c, d, e, f, g] 6 = lvlB a b c d e f g := by
  have h := Lib.downOK_iff (fun x y : Int => decide (x < y)) #[a, b, c, d, e, f, g] 6
  have e1 : Lib.downOK (fun x y => decide (x < y)) #[a, b, c, d, e, f, g] 6 = true ↔ lvlB a b c d e f g = true := by
    rw [h]
    unfold lvlB
    rw [decide_eq_true_eq]
    constructor
    · intro h
      have h0 := h 0 (by omega)
      have h1 := h 1 (by omega)
      have h2 := h 2 (by omega)
      have h3 := h 3 (by omega)
      have h4 := h 4 (by omega)
      have h5 := h 5 (by omega)
      simp only [decide_eq_false_iff_not] at h0 h1 h2 h3 h4 h5
      simp at h0 h1 h2 h3 h4 h5
      exact ⟨h0, h1, h2, h3, h4, h5⟩
    · rintro ⟨h0, h1, h2, h3, h4, h5⟩ i hi
      have hc : i = 0 ∨ i = 1 ∨ i = 2 ∨ i = 3 ∨ i = 4 ∨ i = 5 := by omega
      rcases hc with rfl | rfl | rfl | rfl | rfl | rfl <;> simp <;> omega
  exact Bool.eq_iff_iff.2 e1
theorem seven_any (blk cap : Nat) (a b c d e f g : Int) (w : World) (h0 : w.cell? ⟨blk, 0, none⟩ = some (.int .i64 a)) (h1 : w.cell? ⟨blk, 1, none⟩ = some (.int .i64 b)) (h2 : w.cell? ⟨blk, 2, none⟩ = some (.int .i64 c)) (h3 : w.cell? ⟨blk, 3, none⟩ = some (.int .i64 d)) (h4 : w.cell? ⟨blk, 4, none⟩ = some (.int .i64 e)) (h5 : w.cell? ⟨blk, 5, none⟩ = some (.int .i64 f)) (h6 : w.cell? ⟨blk, 6, none⟩ = some (.int .i64 g)) :
    Calls Try.prog 57 #[.slice (some ⟨blk, 0, none⟩) 7 cap] w fun en w' => en = .returned (.bool (lvlB a b c d e f g)) ∧ ∃ q, w' = w.drewN q := by
  have hcon := AnyO.slices_IsSorted_int Try.ascL blk 0 cap #[a, b, c, d, e, f, g] w (fun i hi => by
    have hi' : i < 7 := hi
    have hc : i = 0 ∨ i = 1 ∨ i = 2 ∨ i = 3 ∨ i = 4 ∨ i = 5 ∨ i = 6 := by omega
    rcases hc with rfl | rfl | rfl | rfl | rfl | rfl | rfl
    · exact h0
    · exact h1
    · exact h2
    · exact h3
    · exact h4
    · exact h5
    · exact h6) (show 7 < 4611686018427387904 by omega)
  rw [← down_seven]
  exact hcon
end Ytdblppbjlgmccaa.Cu
end Go.Proofs

/-
  The example of chapter 5; what the laws share: the deck of the argument, the list that made returns, later worlds.
-/
import Derived.Test.YtdblppbjlgmccaaRuMade
import Derived.Test.YtdblppbjlgmccaaStRow
namespace Go.Proofs.Ytdblppbjlgmccaa.Ru
open Go.ChangeShapes Go.WideShapes Go.ChangeAt Go.RowKit
open Go.Proofs.Ytdblppbjlgmccaa.Cu
set_option linter.unusedVariables false

def exX (i : Nat) : Int := if i = 0 then 0 else 100
def exY (i : Nat) : Int := if i = 0 then 100 else 200
theorem exP (w : World) : Pts (w.alloc (.cells #[.int .i64 0, .int .i64 100, .int .i64 100, .int .i64 200] 45)) w.heap.size 0 2 exX exY := by
  refine ⟨by simp, fun i hi => ?_⟩
  match i, hi with
  | 0, _ => exact ⟨by simp [exX], by simp [exY]⟩
  | 1, _ => exact ⟨by simp [exX], by simp [exY]⟩

set_option maxHeartbeats 800000 in
theorem awake5_any (w : World) : Calls Try.prog 8 #[] w fun e w' => e = .returned (.bool true) ∧ Below w.heap.size w w' := by
  have HA := Lib.hid (fun W hp => rat_pkg (some ⟨w.heap.size, 0, none⟩) 2 2 exX exY 50 W hp (Nat.le_refl _))
  rw [show atV exX exY 2 50 = 150 by decide, show atE exX exY 2 50 = 0 by decide] at HA
  have HB := Lib.hid (fun W hp => rat_pkg (some ⟨w.heap.size, 0, none⟩) 2 2 exX exY 232 W hp (Nat.le_refl _))
  rw [show atV exX exY 2 232 = 150 by decide, show atE exX exY 2 232 = 0 by decide] at HB
  have HP := Lib.hid (show RdP _ (some ⟨w.heap.size, 0, none⟩) 2 exX exY from fun _ => ⟨_, _, rfl, exP w⟩)
  go_enter Try.func8, Try.ntmps8
  go_wp2_with (first
    | (go_at_call_has 18 (Value.int .i64 50); refine (HA.out _ HP.out).mono ?_; rintro e w1 ⟨rfl, hb1⟩; have HP1 := Lib.hid (HP.out.below hb1 (Nat.le_refl _)))
    | (go_at_call_has 18 (Value.int .i64 232); refine (HB.out _ HP1.out).mono ?_; rintro e w2 ⟨rfl, hb2⟩))
  go_ret
  exact ⟨rfl, (((Below.refl w.heap.size w).alloc (Nat.le_refl _) _).trans (hb1.mono (by simp))).trans (hb2.mono (Nat.le_trans (by simp) hb1.size))⟩
end Go.Proofs.Ytdblppbjlgmccaa.Ru

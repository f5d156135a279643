/-
  The contract of awake: the example of chapter 6.
-/
import Derived.Test.YtlelcooomfcbaaaDoorGpPrs
import Derived.Test.YtlelcooomfcbaaaDoorGgSame
namespace Go.Proofs.YtlelcooomfcbaaaDoor.Gg
open Go.ChangeShapes Go.WideShapes Go.ChangeAt Go.RowKit
set_option linter.unusedVariables false

def awkS : ByteArray := ⟨#[51, 32, 57, 54, 32, 49, 50, 53, 48, 32, 111, 107]⟩
theorem awk_x : paX awkS = (0, 0) ∧ paN awkS = 1 := by decide +kernel
theorem awk_r : paR (linesG awkS) (linesG awkS).length 0 0 = 3 ∧ paR (linesG awkS) (linesG awkS).length 0 1 = 96 ∧ paR (linesG awkS) (linesG awkS).length 0 2 = 1250 ∧ paR (linesG awkS) (linesG awkS).length 0 3 = 0 := by decide +kernel
theorem by_new (w : World) (u : Int) (t : TypeId) : By (w.alloc (.cells #[.int .u8 u] t)) w.heap.size 0 1 (fun _ => u) :=
  ⟨by simp, fun i hi => by
    obtain rfl : i = 0 := by omega
    simp⟩
set_option maxRecDepth 100000 in
set_option maxHeartbeats 2000000 in
theorem awake_any (w : World) (hw : FlW w) : Calls Tryd.prog 9 #[] w fun e w' => e = .returned (.bool true) ∧ Below w.heap.size w w' := by
  have HP := Lib.hid (pparse_any awkS w hw (by decide +kernel))
  rw [awk_x.1, awk_x.2] at HP
  have HSm : Hid (∀ (W : World) (b c : Nat), By W b 0 1 (fun _ => 0) → Calls Tryd.prog 20 #[.slice (some ⟨b, 0, none⟩) 1 c] W (RtI 1 W)) := fun W b c h => psum_any (some ⟨b, 0, none⟩) 1 c (fun _ => 0) W (fun _ => ⟨b, 0, rfl, h⟩) (fun i hi => ⟨Int.le_refl _, (show (0 : Int) ≤ 255 by omega)⟩) (by omega)
  clear hw
  go_enter Tryd.func9, Tryd.ntmps9
  go_wp2_with (first
    | (go_at_call 26; refine HP.out.mono ?_; rintro e w1 ⟨v, rfl, hg1, hb1⟩; obtain ⟨g, cap, rfl, hgb, hrs, _, _⟩ := gotR_rs hg1 (by omega); obtain ⟨c0, c1, c2, c3⟩ := hrs.cells 0 (by omega); rw [awk_r.1] at c0; rw [awk_r.2.1] at c1; rw [awk_r.2.2.1] at c2; rw [awk_r.2.2.2] at c3; have HB1 := Lib.hid hb1; clear hg1 hrs hb1)
    | (go_at_call 20; refine (HSm.out _ _ _ (by_new _ _ _)).mono ?_; rintro e w2 ⟨rfl, rfl⟩))
  go_ret
  exact ⟨rfl, HB1.out.alloc HB1.out.size _⟩
end Go.Proofs.YtlelcooomfcbaaaDoor.Gg

/-
  The contracts of At and Last of the reference at a valid curve.
-/
import Derived.Test.YtdblppbjlgmccaaStRat
import Derived.Test.YtdblppbjlgmccaaStMath
namespace Go.Proofs.Ytdblppbjlgmccaa.Cu
open Go.ChangeShapes Go.WideShapes Go.ChangeAt Go.RowKit
open Go.Shelf Go.Lib
set_option linter.unusedVariables false

theorem la_iff {X Y : Nat → Int} {m : Nat} (h : Cur X Y m) (y x : Int) (hb : laB Y y = true) (h1 : X 0 ≤ x) (h2 : x ≤ X m) : val X Y m x ≤ y ↔ x ≤ laV X Y m y := by
  rcases la_facts h y with ⟨_, a1, a2, a3, a4⟩ | ⟨_, a1, a2, a3, a4⟩ | ⟨e, _⟩
  · constructor
    · intro hv
      apply Classical.byContradiction
      intro hc
      have := val_mono X Y m h.asc (laV X Y m y + 1) x (by omega)
      omega
    · intro hv
      have := val_mono X Y m h.asc x (laV X Y m y) hv
      omega
  · constructor
    · intro _; omega
    · intro hv
      have := val_mono X Y m h.asc x (laV X Y m y) hv
      omega
  · rw [e] at hb; cases hb

set_option maxHeartbeats 800000 in
theorem rAt_any (b off n m c : Nat) (X Y : Nat → Int) (x : Int) (w : World) (hn : n = m + 1) (hp : Pts w b off n X Y) (hc : Cur X Y m) :
    Calls Try.prog 37 #[.slice (some ⟨b, off, none⟩) n c, .int .i64 x] w (AtP (val X Y m x) w) := by
  have HC : Hid (Calls Try.prog 49 #[.slice (some ⟨b, off, none⟩) n c] w (RetE 0 w)) := by
    have h := rcheck_any (some ⟨b, off, none⟩) n c X Y w (fun _ => ⟨b, off, rfl, hp⟩)
    subst hn
    rwa [(cur_iff X Y m).2 hc] at h
  have HV := Lib.hid (fun W hp => rat_any b off n m c X Y x W hn hp hc)
  have HP := Lib.hid hp
  generalize val X Y m x = v at *
  clear hn hp hc
  go_enter Try.func37, Try.ntmps37
  go_wp2_with (first
    | (go_at_call 49; refine HC.out.mono ?_; rintro e w1 ⟨rfl, hb1⟩)
    | (go_at_call 50; refine (HV.out _ (HP.out.up hb1 (Nat.le_refl _))).mono ?_; rintro e w2 ⟨rfl, hb2⟩))
  go_ret2
  exact ⟨rfl, hb1.trans (hb2.mono hb1.size)⟩

end Go.Proofs.Ytdblppbjlgmccaa.Cu

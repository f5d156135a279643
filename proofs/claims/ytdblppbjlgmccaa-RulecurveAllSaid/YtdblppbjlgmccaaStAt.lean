/-
  Contracts of At and Last of package curve at a valid curve.
-/
import Derived.Test.YtdblppbjlgmccaaCuChe
namespace Go.Proofs.Ytdblppbjlgmccaa.Cu
open Go.ChangeShapes Go.WideShapes Go.ChangeAt Go.RowKit
open Go.Shelf Go.Lib
set_option linter.unusedVariables false

theorem check_ok (b off n m c : Nat) (X Y : Nat → Int) (w : World) (hn : n = m + 1) (hp : Pts w b off n X Y) (hc : Cur X Y m) :
    Calls Try.prog 42 #[.slice (some ⟨b, off, none⟩) n c] w (RetE 0 w) := by
  have h := check_any (some ⟨b, off, none⟩) n c X Y w (fun _ => ⟨b, off, rfl, hp⟩)
  subst hn
  rwa [(cur_iff X Y m).2 hc] at h

/-- What At returns of a valid curve. -/
def AtP (v : Int) (w : World) (e : Ending) (w' : World) : Prop := e = .returned (.tuple #[.int .i64 v, .int .i64 0]) ∧ Below w.heap.size w w'
/-- What First and Last return of a valid curve. -/
def FiP (v : Int) (t : Bool) (w : World) (e : Ending) (w' : World) : Prop := e = .returned (.tuple #[.int .i64 v, .bool t, .int .i64 0]) ∧ Below w.heap.size w w'

set_option maxHeartbeats 800000 in
theorem at_any (b off n m c : Nat) (X Y : Nat → Int) (x : Int) (w : World) (hn : n = m + 1) (hp : Pts w b off n X Y) (hc : Cur X Y m) :
    Calls Try.prog 58 #[.slice (some ⟨b, off, none⟩) n c, .int .i64 x] w (AtP (val X Y m x) w) := by
  have HC := Lib.hid (check_ok b off n m c X Y w hn hp hc)
  have HV := Lib.hid (fun W hp => val_any b off n m c X Y x W hn hp hc)
  have HP := Lib.hid hp
  generalize val X Y m x = v at *
  clear hn hp hc
  go_enter Try.func58, Try.ntmps58
  go_wp2_with (first | (go_at_call 42; refine HC.out.mono ?_; rintro e w1 ⟨rfl, hb1⟩) | (go_at_call 62; refine (HV.out _ (HP.out.up hb1 (Nat.le_refl _))).mono ?_; rintro e w2 ⟨rfl, hb2⟩))
  go_ret2
  exact ⟨rfl, hb1.trans (hb2.mono hb1.size)⟩

/-- First of a valid curve. -/
def fiV (X Y : Nat → Int) (m : Nat) (y : Int) : Int := if Y m < y then 0 else fst X Y m y
def fiB (Y : Nat → Int) (m : Nat) (y : Int) : Bool := !decide (Y m < y)
/-- Last of a valid curve. -/
def laV (X Y : Nat → Int) (m : Nat) (y : Int) : Int := if y < Y 0 then 0 else if Y m ≤ y then X m else fst X Y m (y + 1) - 1
def laB (Y : Nat → Int) (y : Int) : Bool := !decide (y < Y 0)

end Go.Proofs.Ytdblppbjlgmccaa.Cu

/-
  Contracts of At and Last of package curve at a valid curve.
-/
import Derived.Test.YtglimagkfapcaaaCuChe
namespace Go.Proofs.Ytglimagkfapcaaa.Cu
open Go.ChangeShapes Go.WideShapes Go.ChangeAt Go.RowKit
open Go.Shelf Go.Lib
set_option linter.unusedVariables false

theorem check_ok (b off n m c : Nat) (X Y : Nat → Int) (w : World) (hn : n = m + 1) (hp : Pts w b off n X Y) (hc : Cur X Y m) :
    Calls Try.prog 27 #[.slice (some ⟨b, off, none⟩) n c] w (RetE 0 w) := by
  have h := check_any (some ⟨b, off, none⟩) n c X Y w (fun _ => ⟨b, off, rfl, hp⟩)
  subst hn
  rwa [(cur_iff X Y m).2 hc] at h

/-- What At returns of a valid curve. -/
def AtP (v : Int) (w : World) (e : Ending) (w' : World) : Prop := e = .returned (.tuple #[.int .i64 v, .int .i64 0]) ∧ Below w.heap.size w w'
/-- What First and Last return of a valid curve. -/
def FiP (v : Int) (t : Bool) (w : World) (e : Ending) (w' : World) : Prop := e = .returned (.tuple #[.int .i64 v, .bool t, .int .i64 0]) ∧ Below w.heap.size w w'

set_option maxHeartbeats 800000 in
theorem at_any (b off n m c : Nat) (X Y : Nat → Int) (x : Int) (w : World) (hn : n = m + 1) (hp : Pts w b off n X Y) (hc : Cur X Y m) :
    Calls Try.prog 45 #[.slice (some ⟨b, off, none⟩) n c, .int .i64 x] w (AtP (val X Y m x) w) := by
  have HC := Lib.hid (check_ok b off n m c X Y w hn hp hc)
  have HV := Lib.hid (fun W hp => val_any b off n m c X Y x W hn hp hc)
  have HP := Lib.hid hp
  generalize val X Y m x = v at *
  clear hn hp hc
  go_enter Try.func45, Try.ntmps45
  go_wp2_with (first | (go_at_call 27; refine HC.out.mono ?_; rintro e w1 ⟨rfl, hb1⟩) | (go_at_call 51; refine (HV.out _ (HP.out.up hb1 (Nat.le_refl _))).mono ?_; rintro e w2 ⟨rfl, hb2⟩))
  go_ret2
  exact ⟨rfl, hb1.trans (hb2.mono hb1.size)⟩

/-- First of a valid curve. -/
def fiV (X Y : Nat → Int) (m : Nat) (y : Int) : Int := if Y m < y then 0 else fst X Y m y
def fiB (Y : Nat → Int) (m : Nat) (y : Int) : Bool := !decide (Y m < y)
/-- Last of a valid curve. -/
def laV (X Y : Nat → Int) (m : Nat) (y : Int) : Int := if y < Y 0 then 0 else if Y m ≤ y then X m else fst X Y m (y + 1) - 1
def laB (Y : Nat → Int) (y : Int) : Bool := !decide (y < Y 0)

set_option maxHeartbeats 1600000 in
theorem last_any (b off n m c : Nat) (X Y : Nat → Int) (y : Int) (w : World) (hn : n = m + 1) (hp : Pts w b off n X Y) (hc : Cur X Y m) (hy : -9223372036854775808 ≤ y ∧ y ≤ 9223372036854775807) :
    Calls Try.prog 38 #[.slice (some ⟨b, off, none⟩) n c, .int .i64 y] w (FiP (laV X Y m y) (laB Y y) w) := by
  have HC := Lib.hid (check_ok b off n m c X Y w hn hp hc)
  have HV := Lib.hid (fun W hp hy => fst_any b off n m c X Y (y + 1) W hn hp hc hy)
  have HP := Lib.hid hp
  have e1 : (n : Int) - 1 = (m : Int) := by omega
  have e2 : (m : Int) < (n : Int) := by omega
  have e3 : m < n := by omega
  have e4 : 0 < n := by omega
  have hm := hc.len
  have y1 := hc.yhi m (Nat.le_refl _)
  have x1 := hc.xlo 0 (Nat.zero_le _)
  have x2 := hc.xhi m (Nat.le_refl _)
  have hf := fun h => fst_spec X Y m hc.asc (y + 1) h
  unfold laV laB
  clear hn hp hc
  by_cases h : y < Y 0
  · rw [if_pos h, decide_eq_true h]
    clear hf
    go_enter Try.func38, Try.ntmps38
    go_wp2_with (go_at_call 27; refine HC.out.mono ?_; rintro e w1 ⟨rfl, hb1⟩; have c1 := ((HP.out.up hb1 (Nat.le_refl _)).2 0 e4).2; rw [Nat.zero_mul, Nat.add_zero] at c1)
    go_ret3
    exact ⟨rfl, hb1⟩
  · rw [if_neg h, decide_eq_false h]
    by_cases h2 : Y m ≤ y
    · rw [if_pos h2]
      clear hf
      go_enter Try.func38, Try.ntmps38
      go_wp2_with (go_at_call 27; refine HC.out.mono ?_; rintro e w1 ⟨rfl, hb1⟩; have c1 := ((HP.out.up hb1 (Nat.le_refl _)).2 0 e4).2; rw [Nat.zero_mul, Nat.add_zero] at c1; have c2 := (HP.out.up hb1 (Nat.le_refl _)).2 m e3)
      go_ret3
      exact ⟨rfl, hb1.alloc hb1.size _⟩
    · rw [if_neg h2]
      obtain ⟨f1, f2, _, _⟩ := hf (by omega)
      clear hf
      generalize fst X Y m (y + 1) = v at *
      go_enter Try.func38, Try.ntmps38
      go_wp2_with (first | (go_at_call 27; refine HC.out.mono ?_; rintro e w1 ⟨rfl, hb1⟩; have c1 := ((HP.out.up hb1 (Nat.le_refl _)).2 0 e4).2; rw [Nat.zero_mul, Nat.add_zero] at c1; have c2 := (HP.out.up hb1 (Nat.le_refl _)).2 m e3) | (go_at_call 47; refine (HV.out _ ((HP.out.up hb1 (Nat.le_refl _)).alloc _) (by omega)).mono ?_; rintro e w2 ⟨rfl, hb2⟩))
      go_ret3
      exact ⟨rfl, (hb1.alloc hb1.size _).trans (hb2.mono (Nat.le_trans hb1.size (by simp)))⟩

end Go.Proofs.Ytglimagkfapcaaa.Cu

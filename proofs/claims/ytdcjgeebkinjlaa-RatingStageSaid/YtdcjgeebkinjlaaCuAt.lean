/-
  Contracts of At, First and Last of package curve at a valid curve, and of awake (the example of chapter 2).
-/
import Derived.Test.YtdcjgeebkinjlaaCuChe
namespace Go.Proofs.Ytdcjgeebkinjlaa.Cu
open Go.ChangeShapes Go.WideShapes Go.ChangeAt Go.RowKit
open Go.Shelf Go.Lib
set_option linter.unusedVariables false

theorem check_ok (b off n m c : Nat) (X Y : Nat → Int) (w : World) (hn : n = m + 1) (hp : Pts w b off n X Y) (hc : Cur X Y m) :
    Calls Try.prog 27 #[.slice (some ⟨b, off, none⟩) n c] w (RetE 0 w) := by
  have h := check_any (some ⟨b, off, none⟩) n c X Y w (fun _ => ⟨b, off, rfl, hp⟩)
  subst hn
  rwa [(cur_iff X Y m).2 hc] at h

/-- What At returns of a valid curve. -/
def AtP (v : Int) (w : World) (e : Ending) (w' : World) : Prop := e = .returned (.tuple #[.int .i64 v, .int .i64 0]) ∧ Below w.heap.size w w'
/-- What First and Last return of a valid curve. -/
def FiP (v : Int) (t : Bool) (w : World) (e : Ending) (w' : World) : Prop := e = .returned (.tuple #[.int .i64 v, .bool t, .int .i64 0]) ∧ Below w.heap.size w w'

set_option maxHeartbeats 800000 in
theorem at_any (b off n m c : Nat) (X Y : Nat → Int) (x : Int) (w : World) (hn : n = m + 1) (hp : Pts w b off n X Y) (hc : Cur X Y m) :
    Calls Try.prog 29 #[.slice (some ⟨b, off, none⟩) n c, .int .i64 x] w (AtP (val X Y m x) w) := by
  have HC := Lib.hid (check_ok b off n m c X Y w hn hp hc)
  have HV := Lib.hid (fun W hp => val_any b off n m c X Y x W hn hp hc)
  have HP := Lib.hid hp
  generalize val X Y m x = v at *
  clear hn hp hc
  go_enter Try.func29, Try.ntmps29
  go_wp2_with (first | (go_at_call 27; refine HC.out.mono ?_; rintro e w1 ⟨rfl, hb1⟩) | (go_at_call 37; refine (HV.out _ (HP.out.up hb1 (Nat.le_refl _))).mono ?_; rintro e w2 ⟨rfl, hb2⟩))
  go_ret2
  exact ⟨rfl, hb1.trans (hb2.mono hb1.size)⟩

/-- First of a valid curve. -/
def fiV (X Y : Nat → Int) (m : Nat) (y : Int) : Int := if Y m < y then 0 else fst X Y m y
def fiB (Y : Nat → Int) (m : Nat) (y : Int) : Bool := !decide (Y m < y)
/-- Last of a valid curve. -/
def laV (X Y : Nat → Int) (m : Nat) (y : Int) : Int := if y < Y 0 then 0 else if Y m ≤ y then X m else fst X Y m (y + 1) - 1
def laB (Y : Nat → Int) (y : Int) : Bool := !decide (y < Y 0)

set_option maxHeartbeats 800000 in
theorem first_any (b off n m c : Nat) (X Y : Nat → Int) (y : Int) (w : World) (hn : n = m + 1) (hp : Pts w b off n X Y) (hc : Cur X Y m) :
    Calls Try.prog 25 #[.slice (some ⟨b, off, none⟩) n c, .int .i64 y] w (FiP (fiV X Y m y) (fiB Y m y) w) := by
  have HC := Lib.hid (check_ok b off n m c X Y w hn hp hc)
  have HV := Lib.hid (fun W hp hy => fst_any b off n m c X Y y W hn hp hc hy)
  have HP := Lib.hid hp
  have e1 : (n : Int) - 1 = (m : Int) := by omega
  have e2 : (m : Int) < (n : Int) := by omega
  have e3 : m < n := by omega
  have hm := hc.len
  unfold fiV fiB
  clear hn hp hc
  by_cases h : Y m < y
  · rw [if_pos h, decide_eq_true h]
    go_enter Try.func25, Try.ntmps25
    go_wp2_with (go_at_call 27; refine HC.out.mono ?_; rintro e w1 ⟨rfl, hb1⟩; have c1 := ((HP.out.up hb1 (Nat.le_refl _)).2 m e3).2)
    go_ret3
    exact ⟨rfl, hb1⟩
  · rw [if_neg h, decide_eq_false h]
    generalize fst X Y m y = v at *
    go_enter Try.func25, Try.ntmps25
    go_wp2_with (first | (go_at_call 27; refine HC.out.mono ?_; rintro e w1 ⟨rfl, hb1⟩; have c1 := ((HP.out.up hb1 (Nat.le_refl _)).2 m e3).2) | (go_at_call 30; refine (HV.out _ (HP.out.up hb1 (Nat.le_refl _)) (by omega)).mono ?_; rintro e w2 ⟨rfl, hb2⟩))
    go_ret3
    exact ⟨rfl, hb1.trans (hb2.mono hb1.size)⟩

/-! ### the example of chapter 2 -/
def exX (i : Nat) : Int := if i = 0 then 0 else 3
def exY (i : Nat) : Int := if i = 0 then 0 else 10
theorem exC : Cur exX exY 1 where
  len := by omega
  xlo := fun i _ => by unfold exX; split <;> omega
  xhi := fun i _ => by unfold exX; split <;> omega
  ylo := fun i _ => by unfold exY; split <;> omega
  yhi := fun i _ => by unfold exY; split <;> omega
  asc := fun i hi => by obtain rfl : i = 0 := by omega
                        exact ⟨by decide, by decide⟩
  prod := fun i hi => by obtain rfl : i = 0 := by omega
                         decide
theorem exP (w : World) : Pts (w.alloc (.cells #[.int .i64 0, .int .i64 0, .int .i64 3, .int .i64 10] 44)) w.heap.size 0 2 exX exY := by
  refine ⟨by simp, fun i hi => ?_⟩
  match i, hi with
  | 0, _ => exact ⟨by simp [exX], by simp [exY]⟩
  | 1, _ => exact ⟨by simp [exX], by simp [exY]⟩

end Go.Proofs.Ytdcjgeebkinjlaa.Cu

/-
  Contracts of At, First and Last of package curve at a valid curve, and of awake (the example of chapter 2).
-/
import Derived.Test.YtilejadeknaleaaCuChe
namespace Go.Proofs.Ytilejadeknaleaa.Cu
open Go.ChangeShapes Go.WideShapes Go.ChangeAt Go.RowKit
open Go.Shelf Go.Lib
set_option linter.unusedVariables false

theorem check_ok (b off n m c : Nat) (X Y : Nat → Int) (w : World) (hn : n = m + 1) (hp : Pts w b off n X Y) (hc : Cur X Y m) :
    Calls Try.prog 20 #[.slice (some ⟨b, off, none⟩) n c] w (RetE 0 w) := by
  have h := check_any (some ⟨b, off, none⟩) n c X Y w (fun _ => ⟨b, off, rfl, hp⟩)
  subst hn
  rwa [(cur_iff X Y m).2 hc] at h

/-- What At returns of a valid curve. -/
def AtP (v : Int) (w : World) (e : Ending) (w' : World) : Prop := e = .returned (.tuple #[.int .i64 v, .int .i64 0]) ∧ Below w.heap.size w w'
/-- What First and Last return of a valid curve. -/
def FiP (v : Int) (t : Bool) (w : World) (e : Ending) (w' : World) : Prop := e = .returned (.tuple #[.int .i64 v, .bool t, .int .i64 0]) ∧ Below w.heap.size w w'

set_option maxHeartbeats 800000 in
theorem at_any (b off n m c : Nat) (X Y : Nat → Int) (x : Int) (w : World) (hn : n = m + 1) (hp : Pts w b off n X Y) (hc : Cur X Y m) :
    Calls Try.prog 17 #[.slice (some ⟨b, off, none⟩) n c, .int .i64 x] w (AtP (val X Y m x) w) := by
  have HC := Lib.hid (check_ok b off n m c X Y w hn hp hc)
  have HV := Lib.hid (fun W hp => val_any b off n m c X Y x W hn hp hc)
  have HP := Lib.hid hp
  generalize val X Y m x = v at *
  clear hn hp hc
  go_enter Try.func17, Try.ntmps17
  go_wp2_with (first | (go_at_call 20; refine HC.out.mono ?_; rintro e w1 ⟨rfl, hb1⟩) | (go_at_call 24; refine (HV.out _ (HP.out.up hb1 (Nat.le_refl _))).mono ?_; rintro e w2 ⟨rfl, hb2⟩))
  go_ret2
  exact ⟨rfl, hb1.trans (hb2.mono hb1.size)⟩

/-- First of a valid curve. -/
def fiV (X Y : Nat → Int) (m : Nat) (y : Int) : Int := if Y m < y then 0 else fst X Y m y
def fiB (Y : Nat → Int) (m : Nat) (y : Int) : Bool := !decide (Y m < y)
/-- Last of a valid curve. -/
def laV (X Y : Nat → Int) (m : Nat) (y : Int) : Int := if y < Y 0 then 0 else if Y m ≤ y then X m else fst X Y m (y + 1) - 1
def laB (Y : Nat → Int) (y : Int) : Bool := !decide (y < Y 0)

set_option maxHeartbeats 800000 in
theorem first_any (b off n m c : Nat) (X Y : Nat → Int) (y : Int) (w : World) (hn : n = m + 1) (hp : Pts w b off n X Y) (hc : Cur X Y m) :
    Calls Try.prog 18 #[.slice (some ⟨b, off, none⟩) n c, .int .i64 y] w (FiP (fiV X Y m y) (fiB Y m y) w) := by
  have HC := Lib.hid (check_ok b off n m c X Y w hn hp hc)
  have HV := Lib.hid (fun W hp hy => fst_any b off n m c X Y y W hn hp hc hy)
  have HP := Lib.hid hp
  have e1 : (n : Int) - 1 = (m : Int) := by omega
  have e2 : (m : Int) < (n : Int) := by omega
  have e3 : m < n := by omega
  have hm := hc.len
  unfold fiV fiB
  clear hn hp hc
  by_cases h : Y m < y
  · rw [if_pos h, decide_eq_true h]
    go_enter Try.func18, Try.ntmps18
    go_wp2_with (go_at_call 20; refine HC.out.mono ?_; rintro e w1 ⟨rfl, hb1⟩; have c1 := ((HP.out.up hb1 (Nat.le_refl _)).2 m e3).2)
    go_ret3
    exact ⟨rfl, hb1⟩
  · rw [if_neg h, decide_eq_false h]
    generalize fst X Y m y = v at *
    go_enter Try.func18, Try.ntmps18
    go_wp2_with (first | (go_at_call 20; refine HC.out.mono ?_; rintro e w1 ⟨rfl, hb1⟩; have c1 := ((HP.out.up hb1 (Nat.le_refl _)).2 m e3).2) | (go_at_call 25; refine (HV.out _ (HP.out.up hb1 (Nat.le_refl _)) (by omega)).mono ?_; rintro e w2 ⟨rfl, hb2⟩))
    go_ret3
    exact ⟨rfl, hb1.trans (hb2.mono hb1.size)⟩

set_option maxHeartbeats 1600000 in
theorem last_any (b off n m c : Nat) (X Y : Nat → Int) (y : Int) (w : World) (hn : n = m + 1) (hp : Pts w b off n X Y) (hc : Cur X Y m) (hy : -9223372036854775808 ≤ y ∧ y ≤ 9223372036854775807) :
    Calls Try.prog 19 #[.slice (some ⟨b, off, none⟩) n c, .int .i64 y] w (FiP (laV X Y m y) (laB Y y) w) := by
  have HC := Lib.hid (check_ok b off n m c X Y w hn hp hc)
  have HV := Lib.hid (fun W hp hy => fst_any b off n m c X Y (y + 1) W hn hp hc hy)
  have HP := Lib.hid hp
  have e1 : (n : Int) - 1 = (m : Int) := by omega
  have e2 : (m : Int) < (n : Int) := by omega
  have e3 : m < n := by omega
  have e4 : 0 < n := by omega
  have hm := hc.len
  have y1 := hc.yhi m (Nat.le_refl _)
  have x1 := hc.xlo 0 (Nat.zero_le _)
  have x2 := hc.xhi m (Nat.le_refl _)
  have hf := fun h => fst_spec X Y m hc.asc (y + 1) h
  unfold laV laB
  clear hn hp hc
  by_cases h : y < Y 0
  · rw [if_pos h, decide_eq_true h]
    clear hf
    go_enter Try.func19, Try.ntmps19
    go_wp2_with (go_at_call 20; refine HC.out.mono ?_; rintro e w1 ⟨rfl, hb1⟩; have c1 := ((HP.out.up hb1 (Nat.le_refl _)).2 0 e4).2; rw [Nat.zero_mul, Nat.add_zero] at c1)
    go_ret3
    exact ⟨rfl, hb1⟩
  · rw [if_neg h, decide_eq_false h]
    by_cases h2 : Y m ≤ y
    · rw [if_pos h2]
      clear hf
      go_enter Try.func19, Try.ntmps19
      go_wp2_with (go_at_call 20; refine HC.out.mono ?_; rintro e w1 ⟨rfl, hb1⟩; have c1 := ((HP.out.up hb1 (Nat.le_refl _)).2 0 e4).2; rw [Nat.zero_mul, Nat.add_zero] at c1; have c2 := (HP.out.up hb1 (Nat.le_refl _)).2 m e3)
      go_ret3
      exact ⟨rfl, hb1.alloc hb1.size _⟩
    · rw [if_neg h2]
      obtain ⟨f1, f2, _, _⟩ := hf (by omega)
      clear hf
      generalize fst X Y m (y + 1) = v at *
      go_enter Try.func19, Try.ntmps19
      go_wp2_with (first | (go_at_call 20; refine HC.out.mono ?_; rintro e w1 ⟨rfl, hb1⟩; have c1 := ((HP.out.up hb1 (Nat.le_refl _)).2 0 e4).2; rw [Nat.zero_mul, Nat.add_zero] at c1; have c2 := (HP.out.up hb1 (Nat.le_refl _)).2 m e3) | (go_at_call 25; refine (HV.out _ ((HP.out.up hb1 (Nat.le_refl _)).alloc _) (by omega)).mono ?_; rintro e w2 ⟨rfl, hb2⟩))
      go_ret3
      exact ⟨rfl, (hb1.alloc hb1.size _).trans (hb2.mono (Nat.le_trans hb1.size (by simp)))⟩

/-! ### the example of chapter 2 -/
def exX (i : Nat) : Int := if i = 0 then 0 else 3
def exY (i : Nat) : Int := if i = 0 then 0 else 10
theorem exC : Cur exX exY 1 where
  len := by omega
  xlo := fun i _ => by unfold exX; split <;> omega
  xhi := fun i _ => by unfold exX; split <;> omega
  ylo := fun i _ => by unfold exY; split <;> omega
  yhi := fun i _ => by unfold exY; split <;> omega
  asc := fun i hi => by obtain rfl : i = 0 := by omega
                        exact ⟨by decide, by decide⟩
  prod := fun i hi => by obtain rfl : i = 0 := by omega
                         decide
theorem exP (w : World) : Pts (w.alloc (.cells #[.int .i64 0, .int .i64 0, .int .i64 3, .int .i64 10] 43)) w.heap.size 0 2 exX exY := by
  refine ⟨by simp, fun i hi => ?_⟩
  match i, hi with
  | 0, _ => exact ⟨by simp [exX], by simp [exY]⟩
  | 1, _ => exact ⟨by simp [exX], by simp [exY]⟩

set_option maxHeartbeats 800000 in
theorem awake_any (w : World) : Calls Try.prog 13 #[] w fun e w' => e = .returned (.bool true) ∧ Below w.heap.size w w' := by
  have HA := Lib.hid (fun W hp => at_any w.heap.size 0 2 1 2 exX exY 1 W rfl hp exC)
  rw [show val exX exY 1 1 = 3 by decide] at HA
  have HF := Lib.hid (fun W hp => first_any w.heap.size 0 2 1 2 exX exY 4 W rfl hp exC)
  rw [show fiV exX exY 1 4 = 2 by decide, show fiB exY 1 4 = true by decide] at HF
  have HL := Lib.hid (fun W hp => last_any w.heap.size 0 2 1 2 exX exY 3 W rfl hp exC (by omega))
  rw [show laV exX exY 1 3 = 1 by decide, show laB exY 3 = true by decide] at HL
  have HP := Lib.hid (exP w)
  go_enter Try.func13, Try.ntmps13
  go_wp2_with (first
    | (go_at_call 17; refine (HA.out _ HP.out).mono ?_; rintro e w1 ⟨rfl, hb1⟩; have HP1 := Lib.hid (HP.out.up hb1 (Nat.le_refl _)))
    | (go_at_call 18; refine (HF.out _ HP1.out).mono ?_; rintro e w2 ⟨rfl, hb2⟩; have HP2 := Lib.hid (HP1.out.up hb2 (Nat.le_refl _)))
    | (go_at_call 19; refine (HL.out _ HP2.out).mono ?_; rintro e w3 ⟨rfl, hb3⟩))
  go_ret
  exact ⟨rfl, ((((Below.refl w.heap.size w).alloc (Nat.le_refl _) _).trans (hb1.mono (by simp))).trans (hb2.mono (Nat.le_trans (by simp) hb1.size))).trans (hb3.mono (Nat.le_trans (Nat.le_trans (by simp) hb1.size) hb2.size))⟩
end Go.Proofs.Ytilejadeknaleaa.Cu

/-
  Contracts of Clamp and Meet of layer 1 (package quantity and its reference): bounds as structs by value.
-/
import Derived.Test.YtndfgbnjidfaaaaQuFns
namespace Go.Proofs.Ytndfgbnjidfaaaa.Qu
open Go.ChangeShapes Go.WideShapes Go.ChangeAt Go.RowKit
set_option linter.unusedVariables false

/-- P1.5: Clamp. -/
def clm (x lo hi : Int) : Int := max lo (min x hi)
/-- P1.5: Meet. -/
def met (a b c d : Int) : Int × Int × Bool := if a ≤ b ∧ c ≤ d ∧ max a c ≤ min b d then (max a c, min b d, true) else (0, 0, false)
theorem met_yes {a b c d x y : Int} (h : a ≤ b ∧ c ≤ d) (hx : max a c = x) (hy : min b d = y) (hxy : x ≤ y) : met a b c d = (x, y, true) := by
  unfold met; rw [hx, hy, if_pos ⟨h.1, h.2, hxy⟩]
theorem met_no {a b c d : Int} (h : ¬ (a ≤ b ∧ c ≤ d ∧ max a c ≤ min b d)) : met a b c d = (0, 0, false) := by
  unfold met; rw [if_neg h]
def MeetP (a b c d : Int) (w : World) (e : Ending) (w' : World) : Prop :=
  e = .returned (.tuple #[.agg #[.int .i64 (met a b c d).1, .int .i64 (met a b c d).2.1], .bool (met a b c d).2.2]) ∧ Below w.heap.size w w'

set_option maxHeartbeats 800000 in
theorem clamp_any (x lo hi : Int) (w : World) :
    Calls Try.prog 18 #[.int .i64 x, .agg #[.int .i64 lo, .int .i64 hi]] w fun e w' => e = .returned (.int .i64 (clm x lo hi)) ∧ Below w.heap.size w w' := by
  unfold clm
  by_cases c1 : hi < x
  · by_cases c2 : lo < hi
    · go_enter Try.func18, Try.ntmps18
      go_wp2
      go_ret
      exact ⟨ret_int (by omega), (Below.refl _ _).alloc (Nat.le_refl _) _⟩
    by_cases c3 : hi < lo
    · go_enter Try.func18, Try.ntmps18
      go_wp2
      go_ret
      exact ⟨ret_int (by omega), (Below.refl _ _).alloc (Nat.le_refl _) _⟩
    · go_enter Try.func18, Try.ntmps18
      go_wp2
      go_ret
      exact ⟨ret_int (by omega), (Below.refl _ _).alloc (Nat.le_refl _) _⟩
  · by_cases c2 : lo < x
    · by_cases c3 : hi < lo
      · exfalso; omega
      go_enter Try.func18, Try.ntmps18
      go_wp2
      go_ret
      exact ⟨ret_int (by omega), (Below.refl _ _).alloc (Nat.le_refl _) _⟩
    by_cases c3 : hi < lo
    · go_enter Try.func18, Try.ntmps18
      go_wp2
      go_ret
      exact ⟨ret_int (by omega), (Below.refl _ _).alloc (Nat.le_refl _) _⟩
    · go_enter Try.func18, Try.ntmps18
      go_wp2
      go_ret
      exact ⟨ret_int (by omega), (Below.refl _ _).alloc (Nat.le_refl _) _⟩

set_option maxHeartbeats 800000 in
theorem rclamp_any (x lo hi : Int) (w : World) :
    Calls Try.prog 19 #[.int .i64 x, .agg #[.int .i64 lo, .int .i64 hi]] w fun e w' => e = .returned (.int .i64 (clm x lo hi)) ∧ Below w.heap.size w w' := by
  unfold clm
  by_cases c1 : hi < x
  · by_cases c2 : lo < hi
    · go_enter Try.func19, Try.ntmps19
      go_wp2
      go_ret
      exact ⟨ret_int (by omega), (Below.refl _ _).alloc (Nat.le_refl _) _⟩
    by_cases c3 : hi < lo
    · go_enter Try.func19, Try.ntmps19
      go_wp2
      go_ret
      exact ⟨ret_int (by omega), (Below.refl _ _).alloc (Nat.le_refl _) _⟩
    · go_enter Try.func19, Try.ntmps19
      go_wp2
      go_ret
      exact ⟨ret_int (by omega), (Below.refl _ _).alloc (Nat.le_refl _) _⟩
  · by_cases c2 : lo < x
    · by_cases c3 : hi < lo
      · exfalso; omega
      go_enter Try.func19, Try.ntmps19
      go_wp2
      go_ret
      exact ⟨ret_int (by omega), (Below.refl _ _).alloc (Nat.le_refl _) _⟩
    by_cases c3 : hi < lo
    · go_enter Try.func19, Try.ntmps19
      go_wp2
      go_ret
      exact ⟨ret_int (by omega), (Below.refl _ _).alloc (Nat.le_refl _) _⟩
    · go_enter Try.func19, Try.ntmps19
      go_wp2
      go_ret
      exact ⟨ret_int (by omega), (Below.refl _ _).alloc (Nat.le_refl _) _⟩

set_option maxHeartbeats 1600000 in
theorem meet_any_cd (a b c d : Int) (w : World) (h1 : a < c) (h2 : d < b) :
    Calls Try.prog 16 #[.agg #[.int .i64 a, .int .i64 b], .agg #[.int .i64 c, .int .i64 d]] w (MeetP a b c d w) := by
  unfold MeetP
  by_cases h3 : d < c
  · rw [met_no (by omega)]
    have e3 : decide (d < c) = true := by simpa using h3
    go_enter Try.func16, Try.ntmps16
    go_wp2
    exact bodyPost_ret (v := .tuple #[.agg #[.int .i64 0, .int .i64 0], .bool false]) (by simp [results, Try.results16, go_sem]) rfl ⟨rfl, by repeat (first | exact Below.refl _ _ | refine Below.setCell ?_ (by simp) _ | refine Below.alloc ?_ (by simp; try omega) _)⟩
  · have e3 : decide (d < c) = false := by simpa using h3
    rw [met_yes (x := c) (y := d) (by omega) (by omega) (by omega) (by omega)]
    go_enter Try.func16, Try.ntmps16
    go_wp2
    exact bodyPost_ret (v := .tuple #[.agg #[.int .i64 c, .int .i64 d], .bool true]) (by simp [results, Try.results16, go_sem]) rfl ⟨rfl, by repeat (first | exact Below.refl _ _ | refine Below.setCell ?_ (by simp) _ | refine Below.alloc ?_ (by simp; try omega) _)⟩

set_option maxHeartbeats 1600000 in
theorem meet_any_cb (a b c d : Int) (w : World) (h1 : a < c) (h2 : b ≤ d) :
    Calls Try.prog 16 #[.agg #[.int .i64 a, .int .i64 b], .agg #[.int .i64 c, .int .i64 d]] w (MeetP a b c d w) := by
  unfold MeetP
  by_cases h3 : b < c
  · rw [met_no (by omega)]
    have e3 : decide (b < c) = true := by simpa using h3
    go_enter Try.func16, Try.ntmps16
    go_wp2
    exact bodyPost_ret (v := .tuple #[.agg #[.int .i64 0, .int .i64 0], .bool false]) (by simp [results, Try.results16, go_sem]) rfl ⟨rfl, by repeat (first | exact Below.refl _ _ | refine Below.setCell ?_ (by simp) _ | refine Below.alloc ?_ (by simp; try omega) _)⟩
  · have e3 : decide (b < c) = false := by simpa using h3
    rw [met_yes (x := c) (y := b) (by omega) (by omega) (by omega) (by omega)]
    go_enter Try.func16, Try.ntmps16
    go_wp2
    exact bodyPost_ret (v := .tuple #[.agg #[.int .i64 c, .int .i64 b], .bool true]) (by simp [results, Try.results16, go_sem]) rfl ⟨rfl, by repeat (first | exact Below.refl _ _ | refine Below.setCell ?_ (by simp) _ | refine Below.alloc ?_ (by simp; try omega) _)⟩

set_option maxHeartbeats 1600000 in
theorem meet_any_ad (a b c d : Int) (w : World) (h1 : c ≤ a) (h2 : d < b) :
    Calls Try.prog 16 #[.agg #[.int .i64 a, .int .i64 b], .agg #[.int .i64 c, .int .i64 d]] w (MeetP a b c d w) := by
  unfold MeetP
  by_cases h3 : d < a
  · rw [met_no (by omega)]
    have e3 : decide (d < a) = true := by simpa using h3
    go_enter Try.func16, Try.ntmps16
    go_wp2
    exact bodyPost_ret (v := .tuple #[.agg #[.int .i64 0, .int .i64 0], .bool false]) (by simp [results, Try.results16, go_sem]) rfl ⟨rfl, by repeat (first | exact Below.refl _ _ | refine Below.setCell ?_ (by simp) _ | refine Below.alloc ?_ (by simp; try omega) _)⟩
  · have e3 : decide (d < a) = false := by simpa using h3
    rw [met_yes (x := a) (y := d) (by omega) (by omega) (by omega) (by omega)]
    go_enter Try.func16, Try.ntmps16
    go_wp2
    exact bodyPost_ret (v := .tuple #[.agg #[.int .i64 a, .int .i64 d], .bool true]) (by simp [results, Try.results16, go_sem]) rfl ⟨rfl, by repeat (first | exact Below.refl _ _ | refine Below.setCell ?_ (by simp) _ | refine Below.alloc ?_ (by simp; try omega) _)⟩

set_option maxHeartbeats 1600000 in
theorem meet_any_ab (a b c d : Int) (w : World) (h1 : c ≤ a) (h2 : b ≤ d) :
    Calls Try.prog 16 #[.agg #[.int .i64 a, .int .i64 b], .agg #[.int .i64 c, .int .i64 d]] w (MeetP a b c d w) := by
  unfold MeetP
  by_cases h3 : b < a
  · rw [met_no (by omega)]
    have e3 : decide (b < a) = true := by simpa using h3
    go_enter Try.func16, Try.ntmps16
    go_wp2
    exact bodyPost_ret (v := .tuple #[.agg #[.int .i64 0, .int .i64 0], .bool false]) (by simp [results, Try.results16, go_sem]) rfl ⟨rfl, by repeat (first | exact Below.refl _ _ | refine Below.setCell ?_ (by simp) _ | refine Below.alloc ?_ (by simp; try omega) _)⟩
  · have e3 : decide (b < a) = false := by simpa using h3
    rw [met_yes (x := a) (y := b) (by omega) (by omega) (by omega) (by omega)]
    go_enter Try.func16, Try.ntmps16
    go_wp2
    exact bodyPost_ret (v := .tuple #[.agg #[.int .i64 a, .int .i64 b], .bool true]) (by simp [results, Try.results16, go_sem]) rfl ⟨rfl, by repeat (first | exact Below.refl _ _ | refine Below.setCell ?_ (by simp) _ | refine Below.alloc ?_ (by simp; try omega) _)⟩

theorem meet_any (a b c d : Int) (w : World) :
    Calls Try.prog 16 #[.agg #[.int .i64 a, .int .i64 b], .agg #[.int .i64 c, .int .i64 d]] w (MeetP a b c d w) := by
  by_cases h1 : a < c <;> by_cases h2 : d < b
  · exact meet_any_cd a b c d w h1 h2
  · exact meet_any_cb a b c d w h1 (by omega)
  · exact meet_any_ad a b c d w (by omega) h2
  · exact meet_any_ab a b c d w (by omega) (by omega)
end Go.Proofs.Ytndfgbnjidfaaaa.Qu

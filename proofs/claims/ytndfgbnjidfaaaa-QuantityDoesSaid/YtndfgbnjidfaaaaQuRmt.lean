/-
  Contracts of Clamp and Meet of layer 1 (package quantity and its reference): bounds as structs by value.
-/
import Derived.Test.YtndfgbnjidfaaaaQuStr
namespace Go.Proofs.Ytndfgbnjidfaaaa.Qu
open Go.ChangeShapes Go.WideShapes Go.ChangeAt Go.RowKit
set_option linter.unusedVariables false


set_option maxHeartbeats 1600000 in
theorem rmeet_any_cd (a b c d : Int) (w : World) (h1 : a < c) (h2 : d < b) :
    Calls Try.prog 17 #[.agg #[.int .i64 a, .int .i64 b], .agg #[.int .i64 c, .int .i64 d]] w (MeetP a b c d w) := by
  unfold MeetP
  by_cases h4 : b < a
  · rw [met_no (by omega)]
    have e4 : decide (b < a) = true := by simpa using h4
    go_enter Try.func17, Try.ntmps17
    go_wp2
    exact bodyPost_ret (v := .tuple #[.agg #[.int .i64 0, .int .i64 0], .bool false]) (by simp [results, Try.results17, go_sem]) rfl ⟨rfl, by repeat (first | exact Below.refl _ _ | refine Below.setCell ?_ (by simp) _ | refine Below.alloc ?_ (by simp; try omega) _)⟩
  have e4 : decide (b < a) = false := by simpa using h4
  by_cases h5 : d < c
  · rw [met_no (by omega)]
    have e5 : decide (d < c) = true := by simpa using h5
    go_enter Try.func17, Try.ntmps17
    go_wp2
    exact bodyPost_ret (v := .tuple #[.agg #[.int .i64 0, .int .i64 0], .bool false]) (by simp [results, Try.results17, go_sem]) rfl ⟨rfl, by repeat (first | exact Below.refl _ _ | refine Below.setCell ?_ (by simp) _ | refine Below.alloc ?_ (by simp; try omega) _)⟩
  have e5 : decide (d < c) = false := by simpa using h5
  rw [met_yes (x := c) (y := d) (by omega) (by omega) (by omega) (by omega)]
  go_enter Try.func17, Try.ntmps17
  go_wp2
  exact bodyPost_ret (v := .tuple #[.agg #[.int .i64 c, .int .i64 d], .bool true]) (by simp [results, Try.results17, go_sem]) rfl ⟨rfl, by repeat (first | exact Below.refl _ _ | refine Below.setCell ?_ (by simp) _ | refine Below.alloc ?_ (by simp; try omega) _)⟩

set_option maxHeartbeats 1600000 in
theorem rmeet_any_cb (a b c d : Int) (w : World) (h1 : a < c) (h2 : b ≤ d) :
    Calls Try.prog 17 #[.agg #[.int .i64 a, .int .i64 b], .agg #[.int .i64 c, .int .i64 d]] w (MeetP a b c d w) := by
  unfold MeetP
  by_cases h4 : b < a
  · rw [met_no (by omega)]
    have e4 : decide (b < a) = true := by simpa using h4
    go_enter Try.func17, Try.ntmps17
    go_wp2
    exact bodyPost_ret (v := .tuple #[.agg #[.int .i64 0, .int .i64 0], .bool false]) (by simp [results, Try.results17, go_sem]) rfl ⟨rfl, by repeat (first | exact Below.refl _ _ | refine Below.setCell ?_ (by simp) _ | refine Below.alloc ?_ (by simp; try omega) _)⟩
  have e4 : decide (b < a) = false := by simpa using h4
  by_cases h5 : d < c
  · rw [met_no (by omega)]
    have e5 : decide (d < c) = true := by simpa using h5
    go_enter Try.func17, Try.ntmps17
    go_wp2
    exact bodyPost_ret (v := .tuple #[.agg #[.int .i64 0, .int .i64 0], .bool false]) (by simp [results, Try.results17, go_sem]) rfl ⟨rfl, by repeat (first | exact Below.refl _ _ | refine Below.setCell ?_ (by simp) _ | refine Below.alloc ?_ (by simp; try omega) _)⟩
  have e5 : decide (d < c) = false := by simpa using h5
  by_cases h3 : b < c
  · rw [met_no (by omega)]
    have e3 : decide (b < c) = true := by simpa using h3
    go_enter Try.func17, Try.ntmps17
    go_wp2
    exact bodyPost_ret (v := .tuple #[.agg #[.int .i64 0, .int .i64 0], .bool false]) (by simp [results, Try.results17, go_sem]) rfl ⟨rfl, by repeat (first | exact Below.refl _ _ | refine Below.setCell ?_ (by simp) _ | refine Below.alloc ?_ (by simp; try omega) _)⟩
  · have e3 : decide (b < c) = false := by simpa using h3
    rw [met_yes (x := c) (y := b) (by omega) (by omega) (by omega) (by omega)]
    go_enter Try.func17, Try.ntmps17
    go_wp2
    exact bodyPost_ret (v := .tuple #[.agg #[.int .i64 c, .int .i64 b], .bool true]) (by simp [results, Try.results17, go_sem]) rfl ⟨rfl, by repeat (first | exact Below.refl _ _ | refine Below.setCell ?_ (by simp) _ | refine Below.alloc ?_ (by simp; try omega) _)⟩

set_option maxHeartbeats 1600000 in
theorem rmeet_any_ad (a b c d : Int) (w : World) (h1 : c ≤ a) (h2 : d < b) :
    Calls Try.prog 17 #[.agg #[.int .i64 a, .int .i64 b], .agg #[.int .i64 c, .int .i64 d]] w (MeetP a b c d w) := by
  unfold MeetP
  by_cases h4 : b < a
  · rw [met_no (by omega)]
    have e4 : decide (b < a) = true := by simpa using h4
    go_enter Try.func17, Try.ntmps17
    go_wp2
    exact bodyPost_ret (v := .tuple #[.agg #[.int .i64 0, .int .i64 0], .bool false]) (by simp [results, Try.results17, go_sem]) rfl ⟨rfl, by repeat (first | exact Below.refl _ _ | refine Below.setCell ?_ (by simp) _ | refine Below.alloc ?_ (by simp; try omega) _)⟩
  have e4 : decide (b < a) = false := by simpa using h4
  by_cases h5 : d < c
  · rw [met_no (by omega)]
    have e5 : decide (d < c) = true := by simpa using h5
    go_enter Try.func17, Try.ntmps17
    go_wp2
    exact bodyPost_ret (v := .tuple #[.agg #[.int .i64 0, .int .i64 0], .bool false]) (by simp [results, Try.results17, go_sem]) rfl ⟨rfl, by repeat (first | exact Below.refl _ _ | refine Below.setCell ?_ (by simp) _ | refine Below.alloc ?_ (by simp; try omega) _)⟩
  have e5 : decide (d < c) = false := by simpa using h5
  by_cases h3 : d < a
  · rw [met_no (by omega)]
    have e3 : decide (d < a) = true := by simpa using h3
    go_enter Try.func17, Try.ntmps17
    go_wp2
    exact bodyPost_ret (v := .tuple #[.agg #[.int .i64 0, .int .i64 0], .bool false]) (by simp [results, Try.results17, go_sem]) rfl ⟨rfl, by repeat (first | exact Below.refl _ _ | refine Below.setCell ?_ (by simp) _ | refine Below.alloc ?_ (by simp; try omega) _)⟩
  · have e3 : decide (d < a) = false := by simpa using h3
    rw [met_yes (x := a) (y := d) (by omega) (by omega) (by omega) (by omega)]
    go_enter Try.func17, Try.ntmps17
    go_wp2
    exact bodyPost_ret (v := .tuple #[.agg #[.int .i64 a, .int .i64 d], .bool true]) (by simp [results, Try.results17, go_sem]) rfl ⟨rfl, by repeat (first | exact Below.refl _ _ | refine Below.setCell ?_ (by simp) _ | refine Below.alloc ?_ (by simp; try omega) _)⟩

set_option maxHeartbeats 1600000 in
theorem rmeet_any_ab (a b c d : Int) (w : World) (h1 : c ≤ a) (h2 : b ≤ d) :
    Calls Try.prog 17 #[.agg #[.int .i64 a, .int .i64 b], .agg #[.int .i64 c, .int .i64 d]] w (MeetP a b c d w) := by
  unfold MeetP
  by_cases h4 : b < a
  · rw [met_no (by omega)]
    have e4 : decide (b < a) = true := by simpa using h4
    go_enter Try.func17, Try.ntmps17
    go_wp2
    exact bodyPost_ret (v := .tuple #[.agg #[.int .i64 0, .int .i64 0], .bool false]) (by simp [results, Try.results17, go_sem]) rfl ⟨rfl, by repeat (first | exact Below.refl _ _ | refine Below.setCell ?_ (by simp) _ | refine Below.alloc ?_ (by simp; try omega) _)⟩
  have e4 : decide (b < a) = false := by simpa using h4
  by_cases h5 : d < c
  · exfalso; omega
  have e5 : decide (d < c) = false := by simpa using h5
  rw [met_yes (x := a) (y := b) (by omega) (by omega) (by omega) (by omega)]
  go_enter Try.func17, Try.ntmps17
  go_wp2
  exact bodyPost_ret (v := .tuple #[.agg #[.int .i64 a, .int .i64 b], .bool true]) (by simp [results, Try.results17, go_sem]) rfl ⟨rfl, by repeat (first | exact Below.refl _ _ | refine Below.setCell ?_ (by simp) _ | refine Below.alloc ?_ (by simp; try omega) _)⟩

theorem rmeet_any (a b c d : Int) (w : World) :
    Calls Try.prog 17 #[.agg #[.int .i64 a, .int .i64 b], .agg #[.int .i64 c, .int .i64 d]] w (MeetP a b c d w) := by
  by_cases h1 : a < c <;> by_cases h2 : d < b
  · exact rmeet_any_cd a b c d w h1 h2
  · exact rmeet_any_cb a b c d w h1 (by omega)
  · exact rmeet_any_ad a b c d w (by omega) h2
  · exact rmeet_any_ab a b c d w (by omega) (by omega)
end Go.Proofs.Ytndfgbnjidfaaaa.Qu

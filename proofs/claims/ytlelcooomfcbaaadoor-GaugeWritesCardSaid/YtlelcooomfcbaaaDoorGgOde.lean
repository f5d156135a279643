/-
  The contract of odd: a reading with something changed, the same one each time.
-/
import Derived.Test.YtlelcooomfcbaaaDoorGgRead
namespace Go.Proofs.YtlelcooomfcbaaaDoor.Gg
open Go.ChangeShapes Go.WideShapes Go.ChangeAt Go.RowKit
open Go.Proofs.YtlelcooomfcbaaaDoor.Cu (mod_any md md_lo md_hi)
set_option linter.unusedVariables false

def OdF (w : World) (a b c d : Int) (e : Ending) (w' : World) : Prop := e = .returned (.agg #[.int .i64 a, .int .i64 b, .int .i64 c, .int .i64 d]) ∧ Below w.heap.size w w'
set_option maxRecDepth 100000 in
set_option maxHeartbeats 4000000 in
theorem odd_fix (a b c d what by' : Int) (hw : -9223372036854775808 ≤ what ∧ what ≤ 9223372036854775807) (hb : -9223372036854775808 ≤ by' ∧ by' ≤ 9223372036854775807) :
    ∃ a' b' c' d' : Int, ∀ w, Calls Tryd.prog 13 #[.agg #[.int .i64 a, .int .i64 b, .int .i64 c, .int .i64 d], .int .i64 what, .int .i64 by'] w (OdF w a' b' c' d') := by
  have H6 := Lib.hid (fun W => mod_any what 6 W hw (by omega) (by omega))
  have H3 := Lib.hid (fun W => mod_any by' 3 W hb (by omega) (by omega))
  have H5 := Lib.hid (fun W => mod_any by' 5 W hb (by omega) (by omega))
  have l6 := md_lo what 6 (by omega)
  have u6 := md_hi what 6 (by omega)
  have l3 := md_lo by' 3 (by omega)
  have u3 := md_hi by' 3 (by omega)
  have l5 := md_lo by' 5 (by omega)
  have u5 := md_hi by' 5 (by omega)
  generalize md what 6 = m6 at *
  generalize md by' 3 = m3 at *
  generalize md by' 5 = m5 at *
  have hc6 : m6 = 0 ∨ m6 = 1 ∨ m6 = 2 ∨ m6 = 3 ∨ m6 = 4 ∨ m6 = 5 := by omega
  have hc3 : m3 = 0 ∨ m3 = 1 ∨ m3 = 2 := by omega
  clear l6 u6 l3 u3
  rcases hc6 with rfl | rfl | rfl | rfl | rfl | rfl
  all_goals rcases hc3 with rfl | rfl | rfl
  · refine ⟨(-1), b, c, d, fun w => ?_⟩
    go_enter Tryd.func13, Tryd.ntmps13
    go_wp2_with (go_at_call 22; first | (go_at_call_has 22 (Value.int .i64 6); refine (H6.out _).mono ?_; rintro e w' ⟨rfl, rfl⟩) | (go_at_call_has 22 (Value.int .i64 3); refine (H3.out _).mono ?_; rintro e w' ⟨rfl, rfl⟩) | (go_at_call_has 22 (Value.int .i64 5); refine (H5.out _).mono ?_; rintro e w' ⟨rfl, rfl⟩))
    exact bodyPost_ret (v := .agg #[.int .i64 (-1), .int .i64 b, .int .i64 c, .int .i64 d]) (by simp [results, Tryd.results13, go_sem]) rfl ⟨rfl, by first | exact ((Below.refl w.heap.size w).alloc (Nat.le_refl _) _).alloc (by simp) _ | exact (((Below.refl w.heap.size w).alloc (Nat.le_refl _) _).alloc (by simp) _).alloc (by simp <;> omega) _ | exact ((((Below.refl w.heap.size w).alloc (Nat.le_refl _) _).alloc (by simp) _).alloc (by simp <;> omega) _).drew | (trace_state; fail)⟩
  · refine ⟨255, b, c, d, fun w => ?_⟩
    go_enter Tryd.func13, Tryd.ntmps13
    go_wp2_with (go_at_call 22; first | (go_at_call_has 22 (Value.int .i64 6); refine (H6.out _).mono ?_; rintro e w' ⟨rfl, rfl⟩) | (go_at_call_has 22 (Value.int .i64 3); refine (H3.out _).mono ?_; rintro e w' ⟨rfl, rfl⟩) | (go_at_call_has 22 (Value.int .i64 5); refine (H5.out _).mono ?_; rintro e w' ⟨rfl, rfl⟩))
    exact bodyPost_ret (v := .agg #[.int .i64 255, .int .i64 b, .int .i64 c, .int .i64 d]) (by simp [results, Tryd.results13, go_sem]) rfl ⟨rfl, by first | exact ((Below.refl w.heap.size w).alloc (Nat.le_refl _) _).alloc (by simp) _ | exact (((Below.refl w.heap.size w).alloc (Nat.le_refl _) _).alloc (by simp) _).alloc (by simp <;> omega) _ | exact ((((Below.refl w.heap.size w).alloc (Nat.le_refl _) _).alloc (by simp) _).alloc (by simp <;> omega) _).drew | (trace_state; fail)⟩
  · refine ⟨256, b, c, d, fun w => ?_⟩
    go_enter Tryd.func13, Tryd.ntmps13
    go_wp2_with (go_at_call 22; first | (go_at_call_has 22 (Value.int .i64 6); refine (H6.out _).mono ?_; rintro e w' ⟨rfl, rfl⟩) | (go_at_call_has 22 (Value.int .i64 3); refine (H3.out _).mono ?_; rintro e w' ⟨rfl, rfl⟩) | (go_at_call_has 22 (Value.int .i64 5); refine (H5.out _).mono ?_; rintro e w' ⟨rfl, rfl⟩))
    exact bodyPost_ret (v := .agg #[.int .i64 256, .int .i64 b, .int .i64 c, .int .i64 d]) (by simp [results, Tryd.results13, go_sem]) rfl ⟨rfl, by first | exact ((Below.refl w.heap.size w).alloc (Nat.le_refl _) _).alloc (by simp) _ | exact (((Below.refl w.heap.size w).alloc (Nat.le_refl _) _).alloc (by simp) _).alloc (by simp <;> omega) _ | exact ((((Below.refl w.heap.size w).alloc (Nat.le_refl _) _).alloc (by simp) _).alloc (by simp <;> omega) _).drew | (trace_state; fail)⟩
  · refine ⟨a, (-1), c, d, fun w => ?_⟩
    go_enter Tryd.func13, Tryd.ntmps13
    go_wp2_with (go_at_call 22; first | (go_at_call_has 22 (Value.int .i64 6); refine (H6.out _).mono ?_; rintro e w' ⟨rfl, rfl⟩) | (go_at_call_has 22 (Value.int .i64 3); refine (H3.out _).mono ?_; rintro e w' ⟨rfl, rfl⟩) | (go_at_call_has 22 (Value.int .i64 5); refine (H5.out _).mono ?_; rintro e w' ⟨rfl, rfl⟩))
    exact bodyPost_ret (v := .agg #[.int .i64 a, .int .i64 (-1), .int .i64 c, .int .i64 d]) (by simp [results, Tryd.results13, go_sem]) rfl ⟨rfl, by first | exact ((Below.refl w.heap.size w).alloc (Nat.le_refl _) _).alloc (by simp) _ | exact (((Below.refl w.heap.size w).alloc (Nat.le_refl _) _).alloc (by simp) _).alloc (by simp <;> omega) _ | exact ((((Below.refl w.heap.size w).alloc (Nat.le_refl _) _).alloc (by simp) _).alloc (by simp <;> omega) _).drew | (trace_state; fail)⟩
  · refine ⟨a, 16777216, c, d, fun w => ?_⟩
    go_enter Tryd.func13, Tryd.ntmps13
    go_wp2_with (go_at_call 22; first | (go_at_call_has 22 (Value.int .i64 6); refine (H6.out _).mono ?_; rintro e w' ⟨rfl, rfl⟩) | (go_at_call_has 22 (Value.int .i64 3); refine (H3.out _).mono ?_; rintro e w' ⟨rfl, rfl⟩) | (go_at_call_has 22 (Value.int .i64 5); refine (H5.out _).mono ?_; rintro e w' ⟨rfl, rfl⟩))
    exact bodyPost_ret (v := .agg #[.int .i64 a, .int .i64 16777216, .int .i64 c, .int .i64 d]) (by simp [results, Tryd.results13, go_sem]) rfl ⟨rfl, by first | exact ((Below.refl w.heap.size w).alloc (Nat.le_refl _) _).alloc (by simp) _ | exact (((Below.refl w.heap.size w).alloc (Nat.le_refl _) _).alloc (by simp) _).alloc (by simp <;> omega) _ | exact ((((Below.refl w.heap.size w).alloc (Nat.le_refl _) _).alloc (by simp) _).alloc (by simp <;> omega) _).drew | (trace_state; fail)⟩
  · refine ⟨a, 16777217, c, d, fun w => ?_⟩
    go_enter Tryd.func13, Tryd.ntmps13
    go_wp2_with (go_at_call 22; first | (go_at_call_has 22 (Value.int .i64 6); refine (H6.out _).mono ?_; rintro e w' ⟨rfl, rfl⟩) | (go_at_call_has 22 (Value.int .i64 3); refine (H3.out _).mono ?_; rintro e w' ⟨rfl, rfl⟩) | (go_at_call_has 22 (Value.int .i64 5); refine (H5.out _).mono ?_; rintro e w' ⟨rfl, rfl⟩))
    exact bodyPost_ret (v := .agg #[.int .i64 a, .int .i64 16777217, .int .i64 c, .int .i64 d]) (by simp [results, Tryd.results13, go_sem]) rfl ⟨rfl, by first | exact ((Below.refl w.heap.size w).alloc (Nat.le_refl _) _).alloc (by simp) _ | exact (((Below.refl w.heap.size w).alloc (Nat.le_refl _) _).alloc (by simp) _).alloc (by simp <;> omega) _ | exact ((((Below.refl w.heap.size w).alloc (Nat.le_refl _) _).alloc (by simp) _).alloc (by simp <;> omega) _).drew | (trace_state; fail)⟩
  · refine ⟨a, b, (-1), d, fun w => ?_⟩
    go_enter Tryd.func13, Tryd.ntmps13
    go_wp2_with (go_at_call 22; first | (go_at_call_has 22 (Value.int .i64 6); refine (H6.out _).mono ?_; rintro e w' ⟨rfl, rfl⟩) | (go_at_call_has 22 (Value.int .i64 3); refine (H3.out _).mono ?_; rintro e w' ⟨rfl, rfl⟩) | (go_at_call_has 22 (Value.int .i64 5); refine (H5.out _).mono ?_; rintro e w' ⟨rfl, rfl⟩))
    exact bodyPost_ret (v := .agg #[.int .i64 a, .int .i64 b, .int .i64 (-1), .int .i64 d]) (by simp [results, Tryd.results13, go_sem]) rfl ⟨rfl, by first | exact ((Below.refl w.heap.size w).alloc (Nat.le_refl _) _).alloc (by simp) _ | exact (((Below.refl w.heap.size w).alloc (Nat.le_refl _) _).alloc (by simp) _).alloc (by simp <;> omega) _ | exact ((((Below.refl w.heap.size w).alloc (Nat.le_refl _) _).alloc (by simp) _).alloc (by simp <;> omega) _).drew | (trace_state; fail)⟩
  · refine ⟨a, b, 1073741824, d, fun w => ?_⟩
    go_enter Tryd.func13, Tryd.ntmps13
    go_wp2_with (go_at_call 22; first | (go_at_call_has 22 (Value.int .i64 6); refine (H6.out _).mono ?_; rintro e w' ⟨rfl, rfl⟩) | (go_at_call_has 22 (Value.int .i64 3); refine (H3.out _).mono ?_; rintro e w' ⟨rfl, rfl⟩) | (go_at_call_has 22 (Value.int .i64 5); refine (H5.out _).mono ?_; rintro e w' ⟨rfl, rfl⟩))
    exact bodyPost_ret (v := .agg #[.int .i64 a, .int .i64 b, .int .i64 1073741824, .int .i64 d]) (by simp [results, Tryd.results13, go_sem]) rfl ⟨rfl, by first | exact ((Below.refl w.heap.size w).alloc (Nat.le_refl _) _).alloc (by simp) _ | exact (((Below.refl w.heap.size w).alloc (Nat.le_refl _) _).alloc (by simp) _).alloc (by simp <;> omega) _ | exact ((((Below.refl w.heap.size w).alloc (Nat.le_refl _) _).alloc (by simp) _).alloc (by simp <;> omega) _).drew | (trace_state; fail)⟩
  · refine ⟨a, b, 1073741825, d, fun w => ?_⟩
    go_enter Tryd.func13, Tryd.ntmps13
    go_wp2_with (go_at_call 22; first | (go_at_call_has 22 (Value.int .i64 6); refine (H6.out _).mono ?_; rintro e w' ⟨rfl, rfl⟩) | (go_at_call_has 22 (Value.int .i64 3); refine (H3.out _).mono ?_; rintro e w' ⟨rfl, rfl⟩) | (go_at_call_has 22 (Value.int .i64 5); refine (H5.out _).mono ?_; rintro e w' ⟨rfl, rfl⟩))
    exact bodyPost_ret (v := .agg #[.int .i64 a, .int .i64 b, .int .i64 1073741825, .int .i64 d]) (by simp [results, Tryd.results13, go_sem]) rfl ⟨rfl, by first | exact ((Below.refl w.heap.size w).alloc (Nat.le_refl _) _).alloc (by simp) _ | exact (((Below.refl w.heap.size w).alloc (Nat.le_refl _) _).alloc (by simp) _).alloc (by simp <;> omega) _ | exact ((((Below.refl w.heap.size w).alloc (Nat.le_refl _) _).alloc (by simp) _).alloc (by simp <;> omega) _).drew | (trace_state; fail)⟩
  · refine ⟨a, b, c, (m5 - 1), fun w => ?_⟩
    go_enter Tryd.func13, Tryd.ntmps13
    go_wp2_with (go_at_call 22; first | (go_at_call_has 22 (Value.int .i64 6); refine (H6.out _).mono ?_; rintro e w' ⟨rfl, rfl⟩) | (go_at_call_has 22 (Value.int .i64 3); refine (H3.out _).mono ?_; rintro e w' ⟨rfl, rfl⟩) | (go_at_call_has 22 (Value.int .i64 5); refine (H5.out _).mono ?_; rintro e w' ⟨rfl, rfl⟩))
    exact bodyPost_ret (v := .agg #[.int .i64 a, .int .i64 b, .int .i64 c, .int .i64 (m5 - 1)]) (by simp [results, Tryd.results13, go_sem]) rfl ⟨rfl, by first | exact ((Below.refl w.heap.size w).alloc (Nat.le_refl _) _).alloc (by simp) _ | exact (((Below.refl w.heap.size w).alloc (Nat.le_refl _) _).alloc (by simp) _).alloc (by simp <;> omega) _ | exact ((((Below.refl w.heap.size w).alloc (Nat.le_refl _) _).alloc (by simp) _).alloc (by simp <;> omega) _).drew | (trace_state; fail)⟩
  · refine ⟨a, b, c, (m5 - 1), fun w => ?_⟩
    go_enter Tryd.func13, Tryd.ntmps13
    go_wp2_with (go_at_call 22; first | (go_at_call_has 22 (Value.int .i64 6); refine (H6.out _).mono ?_; rintro e w' ⟨rfl, rfl⟩) | (go_at_call_has 22 (Value.int .i64 3); refine (H3.out _).mono ?_; rintro e w' ⟨rfl, rfl⟩) | (go_at_call_has 22 (Value.int .i64 5); refine (H5.out _).mono ?_; rintro e w' ⟨rfl, rfl⟩))
    exact bodyPost_ret (v := .agg #[.int .i64 a, .int .i64 b, .int .i64 c, .int .i64 (m5 - 1)]) (by simp [results, Tryd.results13, go_sem]) rfl ⟨rfl, by first | exact ((Below.refl w.heap.size w).alloc (Nat.le_refl _) _).alloc (by simp) _ | exact (((Below.refl w.heap.size w).alloc (Nat.le_refl _) _).alloc (by simp) _).alloc (by simp <;> omega) _ | exact ((((Below.refl w.heap.size w).alloc (Nat.le_refl _) _).alloc (by simp) _).alloc (by simp <;> omega) _).drew | (trace_state; fail)⟩
  · refine ⟨a, b, c, (m5 - 1), fun w => ?_⟩
    go_enter Tryd.func13, Tryd.ntmps13
    go_wp2_with (go_at_call 22; first | (go_at_call_has 22 (Value.int .i64 6); refine (H6.out _).mono ?_; rintro e w' ⟨rfl, rfl⟩) | (go_at_call_has 22 (Value.int .i64 3); refine (H3.out _).mono ?_; rintro e w' ⟨rfl, rfl⟩) | (go_at_call_has 22 (Value.int .i64 5); refine (H5.out _).mono ?_; rintro e w' ⟨rfl, rfl⟩))
    exact bodyPost_ret (v := .agg #[.int .i64 a, .int .i64 b, .int .i64 c, .int .i64 (m5 - 1)]) (by simp [results, Tryd.results13, go_sem]) rfl ⟨rfl, by first | exact ((Below.refl w.heap.size w).alloc (Nat.le_refl _) _).alloc (by simp) _ | exact (((Below.refl w.heap.size w).alloc (Nat.le_refl _) _).alloc (by simp) _).alloc (by simp <;> omega) _ | exact ((((Below.refl w.heap.size w).alloc (Nat.le_refl _) _).alloc (by simp) _).alloc (by simp <;> omega) _).drew | (trace_state; fail)⟩
  · refine ⟨a, b, c, d, fun w => ?_⟩
    go_enter Tryd.func13, Tryd.ntmps13
    go_wp2_with (go_at_call 22; first | (go_at_call_has 22 (Value.int .i64 6); refine (H6.out _).mono ?_; rintro e w' ⟨rfl, rfl⟩) | (go_at_call_has 22 (Value.int .i64 3); refine (H3.out _).mono ?_; rintro e w' ⟨rfl, rfl⟩) | (go_at_call_has 22 (Value.int .i64 5); refine (H5.out _).mono ?_; rintro e w' ⟨rfl, rfl⟩))
    exact bodyPost_ret (v := .agg #[.int .i64 a, .int .i64 b, .int .i64 c, .int .i64 d]) (by simp [results, Tryd.results13, go_sem]) rfl ⟨rfl, by first | exact ((Below.refl w.heap.size w).alloc (Nat.le_refl _) _).alloc (by simp) _ | exact (((Below.refl w.heap.size w).alloc (Nat.le_refl _) _).alloc (by simp) _).alloc (by simp <;> omega) _ | exact ((((Below.refl w.heap.size w).alloc (Nat.le_refl _) _).alloc (by simp) _).alloc (by simp <;> omega) _).drew | (trace_state; fail)⟩
  · refine ⟨a, b, c, d, fun w => ?_⟩
    go_enter Tryd.func13, Tryd.ntmps13
    go_wp2_with (go_at_call 22; first | (go_at_call_has 22 (Value.int .i64 6); refine (H6.out _).mono ?_; rintro e w' ⟨rfl, rfl⟩) | (go_at_call_has 22 (Value.int .i64 3); refine (H3.out _).mono ?_; rintro e w' ⟨rfl, rfl⟩) | (go_at_call_has 22 (Value.int .i64 5); refine (H5.out _).mono ?_; rintro e w' ⟨rfl, rfl⟩))
    exact bodyPost_ret (v := .agg #[.int .i64 a, .int .i64 b, .int .i64 c, .int .i64 d]) (by simp [results, Tryd.results13, go_sem]) rfl ⟨rfl, by first | exact ((Below.refl w.heap.size w).alloc (Nat.le_refl _) _).alloc (by simp) _ | exact (((Below.refl w.heap.size w).alloc (Nat.le_refl _) _).alloc (by simp) _).alloc (by simp <;> omega) _ | exact ((((Below.refl w.heap.size w).alloc (Nat.le_refl _) _).alloc (by simp) _).alloc (by simp <;> omega) _).drew | (trace_state; fail)⟩
  · refine ⟨a, b, c, d, fun w => ?_⟩
    go_enter Tryd.func13, Tryd.ntmps13
    go_wp2_with (go_at_call 22; first | (go_at_call_has 22 (Value.int .i64 6); refine (H6.out _).mono ?_; rintro e w' ⟨rfl, rfl⟩) | (go_at_call_has 22 (Value.int .i64 3); refine (H3.out _).mono ?_; rintro e w' ⟨rfl, rfl⟩) | (go_at_call_has 22 (Value.int .i64 5); refine (H5.out _).mono ?_; rintro e w' ⟨rfl, rfl⟩))
    exact bodyPost_ret (v := .agg #[.int .i64 a, .int .i64 b, .int .i64 c, .int .i64 d]) (by simp [results, Tryd.results13, go_sem]) rfl ⟨rfl, by first | exact ((Below.refl w.heap.size w).alloc (Nat.le_refl _) _).alloc (by simp) _ | exact (((Below.refl w.heap.size w).alloc (Nat.le_refl _) _).alloc (by simp) _).alloc (by simp <;> omega) _ | exact ((((Below.refl w.heap.size w).alloc (Nat.le_refl _) _).alloc (by simp) _).alloc (by simp <;> omega) _).drew | (trace_state; fail)⟩
  · refine ⟨a, b, c, d, fun w => ?_⟩
    go_enter Tryd.func13, Tryd.ntmps13
    go_wp2_with (go_at_call 22; first | (go_at_call_has 22 (Value.int .i64 6); refine (H6.out _).mono ?_; rintro e w' ⟨rfl, rfl⟩) | (go_at_call_has 22 (Value.int .i64 3); refine (H3.out _).mono ?_; rintro e w' ⟨rfl, rfl⟩) | (go_at_call_has 22 (Value.int .i64 5); refine (H5.out _).mono ?_; rintro e w' ⟨rfl, rfl⟩))
    exact bodyPost_ret (v := .agg #[.int .i64 a, .int .i64 b, .int .i64 c, .int .i64 d]) (by simp [results, Tryd.results13, go_sem]) rfl ⟨rfl, by first | exact ((Below.refl w.heap.size w).alloc (Nat.le_refl _) _).alloc (by simp) _ | exact (((Below.refl w.heap.size w).alloc (Nat.le_refl _) _).alloc (by simp) _).alloc (by simp <;> omega) _ | exact ((((Below.refl w.heap.size w).alloc (Nat.le_refl _) _).alloc (by simp) _).alloc (by simp <;> omega) _).drew | (trace_state; fail)⟩
  · refine ⟨a, b, c, d, fun w => ?_⟩
    go_enter Tryd.func13, Tryd.ntmps13
    go_wp2_with (go_at_call 22; first | (go_at_call_has 22 (Value.int .i64 6); refine (H6.out _).mono ?_; rintro e w' ⟨rfl, rfl⟩) | (go_at_call_has 22 (Value.int .i64 3); refine (H3.out _).mono ?_; rintro e w' ⟨rfl, rfl⟩) | (go_at_call_has 22 (Value.int .i64 5); refine (H5.out _).mono ?_; rintro e w' ⟨rfl, rfl⟩))
    exact bodyPost_ret (v := .agg #[.int .i64 a, .int .i64 b, .int .i64 c, .int .i64 d]) (by simp [results, Tryd.results13, go_sem]) rfl ⟨rfl, by first | exact ((Below.refl w.heap.size w).alloc (Nat.le_refl _) _).alloc (by simp) _ | exact (((Below.refl w.heap.size w).alloc (Nat.le_refl _) _).alloc (by simp) _).alloc (by simp <;> omega) _ | exact ((((Below.refl w.heap.size w).alloc (Nat.le_refl _) _).alloc (by simp) _).alloc (by simp <;> omega) _).drew | (trace_state; fail)⟩
  · refine ⟨a, b, c, d, fun w => ?_⟩
    go_enter Tryd.func13, Tryd.ntmps13
    go_wp2_with (go_at_call 22; first | (go_at_call_has 22 (Value.int .i64 6); refine (H6.out _).mono ?_; rintro e w' ⟨rfl, rfl⟩) | (go_at_call_has 22 (Value.int .i64 3); refine (H3.out _).mono ?_; rintro e w' ⟨rfl, rfl⟩) | (go_at_call_has 22 (Value.int .i64 5); refine (H5.out _).mono ?_; rintro e w' ⟨rfl, rfl⟩))
    exact bodyPost_ret (v := .agg #[.int .i64 a, .int .i64 b, .int .i64 c, .int .i64 d]) (by simp [results, Tryd.results13, go_sem]) rfl ⟨rfl, by first | exact ((Below.refl w.heap.size w).alloc (Nat.le_refl _) _).alloc (by simp) _ | exact (((Below.refl w.heap.size w).alloc (Nat.le_refl _) _).alloc (by simp) _).alloc (by simp <;> omega) _ | exact ((((Below.refl w.heap.size w).alloc (Nat.le_refl _) _).alloc (by simp) _).alloc (by simp <;> omega) _).drew | (trace_state; fail)⟩
end Go.Proofs.YtlelcooomfcbaaaDoor.Gg

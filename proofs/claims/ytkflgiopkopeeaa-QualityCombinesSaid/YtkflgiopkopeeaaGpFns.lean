/-
  Contracts of the program's Check, checkEach, checkList and Sum.
-/
import Derived.Test.YtkflgiopkopeeaaGgFns
namespace Go.Proofs.Ytkflgiopkopeeaa.Gg
open Go.ChangeShapes Go.WideShapes Go.ChangeAt Go.RowKit
open Go.Proofs.Ytkflgiopkopeeaa.Ca (inB inB_yes inB_no)
set_option linter.unusedVariables false

theorem pfz_any (most x : Int) (w : World) :
    Calls Try.prog 60 #[.int .i64 most, .int .i64 x] w fun e w' => e = .returned (.bool (inB x most)) ∧ w = w' := by
  by_cases h1 : 0 ≤ x <;> by_cases h2 : x ≤ most
  all_goals
    go_enter Try.func60, Try.ntmps60
    go_wp2
    go_ret
    exact ⟨by simp [inB]; omega, rfl⟩
theorem pgau_any (x : Int) (w : World) :
    Calls Try.prog 58 #[.int .i64 x] w fun e w' => e = .returned (.bool (inB x 255)) ∧ w = w' := by
  go_enter Try.func58, Try.ntmps58
  go_wp2_with (go_at_call 60; refine (pfz_any _ _ _).mono ?_; rintro e w' ⟨rfl, rfl⟩)
  go_ret
  exact ⟨rfl, rfl⟩
theorem ptim_any (x : Int) (w : World) :
    Calls Try.prog 59 #[.int .i64 x] w fun e w' => e = .returned (.bool (inB x 16777216)) ∧ w = w' := by
  go_enter Try.func59, Try.ntmps59
  go_wp2_with (go_at_call 60; refine (pfz_any _ _ _).mono ?_; rintro e w' ⟨rfl, rfl⟩)
  go_ret
  exact ⟨rfl, rfl⟩
set_option maxHeartbeats 1000000 in
theorem pck_any (a b c d : Int) (w : World) : Calls Try.prog 33 #[.agg #[.int .i64 a, .int .i64 b, .int .i64 c, .int .i64 d]] w (Ek (ckG a b c d) w) := by
  have H0 := Lib.hid (fun W => pgau_any a W)
  have H1 := Lib.hid (fun W => ptim_any b W)
  have H2 := Lib.hid (fun W => pfz_any 1073741824 c W)
  have H3 := Lib.hid (fun W => pfz_any 2 d W)
  unfold ckG
  cases h0 : inB a 255 with
  | false =>
    rw [h0] at H0
    clear h0
    go_enter Try.func33, Try.ntmps33
    go_wp2_with (go_at_call 58; refine (H0.out _).mono ?_; rintro e w' ⟨rfl, rfl⟩)
    go_ret
    exact ⟨rfl, (Below.refl _ _).alloc (Nat.le_refl _) _⟩
  | true =>
    rw [h0] at H0
    clear h0
    cases h1 : inB b 16777216 with
    | false =>
      rw [h1] at H1
      clear h1
      go_enter Try.func33, Try.ntmps33
      go_wp2_with (first
        | (go_at_call 58; refine (H0.out _).mono ?_; rintro e w' ⟨rfl, rfl⟩)
        | (go_at_call 59; refine (H1.out _).mono ?_; rintro e w' ⟨rfl, rfl⟩))
      go_ret
      exact ⟨rfl, (Below.refl _ _).alloc (Nat.le_refl _) _⟩
    | true =>
      rw [h1] at H1
      clear h1
      cases h2 : inB c 1073741824 with
      | false =>
        rw [h2] at H2
        clear h2
        go_enter Try.func33, Try.ntmps33
        go_wp2_with (first
          | (go_at_call 58; refine (H0.out _).mono ?_; rintro e w' ⟨rfl, rfl⟩)
          | (go_at_call 59; refine (H1.out _).mono ?_; rintro e w' ⟨rfl, rfl⟩)
          | (go_at_call_has 60 (Value.int .i64 1073741824); refine (H2.out _).mono ?_; rintro e w' ⟨rfl, rfl⟩))
        go_ret
        exact ⟨rfl, (Below.refl _ _).alloc (Nat.le_refl _) _⟩
      | true =>
        rw [h2] at H2
        clear h2
        cases h3 : inB d 2 with
        | false =>
          rw [h3] at H3
          clear h3
          go_enter Try.func33, Try.ntmps33
          go_wp2_with (first
            | (go_at_call 58; refine (H0.out _).mono ?_; rintro e w' ⟨rfl, rfl⟩)
            | (go_at_call 59; refine (H1.out _).mono ?_; rintro e w' ⟨rfl, rfl⟩)
            | (go_at_call_has 60 (Value.int .i64 1073741824); refine (H2.out _).mono ?_; rintro e w' ⟨rfl, rfl⟩)
            | (go_at_call_has 60 (Value.int .i64 2); refine (H3.out _).mono ?_; rintro e w' ⟨rfl, rfl⟩))
          go_ret
          exact ⟨rfl, (Below.refl _ _).alloc (Nat.le_refl _) _⟩
        | true =>
          rw [h3] at H3
          clear h3
          go_enter Try.func33, Try.ntmps33
          go_wp2_with (first
            | (go_at_call 58; refine (H0.out _).mono ?_; rintro e w' ⟨rfl, rfl⟩)
            | (go_at_call 59; refine (H1.out _).mono ?_; rintro e w' ⟨rfl, rfl⟩)
            | (go_at_call_has 60 (Value.int .i64 1073741824); refine (H2.out _).mono ?_; rintro e w' ⟨rfl, rfl⟩)
            | (go_at_call_has 60 (Value.int .i64 2); refine (H3.out _).mono ?_; rintro e w' ⟨rfl, rfl⟩))
          go_ret
          exact ⟨rfl, (Below.refl _ _).alloc (Nat.le_refl _) _⟩
theorem sum_mod (s p q : Int) : (s + p % 65521 * q) % 65521 = (s + p * q) % 65521 := by
  rw [Int.add_emod, Int.mul_emod, Int.emod_emod, ← Int.mul_emod, ← Int.add_emod]
def lsE (R : Nat → Nat → Int) (n : Nat) : Int := if 4096 < n then 10 else alG R n
end Go.Proofs.Ytkflgiopkopeeaa.Gg

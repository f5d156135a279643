/-
  Contracts of the comparison that orders remainders: cmp.Compare, cmp.Or and the closure of greatestFirst.
-/
import Derived.Test.YtbcjigociliflaaQuMath
import Derived.StillTailTactics
import Derived.Sort.Grow
namespace Go.Proofs.Ytbcjigociliflaa.Qu
open Go.ChangeShapes Go.WideShapes Go.ChangeAt Go.RowKit
set_option linter.unusedVariables false

def cmpI (x y : Int) : Int := if x < y then -1 else if y < x then 1 else 0
def orI (x y : Int) : Int := if x = 0 then y else x

theorem cmp_any (x y : Int) (w : World) :
    Calls Try.prog 48 #[.int .i64 x, .int .i64 y] w fun e w' => e = .returned (.int .i64 (cmpI x y)) ∧ w = w' := by
  unfold cmpI
  have e1 : (x != x) = false := by simp
  have e2 : (y != y) = false := by simp
  by_cases h1 : x < y
  · rw [if_pos h1]
    go_enter Try.func48, Try.ntmps48
    go_wp2
    go_ret
    exact ⟨rfl, rfl⟩
  rw [if_neg h1]
  by_cases h2 : y < x
  · rw [if_pos h2]
    go_enter Try.func48, Try.ntmps48
    go_wp2
    go_ret
    exact ⟨rfl, rfl⟩
  · rw [if_neg h2]
    go_enter Try.func48, Try.ntmps48
    go_wp2
    go_ret
    exact ⟨rfl, rfl⟩

theorem or_any (b : Nat) (x y : Int) (w : World) (h0 : w.cell? ⟨b, 0, none⟩ = some (.int .i64 x)) (h1 : w.cell? ⟨b, 1, none⟩ = some (.int .i64 y)) :
    Calls Try.prog 47 #[.slice (some ⟨b, 0, none⟩) 2 2] w fun e w' => e = .returned (.int .i64 (orI x y)) ∧ w = w' := by
  unfold orI
  by_cases hx : x = 0
  · have e1 : (x != 0) = false := by simp [hx]
    rw [if_pos hx]
    clear hx
    by_cases hy : y = 0
    · have e2 : (y != 0) = false := by simp [hy]
      have HY := Lib.hid hy
      clear hy
      go_enter Try.func47, Try.ntmps47
      go_wp2
      refine wp_loop_rounds 3 ?_
      rw [rounds_succ]
      go_wp2
      rw [rounds_succ]
      go_wp2
      rw [rounds_succ]
      go_wp2
      go_ret
      exact ⟨by rw [HY.out]; rfl, rfl⟩
    · have e2 : (y != 0) = true := by simp [hy]
      clear hy
      go_enter Try.func47, Try.ntmps47
      go_wp2
      refine wp_loop_rounds 2 ?_
      rw [rounds_succ]
      go_wp2
      rw [rounds_succ]
      go_wp2
      go_ret
      exact ⟨rfl, rfl⟩
  · have e1 : (x != 0) = true := by simp [hx]
    rw [if_neg hx]
    clear hx
    go_enter Try.func47, Try.ntmps47
    go_wp2
    refine wp_loop_rounds 1 ?_
    rw [rounds_succ]
    go_wp2
    go_ret
    exact ⟨rfl, rfl⟩

set_option maxHeartbeats 800000 in
theorem clo_any (i j B b off n c : Nat) (r : Nat → Int) (w : World) (hB : w.cell? ⟨B, 0, none⟩ = some (.slice (some ⟨b, off, none⟩) n c))
    (hi : w.cell? ⟨b, off + i, none⟩ = some (.int .i64 (r i))) (hj : w.cell? ⟨b, off + j, none⟩ = some (.int .i64 (r j))) (li : i < n) (lj : j < n) :
    Calls Try.prog 46 #[.int .i64 i, .int .i64 j, .pointer (some ⟨B, 0, none⟩)] w fun e w' => e = .returned (.int .i64 (orI (cmpI (r j) (r i)) (cmpI i j))) ∧ ∃ q os, w' = Go.Sort.grow (w.drewN q) os := by
  have li' : (i : Int) < (n : Int) := by omega
  have lj' : (j : Int) < (n : Int) := by omega
  go_enter Try.func46, Try.ntmps46
  go_wp2
  refine wp_region_still_tail 12 (by kernel_rfl) (by kernel_rfl) ?_
  change wpStill _ _ w.drew (fun a' => wpList _ _ _ _ a' w.drew) _ _
  have hB2 : w.drew.cell? ⟨B, 0, none⟩ = some (.slice (some ⟨b, off, none⟩) n c) := hB
  have hi2 : w.drew.cell? ⟨b, off + i, none⟩ = some (.int .i64 (r i)) := hi
  have hj2 : w.drew.cell? ⟨b, off + j, none⟩ = some (.int .i64 (r j)) := hj
  have HW : Hid (w.drew = w.drewN 1) := rfl
  generalize w.drew = w2 at hB2 hi2 hj2 HW ⊢
  clear hB hi hj
  simp only [List.take_succ_cons, List.take_zero, List.drop_succ_cons, List.drop_zero]
  repeat still_step
  still_call (cmp_any _ _ _).mono fun e w' ⟨h1, h2⟩ => ⟨h1, h2.symm⟩
  repeat still_step
  still_call (cmp_any _ _ _).mono fun e w' ⟨h1, h2⟩ => ⟨h1, h2.symm⟩
  refine wpStill_nil ?_
  generalize hu : cmpI (r j) (r i) = u
  generalize hv : cmpI i j = v
  have HU := Lib.hid hu
  have HV := Lib.hid hv
  clear hu hv
  go_wp2_with (go_at_call 47; refine (or_any _ u v _ (by simp) (by simp)).mono ?_; rintro e w' ⟨rfl, rfl⟩)
  go_ret
  exact ⟨by rw [HU.out, HV.out]; rfl, 1, #[.cells #[.int .i64 u, .int .i64 v] 3], by rw [← HW.out, Go.Sort.alloc_eq_grow]⟩
end Go.Proofs.Ytbcjigociliflaa.Qu

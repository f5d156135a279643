/-
  The contract of Share of package quantity.
-/
import Derived.Test.YtbcjigociliflaaQuGf
import Derived.RegionTactic
import Derived.ChangeAlike
import Derived.BigRegion
namespace Go.Proofs.Ytbcjigociliflaa.Qu
open Go.ChangeShapes Go.WideShapes Go.ChangeAt Go.RowKit
set_option linter.unusedVariables false

/-- What Share returns: the shares in new memory, or none and the error. -/
def ShP (a : Int) (z : Nat → Int) (n : Nat) (w : World) (e : Ending) (w' : World) : Prop :=
  ∃ p cap, e = .returned (.tuple #[.slice p (shLen a z n) cap, .int .i64 (shCode a z n)]) ∧ Rd w' p (shLen a z n) (shVal a z n) ∧ Below w.heap.size w w'

theorem rd_zero (w : World) (a : Option Addr) (z : Nat → Int) : Rd w a 0 z := fun h => absurd h (Nat.lt_irrefl _)

theorem share_bad (a : Int) (p : Option Addr) (n c : Nat) (z : Nat → Int) (w : World) (hn : n ≤ 4096) (hr : Rd w p n z) (hk : chk a z n = 1) :
    Calls Try.prog 34 #[.int .i64 a, .slice p n c] w (ShP a z n w) := by
  have hS : shCode a z n = 1 := by unfold shCode; rw [hk]; simp
  have hL : shLen a z n = 0 := by unfold shLen; rw [hS]; simp
  unfold ShP
  rw [hS, hL]
  have HR := Lib.hid hr
  have HK := Lib.hid hk
  clear hr hk hS hL
  go_enter Try.func34, Try.ntmps34
  go_wp2_with (go_at_call 41; refine (check_any _ _ _ _ z _ hn HR.out).mono ?_; rintro e w' ⟨rfl, rfl⟩; rw [HK.out])
  go_ret2
  exact ⟨_, _, rfl, rd_zero _ _ _, Below.refl _ _⟩

set_option maxHeartbeats 800000 in
theorem share_nil (a : Int) (p : Option Addr) (n c : Nat) (z : Nat → Int) (w : World) (hn : n ≤ 4096) (hr : Rd w p n z) (hk : chk a z n = 0) (ha : a = 0) :
    Calls Try.prog 34 #[.int .i64 a, .slice p n c] w (ShP a z n w) := by
  subst ha
  have hS : shCode 0 z n = 0 := by unfold shCode; rw [hk]; simp
  have hL : shLen 0 z n = n := by unfold shLen; rw [hS]; simp
  have hV : shVal 0 z n = fun _ => 0 := by funext i; unfold shVal; simp
  unfold ShP
  rw [hS, hL, hV]
  have HR := Lib.hid hr
  have HK := Lib.hid hk
  clear hr hk hS hL hV
  obtain ⟨i0, hi, hz0, hz1, hz2⟩ := info_parts Try.info3
  go_enter Try.func34, Try.ntmps34
  go_wp2_with (first | (go_at_call 41; refine (check_any _ _ _ _ z _ hn HR.out).mono ?_; rintro e w' ⟨rfl, rfl⟩; rw [HK.out]) | (at_make; refine wpList_make_full _ rfl _ _ 22 rfl w.heap.size 3 i0 (.int .i64 0) 1 Try.underlying22 hi hz0 hz1 .i64 .i64 _ _ n rfl rfl rfl rfl (by rw [hz2]; omega) (by unfold maxLen; omega) (by simp) ?_; intro w1 hown hgrow))
  go_ret2
  exact ⟨_, _, rfl, (own_made hown (hown.lt _ rfl).2).rd, (Below.refl w.heap.size w).grown hgrow (Nat.le_refl _) (by intro k hk; cases hk)⟩

set_option maxHeartbeats 800000 in
theorem share_none (a : Int) (p : Option Addr) (n c : Nat) (z : Nat → Int) (w : World) (hn : n ≤ 4096) (hr : Rd w p n z) (hk : chk a z n = 0) (ha : a ≠ 0) (hall : ∀ i, i < n → 0 ≤ z i ∧ z i ≤ 10000) (ht : sumZ z n = 0) :
    Calls Try.prog 34 #[.int .i64 a, .slice p n c] w (ShP a z n w) := by
  have hS : shCode a z n = 2 := by unfold shCode; rw [hk, ht]; simp [ha]
  have hL : shLen a z n = 0 := by unfold shLen; rw [hS]; simp
  unfold ShP
  rw [hS, hL]
  have ha' : (a == 0) = false := by simpa using ha
  have HR := Lib.hid hr
  have HK := Lib.hid hk
  have HT := Lib.hid ht
  have HA := Lib.hid hall
  clear hr hk hS hL ht ha hall
  obtain ⟨i0, hi, hz0, hz1, hz2⟩ := info_parts Try.info3
  go_enter Try.func34, Try.ntmps34
  go_wp2_with (first | (go_at_call 41; refine (check_any _ _ _ _ z _ hn HR.out).mono ?_; rintro e w' ⟨rfl, rfl⟩; rw [HK.out]) | (go_at_call 42; refine (sum_any _ _ _ z _ hn HA.out (HR.out.below ((Below.refl w.heap.size w).grown hgrow (Nat.le_refl _) (by intro k hk; cases hk)) (Nat.le_refl _))).mono ?_; rintro e w' ⟨rfl, rfl⟩; rw [HT.out]) | (at_make; refine wpList_make_full _ rfl _ _ 22 rfl w.heap.size 3 i0 (.int .i64 0) 1 Try.underlying22 hi hz0 hz1 .i64 .i64 _ _ n rfl rfl rfl rfl (by rw [hz2]; omega) (by unfold maxLen; omega) (by simp) ?_; intro w1 hown hgrow))
  go_ret2
  exact ⟨_, _, rfl, rd_zero _ _ _, (Below.refl w.heap.size w).grown hgrow (Nat.le_refl _) (by intro k hk; cases hk)⟩
end Go.Proofs.Ytbcjigociliflaa.Qu

/-
  The contract of awake (the examples of chapter 1): true, whatever the world.
-/
import Derived.Test.YtndfgbnjidfaaaaQuShm
import Derived.Test.YtndfgbnjidfaaaaQuFlr
namespace Go.Proofs.Ytndfgbnjidfaaaa.Qu
open Go.ChangeShapes Go.WideShapes Go.ChangeAt Go.RowKit
set_option linter.unusedVariables false

def one3 (i : Nat) : Int := 1
def four3 (i : Nat) : Int := if i = 0 then 4 else 3
theorem ord_one : ordL (rF one3 10 3) 3 = List.range 3 := by
  unfold ordL
  apply List.mergeSort_of_pairwise
  have h : ∀ a b, a < b → bef (rF one3 10 3) a b = true := fun a b hab => bef_iff.2 (.inr ⟨rfl, by omega⟩)
  exact (List.pairwise_lt_range (n := 3)).imp fun {a b} hab => h a b hab
theorem sum_one : sumZ one3 3 = 3 := rfl
theorem chk_one : chk 10 one3 3 = 0 := rfl
theorem code_one : shCode 10 one3 3 = 0 := by unfold shCode; rw [chk_one, sum_one]; rfl
theorem len_one : shLen 10 one3 3 = 3 := by unfold shLen; rw [code_one]; rfl
theorem val_one (i : Nat) (hi : i < 3) : shVal 10 one3 3 i = four3 i := by
  unfold shVal shF plus tak
  rw [if_neg (by omega), sum_one, ord_one]
  have e : lef one3 10 3 3 = 1 := by decide
  rw [e]
  match i, hi with
  | 0, _ => decide
  | 1, _ => decide
  | 2, _ => decide

theorem awake_share (b : Nat) (w : World) (hb : b < w.heap.size) (h0 : w.cell? ⟨b, 0, none⟩ = some (.int .i64 1)) (h1 : w.cell? ⟨b, 1, none⟩ = some (.int .i64 1)) (h2 : w.cell? ⟨b, 2, none⟩ = some (.int .i64 1)) :
    Calls Try.prog 21 #[.int .i64 10, .slice (some ⟨b, 0, none⟩) 3 3] w fun e w' =>
      ∃ p cap, e = .returned (.tuple #[.slice p 3 cap, .int .i64 0]) ∧ Rd w' p 3 four3 ∧ Below w.heap.size w w' := by
  have hr : Rd w (some ⟨b, 0, none⟩) 3 one3 := fun _ => ⟨b, 0, rfl, hb, fun i hi => by
    match i, hi with
    | 0, _ => exact h0
    | 1, _ => exact h1
    | 2, _ => exact h2⟩
  refine (share_any 10 (some ⟨b, 0, none⟩) 3 3 one3 w (by omega) hr).mono fun e w' h => ?_
  obtain ⟨p, cap, he, hrd, hbel⟩ := h
  rw [len_one, code_one] at he
  rw [len_one] at hrd
  exact ⟨p, cap, he, hrd.congr val_one, hbel⟩

theorem awake_same (p : Option Addr) (cap b : Nat) (w : World) (hb : b < w.heap.size) (hr : Rd w p 3 four3) (h0 : w.cell? ⟨b, 0, none⟩ = some (.int .i64 4)) (h1 : w.cell? ⟨b, 1, none⟩ = some (.int .i64 3)) (h2 : w.cell? ⟨b, 2, none⟩ = some (.int .i64 3)) :
    Calls Try.prog 23 #[.slice p 3 cap, .slice (some ⟨b, 0, none⟩) 3 3] w fun e w' => e = .returned (.bool true) ∧ ∃ q, w' = w.drewN q := by
  have hr' : Rd w (some ⟨b, 0, none⟩) 3 four3 := fun _ => ⟨b, 0, rfl, hb, fun i hi => by
    match i, hi with
    | 0, _ => exact h0
    | 1, _ => exact h1
    | 2, _ => exact h2⟩
  have h := same_eq p (some ⟨b, 0, none⟩) 3 cap 3 four3 four3 w (by omega) hr hr'
  rwa [eqB_of (fun i _ => rfl)] at h

set_option maxHeartbeats 800000 in
theorem awake_any (w : World) : Calls Try.prog 20 #[] w fun e w' => e = .returned (.bool true) ∧ Below w.heap.size w w' := by
  have hF : ∀ w, Calls Try.prog 10 #[.int .i64 (-7), .int .i64 2] w (Two (-4) 0 w) := fun w => floor_any (-7) 2 w (by omega) (by omega)
  have HF := Lib.hid hF
  clear hF
  go_enter Try.func20, Try.ntmps20
  go_wp2_with (first | (go_at_call 21; refine (awake_share w.heap.size _ (by simp) (by simp) (by simp) (by simp)).mono ?_; rintro e w1 ⟨p, cap, rfl, hr, hbel⟩) | (go_at_call 10; refine (HF.out _).mono ?_; rintro e w' ⟨rfl, rfl⟩))
  have hbel1 : Below w.heap.size w w1 := ((Below.refl w.heap.size w).alloc (Nat.le_refl _) _).trans (hbel.mono (by simp))
  have hr2 := hr.below ((Below.refl w1.heap.size w1).alloc (Nat.le_refl _) (.cells #[Value.int .i64 4, Value.int .i64 3, Value.int .i64 3] 3)) (Nat.le_refl _)
  have hsz := hbel1.size
  have HB := Lib.hid hbel1
  have HR2 := Lib.hid hr2
  clear hbel hr hbel1 hr2
  refine (awake_same p cap w1.heap.size _ (by simp) HR2.out (by simp) (by simp) (by simp)).mono ?_
  rintro e w2 ⟨rfl, q, rfl⟩
  go_wp2
  go_ret
  exact ⟨rfl, Below.drewN (HB.out.alloc hsz _) q⟩
end Go.Proofs.Ytndfgbnjidfaaaa.Qu

/-
  awake, the example of chapter 9; contracts at any later world.
-/
import Derived.Test.YtbcjigociliflaaIfRse
import Derived.Test.YtbcjigociliflaaIfRun
namespace Go.Proofs.Ytbcjigociliflaa.If
open Go.ChangeShapes Go.WideShapes Go.ChangeAt Go.RowKit
open Go.Proofs.Ytbcjigociliflaa.Qu (sumZ sumZ_congr Rd)
set_option linter.unusedVariables false

def exZ (i : Nat) : Int := if i = 0 then 5 else if i = 3 then 7 else 0
def exS (i : Nat) : Int := if i = 0 then 2 else if i = 1 then 2 else if i = 2 then 1 else 7
def exV (i : Nat) : Int := if i = 0 then 10 else 12
def exO (i : Nat) : Int := 3
def exB (i : Nat) : Int := 5
theorem rd_four (w : World) (b : Nat) (u : Nat → Int) (hb : b < w.heap.size) (h0 : w.cell? ⟨b, 0, none⟩ = some (.int .i64 (u 0))) (h1 : w.cell? ⟨b, 1, none⟩ = some (.int .i64 (u 1))) (h2 : w.cell? ⟨b, 2, none⟩ = some (.int .i64 (u 2))) (h3 : w.cell? ⟨b, 3, none⟩ = some (.int .i64 (u 3))) : Rd w (some ⟨b, 0, none⟩) 4 u :=
  fun _ => ⟨b, 0, rfl, hb, fun i hi => by
    rw [Nat.zero_add]
    match i, hi with
    | 0, _ => exact h0
    | 1, _ => exact h1
    | 2, _ => exact h2
    | 3, _ => exact h3⟩
theorem rd_two (w : World) (b : Nat) (u : Nat → Int) (hb : b < w.heap.size) (h0 : w.cell? ⟨b, 0, none⟩ = some (.int .i64 (u 0))) (h1 : w.cell? ⟨b, 1, none⟩ = some (.int .i64 (u 1))) : Rd w (some ⟨b, 0, none⟩) 2 u :=
  fun _ => ⟨b, 0, rfl, hb, fun i hi => by
    rw [Nat.zero_add]
    match i, hi with
    | 0, _ => exact h0
    | 1, _ => exact h1⟩
theorem rd_one (w : World) (b : Nat) (u : Nat → Int) (hb : b < w.heap.size) (h0 : w.cell? ⟨b, 0, none⟩ = some (.int .i64 (u 0))) : Rd w (some ⟨b, 0, none⟩) 1 u :=
  fun _ => ⟨b, 0, rfl, hb, fun i hi => by
    rw [Nat.zero_add]
    match i, hi with
    | 0, _ => exact h0⟩
theorem sm_ex (i : Nat) (hi : i < 4) : sm exZ 4 3 i = exS i := by
  match i, hi with
  | 0, _ => rfl
  | 1, _ => rfl
  | 2, _ => rfl
  | 3, _ => rfl
theorem aw_smo (b : Nat) (w : World) (hb : b < w.heap.size) (h0 : w.cell? ⟨b, 0, none⟩ = some (.int .i64 5)) (h1 : w.cell? ⟨b, 1, none⟩ = some (.int .i64 0)) (h2 : w.cell? ⟨b, 2, none⟩ = some (.int .i64 0)) (h3 : w.cell? ⟨b, 3, none⟩ = some (.int .i64 7)) :
    Calls Try.prog 20 #[.slice (some ⟨b, 0, none⟩) 4 4, .int .i64 3] w (LcP 0 4 exS w) := by
  refine (smo_ok (some ⟨b, 0, none⟩) 4 4 3 exZ w (by omega) (by omega) (fun i _ => by unfold exZ; split <;> (try split) <;> omega) (rd_four w b exZ hb h0 h1 h2 h3)).mono ?_
  rintro e w' ⟨p, cap, rfl, hr, hb⟩
  exact ⟨p, cap, rfl, hr.congr sm_ex, hb⟩
theorem aw_bal (b b' : Nat) (w : World) (hb : b < w.heap.size) (hb' : b' < w.heap.size) (h0 : w.cell? ⟨b, 0, none⟩ = some (.int .i64 10)) (h1 : w.cell? ⟨b, 1, none⟩ = some (.int .i64 12)) (h2 : w.cell? ⟨b', 0, none⟩ = some (.int .i64 3)) :
    Calls Try.prog 13 #[.slice (some ⟨b, 0, none⟩) 2 2, .slice (some ⟨b', 0, none⟩) 1 1] w (LcP 0 1 exB w) := by
  refine (bal_any (some ⟨b, 0, none⟩) (some ⟨b', 0, none⟩) 2 1 2 1 exV exO w (by omega) (by omega) (rd_two w b exV hb h0 h1) (rd_one w b' exO hb' h2)).mono ?_
  have e0 : cB 2 1 exV exO = 0 := cB_of rfl (fun i _ => by unfold exV; split <;> omega) (fun i _ => by unfold exO; omega)
  rintro e w' ⟨p, cap, rfl, hr, hb, _⟩
  have e1 := baN_ok e0
  rw [e1] at hr
  exact ⟨p, cap, by rw [e0, e1], hr.congr (fun i hi => by match i, hi with | 0, _ => rfl), hb⟩

set_option maxHeartbeats 1000000 in
theorem awake_any (w : World) : Calls Try.prog 8 #[] w (Et true w) := by
  go_enter Try.func8, Try.ntmps8
  go_wp2_with (first
    | (go_at_call 20; refine (aw_smo _ _ (by simp) (by simp) (by simp) (by simp) (by simp)).mono ?_; rintro e w1 ⟨p1, c1, rfl, hr1, hb1⟩; have HR1 := Lib.hid hr1; have HB1 : Hid (Below w.heap.size w w1) := ((Below.refl w.heap.size w).alloc (Nat.le_refl _) _).trans (hb1.mono (by simp)); clear hr1 hb1)
    | (go_at_call 13; refine (aw_bal _ _ _ (by simp only [World.size_alloc]; omega) (by simp only [World.size_alloc]; omega) (cell_up (by simp) _) (cell_up (by simp) _) (by simp)).mono ?_; rintro e w2 ⟨p2, c2, rfl, hr2, hb2⟩; have HR2 := Lib.hid hr2; have HB2 : Hid (Below w1.heap.size w1 w2) := (((Below.refl w1.heap.size w1).alloc (Nat.le_refl _) _).alloc (by simp) _).trans (hb2.mono (by simp only [World.size_alloc]; omega)); clear hr2 hb2)
    | (go_at_call 15; first
      | (refine (same_t p1 _ 4 _ _ exS _ (by omega) ((HR1.out.below HB2.out (Nat.le_refl _)).below ((Below.refl w2.heap.size w2).alloc (Nat.le_refl _) _) (Nat.le_refl _)) (rd_four _ _ exS (by simp only [World.size_alloc]; omega) (by simp; rfl) (by simp; rfl) (by simp; rfl) (by simp; rfl))).mono ?_; rintro e w3 ⟨rfl, hb3⟩; have HB3 : Hid (Below w2.heap.size w2 w3) := ((Below.refl w2.heap.size w2).alloc (Nat.le_refl _) _).trans (hb3.mono (by simp)); clear hb3 HR1)
      | (refine (same_t p2 _ 1 _ _ exB _ (by omega) ((HR2.out.below HB3.out (Nat.le_refl _)).below ((Below.refl w3.heap.size w3).alloc (Nat.le_refl _) _) (Nat.le_refl _)) (rd_one _ _ exB (by simp only [World.size_alloc]; omega) (by simp; rfl))).mono ?_; rintro e w4 ⟨rfl, hb4⟩; have HB4 : Hid (Below w3.heap.size w3 w4) := ((Below.refl w3.heap.size w3).alloc (Nat.le_refl _) _).trans (hb4.mono (by simp)); clear hb4)))
  go_ret
  exact ⟨rfl, HB1.out.trans ((HB2.out.trans ((HB3.out.trans (HB4.out.mono HB3.out.size)).mono HB2.out.size)).mono HB1.out.size)⟩
end Go.Proofs.Ytbcjigociliflaa.If

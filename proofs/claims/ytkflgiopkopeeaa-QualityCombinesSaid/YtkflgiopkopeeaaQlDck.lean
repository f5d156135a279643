/-
  Contracts of the deck's Checks and Series.
-/
import Derived.Test.YtkflgiopkopeeaaQlGoo
import Derived.Test.YtkflgiopkopeeaaQlVer
import Derived.Test.YtkflgiopkopeeaaGgRead
namespace Go.Proofs.Ytkflgiopkopeeaa.Ql
open Go.ChangeShapes Go.WideShapes Go.ChangeAt Go.RowKit
open Go.Proofs.Ytkflgiopkopeeaa.Cu (grown_below grown_own grown_trans grown_refl updF updF_same updF_other Dk next_any)
open Go.Proofs.Ytkflgiopkopeeaa.Gg (GotR gotR_nil gotR_block gotR_next rsL rsL_one updR updR_same updR_other mkR cell_four Vr)
set_option linter.unusedVariables false

/-- What Checks returns: valid checks. -/
def CkP (w : World) (g : Nat) (p : Option Addr) (dn dc : Nat) (z : Nat → Int) (e : Ending) (w' : World) : Prop :=
  ∃ l m j s, e = .returned (.agg #[.int .i64 l, .int .i64 m, .int .i64 j, .int .i64 s]) ∧ (0 ≤ l ∧ l ≤ 29) ∧ (l ≤ m ∧ m ≤ l + 149) ∧ (0 ≤ j ∧ j ≤ 29) ∧ (s = 0 ∨ (2 ≤ s ∧ s ≤ 4)) ∧ Dk w' g p dn dc z ∧ w.grownBy w' (some g)
theorem ck_valid {l m j s : Int} (h1 : 0 ≤ l ∧ l ≤ 29) (h2 : l ≤ m ∧ m ≤ l + 149) (h3 : 0 ≤ j ∧ j ≤ 29) (h4 : s = 0 ∨ (2 ≤ s ∧ s ≤ 4)) : chC l m j s = 0 := chC_zero.2 ⟨by omega, by omega, by omega, by omega, by omega⟩
theorem four_kept {w w' : World} {g : Nat} {u0 u1 u2 u3 : Value} {t : TypeId} (hg : (w.alloc (.cells #[u0, u1, u2, u3] t)).grownBy w' (some g)) (hl : g < w.heap.size) : w'.cell? ⟨w.heap.size, 0, none⟩ = some u0 ∧ w'.cell? ⟨w.heap.size, 1, none⟩ = some u1 ∧ w'.cell? ⟨w.heap.size, 2, none⟩ = some u2 ∧ w'.cell? ⟨w.heap.size, 3, none⟩ = some u3 ∧ (∀ j, w'.frozen? ⟨w.heap.size, j, none⟩ = false) := by
  have hne : some w.heap.size ≠ some g := by intro e; have := Option.some.inj e; omega
  have hb := hg.block w.heap.size (by simp) hne
  exact ⟨hg.cell (by simp) hne, hg.cell (by simp) hne, hg.cell (by simp) hne, hg.cell (by simp) hne, fun j => (World.frozen?_of_block (w := w.alloc (.cells #[u0, u1, u2, u3] t)) (a := ⟨w.heap.size, j, none⟩) hb).trans (by simp)⟩
theorem four_set {W : World} {b : Nat} {a0 a1 a2 a3 : Value} (q0 : W.cell? ⟨b, 0, none⟩ = some a0) (q1 : W.cell? ⟨b, 1, none⟩ = some a1) (q2 : W.cell? ⟨b, 2, none⟩ = some a2) (q3 : W.cell? ⟨b, 3, none⟩ = some a3) (u0 u1 u2 u3 : Value) :
    (((((W.setCell ⟨b, 0, none⟩ u0).setCell ⟨b, 1, none⟩ u1).setCell ⟨b, 2, none⟩ u2).setCell ⟨b, 3, none⟩ u3).cell? ⟨b, 0, none⟩ = some u0 ∧ ((((W.setCell ⟨b, 0, none⟩ u0).setCell ⟨b, 1, none⟩ u1).setCell ⟨b, 2, none⟩ u2).setCell ⟨b, 3, none⟩ u3).cell? ⟨b, 1, none⟩ = some u1 ∧ ((((W.setCell ⟨b, 0, none⟩ u0).setCell ⟨b, 1, none⟩ u1).setCell ⟨b, 2, none⟩ u2).setCell ⟨b, 3, none⟩ u3).cell? ⟨b, 2, none⟩ = some u2 ∧ ((((W.setCell ⟨b, 0, none⟩ u0).setCell ⟨b, 1, none⟩ u1).setCell ⟨b, 2, none⟩ u2).setCell ⟨b, 3, none⟩ u3).cell? ⟨b, 3, none⟩ = some u3) ∧ W.grownBy ((((W.setCell ⟨b, 0, none⟩ u0).setCell ⟨b, 1, none⟩ u1).setCell ⟨b, 2, none⟩ u2).setCell ⟨b, 3, none⟩ u3) (some b) := by
  have ne : ∀ (W : World) (i j : Nat) (u : Value), i ≠ j → (W.setCell ⟨b, i, none⟩ u).cell? ⟨b, j, none⟩ = W.cell? ⟨b, j, none⟩ := fun W i j u h => World.cell?_setCell_other _ _ _ _ (by intro e; simp only [Addr.mk.injEq] at e; omega)
  have gr : ∀ (W : World) (i : Nat) (u : Value), W.grownBy (W.setCell ⟨b, i, none⟩ u) (some b) := fun W i u => ⟨rfl, rfl, rfl, by simp [World.setCell], fun j hj hne => (Below.heap_setCell _ _ _ _ (by intro e; apply hne; rw [e]))⟩
  refine ⟨⟨?_, ?_, ?_, ?_⟩, grown_trans (grown_trans (grown_trans (gr _ 0 u0) (gr _ 1 u1)) (gr _ 2 u2)) (gr _ 3 u3)⟩
  · rw [ne _ 3 0 _ (by omega), ne _ 2 0 _ (by omega), ne _ 1 0 _ (by omega)]
    exact World.cell?_setCell_same _ _ _ q0
  · rw [ne _ 3 1 _ (by omega), ne _ 2 1 _ (by omega)]
    exact World.cell?_setCell_same _ _ _ ((ne _ 0 1 _ (by omega)).trans q1)
  · rw [ne _ 3 2 _ (by omega)]
    exact World.cell?_setCell_same _ _ _ ((ne _ 1 2 _ (by omega)).trans ((ne _ 0 2 _ (by omega)).trans q2))
  · exact World.cell?_setCell_same _ _ _ ((ne _ 2 3 _ (by omega)).trans ((ne _ 1 3 _ (by omega)).trans ((ne _ 0 3 _ (by omega)).trans q3)))
theorem kept_alloc {w4 : World} {b : Nat} {u0 u1 u2 u3 : Value} (q0 : w4.cell? ⟨b, 0, none⟩ = some u0) (q1 : w4.cell? ⟨b, 1, none⟩ = some u1) (q2 : w4.cell? ⟨b, 2, none⟩ = some u2) (q3 : w4.cell? ⟨b, 3, none⟩ = some u3) (qf : ∀ j, w4.frozen? ⟨b, j, none⟩ = false) :
    (∀ o, (w4.alloc o).cell? ⟨b, 0, none⟩ = some u0) ∧ (∀ o, (w4.alloc o).cell? ⟨b, 1, none⟩ = some u1) ∧ (∀ o, (w4.alloc o).cell? ⟨b, 2, none⟩ = some u2) ∧ (∀ o, (w4.alloc o).cell? ⟨b, 3, none⟩ = some u3) ∧ (∀ o j, (w4.alloc o).frozen? ⟨b, j, none⟩ = false) := by
  have hb := World.block_lt_of_cell? _ _ q0
  have B := fun o => (Below.refl w4.heap.size w4).alloc (Nat.le_refl _) o
  exact ⟨fun o => ((B o).cell (p := ⟨b, 0, none⟩) hb).trans q0, fun o => ((B o).cell (p := ⟨b, 1, none⟩) hb).trans q1, fun o => ((B o).cell (p := ⟨b, 2, none⟩) hb).trans q2, fun o => ((B o).cell (p := ⟨b, 3, none⟩) hb).trans q3, fun o j => ((B o).frozen (p := ⟨b, j, none⟩) hb).trans (qf j)⟩
set_option maxRecDepth 100000 in
set_option maxHeartbeats 2000000 in
theorem checks_any (g : Nat) (p : Option Addr) (dn dc : Nat) (z : Nat → Int) (w : World) (hd : Dk w g p dn dc z) : Calls Try.prog 12 #[.pointer (some ⟨g, 0, none⟩)] w (CkP w g p dn dc z) := by
  have HD := Lib.hid hd
  have hgl := hd.lt
  clear hd
  go_enter Try.func12, Try.ntmps12
  go_wp2_with (first
    | (go_at_call_has 14 (Value.int .i64 150); refine (next_any g p dn dc z _ _ HD1.out (by omega)).mono ?_; rintro e w2 ⟨y, rfl, hy0, hy1, hd2, hg2⟩; have HD2 := Lib.hid hd2; have HG2 := Lib.hid (grown_trans HG1.out hg2); clear hd2 hg2 HD1 HG1)
    | (go_at_call_has 14 (Value.int .i64 5); refine (next_any g p dn dc z _ _ HD3.out (by omega)).mono ?_; rintro e w4 ⟨s, rfl, hs0, hs1, hd4, hg4⟩; have HD4 := Lib.hid hd4; have HG4 := Lib.hid (grown_trans HG3.out hg4); obtain ⟨q0, q1, q2, q3, qf⟩ := four_kept HG4.out hgl; obtain ⟨qa0, qa1, qa2, qa3, qaf⟩ := kept_alloc q0 q1 q2 q3 qf; have hg4s := HG4.out.size; clear hd4 hg4 HD3 HG3 qf q0 q1 q2 q3)
    | (go_at_call_has 14 (Value.int .i64 30); first
      | (refine (next_any g p dn dc z _ _ (HD.out.alloc _) (by omega)).mono ?_; rintro e w1 ⟨x, rfl, hx0, hx1, hd1, hg1⟩; have HD1 := Lib.hid hd1; have HG1 := Lib.hid hg1; clear hd1 hg1 HD)
      | (refine (next_any g p dn dc z _ _ HD2.out (by omega)).mono ?_; rintro e w3 ⟨j, rfl, hj0, hj1, hd3, hg3⟩; have HD3 := Lib.hid hd3; have HG3 := Lib.hid (grown_trans HG2.out hg3); clear hd3 hg3 HD2 HG2)))
  · obtain ⟨⟨t0, t1, t2, t3⟩, tg⟩ := four_set (qa0 (.cells #[.int .i64 x, .int .i64 (x + y), .int .i64 j, .int .i64 0] 23)) (qa1 _) (qa2 _) (qa3 _) (.int .i64 x) (.int .i64 (x + y)) (.int .i64 j) (.int .i64 0)
    have hgr := grown_trans (World.grownBy_alloc w (.cells #[.int .i64 0, .int .i64 0, .int .i64 0, .int .i64 0] 23) (some g)) (grown_trans HG4.out (World.grownBy_alloc w4 (.cells #[.int .i64 x, .int .i64 (x + y), .int .i64 j, .int .i64 0] 23) (some g)))
    exact bodyPost_ret (v := .agg #[.int .i64 x, .int .i64 (x + y), .int .i64 j, .int .i64 0]) (by simp [results, Try.results12, go_sem, t0, t1, t2, t3]) rfl ⟨x, x + y, j, 0, rfl, by omega, by omega, by omega, by omega, (HD4.out.alloc _).grown tg (by intro e; have e2 : g = w.heap.size := Option.some.inj e; omega) (by intro k hk; cases hk; omega), grown_own hgr tg (by intro k hk; cases hk; exact Nat.le_refl _)⟩
  · obtain ⟨⟨t0, t1, t2, t3⟩, tg⟩ := four_set (qa0 (.cells #[.int .i64 x, .int .i64 (x + y), .int .i64 j, .int .i64 s] 23)) (qa1 _) (qa2 _) (qa3 _) (.int .i64 x) (.int .i64 (x + y)) (.int .i64 j) (.int .i64 s)
    have hgr := grown_trans (World.grownBy_alloc w (.cells #[.int .i64 0, .int .i64 0, .int .i64 0, .int .i64 0] 23) (some g)) (grown_trans HG4.out (World.grownBy_alloc w4 (.cells #[.int .i64 x, .int .i64 (x + y), .int .i64 j, .int .i64 s] 23) (some g)))
    have hs1 : s ≠ 1 := by simp_all
    exact bodyPost_ret (v := .agg #[.int .i64 x, .int .i64 (x + y), .int .i64 j, .int .i64 s]) (by simp [results, Try.results12, go_sem, t0, t1, t2, t3]) rfl ⟨x, x + y, j, s, rfl, by omega, by omega, by omega, by omega, (HD4.out.alloc _).grown tg (by intro e; have e2 : g = w.heap.size := Option.some.inj e; omega) (by intro k hk; cases hk; omega), grown_own hgr tg (by intro k hk; cases hk; exact Nat.le_refl _)⟩
end Go.Proofs.Ytkflgiopkopeeaa.Ql

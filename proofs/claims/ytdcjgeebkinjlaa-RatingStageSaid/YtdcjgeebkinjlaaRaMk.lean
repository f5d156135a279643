/-
  The contract of the deck's Rating.
-/
import Derived.Test.YtdcjgeebkinjlaaCuDeck
import Derived.Test.YtdcjgeebkinjlaaCuAt
import Derived.Test.YtdcjgeebkinjlaaGgRead
import Derived.Test.YtdcjgeebkinjlaaGpFns
namespace Go.Proofs.Ytdcjgeebkinjlaa.Ra
open Go.ChangeShapes Go.WideShapes Go.ChangeAt Go.RowKit
open Go.Proofs.Ytdcjgeebkinjlaa.Cu
set_option linter.unusedVariables false

/-- A rating that a test makes: a valid curve, Ice from 0 to 39. -/
structure Ra (X Y : Nat → Int) (m : Nat) (ice : Int) : Prop where
  cur : Cur X Y m
  m1 : 1 ≤ m
  m4 : m ≤ 4
  ice0 : 0 ≤ ice
  ice1 : ice ≤ 39
  x0 : 0 ≤ X 0
  x1 : X 0 ≤ 19
  xm : X m ≤ 4019
  y0 : 0 ≤ Y 0
  y1 : Y 0 ≤ 9
  ym : Y m ≤ 4009
/-- What Rating returns. -/
def RaP (w : World) (g : Nat) (p : Option Addr) (n c : Nat) (z : Nat → Int) (e : Ending) (w' : World) : Prop :=
  ∃ (b cap k m : Nat) (X Y : Nat → Int) (ice : Int), e = .returned (.agg #[.slice (some ⟨b, 0, none⟩) k cap, .int .i64 ice]) ∧ k = m + 1 ∧ w.heap.size ≤ b ∧ Pts w' b 0 k X Y ∧ k ≤ cap ∧ Ra X Y m ice ∧ Dk w' g p n c z ∧ w.grownBy w' (some g)
/-- The box of the result, behind calls that turn the deck alone. -/
theorem box_kept {w w' : World} {g : Nat} {u v : Value} {t : TypeId} (hg : (w.alloc (.cells #[u, v] t)).grownBy w' (some g)) (hl : g < w.heap.size) : w'.cell? ⟨w.heap.size, 0, none⟩ = some u ∧ w'.cell? ⟨w.heap.size, 1, none⟩ = some v ∧ w'.frozen? ⟨w.heap.size, 0, none⟩ = false ∧ w'.frozen? ⟨w.heap.size, 1, none⟩ = false := by
  have hne : some w.heap.size ≠ some g := by simp; omega
  have c0 : (w.alloc (.cells #[u, v] t)).cell? ⟨w.heap.size, 0, none⟩ = some u := by simp
  have c1 : (w.alloc (.cells #[u, v] t)).cell? ⟨w.heap.size, 1, none⟩ = some v := by simp
  have hb := hg.block w.heap.size (by simp) hne
  exact ⟨hg.cell c0 hne, hg.cell c1 hne, (World.frozen?_of_block (w := w.alloc (.cells #[u, v] t)) (a := ⟨w.heap.size, 0, none⟩) hb).trans (by simp), (World.frozen?_of_block (w := w.alloc (.cells #[u, v] t)) (a := ⟨w.heap.size, 1, none⟩) hb).trans (by simp)⟩
set_option maxRecDepth 100000 in
set_option maxHeartbeats 2000000 in
theorem rating_any (g : Nat) (p : Option Addr) (n c : Nat) (z : Nat → Int) (w : World) (hd : Dk w g p n c z) : Calls Try.prog 7 #[.pointer (some ⟨g, 0, none⟩)] w (RaP w g p n c z) := by
  have HD := Lib.hid hd
  have hgl := hd.lt
  clear hd
  go_enter Try.func7, Try.ntmps7
  go_wp2_with (first
    | (go_at_call_has 18 (Value.int .i64 20); refine (next_any g p n c z _ _ (HD.out.alloc _) (by omega)).mono ?_; rintro e w1 ⟨x, rfl, hx0, hx1, hd1, hg1⟩; have HD1 := Lib.hid hd1; have HG1 := Lib.hid hg1; clear hd1 hg1)
    | (go_at_call_has 18 (Value.int .i64 10); refine (next_any g p n c z _ _ HD1.out (by omega)).mono ?_; rintro e w2 ⟨y, rfl, hy0, hy1, hd2, hg2⟩; have HD2 := Lib.hid hd2; have HG2 := Lib.hid hg2; clear hd2 hg2)
    | (go_at_call 17; refine (curve_any g p n c z x y 60 100 false _ HD2.out (by omega) (by omega) (by omega) (by omega)).mono ?_; rintro e w3 ⟨v, m, X, Y, rfl, hm1, hm4, hgp, hmk, hd3, hg3⟩; obtain ⟨b, cap, rfl, hb, hpts, hcap, hfz⟩ := gotP_pts hgp (by omega); have HD3 := Lib.hid hd3; have HG3 := Lib.hid (grown_trans (grown_trans HG1.out HG2.out) hg3); have HP3 := Lib.hid hpts; have hb2 : w.heap.size + 1 ≤ b := (by have h1 := HG1.out.size; have h2 := HG2.out.size; simp at h1; omega); have HM3 := Lib.hid hmk; clear hd3 hg3 hgp hmk hpts hfz HG1 HG2)
    | (go_at_call_has 18 (Value.int .i64 40); refine (next_any g p n c z _ _ HD3.out (by omega)).mono ?_; rintro e w4 ⟨ice, rfl, hi0, hi1, hd4, hg4⟩; have HD4 := Lib.hid hd4; have HP4 := Lib.hid (HP3.out.grown hg4 (by intro e; simp only [Option.some.injEq] at e; omega)); have HG4 := Lib.hid (grown_trans HG3.out hg4); obtain ⟨d0, d1, f0, f1⟩ := box_kept HG4.out hgl; clear hd4 hg4 HP3 HG3 HD3))
  have t0 : (w4.setCell ⟨w.heap.size, 0, none⟩ (.slice (some ⟨b, 0, none⟩) (m + 1) cap)).cell? ⟨w.heap.size, 0, none⟩ = some (.slice (some ⟨b, 0, none⟩) (m + 1) cap) := World.cell?_setCell_same _ _ _ d0
  have t1 : ((w4.setCell ⟨w.heap.size, 0, none⟩ (.slice (some ⟨b, 0, none⟩) (m + 1) cap)).setCell ⟨w.heap.size, 1, none⟩ (.int .i64 ice)).cell? ⟨w.heap.size, 1, none⟩ = some (.int .i64 ice) := World.cell?_setCell_same _ _ _ ((World.cell?_setCell_other _ _ _ _ (by simp)).trans d1)
  have hgr := grown_trans (World.grownBy_alloc w (.cells #[.slice none 0 0, .int .i64 0] 25) (some g)) HG4.out
  have hgr5 := grown_own (grown_own hgr (Gg.setG w4 ⟨w.heap.size, 0, none⟩ (.slice (some ⟨b, 0, none⟩) (m + 1) cap)) (by intro k hk; cases hk; exact Nat.le_refl _)) (Gg.setG _ ⟨w.heap.size, 1, none⟩ (.int .i64 ice)) (by intro k hk; cases hk; exact Nat.le_refl _)
  have hp5 := (HP4.out.grown (Gg.setG w4 ⟨w.heap.size, 0, none⟩ (.slice (some ⟨b, 0, none⟩) (m + 1) cap)) (by intro e; have e2 := Option.some.inj e; change b = w.heap.size at e2; omega)).grown (Gg.setG _ ⟨w.heap.size, 1, none⟩ (.int .i64 ice)) (by intro e; have e2 := Option.some.inj e; change b = w.heap.size at e2; omega)
  have hd5 := (HD4.out.grown (Gg.setG w4 ⟨w.heap.size, 0, none⟩ (.slice (some ⟨b, 0, none⟩) (m + 1) cap)) (by intro e; have e2 := Option.some.inj e; change g = w.heap.size at e2; omega) (by intro k hk; cases hk; show g ≤ w.heap.size; omega)).grown (Gg.setG _ ⟨w.heap.size, 1, none⟩ (.int .i64 ice)) (by intro e; have e2 := Option.some.inj e; change g = w.heap.size at e2; omega) (by intro k hk; cases hk; show g ≤ w.heap.size; omega)
  have hm := HM3.out
  have hh := hm.hi2 (by omega) (by omega)
  have hh0 := hh 0 (by omega)
  have hhm := hh m (Nat.le_refl _)
  have hc := hm.cur2 (by omega) (by omega) hm4 (by omega) (by omega)
  exact bodyPost_ret (v := .agg #[.slice (some ⟨b, 0, none⟩) (m + 1) cap, .int .i64 ice]) (by simp [results, Try.results7, go_sem, t0, t1]) rfl ⟨b, cap, m + 1, m, X, Y, ice, rfl, rfl, by omega, hp5, hcap, ⟨hc, hm1, hm4, hi0, by omega, by omega, by rw [hm.x0]; omega, by omega, by omega, by rw [hm.y0]; omega, by omega⟩, hd5, hgr5⟩
end Go.Proofs.Ytdcjgeebkinjlaa.Ra

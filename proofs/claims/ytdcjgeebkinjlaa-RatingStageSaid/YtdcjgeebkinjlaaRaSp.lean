/-
  Contracts of Spread and Stage of package rating at a valid rating; what package curve does at a valid curve.
-/
import Derived.Test.YtdcjgeebkinjlaaRaTb
import Derived.Test.YtdcjgeebkinjlaaRaMk
import Derived.Deep.RegionHeld3
import Derived.Sort.AtCall
namespace Go.Proofs.Ytdcjgeebkinjlaa.Ra
open Go.ChangeShapes Go.WideShapes Go.ChangeAt Go.RowKit
open Go.Proofs.Ytdcjgeebkinjlaa.Cu hiding inB inB_yes inB_no
open Go.Proofs.Ytdcjgeebkinjlaa.Ca (inB inB_yes inB_no)
open Go.Proofs.Ytdcjgeebkinjlaa.Gg (ckG ckG_zero pck_any Ek Vr)
set_option linter.unusedVariables false

theorem cv_ok (b off n m c : Nat) (X Y : Nat → Int) (hn : n = m + 1) (hc : Cur X Y m) : CvOk b off n c X Y m :=
  ⟨fun W hp => check_ok b off n m c X Y W hn hp hc, fun W x hp => at_any b off n m c X Y x W hn hp hc⟩

theorem stage_ok (b off n m c : Nat) (X Y : Nat → Int) (ice y : Int) (w : World) (hn : n = m + 1) (hc : Cur X Y m) (hp : Pts w b off n X Y) (hi : 0 ≤ ice ∧ ice ≤ 16777216) (hy : 0 ≤ y ∧ y ≤ 274877906944) : Calls Try.prog 13 #[.agg #[.slice (some ⟨b, off, none⟩) n c, .int .i64 ice], .int .i64 y] w (FlP (fiV X Y m y) (fiB Y m y) w) := by
  have HT := Lib.hid (fun W hp => tab_ok b off n c m X Y ice W (cv_ok b off n m c X Y hn hc) hp hi)
  have HF := Lib.hid (fun W hp => first_any b off n m c X Y y W hn hp hc)
  have HP := Lib.hid hp
  have HP0 := Lib.hid (hp.alloc (.cells #[.slice (some ⟨b, off, none⟩) n c, .int .i64 ice] 25))
  have HZ : Hid (∀ W, Calls Try.prog 22 #[.int .i64 274877906944, .int .i64 y] W fun e w' => e = .returned (.bool true) ∧ W = w') := fun W => by
    have h := fz_any 274877906944 y W
    rwa [inB_yes hy] at h
  generalize fiV X Y m y = fv at *
  generalize fiB Y m y = fb at *
  clear hc hp hn
  go_enter Try.func13, Try.ntmps13
  go_wp2_with (first
    | (go_at_call 19; refine (HT.out _ HP0.out).mono ?_; rintro e w1 ⟨rfl, hb1⟩; have HB1 := Lib.hid ((((Below.refl w.heap.size w).alloc (Nat.le_refl _) _).trans (hb1.mono (by simp))).alloc ((((Below.refl w.heap.size w).alloc (Nat.le_refl _) (.cells #[.slice (some ⟨b, off, none⟩) n c, .int .i64 ice] 25)).trans (hb1.mono (by simp))).size) (.cells #[.slice (some ⟨b, off, none⟩) n c, .int .i64 ice] 58)); clear hb1)
    | (go_at_call 22; refine (HZ.out _).mono ?_; rintro e w2 ⟨rfl, rfl⟩)
    | (go_at_call 25; refine (HF.out _ (HP.out.up HB1.out (Nat.le_refl _))).mono ?_; rintro e w2 ⟨rfl, hb2⟩; have HB2 := Lib.hid (HB1.out.trans (hb2.mono HB1.out.size)); clear hb2))
  go_ret3
  exact ⟨rfl, HB2.out⟩

/-- What Spread's last step holds: the table's list, the result's box, what is behind them. -/
abbrev Sb (w : World) (kt : Nat) (v : Value) (W : World) : Prop := W.cell? ⟨kt, 0, none⟩ = some v ∧ W.cell? ⟨w.heap.size + 1, 0, none⟩ = some (.int .i64 0) ∧ W.cell? ⟨w.heap.size + 1, 1, none⟩ = some (.int .i64 0) ∧ W.frozen? ⟨w.heap.size + 1, 0, none⟩ = false ∧ W.frozen? ⟨w.heap.size + 1, 1, none⟩ = false ∧ Hid (Below w.heap.size w W)
theorem Sb.step {w : World} {kt : Nat} {v : Value} {W W' : World} (h : Sb w kt v W) (hb : Below W.heap.size W W') : Sb w kt v W' := by
  obtain ⟨c, h0, h1, f0, f1, hw⟩ := h
  have l0 := World.block_lt_of_cell? _ _ c
  have l1 := World.block_lt_of_cell? _ _ h0
  exact ⟨(hb.cell (p := ⟨kt, 0, none⟩) l0).trans c, (hb.cell (p := ⟨w.heap.size + 1, 0, none⟩) l1).trans h0, (hb.cell (p := ⟨w.heap.size + 1, 1, none⟩) l1).trans h1, (hb.frozen (p := ⟨w.heap.size + 1, 0, none⟩) l1).trans f0, (hb.frozen (p := ⟨w.heap.size + 1, 1, none⟩) l1).trans f1, hw.out.trans (hb.mono hw.out.size)⟩
def SpP (x y : Int) (w : World) (e : Ending) (w' : World) : Prop := e = .returned (.tuple #[.agg #[.int .i64 x, .int .i64 y], .int .i64 0]) ∧ Below w.heap.size w w'
set_option maxHeartbeats 600000 in
theorem spread_ok (b off n m c : Nat) (X Y : Nat → Int) (ice x d : Int) (w : World) (hn : n = m + 1) (hc : Cur X Y m) (hp : Pts w b off n X Y) (hi : 0 ≤ ice ∧ ice ≤ 16777216) (hx : 0 ≤ x ∧ x ≤ 16777216) (hd : 0 ≤ d ∧ d ≤ 16777216) : Calls Try.prog 12 #[.agg #[.slice (some ⟨b, off, none⟩) n c, .int .i64 ice], .int .i64 x, .int .i64 d] w (SpP (val X Y m (max 0 (x - d))) (val X Y m (x + d)) w) := by
  have HT := Lib.hid (fun W hp => tab_ok b off n c m X Y ice W (cv_ok b off n m c X Y hn hc) hp hi)
  have HA := Lib.hid (fun W hp => fat_ok b off n c m X Y (x + d) W (cv_ok b off n m c X Y hn hc) hp)
  have HL := Lib.hid (fun W hp => flo_ok b off n c m X Y x d W (cv_ok b off n m c X Y hn hc) hp (by omega) (by omega))
  have HP := Lib.hid hp
  have HP0 := Lib.hid ((hp.alloc (.cells #[.slice (some ⟨b, off, none⟩) n c, .int .i64 ice] 25)).alloc (.cells #[.int .i64 0, .int .i64 0] 38))
  have HZ1 : Hid (∀ W, Calls Try.prog 22 #[.int .i64 16777216, .int .i64 x] W fun e w' => e = .returned (.bool true) ∧ W = w') := fun W => by
    have h := fz_any 16777216 x W
    rwa [inB_yes hx] at h
  have HZ2 : Hid (∀ W, Calls Try.prog 22 #[.int .i64 16777216, .int .i64 d] W fun e w' => e = .returned (.bool true) ∧ W = w') := fun W => by
    have h := fz_any 16777216 d W
    rwa [inB_yes hd] at h
  generalize val X Y m (max 0 (x - d)) = lo at *
  generalize val X Y m (x + d) = hg at *
  clear hc hp hn
  go_enter Try.func12, Try.ntmps12
  go_wp2_with (first
    | (go_at_call 19; refine (HT.out _ HP0.out).mono ?_; rintro e w1 ⟨rfl, hb1⟩; obtain ⟨⟨c0, c1⟩, ⟨d0, d1⟩, ⟨f0, f1⟩, hbw⟩ := boxes2 hb1; have HBW := Lib.hid hbw; have hsz := World.block_lt_of_cell? _ _ d0; clear hb1 hbw)
    | (go_at_call_has 22 (Value.int .i64 x); refine (HZ1.out _).mono ?_; rintro e w2 ⟨rfl, rfl⟩)
    | (go_at_call_has 22 (Value.int .i64 d); refine (HZ2.out _).mono ?_; rintro e w2 ⟨rfl, rfl⟩))
  have hS : Sb w w1.heap.size (.slice (some ⟨b, off, none⟩) n c) (w1.alloc (.cells #[.slice (some ⟨b, off, none⟩) n c, .int .i64 ice] 58)) := by
    have hb := (Below.refl w1.heap.size w1).alloc (Nat.le_refl _) (.cells #[.slice (some ⟨b, off, none⟩) n c, .int .i64 ice] 58)
    exact ⟨by simp, (hb.cell (p := ⟨w.heap.size + 1, 0, none⟩) hsz).trans d0, (hb.cell (p := ⟨w.heap.size + 1, 1, none⟩) hsz).trans d1, (hb.frozen (p := ⟨w.heap.size + 1, 0, none⟩) hsz).trans f0, (hb.frozen (p := ⟨w.heap.size + 1, 1, none⟩) hsz).trans f1, HBW.out.alloc HBW.out.size _⟩
  have HSN : Hid (∀ q, Sb w w1.heap.size (.slice (some ⟨b, off, none⟩) n c) ((w1.alloc (.cells #[.slice (some ⟨b, off, none⟩) n c, .int .i64 ice] 58)).drewN q)) := fun q => hS.step ⟨rfl, rfl, rfl, Nat.le_refl _, fun _ _ => rfl⟩
  have HA2 : Hid (∀ W, Sb w w1.heap.size (.slice (some ⟨b, off, none⟩) n c) W → Calls Try.prog 24 #[.agg #[.slice (some ⟨b, off, none⟩) n c], .int .i64 (x + d)] W fun e w' => e = .returned (.int .i64 hg) ∧ Sb w w1.heap.size (.slice (some ⟨b, off, none⟩) n c) w') := fun W h => (HA.out W (HP.out.up h.2.2.2.2.2.out (Nat.le_refl _))).mono fun e w' ⟨he, hb⟩ => ⟨he, h.step hb⟩
  have HL2 : Hid (∀ W, Sb w w1.heap.size (.slice (some ⟨b, off, none⟩) n c) W → Calls Try.prog 23 #[.agg #[.slice (some ⟨b, off, none⟩) n c], .int .i64 x, .int .i64 d] W fun e w' => e = .returned (.int .i64 lo) ∧ Sb w w1.heap.size (.slice (some ⟨b, off, none⟩) n c) w') := fun W h => (HL.out W (HP.out.up h.2.2.2.2.2.out (Nat.le_refl _))).mono fun e w' ⟨he, hb⟩ => ⟨he, h.step hb⟩
  obtain ⟨c9, g0, g1, g2, g3, _⟩ := hS
  have hw : IntKind.i64.wrap (x + d) = x + d := by rw [IntKind.wrap_i64]; omega
  clear d0 d1 f0 f1 c0 c1 HA HL HP HP0 HT HZ1 HZ2
  go_region_with (first
      | (go_at_call 24; refine (HA2.out _ (by first | assumption | exact HSN.out _)).mono ?_; rintro e w8 ⟨rfl, hS8⟩; obtain ⟨c9, g0, g1, g2, g3, hb8⟩ := hS8)
      | (go_at_call 23; refine (HL2.out _ (by first | assumption | exact HSN.out _)).mono ?_; rintro e w7 ⟨rfl, hS7⟩; have c9 := hS7.1))
  all_goals
    go_wp2
    have e0 : (w8.setCell ⟨w.heap.size + 1, 0, none⟩ (.int .i64 lo)).cell? ⟨w.heap.size + 1, 0, none⟩ = some (.int .i64 lo) := World.cell?_setCell_same _ _ _ g0
    have e1 : ((w8.setCell ⟨w.heap.size + 1, 0, none⟩ (.int .i64 lo)).setCell ⟨w.heap.size + 1, 1, none⟩ (.int .i64 hg)).cell? ⟨w.heap.size + 1, 1, none⟩ = some (.int .i64 hg) := World.cell?_setCell_same _ _ _ ((World.cell?_setCell_other _ _ _ _ (by simp)).trans g1)
    exact bodyPost_ret (v := .tuple #[.agg #[.int .i64 lo, .int .i64 hg], .int .i64 0]) (by simp [results, Try.results12, go_sem, e0, e1]) rfl ⟨rfl, (hb8.out.setCell (by simp) _).setCell (by simp) _⟩
end Go.Proofs.Ytdcjgeebkinjlaa.Ra

/-
  The walk of the law RatingIce.
-/
import Derived.Test.YtdcjgeebkinjlaaRaAwk
import Derived.Test.YtdcjgeebkinjlaaCuRow
import Derived.Deep.DeepCutAuto
namespace Go.Proofs.Ytdcjgeebkinjlaa.Ra
open Go.ChangeShapes Go.WideShapes Go.ChangeAt Go.RowKit
open Go.Proofs.Ytdcjgeebkinjlaa.Cu hiding inB inB_yes inB_no exX exY exC exP
open Go.Proofs.Ytdcjgeebkinjlaa.Ca (inB inB_yes inB_no)
open Go.Proofs.Ytdcjgeebkinjlaa.Gg (ckG ckG_zero pck_any Ek Vr)
set_option linter.unusedVariables false

/-- The boxes of the rating and of the reading. -/
abbrev Bi (kr : Nat) (s : Value) (ice v f : Int) (W : World) : Prop := W.cell? ⟨kr, 0, none⟩ = some s ∧ W.cell? ⟨kr, 1, none⟩ = some (.int .i64 ice) ∧ W.cell? ⟨kr + 1, 0, none⟩ = some (.int .i64 0) ∧ W.cell? ⟨kr + 1, 1, none⟩ = some (.int .i64 0) ∧ W.cell? ⟨kr + 1, 2, none⟩ = some (.int .i64 v) ∧ W.cell? ⟨kr + 1, 3, none⟩ = some (.int .i64 f) ∧ W.frozen? ⟨kr + 1, 3, none⟩ = false
theorem Bi.next {kr : Nat} {s : Value} {ice v f : Int} {W W' : World} (h : Bi kr s ice v f W) (hb : Below W.heap.size W W') : Bi kr s ice v f W' := by
  obtain ⟨c0, c1, d0, d1, d2, d3, f3⟩ := h
  have l0 := World.block_lt_of_cell? _ _ c0
  have l1 := World.block_lt_of_cell? _ _ d0
  exact ⟨(hb.cell (p := ⟨kr, 0, none⟩) l0).trans c0, (hb.cell (p := ⟨kr, 1, none⟩) l0).trans c1, (hb.cell (p := ⟨kr + 1, 0, none⟩) l1).trans d0, (hb.cell (p := ⟨kr + 1, 1, none⟩) l1).trans d1, (hb.cell (p := ⟨kr + 1, 2, none⟩) l1).trans d2, (hb.cell (p := ⟨kr + 1, 3, none⟩) l1).trans d3, (hb.frozen (p := ⟨kr + 1, 3, none⟩) l1).trans f3⟩
theorem Bi.set {kr : Nat} {s : Value} {ice v f : Int} {W : World} (h : Bi kr s ice v f W) (f' : Int) : Bi kr s ice v f' (W.setCell ⟨kr + 1, 3, none⟩ (.int .i64 f')) := by
  obtain ⟨c0, c1, d0, d1, d2, d3, f3⟩ := h
  have ho : ∀ a : Addr, a ≠ ⟨kr + 1, 3, none⟩ → (W.setCell ⟨kr + 1, 3, none⟩ (.int .i64 f')).cell? a = W.cell? a := fun a ha => World.cell?_setCell_other _ _ _ _ (Ne.symm ha)
  exact ⟨(ho _ (by simp)).trans c0, (ho _ (by simp)).trans c1, (ho _ (by simp)).trans d0, (ho _ (by simp)).trans d1, (ho _ (by simp)).trans d2, World.cell?_setCell_same _ _ _ d3, by simpa using f3⟩

/-- What the law looks at, by names. -/
structure IceC (w2 : World) (b k cap : Nat) (ice v p q : Int) : Prop where
  F0 : ∀ W, Hid (Below w2.heap.size w2 W) → Calls Try.prog 10 #[.agg #[.slice (some ⟨b, 0, none⟩) k cap, .int .i64 ice], .agg #[.int .i64 0, .int .i64 0, .int .i64 v, .int .i64 0]] W fun e w' => e = .returned (.tuple #[.int .i64 p, .bool true, .int .i64 0]) ∧ Below W.heap.size W w'
  F1 : ∀ W, Hid (Below w2.heap.size w2 W) → Calls Try.prog 10 #[.agg #[.slice (some ⟨b, 0, none⟩) k cap, .int .i64 ice], .agg #[.int .i64 0, .int .i64 0, .int .i64 v, .int .i64 1]] W fun e w' => e = .returned (.tuple #[.int .i64 q, .bool true, .int .i64 0]) ∧ Below W.heap.size W w'
  F2 : ∀ W, Hid (Below w2.heap.size w2 W) → Calls Try.prog 10 #[.agg #[.slice (some ⟨b, 0, none⟩) k cap, .int .i64 ice], .agg #[.int .i64 0, .int .i64 0, .int .i64 v, .int .i64 2]] W fun e w' => e = .returned (.tuple #[.int .i64 0, .bool false, .int .i64 0]) ∧ Below W.heap.size W w'
theorem ice_pack {w2 : World} {b k m cap : Nat} {X Y : Nat → Int} {ice v : Int} (hk : k = m + 1) (hp : Pts w2 b 0 k X Y) (hr : Ra X Y m ice) (hv : 0 ≤ v ∧ v < 300) :
    ∃ p q, Hid (IceC w2 b k cap ice v p q) ∧ q ≤ p ∧ (0 < ice ∨ ice = 0 ∧ q = p) := by
  have h0 := hr.ice0
  have h1 := hr.ice1
  have ho := cv_ok b 0 k m cap X Y hk hr.cur
  refine ⟨val X Y m v, val X Y m (max 0 (v - ice)), ⟨fun W hb => ?_, fun W hb => ?_, fun W hb => ?_⟩, val_mono X Y m hr.cur.asc _ _ (by omega), ?_⟩
  · exact flow_ok b 0 k cap m X Y ice 0 0 v 0 W ho (hp.up hb.out (Nat.le_refl _)) (by omega) (ck0 v 0 (by omega) (by omega))
  · exact flow_ok b 0 k cap m X Y ice 0 0 v 1 W ho (hp.up hb.out (Nat.le_refl _)) (by omega) (ck0 v 1 (by omega) (by omega))
  · exact flow_ok b 0 k cap m X Y ice 0 0 v 2 W ho (hp.up hb.out (Nat.le_refl _)) (by omega) (ck0 v 2 (by omega) (by omega))
  · by_cases h : 0 < ice
    · exact .inl h
    · obtain rfl : ice = 0 := by omega
      exact .inr ⟨rfl, by rw [show max 0 (v - 0) = v by omega]⟩

set_option maxRecDepth 100000 in
set_option maxHeartbeats 4000000 in
theorem lic_walk (p : Option Addr) (n c : Nat) (z : Nat → Int) (x : Int) (w : World) (hr : RdI w p n z) (hn : n ≤ 9223372036854775807) (hz : ∀ i, -9223372036854775808 ≤ z i ∧ z i ≤ 9223372036854775807)
    (h1 : -9223372036854775808 ≤ x ∧ x ≤ 9223372036854775807) :
    Calls Try.prog 3 #[.slice p n c, .int .i64 x] w fun e w' => e = .returned (.bool true) ∧ Below w.heap.size w w' := by
  have HN := Lib.hid (new_any p n c z w hn hz hr)
  have HM := Lib.hid (fun W => mod_any x 300 W h1 (by omega) (by omega))
  have v1 := md_lo x 300 (by omega)
  have v2 := md_hi x 300 (by omega)
  clear hr hz hn h1
  generalize md x 300 = v at *
  go_enter Try.func3, Try.ntmps3
  go_upto_region 3 with (first
    | (go_at_call 8; refine HN.out.mono ?_; rintro e w1 ⟨rfl, hd1, hb1⟩)
    | (go_at_call 7; refine (rating_any w.heap.size p n c z _ hd1).mono ?_; rintro e w2 ⟨b, cap, k, m, X, Y, ice, rfl, hk, hwb, hpt, hcap, hra, hd2, hg2⟩; have HBL : Hid (Below w.heap.size w w2) := (hb1.grown hg2 hb1.size (by intro k hk; cases hk; exact Nat.le_refl _)); obtain ⟨pp, q, HI, hqp, hcs⟩ := ice_pack (cap := cap) hk hpt hra ⟨v1, v2⟩; have HCS := Lib.hid hcs; clear hk hwb hpt hcap hra hd2 hg2 hd1 hb1 hcs)
    | (go_at_call 9; refine (HM.out _).mono ?_; rintro e w' ⟨rfl, rfl⟩))
  have hB0 : Bi w2.heap.size (.slice (some ⟨b, 0, none⟩) k cap) ice v 0 ((w2.alloc (.cells #[.slice (some ⟨b, 0, none⟩) k cap, .int .i64 ice] 25)).alloc (.cells #[.int .i64 0, .int .i64 0, .int .i64 v, .int .i64 0] 31)) := by
    refine ⟨?_, ?_, ?_, ?_, ?_, ?_, ?_⟩ <;> simp
  have HB0 : Hid (Below w2.heap.size w2 ((w2.alloc (.cells #[.slice (some ⟨b, 0, none⟩) k cap, .int .i64 ice] 25)).alloc (.cells #[.int .i64 0, .int .i64 0, .int .i64 v, .int .i64 0] 31))) := ((Below.refl _ _).alloc (Nat.le_refl _) _).alloc (by simp) _
  have HX0 := Lib.hid hB0
  clear hB0 HN HM v1 v2
  have d1 : decide (q ≤ pp) = true := by rw [decide_eq_true_eq]; exact hqp
  have d3 : (pp == pp) = true := by rw [beq_iff_eq]
  have dcs : (0 < ice ∧ decide (0 < ice) = true) ∨ ice = 0 ∧ q = pp := HCS.out.imp (fun h => ⟨h, by rw [decide_eq_true_eq]; exact h⟩) id
  rcases dcs with ⟨hi, d2⟩ | ⟨rfl, rfl⟩
  all_goals
    clear HCS
    go_wp2_with (first
      | (go_at_call 10; first
        | (refine (HI.out.F0 _ HB0).mono ?_; rintro e w3 ⟨rfl, hb3⟩; obtain ⟨c0, c1, e0, e1, e2, e3, f3⟩ := HX0.out.next hb3; have HX3 := Lib.hid ((HX0.out.next hb3).set 1); have HB3 := Lib.hid ((HB0.out.trans (hb3.mono HB0.out.size)).setCell (p := ⟨w2.heap.size + 1, 3, none⟩) (by simp) (.int .i64 1)); clear HB0 HX0 hb3)
        | (refine (HI.out.F1 _ HB3).mono ?_; rintro e w4 ⟨rfl, hb4⟩; obtain ⟨c0, c1, e0, e1, e2, e3, f3⟩ := HX3.out.next hb4; have HX4 := Lib.hid ((HX3.out.next hb4).set 2); have HB4 := Lib.hid ((HB3.out.trans (hb4.mono HB3.out.size)).setCell (p := ⟨w2.heap.size + 1, 3, none⟩) (by simp) (.int .i64 2)); clear HB3 HX3 hb4)
        | (refine (HI.out.F2 _ HB4).mono ?_; rintro e w5 ⟨rfl, hb5⟩; obtain ⟨c0, c1, e0, e1, e2, e3, f3⟩ := HX4.out.next hb5; have HB5 := Lib.hid (HB4.out.trans (hb5.mono HB4.out.size)); clear HB4 HX4 hb5))
      | (go_at_call 11; refine (awk_later _ HB5).mono ?_; rintro e w6 ⟨rfl, hb6⟩))
    go_ret
    exact ⟨rfl, HBL.out.trans (hb6.out.mono HBL.out.size)⟩
end Go.Proofs.Ytdcjgeebkinjlaa.Ra

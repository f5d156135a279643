/-
  The walk of the law StorageZones.
-/
import Derived.Test.YtglimagkfapcaaaStAwk
import Derived.Test.YtglimagkfapcaaaStRes
import Derived.Test.YtglimagkfapcaaaStRow
namespace Go.Proofs.Ytglimagkfapcaaa.Cu
open Go.ChangeShapes Go.WideShapes Go.ChangeAt Go.RowKit
set_option linter.unusedVariables false

/-- What the law looks at, by names. -/
structure Zo3 (w5 : World) (b k cap : Nat) (D L F S C v za zb zc zd x z s : Int) : Prop where
  A : ∀ W, Hid (Below w5.heap.size w5 W) → Calls Try.prog 18 #[.agg #[.slice (some ⟨b, 0, none⟩) k cap, .int .i64 D, .int .i64 L, .int .i64 F, .int .i64 S, .int .i64 C], .int .i64 S] W fun e w' => e = .returned (.tuple #[.int .i64 (za), .int .i64 0]) ∧ Hid (Below w5.heap.size w5 w')
  B : ∀ W, Hid (Below w5.heap.size w5 W) → Calls Try.prog 18 #[.agg #[.slice (some ⟨b, 0, none⟩) k cap, .int .i64 D, .int .i64 L, .int .i64 F, .int .i64 S, .int .i64 C], .int .i64 (S + 1)] W fun e w' => e = .returned (.tuple #[.int .i64 (zb), .int .i64 0]) ∧ Hid (Below w5.heap.size w5 w')
  E : ∀ W, Hid (Below w5.heap.size w5 W) → Calls Try.prog 18 #[.agg #[.slice (some ⟨b, 0, none⟩) k cap, .int .i64 D, .int .i64 L, .int .i64 F, .int .i64 S, .int .i64 C], .int .i64 (C + 1)] W fun e w' => e = .returned (.tuple #[.int .i64 (zc), .int .i64 0]) ∧ Hid (Below w5.heap.size w5 w')
  G : ∀ W, Hid (Below w5.heap.size w5 W) → Calls Try.prog 18 #[.agg #[.slice (some ⟨b, 0, none⟩) k cap, .int .i64 D, .int .i64 L, .int .i64 F, .int .i64 S, .int .i64 C], .int .i64 (max 0 (D - 1))] W fun e w' => e = .returned (.tuple #[.int .i64 (zd), .int .i64 0]) ∧ Hid (Below w5.heap.size w5 w')
  LV : ∀ W, Hid (Below w5.heap.size w5 W) → Calls Try.prog 16 #[.agg #[.slice (some ⟨b, 0, none⟩) k cap, .int .i64 D, .int .i64 L, .int .i64 F, .int .i64 S, .int .i64 C], .int .i64 v] W fun e w' => e = .returned (.tuple #[.int .i64 (x), .int .i64 0]) ∧ Hid (Below w5.heap.size w5 w')
  Z : ∀ W, Hid (Below w5.heap.size w5 W) → Calls Try.prog 18 #[.agg #[.slice (some ⟨b, 0, none⟩) k cap, .int .i64 D, .int .i64 L, .int .i64 F, .int .i64 S, .int .i64 C], .int .i64 x] W fun e w' => e = .returned (.tuple #[.int .i64 (z), .int .i64 0]) ∧ Hid (Below w5.heap.size w5 w')
  V : ∀ W, Hid (Below w5.heap.size w5 W) → Calls Try.prog 14 #[.agg #[.slice (some ⟨b, 0, none⟩) k cap, .int .i64 D, .int .i64 L, .int .i64 F, .int .i64 S, .int .i64 C], .int .i64 S] W fun e w' => e = .returned (.tuple #[.int .i64 (s), .int .i64 0]) ∧ Hid (Below w5.heap.size w5 w')
theorem zo3_pack {w5 : World} {b k m cap : Nat} {X Y : Nat → Int} {D L F S C : Int} (hk : k = m + 1) (hp : Pts w5 b 0 k X Y) (hr : Res X Y m D L F S C) (v : Int) (hv : 0 ≤ v ∧ v < 900) (h0 : 100 ≤ X 0) (hm : X m ≤ 309) :
    ∃ za zb zc zd x z s, Hid (Zo3 w5 b k cap D L F S C v za zb zc zd x z s) ∧ za = 3 ∧ 4 ≤ zb ∧ zc = 5 ∧ zd = 0 ∧ (z ≤ 3 ∨ (3 < z ∧ s ≤ v)) ∧ (100 ≤ D ∧ D ≤ 309 ∧ 100 ≤ S ∧ S ≤ 309 ∧ 100 ≤ C ∧ C ≤ 309) := by
  obtain ⟨l1, l2, l3, l4, l5, l6⟩ := hr.lev
  obtain ⟨f1, f2, f3, f4⟩ := lev_facts hr.cur v
  refine ⟨zon D L F S C S, zon D L F S C (S + 1), zon D L F S C (C + 1), zon D L F S C (max 0 (D - 1)), levV X Y m v, zon D L F S C (levV X Y m v), val X Y m S, ⟨zone_later hk hp hr _ (by omega), zone_later hk hp hr _ (by omega), zone_later hk hp hr _ (by omega), zone_later hk hp hr _ (by omega), lev_later hk hp hr _ (by omega), zone_later hk hp hr _ (by omega), vol_later hk hp hr _ (by omega)⟩, ?_, ?_, ?_, ?_, ?_, by omega⟩
  · unfold zon; repeat' split <;> omega
  · unfold zon; repeat' split <;> omega
  · unfold zon; repeat' split <;> omega
  · unfold zon; repeat' split <;> omega
  · by_cases h : levV X Y m v ≤ S
    · refine .inl ?_
      unfold zon; repeat' split <;> omega
    · refine .inr ⟨?_, ?_⟩
      · unfold zon; repeat' split <;> omega
      · have h1 := val_mono X Y m hr.cur.asc S (levV X Y m v) (by omega)
        have h2 : Y 0 ≤ v := by
          apply Classical.byContradiction
          intro hc
          have e : levV X Y m v = X 0 := by unfold levV laB; rw [if_neg]; simp; omega
          omega
        have := f3 h2
        omega

set_option maxRecDepth 100000 in
set_option maxHeartbeats 16000000 in
theorem lzo_walk (p : Option Addr) (n c : Nat) (z : Nat → Int) (y : Int) (w : World) (hr : RdI w p n z) (hn : n ≤ 9223372036854775807) (hz : ∀ i, -9223372036854775808 ≤ z i ∧ z i ≤ 9223372036854775807)
    (hy : -9223372036854775808 ≤ y ∧ y ≤ 9223372036854775807) :
    Calls Try.prog 7 #[.slice p n c, .int .i64 y] w fun e w' => e = .returned (.bool true) ∧ Below w.heap.size w w' := by
  have HN := Lib.hid (new_any p n c z w hn hz hr)
  have HM1 := Lib.hid (fun W => mod_any y 900 W hy (by omega) (by omega))
  have v1 := md_lo y 900 (by omega)
  have v2 := md_hi y 900 (by omega)
  clear hr hz hn hy
  generalize md y 900 = v at *
  go_enter Try.func7, Try.ntmps7
  go_wp2_with (first
    | (go_at_call 8; refine HN.out.mono ?_; rintro e w1 ⟨rfl, hd1, hb1⟩)
    | (go_at_call 9; refine (reservoir_any w.heap.size p n c z _ hd1).mono ?_; rintro e w4 ⟨b, cap, k, m, X, Y, D, L, F, S, C, rfl, hk, m4, hwb, hpt, hres, hbd, hd4, hg4⟩; have HK := Lib.hid hk; have HPT := Lib.hid hpt; have HRS := Lib.hid hres; have HBD := Lib.hid hbd; have HBL : Hid (Below w.heap.size w w4) := (hb1.grown hg4 hb1.size (by intro k hk; cases hk; exact Nat.le_refl _)); clear hk hpt hres hbd hd4 hg4 hd1))
  have HX := Lib.hid (bx_alloc w4 (some ⟨b, 0, none⟩) k cap D L F S C 24)
  have HP5 := Lib.hid (HPT.out.alloc (.cells #[.slice (some ⟨b, 0, none⟩) k cap, .int .i64 D, .int .i64 L, .int .i64 F, .int .i64 S, .int .i64 C] 24))
  have HW5 := Lib.hid (HBL.out.alloc HBL.out.size (.cells #[.slice (some ⟨b, 0, none⟩) k cap, .int .i64 D, .int .i64 L, .int .i64 F, .int .i64 S, .int .i64 C] 24))
  clear HN HPT HBL hb1
  generalize w4.alloc (.cells #[.slice (some ⟨b, 0, none⟩) k cap, .int .i64 D, .int .i64 L, .int .i64 F, .int .i64 S, .int .i64 C] 24) = w5 at *
  generalize w4.heap.size = kb at *
  have hb5 : Hid (Below w5.heap.size w5 w5) := Below.refl _ _
  have HFin : Hid (∀ W, Hid (Below w5.heap.size w5 W) → Below w.heap.size w W) := fun W h => HW5.out.trans (h.out.mono HW5.out.size)
  have HCel : Hid (∀ W, Hid (Below w5.heap.size w5 W) → Bx W kb (some ⟨b, 0, none⟩) k cap D L F S C) := fun W h => HX.out.below h.out (World.block_lt_of_cell? _ _ HX.out.c0)
  obtain ⟨c0, c1, c2, c3, c4, c5⟩ := HX.out
  obtain ⟨za, zb, zc, zd, x, z, s, HRI, rfl, g2, rfl, rfl, g5, q1, q2, q3, q4, q5, q6⟩ := zo3_pack (cap := cap) HK.out HP5.out HRS.out v ⟨v1, v2⟩ HBD.out.1 HBD.out.2.2.1
  have d1 : decide (zb < 4) = false := by rw [decide_eq_false_iff_not]; omega
  clear HX HP5 HW5 HBD HRS
  rcases g5 with g5 | ⟨g5, g6⟩
  · have d2 : decide (z ≤ 3) = true := by rw [decide_eq_true_eq]; exact g5
    go_wp2_with (first
      | (go_at_call 25; refine (HM1.out _).mono ?_; rintro e w' ⟨rfl, rfl⟩)
      | (go_at_call 18; go_at_call_has 18 (Value.int .i64 (S + 1)); refine (HRI.out.B _ (by assumption)).mono ?_; clear c0 c1 c2 c3 c4 c5; rintro e w6 ⟨rfl, hb5⟩; have hbx := HCel.out _ hb5; obtain ⟨c0, c1, c2, c3, c4, c5⟩ := hbx)
      | (go_at_call 18; go_at_call_has 18 (Value.int .i64 (C + 1)); refine (HRI.out.E _ (by assumption)).mono ?_; clear c0 c1 c2 c3 c4 c5; rintro e w6 ⟨rfl, hb5⟩; have hbx := HCel.out _ hb5; obtain ⟨c0, c1, c2, c3, c4, c5⟩ := hbx)
      | (go_at_call 18; go_at_call_has 18 (Value.int .i64 (max 0 (D - 1))); refine (HRI.out.G _ (by assumption)).mono ?_; clear c0 c1 c2 c3 c4 c5; rintro e w6 ⟨rfl, hb5⟩; have hbx := HCel.out _ hb5; obtain ⟨c0, c1, c2, c3, c4, c5⟩ := hbx)
      | (go_at_call 16; refine (HRI.out.LV _ (by assumption)).mono ?_; clear c0 c1 c2 c3 c4 c5; rintro e w6 ⟨rfl, hb5⟩; have hbx := HCel.out _ hb5; obtain ⟨c0, c1, c2, c3, c4, c5⟩ := hbx)
      | (go_at_call 18; go_at_call_has 18 (Value.int .i64 x); refine (HRI.out.Z _ (by assumption)).mono ?_; clear c0 c1 c2 c3 c4 c5; rintro e w6 ⟨rfl, hb5⟩; have hbx := HCel.out _ hb5; obtain ⟨c0, c1, c2, c3, c4, c5⟩ := hbx)
      | (go_at_call 18; go_at_call_has 18 (Value.int .i64 S); refine (HRI.out.A _ (by assumption)).mono ?_; clear c0 c1 c2 c3 c4 c5; rintro e w6 ⟨rfl, hb5⟩; have hbx := HCel.out _ hb5; obtain ⟨c0, c1, c2, c3, c4, c5⟩ := hbx)
      | (go_at_call 14; refine (HRI.out.V _ (by assumption)).mono ?_; clear c0 c1 c2 c3 c4 c5; rintro e w6 ⟨rfl, hb5⟩; have hbx := HCel.out _ hb5; obtain ⟨c0, c1, c2, c3, c4, c5⟩ := hbx)
      | (go_at_call 24; refine (awk_later _ (by assumption)).mono ?_; rintro e w6 ⟨rfl, hb5⟩))
    go_ret
    exact ⟨rfl, HFin.out _ hb5⟩
  · have d2 : decide (z ≤ 3) = false := by rw [decide_eq_false_iff_not]; omega
    have d3 : decide (s ≤ v) = true := by rw [decide_eq_true_eq]; exact g6
    go_wp2_with (first
      | (go_at_call 25; refine (HM1.out _).mono ?_; rintro e w' ⟨rfl, rfl⟩)
      | (go_at_call 18; go_at_call_has 18 (Value.int .i64 (S + 1)); refine (HRI.out.B _ (by assumption)).mono ?_; clear c0 c1 c2 c3 c4 c5; rintro e w6 ⟨rfl, hb5⟩; have hbx := HCel.out _ hb5; obtain ⟨c0, c1, c2, c3, c4, c5⟩ := hbx)
      | (go_at_call 18; go_at_call_has 18 (Value.int .i64 (C + 1)); refine (HRI.out.E _ (by assumption)).mono ?_; clear c0 c1 c2 c3 c4 c5; rintro e w6 ⟨rfl, hb5⟩; have hbx := HCel.out _ hb5; obtain ⟨c0, c1, c2, c3, c4, c5⟩ := hbx)
      | (go_at_call 18; go_at_call_has 18 (Value.int .i64 (max 0 (D - 1))); refine (HRI.out.G _ (by assumption)).mono ?_; clear c0 c1 c2 c3 c4 c5; rintro e w6 ⟨rfl, hb5⟩; have hbx := HCel.out _ hb5; obtain ⟨c0, c1, c2, c3, c4, c5⟩ := hbx)
      | (go_at_call 16; refine (HRI.out.LV _ (by assumption)).mono ?_; clear c0 c1 c2 c3 c4 c5; rintro e w6 ⟨rfl, hb5⟩; have hbx := HCel.out _ hb5; obtain ⟨c0, c1, c2, c3, c4, c5⟩ := hbx)
      | (go_at_call 18; go_at_call_has 18 (Value.int .i64 x); refine (HRI.out.Z _ (by assumption)).mono ?_; clear c0 c1 c2 c3 c4 c5; rintro e w6 ⟨rfl, hb5⟩; have hbx := HCel.out _ hb5; obtain ⟨c0, c1, c2, c3, c4, c5⟩ := hbx)
      | (go_at_call 18; go_at_call_has 18 (Value.int .i64 S); refine (HRI.out.A _ (by assumption)).mono ?_; clear c0 c1 c2 c3 c4 c5; rintro e w6 ⟨rfl, hb5⟩; have hbx := HCel.out _ hb5; obtain ⟨c0, c1, c2, c3, c4, c5⟩ := hbx)
      | (go_at_call 14; refine (HRI.out.V _ (by assumption)).mono ?_; clear c0 c1 c2 c3 c4 c5; rintro e w6 ⟨rfl, hb5⟩; have hbx := HCel.out _ hb5; obtain ⟨c0, c1, c2, c3, c4, c5⟩ := hbx)
      | (go_at_call 24; refine (awk_later _ (by assumption)).mono ?_; rintro e w6 ⟨rfl, hb5⟩))
    go_ret
    exact ⟨rfl, HFin.out _ hb5⟩
end Go.Proofs.Ytglimagkfapcaaa.Cu

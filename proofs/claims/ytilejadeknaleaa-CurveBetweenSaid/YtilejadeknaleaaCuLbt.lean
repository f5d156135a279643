/-
  The walk of the law CurveBetween.
-/
import Derived.Test.YtilejadeknaleaaCuRow
namespace Go.Proofs.Ytilejadeknaleaa.Cu
open Go.ChangeShapes Go.WideShapes Go.ChangeAt Go.RowKit
set_option linter.unusedVariables false

set_option maxRecDepth 100000 in
set_option maxHeartbeats 1000000 in
theorem lbt_walk (p : Option Addr) (n c : Nat) (z : Nat → Int) (at_ x : Int) (w : World) (hr : RdI w p n z) (hn : n ≤ 9223372036854775807) (hz : ∀ i, -9223372036854775808 ≤ z i ∧ z i ≤ 9223372036854775807)
    (h1 : -9223372036854775808 ≤ at_ ∧ at_ ≤ 9223372036854775807) (h2 : -9223372036854775808 ≤ x ∧ x ≤ 9223372036854775807) :
    Calls Try.prog 6 #[.slice p n c, .int .i64 at_, .int .i64 x] w fun e w' => e = .returned (.bool true) ∧ Below w.heap.size w w' := by
  have HN := Lib.hid (new_any p n c z w hn hz hr)
  clear hr hz
  go_enter Try.func6, Try.ntmps6
  go_wp2_with (first
    | (go_at_call 8; refine HN.out.mono ?_; rintro e w1 ⟨rfl, hd1, hb1⟩)
    | (go_at_call 15; first | (refine (next_any w.heap.size p n c z _ _ hd1 (by omega)).mono ?_; rintro e w2 ⟨r1, rfl, r11, r12, hd2, hg2⟩) | (refine (next_any w.heap.size p n c z _ _ hd2 (by omega)).mono ?_; rintro e w3 ⟨r2, rfl, r21, r22, hd3, hg3⟩))
    | (go_at_call 14; refine (curve_any w.heap.size p n c z r1 r2 30 40 false _ hd3 (by omega) (by omega) (by omega) (by omega)).mono ?_; intro e w4 hcv; obtain ⟨b, cap, k, m, X, Y, rfl, m1, m4, hk, hwb, hpt, hcur, hbd, hd4, hg4⟩ := cv_open hcv (by omega) (by omega) (by omega) (by omega); have HK := Lib.hid hk; have hk1 : (k : Int) - 1 = (m : Int) := (by omega); have HPT := Lib.hid hpt; have HCU := Lib.hid hcur; have HBD := Lib.hid hbd; have HG4 := Lib.hid hg4; clear hcv hk hpt hcur hbd hd4 hg4)
    | (go_at_call 16; refine (mod_any at_ m _ h1 (by omega) (by omega)).mono ?_; rintro e w' ⟨rfl, rfl⟩; have i1 := md_lo at_ m (by omega); have i2 := md_hi at_ m (by omega); obtain ⟨i, hi⟩ : ∃ i : Nat, md at_ m = i := ⟨(md at_ m).toNat, by omega⟩; rw [hi] at i1 i2 ⊢; clear hi))
  have i3 : i < m := by omega
  obtain ⟨c1, c2⟩ := HPT.out.2 i (by have := HK.out; omega)
  obtain ⟨c3, c4⟩ := HPT.out.2 (i + 1) (by have := HK.out; omega)
  rw [Nat.zero_add] at c1 c2 c3 c4
  have b1 := HBD.out i (by omega)
  have b2 := HBD.out (i + 1) (by omega)
  have b3 := HCU.out.asc i i3
  have hcu := HCU.out
  have ik : (i : Int) + 1 < (k : Int) := by omega
  have HS := Lib.hid (fun v h1 h2 => val_seg X Y m hcu.asc i i3 v h1 h2)
  have HX : Hid (w1.heap.size ≤ w4.heap.size) := Nat.le_trans hg2.size (Nat.le_trans hg3.size HG4.out.size)
  have hsz : b < w4.heap.size := HPT.out.1
  have HBL : Hid (Below w.heap.size w w4) := (hb1.grown (grown_trans (grown_trans hg2 hg3) HG4.out) hb1.size (by intro k hk; cases hk; exact Nat.le_refl _))
  clear hg2 hg3 HG4 hd1 hd2 hd3 hcu HBD HX
  obtain ⟨t, ht⟩ : ∃ t, md x (X (i + 1) - X i + 1) = t := ⟨_, rfl⟩
  have t1 := md_lo x (X (i + 1) - X i + 1) (by omega)
  have t2 := md_hi x (X (i + 1) - X i + 1) (by omega)
  have HM := Lib.hid (fun W => mod_any x (X (i + 1) - X i + 1) W h2 (by omega) (by omega))
  rw [ht] at t1 t2 HM
  clear ht
  have HA : Hid (∀ W, Pts W b 0 k X Y → Calls Try.prog 17 #[.slice (some ⟨b, 0, none⟩) k cap, .int .i64 (X i + t)] W (AtP (Y i + t * (Y (i + 1) - Y i) / (X (i + 1) - X i)) W)) := fun W hp => by
    have h := at_any b 0 k m cap X Y (X i + t) W HK.out hp HCU.out
    rw [HS.out _ (by omega) (by omega)] at h
    unfold lin at h
    rw [show X i + t - X i = t by omega] at h
    exact h
  have q1 := (le_div (a := t * (Y (i + 1) - Y i) / (X (i + 1) - X i)) (b := t * (Y (i + 1) - Y i)) (d := X (i + 1) - X i) (by omega)).1 (Int.le_refl _)
  have q2 := (div_lt (a := t * (Y (i + 1) - Y i)) (b := t * (Y (i + 1) - Y i) / (X (i + 1) - X i) + 1) (d := X (i + 1) - X i) (by omega)).1 (by omega)
  have q3 : 0 ≤ t * (Y (i + 1) - Y i) / (X (i + 1) - X i) := Int.ediv_nonneg (mulp t1 (by omega)) (by omega)
  rw [Int.add_mul, Int.one_mul] at q2
  rw [Int.mul_comm t] at q1 q2 q3 HA
  have q5 := mul_bd (a := Y (i + 1) - Y i) (num := t) (A := 10000) (B := 10000) (by omega) (by omega) (by omega) (by omega)
  have hmi : (i : Int) ≤ 4 := by omega
  clear HS
  generalize hX1 : X (i + 1) = x1 at *
  generalize hY1 : Y (i + 1) = y1 at *
  generalize hX0 : X i = x0 at *
  generalize hY0 : Y i = y0 at *
  clear hX1 hY1 hX0 hY0
  have q4 := (mul_bd (a := (y1 - y0) * t / (x1 - x0)) (num := x1 - x0) (A := (y1 - y0) * t / (x1 - x0)) (B := x1 - x0) q3 (Int.le_refl _) (by omega) (Int.le_refl _)).1
  generalize (y1 - y0) * t / (x1 - x0) = q at *
  have q6 : q ≤ 100000000 := by
    have : q * 1 ≤ q * (x1 - x0) := Int.mul_le_mul_of_nonneg_left (by omega) q3
    omega
  have z1 : 0 ≤ x0 := by omega
  have z2 : x0 ≤ 1000 := by omega
  have z3 : x0 < x1 := b3.1
  have z4 : x1 ≤ 1000 := by omega
  have z5 : 0 ≤ y0 := by omega
  have z6 : y0 ≤ 3000 := by omega
  have z7 : y0 ≤ y1 := b3.2
  have z8 : y1 ≤ 3000 := by omega
  have z9 : x0 + t ≤ 3000 := by omega
  have u1 : IntKind.i64.wrap (x1 - x0) = x1 - x0 := by rw [IntKind.wrap_i64]; omega
  have u2 : IntKind.i64.wrap (x1 - x0 + 1) = x1 - x0 + 1 := by rw [IntKind.wrap_i64]; omega
  have u3 : IntKind.i64.wrap (x0 + t) = x0 + t := by rw [IntKind.wrap_i64]; omega
  clear b1 b2 b3
  have v1 : (y0 + q - y0) * (x1 - x0) = q * (x1 - x0) := by rw [show y0 + q - y0 = q by omega]
  have v2 : (y1 - y0) * (x0 + t - x0) = (y1 - y0) * t := by rw [show x0 + t - x0 = t by omega]
  rw [← v1, ← v2] at q1
  rw [← v1, ← v2] at q2
  rw [← v2] at q5
  rw [← v1] at q4
  clear v1 v2
  obtain ⟨q51, q52⟩ := q5
  have LL : (y0 + q - y0) * (x1 - x0) ≤ 100000000 := by omega
  have d1 : decide ((y0 + q - y0) * (x1 - x0) ≤ (y1 - y0) * (x0 + t - x0)) = true := by rw [decide_eq_true_eq]; exact q1
  have d2 : decide ((y1 - y0) * (x0 + t - x0) < (y0 + q - y0) * (x1 - x0) + x1 - x0) = true := by rw [decide_eq_true_eq]; omega
  have HPN : Hid (∀ o o' q, Pts (((w4.alloc o).alloc o').drewN q) b 0 k X Y) := fun o o' q => (HPT.out.alloc o).alloc o'
  have HBN : Hid (∀ o o' q, Below w.heap.size w (((w4.alloc o).alloc o').drewN q)) := fun o o' q => bel_drewN ((HBL.out.alloc HBL.out.size o).alloc (by have := HBL.out.size; simp; omega) o') q
  have hws := HBL.out.size
  clear HCU HK h1 hn
  go_region
  all_goals go_wp2
  all_goals go_quiet (refine (HM.out _).mono fun e w' h => ⟨h.1, _, h.2.symm⟩)
  all_goals
    go_wp2_with (first | (go_at_call 17; refine (HA.out _ (HPN.out _ _ _)).mono ?_; rintro e w8 ⟨rfl, hb8⟩; have f1 := hb8.cell (p := ⟨w4.heap.size, 0, none⟩) (by simp; omega); have f2 := hb8.cell (p := ⟨w4.heap.size, 1, none⟩) (by simp; omega); have f3 := hb8.cell (p := ⟨w4.heap.size + 1, 0, none⟩) (by simp); have f4 := hb8.cell (p := ⟨w4.heap.size + 1, 1, none⟩) (by simp)) | (go_at_call 13; refine (awake_any _).mono ?_; rintro e w9 ⟨rfl, hb9⟩))
    go_ret
    exact ⟨rfl, ((HBN.out _ _ _).trans (hb8.mono (by simp; omega))).trans (hb9.mono (Nat.le_trans (by simp; omega) hb8.size))⟩
end Go.Proofs.Ytilejadeknaleaa.Cu

/-
  The walk of the law QuantityDoes.
-/
import Derived.Test.YtndfgbnjidfaaaaQuAwk
import Derived.Test.YtndfgbnjidfaaaaQuCar
import Derived.Test.YtndfgbnjidfaaaaQuRmt
import Derived.Test.YtndfgbnjidfaaaaQuRow
import Derived.Deep.RegionHeld3
namespace Go.Proofs.Ytndfgbnjidfaaaa.Qu
open Go.ChangeShapes Go.WideShapes Go.ChangeAt Go.RowKit
set_option linter.unusedVariables false

/-- What the six functions return at four numbers. -/
theorem six (a b c d : Int) (ha : -9223372036854775808 ≤ a ∧ a ≤ 9223372036854775807) (hb : -9223372036854775808 ≤ b ∧ b ≤ 9223372036854775807) (hc : -9223372036854775808 ≤ c ∧ c ≤ 9223372036854775807) (hd : -9223372036854775808 ≤ d ∧ d ≤ 9223372036854775807) :
    ∃ u1 u2 u3 u4 u5 u6 u7 : Int,
      (∀ W, Calls Try.prog 10 #[.int .i64 a, .int .i64 b] W (Two u1 u2 W)) ∧ (∀ W, Calls Try.prog 11 #[.int .i64 a, .int .i64 b] W (Two u1 u2 W)) ∧
      (∀ W, Calls Try.prog 12 #[.int .i64 a, .int .i64 b, .int .i64 c] W (Two u3 u4 W)) ∧ (∀ W, Calls Try.prog 13 #[.int .i64 a, .int .i64 b, .int .i64 c] W (Two u3 u4 W)) ∧
      (∀ W, Calls Try.prog 14 #[.int .i64 a, .int .i64 b, .int .i64 c, .int .i64 d] W (ThreeQ u5 u6 u7 W)) ∧ (∀ W, Calls Try.prog 15 #[.int .i64 a, .int .i64 b, .int .i64 c, .int .i64 d] W (ThreeQ u5 u6 u7 W)) :=
  ⟨_, _, _, _, _, _, _, fun W => floor_any a b W ha hb, fun W => rfloor_any a b W ha hb, fun W => scale_any a b c W hc, fun W => rscale_any a b c W hc, fun W => carry_any a b c d W hc hd, fun W => rcarry_any a b c d W hc hd⟩

/-- What the last statement's operations keep. -/
def DS (P M N : Nat) (x1 x2 lo hi : Int) (w0 W : World) : Prop :=
  W.cell? ⟨P, 0, none⟩ = some (.int .i64 x1) ∧ W.cell? ⟨P, 1, none⟩ = some (.int .i64 x2) ∧ W.cell? ⟨M, 0, none⟩ = some (.int .i64 lo) ∧ W.cell? ⟨M, 1, none⟩ = some (.int .i64 hi) ∧ W.cell? ⟨N, 0, none⟩ = some (.int .i64 lo) ∧ W.cell? ⟨N, 1, none⟩ = some (.int .i64 hi) ∧ Below w0.heap.size w0 W
theorem DS.below {P M N : Nat} {x1 x2 lo hi : Int} {w0 W W' : World} (h : DS P M N x1 x2 lo hi w0 W) (hb : Below W.heap.size W W') : DS P M N x1 x2 lo hi w0 W' := by
  obtain ⟨h1, h2, h3, h4, h5, h6, h7⟩ := h
  have b1 := World.block_lt_of_cell? _ _ h1
  have b3 := World.block_lt_of_cell? _ _ h3
  have b5 := World.block_lt_of_cell? _ _ h5
  exact ⟨(hb.cell (p := ⟨P, 0, none⟩) b1).trans h1, (hb.cell (p := ⟨P, 1, none⟩) b1).trans h2, (hb.cell (p := ⟨M, 0, none⟩) b3).trans h3, (hb.cell (p := ⟨M, 1, none⟩) b3).trans h4, (hb.cell (p := ⟨N, 0, none⟩) b5).trans h5, (hb.cell (p := ⟨N, 1, none⟩) b5).trans h6, h7.trans (hb.mono h7.size)⟩
theorem clampS (P M N : Nat) (x1 x2 lo hi x c : Int) (w0 W : World) (hc : clm x x1 x2 = c) (h : DS P M N x1 x2 lo hi w0 W) :
    Calls Try.prog 18 #[.int .i64 x, .agg #[.int .i64 x1, .int .i64 x2]] W fun e w' => e = .returned (.int .i64 c) ∧ DS P M N x1 x2 lo hi w0 w' :=
  (clamp_any x x1 x2 W).mono fun e w' ⟨he, hb⟩ => ⟨by rw [he, hc], h.below hb⟩
theorem rclampS (P M N : Nat) (x1 x2 lo hi x c : Int) (w0 W : World) (hc : clm x x1 x2 = c) (h : DS P M N x1 x2 lo hi w0 W) :
    Calls Try.prog 19 #[.int .i64 x, .agg #[.int .i64 x1, .int .i64 x2]] W fun e w' => e = .returned (.int .i64 c) ∧ DS P M N x1 x2 lo hi w0 w' :=
  (rclamp_any x x1 x2 W).mono fun e w' ⟨he, hb⟩ => ⟨by rw [he, hc], h.below hb⟩
theorem awakeS (P M N : Nat) (x1 x2 lo hi : Int) (w0 W : World) (h : DS P M N x1 x2 lo hi w0 W) :
    Calls Try.prog 20 #[] W fun e w' => e = .returned (.bool true) ∧ DS P M N x1 x2 lo hi w0 w' :=
  (awake_any W).mono fun e w' ⟨he, hb⟩ => ⟨he, h.below hb⟩

set_option maxRecDepth 100000 in
set_option maxHeartbeats 8000000 in
theorem ldo_walk (a b c d x1 x2 y1 y2 : Int) (w : World) (ha : -9223372036854775808 ≤ a ∧ a ≤ 9223372036854775807) (hb : -9223372036854775808 ≤ b ∧ b ≤ 9223372036854775807) (hc : -9223372036854775808 ≤ c ∧ c ≤ 9223372036854775807) (hd : -9223372036854775808 ≤ d ∧ d ≤ 9223372036854775807) :
    Calls Try.prog 3 #[.int .i64 a, .int .i64 b, .int .i64 c, .int .i64 d, .agg #[.int .i64 x1, .int .i64 x2], .agg #[.int .i64 y1, .int .i64 y2]] w fun e w' => e = .returned (.bool true) ∧ Below w.heap.size w w' := by
  have B1 := md_lo a 1000 (by omega)
  have C1 := md_hi a 1000 (by omega)
  have B2 := md_lo b 100 (by omega)
  have C2 := md_hi b 100 (by omega)
  have B3 := md_lo c 50 (by omega)
  have C3 := md_hi c 50 (by omega)
  have B4 := md_lo d 50 (by omega)
  have C4 := md_hi d 50 (by omega)
  have B5 := md_lo a 274877906945 (by omega)
  have C5 := md_hi a 274877906945 (by omega)
  have B6 := md_lo b 16777217 (by omega)
  have C6 := md_hi b 16777217 (by omega)
  have B7 := md_lo c 274877906944 (by omega)
  have C7 := md_hi c 274877906944 (by omega)
  have B8 := md_lo d 100 (by omega)
  have C8 := md_hi d 100 (by omega)
  obtain ⟨u1, u2, u3, u4, u5, u6, u7, hA1, hB1, hC1, hD1, hE1, hF1⟩ := six a b c d ha hb hc hd
  obtain ⟨v1, v2, v3, v4, v5, v6, v7, hA2, hB2, hC2, hD2, hE2, hF2⟩ := six (md a 1000) (md b 100) (md c 50) (md d 50) (by omega) (by omega) (by omega) (by omega)
  obtain ⟨t1, t2, t3, t4, t5, t6, t7, hA3, hB3, hC3, hD3, hE3, hF3⟩ := six (md a 274877906945) (md b 16777217) (1 + md c 274877906944) (md d 100) (by omega) (by omega) (by omega) (by omega)
  have HA1 := Lib.hid hA1
  have HB1 := Lib.hid hB1
  have HC1 := Lib.hid hC1
  have HD1 := Lib.hid hD1
  have HE1 := Lib.hid hE1
  have HF1 := Lib.hid hF1
  have HA2 := Lib.hid hA2
  have HB2 := Lib.hid hB2
  have HC2 := Lib.hid hC2
  have HD2 := Lib.hid hD2
  have HE2 := Lib.hid hE2
  have HF2 := Lib.hid hF2
  have HA3 := Lib.hid hA3
  have HB3 := Lib.hid hB3
  have HC3 := Lib.hid hC3
  have HD3 := Lib.hid hD3
  have HE3 := Lib.hid hE3
  have HF3 := Lib.hid hF3
  clear hA1 hB1 hC1 hD1 hE1 hF1 hA2 hB2 hC2 hD2 hE2 hF2 hA3 hB3 hC3 hD3 hE3 hF3
  go_enter Try.func3, Try.ntmps3
  go_wp2_with (go_at_call 9; refine (mod_any _ _ _ (by omega) (by omega) (by omega)).mono ?_; rintro e w' ⟨rfl, rfl⟩)
  obtain ⟨W3, hW3⟩ : ∃ W3, W3 = ((w.alloc (Obj.cells #[Value.int .i64 x1, Value.int .i64 x2] 23)).alloc (Obj.cells #[Value.int .i64 y1, Value.int .i64 y2] 23)).alloc (Obj.cells #[Value.int .i64 a, Value.int .i64 b, Value.int .i64 c, Value.int .i64 d, Value.int .i64 (md a 1000), Value.int .i64 (md b 100), Value.int .i64 (md c 50), Value.int .i64 (md d 50), Value.int .i64 (md a 274877906945), Value.int .i64 (md b 16777217), Value.int .i64 (1 + md c 274877906944), Value.int .i64 (md d 100)] 24) := ⟨_, rfl⟩
  rw [← hW3]
  have k0 : W3.cell? ⟨w.heap.size + 1 + 1, 0, none⟩ = some (.int .i64 a) := by rw [hW3, World.cell?_alloc_at _ _ _ _ (by simp)]; rfl
  have k1 : W3.cell? ⟨w.heap.size + 1 + 1, 1, none⟩ = some (.int .i64 b) := by rw [hW3, World.cell?_alloc_at _ _ _ _ (by simp)]; rfl
  have k2 : W3.cell? ⟨w.heap.size + 1 + 1, 2, none⟩ = some (.int .i64 c) := by rw [hW3, World.cell?_alloc_at _ _ _ _ (by simp)]; rfl
  have k3 : W3.cell? ⟨w.heap.size + 1 + 1, 3, none⟩ = some (.int .i64 d) := by rw [hW3, World.cell?_alloc_at _ _ _ _ (by simp)]; rfl
  have k4 : W3.cell? ⟨w.heap.size + 1 + 1, 4, none⟩ = some (.int .i64 (md a 1000)) := by rw [hW3, World.cell?_alloc_at _ _ _ _ (by simp)]; rfl
  have k5 : W3.cell? ⟨w.heap.size + 1 + 1, 5, none⟩ = some (.int .i64 (md b 100)) := by rw [hW3, World.cell?_alloc_at _ _ _ _ (by simp)]; rfl
  have k6 : W3.cell? ⟨w.heap.size + 1 + 1, 6, none⟩ = some (.int .i64 (md c 50)) := by rw [hW3, World.cell?_alloc_at _ _ _ _ (by simp)]; rfl
  have k7 : W3.cell? ⟨w.heap.size + 1 + 1, 7, none⟩ = some (.int .i64 (md d 50)) := by rw [hW3, World.cell?_alloc_at _ _ _ _ (by simp)]; rfl
  have k8 : W3.cell? ⟨w.heap.size + 1 + 1, 8, none⟩ = some (.int .i64 (md a 274877906945)) := by rw [hW3, World.cell?_alloc_at _ _ _ _ (by simp)]; rfl
  have k9 : W3.cell? ⟨w.heap.size + 1 + 1, 9, none⟩ = some (.int .i64 (md b 16777217)) := by rw [hW3, World.cell?_alloc_at _ _ _ _ (by simp)]; rfl
  have k10 : W3.cell? ⟨w.heap.size + 1 + 1, 10, none⟩ = some (.int .i64 (1 + md c 274877906944)) := by rw [hW3, World.cell?_alloc_at _ _ _ _ (by simp)]; rfl
  have k11 : W3.cell? ⟨w.heap.size + 1 + 1, 11, none⟩ = some (.int .i64 (md d 100)) := by rw [hW3, World.cell?_alloc_at _ _ _ _ (by simp)]; rfl
  have px0 : W3.cell? ⟨w.heap.size, 0, none⟩ = some (.int .i64 x1) := by rw [hW3, World.cell?_alloc_past _ _ _ (by simp; omega)]; simp
  have px1 : W3.cell? ⟨w.heap.size, 1, none⟩ = some (.int .i64 x2) := by rw [hW3, World.cell?_alloc_past _ _ _ (by simp; omega)]; simp
  have py0 : W3.cell? ⟨w.heap.size + 1, 0, none⟩ = some (.int .i64 y1) := by rw [hW3, World.cell?_alloc_past _ _ _ (by simp)]; simp
  have py1 : W3.cell? ⟨w.heap.size + 1, 1, none⟩ = some (.int .i64 y2) := by rw [hW3, World.cell?_alloc_past _ _ _ (by simp)]; simp
  have hz : W3.heap.size = w.heap.size + 3 := by rw [hW3]; simp
  have HBW : Hid (Below w.heap.size w W3) := by
    rw [hW3]
    exact (((Below.refl w.heap.size w).alloc (Nat.le_refl _) _).alloc (by simp) _).alloc (by simp; omega) _
  have HZ : Hid (W3.heap.size = w.heap.size + 3) := hz
  clear hW3 hz
  have Hk0 := Lib.hid k0
  have Hk1 := Lib.hid k1
  have Hk2 := Lib.hid k2
  have Hk3 := Lib.hid k3
  have Hk4 := Lib.hid k4
  have Hk5 := Lib.hid k5
  have Hk6 := Lib.hid k6
  have Hk7 := Lib.hid k7
  have Hk8 := Lib.hid k8
  have Hk9 := Lib.hid k9
  have Hk10 := Lib.hid k10
  have Hk11 := Lib.hid k11
  have Hpx0 := Lib.hid px0
  have Hpx1 := Lib.hid px1
  have Hpy0 := Lib.hid py0
  have Hpy1 := Lib.hid py1
  clear k0 k1 k2 k3 k4 k5 k6 k7 k8 k9 k10 k11 px0 px1 py0 py1
  go_loopw [59] (fun i wx => ∃ k : Nat, k ≤ 3 ∧ i = .int .i64 k ∧ Hid (Below W3.heap.size W3 wx)) (fun i _ => 3 - (intOf i).toNat)
  case atStart => exact ⟨0, by omega, rfl, Below.refl _ _⟩
  case round =>
    obtain ⟨k, hk, rfl, hbel⟩ := hrel
    by_cases hk3 : k < 3
    · have hk4 : k = 0 ∨ k = 1 ∨ k = 2 := by omega
      rcases hk4 with rfl | rfl | rfl
      · have g0 := (hbel.out.cell (p := ⟨w.heap.size + 1 + 1, 0, none⟩) (by rw [HZ.out]; simp)).trans Hk0.out
        have g1 := (hbel.out.cell (p := ⟨w.heap.size + 1 + 1, 1, none⟩) (by rw [HZ.out]; simp)).trans Hk1.out
        have g2 := (hbel.out.cell (p := ⟨w.heap.size + 1 + 1, 2, none⟩) (by rw [HZ.out]; simp)).trans Hk2.out
        have g3 := (hbel.out.cell (p := ⟨w.heap.size + 1 + 1, 3, none⟩) (by rw [HZ.out]; simp)).trans Hk3.out
        clear hk3
        go_wp2_with (first | (go_at_call 10; refine (HA1.out _).mono ?_; rintro e w' ⟨rfl, rfl⟩) | (go_at_call 11; refine (HB1.out _).mono ?_; rintro e w' ⟨rfl, rfl⟩) | (go_at_call 12; refine (HC1.out _).mono ?_; rintro e w' ⟨rfl, rfl⟩) | (go_at_call 13; refine (HD1.out _).mono ?_; rintro e w' ⟨rfl, rfl⟩) | (go_at_call 14; refine (HE1.out _).mono ?_; rintro e w' ⟨rfl, qa1, rfl⟩) | (go_at_call 15; refine (HF1.out _).mono ?_; rintro e w' ⟨rfl, qb1, rfl⟩))
        go_roundw
        case rel => exact ⟨1, by omega, by go_num, by show Below _ _ _; exact Below.drewN (hbel.out.alloc hbel.out.size _) _⟩
        case measure => simp [intOf]
      · have g0 := (hbel.out.cell (p := ⟨w.heap.size + 1 + 1, 4, none⟩) (by rw [HZ.out]; simp)).trans Hk4.out
        have g1 := (hbel.out.cell (p := ⟨w.heap.size + 1 + 1, 5, none⟩) (by rw [HZ.out]; simp)).trans Hk5.out
        have g2 := (hbel.out.cell (p := ⟨w.heap.size + 1 + 1, 6, none⟩) (by rw [HZ.out]; simp)).trans Hk6.out
        have g3 := (hbel.out.cell (p := ⟨w.heap.size + 1 + 1, 7, none⟩) (by rw [HZ.out]; simp)).trans Hk7.out
        clear hk3
        go_wp2_with (first | (go_at_call 10; refine (HA2.out _).mono ?_; rintro e w' ⟨rfl, rfl⟩) | (go_at_call 11; refine (HB2.out _).mono ?_; rintro e w' ⟨rfl, rfl⟩) | (go_at_call 12; refine (HC2.out _).mono ?_; rintro e w' ⟨rfl, rfl⟩) | (go_at_call 13; refine (HD2.out _).mono ?_; rintro e w' ⟨rfl, rfl⟩) | (go_at_call 14; refine (HE2.out _).mono ?_; rintro e w' ⟨rfl, qa2, rfl⟩) | (go_at_call 15; refine (HF2.out _).mono ?_; rintro e w' ⟨rfl, qb2, rfl⟩))
        go_roundw
        case rel => exact ⟨2, by omega, by go_num, by show Below _ _ _; exact Below.drewN (hbel.out.alloc hbel.out.size _) _⟩
        case measure => simp [intOf]
      · have g0 := (hbel.out.cell (p := ⟨w.heap.size + 1 + 1, 8, none⟩) (by rw [HZ.out]; simp)).trans Hk8.out
        have g1 := (hbel.out.cell (p := ⟨w.heap.size + 1 + 1, 9, none⟩) (by rw [HZ.out]; simp)).trans Hk9.out
        have g2 := (hbel.out.cell (p := ⟨w.heap.size + 1 + 1, 10, none⟩) (by rw [HZ.out]; simp)).trans Hk10.out
        have g3 := (hbel.out.cell (p := ⟨w.heap.size + 1 + 1, 11, none⟩) (by rw [HZ.out]; simp)).trans Hk11.out
        clear hk3
        go_wp2_with (first | (go_at_call 10; refine (HA3.out _).mono ?_; rintro e w' ⟨rfl, rfl⟩) | (go_at_call 11; refine (HB3.out _).mono ?_; rintro e w' ⟨rfl, rfl⟩) | (go_at_call 12; refine (HC3.out _).mono ?_; rintro e w' ⟨rfl, rfl⟩) | (go_at_call 13; refine (HD3.out _).mono ?_; rintro e w' ⟨rfl, rfl⟩) | (go_at_call 14; refine (HE3.out _).mono ?_; rintro e w' ⟨rfl, qa3, rfl⟩) | (go_at_call 15; refine (HF3.out _).mono ?_; rintro e w' ⟨rfl, qb3, rfl⟩))
        go_roundw
        case rel => exact ⟨3, by omega, by go_num, by show Below _ _ _; exact Below.drewN (hbel.out.alloc hbel.out.size _) _⟩
        case measure => simp [intOf]
    · obtain rfl : k = 3 := by omega
      have e1 := (hbel.out.cell (p := ⟨w.heap.size, 0, none⟩) (by rw [HZ.out]; simp)).trans Hpx0.out
      have e2 := (hbel.out.cell (p := ⟨w.heap.size, 1, none⟩) (by rw [HZ.out]; simp)).trans Hpx1.out
      have e3 := (hbel.out.cell (p := ⟨w.heap.size + 1, 0, none⟩) (by rw [HZ.out]; simp)).trans Hpy0.out
      have e4 := (hbel.out.cell (p := ⟨w.heap.size + 1, 1, none⟩) (by rw [HZ.out]; simp)).trans Hpy1.out
      have HM1 := Lib.hid (fun W => meet_any x1 x2 y1 y2 W)
      have HM2 := Lib.hid (fun W => rmeet_any x1 x2 y1 y2 W)
      have hsz : w.heap.size + 3 ≤ wr.heap.size := by have := hbel.out.size; rw [HZ.out] at this; exact this
      unfold MeetP at HM1 HM2
      obtain ⟨lo, hlo⟩ : ∃ lo, lo = (met x1 x2 y1 y2).1 := ⟨_, rfl⟩
      obtain ⟨hi, hhi⟩ : ∃ hi, hi = (met x1 x2 y1 y2).2.1 := ⟨_, rfl⟩
      obtain ⟨ok, hok⟩ : ∃ ok, ok = (met x1 x2 y1 y2).2.2 := ⟨_, rfl⟩
      rw [← hlo, ← hhi, ← hok] at HM1 HM2
      clear hlo hhi hok
      have BW := HBW.out.trans (hbel.out.mono (by rw [HZ.out]; omega))
      have HBR := Lib.hid BW
      clear BW hbel HBW
      go_wp2_with fail
      refine (HM1.out _).mono ?_
      rintro e w5 ⟨rfl, hb5⟩
      have hs5 : w.heap.size + 3 ≤ w5.heap.size := Nat.le_trans hsz hb5.size
      have f1 := (hb5.cell (p := ⟨w.heap.size, 0, none⟩) (by simp; omega)).trans e1
      have f2 := (hb5.cell (p := ⟨w.heap.size, 1, none⟩) (by simp; omega)).trans e2
      have f3 := (hb5.cell (p := ⟨w.heap.size + 1, 0, none⟩) (by simp; omega)).trans e3
      have f4 := (hb5.cell (p := ⟨w.heap.size + 1, 1, none⟩) (by simp; omega)).trans e4
      have i1 : w.heap.size < w5.heap.size := by omega
      have i2 : w.heap.size + 1 < w5.heap.size := by omega
      have HB5 := Lib.hid (HBR.out.trans (hb5.mono (by omega)))
      clear e1 e2 e3 e4 hb5 HBR
      go_wp2_with fail
      refine (HM2.out _).mono ?_
      rintro e w7 ⟨rfl, hb7⟩
      have g1 : w7.cell? ⟨w.heap.size, 0, none⟩ = some (.int .i64 x1) := (hb7.cell (p := ⟨w.heap.size, 0, none⟩) (by simp; omega)).trans (by rw [World.cell?_alloc_past _ _ _ (by omega)]; exact f1)
      have g2 : w7.cell? ⟨w.heap.size, 1, none⟩ = some (.int .i64 x2) := (hb7.cell (p := ⟨w.heap.size, 1, none⟩) (by simp; omega)).trans (by rw [World.cell?_alloc_past _ _ _ (by omega)]; exact f2)
      have g3 : w7.cell? ⟨w5.heap.size, 0, none⟩ = some (.int .i64 lo) := (hb7.cell (p := ⟨w5.heap.size, 0, none⟩) (by simp)).trans (by simp)
      have g4 : w7.cell? ⟨w5.heap.size, 1, none⟩ = some (.int .i64 hi) := (hb7.cell (p := ⟨w5.heap.size, 1, none⟩) (by simp)).trans (by simp)
      have hs7 : w5.heap.size < w7.heap.size := by have := hb7.size; simp at this; omega
      have HB7 := Lib.hid ((HB5.out.alloc (by omega) _).trans (hb7.mono (by simp; omega)))
      clear f1 f2 f3 f4 hb7 HB5
      go_wp2_with fail
      have HDS : Hid (DS w.heap.size w5.heap.size w7.heap.size x1 x2 lo hi w (w7.alloc (.cells #[.int .i64 lo, .int .i64 hi] 23))) :=
        ⟨by rw [World.cell?_alloc_past _ _ _ (by omega)]; exact g1, by rw [World.cell?_alloc_past _ _ _ (by omega)]; exact g2, by rw [World.cell?_alloc_past _ _ _ (by omega)]; exact g3, by rw [World.cell?_alloc_past _ _ _ (by omega)]; exact g4, by simp, by simp, HB7.out.alloc (by omega) _⟩
      have n1 := md_lo b 60 (by omega)
      have n2 := md_hi b 60 (by omega)
      have HMB := Lib.hid (fun W => mod_any b 60 W hb (by omega) (by omega))
      generalize w7.alloc (Obj.cells #[Value.int .i64 lo, Value.int .i64 hi] 23) = w8 at *
      generalize w5.heap.size = M at *
      generalize w7.heap.size = N at *
      generalize w.heap.size = P at *
      obtain ⟨r1, hr1⟩ : ∃ r, clm a x1 x2 = r := ⟨_, rfl⟩
      obtain ⟨bb, hbb⟩ : ∃ r, md b 60 = r := ⟨_, rfl⟩
      rw [hbb] at HMB n1 n2
      obtain ⟨r2, hr2⟩ : ∃ r, clm bb x1 x2 = r := ⟨_, rfl⟩
      have HR1 := Lib.hid hr1
      have HR2 := Lib.hid hr2
      obtain ⟨d1, d2, d3, d4, d5, d6, d7⟩ := HDS.out
      have HDS2 : Hid (DS P M N x1 x2 lo hi w w8.drew) := ⟨d1, d2, d3, d4, d5, d6, d7.drew⟩
      clear hr1 hr2 hbb g1 g2 g3 g4 hs7 HB7 d7
      clear HA1 HB1 HC1 HD1 HE1 HF1 HA2 HB2 HC2 HD2 HE2 HF2 HA3 HB3 HC3 HD3 HE3 HF3 HM1 HM2
      go_region_held3 (fun W => W.cell? ⟨P, 0, none⟩ = some (.int .i64 x1) ∧ W.cell? ⟨P, 1, none⟩ = some (.int .i64 x2) ∧ W.cell? ⟨M, 0, none⟩ = some (.int .i64 lo) ∧ W.cell? ⟨M, 1, none⟩ = some (.int .i64 hi) ∧ W.cell? ⟨N, 0, none⟩ = some (.int .i64 lo) ∧ W.cell? ⟨N, 1, none⟩ = some (.int .i64 hi) ∧ Below w.heap.size w W) (first | exact HDS2.out | assumption | go_keep)
        (first
          | (go_at_call 18; refine (clampS P M N x1 x2 lo hi _ _ w _ (by first | exact HR1.out | exact HR2.out) (by assumption)).mono ?_; rintro e w' ⟨rfl, hS⟩)
          | (go_at_call 19; refine (rclampS P M N x1 x2 lo hi _ _ w _ (by first | exact HR1.out | exact HR2.out) (by assumption)).mono ?_; rintro e w' ⟨rfl, hS⟩)
          | (go_at_call 9; refine (HMB.out _).mono ?_; rintro e w' ⟨rfl, rfl⟩)
          | (go_at_call 20; refine (awakeS P M N x1 x2 lo hi w _ (by assumption)).mono ?_; rintro e w' ⟨rfl, hS⟩))
      go_wp2
      go_ret
      exact ⟨rfl, hS.2.2.2.2.2.2⟩
end Go.Proofs.Ytndfgbnjidfaaaa.Qu

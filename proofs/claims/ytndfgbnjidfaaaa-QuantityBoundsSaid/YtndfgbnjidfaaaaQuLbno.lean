/-
  The walk of the law QuantityBounds: it returns true for every five integers.
-/
import Derived.Test.YtndfgbnjidfaaaaQuLbnd
import Derived.Test.YtndfgbnjidfaaaaQuStr
import Derived.Test.YtndfgbnjidfaaaaQuRow
namespace Go.Proofs.Ytndfgbnjidfaaaa.Qu
open Go.ChangeShapes Go.WideShapes Go.ChangeAt Go.RowKit
set_option linter.unusedVariables false


set_option maxHeartbeats 8000000 in
theorem lbnd_no (a b c d x : Int) (w : World) (ha : -9223372036854775808 ≤ a ∧ a ≤ 9223372036854775807) (hb : -9223372036854775808 ≤ b ∧ b ≤ 9223372036854775807) (hc : -9223372036854775808 ≤ c ∧ c ≤ 9223372036854775807)
    (hd : -9223372036854775808 ≤ d ∧ d ≤ 9223372036854775807) (hx : -9223372036854775808 ≤ x ∧ x ≤ 9223372036854775807)
    (hY : ¬ (md a 40 ≤ md b 40 ∧ md c 40 ≤ md d 40 ∧ max (md a 40) (md c 40) ≤ min (md b 40) (md d 40))) :
    Calls Try.prog 7 #[.int .i64 a, .int .i64 b, .int .i64 c, .int .i64 d, .int .i64 x] w fun e w' => e = .returned (.bool true) ∧ Below w.heap.size w w' := by
  have HYP := Lib.hid hY
  clear hY
  go_enter Try.func7, Try.ntmps7
  go_wp2_with (go_at_call 9; refine (mod_any _ _ _ (by omega) (by omega) (by omega)).mono ?_; rintro e w' ⟨rfl, rfl⟩)
  have hY := HYP.out
  have a1 := md_lo a 40 (by omega)
  have a2 := md_hi a 40 (by omega)
  have b1 := md_lo b 40 (by omega)
  have b2 := md_hi b 40 (by omega)
  have c1 := md_lo c 40 (by omega)
  have c2 := md_hi c 40 (by omega)
  have d1 := md_lo d 40 (by omega)
  have d2 := md_hi d 40 (by omega)
  have HA := Lib.hid (mod_any a 40)
  clear HYP
  generalize md a 40 = A at *
  generalize md b 40 = B at *
  generalize md c 40 = C at *
  generalize md d 40 = D at *
  clear HA
  have hmet : met A B C D = (0, 0, false) := met_no hY
  have hM : ∀ W, Calls Try.prog 16 #[.agg #[.int .i64 A, .int .i64 B], .agg #[.int .i64 C, .int .i64 D]] W fun e w' => e = .returned (.tuple #[.agg #[.int .i64 0, .int .i64 0], .bool false]) ∧ Below W.heap.size W w' := by
    intro W
    have h := meet_any A B C D W
    unfold MeetP at h
    rw [hmet] at h
    exact h
  have HY := Lib.hid hY
  clear hmet hY
  refine (hM _).mono ?_
  clear hM
  rintro e w1 ⟨rfl, hbel⟩
  have hs : w.heap.size + 2 ≤ w1.heap.size := by have := hbel.size; simp at this; omega
  have p1 : w1.cell? ⟨w.heap.size, 0, none⟩ = some (.int .i64 A) := (hbel.cell (p := ⟨w.heap.size, 0, none⟩) (by simp; omega)).trans (by simp)
  have p2 : w1.cell? ⟨w.heap.size, 1, none⟩ = some (.int .i64 B) := (hbel.cell (p := ⟨w.heap.size, 1, none⟩) (by simp; omega)).trans (by simp)
  have q1 : w1.cell? ⟨w.heap.size + 1, 0, none⟩ = some (.int .i64 C) := (hbel.cell (p := ⟨w.heap.size + 1, 0, none⟩) (by simp)).trans (by simp)
  have q2 : w1.cell? ⟨w.heap.size + 1, 1, none⟩ = some (.int .i64 D) := (hbel.cell (p := ⟨w.heap.size + 1, 1, none⟩) (by simp)).trans (by simp)
  have hbel1 : Below w.heap.size w w1 := (((Below.refl w.heap.size w).alloc (Nat.le_refl _) _).alloc (by simp) _).trans (hbel.mono (by simp; omega))
  have HB := Lib.hid hbel1
  clear hbel hbel1
  go_wp2_with fail
  obtain ⟨w2, hw2⟩ : ∃ w2, w2 = w1.alloc (.cells #[.int .i64 0, .int .i64 0] 23) := ⟨_, rfl⟩
  have p1' : w2.cell? ⟨w.heap.size, 0, none⟩ = some (.int .i64 A) := by rw [hw2, World.cell?_alloc_past _ _ _ (by omega)]; exact p1
  have p2' : w2.cell? ⟨w.heap.size, 1, none⟩ = some (.int .i64 B) := by rw [hw2, World.cell?_alloc_past _ _ _ (by omega)]; exact p2
  have q1' : w2.cell? ⟨w.heap.size + 1, 0, none⟩ = some (.int .i64 C) := by rw [hw2, World.cell?_alloc_past _ _ _ (by omega)]; exact q1
  have q2' : w2.cell? ⟨w.heap.size + 1, 1, none⟩ = some (.int .i64 D) := by rw [hw2, World.cell?_alloc_past _ _ _ (by omega)]; exact q2
  have m1' : w2.cell? ⟨w1.heap.size, 0, none⟩ = some (.int .i64 0) := by rw [hw2]; simp
  have m2' : w2.cell? ⟨w1.heap.size, 1, none⟩ = some (.int .i64 0) := by rw [hw2]; simp
  have HB2 : Hid (Below w.heap.size w w2) := by rw [hw2]; exact HB.out.alloc (by omega) _
  rw [← hw2]
  clear hw2 p1 p2 q1 q2 HB
  generalize w1.heap.size = R at *
  clear w1
  go_loop [15, 16] (fun n v => ∃ k : Nat, k ≤ 40 ∧ v = .int .i64 k ∧ n = .int .i64 (cntB (inBoth A B C D) k : Nat)) (fun _ v => 40 - (intOf v).toNat)
  case atStart => exact ⟨0, by omega, rfl, rfl⟩
  case round =>
    obtain ⟨k, hk, rfl, rfl⟩ := hrel
    have hcl := cntB_le (inBoth A B C D) k
    by_cases hlt : k < 40
    · have HC := Lib.hid (show cntB (inBoth A B C D) (k + 1) = cntB (inBoth A B C D) k + if inBoth A B C D k then 1 else 0 from rfl)
      generalize cntB (inBoth A B C D) k = cn at *
      have hno : ¬ (A ≤ (k : Int) ∧ (k : Int) ≤ B ∧ C ≤ (k : Int) ∧ (k : Int) ≤ D) := by have := HY.out; omega
      by_cases g1 : A ≤ (k : Int)
      · have d1 : decide (A ≤ (k : Int)) = true := by rw [decide_eq_true_eq]; omega
        by_cases g2 : (k : Int) ≤ B
        · have d2 : decide ((k : Int) ≤ B) = true := by rw [decide_eq_true_eq]; omega
          by_cases g3 : C ≤ (k : Int)
          · have d3 : decide (C ≤ (k : Int)) = true := by rw [decide_eq_true_eq]; omega
            have d4 : decide ((k : Int) ≤ D) = false := by rw [decide_eq_false_iff_not]; omega
            have HI := Lib.hid (show inBoth A B C D k = false by unfold inBoth; rw [decide_eq_false_iff_not]; omega)
            go_wp2
            go_round
            case rel => exact ⟨k + 1, by omega, by go_num, by rw [HC.out, HI.out]; go_num⟩
            case measure => simp [intOf]; omega
          · have d3 : decide (C ≤ (k : Int)) = false := by rw [decide_eq_false_iff_not]; omega
            have HI := Lib.hid (show inBoth A B C D k = false by unfold inBoth; rw [decide_eq_false_iff_not]; omega)
            go_wp2
            go_round
            case rel => exact ⟨k + 1, by omega, by go_num, by rw [HC.out, HI.out]; go_num⟩
            case measure => simp [intOf]; omega
        · have d2 : decide ((k : Int) ≤ B) = false := by rw [decide_eq_false_iff_not]; omega
          have HI := Lib.hid (show inBoth A B C D k = false by unfold inBoth; rw [decide_eq_false_iff_not]; omega)
          go_wp2
          go_round
          case rel => exact ⟨k + 1, by omega, by go_num, by rw [HC.out, HI.out]; go_num⟩
          case measure => simp [intOf]; omega
      · have d1 : decide (A ≤ (k : Int)) = false := by rw [decide_eq_false_iff_not]; omega
        have HI := Lib.hid (show inBoth A B C D k = false by unfold inBoth; rw [decide_eq_false_iff_not]; omega)
        go_wp2
        go_round
        case rel => exact ⟨k + 1, by omega, by go_num, by rw [HC.out, HI.out]; go_num⟩
        case measure => simp [intOf]; omega
    · obtain rfl : k = 40 := by omega
      have hpos : cntB (inBoth A B C D) 40 = 0 := by
        refine cntB_none _ 40 fun k _ => ?_
        have h := HY.out
        unfold inBoth
        rw [decide_eq_false_iff_not]
        omega
      generalize cntB (inBoth A B C D) 40 = cn at *
      have x1 := md_lo x 60 (by omega)
      have x2 := md_hi x 60 (by omega)
      have HMX := Lib.hid (fun W => mod_any x 60 W hx (by omega) (by omega))
      clear hx hk hlt hcl
      generalize md x 60 = X at *
      subst hpos
      go_wp2_with fail
      refine wp_region_still_tail 4 (by kernel_rfl) (by kernel_rfl) ?_
      change wpStill _ _ w2.drew (fun a' => wpList _ _ _ _ a' w2.drew) _ _
      have p1'' : w2.drew.cell? ⟨w.heap.size, 0, none⟩ = some (.int .i64 A) := p1'
      have p2'' : w2.drew.cell? ⟨w.heap.size, 1, none⟩ = some (.int .i64 B) := p2'
      have HB3 : Hid (Below w.heap.size w w2.drew) := HB2.out.drew
      clear p1' p2' q1' q2' m1' m2' HB2
      generalize w2.drew = w3 at *
      simp only [List.take_succ_cons, List.take_zero, List.drop_succ_cons, List.drop_zero]
      repeat still_step
      still_call (HMX.out _).mono fun e w' ⟨h1, h2⟩ => ⟨h1, h2.symm⟩
      repeat still_step
      refine wpStill_nil ?_
      have hsz := World.block_lt_of_cell? _ _ p1''
      have hy := clm_bd (X - 10) A B (by omega) (by omega)
      have hin := clm_in (X - 10) A B
      have HNR := Lib.hid (fun v h1 h2 => clm_near (X - 10) A B v h1 h2)
      have HCL := Lib.hid (fun W => clamp_any (X - 10) A B W)
      generalize clm (X - 10) A B = y at *
      go_wp2_with (go_at_call 18; refine (HCL.out _).mono ?_; rintro e w4 ⟨rfl, hb4⟩; have p1 := (hb4.cell (p := ⟨w.heap.size, 0, none⟩) hsz).trans p1''; have p2 := (hb4.cell (p := ⟨w.heap.size, 1, none⟩) hsz).trans p2'')
      have HB4 := Lib.hid (HB3.out.trans (hb4.mono HB3.out.size))
      clear hb4 p1'' p2'' HB3 HCL
      go_loop [19] (fun v => ∃ V : Int, A ≤ V ∧ V ≤ 40 ∧ v = .int .i64 V) (fun v => (41 - intOf v).toNat)
      case atStart => exact ⟨A, by omega, by omega, rfl⟩
      case round =>
        obtain ⟨V, hV1, hV2, rfl⟩ := hrel
        by_cases hVB : V ≤ B
        · have hn := HNR.out V hV1 hVB
          go_wp2_with (first | (go_at_call 9; refine (HMX.out _).mono ?_; rintro e w' ⟨rfl, rfl⟩) | (go_at_call 24; refine (away_any _ _ _ (by omega) (by omega)).mono ?_; rintro e w' ⟨rfl, rfl⟩))
          go_round
          case rel => exact ⟨V + 1, by omega, by omega, rfl⟩
          case measure => simp [intOf]; omega
        · by_cases hAB : A ≤ B
          · have hin' := hin hAB
            have d2 : decide (B < A) = false := by rw [decide_eq_false_iff_not]; omega
            have d3 : decide (A ≤ y) = true := by rw [decide_eq_true_eq]; omega
            have d4 : decide (y ≤ B) = true := by rw [decide_eq_true_eq]; omega
            clear hin
            go_wp2_with (go_at_call 20; refine (awake_any _).mono ?_; rintro e w' ⟨rfl, hb2⟩)
            go_ret
            exact ⟨rfl, HB4.out.trans (hb2.mono HB4.out.size)⟩
          · have d2 : decide (B < A) = true := by rw [decide_eq_true_eq]; omega
            clear hin
            go_wp2_with (go_at_call 20; refine (awake_any _).mono ?_; rintro e w' ⟨rfl, hb2⟩)
            go_ret
            exact ⟨rfl, HB4.out.trans (hb2.mono HB4.out.size)⟩

theorem lbnd_walk (a b c d x : Int) (w : World) (ha : -9223372036854775808 ≤ a ∧ a ≤ 9223372036854775807) (hb : -9223372036854775808 ≤ b ∧ b ≤ 9223372036854775807) (hc : -9223372036854775808 ≤ c ∧ c ≤ 9223372036854775807)
    (hd : -9223372036854775808 ≤ d ∧ d ≤ 9223372036854775807) (hx : -9223372036854775808 ≤ x ∧ x ≤ 9223372036854775807) :
    Calls Try.prog 7 #[.int .i64 a, .int .i64 b, .int .i64 c, .int .i64 d, .int .i64 x] w fun e w' => e = .returned (.bool true) ∧ Below w.heap.size w w' := by
  by_cases hY : md a 40 ≤ md b 40 ∧ md c 40 ≤ md d 40 ∧ max (md a 40) (md c 40) ≤ min (md b 40) (md d 40)
  · exact lbnd_yes a b c d x w ha hb hc hd hx hY
  · exact lbnd_no a b c d x w ha hb hc hd hx hY
end Go.Proofs.Ytndfgbnjidfaaaa.Qu

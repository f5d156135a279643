/-
  The walk of the law QuantityBounds: it returns true for every five integers.
-/
import Derived.Test.YtndfgbnjidfaaaaQuAwk
import Derived.Test.YtndfgbnjidfaaaaQuStr
import Derived.Test.YtndfgbnjidfaaaaQuRow
namespace Go.Proofs.Ytndfgbnjidfaaaa.Qu
open Go.ChangeShapes Go.WideShapes Go.ChangeAt Go.RowKit
set_option linter.unusedVariables false

def awy (a b : Int) : Int := max (a - b) (b - a)
theorem away_any (a b : Int) (w : World) (ha : -1000 ≤ a ∧ a ≤ 1000) (hb : -1000 ≤ b ∧ b ≤ 1000) :
    Calls Try.prog 24 #[.int .i64 a, .int .i64 b] w fun e w' => e = .returned (.int .i64 (awy a b)) ∧ w = w' := by
  unfold awy
  by_cases h : a - b < b - a
  · go_enter Try.func24, Try.ntmps24
    go_wp2
    go_ret
    exact ⟨ret_int (by omega), rfl⟩
  · go_enter Try.func24, Try.ntmps24
    go_wp2
    go_ret
    exact ⟨ret_int (by omega), rfl⟩

def cntB (f : Nat → Bool) : Nat → Nat
  | 0 => 0
  | k + 1 => cntB f k + if f k then 1 else 0
theorem cntB_le (f : Nat → Bool) : ∀ n, cntB f n ≤ n
  | 0 => Nat.le_refl _
  | n + 1 => by have := cntB_le f n; unfold cntB; split <;> omega
theorem cntB_none (f : Nat → Bool) : ∀ n, (∀ k, k < n → f k = false) → cntB f n = 0
  | 0, _ => rfl
  | n + 1, h => by unfold cntB; rw [cntB_none f n (fun k hk => h k (by omega)), h n (by omega)]; rfl
theorem cntB_some (f : Nat → Bool) (k : Nat) (hf : f k = true) : ∀ n, k < n → 0 < cntB f n
  | 0, h => absurd h (Nat.not_lt_zero _)
  | n + 1, h => by
    unfold cntB
    by_cases e : k = n
    · subst e; rw [hf]; simp
    · have := cntB_some f k hf n (by omega); omega

/-- v lies within both bounds. -/
def inBoth (A B C D : Int) (v : Nat) : Bool := decide (A ≤ v ∧ v ≤ B ∧ C ≤ v ∧ (v : Int) ≤ D)
theorem clm_near (x A B v : Int) (h1 : A ≤ v) (h2 : v ≤ B) : ¬ awy v x < awy (clm x A B) x := by unfold awy clm; omega
theorem clm_in (x A B : Int) (h : A ≤ B) : A ≤ clm x A B ∧ clm x A B ≤ B := by unfold clm; omega
theorem clm_bd (x A B : Int) (hA : 0 ≤ A ∧ A ≤ 39) (hB : 0 ≤ B ∧ B ≤ 39) : 0 ≤ clm x A B ∧ clm x A B ≤ 39 := by unfold clm; omega

set_option maxHeartbeats 8000000 in
theorem lbnd_yes (a b c d x : Int) (w : World) (ha : -9223372036854775808 ≤ a ∧ a ≤ 9223372036854775807) (hb : -9223372036854775808 ≤ b ∧ b ≤ 9223372036854775807) (hc : -9223372036854775808 ≤ c ∧ c ≤ 9223372036854775807)
    (hd : -9223372036854775808 ≤ d ∧ d ≤ 9223372036854775807) (hx : -9223372036854775808 ≤ x ∧ x ≤ 9223372036854775807)
    (hY : md a 40 ≤ md b 40 ∧ md c 40 ≤ md d 40 ∧ max (md a 40) (md c 40) ≤ min (md b 40) (md d 40)) :
    Calls Try.prog 7 #[.int .i64 a, .int .i64 b, .int .i64 c, .int .i64 d, .int .i64 x] w fun e w' => e = .returned (.bool true) ∧ Below w.heap.size w w' := by
  have HYP := Lib.hid hY
  clear hY
  go_enter Try.func7, Try.ntmps7
  go_wp2_with (go_at_call 9; refine (mod_any _ _ _ (by omega) (by omega) (by omega)).mono ?_; rintro e w' ⟨rfl, rfl⟩)
  have hY := HYP.out
  have a1 := md_lo a 40 (by omega)
  have a2 := md_hi a 40 (by omega)
  have b1 := md_lo b 40 (by omega)
  have b2 := md_hi b 40 (by omega)
  have c1 := md_lo c 40 (by omega)
  have c2 := md_hi c 40 (by omega)
  have d1 := md_lo d 40 (by omega)
  have d2 := md_hi d 40 (by omega)
  have HA := Lib.hid (mod_any a 40)
  clear HYP
  generalize md a 40 = A at *
  generalize md b 40 = B at *
  generalize md c 40 = C at *
  generalize md d 40 = D at *
  clear HA
  obtain ⟨lo, hlo⟩ : ∃ lo, max A C = lo := ⟨_, rfl⟩
  obtain ⟨hi, hhi⟩ : ∃ hi, min B D = hi := ⟨_, rfl⟩
  have hmet : met A B C D = (lo, hi, true) := met_yes ⟨hY.1, hY.2.1⟩ hlo hhi (by omega)
  have l1 : A ≤ lo := by omega
  have l2 : C ≤ lo := by omega
  have l3 : hi ≤ B := by omega
  have l4 : hi ≤ D := by omega
  have l5 : lo ≤ hi := by omega
  have HL := Lib.hid (show ∀ k : Int, A ≤ k → C ≤ k → lo ≤ k from fun k h1 h2 => by omega)
  have HH := Lib.hid (show ∀ k : Int, k ≤ B → k ≤ D → k ≤ hi from fun k h1 h2 => by omega)
  clear hlo hhi
  have hM : ∀ W, Calls Try.prog 16 #[.agg #[.int .i64 A, .int .i64 B], .agg #[.int .i64 C, .int .i64 D]] W fun e w' => e = .returned (.tuple #[.agg #[.int .i64 lo, .int .i64 hi], .bool true]) ∧ Below W.heap.size W w' := by
    intro W
    have h := meet_any A B C D W
    unfold MeetP at h
    rw [hmet] at h
    exact h
  have HY := Lib.hid hY
  clear hmet hY
  refine (hM _).mono ?_
  clear hM
  rintro e w1 ⟨rfl, hbel⟩
  have hs : w.heap.size + 2 ≤ w1.heap.size := by have := hbel.size; simp at this; omega
  have p1 : w1.cell? ⟨w.heap.size, 0, none⟩ = some (.int .i64 A) := (hbel.cell (p := ⟨w.heap.size, 0, none⟩) (by simp; omega)).trans (by simp)
  have p2 : w1.cell? ⟨w.heap.size, 1, none⟩ = some (.int .i64 B) := (hbel.cell (p := ⟨w.heap.size, 1, none⟩) (by simp; omega)).trans (by simp)
  have q1 : w1.cell? ⟨w.heap.size + 1, 0, none⟩ = some (.int .i64 C) := (hbel.cell (p := ⟨w.heap.size + 1, 0, none⟩) (by simp)).trans (by simp)
  have q2 : w1.cell? ⟨w.heap.size + 1, 1, none⟩ = some (.int .i64 D) := (hbel.cell (p := ⟨w.heap.size + 1, 1, none⟩) (by simp)).trans (by simp)
  have hbel1 : Below w.heap.size w w1 := (((Below.refl w.heap.size w).alloc (Nat.le_refl _) _).alloc (by simp) _).trans (hbel.mono (by simp; omega))
  have HB := Lib.hid hbel1
  clear hbel hbel1
  go_wp2_with fail
  obtain ⟨w2, hw2⟩ : ∃ w2, w2 = w1.alloc (.cells #[.int .i64 lo, .int .i64 hi] 23) := ⟨_, rfl⟩
  have p1' : w2.cell? ⟨w.heap.size, 0, none⟩ = some (.int .i64 A) := by rw [hw2, World.cell?_alloc_past _ _ _ (by omega)]; exact p1
  have p2' : w2.cell? ⟨w.heap.size, 1, none⟩ = some (.int .i64 B) := by rw [hw2, World.cell?_alloc_past _ _ _ (by omega)]; exact p2
  have q1' : w2.cell? ⟨w.heap.size + 1, 0, none⟩ = some (.int .i64 C) := by rw [hw2, World.cell?_alloc_past _ _ _ (by omega)]; exact q1
  have q2' : w2.cell? ⟨w.heap.size + 1, 1, none⟩ = some (.int .i64 D) := by rw [hw2, World.cell?_alloc_past _ _ _ (by omega)]; exact q2
  have m1' : w2.cell? ⟨w1.heap.size, 0, none⟩ = some (.int .i64 lo) := by rw [hw2]; simp
  have m2' : w2.cell? ⟨w1.heap.size, 1, none⟩ = some (.int .i64 hi) := by rw [hw2]; simp
  have HB2 : Hid (Below w.heap.size w w2) := by rw [hw2]; exact HB.out.alloc (by omega) _
  rw [← hw2]
  clear hw2 p1 p2 q1 q2 HB
  generalize w1.heap.size = R at *
  clear w1
  go_loop [15, 16] (fun n v => ∃ k : Nat, k ≤ 40 ∧ v = .int .i64 k ∧ n = .int .i64 (cntB (inBoth A B C D) k : Nat)) (fun _ v => 40 - (intOf v).toNat)
  case atStart => exact ⟨0, by omega, rfl, rfl⟩
  case round =>
    obtain ⟨k, hk, rfl, rfl⟩ := hrel
    have hcl := cntB_le (inBoth A B C D) k
    by_cases hlt : k < 40
    · have HC := Lib.hid (show cntB (inBoth A B C D) (k + 1) = cntB (inBoth A B C D) k + if inBoth A B C D k then 1 else 0 from rfl)
      generalize cntB (inBoth A B C D) k = cn at *
      by_cases g1 : A ≤ (k : Int)
      · have d1 : decide (A ≤ (k : Int)) = true := by rw [decide_eq_true_eq]; omega
        by_cases g2 : (k : Int) ≤ B
        · have d2 : decide ((k : Int) ≤ B) = true := by rw [decide_eq_true_eq]; omega
          by_cases g3 : C ≤ (k : Int)
          · have d3 : decide (C ≤ (k : Int)) = true := by rw [decide_eq_true_eq]; omega
            have g5 := HL.out k g1 g3
            have d5 : decide (lo ≤ (k : Int)) = true := by rw [decide_eq_true_eq]; omega
            by_cases g4 : (k : Int) ≤ D
            · have g6 := HH.out k g2 g4
              have d4 : decide ((k : Int) ≤ D) = true := by rw [decide_eq_true_eq]; omega
              have d6 : decide ((k : Int) ≤ hi) = true := by rw [decide_eq_true_eq]; omega
              have HI := Lib.hid (show inBoth A B C D k = true by unfold inBoth; rw [decide_eq_true_eq]; omega)
              go_wp2
              go_round
              case rel => exact ⟨k + 1, by omega, by go_num, by rw [HC.out, HI.out]; go_num⟩
              case measure => simp [intOf]; omega
            · have g6 : hi < (k : Int) := by omega
              have d4 : decide ((k : Int) ≤ D) = false := by rw [decide_eq_false_iff_not]; omega
              have d6 : decide ((k : Int) ≤ hi) = false := by rw [decide_eq_false_iff_not]; omega
              have HI := Lib.hid (show inBoth A B C D k = false by unfold inBoth; rw [decide_eq_false_iff_not]; omega)
              go_wp2
              go_round
              case rel => exact ⟨k + 1, by omega, by go_num, by rw [HC.out, HI.out]; go_num⟩
              case measure => simp [intOf]; omega
          · have g5 : (k : Int) < lo := by omega
            have d3 : decide (C ≤ (k : Int)) = false := by rw [decide_eq_false_iff_not]; omega
            have d5 : decide (lo ≤ (k : Int)) = false := by rw [decide_eq_false_iff_not]; omega
            have HI := Lib.hid (show inBoth A B C D k = false by unfold inBoth; rw [decide_eq_false_iff_not]; omega)
            go_wp2
            go_round
            case rel => exact ⟨k + 1, by omega, by go_num, by rw [HC.out, HI.out]; go_num⟩
            case measure => simp [intOf]; omega
        · have d2 : decide ((k : Int) ≤ B) = false := by rw [decide_eq_false_iff_not]; omega
          have g6 : hi < (k : Int) := by omega
          have d6 : decide ((k : Int) ≤ hi) = false := by rw [decide_eq_false_iff_not]; omega
          have g5 : lo ≤ (k : Int) := by omega
          have d5 : decide (lo ≤ (k : Int)) = true := by rw [decide_eq_true_eq]; omega
          have HI := Lib.hid (show inBoth A B C D k = false by unfold inBoth; rw [decide_eq_false_iff_not]; omega)
          go_wp2
          go_round
          case rel => exact ⟨k + 1, by omega, by go_num, by rw [HC.out, HI.out]; go_num⟩
          case measure => simp [intOf]; omega
      · have d1 : decide (A ≤ (k : Int)) = false := by rw [decide_eq_false_iff_not]; omega
        have g5 : (k : Int) < lo := by omega
        have d5 : decide (lo ≤ (k : Int)) = false := by rw [decide_eq_false_iff_not]; omega
        have HI := Lib.hid (show inBoth A B C D k = false by unfold inBoth; rw [decide_eq_false_iff_not]; omega)
        go_wp2
        go_round
        case rel => exact ⟨k + 1, by omega, by go_num, by rw [HC.out, HI.out]; go_num⟩
        case measure => simp [intOf]; omega
    · obtain rfl : k = 40 := by omega
      have hpos : 0 < cntB (inBoth A B C D) 40 := by
        have h1 := HL.out
        refine cntB_some _ lo.toNat ?_ 40 (by omega)
        have h := HY.out
        unfold inBoth
        rw [decide_eq_true_eq]
        omega
      generalize cntB (inBoth A B C D) 40 = cn at *
      have x1 := md_lo x 60 (by omega)
      have x2 := md_hi x 60 (by omega)
      have HMX := Lib.hid (fun W => mod_any x 60 W hx (by omega) (by omega))
      clear hx hk hlt hcl
      generalize md x 60 = X at *
      go_wp2_with fail
      refine wp_region_still_tail 4 (by kernel_rfl) (by kernel_rfl) ?_
      change wpStill _ _ w2.drew (fun a' => wpList _ _ _ _ a' w2.drew) _ _
      have p1'' : w2.drew.cell? ⟨w.heap.size, 0, none⟩ = some (.int .i64 A) := p1'
      have p2'' : w2.drew.cell? ⟨w.heap.size, 1, none⟩ = some (.int .i64 B) := p2'
      have HB3 : Hid (Below w.heap.size w w2.drew) := HB2.out.drew
      clear p1' p2' q1' q2' m1' m2' HB2
      generalize w2.drew = w3 at *
      simp only [List.take_succ_cons, List.take_zero, List.drop_succ_cons, List.drop_zero]
      repeat still_step
      still_call (HMX.out _).mono fun e w' ⟨h1, h2⟩ => ⟨h1, h2.symm⟩
      repeat still_step
      refine wpStill_nil ?_
      have hsz := World.block_lt_of_cell? _ _ p1''
      have hy := clm_bd (X - 10) A B (by omega) (by omega)
      have hin := clm_in (X - 10) A B
      have HNR := Lib.hid (fun v h1 h2 => clm_near (X - 10) A B v h1 h2)
      have HCL := Lib.hid (fun W => clamp_any (X - 10) A B W)
      generalize clm (X - 10) A B = y at *
      go_wp2_with (go_at_call 18; refine (HCL.out _).mono ?_; rintro e w4 ⟨rfl, hb4⟩; have p1 := (hb4.cell (p := ⟨w.heap.size, 0, none⟩) hsz).trans p1''; have p2 := (hb4.cell (p := ⟨w.heap.size, 1, none⟩) hsz).trans p2'')
      have HB4 := Lib.hid (HB3.out.trans (hb4.mono HB3.out.size))
      clear hb4 p1'' p2'' HB3 HCL
      go_loop [19] (fun v => ∃ V : Int, A ≤ V ∧ V ≤ 40 ∧ v = .int .i64 V) (fun v => (41 - intOf v).toNat)
      case atStart => exact ⟨A, by omega, by omega, rfl⟩
      case round =>
        obtain ⟨V, hV1, hV2, rfl⟩ := hrel
        by_cases hVB : V ≤ B
        · have hn := HNR.out V hV1 hVB
          go_wp2_with (first | (go_at_call 9; refine (HMX.out _).mono ?_; rintro e w' ⟨rfl, rfl⟩) | (go_at_call 24; refine (away_any _ _ _ (by omega) (by omega)).mono ?_; rintro e w' ⟨rfl, rfl⟩))
          go_round
          case rel => exact ⟨V + 1, by omega, by omega, rfl⟩
          case measure => simp [intOf]; omega
        · have hAB : A ≤ B := by have h := HY.out; omega
          have hin' := hin hAB
          have d1 : decide (0 < (cn : Int)) = true := by rw [decide_eq_true_eq]; omega
          have d2 : decide (B < A) = false := by rw [decide_eq_false_iff_not]; omega
          have d3 : decide (A ≤ y) = true := by rw [decide_eq_true_eq]; omega
          have d4 : decide (y ≤ B) = true := by rw [decide_eq_true_eq]; omega
          clear hin
          go_wp2_with (go_at_call 20; refine (awake_any _).mono ?_; rintro e w' ⟨rfl, hb2⟩)
          go_ret
          exact ⟨rfl, HB4.out.trans (hb2.mono HB4.out.size)⟩
end Go.Proofs.Ytndfgbnjidfaaaa.Qu

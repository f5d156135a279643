/-
  Contracts of the small functions of days and steps (package calendar, its reference, Mod): what each returns; none of them changes the world.
-/
import Derived.Test.YtpdbomajhfkaeaaRows
import Derived.WalkKit
import Derived.ProofKit
import Derived.OpenShut
import Derived.Deep.QuietTactic
import Derived.BigQuiet
import Derived.Below
import Derived.Lib.Hide
namespace Go.Proofs.Ytpdbomajhfkaeaa.Ca
open Go.ChangeShapes Go.WideShapes Go.ChangeAt Go.RowKit
set_option linter.unusedVariables false

theorem ret_int {k : IntKind} {a b : Int} (h : a = b) : Ending.returned (.int k a) = .returned (.int k b) := by rw [h]
theorem Below.drewN {B : Nat} {a w : World} (h : Below B a w) (q : Nat) : Below B a (w.drewN q) := ⟨h.os, h.tape, h.output, h.size, h.block⟩

def md (n k : Int) : Int := n % k
theorem md_lo (n k : Int) (hk : 0 < k) : 0 ≤ md n k := Int.emod_nonneg _ (by omega)
theorem md_hi (n k : Int) (hk : 0 < k) : md n k < k := Int.emod_lt_of_pos _ hk

theorem tmod_add_emod (n k : Int) : (n.tmod k + k) % k = md n k := by
  unfold md
  rw [Int.add_emod_right, Int.tmod_def, Int.sub_mul_emod_self_left]

set_option maxHeartbeats 400000 in
theorem mod_any (n k : Int) (w : World) (hn : -9223372036854775808 ≤ n ∧ n ≤ 9223372036854775807) (hk : 1 ≤ k) (hk2 : k ≤ 4611686018427387904) :
    Calls Try.prog 8 #[.int .i64 n, .int .i64 k] w fun e w' => e = .returned (.int .i64 (md n k)) ∧ w = w' := by
  have h1 : -k < n.tmod k := Int.lt_tmod_of_pos n (by omega)
  have h2 : n.tmod k < k := Int.tmod_lt_of_pos n (by omega)
  have h3 : (k == 0) = false := by simp; omega
  go_enter Try.func8, Try.ntmps8
  go_wp2
  go_ret
  exact ⟨ret_int (tmod_add_emod n k), rfl⟩

/-- x is from 0 to most. -/
def inB (x most : Int) : Bool := decide (0 ≤ x ∧ x ≤ most)
theorem inB_yes {x most : Int} (h : 0 ≤ x ∧ x ≤ most) : inB x most = true := by simp [inB, h]
theorem inB_no {x most : Int} (h : ¬ (0 ≤ x ∧ x ≤ most)) : inB x most = false := by simp [inB, h]
/-- n is from a to b. -/
def btw (a n b : Int) : Bool := decide (a ≤ n ∧ n ≤ b)

theorem in_any (x most : Int) (w : World) :
    Calls Try.prog 32 #[.int .i64 x, .int .i64 most] w fun e w' => e = .returned (.bool (inB x most)) ∧ w = w' := by
  by_cases h1 : 0 ≤ x <;> by_cases h2 : x ≤ most
  all_goals
    go_enter Try.func32, Try.ntmps32
    go_wp2
    go_ret
    exact ⟨by simp [inB]; omega, rfl⟩

theorem rin_any (x most : Int) (w : World) :
    Calls Try.prog 28 #[.int .i64 x, .int .i64 most] w fun e w' => e = .returned (.bool (inB x most)) ∧ w = w' := by
  go_enter Try.func28, Try.ntmps28
  go_wp2_with (go_at_call 32; refine (in_any _ _ _).mono ?_; rintro e w' ⟨rfl, rfl⟩)
  go_ret
  exact ⟨rfl, rfl⟩

theorem bt_any (a n b : Int) (w : World) :
    Calls Try.prog 27 #[.int .i64 a, .int .i64 n, .int .i64 b] w fun e w' => e = .returned (.bool (btw a n b)) ∧ w = w' := by
  by_cases h1 : a ≤ n <;> by_cases h2 : n ≤ b
  all_goals
    go_enter Try.func27, Try.ntmps27
    go_wp2
    go_ret
    exact ⟨by simp [btw]; omega, rfl⟩
theorem bt0_any (n b : Int) (w : World) :
    Calls Try.prog 27 #[.int .i64 0, .int .i64 n, .int .i64 b] w fun e w' => e = .returned (.bool (inB n b)) ∧ w = w' := bt_any 0 n b w

/-- d is a day of the year. -/
def dayB (d : Int) : Bool := inB d 364
theorem isday_any (d : Int) (w : World) :
    Calls Try.prog 29 #[.int .i64 d] w fun e w' => e = .returned (.bool (dayB d)) ∧ w = w' := by
  go_enter Try.func29, Try.ntmps29
  go_wp2_with (go_at_call 27; refine (bt0_any _ _ _).mono ?_; rintro e w' ⟨rfl, rfl⟩)
  go_ret
  exact ⟨rfl, rfl⟩
theorem risday_any (d : Int) (w : World) :
    Calls Try.prog 30 #[.int .i64 d] w fun e w' => e = .returned (.bool (dayB d)) ∧ w = w' := by
  go_enter Try.func30, Try.ntmps30
  go_wp2_with (go_at_call 28; refine (rin_any _ _ _).mono ?_; rintro e w' ⟨rfl, rfl⟩)
  go_ret
  exact ⟨rfl, rfl⟩

def Two (a b : Int) (w : World) (e : Ending) (w' : World) : Prop := e = .returned (.tuple #[.int .i64 a, .int .i64 b]) ∧ w = w'
def Four (a b c d : Int) (w : World) (e : Ending) (w' : World) : Prop := e = .returned (.tuple #[.int .i64 a, .int .i64 b, .int .i64 c, .int .i64 d]) ∧ w = w'

/-- P4.1: a step is one from 0 to 2^24; its year, its day, its number within the day, and the error. -/
def okT (t : Int) : Bool := inB t 16777216
def yrT (t : Int) : Int := if okT t then t / 96 / 365 else 0
def dyT (t : Int) : Int := if okT t then t / 96 % 365 else 0
def nrT (t : Int) : Int := if okT t then t % 96 else 0
def erT (t : Int) : Int := if okT t then 0 else 6

theorem results_tmp4 {fn : Func} {t u v x : Tmp} (h : fn.results = #[.tmp t, .tmp u, .tmp v, .tmp x]) (tmps : Array Value) (P : Program) (w : World) :
    (results fn tmps).run P w = .ok (.tuple #[tmps.getD t undef, tmps.getD u undef, tmps.getD v undef, tmps.getD x undef]) w := by
  simp [results, h]

set_option maxHeartbeats 400000 in
theorem of_any (t : Int) (w : World) : Calls Try.prog 11 #[.int .i64 t] w (Four (yrT t) (dyT t) (nrT t) (erT t) w) := by
  unfold yrT dyT nrT erT okT
  by_cases h : 0 ≤ t ∧ t ≤ 16777216
  · have g := inB_yes h
    rw [if_pos g, if_pos g, if_pos g, if_pos g]
    have h1 := h.1
    have h2 := h.2
    clear h
    go_enter Try.func11, Try.ntmps11
    go_wp2_with (go_at_call 27; refine (bt0_any _ _ _).mono ?_; rintro e w' ⟨rfl, rfl⟩)
    refine bodyPost_ret (results_tmp4 rfl _ _ _) rfl ?_
    exact ⟨rfl, rfl⟩
  · have g := inB_no h
    rw [if_neg (by rw [g]; simp), if_neg (by rw [g]; simp), if_neg (by rw [g]; simp), if_neg (by rw [g]; simp)]
    clear h
    go_enter Try.func11, Try.ntmps11
    go_wp2_with (go_at_call 27; refine (bt0_any _ _ _).mono ?_; rintro e w' ⟨rfl, rfl⟩)
    refine bodyPost_ret (results_tmp4 rfl _ _ _) rfl ?_
    exact ⟨rfl, rfl⟩

set_option maxHeartbeats 400000 in
theorem rof_any (t : Int) (w : World) : Calls Try.prog 12 #[.int .i64 t] w (Four (yrT t) (dyT t) (nrT t) (erT t) w) := by
  unfold yrT dyT nrT erT okT
  by_cases h : 0 ≤ t ∧ t ≤ 16777216
  · have g := inB_yes h
    rw [if_pos g, if_pos g, if_pos g, if_pos g]
    have h1 := h.1
    have h2 := h.2
    clear h
    go_enter Try.func12, Try.ntmps12
    go_wp2_with (go_at_call 28; refine (rin_any _ _ _).mono ?_; rintro e w' ⟨rfl, rfl⟩)
    refine bodyPost_ret (results_tmp4 rfl _ _ _) rfl ?_
    exact ⟨rfl, rfl⟩
  · have g := inB_no h
    rw [if_neg (by rw [g]; simp), if_neg (by rw [g]; simp), if_neg (by rw [g]; simp), if_neg (by rw [g]; simp)]
    clear h
    go_enter Try.func12, Try.ntmps12
    go_wp2_with (go_at_call 28; refine (rin_any _ _ _).mono ?_; rintro e w' ⟨rfl, rfl⟩)
    refine bodyPost_ret (results_tmp4 rfl _ _ _) rfl ?_
    exact ⟨rfl, rfl⟩

theorem day_any (t : Int) (w : World) : Calls Try.prog 9 #[.int .i64 t] w (Two (dyT t) (erT t) w) := by
  have H := Lib.hid (of_any t w)
  generalize yrT t = a at *
  generalize dyT t = b at *
  generalize nrT t = c at *
  generalize erT t = d at *
  go_enter Try.func9, Try.ntmps9
  go_wp2_with (go_at_call 11; refine H.out.mono ?_; rintro e w' ⟨rfl, rfl⟩)
  go_ret2
  exact ⟨rfl, rfl⟩

theorem rday_any (t : Int) (w : World) : Calls Try.prog 10 #[.int .i64 t] w (Two (dyT t) (erT t) w) := by
  have H := Lib.hid (rof_any t w)
  generalize yrT t = a at *
  generalize dyT t = b at *
  generalize nrT t = c at *
  generalize erT t = d at *
  go_enter Try.func10, Try.ntmps10
  go_wp2_with (go_at_call 12; refine H.out.mono ?_; rintro e w' ⟨rfl, rfl⟩)
  go_ret2
  exact ⟨rfl, rfl⟩

/-- P4.1: the step of a year, a day and a number, and the error. -/
def okD (y d s : Int) : Bool := inB y 16777216 && dayB d && inB s 95
def stp (y d s : Int) : Int := (y * 365 + d) * 96 + s
def tmV (y d s : Int) : Int := if okD y d s then (if stp y d s ≤ 16777216 then stp y d s else 0) else 0
def tmE (y d s : Int) : Int := if okD y d s then (if stp y d s ≤ 16777216 then 0 else 6) else 1

set_option maxHeartbeats 800000 in
theorem time_any (y d s : Int) (w : World) : Calls Try.prog 13 #[.int .i64 y, .int .i64 d, .int .i64 s] w (Two (tmV y d s) (tmE y d s) w) := by
  unfold tmV tmE
  by_cases h1 : 0 ≤ y ∧ y ≤ 16777216
  · have g1 := inB_yes h1
    by_cases h2 : 0 ≤ d ∧ d ≤ 364
    · have g2 : dayB d = true := inB_yes h2
      by_cases h3 : 0 ≤ s ∧ s ≤ 95
      · have g3 := inB_yes h3
        have g : okD y d s = true := by unfold okD; rw [g1, g2, g3]; rfl
        rw [if_pos g, if_pos g]
        clear g
        obtain ⟨a1, a2⟩ := h1
        obtain ⟨a3, a4⟩ := h2
        obtain ⟨a5, a6⟩ := h3
        unfold stp
        by_cases h4 : (y * 365 + d) * 96 + s ≤ 16777216
        · rw [if_pos h4, if_pos h4]
          have e4 : decide (16777216 < (y * 365 + d) * 96 + s) = false := by rw [decide_eq_false_iff_not]; omega
          go_enter Try.func13, Try.ntmps13
          go_wp2_with (first | (go_at_call 27; refine (bt0_any _ _ _).mono ?_; rintro e w' ⟨rfl, rfl⟩) | (go_at_call 29; refine (isday_any _ _).mono ?_; rintro e w' ⟨rfl, rfl⟩))
          go_ret2
          exact ⟨rfl, rfl⟩
        · rw [if_neg h4, if_neg h4]
          have e4 : decide (16777216 < (y * 365 + d) * 96 + s) = true := by rw [decide_eq_true_eq]; omega
          go_enter Try.func13, Try.ntmps13
          go_wp2_with (first | (go_at_call 27; refine (bt0_any _ _ _).mono ?_; rintro e w' ⟨rfl, rfl⟩) | (go_at_call 29; refine (isday_any _ _).mono ?_; rintro e w' ⟨rfl, rfl⟩))
          go_ret2
          exact ⟨rfl, rfl⟩
      · have g3 := inB_no h3
        have g : ¬ okD y d s = true := by unfold okD; rw [g1, g2, g3]; simp
        rw [if_neg g, if_neg g]
        clear g
        clear h1 h2 h3
        go_enter Try.func13, Try.ntmps13
        go_wp2_with (first | (go_at_call 27; refine (bt0_any _ _ _).mono ?_; rintro e w' ⟨rfl, rfl⟩) | (go_at_call 29; refine (isday_any _ _).mono ?_; rintro e w' ⟨rfl, rfl⟩))
        go_ret2
        exact ⟨rfl, rfl⟩
    · have g2 : dayB d = false := inB_no h2
      have g : ¬ okD y d s = true := by unfold okD; rw [g1, g2]; simp
      rw [if_neg g, if_neg g]
      clear g
      clear h1 h2
      go_enter Try.func13, Try.ntmps13
      go_wp2_with (first | (go_at_call 27; refine (bt0_any _ _ _).mono ?_; rintro e w' ⟨rfl, rfl⟩) | (go_at_call 29; refine (isday_any _ _).mono ?_; rintro e w' ⟨rfl, rfl⟩))
      go_ret2
      exact ⟨rfl, rfl⟩
  · have g1 := inB_no h1
    have g : ¬ okD y d s = true := by unfold okD; rw [g1]; simp
    rw [if_neg g, if_neg g]
    clear g h1
    go_enter Try.func13, Try.ntmps13
    go_wp2_with (first | (go_at_call 27; refine (bt0_any _ _ _).mono ?_; rintro e w' ⟨rfl, rfl⟩) | (go_at_call 29; refine (isday_any _ _).mono ?_; rintro e w' ⟨rfl, rfl⟩))
    go_ret2
    exact ⟨rfl, rfl⟩

set_option maxHeartbeats 800000 in
theorem rtime_any (y d s : Int) (w : World) : Calls Try.prog 14 #[.int .i64 y, .int .i64 d, .int .i64 s] w (Two (tmV y d s) (tmE y d s) w) := by
  unfold tmV tmE
  by_cases h1 : 0 ≤ y ∧ y ≤ 16777216
  · have g1 := inB_yes h1
    by_cases h2 : 0 ≤ d ∧ d ≤ 364
    · have g2 : dayB d = true := inB_yes h2
      by_cases h3 : 0 ≤ s ∧ s ≤ 95
      · have g3 := inB_yes h3
        have g : okD y d s = true := by unfold okD; rw [g1, g2, g3]; rfl
        rw [if_pos g, if_pos g]
        clear g
        obtain ⟨a1, a2⟩ := h1
        obtain ⟨a3, a4⟩ := h2
        obtain ⟨a5, a6⟩ := h3
        unfold stp
        by_cases h4 : (y * 365 + d) * 96 + s ≤ 16777216
        · rw [if_pos h4, if_pos h4]
          have e4 : decide (16777216 < (y * 365 + d) * 96 + s) = false := by rw [decide_eq_false_iff_not]; omega
          go_enter Try.func14, Try.ntmps14
          go_wp2_with (first | (go_at_call 28; refine (rin_any _ _ _).mono ?_; rintro e w' ⟨rfl, rfl⟩) | (go_at_call 30; refine (risday_any _ _).mono ?_; rintro e w' ⟨rfl, rfl⟩))
          go_ret2
          exact ⟨rfl, rfl⟩
        · rw [if_neg h4, if_neg h4]
          have e4 : decide (16777216 < (y * 365 + d) * 96 + s) = true := by rw [decide_eq_true_eq]; omega
          go_enter Try.func14, Try.ntmps14
          go_wp2_with (first | (go_at_call 28; refine (rin_any _ _ _).mono ?_; rintro e w' ⟨rfl, rfl⟩) | (go_at_call 30; refine (risday_any _ _).mono ?_; rintro e w' ⟨rfl, rfl⟩))
          go_ret2
          exact ⟨rfl, rfl⟩
      · have g3 := inB_no h3
        have g : ¬ okD y d s = true := by unfold okD; rw [g1, g2, g3]; simp
        rw [if_neg g, if_neg g]
        clear g
        clear h1 h2 h3
        go_enter Try.func14, Try.ntmps14
        go_wp2_with (first | (go_at_call 28; refine (rin_any _ _ _).mono ?_; rintro e w' ⟨rfl, rfl⟩) | (go_at_call 30; refine (risday_any _ _).mono ?_; rintro e w' ⟨rfl, rfl⟩))
        go_ret2
        exact ⟨rfl, rfl⟩
    · have g2 : dayB d = false := inB_no h2
      have g : ¬ okD y d s = true := by unfold okD; rw [g1, g2]; simp
      rw [if_neg g, if_neg g]
      clear g
      clear h1 h2
      go_enter Try.func14, Try.ntmps14
      go_wp2_with (first | (go_at_call 28; refine (rin_any _ _ _).mono ?_; rintro e w' ⟨rfl, rfl⟩) | (go_at_call 30; refine (risday_any _ _).mono ?_; rintro e w' ⟨rfl, rfl⟩))
      go_ret2
      exact ⟨rfl, rfl⟩
  · have g1 := inB_no h1
    have g : ¬ okD y d s = true := by unfold okD; rw [g1]; simp
    rw [if_neg g, if_neg g]
    clear g h1
    go_enter Try.func14, Try.ntmps14
    go_wp2_with (first | (go_at_call 28; refine (rin_any _ _ _).mono ?_; rintro e w' ⟨rfl, rfl⟩) | (go_at_call 30; refine (risday_any _ _).mono ?_; rintro e w' ⟨rfl, rfl⟩))
    go_ret2
    exact ⟨rfl, rfl⟩

/-- P4.2: both ends are days. -/
def valB (f t : Int) : Bool := dayB f && dayB t
theorem cell_box (w : World) (a b : Int) (t : TypeId) : (w.alloc (.cells #[.int .i64 a, .int .i64 b] t)).cell? ⟨w.heap.size, 0, none⟩ = some (.int .i64 a) ∧ (w.alloc (.cells #[.int .i64 a, .int .i64 b] t)).cell? ⟨w.heap.size, 1, none⟩ = some (.int .i64 b) := ⟨by simp, by simp⟩

set_option maxHeartbeats 400000 in
theorem valid_any (f t : Int) (w : World) : Calls Try.prog 17 #[.agg #[.int .i64 f, .int .i64 t]] w fun e w' => e = .returned (.bool (valB f t)) ∧ Below w.heap.size w w' := by
  unfold valB
  cases h1 : dayB f <;> cases h2 : dayB t
  all_goals
    go_enter Try.func17, Try.ntmps17
    go_wp2_with (go_at_call 29; refine (isday_any _ _).mono ?_; rintro e w' ⟨rfl, rfl⟩)
    go_ret
    exact ⟨rfl, (Below.refl _ _).alloc (Nat.le_refl _) _⟩

set_option maxHeartbeats 400000 in
theorem rvalid_any (f t : Int) (w : World) : Calls Try.prog 18 #[.agg #[.int .i64 f, .int .i64 t]] w fun e w' => e = .returned (.bool (valB f t)) ∧ Below w.heap.size w w' := by
  unfold valB
  cases h1 : dayB f <;> cases h2 : dayB t
  all_goals
    go_enter Try.func18, Try.ntmps18
    go_wp2_with (go_at_call 30; refine (risday_any _ _).mono ?_; rintro e w' ⟨rfl, rfl⟩)
    go_ret
    exact ⟨rfl, (Below.refl _ _).alloc (Nat.le_refl _) _⟩
end Go.Proofs.Ytpdbomajhfkaeaa.Ca

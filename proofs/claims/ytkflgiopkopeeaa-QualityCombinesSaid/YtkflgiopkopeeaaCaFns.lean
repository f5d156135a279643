/-
  Contracts of the small functions of days and steps (package calendar, its reference, Mod): what each returns; none of them changes the world.
-/
import Derived.Test.YtkflgiopkopeeaaRows
import Derived.WalkKit
import Derived.ProofKit
import Derived.OpenShut
import Derived.Deep.QuietTactic
import Derived.BigQuiet
import Derived.Below
import Derived.Lib.Hide
namespace Go.Proofs.Ytkflgiopkopeeaa.Ca
open Go.ChangeShapes Go.WideShapes Go.ChangeAt Go.RowKit
set_option linter.unusedVariables false

theorem ret_int {k : IntKind} {a b : Int} (h : a = b) : Ending.returned (.int k a) = .returned (.int k b) := by rw [h]
theorem Below.drewN {B : Nat} {a w : World} (h : Below B a w) (q : Nat) : Below B a (w.drewN q) := ⟨h.os, h.tape, h.output, h.size, h.block⟩

def md (n k : Int) : Int := n % k
theorem md_lo (n k : Int) (hk : 0 < k) : 0 ≤ md n k := Int.emod_nonneg _ (by omega)
theorem md_hi (n k : Int) (hk : 0 < k) : md n k < k := Int.emod_lt_of_pos _ hk

theorem tmod_add_emod (n k : Int) : (n.tmod k + k) % k = md n k := by
  unfold md
  rw [Int.add_emod_right, Int.tmod_def, Int.sub_mul_emod_self_left]

set_option maxHeartbeats 400000 in
theorem mod_any (n k : Int) (w : World) (hn : -9223372036854775808 ≤ n ∧ n ≤ 9223372036854775807) (hk : 1 ≤ k) (hk2 : k ≤ 4611686018427387904) :
    Calls Try.prog 26 #[.int .i64 n, .int .i64 k] w fun e w' => e = .returned (.int .i64 (md n k)) ∧ w = w' := by
  have h1 : -k < n.tmod k := Int.lt_tmod_of_pos n (by omega)
  have h2 : n.tmod k < k := Int.tmod_lt_of_pos n (by omega)
  have h3 : (k == 0) = false := by simp; omega
  go_enter Try.func26, Try.ntmps26
  go_wp2
  go_ret
  exact ⟨ret_int (tmod_add_emod n k), rfl⟩

/-- x is from 0 to most. -/
def inB (x most : Int) : Bool := decide (0 ≤ x ∧ x ≤ most)
theorem inB_yes {x most : Int} (h : 0 ≤ x ∧ x ≤ most) : inB x most = true := by simp [inB, h]
theorem inB_no {x most : Int} (h : ¬ (0 ≤ x ∧ x ≤ most)) : inB x most = false := by simp [inB, h]
/-- n is from a to b. -/
def btw (a n b : Int) : Bool := decide (a ≤ n ∧ n ≤ b)

theorem in_any (x most : Int) (w : World) :
    Calls Try.prog 62 #[.int .i64 x, .int .i64 most] w fun e w' => e = .returned (.bool (inB x most)) ∧ w = w' := by
  by_cases h1 : 0 ≤ x <;> by_cases h2 : x ≤ most
  all_goals
    go_enter Try.func62, Try.ntmps62
    go_wp2
    go_ret
    exact ⟨by simp [inB]; omega, rfl⟩

theorem rin_any (x most : Int) (w : World) :
    Calls Try.prog 40 #[.int .i64 x, .int .i64 most] w fun e w' => e = .returned (.bool (inB x most)) ∧ w = w' := by
  go_enter Try.func40, Try.ntmps40
  go_wp2_with (go_at_call 62; refine (in_any _ _ _).mono ?_; rintro e w' ⟨rfl, rfl⟩)
  go_ret
  exact ⟨rfl, rfl⟩

/-- d is a day of the year. -/
def dayB (d : Int) : Bool := inB d 364
def Two (a b : Int) (w : World) (e : Ending) (w' : World) : Prop := e = .returned (.tuple #[.int .i64 a, .int .i64 b]) ∧ w = w'
def Four (a b c d : Int) (w : World) (e : Ending) (w' : World) : Prop := e = .returned (.tuple #[.int .i64 a, .int .i64 b, .int .i64 c, .int .i64 d]) ∧ w = w'

/-- P4.1: a step is one from 0 to 2^24; its year, its day, its number within the day, and the error. -/
def okT (t : Int) : Bool := inB t 16777216
def yrT (t : Int) : Int := if okT t then t / 96 / 365 else 0
def dyT (t : Int) : Int := if okT t then t / 96 % 365 else 0
def nrT (t : Int) : Int := if okT t then t % 96 else 0
def erT (t : Int) : Int := if okT t then 0 else 6

theorem results_tmp4 {fn : Func} {t u v x : Tmp} (h : fn.results = #[.tmp t, .tmp u, .tmp v, .tmp x]) (tmps : Array Value) (P : Program) (w : World) :
    (results fn tmps).run P w = .ok (.tuple #[tmps.getD t undef, tmps.getD u undef, tmps.getD v undef, tmps.getD x undef]) w := by
  simp [results, h]

/-- P4.1: the step of a year, a day and a number, and the error. -/
def okD (y d s : Int) : Bool := inB y 16777216 && dayB d && inB s 95
def stp (y d s : Int) : Int := (y * 365 + d) * 96 + s
def tmV (y d s : Int) : Int := if okD y d s then (if stp y d s ≤ 16777216 then stp y d s else 0) else 0
def tmE (y d s : Int) : Int := if okD y d s then (if stp y d s ≤ 16777216 then 0 else 6) else 1

/-- P4.2: both ends are days. -/
def valB (f t : Int) : Bool := dayB f && dayB t
theorem cell_box (w : World) (a b : Int) (t : TypeId) : (w.alloc (.cells #[.int .i64 a, .int .i64 b] t)).cell? ⟨w.heap.size, 0, none⟩ = some (.int .i64 a) ∧ (w.alloc (.cells #[.int .i64 a, .int .i64 b] t)).cell? ⟨w.heap.size, 1, none⟩ = some (.int .i64 b) := ⟨by simp, by simp⟩

end Go.Proofs.Ytkflgiopkopeeaa.Ca

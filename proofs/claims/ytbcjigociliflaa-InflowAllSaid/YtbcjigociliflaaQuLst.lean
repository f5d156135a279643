/-
  Contracts of the functions of layer 1 that only read a list: sum, checkShare (package quantity), Same (its reference).
-/
import Derived.Test.YtbcjigociliflaaQuFns
namespace Go.Proofs.Ytbcjigociliflaa.Qu
open Go.ChangeShapes Go.WideShapes Go.ChangeAt Go.RowKit
set_option linter.unusedVariables false

/-- A slice of n integers z 0, .., z (n - 1) can be read at this address. -/
def Rd (w : World) (a : Option Addr) (n : Nat) (z : Nat → Int) : Prop :=
  0 < n → ∃ b off, a = some ⟨b, off, none⟩ ∧ b < w.heap.size ∧ ∀ i, i < n → w.cell? ⟨b, off + i, none⟩ = some (.int .i64 (z i))

def sumZ (z : Nat → Int) : Nat → Int
  | 0 => 0
  | k + 1 => sumZ z k + z k
theorem sumZ_bd (z : Nat → Int) (n : Nat) (B : Int) (hz : ∀ i, i < n → 0 ≤ z i ∧ z i ≤ B) : ∀ k, k ≤ n → 0 ≤ sumZ z k ∧ sumZ z k ≤ B * k := by
  intro k
  induction k with
  | zero => intro _; simp [sumZ]
  | succ k ih =>
    intro hk
    have h1 := ih (by omega)
    have h2 := hz k (by omega)
    unfold sumZ
    have e : B * ((k + 1 : Nat) : Int) = B * k + B := by rw [Int.natCast_add, Int.mul_add]; simp
    rw [e]
    omega

set_option maxHeartbeats 400000 in
theorem sum_some (b off n c : Nat) (z : Nat → Int) (w : World) (hn : n ≤ 4096) (hz : ∀ i, i < n → 0 ≤ z i ∧ z i ≤ 10000)
    (hc : ∀ i, i < n → w.cell? ⟨b, off + i, none⟩ = some (.int .i64 (z i))) :
    Calls Try.prog 42 #[.slice (some ⟨b, off, none⟩) n c] w fun e w' => e = .returned (.int .i64 (sumZ z n)) ∧ w = w' := by
  have HZ := Lib.hid hz
  have HC := Lib.hid hc
  clear hz hc
  go_enter Try.func42, Try.ntmps42
  go_wp2
  go_loop [3, 8] (fun t i => ∃ k : Nat, k ≤ n ∧ i = .int .i64 k ∧ t = .int .i64 (sumZ z k)) (fun _ i => n - (intOf i).toNat)
  case atStart => exact ⟨0, Nat.zero_le _, rfl, rfl⟩
  case round =>
    obtain ⟨k, hk, rfl, rfl⟩ := hrel
    have h1 := sumZ_bd z n 10000 HZ.out k hk
    have h2 := h1.2
    have h3 := h1.1
    clear h1
    by_cases hlt : k < n
    · have h4 := HZ.out k hlt
      have h5 := HC.out k hlt
      go_wp2
      go_round
      case rel => exact ⟨k + 1, by omega, by go_num, rfl⟩
      case measure => simp [intOf]; omega
    · obtain rfl : k = n := by omega
      go_wp2
      go_ret
      exact ⟨rfl, rfl⟩

theorem sum_none (a : Option Addr) (c : Nat) (w : World) :
    Calls Try.prog 42 #[.slice a 0 c] w fun e w' => e = .returned (.int .i64 0) ∧ w = w' := by
  go_enter Try.func42, Try.ntmps42
  go_wp2
  refine wp_loop_rounds 1 ?_
  rw [rounds_succ]
  go_wp2
  go_ret
  exact ⟨rfl, rfl⟩

theorem sum_any (a : Option Addr) (n c : Nat) (z : Nat → Int) (w : World) (hn : n ≤ 4096) (hz : ∀ i, i < n → 0 ≤ z i ∧ z i ≤ 10000) (hr : Rd w a n z) :
    Calls Try.prog 42 #[.slice a n c] w fun e w' => e = .returned (.int .i64 (sumZ z n)) ∧ w = w' := by
  by_cases h : 0 < n
  · obtain ⟨b, off, rfl, _, hc⟩ := hr h
    exact sum_some b off n c z w hn hz hc
  · obtain rfl : n = 0 := by omega
    exact sum_none a c w

/-- All of the first n numbers are from 0 to 10000. -/
def allB (z : Nat → Int) : Nat → Bool
  | 0 => true
  | k + 1 => allB z k && inB (z k) 10000
theorem allB_all {z : Nat → Int} : ∀ {n : Nat}, allB z n = true → ∀ i, i < n → 0 ≤ z i ∧ z i ≤ 10000
  | 0, _, i, hi => absurd hi (Nat.not_lt_zero _)
  | k + 1, h, i, hi => by
    unfold allB at h
    rw [Bool.and_eq_true] at h
    by_cases e : i = k
    · subst e; have := h.2; unfold inB at this; exact of_decide_eq_true this
    · exact allB_all h.1 i (by omega)
theorem allB_no {z : Nat → Int} {k : Nat} (h : inB (z k) 10000 = false) : ∀ {n : Nat}, k < n → allB z n = false
  | 0, hk => absurd hk (Nat.not_lt_zero _)
  | n + 1, hk => by
    unfold allB
    by_cases e : k = n
    · subst e; rw [h]; simp
    · rw [allB_no h (by omega)]; rfl

/-- The error of Share that does not depend on the sum. -/
def chk (a : Int) (z : Nat → Int) (n : Nat) : Int := if inB a 274877906944 && allB z n then 0 else 1
theorem chk_yes {a : Int} {z : Nat → Int} {n : Nat} (h1 : inB a 274877906944 = true) (h2 : allB z n = true) : chk a z n = 0 := by unfold chk; rw [h1, h2]; rfl
theorem chk_no1 {a : Int} {z : Nat → Int} {n : Nat} (h1 : inB a 274877906944 = false) : chk a z n = 1 := by unfold chk; rw [h1]; rfl
theorem chk_no2 {a : Int} {z : Nat → Int} {n : Nat} (h1 : inB a 274877906944 = true) (h2 : allB z n = false) : chk a z n = 1 := by unfold chk; rw [h1, h2]; rfl

set_option maxHeartbeats 400000 in
theorem check_any (x : Int) (a : Option Addr) (n c : Nat) (z : Nat → Int) (w : World) (hn : n ≤ 4096) (hr : Rd w a n z) :
    Calls Try.prog 41 #[.int .i64 x, .slice a n c] w fun e w' => e = .returned (.int .i64 (chk x z n)) ∧ w = w' := by
  have HR := Lib.hid hr
  clear hr
  by_cases h1 : inB x 274877906944 = true
  · go_enter Try.func41, Try.ntmps41
    go_wp2_with (go_at_call 44; refine (fz_any _ _ _).mono ?_; rintro e w' ⟨rfl, rfl⟩)
    go_loop [12] (fun i => ∃ k : Nat, k ≤ n ∧ i = .int .i64 k ∧ Hid (allB z k = true)) (fun i => n - (intOf i).toNat)
    case atStart => exact ⟨0, Nat.zero_le _, rfl, rfl⟩
    case round =>
      obtain ⟨k, hk, rfl, ha⟩ := hrel
      by_cases hlt : k < n
      · obtain ⟨b, off, rfl, _, hc⟩ := HR.out (by omega)
        have h5 := hc k hlt
        clear hc
        by_cases hi : inB (z k) 10000 = true
        · go_wp2_with (go_at_call 44; refine (fz_any _ _ _).mono ?_; rintro e w' ⟨rfl, rfl⟩)
          go_round
          case rel => exact ⟨k + 1, by omega, by go_num, by show allB z (k + 1) = true; unfold allB; rw [ha.out, hi]; rfl⟩
          case measure => simp [intOf]; omega
        · have hi' : inB (z k) 10000 = false := by simpa using hi
          have HF := Lib.hid (chk_no2 (z := z) h1 (allB_no hi' hlt))
          clear hi
          go_wp2_with (go_at_call 44; refine (fz_any _ _ _).mono ?_; rintro e w' ⟨rfl, rfl⟩)
          go_ret
          exact ⟨by rw [HF.out]; rfl, rfl⟩
      · obtain rfl : k = n := by omega
        have HF := Lib.hid (chk_yes h1 ha.out)
        go_wp2
        go_ret
        exact ⟨by rw [HF.out]; rfl, rfl⟩
  · have h1' : inB x 274877906944 = false := by simpa using h1
    have HF := Lib.hid (chk_no1 (z := z) (n := n) h1')
    clear h1
    go_enter Try.func41, Try.ntmps41
    go_wp2_with (go_at_call 44; refine (fz_any _ _ _).mono ?_; rintro e w' ⟨rfl, rfl⟩)
    go_ret
    exact ⟨by rw [HF.out]; rfl, rfl⟩

/-- The first n numbers are equal. -/
def eqB (z y : Nat → Int) : Nat → Bool
  | 0 => true
  | k + 1 => eqB z y k && (z k == y k)
theorem eqB_no {z y : Nat → Int} {k : Nat} (h : (z k == y k) = false) : ∀ {n : Nat}, k < n → eqB z y n = false
  | 0, hk => absurd hk (Nat.not_lt_zero _)
  | n + 1, hk => by
    unfold eqB
    by_cases e : k = n
    · subst e; rw [h]; simp
    · rw [eqB_no h (by omega)]; rfl
theorem eqB_of {z y : Nat → Int} : ∀ {n : Nat}, (∀ i, i < n → z i = y i) → eqB z y n = true
  | 0, _ => rfl
  | n + 1, h => by unfold eqB; rw [eqB_of (fun i hi => h i (by omega)), h n (by omega)]; simp

set_option maxHeartbeats 400000 in
theorem same_eq (a a' : Option Addr) (n c c' : Nat) (z y : Nat → Int) (w : World) (hn : n ≤ 9223372036854775807) (hr : Rd w a n z) (hr' : Rd w a' n y) :
    Calls Try.prog 15 #[.slice a n c, .slice a' n c'] w fun e w' => e = .returned (.bool (eqB z y n)) ∧ ∃ q, w' = w.drewN q := by
  have HR := Lib.hid hr
  have HR' := Lib.hid hr'
  clear hr hr'
  go_enter Try.func15, Try.ntmps15
  go_wp2
  go_loopw [13] (fun i wr => ∃ k q : Nat, k ≤ n ∧ i = .int .i64 k ∧ Hid (eqB z y k = true) ∧ Hid (wr = w.drewN q)) (fun i _ => n - (intOf i).toNat)
  case atStart => exact ⟨0, 0, Nat.zero_le _, rfl, rfl, rfl⟩
  case round =>
    obtain ⟨k, q, hk, rfl, ha, hw⟩ := hrel
    by_cases hlt : k < n
    · obtain ⟨b, off, rfl, _, hc⟩ := HR.out (by omega)
      obtain ⟨b', off', rfl, _, hc'⟩ := HR'.out (by omega)
      have h5 : wr.cell? ⟨b, off + k, none⟩ = some (.int .i64 (z k)) := by rw [hw.out]; exact hc k hlt
      have h6 : wr.cell? ⟨b', off' + k, none⟩ = some (.int .i64 (y k)) := by rw [hw.out]; exact hc' k hlt
      clear hc hc'
      have hki : (k : Int) < (n : Int) := by omega
      by_cases hi : z k = y k
      · have e1 : (z k != y k) = false := by simp [hi]
        have HI := Lib.hid hi
        clear hi
        go_wp2
        go_quiet (fail)
        go_wp2
        go_roundw
        case rel => exact ⟨k + 1, _, by omega, by go_num, by show eqB z y (k + 1) = true; unfold eqB; rw [ha.out, HI.out]; simp, by show _ = _; rw [hw.out, World.drewN_drewN]⟩
        case measure => simp [intOf]; omega
      · have e1 : (z k != y k) = true := by simp [hi]
        have HF := Lib.hid (eqB_no (show (z k == y k) = false by simpa using hi) hlt)
        clear hi
        go_wp2
        go_quiet (fail)
        go_wp2
        go_ret
        exact ⟨by rw [HF.out]; rfl, _, by rw [hw.out, World.drewN_drewN]⟩
    · obtain rfl : k = n := by omega
      go_wp2
      go_ret
      exact ⟨by rw [ha.out]; rfl, q, hw.out⟩

theorem same_ne (a a' : Option Addr) (n m c c' : Nat) (w : World) (hn : n ≤ 9223372036854775807) (hm : m ≤ 9223372036854775807) (h : n ≠ m) :
    Calls Try.prog 15 #[.slice a n c, .slice a' m c'] w fun e w' => e = .returned (.bool false) ∧ w = w' := by
  have e : ((n : Int) != (m : Int)) = true := by simp; omega
  go_enter Try.func15, Try.ntmps15
  go_wp2
  go_ret
  exact ⟨rfl, rfl⟩
end Go.Proofs.Ytbcjigociliflaa.Qu

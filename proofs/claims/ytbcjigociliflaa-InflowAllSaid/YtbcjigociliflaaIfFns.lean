/-
  Contracts of the functions of chapter 9 that only read: isBetween, areBetween, sum, Check of the package, In, Down and Check of the reference.
-/
import Derived.Test.YtbcjigociliflaaIfMath
import Derived.Test.YtbcjigociliflaaQuFlr
import Derived.Sort.AtCall
namespace Go.Proofs.Ytbcjigociliflaa.If
open Go.ChangeShapes Go.WideShapes Go.ChangeAt Go.RowKit
open Go.Proofs.Ytbcjigociliflaa.Qu (sumZ sumZ_congr Rd inB inB_yes inB_no in_any flr floor_any Two tmod_bd tdiv_bd tdiv_bd2 tmod_neg_of tmod_pos_of)
set_option linter.unusedVariables false

/-- A number from a to b. -/
def btB (a x b : Int) : Bool := decide (a ≤ x ∧ x ≤ b)
theorem btB_yes {a x b : Int} (h : a ≤ x ∧ x ≤ b) : btB a x b = true := by simp [btB, h]
theorem btB_no {a x b : Int} (h : ¬ (a ≤ x ∧ x ≤ b)) : btB a x b = false := by simp [btB, h]
theorem btB_iff {a x b : Int} : btB a x b = true ↔ (a ≤ x ∧ x ≤ b) := by simp [btB]
theorem bt_any (a x b : Int) (w : World) :
    Calls Try.prog 28 #[.int .i64 a, .int .i64 x, .int .i64 b] w fun e w' => e = .returned (.bool (btB a x b)) ∧ w = w' := by
  by_cases h1 : a ≤ x <;> by_cases h2 : x ≤ b
  all_goals
    go_enter Try.func28, Try.ntmps28
    go_wp2
    go_ret
    exact ⟨by simp [btB]; omega, rfl⟩
theorem rin_any (x most : Int) (w : World) :
    Calls Try.prog 27 #[.int .i64 x, .int .i64 most] w fun e w' => e = .returned (.bool (btB 0 x most)) ∧ w = w' := by
  have HC := Lib.hid (in_any x most w)
  go_enter Try.func27, Try.ntmps27
  go_wp2_with (go_at_call 36; refine HC.out.mono ?_; rintro e w' ⟨rfl, rfl⟩)
  go_ret
  exact ⟨rfl, rfl⟩

/-- All of the first k numbers are from a to b. -/
def allW (a b : Int) (z : Nat → Int) : Nat → Bool
  | 0 => true
  | k + 1 => allW a b z k && btB a (z k) b
theorem allW_all {a b : Int} {z : Nat → Int} : ∀ {n : Nat}, allW a b z n = true → ∀ i, i < n → a ≤ z i ∧ z i ≤ b
  | 0, _, i, hi => absurd hi (Nat.not_lt_zero _)
  | k + 1, h, i, hi => by
    unfold allW at h
    rw [Bool.and_eq_true] at h
    by_cases e : i = k
    · subst e; exact btB_iff.1 h.2
    · exact allW_all h.1 i (by omega)
theorem allW_of {a b : Int} {z : Nat → Int} : ∀ {n : Nat}, (∀ i, i < n → a ≤ z i ∧ z i ≤ b) → allW a b z n = true
  | 0, _ => rfl
  | k + 1, h => by unfold allW; rw [allW_of (fun i hi => h i (by omega)), btB_yes (h k (by omega))]; rfl
theorem allW_no {a b : Int} {z : Nat → Int} {k : Nat} (h : btB a (z k) b = false) : ∀ {n : Nat}, k < n → allW a b z n = false
  | 0, hk => absurd hk (Nat.not_lt_zero _)
  | n + 1, hk => by
    unfold allW
    by_cases e : k = n
    · subst e; rw [h]; simp
    · rw [allW_no h (by omega)]; rfl

set_option maxHeartbeats 400000 in
theorem ab_any (a b : Int) (p : Option Addr) (n c : Nat) (z : Nat → Int) (w : World) (hn : n ≤ 9223372036854775806) (hr : Rd w p n z) :
    Calls Try.prog 26 #[.int .i64 a, .slice p n c, .int .i64 b] w fun e w' => e = .returned (.bool (allW a b z n)) ∧ w = w' := by
  have HR := Lib.hid hr
  clear hr
  go_enter Try.func26, Try.ntmps26
  go_wp2
  go_loop [11] (fun i => ∃ k : Nat, k ≤ n ∧ i = .int .i64 k ∧ Hid (allW a b z k = true)) (fun i => n - (intOf i).toNat)
  case atStart => exact ⟨0, Nat.zero_le _, rfl, rfl⟩
  case round =>
    obtain ⟨k, hk, rfl, ha⟩ := hrel
    by_cases hlt : k < n
    · obtain ⟨bb, off, rfl, _, hc⟩ := HR.out (by omega)
      have h5 := hc k hlt
      clear hc
      have hki : (k : Int) < (n : Int) := by omega
      have hki2 : (k : Int) ≤ 9223372036854775805 := by omega
      have HC := Lib.hid (fun W => bt_any a (z k) b W)
      cases hi : btB a (z k) b with
      | true =>
        rw [hi] at HC
        have HN : Hid (allW a b z (k + 1) = true) := (show (allW a b z k && btB a (z k) b) = true by rw [ha.out, hi]; rfl)
        clear hi ha
        go_wp2_with (go_at_call 28; refine (HC.out _).mono ?_; rintro e w' ⟨rfl, rfl⟩)
        go_round
        case rel => exact ⟨k + 1, by omega, by go_num, HN⟩
        case measure => simp [intOf]; omega
      | false =>
        rw [hi] at HC
        have HN := Lib.hid (allW_no hi hlt)
        clear hi ha
        go_wp2_with (go_at_call 28; refine (HC.out _).mono ?_; rintro e w' ⟨rfl, rfl⟩)
        go_ret
        exact ⟨by rw [HN.out]; rfl, rfl⟩
    · obtain rfl : k = n := by omega
      go_wp2
      go_ret
      exact ⟨by rw [ha.out]; rfl, rfl⟩

theorem gs_zero (z : Nat → Int) (L : Nat) : gsum z 0 L = sumZ z L := sumZ_congr (fun j _ => by rw [Nat.zero_add])
set_option maxHeartbeats 400000 in
theorem isum_any (b off n c : Nat) (z : Nat → Int) (w : World) (hn : n ≤ 4096) (hz : ∀ j, j < n → -274877906944 ≤ z j ∧ z j ≤ 274877906944)
    (hc : ∀ i, i < n → w.cell? ⟨b, off + i, none⟩ = some (.int .i64 (z i))) :
    Calls Try.prog 38 #[.slice (some ⟨b, off, none⟩) n c] w fun e w' => e = .returned (.int .i64 (sumZ z n)) ∧ w = w' := by
  have HZ := Lib.hid hz
  have HC := Lib.hid hc
  clear hz hc
  go_enter Try.func38, Try.ntmps38
  go_wp2
  go_loop [3, 8] (fun t i => ∃ k : Nat, k ≤ n ∧ i = .int .i64 k ∧ t = .int .i64 (sumZ z k)) (fun _ i => n - (intOf i).toNat)
  case atStart => exact ⟨0, Nat.zero_le _, rfl, rfl⟩
  case round =>
    obtain ⟨k, hk, rfl, rfl⟩ := hrel
    have h1 := gsum_bd z 0 k (fun j hj => by rw [Nat.zero_add]; exact HZ.out j (by omega))
    rw [gs_zero] at h1
    have h2 : sumZ z k ≤ 1125899906842624 := by omega
    have h3 : -1125899906842624 ≤ sumZ z k := by omega
    clear h1
    by_cases hlt : k < n
    · obtain ⟨h4, h6⟩ := HZ.out k hlt
      have h5 := HC.out k hlt
      go_wp2
      go_round
      case rel => exact ⟨k + 1, by omega, by go_num, rfl⟩
      case measure => simp [intOf]; omega
    · obtain rfl : k = n := by omega
      go_wp2
      go_ret
      exact ⟨rfl, rfl⟩

/-- P9.1: the error of Check. -/
def cB (n m : Nat) (z y : Nat → Int) : Int := if n = m + 1 then (if allW 0 274877906944 z n = true ∧ allW 0 1073741824 y m = true then 0 else 1) else 3
theorem cB_form {n m : Nat} {z y : Nat → Int} (h : ¬ n = m + 1) : cB n m z y = 3 := if_neg h
theorem cB_z {n m : Nat} {z y : Nat → Int} (h : n = m + 1) (h1 : allW 0 274877906944 z n = false) : cB n m z y = 1 := by unfold cB; rw [if_pos h, h1]; simp
theorem cB_y {n m : Nat} {z y : Nat → Int} (h : n = m + 1) (h1 : allW 0 1073741824 y m = false) : cB n m z y = 1 := by unfold cB; rw [if_pos h, h1]; simp
theorem cB_ok {n m : Nat} {z y : Nat → Int} (h : n = m + 1) (h1 : allW 0 274877906944 z n = true) (h2 : allW 0 1073741824 y m = true) : cB n m z y = 0 := by unfold cB; rw [if_pos h, h1, h2]; simp
theorem cB_cases (n m : Nat) (z y : Nat → Int) : (¬ n = m + 1 ∧ cB n m z y = 3) ∨ (n = m + 1 ∧ allW 0 274877906944 z n = false ∧ cB n m z y = 1) ∨ (n = m + 1 ∧ allW 0 274877906944 z n = true ∧ allW 0 1073741824 y m = false ∧ cB n m z y = 1)
    ∨ (n = m + 1 ∧ allW 0 274877906944 z n = true ∧ allW 0 1073741824 y m = true ∧ cB n m z y = 0) := by
  by_cases h : n = m + 1
  · cases h1 : allW 0 274877906944 z n
    · exact .inr (.inl ⟨h, rfl, cB_z h h1⟩)
    · cases h2 : allW 0 1073741824 y m
      · exact .inr (.inr (.inl ⟨h, rfl, rfl, cB_y h h2⟩))
      · exact .inr (.inr (.inr ⟨h, rfl, rfl, cB_ok h h1 h2⟩))
  · exact .inl ⟨h, cB_form h⟩
/-- An error alone. -/
def Ec (c : Int) (w : World) (e : Ending) (w' : World) : Prop := e = .returned (.int .i64 c) ∧ w = w'

set_option maxHeartbeats 400000 in
theorem ck_any (p q : Option Addr) (n m c d : Nat) (z y : Nat → Int) (w : World) (hn : n ≤ 4096) (hm : m ≤ 4096) (hr : Rd w p n z) (hq : Rd w q m y) :
    Calls Try.prog 11 #[.slice p n c, .slice q m d] w (Ec (cB n m z y) w) := by
  have H1 := Lib.hid (fun W (hW : W = w) => (show W = w from hW) ▸ ab_any 0 274877906944 p n c z w (by omega) hr)
  have H2 := Lib.hid (fun W (hW : W = w) => (show W = w from hW) ▸ ab_any 0 1073741824 q m d y w (by omega) hq)
  clear hr hq
  rcases cB_cases n m z y with ⟨h, e⟩ | ⟨h, h1, e⟩ | ⟨h, h1, h2, e⟩ | ⟨h, h1, h2, e⟩
  all_goals rw [e]; clear e
  · have hi : ((n : Int) != (m : Int) + 1) = true := by simp; omega
    clear h
    go_enter Try.func11, Try.ntmps11
    go_wp2
    go_ret
    exact ⟨rfl, rfl⟩
  · have hi : ((n : Int) != (m : Int) + 1) = false := by simp; omega
    rw [h1] at H1
    have HX := Lib.hid h
    clear h h1 H2
    go_enter Try.func11, Try.ntmps11
    go_wp2_with (go_at_call 26; refine (H1.out _ rfl).mono ?_; rintro e w' ⟨rfl, rfl⟩)
    go_ret
    exact ⟨rfl, rfl⟩
  · have hi : ((n : Int) != (m : Int) + 1) = false := by simp; omega
    rw [h1] at H1
    rw [h2] at H2
    have HX := Lib.hid h
    clear h h1 h2
    go_enter Try.func11, Try.ntmps11
    go_wp2_with (go_at_call 26; first | (refine (H1.out _ rfl).mono ?_; rintro e w' ⟨rfl, rfl⟩; clear H1) | (refine (H2.out _ rfl).mono ?_; rintro e w' ⟨rfl, rfl⟩))
    go_ret
    exact ⟨rfl, rfl⟩
  · have hi : ((n : Int) != (m : Int) + 1) = false := by simp; omega
    rw [h1] at H1
    rw [h2] at H2
    have HX := Lib.hid h
    clear h h1 h2
    go_enter Try.func11, Try.ntmps11
    go_wp2_with (go_at_call 26; first | (refine (H1.out _ rfl).mono ?_; rintro e w' ⟨rfl, rfl⟩; clear H1) | (refine (H2.out _ rfl).mono ?_; rintro e w' ⟨rfl, rfl⟩))
    go_ret
    exact ⟨rfl, rfl⟩
end Go.Proofs.Ytbcjigociliflaa.If

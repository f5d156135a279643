/-
  Contracts of Check, All, Sum and put of the reference of chapter 6.
-/
import Derived.Test.YtkflgiopkopeeaaGgBase
import Derived.Sort.AtCall
namespace Go.Proofs.Ytkflgiopkopeeaa.Gg
open Go.ChangeShapes Go.WideShapes Go.ChangeAt Go.RowKit
open Go.Proofs.Ytkflgiopkopeeaa.Ca (inB inB_yes inB_no rin_any)
set_option linter.unusedVariables false

/-- P6.1: the first error of a reading. -/
def ckG (a b c d : Int) : Int := if inB a 255 = false then 1 else if inB b 16777216 = false then 6 else if inB c 1073741824 = false then 1 else if inB d 2 = false then 5 else 0
set_option maxHeartbeats 1000000 in
theorem gck_any (a b c d : Int) (w : World) : Calls Try.prog 61 #[.agg #[.int .i64 a, .int .i64 b, .int .i64 c, .int .i64 d]] w (Ek (ckG a b c d) w) := by
  have H0 := Lib.hid (fun W => rin_any a 255 W)
  have H1 := Lib.hid (fun W => rin_any b 16777216 W)
  have H2 := Lib.hid (fun W => rin_any c 1073741824 W)
  have H3 := Lib.hid (fun W => rin_any d 2 W)
  unfold ckG
  cases h0 : inB a 255 with
  | false =>
    rw [h0] at H0
    clear h0
    go_enter Try.func61, Try.ntmps61
    go_wp2_with (go_at_call 40; refine (H0.out _).mono ?_; rintro e w' ⟨rfl, rfl⟩)
    go_ret
    exact ⟨rfl, (Below.refl _ _).alloc (Nat.le_refl _) _⟩
  | true =>
    rw [h0] at H0
    clear h0
    cases h1 : inB b 16777216 with
    | false =>
      rw [h1] at H1
      clear h1
      go_enter Try.func61, Try.ntmps61
      go_wp2_with (first
        | (go_at_call_has 40 (Value.int .i64 255); refine (H0.out _).mono ?_; rintro e w' ⟨rfl, rfl⟩)
        | (go_at_call_has 40 (Value.int .i64 16777216); refine (H1.out _).mono ?_; rintro e w' ⟨rfl, rfl⟩))
      go_ret
      exact ⟨rfl, (Below.refl _ _).alloc (Nat.le_refl _) _⟩
    | true =>
      rw [h1] at H1
      clear h1
      cases h2 : inB c 1073741824 with
      | false =>
        rw [h2] at H2
        clear h2
        go_enter Try.func61, Try.ntmps61
        go_wp2_with (first
          | (go_at_call_has 40 (Value.int .i64 255); refine (H0.out _).mono ?_; rintro e w' ⟨rfl, rfl⟩)
          | (go_at_call_has 40 (Value.int .i64 16777216); refine (H1.out _).mono ?_; rintro e w' ⟨rfl, rfl⟩)
          | (go_at_call_has 40 (Value.int .i64 1073741824); refine (H2.out _).mono ?_; rintro e w' ⟨rfl, rfl⟩))
        go_ret
        exact ⟨rfl, (Below.refl _ _).alloc (Nat.le_refl _) _⟩
      | true =>
        rw [h2] at H2
        clear h2
        cases h3 : inB d 2 with
        | false =>
          rw [h3] at H3
          clear h3
          go_enter Try.func61, Try.ntmps61
          go_wp2_with (first
            | (go_at_call_has 40 (Value.int .i64 255); refine (H0.out _).mono ?_; rintro e w' ⟨rfl, rfl⟩)
            | (go_at_call_has 40 (Value.int .i64 16777216); refine (H1.out _).mono ?_; rintro e w' ⟨rfl, rfl⟩)
            | (go_at_call_has 40 (Value.int .i64 1073741824); refine (H2.out _).mono ?_; rintro e w' ⟨rfl, rfl⟩)
            | (go_at_call_has 40 (Value.int .i64 2); refine (H3.out _).mono ?_; rintro e w' ⟨rfl, rfl⟩))
          go_ret
          exact ⟨rfl, (Below.refl _ _).alloc (Nat.le_refl _) _⟩
        | true =>
          rw [h3] at H3
          clear h3
          go_enter Try.func61, Try.ntmps61
          go_wp2_with (first
            | (go_at_call_has 40 (Value.int .i64 255); refine (H0.out _).mono ?_; rintro e w' ⟨rfl, rfl⟩)
            | (go_at_call_has 40 (Value.int .i64 16777216); refine (H1.out _).mono ?_; rintro e w' ⟨rfl, rfl⟩)
            | (go_at_call_has 40 (Value.int .i64 1073741824); refine (H2.out _).mono ?_; rintro e w' ⟨rfl, rfl⟩)
            | (go_at_call_has 40 (Value.int .i64 2); refine (H3.out _).mono ?_; rintro e w' ⟨rfl, rfl⟩))
          go_ret
          exact ⟨rfl, (Below.refl _ _).alloc (Nat.le_refl _) _⟩
/-- A reading is valid. -/
def Vr (r : Nat → Int) : Prop := 0 ≤ r 0 ∧ r 0 ≤ 255 ∧ 0 ≤ r 1 ∧ r 1 ≤ 16777216 ∧ 0 ≤ r 2 ∧ r 2 ≤ 1073741824 ∧ 0 ≤ r 3 ∧ r 3 ≤ 2
theorem inB_iff {x m : Int} : inB x m = true ↔ 0 ≤ x ∧ x ≤ m := by unfold inB; rw [decide_eq_true_eq]
theorem ckG_zero (a b c d : Int) : ckG a b c d = 0 ↔ (0 ≤ a ∧ a ≤ 255) ∧ (0 ≤ b ∧ b ≤ 16777216) ∧ (0 ≤ c ∧ c ≤ 1073741824) ∧ (0 ≤ d ∧ d ≤ 2) := by
  unfold ckG
  rw [← inB_iff, ← inB_iff, ← inB_iff, ← inB_iff]
  cases inB a 255 <;> cases inB b 16777216 <;> cases inB c 1073741824 <;> cases inB d 2 <;> simp
/-- The first error of the first k readings. -/
def alG (R : Nat → Nat → Int) : Nat → Int
  | 0 => 0
  | k + 1 => if alG R k ≠ 0 then alG R k else ckG (R k 0) (R k 1) (R k 2) (R k 3)
theorem alG_stick (R : Nat → Nat → Int) (k : Nat) (h : alG R k ≠ 0) : ∀ n, k ≤ n → alG R n = alG R k
  | 0, hn => by obtain rfl : k = 0 := by omega
                rfl
  | n + 1, hn => by
    by_cases e : k = n + 1
    · rw [e]
    · have ih := alG_stick R k h n (by omega)
      show (if alG R n ≠ 0 then alG R n else _) = _
      rw [if_pos (by rw [ih]; exact h), ih]
theorem alG_next (R : Nat → Nat → Int) (k : Nat) (h : alG R k = 0) : alG R (k + 1) = ckG (R k 0) (R k 1) (R k 2) (R k 3) := by
  show (if alG R k ≠ 0 then alG R k else _) = _
  rw [if_neg (by simp [h])]
theorem alG_zero (R : Nat → Nat → Int) : ∀ n, alG R n = 0 ↔ ∀ i, i < n → Vr (R i)
  | 0 => ⟨fun _ i hi => absurd hi (Nat.not_lt_zero _), fun _ => rfl⟩
  | n + 1 => by
    constructor
    · intro h
      have h0 : alG R n = 0 := by
        apply Classical.byContradiction
        intro hne
        exact hne ((alG_stick R n hne (n + 1) (by omega)).symm.trans h)
      rw [alG_next R n h0, ckG_zero] at h
      intro i hi
      by_cases e : i = n
      · subst e; exact ⟨h.1.1, h.1.2, h.2.1.1, h.2.1.2, h.2.2.1.1, h.2.2.1.2, h.2.2.2.1, h.2.2.2.2⟩
      · exact (alG_zero R n).1 h0 i (by omega)
    · intro h
      have h0 := (alG_zero R n).2 (fun i hi => h i (by omega))
      rw [alG_next R n h0, ckG_zero]
      have hv := h n (by omega)
      exact ⟨⟨hv.1, hv.2.1⟩, ⟨hv.2.2.1, hv.2.2.2.1⟩, ⟨hv.2.2.2.2.1, hv.2.2.2.2.2.1⟩, hv.2.2.2.2.2.2.1, hv.2.2.2.2.2.2.2⟩

set_option maxHeartbeats 2000000 in
theorem gall_some (b off n c : Nat) (R : Nat → Nat → Int) (w : World) (hp : Rs w b off n R) (hn : n ≤ 9223372036854775806) : Calls Try.prog 37 #[.slice (some ⟨b, off, none⟩) n c] w (Ek (alG R n) w) := by
  have HP := Lib.hid hp
  clear hp
  go_enter Try.func37, Try.ntmps37
  go_wp2
  go_loopw [8] (fun i wr => ∃ k : Nat, k ≤ n ∧ i = .int .i64 k ∧ Hid (alG R k = 0) ∧ Hid (Below w.heap.size w wr)) (fun i _ => n - (intOf i).toNat)
  case atStart => exact ⟨0, Nat.zero_le _, rfl, rfl, Below.refl _ _⟩
  case round =>
    obtain ⟨k, hk, rfl, hs, hb⟩ := hrel
    by_cases hkn : k < n
    · have HP2 := Lib.hid (HP.out.up hb.out (Nat.le_refl _))
      obtain ⟨c0, c1, c2, c3⟩ := HP2.out.cells k hkn
      have hws := hb.out.size
      have hki : (k : Int) < (n : Int) := by omega
      have hki2 : (k : Int) ≤ 9223372036854775805 := by omega
      have HC := Lib.hid (fun W => gck_any (R k 0) (R k 1) (R k 2) (R k 3) W)
      have HN := Lib.hid (alG_next R k hs.out)
      have HK : Hid (alG R (k + 1) ≠ 0 → alG R n = alG R (k + 1)) := fun h => alG_stick R (k + 1) h n (by omega)
      clear HP2
      generalize R k 0 = r0 at *
      generalize R k 1 = r1 at *
      generalize R k 2 = r2 at *
      generalize R k 3 = r3 at *
      generalize ckG r0 r1 r2 r3 = cd at *
      by_cases hcd : cd = 0
      · have HN2 : Hid (alG R (k + 1) = 0) := by rw [← hcd]; exact HN
        subst hcd
        go_wp2_with (go_at_call 61; refine (HC.out _).mono ?_; rintro e w1 ⟨rfl, hb1⟩)
        go_roundw
        case rel => exact ⟨k + 1, by omega, by go_num, HN2, (hb.out.alloc hws _).trans (hb1.mono (by simp; omega))⟩
        case measure => simp [intOf]; omega
      · have HR : Hid (alG R n = cd) := by
          show alG R n = cd
          rw [HK.out (by rw [HN.out]; exact hcd), HN.out]
        have hcn : (cd != 0) = true := by simpa using hcd
        clear hcd
        go_wp2_with (go_at_call 61; refine (HC.out _).mono ?_; rintro e w1 ⟨rfl, hb1⟩)
        go_ret
        exact ⟨by rw [HR.out]; rfl, (hb.out.alloc hws _).trans (hb1.mono (by simp; omega))⟩
    · obtain rfl : k = n := by omega
      have HR := Lib.hid hs.out
      go_wp2
      go_ret
      exact ⟨by rw [HR.out]; rfl, hb.out⟩
theorem gall_none (p : Option Addr) (c : Nat) (w : World) : Calls Try.prog 37 #[.slice p 0 c] w (Ek 0 w) := by
  go_enter Try.func37, Try.ntmps37
  go_wp2
  go_loop [8] (fun i => i = .int .i64 0) (fun _ => 0)
  case atStart => rfl
  case round =>
    obtain rfl := hrel
    go_wp2
    go_ret
    exact ⟨rfl, Below.refl _ _⟩
theorem gall_any (p : Option Addr) (n c : Nat) (R : Nat → Nat → Int) (w : World) (hp : RdR w p n R) (hn : n ≤ 9223372036854775806) : Calls Try.prog 37 #[.slice p n c] w (Ek (alG R n) w) := by
  by_cases h0 : n = 0
  · subst h0; exact gall_none p c w
  obtain ⟨b, off, rfl, hpt⟩ := hp (by omega)
  exact gall_some b off n c R w hpt hn

/-- P6.2: the Sum of n bytes. -/
def smG (B : Nat → Int) : Nat → Int
  | 0 => 0
  | k + 1 => (smG B k + ((k : Int) + 1) % 65521 * (B k + 1)) % 65521
theorem smG_bd (B : Nat → Int) : ∀ n, 0 ≤ smG B n ∧ smG B n ≤ 65520
  | 0 => by unfold smG; omega
  | n + 1 => by unfold smG; omega
theorem smG_congr (B C : Nat → Int) : ∀ n, (∀ i, i < n → B i = C i) → smG B n = smG C n
  | 0, _ => rfl
  | n + 1, h => by unfold smG; rw [smG_congr B C n (fun i hi => h i (by omega)), h n (by omega)]

def RtI (v : Int) (w : World) (e : Ending) (w' : World) : Prop := e = .returned (.int .i64 v) ∧ w = w'
/-- The bytes of a number, the most significant first. -/
def pbG (x : Int) (j : Nat) : Int := if j = 0 then x / 16777216 else if j = 1 then x / 65536 % 256 else if j = 2 then x / 256 % 256 else x % 256
theorem pbG_bt (x : Int) (h0 : 0 ≤ x) (h1 : x ≤ 4294967295) : Bt (pbG x) 4 := fun j hj => by
  have hc : j = 0 ∨ j = 1 ∨ j = 2 ∨ j = 3 := by omega
  rcases hc with rfl | rfl | rfl | rfl <;> simp [pbG] <;> omega
def GbP (w : World) (r : Option Nat) (base n : Nat) (B : Nat → Int) (e : Ending) (w' : World) : Prop := ∃ v', e = .returned v' ∧ GotB w' base v' n B ∧ Below base w w' ∧ w.grownBy w' r
end Go.Proofs.Ytkflgiopkopeeaa.Gg

/-
  Contracts of the small functions of chapter 8: isFlow, distance, floor, Check, areFlows, and those of the reference.
-/
import Derived.Test.YtkflgiopkopeeaaQlBase
import Derived.Sort.AtCall
namespace Go.Proofs.Ytkflgiopkopeeaa.Ql
open Go.ChangeShapes Go.WideShapes Go.ChangeAt Go.RowKit
open Go.Proofs.Ytkflgiopkopeeaa.Ca (inB inB_yes inB_no rin_any Rd)
open Go.Proofs.Ytkflgiopkopeeaa.Cu (Two flr floor_any flr_pos)
set_option linter.unusedVariables false

theorem pfl_any (x : Int) (w : World) : Calls Try.prog 39 #[.int .i64 x] w fun e w' => e = .returned (.bool (inB x 1073741824)) ∧ w = w' := by
  by_cases h : 0 ≤ x ∧ x ≤ 1073741824
  · rw [inB_yes h]
    obtain ⟨h1, h2⟩ := h
    go_enter Try.func39, Try.ntmps39
    go_wp2
    go_ret
    refine ⟨?_, rfl⟩
    try simp
    try omega
  · rw [inB_no h]
    by_cases h1 : 0 ≤ x
    · have h2 : ¬ x ≤ 1073741824 := fun h2 => h ⟨h1, h2⟩
      clear h
      go_enter Try.func39, Try.ntmps39
      go_wp2
      go_ret
      refine ⟨?_, rfl⟩
      try simp
      try omega
    · clear h
      go_enter Try.func39, Try.ntmps39
      go_wp2
      go_ret
      refine ⟨?_, rfl⟩
      try simp
      try omega

/-- By how much two numbers differ. -/
def dst (a b : Int) : Int := max (a - b) (b - a)
theorem dst_any (a b : Int) (w : World) (ha : -4294967296 ≤ a ∧ a ≤ 4294967296) (hb : -4294967296 ≤ b ∧ b ≤ 4294967296) : Calls Try.prog 67 #[.int .i64 a, .int .i64 b] w fun e w' => e = .returned (.int .i64 (dst a b)) ∧ w = w' := by
  obtain ⟨a1, a2⟩ := ha
  obtain ⟨b1, b2⟩ := hb
  go_enter Try.func67, Try.ntmps67
  go_wp2
  all_goals
    go_ret
    exact ⟨Cu.ret_int (by unfold dst; omega), rfl⟩
theorem flo_any (a b : Int) (w : World) (ha : -9223372036854775808 ≤ a ∧ a ≤ 9223372036854775807) (hb : 1 ≤ b ∧ b ≤ 9223372036854775807) : Calls Try.prog 48 #[.int .i64 a, .int .i64 b] w fun e w' => e = .returned (.int .i64 (a / b)) ∧ w = w' := by
  have HF := Lib.hid (floor_any a b w ha (by omega))
  rw [flr_pos a b hb.1] at HF
  clear ha hb
  go_enter Try.func48, Try.ntmps48
  go_wp2_with (go_at_call 66; refine HF.out.mono ?_; rintro e w' ⟨rfl, rfl⟩)
  go_ret
  exact ⟨rfl, rfl⟩


/-- All of the first k numbers are flows. -/
def alF (z : Nat → Int) : Nat → Bool
  | 0 => true
  | k + 1 => alF z k && inB (z k) 1073741824
theorem alF_all {z : Nat → Int} : ∀ {n : Nat}, alF z n = true → ∀ i, i < n → 0 ≤ z i ∧ z i ≤ 1073741824
  | 0, _, i, hi => absurd hi (Nat.not_lt_zero _)
  | k + 1, h, i, hi => by
    unfold alF at h
    rw [Bool.and_eq_true] at h
    by_cases e : i = k
    · subst e; have := h.2; unfold inB at this; exact of_decide_eq_true this
    · exact alF_all h.1 i (by omega)
theorem alF_of {z : Nat → Int} : ∀ {n : Nat}, (∀ i, i < n → 0 ≤ z i ∧ z i ≤ 1073741824) → alF z n = true
  | 0, _ => rfl
  | k + 1, h => by unfold alF; rw [alF_of (fun i hi => h i (by omega)), inB_yes (h k (by omega))]; rfl
theorem alF_no {z : Nat → Int} {k : Nat} (h : inB (z k) 1073741824 = false) : ∀ {n : Nat}, k < n → alF z n = false
  | 0, hk => absurd hk (Nat.not_lt_zero _)
  | n + 1, hk => by
    unfold alF
    by_cases e : k = n
    · subst e; rw [h]; simp
    · rw [alF_no h (by omega)]; rfl


set_option maxHeartbeats 400000 in
theorem parf_any (a : Option Addr) (n c : Nat) (z : Nat → Int) (w : World) (hn : n ≤ 9223372036854775806) (hr : Rd w a n z) :
    Calls Try.prog 42 #[.slice a n c] w fun e w' => e = .returned (.bool (alF z n)) ∧ w = w' := by
  have HR := Lib.hid hr
  clear hr
  go_enter Try.func42, Try.ntmps42
  go_wp2
  go_loop [7] (fun i => ∃ k : Nat, k ≤ n ∧ i = .int .i64 k ∧ Hid (alF z k = true)) (fun i => n - (intOf i).toNat)
  case atStart => exact ⟨0, Nat.zero_le _, rfl, rfl⟩
  case round =>
    obtain ⟨k, hk, rfl, ha⟩ := hrel
    by_cases hlt : k < n
    · obtain ⟨b, off, rfl, _, hc⟩ := HR.out (by omega)
      have h5 := hc k hlt
      clear hc
      have hki : (k : Int) < (n : Int) := by omega
      have hki2 : (k : Int) ≤ 9223372036854775805 := by omega
      have HC := Lib.hid (fun W => pfl_any (z k) W)
      cases hi : inB (z k) 1073741824 with
      | true =>
        rw [hi] at HC
        have HN : Hid (alF z (k + 1) = true) := (show (alF z k && inB (z k) 1073741824) = true by rw [ha.out, hi]; rfl)
        clear hi ha
        go_wp2_with (go_at_call 39; refine (HC.out _).mono ?_; rintro e w' ⟨rfl, rfl⟩)
        go_round
        case rel => exact ⟨k + 1, by omega, by go_num, HN⟩
        case measure => simp [intOf]; omega
      | false =>
        rw [hi] at HC
        have HN := Lib.hid (alF_no hi hlt)
        clear hi ha
        go_wp2_with (go_at_call 39; refine (HC.out _).mono ?_; rintro e w' ⟨rfl, rfl⟩)
        go_ret
        exact ⟨by rw [HN.out]; rfl, rfl⟩
    · obtain rfl : k = n := by omega
      go_wp2
      go_ret
      exact ⟨by rw [ha.out]; rfl, rfl⟩


set_option maxHeartbeats 400000 in
theorem rarf_any (a : Option Addr) (n c : Nat) (z : Nat → Int) (w : World) (hn : n ≤ 9223372036854775806) (hr : Rd w a n z) :
    Calls Try.prog 46 #[.slice a n c] w fun e w' => e = .returned (.bool (alF z n)) ∧ w = w' := by
  have HR := Lib.hid hr
  clear hr
  go_enter Try.func46, Try.ntmps46
  go_wp2
  go_loop [7] (fun i => ∃ k : Nat, k ≤ n ∧ i = .int .i64 k ∧ Hid (alF z k = true)) (fun i => n - (intOf i).toNat)
  case atStart => exact ⟨0, Nat.zero_le _, rfl, rfl⟩
  case round =>
    obtain ⟨k, hk, rfl, ha⟩ := hrel
    by_cases hlt : k < n
    · obtain ⟨b, off, rfl, _, hc⟩ := HR.out (by omega)
      have h5 := hc k hlt
      clear hc
      have hki : (k : Int) < (n : Int) := by omega
      have hki2 : (k : Int) ≤ 9223372036854775805 := by omega
      have HC := Lib.hid (fun W => rin_any (z k) 1073741824 W)
      cases hi : inB (z k) 1073741824 with
      | true =>
        rw [hi] at HC
        have HN : Hid (alF z (k + 1) = true) := (show (alF z k && inB (z k) 1073741824) = true by rw [ha.out, hi]; rfl)
        clear hi ha
        go_wp2_with (go_at_call 40; refine (HC.out _).mono ?_; rintro e w' ⟨rfl, rfl⟩)
        go_round
        case rel => exact ⟨k + 1, by omega, by go_num, HN⟩
        case measure => simp [intOf]; omega
      | false =>
        rw [hi] at HC
        have HN := Lib.hid (alF_no hi hlt)
        clear hi ha
        go_wp2_with (go_at_call 40; refine (HC.out _).mono ?_; rintro e w' ⟨rfl, rfl⟩)
        go_ret
        exact ⟨by rw [HN.out]; rfl, rfl⟩
    · obtain rfl : k = n := by omega
      go_wp2
      go_ret
      exact ⟨by rw [ha.out]; rfl, rfl⟩


/-- P8.1: are checks valid? -/
def okS (s : Int) : Bool := decide (s = 0 ∨ (2 ≤ s ∧ s ≤ 4096))
def chC (l m j s : Int) : Int := if inB l 1073741824 = false then 1 else if inB m 1073741824 = false then 1 else if m < l then 1 else if inB j 1073741824 = false then 1 else if okS s = true then 0 else 1
theorem chC_zero {l m j s : Int} : chC l m j s = 0 ↔ (0 ≤ l ∧ l ≤ 1073741824) ∧ (0 ≤ m ∧ m ≤ 1073741824) ∧ l ≤ m ∧ (0 ≤ j ∧ j ≤ 1073741824) ∧ (s = 0 ∨ (2 ≤ s ∧ s ≤ 4096)) := by
  unfold chC okS inB
  constructor
  · intro h
    repeat' split at h
    all_goals simp_all
    all_goals omega
  · rintro ⟨h1, h2, h3, h4, h5⟩
    simp [h1, h2, h4, h5]
    omega
theorem chC_vals (l m j s : Int) : chC l m j s = 0 ∨ chC l m j s = 1 := by
  unfold chC
  repeat' split
  all_goals first | exact .inl rfl | exact .inr rfl

theorem pchk_l (l m j s : Int) (w : World) (hl : inB l 1073741824 = false) : Calls Try.prog 18 #[.agg #[.int .i64 l, .int .i64 m, .int .i64 j, .int .i64 s]] w (Ek (1) w) := by
  have HL := Lib.hid (fun W => pfl_any l W)
  rw [hl] at HL
  clear hl
  go_enter Try.func18, Try.ntmps18
  go_wp2_with (first
    | (go_at_call_has 39 (Value.int .i64 l); refine (HL.out _).mono ?_; rintro e w' ⟨rfl, rfl⟩; clear HL))
  go_ret
  exact ⟨rfl, (Below.refl _ _).alloc (Nat.le_refl _) _⟩
theorem pchk_m (l m j s : Int) (w : World) (hl : inB l 1073741824 = true) (hm : inB m 1073741824 = false) : Calls Try.prog 18 #[.agg #[.int .i64 l, .int .i64 m, .int .i64 j, .int .i64 s]] w (Ek (1) w) := by
  have HL := Lib.hid (fun W => pfl_any l W)
  have HM := Lib.hid (fun W => pfl_any m W)
  rw [hl] at HL
  rw [hm] at HM
  clear hl hm
  go_enter Try.func18, Try.ntmps18
  go_wp2_with (first
    | (go_at_call_has 39 (Value.int .i64 l); refine (HL.out _).mono ?_; rintro e w' ⟨rfl, rfl⟩; clear HL)
    | (go_at_call_has 39 (Value.int .i64 m); refine (HM.out _).mono ?_; rintro e w' ⟨rfl, rfl⟩; clear HM))
  go_ret
  exact ⟨rfl, (Below.refl _ _).alloc (Nat.le_refl _) _⟩
theorem pchk_lm (l m j s : Int) (w : World) (hl : inB l 1073741824 = true) (hm : inB m 1073741824 = true) (hlm : m < l) : Calls Try.prog 18 #[.agg #[.int .i64 l, .int .i64 m, .int .i64 j, .int .i64 s]] w (Ek (1) w) := by
  have HL := Lib.hid (fun W => pfl_any l W)
  have HM := Lib.hid (fun W => pfl_any m W)
  rw [hl] at HL
  rw [hm] at HM
  clear hl hm
  go_enter Try.func18, Try.ntmps18
  go_wp2_with (first
    | (go_at_call_has 39 (Value.int .i64 l); refine (HL.out _).mono ?_; rintro e w' ⟨rfl, rfl⟩; clear HL)
    | (go_at_call_has 39 (Value.int .i64 m); refine (HM.out _).mono ?_; rintro e w' ⟨rfl, rfl⟩; clear HM))
  go_ret
  exact ⟨rfl, (Below.refl _ _).alloc (Nat.le_refl _) _⟩
theorem pchk_j (l m j s : Int) (w : World) (hl : inB l 1073741824 = true) (hm : inB m 1073741824 = true) (hlm : l ≤ m) (hj : inB j 1073741824 = false) : Calls Try.prog 18 #[.agg #[.int .i64 l, .int .i64 m, .int .i64 j, .int .i64 s]] w (Ek (1) w) := by
  have HL := Lib.hid (fun W => pfl_any l W)
  have HM := Lib.hid (fun W => pfl_any m W)
  have HJ := Lib.hid (fun W => pfl_any j W)
  rw [hl] at HL
  rw [hm] at HM
  rw [hj] at HJ
  clear hl hm hj
  go_enter Try.func18, Try.ntmps18
  go_wp2_with (first
    | (go_at_call_has 39 (Value.int .i64 l); refine (HL.out _).mono ?_; rintro e w' ⟨rfl, rfl⟩; clear HL)
    | (go_at_call_has 39 (Value.int .i64 m); refine (HM.out _).mono ?_; rintro e w' ⟨rfl, rfl⟩; clear HM)
    | (go_at_call_has 39 (Value.int .i64 j); refine (HJ.out _).mono ?_; rintro e w' ⟨rfl, rfl⟩; clear HJ))
  go_ret
  exact ⟨rfl, (Below.refl _ _).alloc (Nat.le_refl _) _⟩
theorem pchk_s0 (l m j s : Int) (w : World) (hl : inB l 1073741824 = true) (hm : inB m 1073741824 = true) (hlm : l ≤ m) (hj : inB j 1073741824 = true) (hs : s = 0) : Calls Try.prog 18 #[.agg #[.int .i64 l, .int .i64 m, .int .i64 j, .int .i64 s]] w (Ek (0) w) := by
  subst hs
  have HL := Lib.hid (fun W => pfl_any l W)
  have HM := Lib.hid (fun W => pfl_any m W)
  have HJ := Lib.hid (fun W => pfl_any j W)
  rw [hl] at HL
  rw [hm] at HM
  rw [hj] at HJ
  clear hl hm hj
  go_enter Try.func18, Try.ntmps18
  go_wp2_with (first
    | (go_at_call_has 39 (Value.int .i64 l); refine (HL.out _).mono ?_; rintro e w' ⟨rfl, rfl⟩; clear HL)
    | (go_at_call_has 39 (Value.int .i64 m); refine (HM.out _).mono ?_; rintro e w' ⟨rfl, rfl⟩; clear HM)
    | (go_at_call_has 39 (Value.int .i64 j); refine (HJ.out _).mono ?_; rintro e w' ⟨rfl, rfl⟩; clear HJ))
  go_ret
  exact ⟨rfl, (Below.refl _ _).alloc (Nat.le_refl _) _⟩
theorem pchk_s1 (l m j s : Int) (w : World) (hl : inB l 1073741824 = true) (hm : inB m 1073741824 = true) (hlm : l ≤ m) (hj : inB j 1073741824 = true) (hs0 : ¬ s = 0) (hs : s < 2) : Calls Try.prog 18 #[.agg #[.int .i64 l, .int .i64 m, .int .i64 j, .int .i64 s]] w (Ek (1) w) := by
  have HL := Lib.hid (fun W => pfl_any l W)
  have HM := Lib.hid (fun W => pfl_any m W)
  have HJ := Lib.hid (fun W => pfl_any j W)
  rw [hl] at HL
  rw [hm] at HM
  rw [hj] at HJ
  clear hl hm hj
  go_enter Try.func18, Try.ntmps18
  go_wp2_with (first
    | (go_at_call_has 39 (Value.int .i64 l); refine (HL.out _).mono ?_; rintro e w' ⟨rfl, rfl⟩; clear HL)
    | (go_at_call_has 39 (Value.int .i64 m); refine (HM.out _).mono ?_; rintro e w' ⟨rfl, rfl⟩; clear HM)
    | (go_at_call_has 39 (Value.int .i64 j); refine (HJ.out _).mono ?_; rintro e w' ⟨rfl, rfl⟩; clear HJ))
  go_ret
  exact ⟨rfl, (Below.refl _ _).alloc (Nat.le_refl _) _⟩
theorem pchk_s2 (l m j s : Int) (w : World) (hl : inB l 1073741824 = true) (hm : inB m 1073741824 = true) (hlm : l ≤ m) (hj : inB j 1073741824 = true) (hs0 : ¬ s = 0) (hs1 : ¬ s < 2) (hs : 4096 < s) : Calls Try.prog 18 #[.agg #[.int .i64 l, .int .i64 m, .int .i64 j, .int .i64 s]] w (Ek (1) w) := by
  have HL := Lib.hid (fun W => pfl_any l W)
  have HM := Lib.hid (fun W => pfl_any m W)
  have HJ := Lib.hid (fun W => pfl_any j W)
  rw [hl] at HL
  rw [hm] at HM
  rw [hj] at HJ
  clear hl hm hj
  go_enter Try.func18, Try.ntmps18
  go_wp2_with (first
    | (go_at_call_has 39 (Value.int .i64 l); refine (HL.out _).mono ?_; rintro e w' ⟨rfl, rfl⟩; clear HL)
    | (go_at_call_has 39 (Value.int .i64 m); refine (HM.out _).mono ?_; rintro e w' ⟨rfl, rfl⟩; clear HM)
    | (go_at_call_has 39 (Value.int .i64 j); refine (HJ.out _).mono ?_; rintro e w' ⟨rfl, rfl⟩; clear HJ))
  go_ret
  exact ⟨rfl, (Below.refl _ _).alloc (Nat.le_refl _) _⟩
theorem pchk_s3 (l m j s : Int) (w : World) (hl : inB l 1073741824 = true) (hm : inB m 1073741824 = true) (hlm : l ≤ m) (hj : inB j 1073741824 = true) (hs0 : ¬ s = 0) (hs1 : ¬ s < 2) (hs : ¬ 4096 < s) : Calls Try.prog 18 #[.agg #[.int .i64 l, .int .i64 m, .int .i64 j, .int .i64 s]] w (Ek (0) w) := by
  have HL := Lib.hid (fun W => pfl_any l W)
  have HM := Lib.hid (fun W => pfl_any m W)
  have HJ := Lib.hid (fun W => pfl_any j W)
  rw [hl] at HL
  rw [hm] at HM
  rw [hj] at HJ
  clear hl hm hj
  go_enter Try.func18, Try.ntmps18
  go_wp2_with (first
    | (go_at_call_has 39 (Value.int .i64 l); refine (HL.out _).mono ?_; rintro e w' ⟨rfl, rfl⟩; clear HL)
    | (go_at_call_has 39 (Value.int .i64 m); refine (HM.out _).mono ?_; rintro e w' ⟨rfl, rfl⟩; clear HM)
    | (go_at_call_has 39 (Value.int .i64 j); refine (HJ.out _).mono ?_; rintro e w' ⟨rfl, rfl⟩; clear HJ))
  go_ret
  exact ⟨rfl, (Below.refl _ _).alloc (Nat.le_refl _) _⟩
theorem pchk_s (l m j s : Int) (w : World) (hl : inB l 1073741824 = true) (hm : inB m 1073741824 = true) (hlm : l ≤ m) (hj : inB j 1073741824 = true) : Calls Try.prog 18 #[.agg #[.int .i64 l, .int .i64 m, .int .i64 j, .int .i64 s]] w (Ek (if okS s = true then 0 else 1) w) := by
  by_cases h0 : s = 0
  · rw [if_pos (show okS s = true by unfold okS; rw [decide_eq_true_eq]; omega)]
    exact pchk_s0 l m j s w hl hm hlm hj h0
  · by_cases h1 : s < 2
    · rw [if_neg (show ¬ okS s = true by unfold okS; rw [decide_eq_true_eq]; omega)]
      exact pchk_s1 l m j s w hl hm hlm hj h0 h1
    · by_cases h2 : 4096 < s
      · rw [if_neg (show ¬ okS s = true by unfold okS; rw [decide_eq_true_eq]; omega)]
        exact pchk_s2 l m j s w hl hm hlm hj h0 h1 h2
      · rw [if_pos (show okS s = true by unfold okS; rw [decide_eq_true_eq]; omega)]
        exact pchk_s3 l m j s w hl hm hlm hj h0 h1 h2
theorem pchk_any (l m j s : Int) (w : World) : Calls Try.prog 18 #[.agg #[.int .i64 l, .int .i64 m, .int .i64 j, .int .i64 s]] w (Ek (chC l m j s) w) := by
  unfold chC
  cases hl : inB l 1073741824
  · exact pchk_l l m j s w hl
  · rw [if_neg (by simp)]
    cases hm : inB m 1073741824
    · exact pchk_m l m j s w hl hm
    · rw [if_neg (by simp)]
      by_cases hlm : m < l
      · rw [if_pos hlm]
        exact pchk_lm l m j s w hl hm hlm
      · rw [if_neg hlm]
        cases hj : inB j 1073741824
        · exact pchk_j l m j s w hl hm (by omega) hj
        · rw [if_neg (by simp)]
          exact pchk_s l m j s w hl hm (by omega) hj

theorem rchk_l (l m j s : Int) (w : World) (hl : inB l 1073741824 = false) : Calls Try.prog 19 #[.agg #[.int .i64 l, .int .i64 m, .int .i64 j, .int .i64 s]] w (Ek (1) w) := by
  have HL := Lib.hid (fun W => rin_any l 1073741824 W)
  rw [hl] at HL
  clear hl
  go_enter Try.func19, Try.ntmps19
  go_wp2_with (first
    | (go_at_call_has 40 (Value.int .i64 l); refine (HL.out _).mono ?_; rintro e w' ⟨rfl, rfl⟩; clear HL))
  go_ret
  exact ⟨rfl, (Below.refl _ _).alloc (Nat.le_refl _) _⟩
theorem rchk_m (l m j s : Int) (w : World) (hl : inB l 1073741824 = true) (hm : inB m 1073741824 = false) : Calls Try.prog 19 #[.agg #[.int .i64 l, .int .i64 m, .int .i64 j, .int .i64 s]] w (Ek (1) w) := by
  have HL := Lib.hid (fun W => rin_any l 1073741824 W)
  have HM := Lib.hid (fun W => rin_any m 1073741824 W)
  rw [hl] at HL
  rw [hm] at HM
  clear hl hm
  go_enter Try.func19, Try.ntmps19
  go_wp2_with (first
    | (go_at_call_has 40 (Value.int .i64 l); refine (HL.out _).mono ?_; rintro e w' ⟨rfl, rfl⟩; clear HL)
    | (go_at_call_has 40 (Value.int .i64 m); refine (HM.out _).mono ?_; rintro e w' ⟨rfl, rfl⟩; clear HM))
  go_ret
  exact ⟨rfl, (Below.refl _ _).alloc (Nat.le_refl _) _⟩
theorem rchk_lm (l m j s : Int) (w : World) (hl : inB l 1073741824 = true) (hm : inB m 1073741824 = true) (hlm : m < l) : Calls Try.prog 19 #[.agg #[.int .i64 l, .int .i64 m, .int .i64 j, .int .i64 s]] w (Ek (1) w) := by
  have HL := Lib.hid (fun W => rin_any l 1073741824 W)
  have HM := Lib.hid (fun W => rin_any m 1073741824 W)
  rw [hl] at HL
  rw [hm] at HM
  clear hl hm
  go_enter Try.func19, Try.ntmps19
  go_wp2_with (first
    | (go_at_call_has 40 (Value.int .i64 l); refine (HL.out _).mono ?_; rintro e w' ⟨rfl, rfl⟩; clear HL)
    | (go_at_call_has 40 (Value.int .i64 m); refine (HM.out _).mono ?_; rintro e w' ⟨rfl, rfl⟩; clear HM))
  go_ret
  exact ⟨rfl, (Below.refl _ _).alloc (Nat.le_refl _) _⟩
theorem rchk_j (l m j s : Int) (w : World) (hl : inB l 1073741824 = true) (hm : inB m 1073741824 = true) (hlm : l ≤ m) (hj : inB j 1073741824 = false) : Calls Try.prog 19 #[.agg #[.int .i64 l, .int .i64 m, .int .i64 j, .int .i64 s]] w (Ek (1) w) := by
  have HL := Lib.hid (fun W => rin_any l 1073741824 W)
  have HM := Lib.hid (fun W => rin_any m 1073741824 W)
  have HJ := Lib.hid (fun W => rin_any j 1073741824 W)
  rw [hl] at HL
  rw [hm] at HM
  rw [hj] at HJ
  clear hl hm hj
  go_enter Try.func19, Try.ntmps19
  go_wp2_with (first
    | (go_at_call_has 40 (Value.int .i64 l); refine (HL.out _).mono ?_; rintro e w' ⟨rfl, rfl⟩; clear HL)
    | (go_at_call_has 40 (Value.int .i64 m); refine (HM.out _).mono ?_; rintro e w' ⟨rfl, rfl⟩; clear HM)
    | (go_at_call_has 40 (Value.int .i64 j); refine (HJ.out _).mono ?_; rintro e w' ⟨rfl, rfl⟩; clear HJ))
  go_ret
  exact ⟨rfl, (Below.refl _ _).alloc (Nat.le_refl _) _⟩
theorem rchk_s1 (l m j s : Int) (w : World) (hl : inB l 1073741824 = true) (hm : inB m 1073741824 = true) (hlm : l ≤ m) (hj : inB j 1073741824 = true) (hs : inB s 4096 = false) : Calls Try.prog 19 #[.agg #[.int .i64 l, .int .i64 m, .int .i64 j, .int .i64 s]] w (Ek (1) w) := by
  have HS := Lib.hid (fun W => rin_any s 4096 W)
  rw [hs] at HS
  clear hs
  have e1 : decide (m < l) = false := decide_eq_false_iff_not.2 (by omega)
  have HL := Lib.hid (fun W => rin_any l 1073741824 W)
  have HM := Lib.hid (fun W => rin_any m 1073741824 W)
  have HJ := Lib.hid (fun W => rin_any j 1073741824 W)
  rw [hl] at HL
  rw [hm] at HM
  rw [hj] at HJ
  clear hl hm hj
  go_enter Try.func19, Try.ntmps19
  go_wp2_with (first
    | (go_at_call_has 40 (Value.int .i64 l); refine (HL.out _).mono ?_; rintro e w' ⟨rfl, rfl⟩; clear HL)
    | (go_at_call_has 40 (Value.int .i64 m); refine (HM.out _).mono ?_; rintro e w' ⟨rfl, rfl⟩; clear HM)
    | (go_at_call_has 40 (Value.int .i64 j); refine (HJ.out _).mono ?_; rintro e w' ⟨rfl, rfl⟩; clear HJ)
    | (go_at_call_has 40 (Value.int .i64 s); refine (HS.out _).mono ?_; rintro e w' ⟨rfl, rfl⟩; clear HS))
  go_ret
  exact ⟨rfl, (Below.refl _ _).alloc (Nat.le_refl _) _⟩
theorem rchk_s2 (l m j s : Int) (w : World) (hl : inB l 1073741824 = true) (hm : inB m 1073741824 = true) (hlm : l ≤ m) (hj : inB j 1073741824 = true) (hs : inB s 4096 = true) (he : s = 1) : Calls Try.prog 19 #[.agg #[.int .i64 l, .int .i64 m, .int .i64 j, .int .i64 s]] w (Ek (1) w) := by
  subst he
  have HS := Lib.hid (fun W => rin_any 1 4096 W)
  rw [hs] at HS
  clear hs
  have e1 : decide (m < l) = false := decide_eq_false_iff_not.2 (by omega)
  have HL := Lib.hid (fun W => rin_any l 1073741824 W)
  have HM := Lib.hid (fun W => rin_any m 1073741824 W)
  have HJ := Lib.hid (fun W => rin_any j 1073741824 W)
  rw [hl] at HL
  rw [hm] at HM
  rw [hj] at HJ
  clear hl hm hj
  go_enter Try.func19, Try.ntmps19
  go_wp2_with (first
    | (go_at_call_has 40 (Value.int .i64 l); refine (HL.out _).mono ?_; rintro e w' ⟨rfl, rfl⟩; clear HL)
    | (go_at_call_has 40 (Value.int .i64 m); refine (HM.out _).mono ?_; rintro e w' ⟨rfl, rfl⟩; clear HM)
    | (go_at_call_has 40 (Value.int .i64 j); refine (HJ.out _).mono ?_; rintro e w' ⟨rfl, rfl⟩; clear HJ)
    | (go_at_call_has 40 (Value.int .i64 1); refine (HS.out _).mono ?_; rintro e w' ⟨rfl, rfl⟩; clear HS))
  go_ret
  exact ⟨rfl, (Below.refl _ _).alloc (Nat.le_refl _) _⟩
theorem rchk_s3 (l m j s : Int) (w : World) (hl : inB l 1073741824 = true) (hm : inB m 1073741824 = true) (hlm : l ≤ m) (hj : inB j 1073741824 = true) (hs : inB s 4096 = true) (he : ¬ s = 1) : Calls Try.prog 19 #[.agg #[.int .i64 l, .int .i64 m, .int .i64 j, .int .i64 s]] w (Ek (0) w) := by
  have HS := Lib.hid (fun W => rin_any s 4096 W)
  rw [hs] at HS
  clear hs
  have e1 : decide (m < l) = false := decide_eq_false_iff_not.2 (by omega)
  have e2 : (s == 1) = false := by simp [he]
  have HL := Lib.hid (fun W => rin_any l 1073741824 W)
  have HM := Lib.hid (fun W => rin_any m 1073741824 W)
  have HJ := Lib.hid (fun W => rin_any j 1073741824 W)
  rw [hl] at HL
  rw [hm] at HM
  rw [hj] at HJ
  clear hl hm hj
  go_enter Try.func19, Try.ntmps19
  go_wp2_with (first
    | (go_at_call_has 40 (Value.int .i64 l); refine (HL.out _).mono ?_; rintro e w' ⟨rfl, rfl⟩; clear HL)
    | (go_at_call_has 40 (Value.int .i64 m); refine (HM.out _).mono ?_; rintro e w' ⟨rfl, rfl⟩; clear HM)
    | (go_at_call_has 40 (Value.int .i64 j); refine (HJ.out _).mono ?_; rintro e w' ⟨rfl, rfl⟩; clear HJ)
    | (go_at_call_has 40 (Value.int .i64 s); refine (HS.out _).mono ?_; rintro e w' ⟨rfl, rfl⟩; clear HS))
  go_ret
  exact ⟨rfl, (Below.refl _ _).alloc (Nat.le_refl _) _⟩
theorem rchk_s (l m j s : Int) (w : World) (hl : inB l 1073741824 = true) (hm : inB m 1073741824 = true) (hlm : l ≤ m) (hj : inB j 1073741824 = true) : Calls Try.prog 19 #[.agg #[.int .i64 l, .int .i64 m, .int .i64 j, .int .i64 s]] w (Ek (if okS s = true then 0 else 1) w) := by
  by_cases h0 : 0 ≤ s ∧ s ≤ 4096
  · by_cases h1 : s = 1
    · rw [if_neg (show ¬ okS s = true by unfold okS; rw [decide_eq_true_eq]; omega)]
      exact rchk_s2 l m j s w hl hm hlm hj (inB_yes h0) h1
    · rw [if_pos (show okS s = true by unfold okS; rw [decide_eq_true_eq]; omega)]
      exact rchk_s3 l m j s w hl hm hlm hj (inB_yes h0) h1
  · rw [if_neg (show ¬ okS s = true by unfold okS; rw [decide_eq_true_eq]; omega)]
    exact rchk_s1 l m j s w hl hm hlm hj (inB_no h0)
theorem rchk_any (l m j s : Int) (w : World) : Calls Try.prog 19 #[.agg #[.int .i64 l, .int .i64 m, .int .i64 j, .int .i64 s]] w (Ek (chC l m j s) w) := by
  unfold chC
  cases hl : inB l 1073741824
  · exact rchk_l l m j s w hl
  · rw [if_neg (by simp)]
    cases hm : inB m 1073741824
    · exact rchk_m l m j s w hl hm
    · rw [if_neg (by simp)]
      by_cases hlm : m < l
      · rw [if_pos hlm]
        exact rchk_lm l m j s w hl hm hlm
      · rw [if_neg hlm]
        cases hj : inB j 1073741824
        · exact rchk_j l m j s w hl hm (by omega) hj
        · rw [if_neg (by simp)]
          exact rchk_s l m j s w hl hm (by omega) hj

end Go.Proofs.Ytkflgiopkopeeaa.Ql

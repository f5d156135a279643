/-
  Contracts of Check of package rulecurve and of the reference: the first error of a list of points as a rule curve.
-/
import Derived.Test.YtdblppbjlgmccaaRuMath
import Derived.Test.YtdblppbjlgmccaaCuPts
import Derived.Test.YtdblppbjlgmccaaCaFns
namespace Go.Proofs.Ytdblppbjlgmccaa.Ru
open Go.ChangeShapes Go.WideShapes Go.ChangeAt Go.RowKit
open Go.Proofs.Ytdblppbjlgmccaa.Cu (Pts RdP)
open Go.Proofs.Ytdblppbjlgmccaa.Ca (dayB inB inB_yes inB_no)
set_option linter.unusedVariables false

/-- What a function returns that returns an error alone. -/
def Ek (c : Int) (w : World) (e : Ending) (w' : World) : Prop := e = .returned (.int .i64 c) ∧ Below w.heap.size w w'
/-- What a function returns that returns a truth value alone. -/
def Tb (b : Bool) (w : World) (e : Ending) (w' : World) : Prop := e = .returned (.bool b) ∧ Below w.heap.size w w'

theorem below_drewN {B : Nat} {w w' : World} (h : Below B w w') (q : Nat) : Below B w (w'.drewN q) := ⟨h.os, h.tape, h.output, h.size, h.block⟩

/-- A point is a day and a level. -/
def okP (x y : Int) : Bool := dayB x && inB y 16777216
/-- The error of the first k points. -/
def chR (X Y : Nat → Int) : Nat → Int
  | 0 => 0
  | k + 1 => if chR X Y k ≠ 0 then chR X Y k else if okP (X k) (Y k) = false then 1 else if k = 0 then 0 else if X k ≤ X (k - 1) then 4 else 0
/-- P5.1: the first error of n points. -/
def ckR (X Y : Nat → Int) (n : Nat) : Int := if n = 0 then 3 else if 100 < n then 10 else chR X Y n

theorem dayB_iff {d : Int} : dayB d = true ↔ 0 ≤ d ∧ d ≤ 364 := by unfold dayB inB; rw [decide_eq_true_eq]
theorem inB_iff {x m : Int} : inB x m = true ↔ 0 ≤ x ∧ x ≤ m := by unfold inB; rw [decide_eq_true_eq]
theorem okP_iff {x y : Int} : okP x y = true ↔ (0 ≤ x ∧ x ≤ 364) ∧ 0 ≤ y ∧ y ≤ 16777216 := by
  unfold okP; rw [Bool.and_eq_true, dayB_iff, inB_iff]
theorem chR_stick (X Y : Nat → Int) (k : Nat) (h : chR X Y k ≠ 0) : ∀ n, k ≤ n → chR X Y n = chR X Y k
  | 0, hn => by obtain rfl : k = 0 := by omega
                rfl
  | n + 1, hn => by
    by_cases e : k = n + 1
    · rw [e]
    · have ih := chR_stick X Y k h n (by omega)
      show (if chR X Y n ≠ 0 then chR X Y n else _) = _
      rw [if_pos (by rw [ih]; exact h), ih]
theorem chR_bad (X Y : Nat → Int) (k n : Nat) (h : chR X Y k = 0) (hk : k < n) (hp : okP (X k) (Y k) = false) : chR X Y n = 1 := by
  have e : chR X Y (k + 1) = 1 := by
    show (if chR X Y k ≠ 0 then chR X Y k else if okP (X k) (Y k) = false then 1 else _) = _
    rw [if_neg (by simp [h]), if_pos hp]
  rw [← e]
  exact chR_stick X Y (k + 1) (by rw [e]; decide) n hk
theorem chR_ord (X Y : Nat → Int) (k n : Nat) (h : chR X Y (k + 1) = 0) (hk : k + 1 < n) (hp : okP (X (k + 1)) (Y (k + 1)) = true) (hl : X (k + 1) ≤ X k) : chR X Y n = 4 := by
  have e : chR X Y (k + 1 + 1) = 4 := by
    show (if chR X Y (k + 1) ≠ 0 then chR X Y (k + 1) else if okP (X (k + 1)) (Y (k + 1)) = false then 1 else if k + 1 = 0 then 0 else if X (k + 1) ≤ X (k + 1 - 1) then 4 else 0) = _
    rw [if_neg (by simp [h]), if_neg (by simp [hp]), if_neg (by omega), if_pos (by rw [show k + 1 - 1 = k by omega]; exact hl)]
  rw [← e]
  exact chR_stick X Y (k + 1 + 1) (by rw [e]; decide) n hk
theorem chR_go (X Y : Nat → Int) (k : Nat) (h : chR X Y (k + 1) = 0) (hp : okP (X (k + 1)) (Y (k + 1)) = true) (hl : ¬ X (k + 1) ≤ X k) : chR X Y (k + 1 + 1) = 0 := by
  show (if chR X Y (k + 1) ≠ 0 then chR X Y (k + 1) else if okP (X (k + 1)) (Y (k + 1)) = false then 1 else if k + 1 = 0 then 0 else if X (k + 1) ≤ X (k + 1 - 1) then 4 else 0) = _
  rw [if_neg (by simp [h]), if_neg (by simp [hp]), if_neg (by omega), if_neg (by rw [show k + 1 - 1 = k by omega]; exact hl)]
theorem chR_one (X Y : Nat → Int) (hp : okP (X 0) (Y 0) = true) : chR X Y 1 = 0 := by
  show (if chR X Y 0 ≠ 0 then chR X Y 0 else if okP (X 0) (Y 0) = false then 1 else if 0 = 0 then 0 else _) = _
  rw [if_neg (by simp [chR]), if_neg (by simp [hp]), if_pos rfl]
theorem chR_zero (X Y : Nat → Int) : ∀ n, chR X Y n = 0 ↔ (∀ i, i < n → okP (X i) (Y i) = true) ∧ ∀ i, i + 1 < n → X i < X (i + 1)
  | 0 => ⟨fun _ => ⟨fun i hi => absurd hi (Nat.not_lt_zero _), fun i hi => absurd hi (Nat.not_lt_zero _)⟩, fun _ => rfl⟩
  | n + 1 => by
    have ih := chR_zero X Y n
    constructor
    · intro h
      have h0 : chR X Y n = 0 := by
        apply Classical.byContradiction
        intro hne
        exact hne ((chR_stick X Y n hne (n + 1) (by omega)).symm.trans h)
      obtain ⟨a1, a2⟩ := ih.1 h0
      have hp : okP (X n) (Y n) = true := by
        cases hp : okP (X n) (Y n) with
        | true => rfl
        | false => have := chR_bad X Y n (n + 1) h0 (by omega) hp; omega
      refine ⟨fun i hi => ?_, fun i hi => ?_⟩
      · by_cases e : i = n
        · subst e; exact hp
        · exact a1 i (by omega)
      · by_cases e : i + 1 = n
        · subst e
          apply Classical.byContradiction
          intro hc
          have := chR_ord X Y i (i + 1 + 1) h0 (by omega) hp (by omega)
          omega
        · exact a2 i (by omega)
    · intro ⟨a1, a2⟩
      have h0 := ih.2 ⟨fun i hi => a1 i (by omega), fun i hi => a2 i (by omega)⟩
      by_cases e : n = 0
      · subst e; exact chR_one X Y (a1 0 (by omega))
      · obtain ⟨k, rfl⟩ : ∃ k, n = k + 1 := ⟨n - 1, by omega⟩
        exact chR_go X Y k h0 (a1 (k + 1) (by omega)) (by have := a2 k (by omega); omega)
theorem rc_iff (X Y : Nat → Int) (n : Nat) : ckR X Y n = 0 ↔ Rc X Y n := by
  unfold ckR
  by_cases h0 : n = 0
  · rw [if_pos h0]; refine ⟨fun h => by omega, fun h => ?_⟩
    have := h.pos; omega
  rw [if_neg h0]
  by_cases h : 100 < n
  · rw [if_pos h]; refine ⟨fun h => by omega, fun h => ?_⟩
    have := h.len; omega
  rw [if_neg h, chR_zero]
  constructor
  · intro ⟨a1, a2⟩
    have g := fun i (hi : i < n) => okP_iff.1 (a1 i hi)
    exact ⟨by omega, by omega, fun i hi => (g i hi).1.1, fun i hi => (g i hi).1.2, fun i hi => (g i hi).2.1, fun i hi => (g i hi).2.2, a2⟩
  · intro h
    exact ⟨fun i hi => okP_iff.2 ⟨⟨h.xlo i hi, h.xhi i hi⟩, h.ylo i hi, h.yhi i hi⟩, h.asc⟩

theorem isd_any (d : Int) (w : World) : Calls Try.prog 26 #[.int .i64 d] w (Tb (dayB d) w) := by
  have HV := Lib.hid (fun W => Ca.valid_any d d W)
  have e : Ca.valB d d = dayB d := by unfold Ca.valB; cases dayB d <;> rfl
  rw [e] at HV
  generalize dayB d = t at *
  clear e
  go_enter Try.func26, Try.ntmps26
  go_wp2_with (go_at_call 38; refine (HV.out _).mono ?_; rintro e w' ⟨rfl, hb⟩)
  go_ret
  exact ⟨rfl, hb⟩
theorem risd_any (d : Int) (w : World) : Calls Try.prog 28 #[.int .i64 d] w (Tb (dayB d) w) :=
  (Ca.risday_any d w).mono fun e w' ⟨h, h2⟩ => ⟨h, by subst h2; exact Below.refl _ _⟩
theorem isl_any (x : Int) (w : World) : Calls Try.prog 27 #[.int .i64 x] w (Tb (inB x 16777216) w) := by
  by_cases h1 : 0 ≤ x <;> by_cases h2 : x ≤ 16777216
  all_goals
    go_enter Try.func27, Try.ntmps27
    go_wp2
    go_ret
    exact ⟨by simp [inB]; omega, Below.refl _ _⟩
theorem isvo_any (x : Int) (w : World) : Calls Try.prog 35 #[.int .i64 x] w (Tb (inB x 274877906944) w) := by
  by_cases h1 : 0 ≤ x <;> by_cases h2 : x ≤ 274877906944
  all_goals
    go_enter Try.func35, Try.ntmps35
    go_wp2
    go_ret
    exact ⟨by simp [inB]; omega, Below.refl _ _⟩
theorem rin2_any (x most : Int) (w : World) : Calls Try.prog 29 #[.int .i64 x, .int .i64 most] w (Tb (inB x most) w) :=
  (Ca.rin_any x most w).mono fun e w' ⟨h, h2⟩ => ⟨h, by subst h2; exact Below.refl _ _⟩

theorem rck_none (p : Option Addr) (c : Nat) (w : World) : Calls Try.prog 12 #[.slice p 0 c] w (Ek 3 w) := by
  go_enter Try.func12, Try.ntmps12
  go_wp2
  go_ret
  exact ⟨rfl, Below.refl _ _⟩
theorem rck_many (p : Option Addr) (n c : Nat) (w : World) (hn : 100 < n) : Calls Try.prog 12 #[.slice p n c] w (Ek 10 w) := by
  have e1 : ((n : Int) == 0) = false := by simp; omega
  have e2 : (100 : Int) < (n : Int) := by omega
  go_enter Try.func12, Try.ntmps12
  go_wp2
  go_ret
  exact ⟨rfl, Below.refl _ _⟩

set_option maxHeartbeats 4000000 in
theorem rck_some (b off n c : Nat) (X Y : Nat → Int) (w : World) (hn : 1 ≤ n) (hn2 : n ≤ 100) (hp : Pts w b off n X Y) : Calls Try.prog 12 #[.slice (some ⟨b, off, none⟩) n c] w (Ek (chR X Y n) w) := by
  have e1 : ((n : Int) == 0) = false := by simp; omega
  have HP := Lib.hid hp
  clear hp
  go_enter Try.func12, Try.ntmps12
  go_wp2
  go_loopw [13] (fun i wr => ∃ k : Nat, k ≤ n ∧ i = .int .i64 k ∧ Hid (chR X Y k = 0) ∧ Hid (Below w.heap.size w wr)) (fun i _ => n - (intOf i).toNat)
  case atStart => exact ⟨0, Nat.zero_le _, rfl, rfl, Below.refl _ _⟩
  case round =>
    obtain ⟨k, hk, rfl, hs, hb⟩ := hrel
    by_cases hkn : k < n
    · have HP2 := Lib.hid (HP.out.up hb.out (Nat.le_refl _))
      obtain ⟨c1, c2⟩ := HP2.out.2 k hkn
      have hws := hb.out.size
      have hbl := HP2.out.1
      have HD := Lib.hid (fun W => isd_any (X k) W)
      have HL := Lib.hid (fun W => isl_any (Y k) W)
      cases hdx : dayB (X k) with
      | false =>
        have HR := Lib.hid (chR_bad X Y k n hs.out hkn (by unfold okP; rw [hdx]; rfl))
        rw [hdx] at HD
        clear hdx hs HP HP2 HL
        generalize X k = xk at *
        generalize Y k = yk at *
        go_wp2_with (go_at_call 26; refine (HD.out _).mono ?_; rintro e w1 ⟨rfl, hb1⟩)
        go_ret
        exact ⟨by rw [HR.out]; rfl, (hb.out.alloc hws _).trans (hb1.mono (by simp; omega))⟩
      | true =>
        rw [hdx] at HD
        cases hly : inB (Y k) 16777216 with
        | false =>
          have HR := Lib.hid (chR_bad X Y k n hs.out hkn (by unfold okP; rw [hdx, hly]; rfl))
          rw [hly] at HL
          clear hdx hly hs HP HP2
          generalize X k = xk at *
          generalize Y k = yk at *
          go_wp2_with (first | (go_at_call 26; refine (HD.out _).mono ?_; rintro e w1 ⟨rfl, hb1⟩; have d2 : w1.cell? ⟨wr.heap.size, 1, none⟩ = some (.int .i64 yk) := (hb1.cell (p := ⟨wr.heap.size, 1, none⟩) (by simp)).trans (by simp); have hz1 := hb1.size) | (go_at_call 27; refine (HL.out _).mono ?_; rintro e w2 ⟨rfl, hb2⟩))
          go_ret
          exact ⟨by rw [HR.out]; rfl, ((hb.out.alloc hws _).trans (hb1.mono (by simp; omega))).trans (hb2.mono (Nat.le_trans (by simp; omega) hz1))⟩
        | true =>
          have hok : okP (X k) (Y k) = true := by unfold okP; rw [hdx, hly]; rfl
          rw [hly] at HL
          by_cases hk0 : k = 0
          · subst hk0
            rw [Nat.zero_mul, Nat.add_zero] at c1 c2
            have HN := Lib.hid (chR_one X Y hok)
            have dz : decide ((0 : Int) < ((0 : Nat) : Int)) = false := by decide
            clear hdx hly hok hs HP HP2
            generalize X 0 = xk at *
            generalize Y 0 = yk at *
            go_wp2_with (first | (go_at_call 26; refine (HD.out _).mono ?_; rintro e w1 ⟨rfl, hb1⟩; have d2 : w1.cell? ⟨wr.heap.size, 1, none⟩ = some (.int .i64 yk) := (hb1.cell (p := ⟨wr.heap.size, 1, none⟩) (by simp)).trans (by simp); have hz1 := hb1.size) | (go_at_call 27; refine (HL.out _).mono ?_; rintro e w2 ⟨rfl, hb2⟩))
            go_quiet (fail)
            go_wp2
            go_roundw
            case rel => exact ⟨1, hn, rfl, HN, below_drewN (((hb.out.alloc hws _).trans (hb1.mono (by simp; omega))).trans (hb2.mono (Nat.le_trans (by simp; omega) hz1))) _⟩
            case measure => simp [intOf]; omega
          · obtain ⟨j, rfl⟩ : ∃ j, k = j + 1 := ⟨k - 1, by omega⟩
            obtain ⟨c3, c4⟩ := HP2.out.2 j (by omega)
            have dz : decide ((0 : Int) < ((j + 1 : Nat) : Int)) = true := by rw [decide_eq_true_eq]; omega
            have hjn : (j : Int) < (n : Int) := by omega
            have hwj : IntKind.i64.wrap (((j + 1 : Nat) : Int) - 1) = (j : Int) := by rw [IntKind.wrap_i64]; omega
            by_cases hl : X (j + 1) ≤ X j
            · have HR := Lib.hid (chR_ord X Y j n hs.out (by omega) hok hl)
              clear hdx hly hok hs HP HP2 c4
              generalize X (j + 1) = xk at *
              generalize Y (j + 1) = yk at *
              generalize X j = xj at *
              have dl : decide (xk ≤ xj) = true := by rw [decide_eq_true_eq]; exact hl
              go_wp2_with (first | (go_at_call 26; refine (HD.out _).mono ?_; rintro e w1 ⟨rfl, hb1⟩; have d2 : w1.cell? ⟨wr.heap.size, 1, none⟩ = some (.int .i64 yk) := (hb1.cell (p := ⟨wr.heap.size, 1, none⟩) (by simp)).trans (by simp); have hz1 := hb1.size; have d1 : w1.cell? ⟨wr.heap.size, 0, none⟩ = some (.int .i64 xk) := (hb1.cell (p := ⟨wr.heap.size, 0, none⟩) (by simp)).trans (by simp); have d3 : w1.cell? ⟨b, off + j * 2, none⟩ = some (.int .i64 xj) := (hb1.cell (p := ⟨b, off + j * 2, none⟩) (by simp; omega)).trans ((World.grownBy_alloc wr _ none).cell c3 (by simp))) | (go_at_call 27; refine (HL.out _).mono ?_; rintro e w2 ⟨rfl, hb2⟩; have f1 : w2.cell? ⟨wr.heap.size, 0, none⟩ = some (.int .i64 xk) := (hb2.cell (p := ⟨wr.heap.size, 0, none⟩) (by simp at hz1; simp; omega)).trans d1; have f3 : w2.cell? ⟨b, off + j * 2, none⟩ = some (.int .i64 xj) := (hb2.cell (p := ⟨b, off + j * 2, none⟩) (by simp at hz1; simp; omega)).trans d3))
              go_quiet (fail)
              go_wp2
              go_ret
              exact ⟨by rw [HR.out]; rfl, below_drewN (((hb.out.alloc hws _).trans (hb1.mono (by simp; omega))).trans (hb2.mono (Nat.le_trans (by simp; omega) hz1))) _⟩
            · have HN := Lib.hid (chR_go X Y j hs.out hok hl)
              clear hdx hly hok hs HP HP2 c4
              generalize X (j + 1) = xk at *
              generalize Y (j + 1) = yk at *
              generalize X j = xj at *
              have dl : decide (xk ≤ xj) = false := by rw [decide_eq_false_iff_not]; exact hl
              go_wp2_with (first | (go_at_call 26; refine (HD.out _).mono ?_; rintro e w1 ⟨rfl, hb1⟩; have d2 : w1.cell? ⟨wr.heap.size, 1, none⟩ = some (.int .i64 yk) := (hb1.cell (p := ⟨wr.heap.size, 1, none⟩) (by simp)).trans (by simp); have hz1 := hb1.size; have d1 : w1.cell? ⟨wr.heap.size, 0, none⟩ = some (.int .i64 xk) := (hb1.cell (p := ⟨wr.heap.size, 0, none⟩) (by simp)).trans (by simp); have d3 : w1.cell? ⟨b, off + j * 2, none⟩ = some (.int .i64 xj) := (hb1.cell (p := ⟨b, off + j * 2, none⟩) (by simp; omega)).trans ((World.grownBy_alloc wr _ none).cell c3 (by simp))) | (go_at_call 27; refine (HL.out _).mono ?_; rintro e w2 ⟨rfl, hb2⟩; have f1 : w2.cell? ⟨wr.heap.size, 0, none⟩ = some (.int .i64 xk) := (hb2.cell (p := ⟨wr.heap.size, 0, none⟩) (by simp at hz1; simp; omega)).trans d1; have f3 : w2.cell? ⟨b, off + j * 2, none⟩ = some (.int .i64 xj) := (hb2.cell (p := ⟨b, off + j * 2, none⟩) (by simp at hz1; simp; omega)).trans d3))
              go_quiet (fail)
              go_wp2
              go_roundw
              case rel => exact ⟨j + 1 + 1, by omega, by go_num, HN, below_drewN (((hb.out.alloc hws _).trans (hb1.mono (by simp; omega))).trans (hb2.mono (Nat.le_trans (by simp; omega) hz1))) _⟩
              case measure => simp [intOf]; omega
    · obtain rfl : k = n := by omega
      have HR := Lib.hid hs.out
      go_wp2
      go_ret
      exact ⟨by rw [HR.out]; rfl, hb.out⟩

/-- Check of any list of points that can be read. -/
theorem rck_any (p : Option Addr) (n c : Nat) (X Y : Nat → Int) (w : World) (hp : RdP w p n X Y) : Calls Try.prog 12 #[.slice p n c] w (Ek (ckR X Y n) w) := by
  unfold ckR
  by_cases h0 : n = 0
  · rw [if_pos h0]; subst h0; exact rck_none p c w
  rw [if_neg h0]
  by_cases h1 : 100 < n
  · rw [if_pos h1]; exact rck_many p n c w h1
  rw [if_neg h1]
  obtain ⟨b, off, rfl, hpt⟩ := hp (by omega)
  exact rck_some b off n c X Y w (by omega) (by omega) hpt

theorem rrck_none (p : Option Addr) (c : Nat) (w : World) : Calls Try.prog 13 #[.slice p 0 c] w (Ek 3 w) := by
  go_enter Try.func13, Try.ntmps13
  go_wp2
  go_ret
  exact ⟨rfl, Below.refl _ _⟩
theorem rrck_many (p : Option Addr) (n c : Nat) (w : World) (hn : 100 < n) : Calls Try.prog 13 #[.slice p n c] w (Ek 10 w) := by
  have e1 : ((n : Int) == 0) = false := by simp; omega
  have e2 : (100 : Int) < (n : Int) := by omega
  go_enter Try.func13, Try.ntmps13
  go_wp2
  go_ret
  exact ⟨rfl, Below.refl _ _⟩

set_option maxHeartbeats 4000000 in
theorem rrck_some (b off n c : Nat) (X Y : Nat → Int) (w : World) (hn : 1 ≤ n) (hn2 : n ≤ 100) (hp : Pts w b off n X Y) : Calls Try.prog 13 #[.slice (some ⟨b, off, none⟩) n c] w (Ek (chR X Y n) w) := by
  have e1 : ((n : Int) == 0) = false := by simp; omega
  have HP := Lib.hid hp
  clear hp
  go_enter Try.func13, Try.ntmps13
  go_wp2
  go_loopw [13] (fun i wr => ∃ k : Nat, k ≤ n ∧ i = .int .i64 k ∧ Hid (chR X Y k = 0) ∧ Hid (Below w.heap.size w wr)) (fun i _ => n - (intOf i).toNat)
  case atStart => exact ⟨0, Nat.zero_le _, rfl, rfl, Below.refl _ _⟩
  case round =>
    obtain ⟨k, hk, rfl, hs, hb⟩ := hrel
    by_cases hkn : k < n
    · have HP2 := Lib.hid (HP.out.up hb.out (Nat.le_refl _))
      obtain ⟨c1, c2⟩ := HP2.out.2 k hkn
      have hws := hb.out.size
      have hbl := HP2.out.1
      have HD := Lib.hid (fun W => risd_any (X k) W)
      have HL := Lib.hid (fun W => rin2_any (Y k) 16777216 W)
      cases hdx : dayB (X k) with
      | false =>
        have HR := Lib.hid (chR_bad X Y k n hs.out hkn (by unfold okP; rw [hdx]; rfl))
        rw [hdx] at HD
        clear hdx hs HP HP2 HL
        generalize X k = xk at *
        generalize Y k = yk at *
        go_wp2_with (go_at_call 28; refine (HD.out _).mono ?_; rintro e w1 ⟨rfl, hb1⟩)
        go_ret
        exact ⟨by rw [HR.out]; rfl, (hb.out.alloc hws _).trans (hb1.mono (by simp; omega))⟩
      | true =>
        rw [hdx] at HD
        cases hly : inB (Y k) 16777216 with
        | false =>
          have HR := Lib.hid (chR_bad X Y k n hs.out hkn (by unfold okP; rw [hdx, hly]; rfl))
          rw [hly] at HL
          clear hdx hly hs HP HP2
          generalize X k = xk at *
          generalize Y k = yk at *
          go_wp2_with (first | (go_at_call 28; refine (HD.out _).mono ?_; rintro e w1 ⟨rfl, hb1⟩; have d2 : w1.cell? ⟨wr.heap.size, 1, none⟩ = some (.int .i64 yk) := (hb1.cell (p := ⟨wr.heap.size, 1, none⟩) (by simp)).trans (by simp); have hz1 := hb1.size) | (go_at_call 29; refine (HL.out _).mono ?_; rintro e w2 ⟨rfl, hb2⟩))
          go_ret
          exact ⟨by rw [HR.out]; rfl, ((hb.out.alloc hws _).trans (hb1.mono (by simp; omega))).trans (hb2.mono (Nat.le_trans (by simp; omega) hz1))⟩
        | true =>
          have hok : okP (X k) (Y k) = true := by unfold okP; rw [hdx, hly]; rfl
          rw [hly] at HL
          by_cases hk0 : k = 0
          · subst hk0
            rw [Nat.zero_mul, Nat.add_zero] at c1 c2
            have HN := Lib.hid (chR_one X Y hok)
            have dz : decide ((0 : Int) < ((0 : Nat) : Int)) = false := by decide
            clear hdx hly hok hs HP HP2
            generalize X 0 = xk at *
            generalize Y 0 = yk at *
            go_wp2_with (first | (go_at_call 28; refine (HD.out _).mono ?_; rintro e w1 ⟨rfl, hb1⟩; have d2 : w1.cell? ⟨wr.heap.size, 1, none⟩ = some (.int .i64 yk) := (hb1.cell (p := ⟨wr.heap.size, 1, none⟩) (by simp)).trans (by simp); have hz1 := hb1.size) | (go_at_call 29; refine (HL.out _).mono ?_; rintro e w2 ⟨rfl, hb2⟩))
            go_quiet (fail)
            go_wp2
            go_roundw
            case rel => exact ⟨1, hn, rfl, HN, below_drewN (((hb.out.alloc hws _).trans (hb1.mono (by simp; omega))).trans (hb2.mono (Nat.le_trans (by simp; omega) hz1))) _⟩
            case measure => simp [intOf]; omega
          · obtain ⟨j, rfl⟩ : ∃ j, k = j + 1 := ⟨k - 1, by omega⟩
            obtain ⟨c3, c4⟩ := HP2.out.2 j (by omega)
            have dz : decide ((0 : Int) < ((j + 1 : Nat) : Int)) = true := by rw [decide_eq_true_eq]; omega
            have hjn : (j : Int) < (n : Int) := by omega
            have hwj : IntKind.i64.wrap (((j + 1 : Nat) : Int) - 1) = (j : Int) := by rw [IntKind.wrap_i64]; omega
            by_cases hl : X (j + 1) ≤ X j
            · have HR := Lib.hid (chR_ord X Y j n hs.out (by omega) hok hl)
              clear hdx hly hok hs HP HP2 c4
              generalize X (j + 1) = xk at *
              generalize Y (j + 1) = yk at *
              generalize X j = xj at *
              have dl : decide (xk ≤ xj) = true := by rw [decide_eq_true_eq]; exact hl
              go_wp2_with (first | (go_at_call 28; refine (HD.out _).mono ?_; rintro e w1 ⟨rfl, hb1⟩; have d2 : w1.cell? ⟨wr.heap.size, 1, none⟩ = some (.int .i64 yk) := (hb1.cell (p := ⟨wr.heap.size, 1, none⟩) (by simp)).trans (by simp); have hz1 := hb1.size; have d1 : w1.cell? ⟨wr.heap.size, 0, none⟩ = some (.int .i64 xk) := (hb1.cell (p := ⟨wr.heap.size, 0, none⟩) (by simp)).trans (by simp); have d3 : w1.cell? ⟨b, off + j * 2, none⟩ = some (.int .i64 xj) := (hb1.cell (p := ⟨b, off + j * 2, none⟩) (by simp; omega)).trans ((World.grownBy_alloc wr _ none).cell c3 (by simp))) | (go_at_call 29; refine (HL.out _).mono ?_; rintro e w2 ⟨rfl, hb2⟩; have f1 : w2.cell? ⟨wr.heap.size, 0, none⟩ = some (.int .i64 xk) := (hb2.cell (p := ⟨wr.heap.size, 0, none⟩) (by simp at hz1; simp; omega)).trans d1; have f3 : w2.cell? ⟨b, off + j * 2, none⟩ = some (.int .i64 xj) := (hb2.cell (p := ⟨b, off + j * 2, none⟩) (by simp at hz1; simp; omega)).trans d3))
              go_quiet (fail)
              go_wp2
              go_ret
              exact ⟨by rw [HR.out]; rfl, below_drewN (((hb.out.alloc hws _).trans (hb1.mono (by simp; omega))).trans (hb2.mono (Nat.le_trans (by simp; omega) hz1))) _⟩
            · have HN := Lib.hid (chR_go X Y j hs.out hok hl)
              clear hdx hly hok hs HP HP2 c4
              generalize X (j + 1) = xk at *
              generalize Y (j + 1) = yk at *
              generalize X j = xj at *
              have dl : decide (xk ≤ xj) = false := by rw [decide_eq_false_iff_not]; exact hl
              go_wp2_with (first | (go_at_call 28; refine (HD.out _).mono ?_; rintro e w1 ⟨rfl, hb1⟩; have d2 : w1.cell? ⟨wr.heap.size, 1, none⟩ = some (.int .i64 yk) := (hb1.cell (p := ⟨wr.heap.size, 1, none⟩) (by simp)).trans (by simp); have hz1 := hb1.size; have d1 : w1.cell? ⟨wr.heap.size, 0, none⟩ = some (.int .i64 xk) := (hb1.cell (p := ⟨wr.heap.size, 0, none⟩) (by simp)).trans (by simp); have d3 : w1.cell? ⟨b, off + j * 2, none⟩ = some (.int .i64 xj) := (hb1.cell (p := ⟨b, off + j * 2, none⟩) (by simp; omega)).trans ((World.grownBy_alloc wr _ none).cell c3 (by simp))) | (go_at_call 29; refine (HL.out _).mono ?_; rintro e w2 ⟨rfl, hb2⟩; have f1 : w2.cell? ⟨wr.heap.size, 0, none⟩ = some (.int .i64 xk) := (hb2.cell (p := ⟨wr.heap.size, 0, none⟩) (by simp at hz1; simp; omega)).trans d1; have f3 : w2.cell? ⟨b, off + j * 2, none⟩ = some (.int .i64 xj) := (hb2.cell (p := ⟨b, off + j * 2, none⟩) (by simp at hz1; simp; omega)).trans d3))
              go_quiet (fail)
              go_wp2
              go_roundw
              case rel => exact ⟨j + 1 + 1, by omega, by go_num, HN, below_drewN (((hb.out.alloc hws _).trans (hb1.mono (by simp; omega))).trans (hb2.mono (Nat.le_trans (by simp; omega) hz1))) _⟩
              case measure => simp [intOf]; omega
    · obtain rfl : k = n := by omega
      have HR := Lib.hid hs.out
      go_wp2
      go_ret
      exact ⟨by rw [HR.out]; rfl, hb.out⟩

/-- Check of any list of points that can be read. -/
theorem rrck_any (p : Option Addr) (n c : Nat) (X Y : Nat → Int) (w : World) (hp : RdP w p n X Y) : Calls Try.prog 13 #[.slice p n c] w (Ek (ckR X Y n) w) := by
  unfold ckR
  by_cases h0 : n = 0
  · rw [if_pos h0]; subst h0; exact rrck_none p c w
  rw [if_neg h0]
  by_cases h1 : 100 < n
  · rw [if_pos h1]; exact rrck_many p n c w h1
  rw [if_neg h1]
  obtain ⟨b, off, rfl, hpt⟩ := hp (by omega)
  exact rrck_some b off n c X Y w (by omega) (by omega) hpt
end Go.Proofs.Ytdblppbjlgmccaa.Ru

/-
  Verdicts: what they are, by whole numbers alone.
-/
import Derived.Test.YtkflgiopkopeeaaQlFns
namespace Go.Proofs.Ytkflgiopkopeeaa.Ql
open Go.ChangeShapes Go.WideShapes Go.ChangeAt Go.RowKit
set_option linter.unusedVariables false

/-- P8.1: the verdict on a value with a flag: lg the place of the last good reading (or -1), lv its value, sm how many in a row are the same. -/
def vdI (l m j s v f lg lv i sm : Int) : Int :=
  if f = 2 then 2 else if v < l ∨ m < v then 3 else if lg ≠ -1 ∧ wrap64 (j * (i - lg)) < dst v lv then 4 else if 0 < s ∧ s ≤ sm then 5 else 1
theorem vd_miss {l m j s v f lg lv i sm : Int} (h : f = 2) : vdI l m j s v f lg lv i sm = 2 := if_pos h
theorem vd_range {l m j s v f lg lv i sm : Int} (h : ¬ f = 2) (h2 : v < l ∨ m < v) : vdI l m j s v f lg lv i sm = 3 := by unfold vdI; rw [if_neg h, if_pos h2]
theorem vd_jump {l m j s v f lg lv i sm : Int} (h : ¬ f = 2) (h2 : ¬ (v < l ∨ m < v)) (h3 : lg ≠ -1 ∧ wrap64 (j * (i - lg)) < dst v lv) : vdI l m j s v f lg lv i sm = 4 := by unfold vdI; rw [if_neg h, if_neg h2, if_pos h3]
theorem vd_stuck {l m j s v f lg lv i sm : Int} (h : ¬ f = 2) (h2 : ¬ (v < l ∨ m < v)) (h3 : ¬ (lg ≠ -1 ∧ wrap64 (j * (i - lg)) < dst v lv)) (h4 : 0 < s ∧ s ≤ sm) : vdI l m j s v f lg lv i sm = 5 := by unfold vdI; rw [if_neg h, if_neg h2, if_neg h3, if_pos h4]
theorem vd_good {l m j s v f lg lv i sm : Int} (h : ¬ f = 2) (h2 : ¬ (v < l ∨ m < v)) (h3 : ¬ (lg ≠ -1 ∧ wrap64 (j * (i - lg)) < dst v lv)) (h4 : ¬ (0 < s ∧ s ≤ sm)) : vdI l m j s v f lg lv i sm = 1 := by unfold vdI; rw [if_neg h, if_neg h2, if_neg h3, if_neg h4]
theorem vd_bd (l m j s v f lg lv i sm : Int) : 1 ≤ vdI l m j s v f lg lv i sm ∧ vdI l m j s v f lg lv i sm ≤ 5 := by
  unfold vdI
  repeat' split
  all_goals omega
/-- How many readings in a row, this one the last, have its value and no fault. -/
def rnN (R : Nat → Nat → Int) : Nat → Nat
  | 0 => if R 0 3 = 2 then 0 else 1
  | i + 1 => if R (i + 1) 3 = 2 then 0 else if R (i + 1) 2 = R i 2 then rnN R i + 1 else 1
theorem rn_le (R : Nat → Nat → Int) : ∀ i, rnN R i ≤ i + 1
  | 0 => by unfold rnN; split <;> omega
  | i + 1 => by
    have := rn_le R i
    unfold rnN
    repeat' split
    all_goals omega
theorem rn_all (R : Nat → Nat → Int) : ∀ i k, i + 1 - rnN R i ≤ k → k ≤ i → R k 3 ≠ 2 ∧ R k 2 = R i 2
  | 0, k, h, hk => by
    obtain rfl : k = 0 := by omega
    unfold rnN at h
    split at h
    · omega
    · rename_i e; exact ⟨e, rfl⟩
  | i + 1, k, h, hk => by
    unfold rnN at h
    split at h
    · omega
    · rename_i e
      split at h
      · rename_i e2
        by_cases e3 : k = i + 1
        · subst e3; exact ⟨e, rfl⟩
        · have := rn_all R i k (by omega) (by omega)
          exact ⟨this.1, this.2.trans e2.symm⟩
      · obtain rfl : k = i + 1 := by omega
        exact ⟨e, rfl⟩
theorem rn_ge (R : Nat → Nat → Int) : ∀ i t : Nat, t ≤ i + 1 → (∀ k, i + 1 - t ≤ k → k ≤ i → R k 3 ≠ 2 ∧ R k 2 = R i 2) → t ≤ rnN R i
  | 0, t, h, hk => by
    by_cases e : t = 0
    · omega
    · have := (hk 0 (by omega) (Nat.le_refl _)).1
      unfold rnN
      rw [if_neg this]
      omega
  | i + 1, t, h, hk => by
    by_cases e : t = 0
    · omega
    · have h1 := (hk (i + 1) (by omega) (Nat.le_refl _)).1
      unfold rnN
      rw [if_neg h1]
      by_cases e2 : t = 1
      · split <;> omega
      · have h2 := (hk i (by omega) (by omega)).2
        rw [if_pos h2.symm]
        have := rn_ge R i (t - 1) (by omega) (fun k a b => by
          have := hk k (by omega) (by omega)
          exact ⟨this.1, this.2.trans h2.symm⟩)
        omega
/-- The run that goes on by one reading. -/
def rnX (v f pv sm : Int) : Int := if f = 2 then 0 else if v = pv then sm + 1 else 1
theorem rn_step (R : Nat → Nat → Int) (i : Nat) : ((rnN R (i + 1) : Nat) : Int) = rnX (R (i + 1) 2) (R (i + 1) 3) (R i 2) (rnN R i : Int) := by
  show ((if _ then _ else _ : Nat) : Int) = _
  unfold rnX
  repeat' split
  all_goals simp
/-- The place of the last good reading before i, or -1. -/
def lgN (l m j s : Int) (R : Nat → Nat → Int) : Nat → Int
  | 0 => -1
  | i + 1 => if vdI l m j s (R i 2) (R i 3) (lgN l m j s R i) (R (lgN l m j s R i).toNat 2) (i : Int) (rnN R i : Int) = 1 then (i : Int) else lgN l m j s R i
/-- The verdict on reading i of a list. -/
def vrI (l m j s : Int) (R : Nat → Nat → Int) (i : Nat) : Int := vdI l m j s (R i 2) (R i 3) (lgN l m j s R i) (R (lgN l m j s R i).toNat 2) (i : Int) (rnN R i : Int)
theorem lg_yes {l m j s : Int} {R : Nat → Nat → Int} {i : Nat} (h : vrI l m j s R i = 1) : lgN l m j s R (i + 1) = (i : Int) := if_pos h
theorem lg_no {l m j s : Int} {R : Nat → Nat → Int} {i : Nat} (h : ¬ vrI l m j s R i = 1) : lgN l m j s R (i + 1) = lgN l m j s R i := if_neg h
theorem lg_bd (l m j s : Int) (R : Nat → Nat → Int) : ∀ i : Nat, -1 ≤ lgN l m j s R i ∧ lgN l m j s R i < (i : Int)
  | 0 => ⟨by simp [lgN], by simp [lgN]⟩
  | i + 1 => by
    have ih := lg_bd l m j s R i
    by_cases h : vrI l m j s R i = 1
    · rw [lg_yes h]; omega
    · rw [lg_no h]; omega
theorem vr_bd (l m j s : Int) (R : Nat → Nat → Int) (i : Nat) : 1 ≤ vrI l m j s R i ∧ vrI l m j s R i ≤ 5 := vd_bd _ _ _ _ _ _ _ _ _ _
/-- The same readings get the same verdicts. -/
theorem rn_congr {R R' : Nat → Nat → Int} : ∀ n, (∀ i, i < n → R i 2 = R' i 2 ∧ R i 3 = R' i 3) → ∀ i, i < n → rnN R i = rnN R' i
  | n, h, 0, hi => by
    show (if _ then _ else _ : Nat) = (if _ then _ else _ : Nat)
    rw [(h 0 hi).2]
  | n, h, i + 1, hi => by
    show (if _ then _ else _ : Nat) = (if _ then _ else _ : Nat)
    rw [(h (i + 1) hi).2, (h (i + 1) hi).1, (h i (by omega)).1, rn_congr n h i (by omega)]
theorem lg_congr {l m j s : Int} {R R' : Nat → Nat → Int} (n : Nat) (h : ∀ i, i < n → R i 2 = R' i 2 ∧ R i 3 = R' i 3) : ∀ i, i ≤ n → lgN l m j s R i = lgN l m j s R' i
  | 0, _ => rfl
  | i + 1, hi => by
    have ih := lg_congr (l := l) (m := m) (j := j) (s := s) n h i (by omega)
    have hb := lg_bd l m j s R' i
    show (if _ then _ else _ : Int) = (if _ then _ else _ : Int)
    rw [ih, (h i (by omega)).1, (h i (by omega)).2, rn_congr n h i (by omega)]
    by_cases e : lgN l m j s R' i = -1
    · rw [e]
      have e2 : ∀ a b : Int, vdI l m j s (R' i 2) (R' i 3) (-1) a (i : Int) (rnN R' i : Int) = vdI l m j s (R' i 2) (R' i 3) (-1) b (i : Int) (rnN R' i : Int) := by intro a b; unfold vdI; simp
      rw [e2 (R (-1 : Int).toNat 2) (R' (-1 : Int).toNat 2)]
    · rw [(h (lgN l m j s R' i).toNat (by omega)).1]
theorem vr_congr {l m j s : Int} {R R' : Nat → Nat → Int} (n : Nat) (h : ∀ i, i < n → R i 2 = R' i 2 ∧ R i 3 = R' i 3) (i : Nat) (hi : i < n) : vrI l m j s R i = vrI l m j s R' i := by
  unfold vrI
  have hb := lg_bd l m j s R' i
  rw [lg_congr n h i (by omega), (h i hi).1, (h i hi).2, rn_congr n h i hi]
  by_cases e : lgN l m j s R' i = -1
  · rw [e]
    unfold vdI
    simp
  · rw [(h (lgN l m j s R' i).toNat (by omega)).1]
/-- The error of a call over a list of n readings, and how many verdicts there are. -/
def vdE (l m j s : Int) (R : Nat → Nat → Int) (n : Nat) : Int := if chC l m j s = 0 then Gg.alG R n else chC l m j s
def vdN (l m j s : Int) (R : Nat → Nat → Int) (n : Nat) : Nat := if vdE l m j s R n = 0 then n else 0
end Go.Proofs.Ytkflgiopkopeeaa.Ql

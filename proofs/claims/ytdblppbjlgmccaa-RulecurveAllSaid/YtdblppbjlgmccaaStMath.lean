/-
  Reservoirs by whole numbers: the error of a reservoir, its zones, its levels.
-/
import Derived.Test.YtdblppbjlgmccaaStAt
namespace Go.Proofs.Ytdblppbjlgmccaa.Cu
set_option linter.unusedVariables false

/-- The Y of n points ascend strictly. -/
def risB (Y : Nat → Int) (n : Nat) : Bool := decide (∀ i, i < n - 1 → Y i < Y (i + 1))
/-- The levels ascend. -/
def lvlB (x0 D L F S C x9 : Int) : Bool := decide (x0 ≤ D ∧ D ≤ L ∧ L ≤ F ∧ F ≤ S ∧ S ≤ C ∧ C ≤ x9)
/-- P3.1: the first error of a reservoir. -/
def stC (X Y : Nat → Int) (n : Nat) (D L F S C : Int) : Int :=
  if chkC X Y n ≠ 0 then chkC X Y n else if n < 2 then 3 else if 16777216 < X (n - 1) then 1 else if risB Y n = false then 4 else if lvlB (X 0) D L F S C (X (n - 1)) = false then 4 else 0
/-- A valid reservoir with the points 0, .., m. -/
structure Res (X Y : Nat → Int) (m : Nat) (D L F S C : Int) : Prop where
  cur : Cur X Y m
  two : 1 ≤ m
  top : X m ≤ 16777216
  ris : ∀ i, i < m → Y i < Y (i + 1)
  lev : X 0 ≤ D ∧ D ≤ L ∧ L ≤ F ∧ F ≤ S ∧ S ≤ C ∧ C ≤ X m
theorem stC_ok {X Y : Nat → Int} {m : Nat} {D L F S C : Int} (h : Res X Y m D L F S C) : stC X Y (m + 1) D L F S C = 0 := by
  unfold stC
  have h1 := h.two
  have h2 := h.top
  rw [if_neg (by simp [(cur_iff X Y m).2 h.cur]), if_neg (by omega), show m + 1 - 1 = m by omega, if_neg (by omega), if_neg, if_neg]
  · simp only [lvlB, decide_eq_false_iff_not, Classical.not_not]; exact h.lev
  · simp only [risB, decide_eq_false_iff_not, Classical.not_not]; exact fun i hi => h.ris i (by omega)
/-- A reservoir is valid, or its error is no 0. -/
theorem stC_cases (X Y : Nat → Int) (n : Nat) (D L F S C : Int) : (∃ m, n = m + 1 ∧ Res X Y m D L F S C ∧ stC X Y n D L F S C = 0) ∨ stC X Y n D L F S C ≠ 0 := by
  by_cases h0 : stC X Y n D L F S C = 0
  · refine .inl ?_
    have h := h0
    unfold stC at h
    by_cases h1 : chkC X Y n ≠ 0
    · rw [if_pos h1] at h; exact absurd h h1
    rw [if_neg h1] at h
    by_cases h2 : n < 2
    · rw [if_pos h2] at h; omega
    rw [if_neg h2] at h
    by_cases h3 : 16777216 < X (n - 1)
    · rw [if_pos h3] at h; omega
    rw [if_neg h3] at h
    by_cases h4 : risB Y n = false
    · rw [if_pos h4] at h; omega
    rw [if_neg h4] at h
    by_cases h5 : lvlB (X 0) D L F S C (X (n - 1)) = false
    · rw [if_pos h5] at h; omega
    obtain ⟨m, rfl⟩ : ∃ m, n = m + 1 := ⟨n - 1, by omega⟩
    have e : m + 1 - 1 = m := by omega
    rw [e] at h3 h5
    simp only [risB, decide_eq_false_iff_not, Classical.not_not, e] at h4
    simp only [lvlB, decide_eq_false_iff_not, Classical.not_not] at h5
    exact ⟨m, rfl, ⟨(cur_iff X Y m).1 (Classical.not_not.1 h1), by omega, by omega, h4, h5⟩, h0⟩
  · exact .inr h0

/-- The error and the value of a question. -/
def ansE (c : Int) (ok : Bool) : Int := if c ≠ 0 then c else if ok = true then 0 else 1
def ansV (c : Int) (ok : Bool) (v : Int) : Int := if c ≠ 0 then 0 else if ok = true then v else 0
theorem ans_ok (v : Int) : ansE 0 true = 0 ∧ ansV 0 true v = v := ⟨rfl, rfl⟩
/-- P3.3. -/
def zon (D L F S C l : Int) : Int := if l < D then 0 else if l < L then 1 else if l < F then 2 else if l ≤ S then 3 else if l ≤ C then 4 else 5
theorem zon_mono {D L F S C : Int} (h : D ≤ L ∧ L ≤ F ∧ F ≤ S ∧ S ≤ C) {a b : Int} (hab : a ≤ b) : zon D L F S C a ≤ zon D L F S C b := by
  unfold zon; repeat' split <;> omega
theorem zon_bd (D L F S C l : Int) : 0 ≤ zon D L F S C l ∧ zon D L F S C l ≤ 5 := by unfold zon; repeat' split <;> omega
/-- P3.2: the level of a volume. -/
def levV (X Y : Nat → Int) (m : Nat) (v : Int) : Int := if laB Y v = true then laV X Y m v else X 0
theorem la_facts {X Y : Nat → Int} {m : Nat} (h : Cur X Y m) (y : Int) :
    (laB Y y = true ∧ X 0 ≤ laV X Y m y ∧ laV X Y m y < X m ∧ val X Y m (laV X Y m y) ≤ y ∧ y < val X Y m (laV X Y m y + 1)) ∨
    (laB Y y = true ∧ X 0 ≤ laV X Y m y ∧ laV X Y m y ≤ X m ∧ X m ≤ laV X Y m y ∧ val X Y m (laV X Y m y) ≤ y) ∨ (laB Y y = false ∧ y < Y 0 ∧ laV X Y m y = 0) := by
  unfold laB laV
  by_cases hy : y < Y 0
  · rw [if_pos hy, decide_eq_true hy]; exact .inr (.inr ⟨rfl, hy, rfl⟩)
  · rw [if_neg hy, decide_eq_false hy]
    by_cases hz : Y m ≤ y
    · rw [if_pos hz]
      have hx := h.asc.xle m 0 (Nat.zero_le _) (Nat.le_refl _)
      exact .inr (.inl ⟨rfl, hx, Int.le_refl _, Int.le_refl _, by rw [val_high X Y m _ (Int.le_refl _)]; exact hz⟩)
    · rw [if_neg hz]
      obtain ⟨f1, f2, f3, f4⟩ := fst_spec X Y m h.asc (y + 1) (by omega)
      have hx : X 0 < fst X Y m (y + 1) := by
        apply Classical.byContradiction
        intro hc
        have e : fst X Y m (y + 1) = X 0 := by omega
        rw [e, val_low X Y m h.asc _ (Int.le_refl _)] at f3
        omega
      have h5 := f4 _ hx (show fst X Y m (y + 1) - 1 < _ by omega)
      exact .inl ⟨rfl, by omega, by omega, by omega, by rw [show fst X Y m (y + 1) - 1 + 1 = fst X Y m (y + 1) by omega]; omega⟩
/-- Where a number of the curve lies to the level of a volume. -/
theorem lev_facts {X Y : Nat → Int} {m : Nat} (h : Cur X Y m) (y : Int) :
    X 0 ≤ levV X Y m y ∧ levV X Y m y ≤ X m ∧ (Y 0 ≤ y → val X Y m (levV X Y m y) ≤ y) ∧ (levV X Y m y < X m → y < val X Y m (levV X Y m y + 1)) := by
  have hx := h.asc.xle m 0 (Nat.zero_le _) (Nat.le_refl _)
  unfold levV
  rcases la_facts h y with ⟨e, h1, h2, h3, h4⟩ | ⟨e, h1, h2, h3, h4⟩ | ⟨e, h1, h2⟩
  · rw [if_pos e]; exact ⟨h1, by omega, fun _ => h3, fun _ => h4⟩
  · rw [if_pos e]; exact ⟨h1, h2, fun _ => h4, fun hh => by omega⟩
  · rw [if_neg (by rw [e]; exact Bool.false_ne_true)]
    refine ⟨Int.le_refl _, hx, fun hh => by omega, fun _ => ?_⟩
    have := (val_bd X Y m h.asc (X 0 + 1)).1
    omega
theorem lev_mono {X Y : Nat → Int} {m : Nat} (h : Cur X Y m) {y y' : Int} (hy : y ≤ y') : levV X Y m y ≤ levV X Y m y' := by
  obtain ⟨a1, a2, a3, a4⟩ := lev_facts h y
  obtain ⟨b1, b2, b3, b4⟩ := lev_facts h y'
  apply Classical.byContradiction
  intro hc
  have h4 := b4 (by omega)
  have h5 := val_mono X Y m h.asc (levV X Y m y' + 1) (levV X Y m y) (by omega)
  by_cases h6 : Y 0 ≤ y
  · have := a3 h6; omega
  · have e : levV X Y m y = X 0 := by
      unfold levV laB; rw [if_neg]; simp; omega
    omega
end Go.Proofs.Ytdblppbjlgmccaa.Cu

/-
  Piecewise linear functions by whole numbers: the value at a number, and the first place at which a number is reached.
-/
import Derived.Lib.Hide
namespace Go.Proofs.Ytbcjigociliflaa.Cu

theorem mulp {a b : Int} (ha : 0 ≤ a) (hb : 0 ≤ b) : 0 ≤ a * b := Int.mul_nonneg ha hb

/-- The line from point i to point i + 1, rounded down. -/
def lin (X Y : Nat → Int) (i : Nat) (x : Int) : Int := Y i + (x - X i) * (Y (i + 1) - Y i) / (X (i + 1) - X i)
/-- The value of the curve with the points 0, .., m. -/
def val (X Y : Nat → Int) : Nat → Int → Int
  | 0, _ => Y 0
  | m + 1, x => if X (m + 1) ≤ x then Y (m + 1) else if X m ≤ x then lin X Y m x else val X Y m x
/-- The least number on the line from point i to point i + 1 at which y is reached. -/
def cel (X Y : Nat → Int) (i : Nat) (y : Int) : Int := X i - (-(y - Y i)) * (X (i + 1) - X i) / (Y (i + 1) - Y i)
/-- The least number of the curve at which y is reached. -/
def fst (X Y : Nat → Int) : Nat → Int → Int
  | 0, _ => X 0
  | m + 1, y => if Y m < y then cel X Y m y else fst X Y m y

/-- X ascends strictly, Y does not descend, from point 0 to point m. -/
def Asc (X Y : Nat → Int) (m : Nat) : Prop := ∀ i, i < m → X i < X (i + 1) ∧ Y i ≤ Y (i + 1)

theorem Asc.mono {X Y : Nat → Int} {m k : Nat} (h : Asc X Y m) (hk : k ≤ m) : Asc X Y k := fun i hi => h i (Nat.lt_of_lt_of_le hi hk)
theorem Asc.xle {X Y : Nat → Int} {m : Nat} (h : Asc X Y m) : ∀ (j i : Nat), i ≤ j → j ≤ m → X i ≤ X j
  | 0, i, hi, _ => by obtain rfl : i = 0 := by omega
                      exact Int.le_refl _
  | j + 1, i, hi, hj => by
    by_cases e : i = j + 1
    · subst e; exact Int.le_refl _
    · have h1 := h.xle j i (by omega) (by omega)
      have h2 := (h j (by omega)).1
      omega
theorem Asc.xlt {X Y : Nat → Int} {m : Nat} (h : Asc X Y m) (j i : Nat) (hi : i < j) (hj : j ≤ m) : X i < X j := by
  have h1 := h.xle j (i + 1) (by omega) hj
  have h2 := (h i (by omega)).1
  omega
theorem Asc.yle {X Y : Nat → Int} {m : Nat} (h : Asc X Y m) : ∀ (j i : Nat), i ≤ j → j ≤ m → Y i ≤ Y j
  | 0, i, hi, _ => by obtain rfl : i = 0 := by omega
                      exact Int.le_refl _
  | j + 1, i, hi, hj => by
    by_cases e : i = j + 1
    · subst e; exact Int.le_refl _
    · have h1 := h.yle j i (by omega) (by omega)
      have h2 := (h j (by omega)).2
      omega

theorem ediv_mono {a b d : Int} (hd : 0 < d) (h : a ≤ b) : a / d ≤ b / d := Int.ediv_le_ediv hd h
theorem le_div {a b d : Int} (hd : 0 < d) : a ≤ b / d ↔ a * d ≤ b := Int.le_ediv_iff_mul_le hd
theorem div_lt {a b d : Int} (hd : 0 < d) : a / d < b ↔ a < b * d := Int.ediv_lt_iff_lt_mul hd

theorem lin_at0 (X Y : Nat → Int) (i : Nat) : lin X Y i (X i) = Y i := by unfold lin; rw [Int.sub_self, Int.zero_mul, Int.zero_ediv, Int.add_zero]
theorem lin_at1 (X Y : Nat → Int) (i : Nat) (h : X i < X (i + 1)) : lin X Y i (X (i + 1)) = Y (i + 1) := by
  unfold lin; rw [Int.mul_comm, Int.mul_ediv_cancel _ (by omega)]; omega
theorem lin_mono (X Y : Nat → Int) (i : Nat) (h : X i < X (i + 1) ∧ Y i ≤ Y (i + 1)) (x x' : Int) (hx : x ≤ x') : lin X Y i x ≤ lin X Y i x' := by
  unfold lin
  have h1 : (x - X i) * (Y (i + 1) - Y i) ≤ (x' - X i) * (Y (i + 1) - Y i) := Int.mul_le_mul_of_nonneg_right (by omega) (by omega)
  have h2 := ediv_mono (d := X (i + 1) - X i) (by omega) h1
  omega

theorem val_high (X Y : Nat → Int) : ∀ (m : Nat) (x : Int), X m ≤ x → val X Y m x = Y m
  | 0, x, _ => rfl
  | m + 1, x, h => by unfold val; rw [if_pos h]
theorem val_low (X Y : Nat → Int) : ∀ (m : Nat), Asc X Y m → ∀ (x : Int), x ≤ X 0 → val X Y m x = Y 0
  | 0, _, x, _ => rfl
  | m + 1, h, x, hx => by
    unfold val
    have h1 := h.xlt (m + 1) 0 (by omega) (Nat.le_refl _)
    rw [if_neg (by omega)]
    by_cases e : m = 0
    · subst e
      by_cases e2 : X 0 ≤ x
      · obtain rfl : x = X 0 := by omega
        rw [if_pos e2, lin_at0]
      · rw [if_neg e2]; rfl
    · have h2 := h.xlt m 0 (by omega) (by omega)
      rw [if_neg (by omega)]
      exact val_low X Y m (h.mono (by omega)) x hx
theorem val_seg (X Y : Nat → Int) : ∀ (m : Nat), Asc X Y m → ∀ (i : Nat), i < m → ∀ (x : Int), X i ≤ x → x ≤ X (i + 1) → val X Y m x = lin X Y i x
  | 0, _, i, hi, _, _, _ => absurd hi (Nat.not_lt_zero _)
  | m + 1, h, i, hi, x, h1, h2 => by
    unfold val
    by_cases e1 : X (m + 1) ≤ x
    · rw [if_pos e1]
      by_cases e : i = m
      · subst e
        obtain rfl : x = X (i + 1) := by omega
        rw [lin_at1 X Y i (h i hi).1]
      · have := h.xlt (m + 1) (i + 1) (by omega) (Nat.le_refl _); omega
    · rw [if_neg e1]
      by_cases e2 : X m ≤ x
      · rw [if_pos e2]
        by_cases e : i = m
        · subst e; rfl
        · have h3 := h.xle m (i + 1) (by omega) (by omega)
          obtain rfl : x = X (i + 1) := by omega
          by_cases e4 : i + 1 = m
          · subst e4
            rw [lin_at0, lin_at1 X Y i (h i hi).1]
          · have := h.xlt m (i + 1) (by omega) (by omega); omega
      · rw [if_neg e2]
        have : i ≠ m := fun e => e2 (by rw [← e]; exact h1)
        exact val_seg X Y m (h.mono (by omega)) i (by omega) x h1 h2
theorem seg_ex (X Y : Nat → Int) : ∀ (m : Nat), Asc X Y m → ∀ (x : Int), X 0 ≤ x → x < X m → ∃ i, i < m ∧ X i ≤ x ∧ x < X (i + 1)
  | 0, _, x, h1, h2 => by omega
  | m + 1, h, x, h1, h2 => by
    by_cases e : X m ≤ x
    · exact ⟨m, by omega, e, h2⟩
    · obtain ⟨i, hi, h3, h4⟩ := seg_ex X Y m (h.mono (by omega)) x h1 (by omega)
      exact ⟨i, by omega, h3, h4⟩
theorem val_bd (X Y : Nat → Int) (m : Nat) (h : Asc X Y m) (x : Int) : Y 0 ≤ val X Y m x ∧ val X Y m x ≤ Y m := by
  have hm := h.yle m 0 (by omega) (Nat.le_refl _)
  by_cases h1 : x ≤ X 0
  · rw [val_low X Y m h x h1]; omega
  by_cases h2 : X m ≤ x
  · rw [val_high X Y m x h2]; omega
  obtain ⟨i, hi, h3, h4⟩ := seg_ex X Y m h x (by omega) (by omega)
  rw [val_seg X Y m h i hi x h3 (by omega)]
  have h5 := lin_mono X Y i (h i hi) _ _ h3
  have h6 := lin_mono X Y i (h i hi) _ _ (show x ≤ X (i + 1) by omega)
  rw [lin_at0] at h5
  rw [lin_at1 X Y i (h i hi).1] at h6
  have h7 := h.yle i 0 (by omega) (by omega)
  have h8 := h.yle m (i + 1) (by omega) (Nat.le_refl _)
  omega
theorem val_mono (X Y : Nat → Int) (m : Nat) (h : Asc X Y m) (x x' : Int) (hx : x ≤ x') : val X Y m x ≤ val X Y m x' := by
  by_cases h1 : x ≤ X 0
  · rw [val_low X Y m h x h1]; exact (val_bd X Y m h x').1
  by_cases h2 : X m ≤ x'
  · rw [val_high X Y m x' h2]; exact (val_bd X Y m h x).2
  obtain ⟨i, hi, h3, h4⟩ := seg_ex X Y m h x (by omega) (by omega)
  obtain ⟨j, hj, h5, h6⟩ := seg_ex X Y m h x' (by omega) (by omega)
  rw [val_seg X Y m h i hi x h3 (by omega), val_seg X Y m h j hj x' h5 (by omega)]
  by_cases e : i = j
  · subst e; exact lin_mono X Y i (h i hi) _ _ hx
  · have e2 : i < j := by
      apply Classical.byContradiction
      intro hc
      have := h.xle i (j + 1) (by omega) (by omega)
      omega
    have h7 := lin_mono X Y i (h i hi) _ _ (show x ≤ X (i + 1) by omega)
    rw [lin_at1 X Y i (h i hi).1] at h7
    have h8 := lin_mono X Y j (h j hj) _ _ h5
    rw [lin_at0] at h8
    have h9 := h.yle j (i + 1) (by omega) (by omega)
    omega

/-- The line reaches y just from cel on. -/
theorem lin_cel (X Y : Nat → Int) (i : Nat) (h : X i < X (i + 1)) (y x : Int) (hy : Y i < Y (i + 1)) : y ≤ lin X Y i x ↔ cel X Y i y ≤ x := by
  unfold lin cel
  have h1 : y ≤ Y i + (x - X i) * (Y (i + 1) - Y i) / (X (i + 1) - X i) ↔ (y - Y i) * (X (i + 1) - X i) ≤ (x - X i) * (Y (i + 1) - Y i) := by
    rw [← le_div (by omega)]; omega
  have h2 : X i - (-(y - Y i)) * (X (i + 1) - X i) / (Y (i + 1) - Y i) ≤ x ↔ (-(x - X i)) * (Y (i + 1) - Y i) ≤ (-(y - Y i)) * (X (i + 1) - X i) := by
    rw [← le_div (by omega)]; omega
  rw [h1, h2, Int.neg_mul, Int.neg_mul]
  omega
theorem cel_bd (X Y : Nat → Int) (i : Nat) (h : X i < X (i + 1)) (y : Int) (hy : Y i < y) (hy2 : y ≤ Y (i + 1)) : X i < cel X Y i y ∧ cel X Y i y ≤ X (i + 1) := by
  have h1 := lin_cel X Y i h y (X i) (by omega)
  have h2 := lin_cel X Y i h y (X (i + 1)) (by omega)
  rw [lin_at0] at h1
  rw [lin_at1 X Y i h] at h2
  omega

theorem fst_low (X Y : Nat → Int) : ∀ (m : Nat), Asc X Y m → ∀ (y : Int), y ≤ Y 0 → fst X Y m y = X 0
  | 0, _, y, _ => rfl
  | m + 1, h, y, hy => by
    unfold fst
    have := h.yle m 0 (by omega) (by omega)
    rw [if_neg (by omega)]
    exact fst_low X Y m (h.mono (by omega)) y hy
theorem fst_seg (X Y : Nat → Int) : ∀ (m : Nat), Asc X Y m → ∀ (i : Nat), i < m → ∀ (y : Int), Y i < y → y ≤ Y (i + 1) → fst X Y m y = cel X Y i y
  | 0, _, i, hi, _, _, _ => absurd hi (Nat.not_lt_zero _)
  | m + 1, h, i, hi, y, h1, h2 => by
    unfold fst
    by_cases e : i = m
    · subst e; rw [if_pos h1]
    · have := h.yle m (i + 1) (by omega) (by omega)
      rw [if_neg (by omega)]
      exact fst_seg X Y m (h.mono (by omega)) i (by omega) y h1 h2
theorem yseg_ex (Y : Nat → Int) : ∀ (m : Nat) (y : Int), Y 0 < y → y ≤ Y m → ∃ i, i < m ∧ Y i < y ∧ y ≤ Y (i + 1)
  | 0, y, h1, h2 => by omega
  | m + 1, y, h1, h2 => by
    by_cases e : Y m < y
    · exact ⟨m, by omega, e, h2⟩
    · obtain ⟨i, hi, h3, h4⟩ := yseg_ex Y m y h1 (by omega)
      exact ⟨i, by omega, h3, h4⟩
/-- fst is the least number of the curve at which y is reached. -/
theorem fst_spec (X Y : Nat → Int) (m : Nat) (h : Asc X Y m) (y : Int) (hy : y ≤ Y m) :
    X 0 ≤ fst X Y m y ∧ fst X Y m y ≤ X m ∧ y ≤ val X Y m (fst X Y m y) ∧ ∀ x, X 0 < fst X Y m y → x < fst X Y m y → val X Y m x < y := by
  by_cases h1 : y ≤ Y 0
  · rw [fst_low X Y m h y h1]
    have := h.xle m 0 (by omega) (Nat.le_refl _)
    refine ⟨Int.le_refl _, this, ?_, fun x hx => by omega⟩
    rw [val_low X Y m h _ (Int.le_refl _)]; exact h1
  · obtain ⟨i, hi, h2, h3⟩ := yseg_ex Y m y (by omega) hy
    rw [fst_seg X Y m h i hi y h2 h3]
    have hb := cel_bd X Y i (h i hi).1 y h2 h3
    have h4 := h.xle i 0 (by omega) (by omega)
    have h5 := h.xle m (i + 1) (by omega) (Nat.le_refl _)
    refine ⟨by omega, by omega, ?_, fun x _ hx => ?_⟩
    · rw [val_seg X Y m h i hi _ (by omega) hb.2]
      exact (lin_cel X Y i (h i hi).1 y _ (by omega)).2 (Int.le_refl _)
    · by_cases h6 : X i ≤ x
      · rw [val_seg X Y m h i hi x h6 (by omega)]
        have := lin_cel X Y i (h i hi).1 y x (by omega)
        omega
      · have h7 := val_mono X Y m h x (X i) (by omega)
        rw [val_seg X Y m h i hi (X i) (Int.le_refl _) (by have := (h i hi).1; omega), lin_at0] at h7
        omega

/-- The number of points before the first one behind x says the value. -/
theorem val_cut (X Y : Nat → Int) (m : Nat) (h : Asc X Y m) (x : Int) (c : Nat) (hc : c ≤ m + 1) (h1 : ∀ t, t < c → X t ≤ x) (h2 : ∀ t, c ≤ t → t < m + 1 → x < X t) :
    val X Y m x = if c = 0 then Y 0 else if c = m + 1 then Y m else lin X Y (c - 1) x := by
  by_cases e : c = 0
  · rw [if_pos e]; subst e
    exact val_low X Y m h x (by have := h2 0 (by omega) (by omega); omega)
  rw [if_neg e]
  by_cases e2 : c = m + 1
  · rw [if_pos e2]; exact val_high X Y m x (h1 m (by omega))
  · rw [if_neg e2]
    have h3 := h2 c (Nat.le_refl _) (by omega)
    rw [show c = c - 1 + 1 by omega] at h3
    exact val_seg X Y m h (c - 1) (by omega) x (h1 _ (by omega)) (by omega)
theorem fst_cut (X Y : Nat → Int) (m : Nat) (h : Asc X Y m) (y : Int) (c : Nat) (hc : c ≤ m) (h1 : ∀ t, t < c → Y t < y) (h2 : ∀ t, c ≤ t → t < m + 1 → y ≤ Y t) :
    fst X Y m y = if c = 0 then X 0 else cel X Y (c - 1) y := by
  by_cases e : c = 0
  · rw [if_pos e]; subst e
    exact fst_low X Y m h y (h2 0 (by omega) (by omega))
  rw [if_neg e]
  have h3 := h2 c (Nat.le_refl _) (by omega)
  rw [show c = c - 1 + 1 by omega] at h3
  exact fst_seg X Y m h (c - 1) (by omega) y (h1 _ (by omega)) h3

/-- Moved points. -/
theorem val_moved (X Y : Nat → Int) (r u : Int) : ∀ (m : Nat) (x : Int), val (fun i => X i + r) (fun i => Y i + u) m (x + r) = val X Y m x + u
  | 0, x => rfl
  | m + 1, x => by
    unfold val
    have e1 : (X (m + 1) + r ≤ x + r) = (X (m + 1) ≤ x) := propext (by omega)
    have e2 : (X m + r ≤ x + r) = (X m ≤ x) := propext (by omega)
    have e3 : lin (fun i => X i + r) (fun i => Y i + u) m (x + r) = lin X Y m x + u := by
      unfold lin
      show Y m + u + (x + r - (X m + r)) * (Y (m + 1) + u - (Y m + u)) / (X (m + 1) + r - (X m + r)) = _
      rw [show x + r - (X m + r) = x - X m by omega, show Y (m + 1) + u - (Y m + u) = Y (m + 1) - Y m by omega, show X (m + 1) + r - (X m + r) = X (m + 1) - X m by omega]
      omega
    show (if X (m + 1) + r ≤ x + r then Y (m + 1) + u else if X m + r ≤ x + r then lin (fun i => X i + r) (fun i => Y i + u) m (x + r) else val (fun i => X i + r) (fun i => Y i + u) m (x + r)) = _
    rw [val_moved X Y r u m x, e3]
    by_cases h1 : X (m + 1) ≤ x
    · rw [if_pos h1, if_pos (by rw [e1]; exact h1)]
    · rw [if_neg h1, if_neg (by rw [e1]; exact h1)]
      by_cases h2 : X m ≤ x
      · rw [if_pos h2, if_pos (by rw [e2]; exact h2)]
      · rw [if_neg h2, if_neg (by rw [e2]; exact h2)]
theorem fst_moved (X Y : Nat → Int) (r u : Int) : ∀ (m : Nat) (y : Int), fst (fun i => X i + r) (fun i => Y i + u) m (y + u) = fst X Y m y + r
  | 0, y => rfl
  | m + 1, y => by
    unfold fst
    have e2 : (Y m + u < y + u) = (Y m < y) := propext (by omega)
    have e3 : cel (fun i => X i + r) (fun i => Y i + u) m (y + u) = cel X Y m y + r := by
      unfold cel
      show X m + r - (-(y + u - (Y m + u))) * (X (m + 1) + r - (X m + r)) / (Y (m + 1) + u - (Y m + u)) = _
      rw [show y + u - (Y m + u) = y - Y m by omega, show Y (m + 1) + u - (Y m + u) = Y (m + 1) - Y m by omega, show X (m + 1) + r - (X m + r) = X (m + 1) - X m by omega]
      omega
    show (if Y m + u < y + u then cel (fun i => X i + r) (fun i => Y i + u) m (y + u) else fst (fun i => X i + r) (fun i => Y i + u) m (y + u)) = _
    rw [fst_moved X Y r u m y, e3]
    by_cases h2 : Y m < y
    · rw [if_pos h2, if_pos (by rw [e2]; exact h2)]
    · rw [if_neg h2, if_neg (by rw [e2]; exact h2)]

/-! ### which curves are valid -/
def ptOk (x y : Int) : Bool := decide (0 ≤ x ∧ x ≤ 1073741824 ∧ 0 ≤ y ∧ y ≤ 274877906944)
/-- The error of a point behind the one before. -/
def lnC (x y x' y' : Int) : Int := if x' ≤ x ∨ y' < y then 4 else if 4611686018427387904 < (x' - x) * (y' - y) then 1 else 0
/-- The error of the points 0, .., n - 1. -/
def chkS (X Y : Nat → Int) : Nat → Int
  | 0 => 0
  | n + 1 => if chkS X Y n ≠ 0 then chkS X Y n else if ptOk (X n) (Y n) = false then 1 else if n = 0 then 0 else lnC (X (n - 1)) (Y (n - 1)) (X n) (Y n)
/-- P2.1: the first error of a curve of n points. -/
def chkC (X Y : Nat → Int) (n : Nat) : Int := if n = 0 then 3 else if 100 < n then 10 else chkS X Y n
/-- The points 0, .., m are a valid curve. -/
structure Cur (X Y : Nat → Int) (m : Nat) : Prop where
  len : m < 100
  xlo : ∀ i, i ≤ m → 0 ≤ X i
  xhi : ∀ i, i ≤ m → X i ≤ 1073741824
  ylo : ∀ i, i ≤ m → 0 ≤ Y i
  yhi : ∀ i, i ≤ m → Y i ≤ 274877906944
  asc : Asc X Y m
  prod : ∀ i, i < m → (X (i + 1) - X i) * (Y (i + 1) - Y i) ≤ 4611686018427387904

theorem ptOk_iff {x y : Int} : ptOk x y = true ↔ 0 ≤ x ∧ x ≤ 1073741824 ∧ 0 ≤ y ∧ y ≤ 274877906944 := by unfold ptOk; rw [decide_eq_true_eq]
theorem lnC_zero {x y x' y' : Int} : lnC x y x' y' = 0 ↔ x < x' ∧ y ≤ y' ∧ (x' - x) * (y' - y) ≤ 4611686018427387904 := by
  unfold lnC
  by_cases h1 : x' ≤ x ∨ y' < y
  · rw [if_pos h1]; constructor
    · intro h; omega
    · intro h; omega
  · rw [if_neg h1]
    generalize (x' - x) * (y' - y) = p
    by_cases h2 : 4611686018427387904 < p
    · rw [if_pos h2]; omega
    · rw [if_neg h2]; omega
theorem chkS_zero (X Y : Nat → Int) : ∀ n, chkS X Y n = 0 ↔ (∀ i, i < n → ptOk (X i) (Y i) = true) ∧ ∀ i, i + 1 < n → lnC (X i) (Y i) (X (i + 1)) (Y (i + 1)) = 0
  | 0 => by unfold chkS; simp
  | n + 1 => by
    have ih := chkS_zero X Y n
    unfold chkS
    by_cases h0 : chkS X Y n = 0
    · rw [if_neg (by simp [h0])]
      obtain ⟨a1, a2⟩ := ih.1 h0
      by_cases h1 : ptOk (X n) (Y n) = false
      · rw [if_pos h1]
        constructor
        · intro h; omega
        · intro ⟨h, _⟩; have := h n (by omega); rw [h1] at this; cases this
      · have h1' : ptOk (X n) (Y n) = true := by cases h : ptOk (X n) (Y n) with | false => exact absurd h h1 | true => rfl
        rw [if_neg h1]
        by_cases h2 : n = 0
        · rw [if_pos h2]
          subst h2
          refine ⟨fun _ => ⟨fun i hi => ?_, fun i hi => by omega⟩, fun _ => rfl⟩
          obtain rfl : i = 0 := by omega
          exact h1'
        · rw [if_neg h2]
          obtain ⟨k, rfl⟩ : ∃ k, n = k + 1 := ⟨n - 1, by omega⟩
          rw [show k + 1 - 1 = k by omega]
          constructor
          · intro h3
            refine ⟨fun i hi => ?_, fun i hi => ?_⟩
            · by_cases e : i = k + 1
              · subst e; exact h1'
              · exact a1 i (by omega)
            · by_cases e : i = k
              · subst e; exact h3
              · exact a2 i (by omega)
          · intro ⟨_, h4⟩; exact h4 k (by omega)
    · rw [if_pos h0]
      refine ⟨fun h => absurd h h0, fun ⟨h1, h2⟩ => ?_⟩
      exact absurd (ih.2 ⟨fun i hi => h1 i (by omega), fun i hi => h2 i (by omega)⟩) h0
theorem cur_iff (X Y : Nat → Int) (m : Nat) : chkC X Y (m + 1) = 0 ↔ Cur X Y m := by
  unfold chkC
  rw [if_neg (by omega)]
  by_cases h : 100 < m + 1
  · rw [if_pos h]
    refine ⟨fun h => by omega, fun h => ?_⟩
    have := h.len; omega
  · rw [if_neg h, chkS_zero]
    constructor
    · intro ⟨h1, h2⟩
      have g := fun i (hi : i ≤ m) => ptOk_iff.1 (h1 i (by omega))
      have l := fun i (hi : i < m) => lnC_zero.1 (h2 i (by omega))
      exact ⟨by omega, fun i hi => (g i hi).1, fun i hi => (g i hi).2.1, fun i hi => (g i hi).2.2.1, fun i hi => (g i hi).2.2.2, fun i hi => ⟨(l i hi).1, (l i hi).2.1⟩, fun i hi => (l i hi).2.2⟩
    · intro h
      exact ⟨fun i hi => ptOk_iff.2 ⟨h.xlo i (by omega), h.xhi i (by omega), h.ylo i (by omega), h.yhi i (by omega)⟩, fun i hi => lnC_zero.2 ⟨(h.asc i (by omega)).1, (h.asc i (by omega)).2, h.prod i (by omega)⟩⟩
end Go.Proofs.Ytbcjigociliflaa.Cu

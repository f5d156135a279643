/-
  Rule curves by whole numbers: the points unrolled over the years, the level of a day, its bounds, what turning and raising do to it.
-/
import Derived.Test.YtdblppbjlgmccaaCuMath
namespace Go.Proofs.Ytdblppbjlgmccaa.Ru
open Go.Proofs.Ytdblppbjlgmccaa.Cu
set_option linter.unusedVariables false

/-- The points one behind the other, over the years. -/
def px (X : Nat → Int) (n i : Nat) : Int := X (i % n) + 365 * ((i / n : Nat) : Int)
def py (Y : Nat → Int) (n i : Nat) : Int := Y (i % n)

/-- The line from the last of the first k points at or before x. -/
def lv (X Y : Nat → Int) : Nat → Int → Int
  | 0, _ => Y 0
  | k + 1, x => if X k ≤ x then lin X Y k x else lv X Y k x
/-- A day as it is counted from the first point on. -/
def dn (X : Nat → Int) (d : Int) : Int := if d < X 0 then d + 365 else d
/-- The level of a day. -/
def rl (X Y : Nat → Int) (n : Nat) (d : Int) : Int := lv (px X n) (py Y n) n (dn X d)

/-- X ascends strictly. -/
def Up (X : Nat → Int) (k : Nat) : Prop := ∀ i, i < k → X i < X (i + 1)
theorem Up.le {X : Nat → Int} {k : Nat} (h : Up X k) : ∀ (j i : Nat), i ≤ j → j ≤ k → X i ≤ X j
  | 0, i, hi, _ => by obtain rfl : i = 0 := by omega
                      exact Int.le_refl _
  | j + 1, i, hi, hj => by
    by_cases e : i = j + 1
    · subst e; exact Int.le_refl _
    · have h1 := h.le j i (by omega) (by omega)
      have h2 := h j (by omega)
      omega
theorem Up.lt {X : Nat → Int} {k : Nat} (h : Up X k) (j i : Nat) (hi : i < j) (hj : j ≤ k) : X i < X j := by
  have h1 := h.le j (i + 1) (by omega) hj
  have h2 := h i (by omega)
  omega
theorem lv_seg (X Y : Nat → Int) : ∀ (k : Nat), Up X k → ∀ (i : Nat), i < k → ∀ (x : Int), X i ≤ x → x < X (i + 1) → lv X Y k x = lin X Y i x
  | 0, _, i, hi, _, _, _ => absurd hi (Nat.not_lt_zero _)
  | k + 1, h, i, hi, x, h1, h2 => by
    unfold lv
    by_cases e : i = k
    · subst e; rw [if_pos h1]
    · have h3 := h.le k (i + 1) (by omega) (by omega)
      rw [if_neg (by omega)]
      exact lv_seg X Y k (fun j hj => h j (by omega)) i (by omega) x h1 h2
theorem lseg_ex (X : Nat → Int) : ∀ (k : Nat) (x : Int), X 0 ≤ x → x < X k → ∃ i, i < k ∧ X i ≤ x ∧ x < X (i + 1)
  | 0, x, h1, h2 => by omega
  | k + 1, x, h1, h2 => by
    by_cases e : X k ≤ x
    · exact ⟨k, by omega, e, h2⟩
    · obtain ⟨i, hi, h3, h4⟩ := lseg_ex X k x h1 (by omega)
      exact ⟨i, by omega, h3, h4⟩

/-- n points are a rule curve. -/
structure Rc (X Y : Nat → Int) (n : Nat) : Prop where
  pos : 1 ≤ n
  len : n ≤ 100
  xlo : ∀ i, i < n → 0 ≤ X i
  xhi : ∀ i, i < n → X i ≤ 364
  ylo : ∀ i, i < n → 0 ≤ Y i
  yhi : ∀ i, i < n → Y i ≤ 16777216
  asc : ∀ i, i + 1 < n → X i < X (i + 1)

theorem px_small (X : Nat → Int) (n i : Nat) (h : i < n) : px X n i = X i := by
  unfold px; rw [Nat.mod_eq_of_lt h, Nat.div_eq_of_lt h]; simp
theorem py_small (Y : Nat → Int) (n i : Nat) (h : i < n) : py Y n i = Y i := by
  unfold py; rw [Nat.mod_eq_of_lt h]
theorem px_n (X : Nat → Int) (n : Nat) (h : 1 ≤ n) : px X n n = X 0 + 365 := by
  unfold px; rw [Nat.mod_self, Nat.div_self (by omega)]; simp
theorem py_n (Y : Nat → Int) (n : Nat) : py Y n n = Y 0 := by
  unfold py; rw [Nat.mod_self]
theorem px_add (X : Nat → Int) (n i : Nat) (h : 1 ≤ n) : px X n (i + n) = px X n i + 365 := by
  unfold px; rw [Nat.add_mod_right, Nat.add_div_right _ (by omega)]; push_cast; omega
theorem py_add (Y : Nat → Int) (n i : Nat) : py Y n (i + n) = py Y n i := by
  unfold py; rw [Nat.add_mod_right]
theorem px_up {X Y : Nat → Int} {n : Nat} (h : Rc X Y n) (i : Nat) : px X n i < px X n (i + 1) := by
  have hp := h.pos
  have hm : i % n < n := Nat.mod_lt _ (by omega)
  have hd := Nat.div_add_mod i n
  by_cases e : i % n + 1 < n
  · have h1 : (i + 1) % n = i % n + 1 := by
      rw [Nat.add_mod]
      by_cases e1 : n = 1
      · omega
      · rw [Nat.mod_eq_of_lt (show 1 < n by omega), Nat.mod_eq_of_lt e]
    have h2 : (i + 1) / n = i / n := by
      have := Nat.div_add_mod (i + 1) n
      rw [h1] at this
      have h3 : n * ((i + 1) / n) = n * (i / n) := by omega
      exact Nat.eq_of_mul_eq_mul_left (by omega) h3
    unfold px
    rw [h1, h2]
    have := h.asc _ e
    omega
  · have h0 : i % n = n - 1 := by omega
    have h4 : i + 1 = n * (i / n + 1) := by rw [Nat.mul_add]; omega
    have h1 : (i + 1) % n = 0 := by rw [h4]; exact Nat.mul_mod_right _ _
    have h2 : (i + 1) / n = i / n + 1 := by rw [h4]; exact Nat.mul_div_cancel_left _ (by omega)
    unfold px
    rw [h1, h2, h0]
    have a1 := h.xhi (n - 1) (by omega)
    have a2 := h.xlo 0 (by omega)
    push_cast
    omega
theorem px_upk {X Y : Nat → Int} {n : Nat} (h : Rc X Y n) (k : Nat) : Up (px X n) k := fun i _ => px_up h i
theorem lin_add (X Y : Nat → Int) (n i : Nat) (h : 1 ≤ n) (x : Int) : lin (px X n) (py Y n) (i + n) (x + 365) = lin (px X n) (py Y n) i x := by
  unfold lin
  rw [show i + n + 1 = i + 1 + n by omega, px_add X n _ h, px_add X n _ h, py_add, py_add]
  rw [show x + 365 - (px X n i + 365) = x - px X n i by omega, show px X n (i + 1) + 365 - (px X n i + 365) = px X n (i + 1) - px X n i by omega]

/-- A day is on one of the n lines. -/
theorem day_seg {X Y : Nat → Int} {n : Nat} (h : Rc X Y n) (d : Int) (h0 : 0 ≤ d) (h1 : d ≤ 364) : ∃ i, i < n ∧ px X n i ≤ dn X d ∧ dn X d < px X n (i + 1) := by
  have hp := h.pos
  have a1 := h.xhi 0 (by omega)
  have a2 := h.xlo 0 (by omega)
  refine lseg_ex (px X n) n _ ?_ ?_
  · rw [px_small X n 0 (by omega)]; unfold dn; split <;> omega
  · rw [px_n X n hp]; unfold dn; split <;> omega
theorem rl_seg {X Y : Nat → Int} {n : Nat} (h : Rc X Y n) (d : Int) (i : Nat) (hi : i < n) (h1 : px X n i ≤ dn X d) (h2 : dn X d < px X n (i + 1)) : rl X Y n d = lin (px X n) (py Y n) i (dn X d) :=
  lv_seg _ _ n (px_upk h n) i hi _ h1 h2

/-! ### bounds of a line -/
theorem lin_le (X Y : Nat → Int) (i : Nat) (x h : Int) (hx : X i ≤ x) (hx2 : x < X (i + 1)) (h1 : Y i ≤ h) (h2 : Y (i + 1) ≤ h) : lin X Y i x ≤ h := by
  unfold lin
  have a : (x - X i) * (Y (i + 1) - Y i) ≤ (x - X i) * (h - Y i) := Int.mul_le_mul_of_nonneg_left (by omega) (by omega)
  have b : (x - X i) * (h - Y i) ≤ (X (i + 1) - X i) * (h - Y i) := Int.mul_le_mul_of_nonneg_right (by omega) (by omega)
  have c := ediv_mono (d := X (i + 1) - X i) (by omega) (Int.le_trans a b)
  rw [Int.mul_ediv_cancel_left _ (by omega)] at c
  omega
theorem lin_ge (X Y : Nat → Int) (i : Nat) (x l : Int) (hx : X i ≤ x) (hx2 : x < X (i + 1)) (h1 : l ≤ Y i) (h2 : l ≤ Y (i + 1)) : l ≤ lin X Y i x := by
  unfold lin
  have a : (x - X i) * (l - Y i) ≤ (x - X i) * (Y (i + 1) - Y i) := Int.mul_le_mul_of_nonneg_left (by omega) (by omega)
  have b : (X (i + 1) - X i) * (l - Y i) ≤ (x - X i) * (l - Y i) := by
    have := Int.mul_le_mul_of_nonneg_right (a := x - X i) (b := X (i + 1) - X i) (c := Y i - l) (by omega) (by omega)
    have e1 : (X (i + 1) - X i) * (l - Y i) = -((X (i + 1) - X i) * (Y i - l)) := by rw [← Int.mul_neg]; congr 1; omega
    have e2 : (x - X i) * (l - Y i) = -((x - X i) * (Y i - l)) := by rw [← Int.mul_neg]; congr 1; omega
    omega
  have c := ediv_mono (d := X (i + 1) - X i) (by omega) (Int.le_trans b a)
  rw [Int.mul_ediv_cancel_left _ (by omega)] at c
  omega
/-- The line by both ends, each weighed by the way to the other. -/
theorem lin_two (X Y : Nat → Int) (i : Nat) (x : Int) (h : X i < X (i + 1)) : lin X Y i x = (Y i * (X (i + 1) - x) + Y (i + 1) * (x - X i)) / (X (i + 1) - X i) := by
  unfold lin
  have e : Y i * (X (i + 1) - x) + Y (i + 1) * (x - X i) = (x - X i) * (Y (i + 1) - Y i) + (X (i + 1) - X i) * Y i := by
    rw [Int.mul_sub, Int.mul_sub, Int.mul_sub, Int.sub_mul, Int.sub_mul, Int.sub_mul, Int.mul_comm (Y i) (X (i + 1)), Int.mul_comm (Y i) x, Int.mul_comm (Y (i + 1)) x, Int.mul_comm (Y (i + 1)) (X i)]
    omega
  rw [e, Int.add_mul_ediv_left _ _ (by omega)]
  omega
theorem lin_lt1 (X Y : Nat → Int) (i : Nat) (x h : Int) (hx : X i ≤ x) (hx2 : x < X (i + 1)) (h1 : Y i < h) (h2 : Y (i + 1) ≤ h) : lin X Y i x < h := by
  rw [lin_two X Y i x (by omega), div_lt (by omega)]
  have a : Y i * (X (i + 1) - x) < h * (X (i + 1) - x) := Int.mul_lt_mul_of_pos_right h1 (by omega)
  have b : Y (i + 1) * (x - X i) ≤ h * (x - X i) := Int.mul_le_mul_of_nonneg_right h2 (by omega)
  have e : h * (X (i + 1) - X i) = h * (X (i + 1) - x) + h * (x - X i) := by rw [← Int.mul_add]; congr 1; omega
  omega
theorem lin_lt2 (X Y : Nat → Int) (i : Nat) (x h : Int) (hx : X i < x) (hx2 : x < X (i + 1)) (h1 : Y i ≤ h) (h2 : Y (i + 1) < h) : lin X Y i x < h := by
  rw [lin_two X Y i x (by omega), div_lt (by omega)]
  have a : Y i * (X (i + 1) - x) ≤ h * (X (i + 1) - x) := Int.mul_le_mul_of_nonneg_right h1 (by omega)
  have b : Y (i + 1) * (x - X i) < h * (x - X i) := Int.mul_lt_mul_of_pos_right h2 (by omega)
  have e : h * (X (i + 1) - X i) = h * (X (i + 1) - x) + h * (x - X i) := by rw [← Int.mul_add]; congr 1; omega
  omega

theorem py_le {X Y : Nat → Int} {n : Nat} (hr : Rc X Y n) (h : Int) (hy : ∀ i, i < n → Y i ≤ h) (i : Nat) : py Y n i ≤ h := hy _ (Nat.mod_lt _ (by have := hr.pos; omega))
theorem py_ge {X Y : Nat → Int} {n : Nat} (hr : Rc X Y n) (l : Int) (hy : ∀ i, i < n → l ≤ Y i) (i : Nat) : l ≤ py Y n i := hy _ (Nat.mod_lt _ (by have := hr.pos; omega))
theorem rl_le {X Y : Nat → Int} {n : Nat} (hr : Rc X Y n) (h : Int) (hy : ∀ i, i < n → Y i ≤ h) (d : Int) (h0 : 0 ≤ d) (h1 : d ≤ 364) : rl X Y n d ≤ h := by
  obtain ⟨i, hi, a, b⟩ := day_seg hr d h0 h1
  rw [rl_seg hr d i hi a b]
  exact lin_le _ _ i _ h a b (py_le hr h hy i) (py_le hr h hy _)
theorem rl_ge {X Y : Nat → Int} {n : Nat} (hr : Rc X Y n) (l : Int) (hy : ∀ i, i < n → l ≤ Y i) (d : Int) (h0 : 0 ≤ d) (h1 : d ≤ 364) : l ≤ rl X Y n d := by
  obtain ⟨i, hi, a, b⟩ := day_seg hr d h0 h1
  rw [rl_seg hr d i hi a b]
  exact lin_ge _ _ i _ l a b (py_ge hr l hy i) (py_ge hr l hy _)
theorem Rc.xle {X Y : Nat → Int} {n : Nat} (hr : Rc X Y n) (j i : Nat) (hi : i ≤ j) (hj : j < n) : X i ≤ X j := by
  have := (px_upk hr n).le j i hi (by omega)
  rwa [px_small X n i (by omega), px_small X n j hj] at this
theorem Rc.xlt {X Y : Nat → Int} {n : Nat} (hr : Rc X Y n) (j i : Nat) (hi : i < j) (hj : j < n) : X i < X j := by
  have := (px_upk hr n).lt j i hi (by omega)
  rwa [px_small X n i (by omega), px_small X n j hj] at this
theorem rl_pt {X Y : Nat → Int} {n : Nat} (hr : Rc X Y n) (i : Nat) (hi : i < n) : rl X Y n (X i) = Y i := by
  have h0 := hr.xle i 0 (by omega) hi
  have hd : dn X (X i) = X i := by unfold dn; rw [if_neg (by omega)]
  have e := px_small X n i hi
  rw [rl_seg hr (X i) i hi (by rw [hd, e]; exact Int.le_refl _) (by rw [hd, ← e]; exact px_up hr i), hd, ← e, lin_at0, py_small Y n i hi]
theorem rl_one (X Y : Nat → Int) (hr : Rc X Y 1) (d : Int) (h0 : 0 ≤ d) (h1 : d ≤ 364) : rl X Y 1 d = Y 0 := by
  have a := rl_le hr (Y 0) (fun i hi => by obtain rfl : i = 0 := by omega
                                           exact Int.le_refl _) d h0 h1
  have b := rl_ge hr (Y 0) (fun i hi => by obtain rfl : i = 0 := by omega
                                           exact Int.le_refl _) d h0 h1
  omega
theorem Rc.one {X Y : Nat → Int} {n : Nat} (hr : Rc X Y n) : Rc X Y 1 where
  pos := Nat.le_refl _
  len := by omega
  xlo := fun i hi => hr.xlo i (by have := hr.pos; omega)
  xhi := fun i hi => hr.xhi i (by have := hr.pos; omega)
  ylo := fun i hi => hr.ylo i (by have := hr.pos; omega)
  yhi := fun i hi => hr.yhi i (by have := hr.pos; omega)
  asc := fun i hi => absurd hi (by omega)

/-! ### the first day with the highest level -/
/-- f is the first day with the highest level, h. -/
structure Top (X Y : Nat → Int) (n : Nat) (f h : Int) : Prop where
  lo : 0 ≤ f
  hi : f ≤ 364
  eq : rl X Y n f = h
  ge : ∀ d, 0 ≤ d → d ≤ 364 → rl X Y n d ≤ h
  fst : ∀ d, 0 ≤ d → d < f → rl X Y n d < h
theorem Top.one {X Y : Nat → Int} {n : Nat} {f h f' h' : Int} (a : Top X Y n f h) (b : Top X Y n f' h') : f = f' ∧ h = h' := by
  have e : h = h' := by
    have h1 := b.ge f a.lo a.hi
    have h2 := a.ge f' b.lo b.hi
    rw [a.eq] at h1
    rw [b.eq] at h2
    omega
  subst e
  refine ⟨?_, rfl⟩
  by_cases c : f < f'
  · have := b.fst f a.lo c
    rw [a.eq] at this; omega
  · by_cases c2 : f' < f
    · have := a.fst f' b.lo c2
      rw [b.eq] at this; omega
    · omega
/-- What is known of the first k points: f is day 0 or that of a point that is higher than all before it. -/
structure Sofar (X Y : Nat → Int) (n k : Nat) (f h : Int) : Prop where
  z : rl X Y n 0 ≤ h
  le : ∀ i, i < k → Y i ≤ h
  at_ : (f = 0 ∧ h = rl X Y n 0) ∨ ∃ i, i < k ∧ f = X i ∧ h = Y i ∧ rl X Y n 0 < h ∧ ∀ j, j < i → Y j < h
theorem sofar_zero (X Y : Nat → Int) (n : Nat) : Sofar X Y n 0 0 (rl X Y n 0) := ⟨Int.le_refl _, fun i hi => absurd hi (Nat.not_lt_zero _), .inl ⟨rfl, rfl⟩⟩
theorem Sofar.keep {X Y : Nat → Int} {n k : Nat} {f h : Int} (s : Sofar X Y n k f h) (hk : Y k ≤ h) : Sofar X Y n (k + 1) f h where
  z := s.z
  le := fun i hi => by
    by_cases e : i = k
    · subst e; exact hk
    · exact s.le i (by omega)
  at_ := s.at_.imp id fun ⟨i, a, b⟩ => ⟨i, by omega, b⟩
theorem Sofar.next {X Y : Nat → Int} {n k : Nat} {f h : Int} (s : Sofar X Y n k f h) (hk : h < Y k) : Sofar X Y n (k + 1) (X k) (Y k) where
  z := by have := s.z; omega
  le := fun i hi => by
    by_cases e : i = k
    · subst e; exact Int.le_refl _
    · have := s.le i (by omega); omega
  at_ := .inr ⟨k, by omega, rfl, rfl, by have := s.z; omega, fun j hj => by have := s.le j hj; omega⟩
theorem Sofar.top {X Y : Nat → Int} {n : Nat} {f h : Int} (hr : Rc X Y n) (s : Sofar X Y n n f h) : Top X Y n f h := by
  have hp := hr.pos
  have ge : ∀ d, 0 ≤ d → d ≤ 364 → rl X Y n d ≤ h := rl_le hr h s.le
  rcases s.at_ with ⟨rfl, rfl⟩ | ⟨i, hi, rfl, rfl, hz, hj⟩
  · exact ⟨Int.le_refl _, by omega, rfl, ge, fun d a b => by omega⟩
  · refine ⟨hr.xlo i hi, hr.xhi i hi, rl_pt hr i hi, ge, fun d d0 d1 => ?_⟩
    have hx := hr.xhi i hi
    have x0 := hr.xhi 0 (by omega)
    obtain ⟨j, hjn, a, b⟩ := day_seg hr d d0 (by omega)
    rw [rl_seg hr d j hjn a b]
    have ple := py_le hr (Y i) s.le
    by_cases c : d < X 0
    · have ed : dn X d = d + 365 := by unfold dn; rw [if_pos c]
      have ej : j = n - 1 := by
        apply Classical.byContradiction
        intro hne
        rw [px_small X n (j + 1) (by omega), ed] at b
        have := hr.xhi (j + 1) (by omega)
        omega
      subst ej
      have en : n - 1 + 1 = n := by omega
      have hxn := hr.xhi (n - 1) (by omega)
      have pn := px_small X n (n - 1) (by omega)
      have y1 : py Y n (n - 1 + 1) = Y 0 := by rw [en, py_n]
      by_cases e0 : Y 0 < Y i
      · exact lin_lt2 _ _ _ _ _ (by rw [pn, ed]; omega) b (ple _) (by rw [y1]; exact e0)
      · by_cases el : Y (n - 1) < Y i
        · exact lin_lt1 _ _ _ _ _ a b (by rw [py_small Y n _ (by omega)]; exact el) (ple _)
        · exfalso
          have z1 := s.le 0 (by omega)
          have z2 := s.le (n - 1) (by omega)
          have e2 : dn X 0 = 365 := by unfold dn; rw [if_pos (by omega)]; rfl
          have a2 : px X n (n - 1) ≤ dn X 0 := by rw [pn, e2]; omega
          have b2 : dn X 0 < px X n (n - 1 + 1) := by rw [en, px_n X n hp, e2]; omega
          have e3 := rl_seg hr 0 (n - 1) (by omega) a2 b2
          have g := lin_ge (px X n) (py Y n) (n - 1) (dn X 0) (Y i) a2 b2 (by rw [py_small Y n _ (by omega)]; omega) (by rw [y1]; omega)
          omega
    · have ed : dn X d = d := by unfold dn; rw [if_neg c]
      have hji : j < i := by
        apply Classical.byContradiction
        intro hne
        rw [px_small X n j hjn, ed] at a
        have := hr.xle j i (by omega) hjn
        omega
      exact lin_lt1 _ _ _ _ _ a b (by rw [py_small Y n _ hjn]; exact hj j hji) (ple _)

/-! ### raised -/
theorem Rc.raised {X Y : Nat → Int} {n : Nat} (hr : Rc X Y n) (u : Int) (hu : 0 ≤ u) (hy : ∀ i, i < n → Y i + u ≤ 16777216) : Rc X (fun i => Y i + u) n where
  pos := hr.pos
  len := hr.len
  xlo := hr.xlo
  xhi := hr.xhi
  ylo := fun i hi => by have := hr.ylo i hi; show 0 ≤ Y i + u; omega
  yhi := hy
  asc := hr.asc
theorem lin_raised (X Y : Nat → Int) (n : Nat) (u : Int) (i : Nat) (x : Int) : lin (px X n) (py (fun i => Y i + u) n) i x = lin (px X n) (py Y n) i x + u := by
  unfold lin py
  show Y (i % n) + u + (x - px X n i) * (Y ((i + 1) % n) + u - (Y (i % n) + u)) / (px X n (i + 1) - px X n i) = _
  rw [show Y ((i + 1) % n) + u - (Y (i % n) + u) = Y ((i + 1) % n) - Y (i % n) by omega]
  omega
theorem rl_raised {X Y : Nat → Int} {n : Nat} (hr : Rc X Y n) (u : Int) (hu : 0 ≤ u) (hy : ∀ i, i < n → Y i + u ≤ 16777216) (d : Int) (h0 : 0 ≤ d) (h1 : d ≤ 364) : rl X (fun i => Y i + u) n d = rl X Y n d + u := by
  obtain ⟨i, hi, a, b⟩ := day_seg hr d h0 h1
  rw [rl_seg hr d i hi a b, rl_seg (hr.raised u hu hy) d i hi a b, lin_raised]
/-- Between two points levels go in one direction. -/
theorem rl_dir {X Y : Nat → Int} {n : Nat} (hr : Rc X Y n) (i : Nat) (hi : i + 1 < n) (t : Int) (h1 : X i ≤ t) (h2 : t < X (i + 1)) : 0 ≤ (Y (i + 1) - Y i) * (rl X Y n (t + 1) - rl X Y n t) := by
  have x0 := hr.xle i 0 (by omega) (by omega)
  have p0 := px_small X n i (by omega)
  have p1 := px_small X n (i + 1) hi
  have q0 := py_small Y n i (by omega)
  have q1 := py_small Y n (i + 1) hi
  have e1 : dn X t = t := by unfold dn; rw [if_neg (by omega)]
  have e2 : dn X (t + 1) = t + 1 := by unfold dn; rw [if_neg (by omega)]
  have r1 : rl X Y n t = lin (px X n) (py Y n) i t := by
    rw [rl_seg hr t i (by omega) (by rw [e1, p0]; exact h1) (by rw [e1, p1]; exact h2), e1]
  have r2 : rl X Y n (t + 1) = lin (px X n) (py Y n) i (t + 1) := by
    by_cases c : t + 1 < X (i + 1)
    · rw [rl_seg hr (t + 1) i (by omega) (by rw [e2, p0]; omega) (by rw [e2, p1]; exact c), e2]
    · have e3 : t + 1 = X (i + 1) := by omega
      rw [e3, rl_pt hr (i + 1) hi, ← p1, lin_at1 _ _ _ (px_up hr i), q1]
  rw [r1, r2]
  unfold lin
  rw [p0, p1, q0, q1]
  have hd : 0 < X (i + 1) - X i := by omega
  by_cases c : Y i ≤ Y (i + 1)
  · have a : (t - X i) * (Y (i + 1) - Y i) ≤ (t + 1 - X i) * (Y (i + 1) - Y i) := Int.mul_le_mul_of_nonneg_right (by omega) (by omega)
    have b := ediv_mono hd a
    exact Int.mul_nonneg (by omega) (by omega)
  · have a : (t + 1 - X i) * (Y (i + 1) - Y i) ≤ (t - X i) * (Y (i + 1) - Y i) := Int.mul_le_mul_of_nonpos_right (by omega) (by omega)
    have b := ediv_mono hd a
    exact Int.mul_nonneg_of_nonpos_of_nonpos (by omega) (by omega)

/-! ### turned -/
/-- The curve X' Y' is X Y moved by s days, its first point the point k. -/
theorem rl_turned {X Y X' Y' : Nat → Int} {n : Nat} (hr : Rc X Y n) (hr' : Rc X' Y' n) (s : Int) (k : Nat) (hk : k ≤ n) (s0 : 0 ≤ s) (s1 : s ≤ 364)
    (h1 : ∀ i, i < n - k → X' i = X (k + i) + s - 365 ∧ Y' i = Y (k + i)) (h2 : ∀ i, i < k → X' (n - k + i) = X i + s ∧ Y' (n - k + i) = Y i)
    (x : Int) (x0 : 0 ≤ x) (x1 : x ≤ 364) : rl X' Y' n ((x + s) % 365) = rl X Y n x := by
  have hp := hr.pos
  have hP : ∀ j, j ≤ n → px X' n j = px X n (k + j) + s - 365 ∧ py Y' n j = py Y n (k + j) := by
    intro j hj
    by_cases e : j = n
    · subst e
      rw [px_n X' j hp, py_n, px_add X j k hp, py_add]
      by_cases c : k < j
      · obtain ⟨a, b⟩ := h1 0 (by omega)
        rw [a, b, px_small X j k c, py_small Y j k c, Nat.add_zero]
        omega
      · obtain rfl : k = j := by omega
        obtain ⟨a, b⟩ := h2 0 (by omega)
        rw [show k - k + 0 = 0 by omega] at a b
        rw [a, b, px_n X k hp, py_n]
        omega
    · rw [px_small X' n j (by omega), py_small Y' n j (by omega)]
      by_cases c : j < n - k
      · obtain ⟨a, b⟩ := h1 j c
        rw [px_small X n (k + j) (by omega), py_small Y n (k + j) (by omega)]
        exact ⟨a, b⟩
      · obtain ⟨a, b⟩ := h2 (j - (n - k)) (by omega)
        rw [show n - k + (j - (n - k)) = j by omega] at a b
        rw [show k + j = j - (n - k) + n by omega, px_add X n _ hp, py_add, px_small X n _ (by omega), py_small Y n _ (by omega), a, b]
        omega
  have z0 : 0 ≤ (x + s) % 365 ∧ (x + s) % 365 ≤ 364 := by omega
  obtain ⟨i, hi, a, b⟩ := day_seg hr x x0 x1
  obtain ⟨j, hj, a', b'⟩ := day_seg hr' _ z0.1 z0.2
  rw [rl_seg hr x i hi a b, rl_seg hr' _ j hj a' b']
  generalize ht : dn X' ((x + s) % 365) = t' at *
  generalize ht2 : dn X x = t at *
  have m1 : t' % 365 = (x + s) % 365 := by rw [← ht]; unfold dn; split <;> omega
  have m2 : t % 365 = x % 365 := by rw [← ht2]; unfold dn; split <;> omega
  obtain ⟨p1, q1⟩ := hP j (by omega)
  obtain ⟨p2, q2⟩ := hP (j + 1) (by omega)
  have el : lin (px X' n) (py Y' n) j t' = lin (px X n) (py Y n) (k + j) (t' + 365 - s) := by
    unfold lin
    rw [p1, p2, q1, q2, show k + (j + 1) = k + j + 1 by omega]
    rw [show t' - (px X n (k + j) + s - 365) = t' + 365 - s - px X n (k + j) by omega, show px X n (k + j + 1) + s - 365 - (px X n (k + j) + s - 365) = px X n (k + j + 1) - px X n (k + j) by omega]
  rw [el]
  have a3 : px X n (k + j) ≤ t' + 365 - s := by omega
  have b3 : t' + 365 - s < px X n (k + j + 1) := by rw [show k + j + 1 = k + (j + 1) by omega]; omega
  have u := px_upk hr (n + n)
  have l0 : px X n 0 ≤ px X n i := u.le i 0 (by omega) (by omega)
  have l1 : px X n (i + 1) ≤ px X n n := u.le n (i + 1) (by omega) (by omega)
  have l2 : px X n 0 ≤ px X n (k + j) := u.le (k + j) 0 (by omega) (by omega)
  have l3 : px X n (k + j + 1) ≤ px X n (n + n) := u.le (n + n) (k + j + 1) (by omega) (by omega)
  have e0 := px_add X n 0 hp
  rw [Nat.zero_add] at e0
  have en := px_add X n n hp
  have cs : t' + 365 - s = t ∨ t' + 365 - s = t + 365 := by omega
  rcases cs with c | c
  · rw [c] at a3 b3 ⊢
    have : k + j = i := by
      apply Classical.byContradiction
      intro hne
      by_cases c2 : k + j < i
      · have := u.le i (k + j + 1) (by omega) (by omega); omega
      · have := u.le (k + j) (i + 1) (by omega) (by omega); omega
    rw [this]
  · rw [c] at a3 b3 ⊢
    have f0 := px_add X n i hp
    have f1 := px_add X n (i + 1) hp
    have : k + j = i + n := by
      apply Classical.byContradiction
      intro hne
      by_cases c2 : k + j < i + n
      · have := u.le (i + n) (k + j + 1) (by omega) (by omega); omega
      · have := u.le (k + j) (i + 1 + n) (by omega) (by omega); omega
    rw [this, lin_add X Y n i hp]
end Go.Proofs.Ytdblppbjlgmccaa.Ru

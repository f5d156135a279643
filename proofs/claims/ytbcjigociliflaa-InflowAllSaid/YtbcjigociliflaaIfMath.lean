/-
  The mathematics of chapter 9: group sums, what smoothing makes of a group, and its laws.
-/
import Derived.Test.YtbcjigociliflaaQuMath
namespace Go.Proofs.Ytbcjigociliflaa.If
open Go.Proofs.Ytbcjigociliflaa.Qu (sumZ sumZ_congr)
set_option linter.unusedVariables false

/-- The sum of L numbers from a on. -/
def gsum (z : Nat → Int) (a L : Nat) : Int := sumZ (fun j => z (a + j)) L
theorem gsum_zero (z : Nat → Int) (a : Nat) : gsum z a 0 = 0 := rfl
theorem gsum_succ (z : Nat → Int) (a L : Nat) : gsum z a (L + 1) = gsum z a L + z (a + L) := rfl
theorem gsum_congr {z y : Nat → Int} {a L : Nat} (h : ∀ j, j < L → z (a + j) = y (a + j)) : gsum z a L = gsum y a L := sumZ_congr h
theorem gsum_bd (z : Nat → Int) (a : Nat) : ∀ L, (∀ j, j < L → -274877906944 ≤ z (a + j) ∧ z (a + j) ≤ 274877906944) → -(274877906944 * (L : Int)) ≤ gsum z a L ∧ gsum z a L ≤ 274877906944 * (L : Int)
  | 0, _ => by rw [gsum_zero]; omega
  | L + 1, h => by
    have h1 := gsum_bd z a L (fun j hj => h j (by omega))
    have h2 := h L (by omega)
    rw [gsum_succ]
    omega
theorem sumZ_split (z : Nat → Int) (a : Nat) : ∀ L, sumZ z (a + L) = sumZ z a + gsum z a L
  | 0 => by rw [gsum_zero]; simp
  | L + 1 => by
    rw [gsum_succ, ← Int.add_assoc, ← sumZ_split z a L]
    rfl

/-- What a group's sum leaves when it is divided. -/
def avg (z : Nat → Int) (a L : Nat) : Int := gsum z a L / (L : Int)
def rem (z : Nat → Int) (a L : Nat) : Int := gsum z a L - avg z a L * (L : Int)
/-- The step j of the group of L steps from a on, smoothed. -/
def lev (z : Nat → Int) (a L j : Nat) : Int := avg z a L + if (j : Int) < rem z a L then 1 else 0
theorem rem_bd (z : Nat → Int) (a L : Nat) (hL : 1 ≤ L) : 0 ≤ rem z a L ∧ rem z a L < (L : Int) := by
  have h1 := Int.emod_nonneg (gsum z a L) (show (L : Int) ≠ 0 by omega)
  have h2 := Int.emod_lt_of_pos (gsum z a L) (show (0 : Int) < (L : Int) by omega)
  have h3 := Int.mul_ediv_add_emod (gsum z a L) (L : Int)
  have e : rem z a L = gsum z a L % (L : Int) := by
    unfold rem avg
    rw [Int.mul_comm]
    omega
  rw [e]
  exact ⟨h1, h2⟩
theorem avg_eq (z : Nat → Int) (a L : Nat) : gsum z a L = avg z a L * (L : Int) + rem z a L := by unfold rem; omega
theorem avg_bd (z : Nat → Int) (a L : Nat) (hL : 1 ≤ L) (h : ∀ j, j < L → -274877906944 ≤ z (a + j) ∧ z (a + j) ≤ 274877906944) : -274877906944 ≤ avg z a L ∧ avg z a L ≤ 274877906944 ∧ (0 < rem z a L → avg z a L < 274877906944) := by
  obtain ⟨h1, h2⟩ := gsum_bd z a L h
  obtain ⟨h3, h4⟩ := rem_bd z a L hL
  have h5 := avg_eq z a L
  have hL' : (1 : Int) ≤ (L : Int) := by omega
  generalize avg z a L = q at *
  generalize rem z a L = r at *
  generalize gsum z a L = S at *
  generalize (L : Int) = l at *
  refine ⟨?_, ?_, fun hr => ?_⟩
  · apply Classical.byContradiction
    intro hc
    have := Int.mul_le_mul_of_nonneg_right (show q ≤ -274877906945 by omega) (show 0 ≤ l by omega)
    rw [show (-274877906945 : Int) * l = -(274877906944 * l) - l by omega] at this
    omega
  · apply Classical.byContradiction
    intro hc
    have := Int.mul_le_mul_of_nonneg_right (show 274877906945 ≤ q by omega) (show 0 ≤ l by omega)
    omega
  · apply Classical.byContradiction
    intro hc
    have := Int.mul_le_mul_of_nonneg_right (show 274877906944 ≤ q by omega) (show 0 ≤ l by omega)
    omega
theorem lev_bd (z : Nat → Int) (a L j : Nat) (hL : 1 ≤ L) (h : ∀ j, j < L → -274877906944 ≤ z (a + j) ∧ z (a + j) ≤ 274877906944) : -274877906944 ≤ lev z a L j ∧ lev z a L j ≤ 274877906944 := by
  obtain ⟨h1, h2, h3⟩ := avg_bd z a L hL h
  unfold lev
  split <;> omega
/-- The first k steps of a smoothed group. -/
theorem lev_pre (z : Nat → Int) (a L : Nat) (hL : 1 ≤ L) : ∀ k, sumZ (fun j => lev z a L j) k = avg z a L * (k : Int) + min (k : Int) (rem z a L)
  | 0 => by
    have := (rem_bd z a L hL).1
    show (0 : Int) = _
    rw [show (((0 : Nat) : Int)) = 0 from rfl, Int.mul_zero]
    omega
  | k + 1 => by
    show sumZ (fun j => lev z a L j) k + lev z a L k = _
    rw [lev_pre z a L hL k, show (((k + 1 : Nat) : Int)) = (k : Int) + 1 by omega, Int.mul_add, Int.mul_one]
    unfold lev
    split <;> omega
theorem lev_sum (z : Nat → Int) (a L : Nat) (hL : 1 ≤ L) : sumZ (fun j => lev z a L j) L = gsum z a L := by
  rw [lev_pre z a L hL L, avg_eq z a L]
  have := rem_bd z a L hL
  omega
theorem lev_desc (z : Nat → Int) (a L j : Nat) : lev z a L (j + 1) ≤ lev z a L j ∧ ∀ k, lev z a L j ≤ lev z a L k + 1 := by
  unfold lev
  refine ⟨?_, fun k => ?_⟩
  · split <;> split <;> omega
  · split <;> split <;> omega

/-- How many steps a group has that begins at a. -/
def gl (w n a : Nat) : Nat := min w (n - a)
/-- Step i of n, smoothed by groups of w. -/
def sm (z : Nat → Int) (n w i : Nat) : Int := lev z (i / w * w) (gl w n (i / w * w)) (i - i / w * w)
theorem in_group (w a j : Nat) (hw : 1 ≤ w) (hj : j < w) : (a * w + j) / w * w = a * w := by
  rw [Nat.mul_comm a w, Nat.mul_add_div (by omega), Nat.div_eq_of_lt hj]
  simp [Nat.mul_comm]
theorem div_le (w i : Nat) : i / w * w ≤ i := Nat.div_mul_le_self i w
theorem div_lt (w i : Nat) (hw : 1 ≤ w) : i < i / w * w + w := by
  have := Nat.div_add_mod i w
  have := Nat.mod_lt i (show 0 < w by omega)
  rw [Nat.mul_comm w] at *
  omega
theorem gl_pos (w n i : Nat) (hw : 1 ≤ w) (hi : i < n) : 1 ≤ gl w n (i / w * w) := by
  have := div_le w i
  unfold gl
  omega
theorem sm_at (z : Nat → Int) (n w a j : Nat) (hw : 1 ≤ w) (hj : j < w) : sm z n w (a * w + j) = lev z (a * w) (gl w n (a * w)) j := by
  unfold sm
  rw [in_group w a j hw hj, Nat.add_sub_cancel_left]
theorem sm_bd (z : Nat → Int) (n w i : Nat) (hw : 1 ≤ w) (hi : i < n) (h : ∀ i, i < n → -274877906944 ≤ z i ∧ z i ≤ 274877906944) : -274877906944 ≤ sm z n w i ∧ sm z n w i ≤ 274877906944 := by
  unfold sm
  refine lev_bd _ _ _ _ (gl_pos w n i hw hi) (fun j hj => h _ ?_)
  unfold gl at hj
  omega
/-- A smoothed group has the sum that it had. -/
theorem sm_gsum (z : Nat → Int) (n w a : Nat) (hw : 1 ≤ w) (ha : a * w < n) : gsum (sm z n w) (a * w) (gl w n (a * w)) = gsum z (a * w) (gl w n (a * w)) := by
  rw [← lev_sum z (a * w) (gl w n (a * w)) (by unfold gl; omega)]
  exact sumZ_congr (fun j hj => sm_at z n w a j hw (by unfold gl at hj; omega))
theorem sm_gsum' (z : Nat → Int) (n w i : Nat) (hw : 1 ≤ w) (hi : i < n) : gsum (sm z n w) (i / w * w) (gl w n (i / w * w)) = gsum z (i / w * w) (gl w n (i / w * w)) :=
  sm_gsum z n w (i / w) hw (by have := div_le w i; omega)
/-- Smoothing again changes nothing. -/
theorem sm_idem (z : Nat → Int) (n w i : Nat) (hw : 1 ≤ w) (hi : i < n) : sm (sm z n w) n w i = sm z n w i := by
  have h := sm_gsum' z n w i hw hi
  show lev (sm z n w) _ _ _ = lev z _ _ _
  unfold lev rem avg
  rw [h]
/-- Within a group values do not rise, and differ by at most 1. -/
theorem sm_steps (z : Nat → Int) (n w i : Nat) (hw : 1 ≤ w) (hi : 0 < i % w) : sm z n w i ≤ sm z n w (i - 1) ∧ sm z n w (i / w * w) ≤ sm z n w i + 1 := by
  have hd := Nat.div_add_mod i w
  have hm := Nat.mod_lt i (show 0 < w by omega)
  rw [Nat.mul_comm] at hd
  generalize i / w = a at *
  obtain ⟨j, hj⟩ : ∃ j, i % w = j + 1 := ⟨i % w - 1, by omega⟩
  rw [hj] at hd hm
  obtain rfl : i = a * w + (j + 1) := by omega
  have e0 := sm_at z n w a (j + 1) hw hm
  have e1 := sm_at z n w a j hw (by omega)
  have e2 := sm_at z n w a 0 hw (by omega)
  rw [Nat.add_zero] at e2
  rw [show a * w + (j + 1) - 1 = a * w + j by omega, e0, e1, e2]
  exact ⟨(lev_desc z _ _ j).1, (lev_desc z _ _ 0).2 _⟩
/-- Smoothing keeps the sum up to the end of each group. -/
theorem sm_whole (z : Nat → Int) (n w : Nat) (hw : 1 ≤ w) : ∀ a, a * w ≤ n → sumZ (sm z n w) (a * w) = sumZ z (a * w)
  | 0, _ => by rw [Nat.zero_mul]; rfl
  | a + 1, h => by
    have hm : (a + 1) * w = a * w + w := by rw [Nat.add_mul, Nat.one_mul]
    rw [hm] at h ⊢
    have hg : gl w n (a * w) = w := by unfold gl; omega
    have := sm_gsum z n w a hw (by omega)
    rw [hg] at this
    rw [sumZ_split, sumZ_split, sm_whole z n w hw a (by omega), this]
theorem sm_all (z : Nat → Int) (n w : Nat) (hw : 1 ≤ w) : sumZ (sm z n w) n = sumZ z n := by
  have hd := Nat.div_add_mod n w
  have hm := Nat.mod_lt n (show 0 < w by omega)
  rw [Nat.mul_comm] at hd
  have h1 := sm_whole z n w hw (n / w) (by omega)
  by_cases e : n % w = 0
  · rw [e, Nat.add_zero] at hd
    rw [hd] at h1
    exact h1
  · have hg : gl w n (n / w * w) = n % w := by unfold gl; omega
    have h2 := sm_gsum z n w (n / w) hw (by omega)
    rw [hg] at h2
    have e1 := sumZ_split (sm z n w) (n / w * w) (n % w)
    have e2 := sumZ_split z (n / w * w) (n % w)
    rw [hd] at e1 e2
    rw [e1, e2, h1, h2]
theorem sm_ends (z : Nat → Int) (n w i : Nat) (hw : 1 ≤ w) (hi : i < n) (h : (i + 1) % w = 0 ∨ i + 1 = n) : sumZ (sm z n w) (i + 1) = sumZ z (i + 1) := by
  rcases h with h | h
  · have hd := Nat.div_add_mod (i + 1) w
    rw [h, Nat.add_zero, Nat.mul_comm] at hd
    have := sm_whole z n w hw ((i + 1) / w) (by omega)
    rw [hd] at this
    exact this
  · rw [h]; exact sm_all z n w hw
/-- Groups of 1. -/
theorem sm_one (z : Nat → Int) (n i : Nat) (hi : i < n) : sm z n 1 i = z i := by
  unfold sm
  rw [Nat.div_one, Nat.mul_one, Nat.sub_self]
  have hg : gl 1 n i = 1 := by unfold gl; omega
  rw [hg]
  have hs : gsum z i 1 = z i := by
    rw [gsum_succ, gsum_zero, Nat.add_zero]; omega
  unfold lev rem avg
  rw [hs]
  simp
/-- One group. -/
theorem sm_big (z : Nat → Int) (n i j : Nat) (hn : n ≤ 4096) (hi : i < n) (hj : j < n) : sm z n 4096 i - sm z n 4096 j ≤ 1 := by
  have e1 : i / 4096 = 0 := Nat.div_eq_of_lt (by omega)
  have e2 : j / 4096 = 0 := Nat.div_eq_of_lt (by omega)
  have := (lev_desc z 0 (gl 4096 n 0) i).2 j
  unfold sm
  rw [e1, e2]
  simp only [Nat.zero_mul, Nat.sub_zero]
  omega
theorem sm_congr {z y : Nat → Int} {n w i : Nat} (hw : 1 ≤ w) (hi : i < n) (h : ∀ i, i < n → z i = y i) : sm z n w i = sm y n w i := by
  have e : gsum z (i / w * w) (gl w n (i / w * w)) = gsum y (i / w * w) (gl w n (i / w * w)) := gsum_congr (fun j hj => h _ (by unfold gl at hj; omega))
  unfold sm lev rem avg
  rw [e]

/-- The inflow of step t by the balance, and its bounds. -/
def bal (z y : Nat → Int) (t : Nat) : Int := z (t + 1) - z t + y t
def unL (z y : Nat → Int) (o : Int) (t : Nat) : Int := max 0 (z (t + 1) - o) - (z t + o) + y t
def unM (z y : Nat → Int) (o : Int) (t : Nat) : Int := z (t + 1) + o - max 0 (z t - o) + y t
theorem bal_sum (z y : Nat → Int) : ∀ n, sumZ (bal z y) n = z n - z 0 + sumZ y n
  | 0 => by show (0 : Int) = z 0 - z 0 + 0; omega
  | n + 1 => by
    show sumZ (bal z y) n + bal z y n = z (n + 1) - z 0 + (sumZ y n + y n)
    rw [bal_sum z y n]
    unfold bal
    omega
end Go.Proofs.Ytbcjigociliflaa.If

/-
  A byte that is changed is noticed: the bytes alone, no code.
-/
import Derived.Test.YtlelcooomfcbaaaDoorGgBk
namespace Go.Proofs.YtlelcooomfcbaaaDoor.Gg
set_option linter.unusedVariables false

/-- The sum behind Sum, not reduced. -/
def suG (B : Nat → Int) : Nat → Int
  | 0 => 0
  | k + 1 => suG B k + ((k : Int) + 1) * (B k + 1)
theorem smG_su (B : Nat → Int) : ∀ n, n ≤ 1000 → smG B n = suG B n % 65521
  | 0, _ => rfl
  | n + 1, h => by
    have ih := smG_su B n (by omega)
    show (smG B n + ((n : Int) + 1) % 65521 * (B n + 1)) % 65521 = (suG B n + ((n : Int) + 1) * (B n + 1)) % 65521
    rw [ih, show ((n : Int) + 1) % 65521 = (n : Int) + 1 by omega]
    generalize ((n : Int) + 1) * (B n + 1) = t
    omega
theorem suG_upd (B C : Nat → Int) (i : Nat) (hne : ∀ j, j ≠ i → C j = B j) : ∀ n, suG C n = suG B n + (if i < n then ((i : Int) + 1) * (C i - B i) else 0)
  | 0 => by simp [suG]
  | n + 1 => by
    have ih := suG_upd B C i hne n
    show suG C n + ((n : Int) + 1) * (C n + 1) = suG B n + ((n : Int) + 1) * (B n + 1) + _
    rw [ih]
    by_cases e : i = n
    · subst e
      rw [if_neg (by omega), if_pos (by omega)]
      rw [show C i + 1 = (B i + 1) + (C i - B i) by omega, Int.mul_add]
      omega
    · rw [hne n (by omega)]
      by_cases e2 : i < n
      · rw [if_pos e2, if_pos (by omega)]; omega
      · rw [if_neg e2, if_neg (by omega)]; omega
set_option maxHeartbeats 1000000 in
/-- One byte of the ten changed: another Sum. -/
theorem smG_moved (B C : Nat → Int) (i : Nat) (hi : i < 10) (hne : ∀ j, j ≠ i → C j = B j) (hb : 0 ≤ B i ∧ B i ≤ 255) (hc : 0 ≤ C i ∧ C i ≤ 255) (hd : C i ≠ B i) : smG C 10 ≠ smG B 10 := by
  rw [smG_su C 10 (by omega), smG_su B 10 (by omega), suG_upd B C i hne 10, if_pos hi]
  have hx : C i - B i ≠ 0 := by omega
  have h1 : -255 ≤ C i - B i := by omega
  have h2 : C i - B i ≤ 255 := by omega
  generalize C i - B i = x at *
  generalize suG B 10 = s
  have hcs : i = 0 ∨ i = 1 ∨ i = 2 ∨ i = 3 ∨ i = 4 ∨ i = 5 ∨ i = 6 ∨ i = 7 ∨ i = 8 ∨ i = 9 := by omega
  obtain ⟨e, he, e1, e2, e3⟩ : ∃ e, ((i : Int) + 1) * x = e ∧ -2550 ≤ e ∧ e ≤ 2550 ∧ e ≠ 0 := by
    rcases hcs with rfl | rfl | rfl | rfl | rfl | rfl | rfl | rfl | rfl | rfl <;> exact ⟨_, rfl, by omega, by omega, by omega⟩
  rw [he]
  intro h
  omega
end Go.Proofs.YtlelcooomfcbaaaDoor.Gg

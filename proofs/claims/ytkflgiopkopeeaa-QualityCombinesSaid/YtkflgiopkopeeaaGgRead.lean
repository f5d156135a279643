/-
  The contract of Readings: a deck makes a list of valid readings.
-/
import Derived.Test.YtkflgiopkopeeaaGgFns
import Derived.Test.YtkflgiopkopeeaaCuDeck
namespace Go.Proofs.Ytkflgiopkopeeaa.Gg
open Go.ChangeShapes Go.WideShapes Go.ChangeAt Go.RowKit
open Go.Proofs.Ytkflgiopkopeeaa.Cu (Dk Dk.grown Dk.alloc next_any grown_own grown_trans)
set_option linter.unusedVariables false

/-- What Readings holds: its list, the deck. -/
structure Gi (w : World) (g : Nat) (p : Option Addr) (n c : Nat) (z : Nat → Int) (v : Value) (j : Nat) (R : Nat → Nat → Int) (W : World) : Prop where
  got : GotR W w.heap.size v j R
  dk : Dk W g p n c z
  gr : w.grownBy W (some g)
  lt : g < w.heap.size
theorem setG (w : World) (a : Addr) (u : Value) : w.grownBy (w.setCell a u) (some a.block) :=
  ⟨rfl, rfl, rfl, by simp [World.setCell], fun j hj hne => Below.heap_setCell _ _ _ _ (by intro e; apply hne; rw [e])⟩
theorem Gi.ne {w : World} {g : Nat} {p : Option Addr} {n c : Nat} {z : Nat → Int} {v : Value} {j : Nat} {R : Nat → Nat → Int} {W : World} (h : Gi w g p n c z v j R W) : v.ownBlock ≠ some g := fun e => by
  have := gotR_block h.got g e
  have := h.lt
  omega
theorem Gi.next {w : World} {g : Nat} {p : Option Addr} {n c : Nat} {z : Nat → Int} {v : Value} {j : Nat} {R : Nat → Nat → Int} {W W' : World} (h : Gi w g p n c z v j R W) (hd : Dk W' g p n c z) (hg : W.grownBy W' (some g)) : Gi w g p n c z v j R W' :=
  ⟨h.got.kept hg (.inr h.ne), hd, grown_trans h.gr hg, h.lt⟩
theorem Gi.alloc {w : World} {g : Nat} {p : Option Addr} {n c : Nat} {z : Nat → Int} {v : Value} {j : Nat} {R : Nat → Nat → Int} {W : World} (h : Gi w g p n c z v j R W) (o : Obj) : Gi w g p n c z v j R (W.alloc o) :=
  ⟨World.ownsRow.alloc h.got o, h.dk.alloc o, grown_trans h.gr (World.grownBy_alloc W o (some g)), h.lt⟩
theorem Gi.set {w : World} {g : Nat} {p : Option Addr} {n c : Nat} {z : Nat → Int} {v : Value} {j : Nat} {R : Nat → Nat → Int} {W : World} (h : Gi w g p n c z v j R W) (kb i : Nat) (u : Value) (h1 : w.heap.size ≤ kb) (h2 : v.ownBlock ≠ some kb) : Gi w g p n c z v j R (W.setCell ⟨kb, i, none⟩ u) :=
  have hg : W.grownBy (W.setCell ⟨kb, i, none⟩ u) (some kb) := setG W ⟨kb, i, none⟩ u
  have hl := h.lt
  ⟨h.got.kept hg (.inr h2), h.dk.grown hg (by simp; omega) (by intro k hk; cases hk; omega), grown_own h.gr hg (by intro k hk; cases hk; exact h1), h.lt⟩
theorem Gi.app {w : World} {g : Nat} {p : Option Addr} {n c : Nat} {z : Nat → Int} {v : Value} {j : Nat} {R : Nat → Nat → Int} {W W' : World} (h : Gi w g p n c z v j R W) {v' : Value} {a b c' d : Int} (ho : W'.ownsRow w.heap.size 25 4 v' (j + 1) (rsL R j ++ [.int .i64 a, .int .i64 b, .int .i64 c', .int .i64 d])) (hg : W.grownBy W' v.ownBlock) : Gi w g p n c z v' (j + 1) (updR R j (mkR a b c' d)) W' :=
  ⟨gotR_next ho, h.dk.grown hg (fun e => h.ne e.symm) (fun k hk => by have := gotR_block h.got k hk; have := h.lt; omega), grown_own h.gr hg (fun k hk => gotR_block h.got k hk), h.lt⟩
/-- Readings as the deck makes them. -/
def MkR (R : Nat → Nat → Int) (j : Nat) : Prop := ∀ i, i < j → (0 ≤ R i 0 ∧ R i 0 ≤ 2) ∧ (0 ≤ R i 1 ∧ R i 1 ≤ 9 + 2 * i) ∧ (0 ≤ R i 2 ∧ R i 2 ≤ 299) ∧ (0 ≤ R i 3 ∧ R i 3 ≤ 2)
theorem MkR.next {R : Nat → Nat → Int} {j : Nat} (h : MkR R j) (a b c d : Int) (ha : 0 ≤ a ∧ a ≤ 2) (hb : 0 ≤ b ∧ b ≤ 9 + 2 * j) (hc : 0 ≤ c ∧ c ≤ 299) (hd : 0 ≤ d ∧ d ≤ 2) : MkR (updR R j (mkR a b c d)) (j + 1) := fun i hi => by
  by_cases e : i = j
  · subst e
    rw [updR_same]
    exact ⟨ha, hb, hc, hd⟩
  · rw [updR_other _ _ e]
    exact h i (by omega)
theorem MkR.ok {R : Nat → Nat → Int} {j : Nat} (h : MkR R j) (hj : j ≤ 1000) : alG R j = 0 := by
  rw [alG_zero]
  intro i hi
  obtain ⟨h0, h1, h2, h3⟩ := h i hi
  unfold Vr
  omega
theorem cell_fourN (w : World) (N : Nat) (hN : w.heap.size = N) (u0 u1 u2 u3 : Value) (t : TypeId) : ∀ j x, [u0, u1, u2, u3][j]? = some x → (w.alloc (.cells #[u0, u1, u2, u3] t)).cell? ((⟨N, 0, none⟩ : Addr).add j) = some x := by
  subst hN; exact cell_four w u0 u1 u2 u3 t
def GrP (w : World) (g : Nat) (p : Option Addr) (n c : Nat) (z : Nat → Int) (most : Nat) (e : Ending) (w' : World) : Prop :=
  ∃ (v : Value) (j : Nat) (R : Nat → Nat → Int), e = .returned v ∧ j ≤ most ∧ MkR R j ∧ Gi w g p n c z v j R w'

end Go.Proofs.Ytkflgiopkopeeaa.Gg

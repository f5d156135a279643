/-
  Lists of points: what can be read, and what a call has gathered of its own.
-/
import Derived.Test.YtbcjigociliflaaCuFns
import Derived.Test.YtbcjigociliflaaCuMath
namespace Go.Proofs.Ytbcjigociliflaa.Cu
open Go.ChangeShapes Go.WideShapes Go.ChangeAt Go.RowKit
set_option linter.unusedVariables false

/-- At offset off of block b stand the n points (X 0, Y 0), .. -/
def Pts (w : World) (b off n : Nat) (X Y : Nat → Int) : Prop :=
  b < w.heap.size ∧ ∀ i, i < n → w.cell? ⟨b, off + i * 2, none⟩ = some (.int .i64 (X i)) ∧ w.cell? ⟨b, off + i * 2 + 1, none⟩ = some (.int .i64 (Y i))
theorem Pts.below {w w' : World} {B b off n : Nat} {X Y : Nat → Int} (h : Pts w b off n X Y) (hb : Below B w w') (hB : b < B) : Pts w' b off n X Y :=
  ⟨Nat.lt_of_lt_of_le h.1 hb.size, fun i hi => ⟨(hb.cell (p := ⟨b, off + i * 2, none⟩) hB).trans (h.2 i hi).1, (hb.cell (p := ⟨b, off + i * 2 + 1, none⟩) hB).trans (h.2 i hi).2⟩⟩
theorem Pts.up {w w' : World} {B b off n : Nat} {X Y : Nat → Int} (h : Pts w b off n X Y) (hb : Below B w w') (hB : w.heap.size ≤ B) : Pts w' b off n X Y := h.below hb (Nat.lt_of_lt_of_le h.1 hB)
theorem Pts.grown {w w' : World} {r : Option Nat} {b off n : Nat} {X Y : Nat → Int} (h : Pts w b off n X Y) (hg : w.grownBy w' r) (hr : some b ≠ r) : Pts w' b off n X Y :=
  ⟨Nat.lt_of_lt_of_le h.1 hg.size, fun i hi => ⟨hg.cell (h.2 i hi).1 hr, hg.cell (h.2 i hi).2 hr⟩⟩
theorem Pts.drewN {w : World} {b off n : Nat} {X Y : Nat → Int} (h : Pts w b off n X Y) (q : Nat) : Pts (w.drewN q) b off n X Y := h
theorem Pts.alloc {w : World} {b off n : Nat} {X Y : Nat → Int} (h : Pts w b off n X Y) (o : Obj) : Pts (w.alloc o) b off n X Y := h.up ((Below.refl w.heap.size w).alloc (Nat.le_refl _) o) (Nat.le_refl _)

/-- A slice of n points can be read. -/
def RdP (w : World) (p : Option Addr) (n : Nat) (X Y : Nat → Int) : Prop := 0 < n → ∃ b off, p = some ⟨b, off, none⟩ ∧ Pts w b off n X Y
theorem RdP.below {w w' : World} {B : Nat} {p : Option Addr} {n : Nat} {X Y : Nat → Int} (h : RdP w p n X Y) (hb : Below B w w') (hB : w.heap.size ≤ B) : RdP w' p n X Y := by
  intro hn
  obtain ⟨b, off, rfl, hp⟩ := h hn
  exact ⟨b, off, rfl, hp.up hb hB⟩

/-- The cells of n points. -/
def ptL (X Y : Nat → Int) : Nat → List Value
  | 0 => []
  | n + 1 => ptL X Y n ++ [.int .i64 (X n), .int .i64 (Y n)]
theorem ptL_len (X Y : Nat → Int) : ∀ n, (ptL X Y n).length = n * 2
  | 0 => rfl
  | n + 1 => by unfold ptL; rw [List.length_append, ptL_len X Y n]; simp; omega
theorem ptL_get (X Y : Nat → Int) : ∀ n i, i < n → (ptL X Y n)[i * 2]? = some (.int .i64 (X i)) ∧ (ptL X Y n)[i * 2 + 1]? = some (.int .i64 (Y i))
  | 0, i, hi => absurd hi (Nat.not_lt_zero _)
  | n + 1, i, hi => by
    unfold ptL
    by_cases e : i = n
    · subst e
      rw [List.getElem?_append_right (by rw [ptL_len]; exact Nat.le_refl _), List.getElem?_append_right (by rw [ptL_len]; omega), ptL_len]
      rw [show i * 2 - i * 2 = 0 by omega, show i * 2 + 1 - i * 2 = 1 by omega]
      exact ⟨rfl, rfl⟩
    · have h := ptL_get X Y n i (by omega)
      rw [List.getElem?_append_left (by rw [ptL_len]; omega), List.getElem?_append_left (by rw [ptL_len]; omega)]
      exact h
theorem ptL_congr (X Y X' Y' : Nat → Int) : ∀ n, (∀ i, i < n → X i = X' i ∧ Y i = Y' i) → ptL X Y n = ptL X' Y' n
  | 0, _ => rfl
  | n + 1, h => by unfold ptL; rw [ptL_congr X Y X' Y' n (fun i hi => h i (by omega)), (h n (by omega)).1, (h n (by omega)).2]

def updF (s : Nat → Int) (j : Nat) (x : Int) (i : Nat) : Int := if i = j then x else s i
theorem updF_same (s : Nat → Int) (j : Nat) (x : Int) : updF s j x j = x := if_pos rfl
theorem updF_other (s : Nat → Int) {i j : Nat} (x : Int) (h : i ≠ j) : updF s j x i = s i := if_neg h
theorem cell_two (w : World) (u v : Value) (t : TypeId) : ∀ j x, [u, v][j]? = some x → (w.alloc (.cells #[u, v] t)).cell? ((⟨w.heap.size, 0, none⟩ : Addr).add j) = some x := by
  intro j x hj
  match j, hj with
  | 0, hj => simp at hj; subst hj; simp [Addr.add]
  | 1, hj => simp at hj; subst hj; simp [Addr.add]
theorem below_of_grown {w w' : World} {g : Nat} (h : w.grownBy w' (some g)) (hg : g ≤ w.heap.size) : Below g w w' :=
  ⟨h.os, h.tape, h.output, h.size, fun k hk => h.block k (by omega) (by intro e; cases e; omega)⟩
theorem grown_refl (w : World) (r : Option Nat) : w.grownBy w r := ⟨rfl, rfl, rfl, Nat.le_refl _, fun _ _ _ => rfl⟩
theorem grown_trans {a b c : World} {r : Option Nat} (h : a.grownBy b r) (h2 : b.grownBy c r) : a.grownBy c r :=
  ⟨h2.os.trans h.os, h2.tape.trans h.tape, h2.output.trans h.output, Nat.le_trans h.size h2.size, fun k hk hr => (h2.block k (Nat.lt_of_lt_of_le hk h.size) hr).trans (h.block k hk hr)⟩
/-- A step that turns a row of the call's own only. -/
theorem grown_own {a b c : World} {r r2 : Option Nat} (h : a.grownBy b r) (h2 : b.grownBy c r2) (hr : ∀ k, r2 = some k → a.heap.size ≤ k) : a.grownBy c r :=
  ⟨h2.os.trans h.os, h2.tape.trans h.tape, h2.output.trans h.output, Nat.le_trans h.size h2.size, fun k hk hne => (h2.block k (Nat.lt_of_lt_of_le hk h.size) (fun e => by have := hr k e.symm; omega)).trans (h.block k hk hne)⟩
theorem grown_drewN (w : World) (q : Nat) (r : Option Nat) : w.grownBy (w.drewN q) r := ⟨rfl, rfl, rfl, Nat.le_refl _, fun _ _ _ => rfl⟩
theorem grown_below {w w' : World} {B : Nat} (h : Below B w w') (hB : w.heap.size ≤ B) (r : Option Nat) : w.grownBy w' r := ⟨h.os, h.tape, h.output, h.size, fun k hk _ => h.block k (by omega)⟩

end Go.Proofs.Ytbcjigociliflaa.Cu

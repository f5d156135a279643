/-
  Lists whose elements have one cell: what can be read, what a call has gathered of its own.
-/
import Derived.Test.YtkflgiopkopeeaaGgFns
import Derived.Test.YtkflgiopkopeeaaCaLst
import Derived.Test.YtkflgiopkopeeaaQlMath
namespace Go.Proofs.Ytkflgiopkopeeaa.Ql
open Go.ChangeShapes Go.WideShapes Go.ChangeAt Go.RowKit
open Go.Proofs.Ytkflgiopkopeeaa.Cu (grown_below grown_own grown_trans grown_refl grown_drewN updF updF_same updF_other)
open Go.Proofs.Ytkflgiopkopeeaa.Ca (inB inB_yes inB_no Rd)
set_option linter.unusedVariables false

/-- A slice of n values of one cell each can be read at this address. -/
def RdV (w : World) (p : Option Addr) (n : Nat) (C : Nat → Value) : Prop := 0 < n → ∃ b off, p = some ⟨b, off, none⟩ ∧ b < w.heap.size ∧ ∀ i, i < n → w.cell? ⟨b, off + i, none⟩ = some (C i)
theorem RdV.below {w w' : World} {B : Nat} {p : Option Addr} {n : Nat} {C : Nat → Value} (h : RdV w p n C) (hb : Below B w w') (hB : w.heap.size ≤ B) : RdV w' p n C := by
  intro hn
  obtain ⟨b, off, rfl, hlt, hc⟩ := h hn
  exact ⟨b, off, rfl, Nat.lt_of_lt_of_le hlt hb.size, fun i hi => (hb.cell (p := ⟨b, off + i, none⟩) (Nat.lt_of_lt_of_le hlt hB)).trans (hc i hi)⟩
theorem RdV.alloc {w : World} {p : Option Addr} {n : Nat} {C : Nat → Value} (h : RdV w p n C) (o : Obj) : RdV (w.alloc o) p n C := h.below ((Below.refl w.heap.size w).alloc (Nat.le_refl _) o) (Nat.le_refl _)
theorem RdV.take {w : World} {p : Option Addr} {n k : Nat} {C : Nat → Value} (h : RdV w p n C) (hk : k ≤ n) : RdV w p k C := by
  intro hn
  obtain ⟨b, off, rfl, hlt, hc⟩ := h (by omega)
  exact ⟨b, off, rfl, hlt, fun i hi => hc i (by omega)⟩
theorem RdV.congr {w : World} {p : Option Addr} {n : Nat} {C C' : Nat → Value} (h : RdV w p n C) (e : ∀ i, i < n → C i = C' i) : RdV w p n C' := by
  intro hn
  obtain ⟨b, off, rfl, hlt, hc⟩ := h hn
  exact ⟨b, off, rfl, hlt, fun i hi => (hc i hi).trans (by rw [e i hi])⟩
theorem RdV.grown {w w' : World} {r : Option Nat} {p : Option Addr} {n : Nat} {C : Nat → Value} (h : RdV w p n C) (hg : w.grownBy w' r) (hr : ∀ b off, p = some ⟨b, off, none⟩ → some b ≠ r) : RdV w' p n C := by
  intro hn
  obtain ⟨b, off, rfl, hlt, hc⟩ := h hn
  exact ⟨b, off, rfl, Nat.lt_of_lt_of_le hlt hg.size, fun i hi => hg.cell (hc i hi) (hr b off rfl)⟩
/-- .. of truths. -/
def RdL (w : World) (p : Option Addr) (n : Nat) (G : Nat → Bool) : Prop := 0 < n → ∃ b off, p = some ⟨b, off, none⟩ ∧ b < w.heap.size ∧ ∀ i, i < n → w.cell? ⟨b, off + i, none⟩ = some (.bool (G i))
theorem rd_v {w : World} {p : Option Addr} {n : Nat} {z : Nat → Int} : Rd w p n z ↔ RdV w p n (fun i => .int .i64 (z i)) := Iff.rfl
theorem rdl_v {w : World} {p : Option Addr} {n : Nat} {G : Nat → Bool} : RdL w p n G ↔ RdV w p n (fun i => .bool (G i)) := Iff.rfl
theorem RdL.below {w w' : World} {B : Nat} {p : Option Addr} {n : Nat} {G : Nat → Bool} (h : RdL w p n G) (hb : Below B w w') (hB : w.heap.size ≤ B) : RdL w' p n G := RdV.below (C := fun i => .bool (G i)) h hb hB

/-- The cells of n values. -/
def vL (C : Nat → Value) : Nat → List Value
  | 0 => []
  | n + 1 => vL C n ++ [C n]
theorem vL_len (C : Nat → Value) : ∀ n, (vL C n).length = n
  | 0 => rfl
  | n + 1 => by unfold vL; rw [List.length_append, vL_len C n]; simp
theorem vL_get (C : Nat → Value) : ∀ n i, i < n → (vL C n)[i]? = some (C i)
  | 0, i, hi => absurd hi (Nat.not_lt_zero _)
  | n + 1, i, hi => by
    unfold vL
    by_cases e : i = n
    · subst e
      rw [List.getElem?_append_right (by rw [vL_len]; omega), vL_len, Nat.sub_self]
      rfl
    · rw [List.getElem?_append_left (by rw [vL_len]; omega)]
      exact vL_get C n i (by omega)
theorem vL_congr (C C' : Nat → Value) : ∀ n, (∀ i, i < n → C i = C' i) → vL C n = vL C' n
  | 0, _ => rfl
  | n + 1, h => by unfold vL; rw [vL_congr C C' n (fun i hi => h i (by omega)), h n (by omega)]
/-- v is a list of the call's own, elements of type t and one cell. -/
def Own (t : TypeId) (w : World) (base : Nat) (v : Value) (n : Nat) (C : Nat → Value) : Prop := w.ownsRow base t 1 v n (vL C n)
theorem own_nil (t : TypeId) (w : World) (base : Nat) (C : Nat → Value) : Own t w base (.slice none 0 0) 0 C := World.ownsRow_nil w base t 1
theorem own_block {t : TypeId} {w : World} {base : Nat} {v : Value} {n : Nat} {C : Nat → Value} (h : Own t w base v n C) : ∀ k, v.ownBlock = some k → base ≤ k := fun k hk => (h.lt k hk).1
theorem own_rd {t : TypeId} {w : World} {base : Nat} {v : Value} {n : Nat} {C : Nat → Value} (h : Own t w base v n C) : ∃ p cap, v = .slice p n cap ∧ RdV w p n C ∧ ∀ b off, p = some ⟨b, off, none⟩ → base ≤ b := by
  rcases h.2 with ⟨rfl, rfl⟩ | ⟨g, cap, cur, rfl, hb, hg, hc, _, _, _⟩
  · exact ⟨none, 0, rfl, fun h => absurd h (Nat.lt_irrefl _), fun b off e => by cases e⟩
  · refine ⟨some ⟨g, 0, none⟩, cap, rfl, fun hn => ⟨g, 0, rfl, (h.lt g rfl).2, fun i hi => ?_⟩, fun b off e => by cases e; exact hb⟩
    rw [Nat.zero_add, h.cellAt i (by omega)]
    exact vL_get C n i hi
theorem own_congr {t : TypeId} {w : World} {base : Nat} {v : Value} {n : Nat} {C C' : Nat → Value} (h : Own t w base v n C) (e : ∀ i, i < n → C i = C' i) : Own t w base v n C' := by
  unfold Own; rw [← vL_congr C C' n e]; exact h
theorem own_up {t : TypeId} {w w' : World} {base : Nat} {v : Value} {n : Nat} {C : Nat → Value} (h : Own t w base v n C) (hb : Below w.heap.size w w') : Own t w' base v n C := h.kept (Ca.grown_below hb (Nat.le_refl _) none) (by cases hv : v.ownBlock <;> simp)
theorem own_grown {t : TypeId} {w w' : World} {base : Nat} {v : Value} {n : Nat} {C : Nat → Value} {r : Option Nat} (h : Own t w base v n C) (hg : w.grownBy w' r) (hr : v.ownBlock = none ∨ v.ownBlock ≠ r) : Own t w' base v n C := h.kept hg hr
/-- One value more. -/
theorem own_next {t : TypeId} {w : World} {base : Nat} {v : Value} {n : Nat} {C C' : Nat → Value} {u : Value} (h : w.ownsRow base t 1 v (n + 1) (vL C n ++ [u])) (e : ∀ i, i < n → C i = C' i) (hu : u = C' n) : Own t w base v (n + 1) C' := by
  unfold Own vL
  rw [← vL_congr C C' n e, ← hu]
  exact h
theorem vL_one {C : Nat → Value} (hC : ∀ i, (C i).oneCell' = true) : ∀ k, ∀ u ∈ vL C k, u.oneCell' = true
  | 0, u, hu => by simp [vL] at hu
  | k + 1, u, hu => by
    unfold vL at hu
    rw [List.mem_append] at hu
    rcases hu with hu | hu
    · exact vL_one hC k u hu
    · simp at hu; subst hu; exact hC k
/-- Integers, truths. -/
def iC (z : Nat → Int) (i : Nat) : Value := .int .i64 (z i)
def bC (G : Nat → Bool) (i : Nat) : Value := .bool (G i)
def updB (s : Nat → Bool) (j : Nat) (x : Bool) (i : Nat) : Bool := if i = j then x else s i
theorem updB_same (s : Nat → Bool) (j : Nat) (x : Bool) : updB s j x j = x := if_pos rfl
theorem updB_other (s : Nat → Bool) {i j : Nat} (x : Bool) (h : i ≠ j) : updB s j x i = s i := if_neg h
theorem Try.infoI : (Try.prog.info? 3).map (fun i => (i.zero, i.size, i.bytes)) = some (some (.int .i64 0), 1, 8) := by kernel_rfl
theorem Try.infoL : (Try.prog.info? 4).map (fun i => (i.zero, i.size, i.bytes)) = some (some (.bool false), 1, 1) := by kernel_rfl
theorem Try.infoS : (Try.prog.info? 26).map (fun i => (i.zero, i.size, i.bytes)) = some (some (.slice none 0 0), 1, 24) := by kernel_rfl
theorem Try.infoQ : (Try.prog.info? 30).map (fun i => (i.zero, i.size, i.bytes)) = some (some (.slice none 0 0), 1, 24) := by kernel_rfl
theorem Try.infoC : (Try.prog.info? 23).map (fun i => (i.zero, i.size, i.bytes)) = some (some (.agg #[.int .i64 0, .int .i64 0, .int .i64 0, .int .i64 0]), 4, 32) := by kernel_rfl
theorem cell_one (w : World) (u : Value) (t : TypeId) : ∀ j x, [u][j]? = some x → (w.alloc (.cells #[u] t)).cell? ((⟨w.heap.size, 0, none⟩ : Addr).add j) = some x := Ca.cell_one w u t
theorem made_get (z : Value) (n i : Nat) (h : i < n) : (madeCells #[z] n)[i]? = some z := by
  rw [← Array.getElem?_toList, toList_madeCells_one]
  simp [h]
/-- What a call returns: an error alone, a truth, a number. -/
def Ek (c : Int) (w : World) (e : Ending) (w' : World) : Prop := e = .returned (.int .i64 c) ∧ Below w.heap.size w w'
def Et (b : Bool) (w : World) (e : Ending) (w' : World) : Prop := e = .returned (.bool b) ∧ Below w.heap.size w w'
def Ekt (c : Int) (b : Bool) (w : World) (e : Ending) (w' : World) : Prop := e = .returned (.tuple #[.int .i64 c, .bool b]) ∧ Below w.heap.size w w'
theorem below_grown {B : Nat} {a w w' : World} {g : Nat} (h : Below B a w) (hB : B ≤ a.heap.size) (hg : w.grownBy w' (some g)) (hv : B ≤ g) : Below B a w' :=
  h.grown hg (Nat.le_trans hB h.size) (by intro k hk; cases hk; exact hv)
end Go.Proofs.Ytkflgiopkopeeaa.Ql

/-
  Lists of readings and of bytes: what can be read, what a call has gathered of its own.
-/
import Derived.Test.YtkflgiopkopeeaaCuPts
import Derived.Test.YtkflgiopkopeeaaCaFns
namespace Go.Proofs.Ytkflgiopkopeeaa.Gg
open Go.ChangeShapes Go.WideShapes Go.ChangeAt Go.RowKit
open Go.Proofs.Ytkflgiopkopeeaa.Cu (grown_below grown_own grown_trans grown_refl grown_drewN)
open Go.Proofs.Ytkflgiopkopeeaa.Ca (inB inB_yes inB_no)
set_option linter.unusedVariables false

/-! ### readings: four numbers each -/
/-- At offset off of block b stand the n readings R 0, R 1, .. -/
def Rs (w : World) (b off n : Nat) (R : Nat → Nat → Int) : Prop :=
  b < w.heap.size ∧ ∀ i, i < n → ∀ j, j < 4 → w.cell? ⟨b, off + i * 4 + j, none⟩ = some (.int .i64 (R i j))
theorem Rs.below {w w' : World} {B b off n : Nat} {R : Nat → Nat → Int} (h : Rs w b off n R) (hb : Below B w w') (hB : b < B) : Rs w' b off n R :=
  ⟨Nat.lt_of_lt_of_le h.1 hb.size, fun i hi j hj => (hb.cell (p := ⟨b, off + i * 4 + j, none⟩) hB).trans (h.2 i hi j hj)⟩
theorem Rs.up {w w' : World} {B b off n : Nat} {R : Nat → Nat → Int} (h : Rs w b off n R) (hb : Below B w w') (hB : w.heap.size ≤ B) : Rs w' b off n R := h.below hb (Nat.lt_of_lt_of_le h.1 hB)
theorem Rs.grown {w w' : World} {r : Option Nat} {b off n : Nat} {R : Nat → Nat → Int} (h : Rs w b off n R) (hg : w.grownBy w' r) (hr : some b ≠ r) : Rs w' b off n R :=
  ⟨Nat.lt_of_lt_of_le h.1 hg.size, fun i hi j hj => hg.cell (h.2 i hi j hj) hr⟩
theorem Rs.alloc {w : World} {b off n : Nat} {R : Nat → Nat → Int} (h : Rs w b off n R) (o : Obj) : Rs (w.alloc o) b off n R := h.up ((Below.refl w.heap.size w).alloc (Nat.le_refl _) o) (Nat.le_refl _)
theorem Rs.cells {w : World} {b off n : Nat} {R : Nat → Nat → Int} (h : Rs w b off n R) (i : Nat) (hi : i < n) :
    w.cell? ⟨b, off + i * 4, none⟩ = some (.int .i64 (R i 0)) ∧ w.cell? ⟨b, off + i * 4 + 1, none⟩ = some (.int .i64 (R i 1)) ∧ w.cell? ⟨b, off + i * 4 + 2, none⟩ = some (.int .i64 (R i 2)) ∧ w.cell? ⟨b, off + i * 4 + 3, none⟩ = some (.int .i64 (R i 3)) :=
  ⟨h.2 i hi 0 (by omega), h.2 i hi 1 (by omega), h.2 i hi 2 (by omega), h.2 i hi 3 (by omega)⟩
/-- A slice of n readings can be read. -/
def RdR (w : World) (p : Option Addr) (n : Nat) (R : Nat → Nat → Int) : Prop := 0 < n → ∃ b off, p = some ⟨b, off, none⟩ ∧ Rs w b off n R
theorem RdR.below {w w' : World} {B : Nat} {p : Option Addr} {n : Nat} {R : Nat → Nat → Int} (h : RdR w p n R) (hb : Below B w w') (hB : w.heap.size ≤ B) : RdR w' p n R := by
  intro hn
  obtain ⟨b, off, rfl, hp⟩ := h hn
  exact ⟨b, off, rfl, hp.up hb hB⟩
/-- The cells of n readings. -/
def rsL (R : Nat → Nat → Int) : Nat → List Value
  | 0 => []
  | n + 1 => rsL R n ++ [.int .i64 (R n 0), .int .i64 (R n 1), .int .i64 (R n 2), .int .i64 (R n 3)]
theorem rsL_len (R : Nat → Nat → Int) : ∀ n, (rsL R n).length = n * 4
  | 0 => rfl
  | n + 1 => by unfold rsL; rw [List.length_append, rsL_len R n]; simp; omega
theorem rsL_get (R : Nat → Nat → Int) : ∀ n i, i < n → ∀ j, j < 4 → (rsL R n)[i * 4 + j]? = some (.int .i64 (R i j))
  | 0, i, hi, _, _ => absurd hi (Nat.not_lt_zero _)
  | n + 1, i, hi, j, hj => by
    unfold rsL
    by_cases e : i = n
    · subst e
      rw [List.getElem?_append_right (by rw [rsL_len]; omega), rsL_len, show i * 4 + j - i * 4 = j by omega]
      have hc : j = 0 ∨ j = 1 ∨ j = 2 ∨ j = 3 := by omega
      rcases hc with rfl | rfl | rfl | rfl <;> rfl
    · rw [List.getElem?_append_left (by rw [rsL_len]; omega)]
      exact rsL_get R n i (by omega) j hj
theorem rsL_congr (R R' : Nat → Nat → Int) : ∀ n, (∀ i, i < n → ∀ j, j < 4 → R i j = R' i j) → rsL R n = rsL R' n
  | 0, _ => rfl
  | n + 1, h => by
    unfold rsL
    rw [rsL_congr R R' n (fun i hi => h i (by omega)), h n (by omega) 0 (by omega), h n (by omega) 1 (by omega), h n (by omega) 2 (by omega), h n (by omega) 3 (by omega)]
theorem rsL_one (R : Nat → Nat → Int) : ∀ k, ∀ u ∈ rsL R k, u.oneCell' = true
  | 0, u, hu => by simp [rsL] at hu
  | k + 1, u, hu => by
    unfold rsL at hu
    rw [List.mem_append] at hu
    rcases hu with hu | hu
    · exact rsL_one R k u hu
    · simp at hu; rcases hu with rfl | rfl | rfl | rfl <;> rfl
/-- v is a list of the call's own with the n readings. -/
def GotR (w : World) (base : Nat) (v : Value) (n : Nat) (R : Nat → Nat → Int) : Prop := w.ownsRow base 25 4 v n (rsL R n)
theorem gotR_nil (w : World) (base : Nat) (R : Nat → Nat → Int) : GotR w base (.slice none 0 0) 0 R := World.ownsRow_nil w base _ 4
theorem gotR_block {w : World} {base : Nat} {v : Value} {n : Nat} {R : Nat → Nat → Int} (h : GotR w base v n R) : ∀ k, v.ownBlock = some k → base ≤ k := fun k hk => (h.lt k hk).1
theorem gotR_rs {w : World} {base : Nat} {v : Value} {n : Nat} {R : Nat → Nat → Int} (h : GotR w base v n R) (hn : 0 < n) : ∃ g cap, v = .slice (some ⟨g, 0, none⟩) n cap ∧ base ≤ g ∧ Rs w g 0 n R ∧ n ≤ cap ∧ ∀ j, w.frozen? ⟨g, j, none⟩ = false := by
  rcases h.2 with ⟨_, h2⟩ | ⟨g, cap, cur, rfl, hb, hg, hc, _, _, _⟩
  · omega
  · refine ⟨g, cap, rfl, hb, ⟨(h.lt g rfl).2, fun i hi j hj => ?_⟩, hc, fun j => h.frozenAt j⟩
    rw [Nat.zero_add, h.cellAt _ (by omega)]
    exact rsL_get R n i hi j hj
theorem gotR_rd {w : World} {base : Nat} {v : Value} {n : Nat} {R : Nat → Nat → Int} (h : GotR w base v n R) : ∃ p cap, v = .slice p n cap ∧ RdR w p n R := by
  rcases h.2 with ⟨rfl, rfl⟩ | ⟨g, cap, cur, rfl, _⟩
  · exact ⟨none, 0, rfl, fun h => absurd h (Nat.lt_irrefl _)⟩
  · refine ⟨some ⟨g, 0, none⟩, cap, rfl, fun hn => ?_⟩
    obtain ⟨g', cap', e, _, hp, _⟩ := gotR_rs h hn
    simp only [Value.slice.injEq, Option.some.injEq, Addr.mk.injEq] at e
    obtain ⟨⟨rfl, _⟩, _⟩ := e
    exact ⟨g, 0, rfl, hp⟩
theorem gotR_congr {w : World} {base : Nat} {v : Value} {n : Nat} {R R' : Nat → Nat → Int} (h : GotR w base v n R) (e : ∀ i, i < n → ∀ j, j < 4 → R i j = R' i j) : GotR w base v n R' := by
  unfold GotR; rw [← rsL_congr R R' n e]; exact h
/-- One reading more. -/
def updR (R : Nat → Nat → Int) (k : Nat) (x : Nat → Int) (i : Nat) : Nat → Int := if i = k then x else R i
theorem updR_same (R : Nat → Nat → Int) (k : Nat) (x : Nat → Int) : updR R k x k = x := if_pos rfl
theorem updR_other (R : Nat → Nat → Int) {i k : Nat} (x : Nat → Int) (h : i ≠ k) : updR R k x i = R i := if_neg h
/-- Four numbers as a reading. -/
def mkR (a b c d : Int) (j : Nat) : Int := if j = 0 then a else if j = 1 then b else if j = 2 then c else d
theorem gotR_next {w : World} {base : Nat} {v : Value} {k : Nat} {R : Nat → Nat → Int} {a b c d : Int} (h : w.ownsRow base 25 4 v (k + 1) (rsL R k ++ [.int .i64 a, .int .i64 b, .int .i64 c, .int .i64 d])) : GotR w base v (k + 1) (updR R k (mkR a b c d)) := by
  unfold GotR rsL
  rw [rsL_congr (updR R k (mkR a b c d)) R k (fun i hi j hj => by rw [updR_other _ _ (by omega)]), updR_same]
  exact h
theorem cell_four (w : World) (u0 u1 u2 u3 : Value) (t : TypeId) : ∀ j x, [u0, u1, u2, u3][j]? = some x → (w.alloc (.cells #[u0, u1, u2, u3] t)).cell? ((⟨w.heap.size, 0, none⟩ : Addr).add j) = some x := by
  intro j x hj
  match j, hj with
  | 0, hj => simp at hj; subst hj; simp [Addr.add]
  | 1, hj => simp at hj; subst hj; simp [Addr.add]
  | 2, hj => simp at hj; subst hj; simp [Addr.add]
  | 3, hj => simp at hj; subst hj; simp [Addr.add]

/-! ### bytes -/
def By (w : World) (b off n : Nat) (B : Nat → Int) : Prop := b < w.heap.size ∧ ∀ i, i < n → w.cell? ⟨b, off + i, none⟩ = some (.int .u8 (B i))
/-- The first n numbers are bytes. -/
def Bt (B : Nat → Int) (n : Nat) : Prop := ∀ i, i < n → 0 ≤ B i ∧ B i ≤ 255
theorem By.below {w w' : World} {Bd b off n : Nat} {B : Nat → Int} (h : By w b off n B) (hb : Below Bd w w') (hB : b < Bd) : By w' b off n B :=
  ⟨Nat.lt_of_lt_of_le h.1 hb.size, fun i hi => (hb.cell (p := ⟨b, off + i, none⟩) hB).trans (h.2 i hi)⟩
theorem By.up {w w' : World} {Bd b off n : Nat} {B : Nat → Int} (h : By w b off n B) (hb : Below Bd w w') (hB : w.heap.size ≤ Bd) : By w' b off n B := h.below hb (Nat.lt_of_lt_of_le h.1 hB)
theorem By.grown {w w' : World} {r : Option Nat} {b off n : Nat} {B : Nat → Int} (h : By w b off n B) (hg : w.grownBy w' r) (hr : some b ≠ r) : By w' b off n B :=
  ⟨Nat.lt_of_lt_of_le h.1 hg.size, fun i hi => hg.cell (h.2 i hi) hr⟩
theorem By.alloc {w : World} {b off n : Nat} {B : Nat → Int} (h : By w b off n B) (o : Obj) : By (w.alloc o) b off n B := h.up ((Below.refl w.heap.size w).alloc (Nat.le_refl _) o) (Nat.le_refl _)
def RdB (w : World) (p : Option Addr) (n : Nat) (B : Nat → Int) : Prop := 0 < n → ∃ b off, p = some ⟨b, off, none⟩ ∧ By w b off n B
theorem RdB.below {w w' : World} {Bd : Nat} {p : Option Addr} {n : Nat} {B : Nat → Int} (h : RdB w p n B) (hb : Below Bd w w') (hB : w.heap.size ≤ Bd) : RdB w' p n B := by
  intro hn
  obtain ⟨b, off, rfl, hp⟩ := h hn
  exact ⟨b, off, rfl, hp.up hb hB⟩
/-- The cells of n bytes. -/
def byL (B : Nat → Int) : Nat → List Value
  | 0 => []
  | n + 1 => byL B n ++ [.int .u8 (B n)]
theorem byL_len (B : Nat → Int) : ∀ n, (byL B n).length = n
  | 0 => rfl
  | n + 1 => by unfold byL; rw [List.length_append, byL_len B n]; simp
theorem byL_get (B : Nat → Int) : ∀ n i, i < n → (byL B n)[i]? = some (.int .u8 (B i))
  | 0, i, hi => absurd hi (Nat.not_lt_zero _)
  | n + 1, i, hi => by
    unfold byL
    by_cases e : i = n
    · subst e
      rw [List.getElem?_append_right (by rw [byL_len]; omega), byL_len, Nat.sub_self]
      rfl
    · rw [List.getElem?_append_left (by rw [byL_len]; omega)]
      exact byL_get B n i (by omega)
theorem byL_congr (B B' : Nat → Int) : ∀ n, (∀ i, i < n → B i = B' i) → byL B n = byL B' n
  | 0, _ => rfl
  | n + 1, h => by unfold byL; rw [byL_congr B B' n (fun i hi => h i (by omega)), h n (by omega)]
theorem byL_one (B : Nat → Int) : ∀ k, ∀ u ∈ byL B k, u.oneCell' = true
  | 0, u, hu => by simp [byL] at hu
  | k + 1, u, hu => by
    unfold byL at hu
    rw [List.mem_append] at hu
    rcases hu with hu | hu
    · exact byL_one B k u hu
    · simp at hu; subst hu; rfl
/-- One list of bytes behind another. -/
def catB (A C : Nat → Int) (p : Nat) (i : Nat) : Int := if i < p then A i else C (i - p)
theorem byL_app (A C : Nat → Int) (p : Nat) : ∀ q, byL A p ++ byL C q = byL (catB A C p) (p + q)
  | 0 => by
    show byL A p ++ [] = _
    rw [List.append_nil]
    exact byL_congr _ _ p (fun i hi => (if_pos hi).symm)
  | q + 1 => by
    show byL A p ++ (byL C q ++ [.int .u8 (C q)]) = _
    rw [← List.append_assoc, byL_app A C p q]
    show _ = byL _ (p + q) ++ [.int .u8 (if p + q < p then A (p + q) else C (p + q - p))]
    rw [if_neg (by omega), show p + q - p = q by omega]
def GotB (w : World) (base : Nat) (v : Value) (n : Nat) (B : Nat → Int) : Prop := w.ownsRow base 5 1 v n (byL B n)
theorem gotB_nil (w : World) (base : Nat) (B : Nat → Int) : GotB w base (.slice none 0 0) 0 B := World.ownsRow_nil w base _ 1
theorem gotB_block {w : World} {base : Nat} {v : Value} {n : Nat} {B : Nat → Int} (h : GotB w base v n B) : ∀ k, v.ownBlock = some k → base ≤ k := fun k hk => (h.lt k hk).1
theorem gotB_by {w : World} {base : Nat} {v : Value} {n : Nat} {B : Nat → Int} (h : GotB w base v n B) (hn : 0 < n) : ∃ g cap, v = .slice (some ⟨g, 0, none⟩) n cap ∧ base ≤ g ∧ By w g 0 n B ∧ n ≤ cap ∧ ∀ j, w.frozen? ⟨g, j, none⟩ = false := by
  rcases h.2 with ⟨_, h2⟩ | ⟨g, cap, cur, rfl, hb, hg, hc, _, _, _⟩
  · omega
  · refine ⟨g, cap, rfl, hb, ⟨(h.lt g rfl).2, fun i hi => ?_⟩, hc, fun j => h.frozenAt j⟩
    rw [Nat.zero_add, h.cellAt _ (by omega)]
    exact byL_get B n i hi
theorem gotB_rd {w : World} {base : Nat} {v : Value} {n : Nat} {B : Nat → Int} (h : GotB w base v n B) : ∃ p cap, v = .slice p n cap ∧ RdB w p n B := by
  rcases h.2 with ⟨rfl, rfl⟩ | ⟨g, cap, cur, rfl, _⟩
  · exact ⟨none, 0, rfl, fun h => absurd h (Nat.lt_irrefl _)⟩
  · refine ⟨some ⟨g, 0, none⟩, cap, rfl, fun hn => ?_⟩
    obtain ⟨g', cap', e, _, hp, _⟩ := gotB_by h hn
    simp only [Value.slice.injEq, Option.some.injEq, Addr.mk.injEq] at e
    obtain ⟨⟨rfl, _⟩, _⟩ := e
    exact ⟨g, 0, rfl, hp⟩
theorem gotB_congr {w : World} {base : Nat} {v : Value} {n : Nat} {B B' : Nat → Int} (h : GotB w base v n B) (e : ∀ i, i < n → B i = B' i) : GotB w base v n B' := by
  unfold GotB; rw [← byL_congr B B' n e]; exact h
theorem by_news {w : World} {b off k : Nat} {B : Nat → Int} (h : By w b off k B) : ∀ j u, (byL B k)[j]? = some u → w.cell? ((⟨b, off, none⟩ : Addr).add j) = some u := by
  intro j u hj
  have hlt : j < k := by
    have h1 := List.getElem?_eq_some_iff.1 hj
    obtain ⟨h2, _⟩ := h1
    rwa [byL_len] at h2
  have e := byL_get B k j hlt
  rw [hj] at e
  rw [add_plain, e]
  exact h.2 j hlt

theorem Try.infoR : (Try.prog.info? 25).map (fun i => (i.zero, i.size, i.bytes)) = some (some (.agg #[.int .i64 0, .int .i64 0, .int .i64 0, .int .i64 0]), 4, 32) := by kernel_rfl
theorem Try.infoB : (Try.prog.info? 5).map (fun i => (i.zero, i.size, i.bytes)) = some (some (.int .u8 0), 1, 1) := by kernel_rfl

def Ek (c : Int) (w : World) (e : Ending) (w' : World) : Prop := e = .returned (.int .i64 c) ∧ Below w.heap.size w w'
theorem below_drewN {B : Nat} {w w' : World} (h : Below B w w') (q : Nat) : Below B w (w'.drewN q) := ⟨h.os, h.tape, h.output, h.size, h.block⟩
theorem below_own {B : Nat} {a w w' : World} {v : Value} (h : Below B a w) (hB : B ≤ a.heap.size) (hg : w.grownBy w' v.ownBlock) (hv : ∀ k, v.ownBlock = some k → B ≤ k) : Below B a w' :=
  h.grown hg (Nat.le_trans hB h.size) hv
end Go.Proofs.Ytkflgiopkopeeaa.Gg

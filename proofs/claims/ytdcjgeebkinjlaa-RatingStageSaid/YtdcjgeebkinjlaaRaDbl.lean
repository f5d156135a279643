/-
  A curve all of whose flows are doubled; what the law RatingAdds holds while it makes it.
-/
import Derived.Test.YtdcjgeebkinjlaaRaAwk
import Derived.Test.YtdcjgeebkinjlaaCuRow
namespace Go.Proofs.Ytdcjgeebkinjlaa.Ra
open Go.ChangeShapes Go.WideShapes Go.ChangeAt Go.RowKit
open Go.Proofs.Ytdcjgeebkinjlaa.Cu hiding inB inB_yes inB_no exX exY exC exP
open Go.Proofs.Ytdcjgeebkinjlaa.Gg (ckG ckG_zero pck_any Ek Vr setG)
set_option linter.unusedVariables false

def dbl (Y : Nat → Int) (i : Nat) : Int := 2 * Y i
theorem dbl_div (a d : Int) (hd : 0 < d) : 2 * (a / d) ≤ 2 * a / d ∧ 2 * a / d ≤ 2 * (a / d) + 1 := by
  have h1 := (le_div (a := a / d) (b := a) hd).1 (Int.le_refl _)
  have h2 := (div_lt (a := a) (b := a / d + 1) hd).1 (by omega)
  constructor
  · refine (le_div hd).2 ?_
    rw [Int.mul_assoc]
    omega
  · have h3 : 2 * a / d < 2 * (a / d) + 2 := by
      refine (div_lt hd).2 ?_
      rw [show 2 * (a / d) + 2 = 2 * (a / d + 1) by omega, Int.mul_assoc]
      omega
    omega
theorem lin_dbl (X Y : Nat → Int) (i : Nat) (h : X i < X (i + 1)) (x : Int) : 2 * lin X Y i x ≤ lin X (dbl Y) i x ∧ lin X (dbl Y) i x ≤ 2 * lin X Y i x + 1 := by
  unfold lin dbl
  have e : (x - X i) * (2 * Y (i + 1) - 2 * Y i) = 2 * ((x - X i) * (Y (i + 1) - Y i)) := by
    rw [← Int.mul_sub, Int.mul_left_comm]
  rw [e]
  have := dbl_div ((x - X i) * (Y (i + 1) - Y i)) (X (i + 1) - X i) (by omega)
  omega
theorem val_dbl (X Y : Nat → Int) : ∀ (m : Nat), Asc X Y m → ∀ x, 2 * val X Y m x ≤ val X (dbl Y) m x ∧ val X (dbl Y) m x ≤ 2 * val X Y m x + 1
  | 0, _, x => by
    show 2 * Y 0 ≤ dbl Y 0 ∧ dbl Y 0 ≤ 2 * Y 0 + 1
    unfold dbl
    omega
  | m + 1, h, x => by
    have ih := val_dbl X Y m (h.mono (by omega)) x
    unfold val
    by_cases h1 : X (m + 1) ≤ x
    · rw [if_pos h1, if_pos h1]
      unfold dbl
      omega
    · rw [if_neg h1, if_neg h1]
      by_cases h2 : X m ≤ x
      · rw [if_pos h2, if_pos h2]
        exact lin_dbl X Y m (h m (by omega)).1 x
      · rw [if_neg h2, if_neg h2]
        exact ih
theorem dbl_cur {X Y : Nat → Int} {m : Nat} {ice : Int} (h : Ra X Y m ice) : Cur X (dbl Y) m where
  len := h.cur.len
  xlo := h.cur.xlo
  xhi := h.cur.xhi
  ylo := fun i hi => by have := h.cur.ylo i hi; unfold dbl; omega
  yhi := fun i hi => by
    have h1 := h.cur.asc.yle m i hi (Nat.le_refl _)
    have h2 := h.ym
    unfold dbl; omega
  asc := fun i hi => by have := h.cur.asc i hi; unfold dbl; omega
  prod := fun i hi => by
    have a1 := h.cur.asc i hi
    have b1 := h.cur.asc.yle m (i + 1) (by omega) (Nat.le_refl _)
    have b2 := h.cur.asc.xle m (i + 1) (by omega) (Nat.le_refl _)
    have b3 := h.cur.xlo i (by omega)
    have b4 := h.cur.ylo i (by omega)
    have b5 := h.xm
    have b6 := h.ym
    unfold dbl
    have := mul_bd (a := X (i + 1) - X i) (num := 2 * Y (i + 1) - 2 * Y i) (A := 10000) (B := 10000) (by omega) (by omega) (by omega) (by omega)
    omega

/-- Boxes of two and of four cells. -/
abbrev C2 (k : Nat) (u v : Value) (W : World) : Prop := W.cell? ⟨k, 0, none⟩ = some u ∧ W.cell? ⟨k, 1, none⟩ = some v
theorem C2.next {k : Nat} {u v : Value} {W W' : World} (h : C2 k u v W) (hb : Below W.heap.size W W') : C2 k u v W' := by
  have l0 := World.block_lt_of_cell? _ _ h.1
  exact ⟨(hb.cell (p := ⟨k, 0, none⟩) l0).trans h.1, (hb.cell (p := ⟨k, 1, none⟩) l0).trans h.2⟩
theorem C2.alloc {k : Nat} {u v : Value} {W : World} (h : C2 k u v W) (o : Obj) : C2 k u v (W.alloc o) := h.next ((Below.refl _ _).alloc (Nat.le_refl _) o)
theorem C2.new (w : World) (u v : Value) (t : TypeId) : C2 w.heap.size u v (w.alloc (.cells #[u, v] t)) := ⟨by simp, by simp⟩
theorem C2.grown {k : Nat} {u v : Value} {W W' : World} {r : Option Nat} (h : C2 k u v W) (hg : W.grownBy W' r) (hr : some k ≠ r) : C2 k u v W' := ⟨hg.cell h.1 hr, hg.cell h.2 hr⟩
abbrev C4 (k : Nat) (a b c d : Value) (W : World) : Prop := W.cell? ⟨k, 0, none⟩ = some a ∧ W.cell? ⟨k, 1, none⟩ = some b ∧ W.cell? ⟨k, 2, none⟩ = some c ∧ W.cell? ⟨k, 3, none⟩ = some d
theorem C4.next {k : Nat} {a b c d : Value} {W W' : World} (h : C4 k a b c d W) (hb : Below W.heap.size W W') : C4 k a b c d W' := by
  obtain ⟨h0, h1, h2, h3⟩ := h
  have l0 := World.block_lt_of_cell? _ _ h0
  exact ⟨(hb.cell (p := ⟨k, 0, none⟩) l0).trans h0, (hb.cell (p := ⟨k, 1, none⟩) l0).trans h1, (hb.cell (p := ⟨k, 2, none⟩) l0).trans h2, (hb.cell (p := ⟨k, 3, none⟩) l0).trans h3⟩
theorem C4.new (w : World) (a b c d : Value) (t : TypeId) : C4 w.heap.size a b c d (w.alloc (.cells #[a, b, c, d] t)) := ⟨by simp, by simp, by simp, by simp⟩

/-- What the loop holds. -/
structure Da (w2 : World) (b k cap : Nat) (ice : Int) (X Y : Nat → Int) (j : Nat) (V : Value) (W : World) : Prop where
  r : C2 w2.heap.size (.slice (some ⟨b, 0, none⟩) k cap) (.int .i64 ice) W
  t : C2 (w2.heap.size + 1) V (.int .i64 ice) W
  tf : W.frozen? ⟨w2.heap.size + 1, 0, none⟩ = false
  got : GotP W (w2.heap.size + 2) V j X (dbl Y)
  bel : Below w2.heap.size w2 W
theorem Da.new (w2 : World) (b k cap : Nat) (ice : Int) (X Y : Nat → Int) : Da w2 b k cap ice X Y 0 (.slice none 0 0) ((w2.alloc (.cells #[.slice (some ⟨b, 0, none⟩) k cap, .int .i64 ice] 25)).alloc (.cells #[.slice none 0 0, .int .i64 ice] 25)) where
  r := (C2.new w2 _ _ _).alloc _
  t := by
    have h := C2.new (w2.alloc (.cells #[.slice (some ⟨b, 0, none⟩) k cap, .int .i64 ice] 25)) (.slice none 0 0) (.int .i64 ice) 25
    rw [World.size_alloc] at h
    exact h
  tf := by simp
  got := gotP_nil _ _ _ _
  bel := ((Below.refl _ _).alloc (Nat.le_refl _) _).alloc (by simp) _
theorem Da.app {w2 : World} {b k cap : Nat} {ice : Int} {X Y : Nat → Int} {j : Nat} {V : Value} {W : World} (h : Da w2 b k cap ice X Y j V W) {o1 o2 : Obj} {v' : Value} {w3 : World} {xj yj : Int} (hx : X j = xj) (hy : Y j = yj)
    (hown : w3.ownsRow (w2.heap.size + 2) 44 2 v' (j + 1) (ptL X (dbl Y) j ++ [.int .i64 xj, .int .i64 (2 * yj)])) (hg : ((W.alloc o1).alloc o2).grownBy w3 V.ownBlock) :
    w3.cell? ⟨w2.heap.size + 1, 0, none⟩ = some V ∧ w3.frozen? ⟨w2.heap.size + 1, 0, none⟩ = false ∧ GotP w3 (w2.heap.size + 2) v' (j + 1) X (dbl Y) ∧ Da w2 b k cap ice X Y (j + 1) v' (w3.setCell ⟨w2.heap.size + 1, 0, none⟩ v') := by
  have hb := gotP_block h.got
  have n1 : some w2.heap.size ≠ V.ownBlock := fun e => by have := hb _ e.symm; omega
  have n2 : some (w2.heap.size + 1) ≠ V.ownBlock := fun e => by have := hb _ e.symm; omega
  have hl : w2.heap.size + 1 < W.heap.size := World.block_lt_of_cell? _ _ h.t.1
  have a2 : Below W.heap.size W ((W.alloc o1).alloc o2) := ((Below.refl _ _).alloc (Nat.le_refl _) _).alloc (by simp) _
  have r3 := (h.r.next a2).grown hg n1
  have t3 := (h.t.next a2).grown hg n2
  have f3 : w3.frozen? ⟨w2.heap.size + 1, 0, none⟩ = false := by
    have hbk := hg.block (w2.heap.size + 1) (by simp; omega) n2
    exact (World.frozen?_of_block (a := ⟨w2.heap.size + 1, 0, none⟩) hbk).trans ((a2.frozen (p := ⟨w2.heap.size + 1, 0, none⟩) hl).trans h.tf)
  have g3 : GotP w3 (w2.heap.size + 2) v' (j + 1) X (dbl Y) := by
    unfold GotP ptL
    show w3.ownsRow _ _ _ _ _ (ptL X (dbl Y) j ++ [.int .i64 (X j), .int .i64 (2 * Y j)])
    rw [hx, hy]
    exact hown
  have b3 : Below w2.heap.size w2 w3 := (h.bel.trans (a2.mono h.bel.size)).grown hg (Nat.le_trans h.bel.size a2.size) (fun q hq => by have := hb q hq; omega)
  have hs := setG w3 ⟨w2.heap.size + 1, 0, none⟩ v'
  have n3 : v'.ownBlock ≠ some (w2.heap.size + 1) := fun e => by have := gotP_block g3 _ e; omega
  exact ⟨t3.1, f3, g3, r3.grown hs (by intro e; have e2 := Option.some.inj e; simp at e2), ⟨World.cell?_setCell_same _ _ _ t3.1, (World.cell?_setCell_other _ _ _ _ (by simp)).trans t3.2⟩, by simpa using f3, World.ownsRow.kept g3 hs (.inr n3), b3.setCell (by simp) _⟩
end Go.Proofs.Ytdcjgeebkinjlaa.Ra

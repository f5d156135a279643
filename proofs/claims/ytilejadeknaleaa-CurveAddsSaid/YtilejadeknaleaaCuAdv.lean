/-
  addValid of package curve: the points before they are sorted.
-/
import Derived.Test.YtilejadeknaleaaCuAt
import Derived.Sort.AtCall
import Derived.Deep.RegionHeld3
import Derived.Deep.AppendLies
import Derived.Deep.DrawnRows
namespace Go.Proofs.Ytilejadeknaleaa.Cu
open Go.ChangeShapes Go.WideShapes Go.ChangeAt Go.RowKit
open Go.Shelf Go.Lib
set_option linter.unusedVariables false

/-- v is a list of the call's own of n arrays (X i, Y i). -/
def GotA (w : World) (base : Nat) (v : Value) (n : Nat) (X Y : Nat → Int) : Prop := w.ownsRow base 56 2 v n (ptL X Y n)
theorem Try.infoA : (Try.prog.info? 56).map (fun i => (i.zero, i.size, i.bytes)) = some (some (.agg #[.int .i64 0, .int .i64 0]), 2, 16) := by kernel_rfl

/-- Two valid curves that can be read. -/
structure Two2 (w : World) (ba oa na ca ma bb ob nb cb mb : Nat) (Xa Ya Xb Yb : Nat → Int) : Prop where
  ea : na = ma + 1
  eb : nb = mb + 1
  pa : Pts w ba oa na Xa Ya
  pb : Pts w bb ob nb Xb Yb
  va : Cur Xa Ya ma
  vb : Cur Xb Yb mb
theorem Two2.below {w w' : World} {ba oa na ca ma bb ob nb cb mb : Nat} {Xa Ya Xb Yb : Nat → Int} (h : Two2 w ba oa na ca ma bb ob nb cb mb Xa Ya Xb Yb) (hb : Below w.heap.size w w') : Two2 w' ba oa na ca ma bb ob nb cb mb Xa Ya Xb Yb :=
  ⟨h.ea, h.eb, h.pa.up hb (Nat.le_refl _), h.pb.up hb (Nat.le_refl _), h.va, h.vb⟩

/-- The X of both curves, one behind the other. -/
def zF (Xa Xb : Nat → Int) (na t : Nat) : Int := if t < na then Xa t else Xb (t - na)
/-- The sum of both values. -/
def smF (Xa Ya : Nat → Int) (ma : Nat) (Xb Yb : Nat → Int) (mb : Nat) (x : Int) : Int := val Xa Ya ma x + val Xb Yb mb x
/-- How many points stand before those of curve j. -/
def ofN (na nb j : Nat) : Nat := if j = 0 then 0 else if j = 1 then na else na + nb
def rowV (ba oa na ca bb ob nb cb j : Nat) : Value := if j = 0 then .slice (some ⟨ba, oa, none⟩) na ca else .slice (some ⟨bb, ob, none⟩) nb cb

theorem row_ex {w : World} {ba oa na ca ma bb ob nb cb mb : Nat} {Xa Ya Xb Yb : Nat → Int} (h : Two2 w ba oa na ca ma bb ob nb cb mb Xa Ya Xb Yb) (j : Nat) (hj : j < 2) :
    ∃ (bj oj nj cj : Nat) (Xj Yj : Nat → Int), rowV ba oa na ca bb ob nb cb j = .slice (some ⟨bj, oj, none⟩) nj cj ∧ Pts w bj oj nj Xj Yj ∧ (∀ i, i < nj → zF Xa Xb na (ofN na nb j + i) = Xj i ∧ 0 ≤ Xj i ∧ Xj i ≤ 1073741824) ∧ nj ≤ 100 ∧ ofN na nb (j + 1) = ofN na nb j + nj ∧ ofN na nb j ≤ 100 := by
  have la := h.va.len
  have lb := h.vb.len
  match j, hj with
  | 0, _ =>
    refine ⟨ba, oa, na, ca, Xa, Ya, rfl, h.pa, fun i hi => ⟨?_, h.va.xlo i (by have := h.ea; omega), h.va.xhi i (by have := h.ea; omega)⟩, by have := h.ea; omega, by simp [ofN], by simp [ofN]⟩
    unfold zF ofN; rw [if_pos rfl, Nat.zero_add, if_pos hi]
  | 1, _ =>
    refine ⟨bb, ob, nb, cb, Xb, Yb, rfl, h.pb, fun i hi => ⟨?_, h.vb.xlo i (by have := h.eb; omega), h.vb.xhi i (by have := h.eb; omega)⟩, by have := h.eb; omega, by simp [ofN], by simp [ofN]; have := h.ea; omega⟩
    unfold zF ofN; rw [if_neg (show ¬ (1 = 0) by omega), if_pos rfl, if_neg (by omega), Nat.add_sub_cancel_left]

/-- What holds while the points are gathered: V owns cnt of them; the two curves are read through block bk. -/
structure Av (w : World) (bk : Nat) (r0 r1 : Value) (Z T : Nat → Int) (V : Value) (cnt : Nat) (W : World) : Prop where
  got : GotA W w.heap.size V cnt Z T
  bel : Below w.heap.size w W
  c0 : W.cell? ⟨bk, 0, none⟩ = some r0
  c1 : W.cell? ⟨bk, 1, none⟩ = some r1
  ne : V.ownBlock ≠ some bk
  lt : bk < W.heap.size
theorem Av.up {w : World} {bk : Nat} {r0 r1 : Value} {Z T : Nat → Int} {V : Value} {cnt : Nat} {W W' : World} (h : Av w bk r0 r1 Z T V cnt W) (hb : Below W.heap.size W W') : Av w bk r0 r1 Z T V cnt W' where
  got := h.got.kept (grown_below hb (Nat.le_refl _) none) (by cases hv : V.ownBlock <;> simp)
  bel := h.bel.trans (hb.mono h.bel.size)
  c0 := (hb.cell (p := ⟨bk, 0, none⟩) h.lt).trans h.c0
  c1 := (hb.cell (p := ⟨bk, 1, none⟩) h.lt).trans h.c1
  ne := h.ne
  lt := Nat.lt_of_lt_of_le h.lt hb.size
theorem Av.drew {w : World} {bk : Nat} {r0 r1 : Value} {Z T : Nat → Int} {V : Value} {cnt : Nat} {W : World} (h : Av w bk r0 r1 Z T V cnt W) : Av w bk r0 r1 Z T V cnt W.drew := h.up ⟨rfl, rfl, rfl, Nat.le_refl _, fun _ _ => rfl⟩
theorem Av.alloc {w : World} {bk : Nat} {r0 r1 : Value} {Z T : Nat → Int} {V : Value} {cnt : Nat} {W : World} (h : Av w bk r0 r1 Z T V cnt W) (o : Obj) : Av w bk r0 r1 Z T V cnt (W.alloc o) := h.up ((Below.refl _ _).alloc (Nat.le_refl _) o)
/-- .. behind an append. -/
theorem Av.next {w : World} {bk : Nat} {r0 r1 : Value} {Z T : Nat → Int} {V V' : Value} {cnt gg cap : Nat} {W W' : World} (h : Av w bk r0 r1 Z T V cnt W) (hown : W'.ownsRow w.heap.size 56 2 V' (cnt + 1) (ptL Z T (cnt + 1))) (hV : V' = .slice (some ⟨gg, 0, none⟩) (cnt + 1) cap) (hg : W.grownBy W' V.ownBlock) (hat : V.ownBlock = some gg ∨ gg = W.heap.size) : Av w bk r0 r1 Z T V' (cnt + 1) W' where
  got := hown
  bel := h.bel.grown hg h.bel.size (fun k hk => (h.got.lt k hk).1)
  c0 := hg.cell h.c0 (fun e => h.ne e.symm)
  c1 := hg.cell h.c1 (fun e => h.ne e.symm)
  ne := by
    subst hV
    intro e
    simp only [Value.ownBlock, Option.some.injEq] at e
    rcases hat with h1 | h1
    · exact h.ne (by rw [h1, e])
    · have := h.lt; omega
  lt := Nat.lt_of_lt_of_le h.lt hg.size

/-- valueAt while the points are gathered. -/
theorem va_av {w : World} {bk ba oa na ca ma bb ob nb cb mb : Nat} {r0 r1 : Value} {Z T : Nat → Int} {Xa Ya Xb Yb : Nat → Int} {V : Value} {cnt t : Nat} (H : Two2 w ba oa na ca ma bb ob nb cb mb Xa Ya Xb Yb) (x : Int) (y : Value) (W : World) (hS : W.cell? ⟨t, 0, none⟩ = some y) (hA : Hid (Av w bk r0 r1 Z T V cnt W)) :
    Calls Try.prog 24 #[.slice (some ⟨ba, oa, none⟩) na ca, .int .i64 x] W fun e w' => e = .returned (.int .i64 (val Xa Ya ma x)) ∧ w'.cell? ⟨t, 0, none⟩ = some y ∧ Hid (Av w bk r0 r1 Z T V cnt w') :=
  (val_any ba oa na ma ca Xa Ya x W H.ea (H.pa.up hA.out.bel (Nat.le_refl _)) H.va).mono fun _ _ ⟨he, h⟩ => ⟨he, (h.cell (p := ⟨t, 0, none⟩) (World.block_lt_of_cell? _ _ hS)).trans hS, hA.out.up h⟩
theorem vb_av {w : World} {bk ba oa na ca ma bb ob nb cb mb : Nat} {r0 r1 : Value} {Z T : Nat → Int} {Xa Ya Xb Yb : Nat → Int} {V : Value} {cnt t : Nat} (H : Two2 w ba oa na ca ma bb ob nb cb mb Xa Ya Xb Yb) (x : Int) (y : Value) (W : World) (hS : W.cell? ⟨t, 0, none⟩ = some y) (hA : Hid (Av w bk r0 r1 Z T V cnt W)) :
    Calls Try.prog 24 #[.slice (some ⟨bb, ob, none⟩) nb cb, .int .i64 x] W fun e w' => e = .returned (.int .i64 (val Xb Yb mb x)) ∧ w'.cell? ⟨t, 0, none⟩ = some y ∧ Hid (Av w bk r0 r1 Z T V cnt w') :=
  (val_any bb ob nb mb cb Xb Yb x W H.eb (H.pb.up hA.out.bel (Nat.le_refl _)) H.vb).mono fun _ _ ⟨he, h⟩ => ⟨he, (h.cell (p := ⟨t, 0, none⟩) (World.block_lt_of_cell? _ _ hS)).trans hS, hA.out.up h⟩

theorem rowV_cell {w : World} {bk ba oa na ca bb ob nb cb : Nat} {Z T : Nat → Int} {V : Value} {cnt : Nat} {W : World} (h : Av w bk (.slice (some ⟨ba, oa, none⟩) na ca) (.slice (some ⟨bb, ob, none⟩) nb cb) Z T V cnt W) (j : Nat) (hj : j < 2) : W.cell? ⟨bk, j, none⟩ = some (rowV ba oa na ca bb ob nb cb j) := by
  match j, hj with
  | 0, _ => exact h.c0
  | 1, _ => exact h.c1
theorem ptL_snoc {Z T : Nat → Int} {k : Nat} {x s : Int} (hz : Z k = x) (ht : T k = s) : ptL Z T k ++ [.int .i64 x, .int .i64 s] = ptL Z T (k + 1) := by rw [← hz, ← ht]; rfl
theorem smF_bd {w : World} {ba oa na ca ma bb ob nb cb mb : Nat} {Xa Ya Xb Yb : Nat → Int} (h : Two2 w ba oa na ca ma bb ob nb cb mb Xa Ya Xb Yb) (x : Int) :
    (0 ≤ val Xa Ya ma x ∧ val Xa Ya ma x ≤ 274877906944) ∧ 0 ≤ val Xb Yb mb x ∧ val Xb Yb mb x ≤ 274877906944 := by
  have h1 := val_bd Xa Ya ma h.va.asc x
  have h2 := val_bd Xb Yb mb h.vb.asc x
  have a1 := h.va.ylo 0 (Nat.zero_le _)
  have a2 := h.va.yhi ma (Nat.le_refl _)
  have b1 := h.vb.ylo 0 (Nat.zero_le _)
  have b2 := h.vb.yhi mb (Nat.le_refl _)
  omega
end Go.Proofs.Ytilejadeknaleaa.Cu

/-
  The ten questions of StorageAll at any later world; the three reservoirs that the law looks at.
-/
import Derived.Test.YtglimagkfapcaaaStOdd
import Derived.Test.YtglimagkfapcaaaStAwk
import Derived.Test.YtglimagkfapcaaaStRqs
namespace Go.Proofs.Ytglimagkfapcaaa.Cu
open Go.ChangeShapes Go.WideShapes Go.ChangeAt Go.RowKit
set_option linter.unusedVariables false

/-- One of three. -/
def pk {α : Type} (a b c : α) (i : Nat) : α := if i = 0 then a else if i = 1 then b else c

/-- What the ten questions return, by names. -/
structure Ten (w5 : World) (p : Option Addr) (n c : Nat) (D L F S C l v a e y f u i m k s q : Int) : Prop where
  VO : ∀ W, Hid (Below w5.heap.size w5 W) → Calls Try.prog 14 #[.agg #[.slice p n c, .int .i64 D, .int .i64 L, .int .i64 F, .int .i64 S, .int .i64 C], .int .i64 l] W fun en w' => en = .returned (.tuple #[.int .i64 a, .int .i64 e]) ∧ Hid (Below w5.heap.size w5 w')
  rVO : ∀ W, Hid (Below w5.heap.size w5 W) → Calls Try.prog 15 #[.agg #[.slice p n c, .int .i64 D, .int .i64 L, .int .i64 F, .int .i64 S, .int .i64 C], .int .i64 l] W fun en w' => en = .returned (.tuple #[.int .i64 a, .int .i64 e]) ∧ Hid (Below w5.heap.size w5 w')
  LE : ∀ W, Hid (Below w5.heap.size w5 W) → Calls Try.prog 16 #[.agg #[.slice p n c, .int .i64 D, .int .i64 L, .int .i64 F, .int .i64 S, .int .i64 C], .int .i64 v] W fun en w' => en = .returned (.tuple #[.int .i64 y, .int .i64 f]) ∧ Hid (Below w5.heap.size w5 w')
  rLE : ∀ W, Hid (Below w5.heap.size w5 W) → Calls Try.prog 17 #[.agg #[.slice p n c, .int .i64 D, .int .i64 L, .int .i64 F, .int .i64 S, .int .i64 C], .int .i64 v] W fun en w' => en = .returned (.tuple #[.int .i64 y, .int .i64 f]) ∧ Hid (Below w5.heap.size w5 w')
  ZO : ∀ W, Hid (Below w5.heap.size w5 W) → Calls Try.prog 18 #[.agg #[.slice p n c, .int .i64 D, .int .i64 L, .int .i64 F, .int .i64 S, .int .i64 C], .int .i64 l] W fun en w' => en = .returned (.tuple #[.int .i64 u, .int .i64 i]) ∧ Hid (Below w5.heap.size w5 w')
  rZO : ∀ W, Hid (Below w5.heap.size w5 W) → Calls Try.prog 19 #[.agg #[.slice p n c, .int .i64 D, .int .i64 L, .int .i64 F, .int .i64 S, .int .i64 C], .int .i64 l] W fun en w' => en = .returned (.tuple #[.int .i64 u, .int .i64 i]) ∧ Hid (Below w5.heap.size w5 w')
  RO : ∀ W, Hid (Below w5.heap.size w5 W) → Calls Try.prog 20 #[.agg #[.slice p n c, .int .i64 D, .int .i64 L, .int .i64 F, .int .i64 S, .int .i64 C], .int .i64 v, .int .i64 l] W fun en w' => en = .returned (.tuple #[.int .i64 m, .int .i64 k]) ∧ Hid (Below w5.heap.size w5 w')
  rRO : ∀ W, Hid (Below w5.heap.size w5 W) → Calls Try.prog 21 #[.agg #[.slice p n c, .int .i64 D, .int .i64 L, .int .i64 F, .int .i64 S, .int .i64 C], .int .i64 v, .int .i64 l] W fun en w' => en = .returned (.tuple #[.int .i64 m, .int .i64 k]) ∧ Hid (Below w5.heap.size w5 w')
  US : ∀ W, Hid (Below w5.heap.size w5 W) → Calls Try.prog 22 #[.agg #[.slice p n c, .int .i64 D, .int .i64 L, .int .i64 F, .int .i64 S, .int .i64 C], .int .i64 v] W fun en w' => en = .returned (.tuple #[.int .i64 s, .int .i64 q]) ∧ Hid (Below w5.heap.size w5 w')
  rUS : ∀ W, Hid (Below w5.heap.size w5 W) → Calls Try.prog 23 #[.agg #[.slice p n c, .int .i64 D, .int .i64 L, .int .i64 F, .int .i64 S, .int .i64 C], .int .i64 v] W fun en w' => en = .returned (.tuple #[.int .i64 s, .int .i64 q]) ∧ Hid (Below w5.heap.size w5 w')
theorem pair_later {w5 W : World} {x er : Int} {f : FuncId} {args : Array Value} (h : Calls Try.prog f args W (PairP x er W)) (hb : Hid (Below w5.heap.size w5 W)) : Calls Try.prog f args W fun en w' => en = .returned (.tuple #[.int .i64 x, .int .i64 er]) ∧ Hid (Below w5.heap.size w5 w') :=
  h.mono fun _ _ ⟨he, h⟩ => ⟨he, hb.out.trans (h.mono hb.out.size)⟩
theorem ten_pack {w5 : World} {p : Option Addr} {n : Nat} (c : Nat) {X Y : Nat → Int} (D L F S C l v : Int) (hp : RdP w5 p n X Y) (hv : -9223372036854775808 ≤ v ∧ v ≤ 9223372036854775807) :
    ∃ a e y f u i m k s q, Hid (Ten w5 p n c D L F S C l v a e y f u i m k s q) := by
  have hw := fun W (hb : Hid (Below w5.heap.size w5 W)) => hp.below hb.out (Nat.le_refl _)
  exact ⟨_, _, _, _, _, _, _, _, _, _, ⟨fun W hb => pair_later (vol_any p n c X Y D L F S C l W (hw W hb)) hb, fun W hb => pair_later (rvol_any p n c X Y D L F S C l W (hw W hb)) hb,
    fun W hb => pair_later (lev_any p n c X Y D L F S C v W (hw W hb) hv) hb, fun W hb => pair_later (rlev_any p n c X Y D L F S C v W (hw W hb)) hb,
    fun W hb => pair_later (zone_any p n c X Y D L F S C l W (hw W hb)) hb, fun W hb => pair_later (rzone_any p n c X Y D L F S C l W (hw W hb)) hb,
    fun W hb => pair_later (room_any p n c X Y D L F S C v l W (hw W hb)) hb, fun W hb => pair_later (rroom_any p n c X Y D L F S C v l W (hw W hb) hv) hb,
    fun W hb => pair_later (usa_any p n c X Y D L F S C v W (hw W hb)) hb, fun W hb => pair_later (rusa_any p n c X Y D L F S C v W (hw W hb)) hb⟩⟩
/-- The three reservoirs of the law, in block lb. -/
structure Ls (w : World) (lb g : Nat) (p : Option Addr) (n c : Nat) (z : Nat → Int) (P : Nat → Option Addr) (N K : Nat → Nat) (X Y : Nat → Nat → Int) (D L F S C : Nat → Int) (W : World) : Prop where
  cells : ∀ i, i < 3 → W.cell? ⟨lb, i * 6, none⟩ = some (.slice (P i) (N i) (K i)) ∧ W.cell? ⟨lb, i * 6 + 1, none⟩ = some (.int .i64 (D i)) ∧ W.cell? ⟨lb, i * 6 + 2, none⟩ = some (.int .i64 (L i)) ∧ W.cell? ⟨lb, i * 6 + 3, none⟩ = some (.int .i64 (F i)) ∧ W.cell? ⟨lb, i * 6 + 4, none⟩ = some (.int .i64 (S i)) ∧ W.cell? ⟨lb, i * 6 + 5, none⟩ = some (.int .i64 (C i))
  rd : ∀ i, i < 3 → RdP W (P i) (N i) (X i) (Y i)
  dk : Dk W g p n c z
  bel : Below w.heap.size w W
  ng : ∀ i, i < 3 → 0 < N i → ∀ b off, P i = some ⟨b, off, none⟩ → b ≠ g
  lg : lb ≠ g
  wg : w.heap.size ≤ g
theorem Ls.below {w W W' : World} {lb g : Nat} {p : Option Addr} {n c : Nat} {z : Nat → Int} {P : Nat → Option Addr} {N K : Nat → Nat} {X Y : Nat → Nat → Int} {D L F S C : Nat → Int} (h : Ls w lb g p n c z P N K X Y D L F S C W) (hb : Below W.heap.size W W') : Ls w lb g p n c z P N K X Y D L F S C W' where
  cells := fun i hi => by
    obtain ⟨h0, h1, h2, h3, h4, h5⟩ := h.cells i hi
    have b0 := World.block_lt_of_cell? _ _ h0
    exact ⟨(hb.cell (p := ⟨lb, i * 6, none⟩) b0).trans h0, (hb.cell (p := ⟨lb, i * 6 + 1, none⟩) b0).trans h1, (hb.cell (p := ⟨lb, i * 6 + 2, none⟩) b0).trans h2, (hb.cell (p := ⟨lb, i * 6 + 3, none⟩) b0).trans h3, (hb.cell (p := ⟨lb, i * 6 + 4, none⟩) b0).trans h4, (hb.cell (p := ⟨lb, i * 6 + 5, none⟩) b0).trans h5⟩
  rd := fun i hi => (h.rd i hi).below hb (Nat.le_refl _)
  dk := h.dk.below hb h.dk.lt
  bel := h.bel.trans (hb.mono h.bel.size)
  ng := h.ng
  lg := h.lg
  wg := h.wg
theorem below_of_deck {w W W' : World} {g : Nat} (h : Below w.heap.size w W) (hg : W.grownBy W' (some g)) (hw : w.heap.size ≤ g) : Below w.heap.size w W' :=
  h.grown hg h.size (by intro k hk; cases hk; exact hw)
theorem Ls.next {w W W' : World} {lb g : Nat} {p : Option Addr} {n c : Nat} {z : Nat → Int} {P : Nat → Option Addr} {N K : Nat → Nat} {X Y : Nat → Nat → Int} {D L F S C : Nat → Int} (h : Ls w lb g p n c z P N K X Y D L F S C W) (hd : Dk W' g p n c z) (hg : W.grownBy W' (some g)) : Ls w lb g p n c z P N K X Y D L F S C W' where
  cells := fun i hi => by
    obtain ⟨h0, h1, h2, h3, h4, h5⟩ := h.cells i hi
    have hne : (some lb : Option Nat) ≠ some g := by simpa using h.lg
    exact ⟨hg.cell h0 hne, hg.cell h1 hne, hg.cell h2 hne, hg.cell h3 hne, hg.cell h4 hne, hg.cell h5 hne⟩
  rd := fun i hi hn => by
    obtain ⟨b, off, e, hp⟩ := h.rd i hi hn
    exact ⟨b, off, e, hp.grown hg (by simpa using h.ng i hi hn b off e)⟩
  dk := hd
  bel := below_of_deck h.bel hg h.wg
  ng := h.ng
  lg := h.lg
  wg := h.wg
theorem Bx.grown {w w' : World} {r : Option Nat} {k : Nat} {p : Option Addr} {n c : Nat} {D L F S C : Int} (h : Bx w k p n c D L F S C) (hg : w.grownBy w' r) (hr : some k ≠ r) : Bx w' k p n c D L F S C :=
  ⟨hg.cell h.c0 hr, hg.cell h.c1 hr, hg.cell h.c2 hr, hg.cell h.c3 hr, hg.cell h.c4 hr, hg.cell h.c5 hr⟩
/-- The cells of three reservoirs in a row. -/
theorem ls_cells (w : World) (P0 P1 P2 : Option Addr) (N0 K0 N1 K1 N2 K2 : Nat) (D0 L0 F0 S0 C0 D1 L1 F1 S1 C1 D2 L2 F2 S2 C2 : Int) (t : TypeId) : ∀ i, i < 3 →
    (w.alloc (.cells #[.slice P0 N0 K0, .int .i64 D0, .int .i64 L0, .int .i64 F0, .int .i64 S0, .int .i64 C0, .slice P1 N1 K1, .int .i64 D1, .int .i64 L1, .int .i64 F1, .int .i64 S1, .int .i64 C1, .slice P2 N2 K2, .int .i64 D2, .int .i64 L2, .int .i64 F2, .int .i64 S2, .int .i64 C2] t)).cell? ⟨w.heap.size, i * 6, none⟩ = some (.slice (pk P0 P1 P2 i) (pk N0 N1 N2 i) (pk K0 K1 K2 i)) ∧
    (w.alloc (.cells #[.slice P0 N0 K0, .int .i64 D0, .int .i64 L0, .int .i64 F0, .int .i64 S0, .int .i64 C0, .slice P1 N1 K1, .int .i64 D1, .int .i64 L1, .int .i64 F1, .int .i64 S1, .int .i64 C1, .slice P2 N2 K2, .int .i64 D2, .int .i64 L2, .int .i64 F2, .int .i64 S2, .int .i64 C2] t)).cell? ⟨w.heap.size, i * 6 + 1, none⟩ = some (.int .i64 (pk D0 D1 D2 i)) ∧
    (w.alloc (.cells #[.slice P0 N0 K0, .int .i64 D0, .int .i64 L0, .int .i64 F0, .int .i64 S0, .int .i64 C0, .slice P1 N1 K1, .int .i64 D1, .int .i64 L1, .int .i64 F1, .int .i64 S1, .int .i64 C1, .slice P2 N2 K2, .int .i64 D2, .int .i64 L2, .int .i64 F2, .int .i64 S2, .int .i64 C2] t)).cell? ⟨w.heap.size, i * 6 + 2, none⟩ = some (.int .i64 (pk L0 L1 L2 i)) ∧
    (w.alloc (.cells #[.slice P0 N0 K0, .int .i64 D0, .int .i64 L0, .int .i64 F0, .int .i64 S0, .int .i64 C0, .slice P1 N1 K1, .int .i64 D1, .int .i64 L1, .int .i64 F1, .int .i64 S1, .int .i64 C1, .slice P2 N2 K2, .int .i64 D2, .int .i64 L2, .int .i64 F2, .int .i64 S2, .int .i64 C2] t)).cell? ⟨w.heap.size, i * 6 + 3, none⟩ = some (.int .i64 (pk F0 F1 F2 i)) ∧
    (w.alloc (.cells #[.slice P0 N0 K0, .int .i64 D0, .int .i64 L0, .int .i64 F0, .int .i64 S0, .int .i64 C0, .slice P1 N1 K1, .int .i64 D1, .int .i64 L1, .int .i64 F1, .int .i64 S1, .int .i64 C1, .slice P2 N2 K2, .int .i64 D2, .int .i64 L2, .int .i64 F2, .int .i64 S2, .int .i64 C2] t)).cell? ⟨w.heap.size, i * 6 + 4, none⟩ = some (.int .i64 (pk S0 S1 S2 i)) ∧
    (w.alloc (.cells #[.slice P0 N0 K0, .int .i64 D0, .int .i64 L0, .int .i64 F0, .int .i64 S0, .int .i64 C0, .slice P1 N1 K1, .int .i64 D1, .int .i64 L1, .int .i64 F1, .int .i64 S1, .int .i64 C1, .slice P2 N2 K2, .int .i64 D2, .int .i64 L2, .int .i64 F2, .int .i64 S2, .int .i64 C2] t)).cell? ⟨w.heap.size, i * 6 + 5, none⟩ = some (.int .i64 (pk C0 C1 C2 i)) := fun i hi => by
  have hc : i = 0 ∨ i = 1 ∨ i = 2 := by omega
  rcases hc with rfl | rfl | rfl <;> simp [pk]
end Go.Proofs.Ytglimagkfapcaaa.Cu

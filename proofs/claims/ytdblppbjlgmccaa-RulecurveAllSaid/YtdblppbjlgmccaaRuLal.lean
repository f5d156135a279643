/-
  The walk of the law RulecurveAll.
-/
import Derived.Test.YtdblppbjlgmccaaRuLbe
namespace Go.Proofs.Ytdblppbjlgmccaa.Ru
open Go.ChangeShapes Go.WideShapes Go.ChangeAt Go.RowKit
open Go.Proofs.Ytdblppbjlgmccaa.Cu
open Go.Proofs.Ytdblppbjlgmccaa.Ca (dayB)
set_option linter.unusedVariables false

/-- One of two. -/
def pk2 {α : Type} (a b : α) (i : Nat) : α := if i = 0 then a else b

/-- What the law holds at the head of its outer loop: two lists of points, two reservoirs, the deck. -/
structure Al (w : World) (g : Nat) (p : Option Addr) (n c : Nat) (z : Nat → Int) (lb : Nat) (PL : Nat → Option Addr) (NL KL : Nat → Nat) (XL YL : Nat → Nat → Int) (k0 k1 : Nat) (PR : Nat → Option Addr) (NR KR : Nat → Nat) (D L F S C : Nat → Int) (XR YR : Nat → Nat → Int) (W : World) : Prop where
  lists : ∀ i, i < 2 → W.cell? ⟨lb, i, none⟩ = some (.slice (PL i) (NL i) (KL i))
  rd : ∀ i, i < 2 → RdP W (PL i) (NL i) (XL i) (YL i)
  le : ∀ i, i < 2 → NL i ≤ KL i
  b0 : Bx W k0 (PR 0) (NR 0) (KR 0) (D 0) (L 0) (F 0) (S 0) (C 0)
  b1 : Bx W k1 (PR 1) (NR 1) (KR 1) (D 1) (L 1) (F 1) (S 1) (C 1)
  rr : ∀ j, j < 2 → RdP W (PR j) (NR j) (XR j) (YR j)
  dk : Dk W g p n c z
  bel : Below w.heap.size w W
  nlb : lb ≠ g
  nk0 : k0 ≠ g
  nk1 : k1 ≠ g
  ngl : ∀ i, i < 2 → 0 < NL i → ∀ b off, PL i = some ⟨b, off, none⟩ → b ≠ g
  ngr : ∀ j, j < 2 → 0 < NR j → ∀ b off, PR j = some ⟨b, off, none⟩ → b ≠ g
  wg : w.heap.size ≤ g
theorem bx_grown {w w' : World} {r : Option Nat} {k : Nat} {p : Option Addr} {n c : Nat} {D L F S C : Int} (h : Bx w k p n c D L F S C) (hg : w.grownBy w' r) (hr : some k ≠ r) : Bx w' k p n c D L F S C :=
  ⟨hg.cell h.c0 hr, hg.cell h.c1 hr, hg.cell h.c2 hr, hg.cell h.c3 hr, hg.cell h.c4 hr, hg.cell h.c5 hr⟩
theorem rdp_grown {w w' : World} {g : Nat} {p : Option Addr} {n : Nat} {X Y : Nat → Int} (h : RdP w p n X Y) (hg : w.grownBy w' (some g)) (hn : 0 < n → ∀ b off, p = some ⟨b, off, none⟩ → b ≠ g) : RdP w' p n X Y := fun h0 => by
  obtain ⟨b, off, e, hp⟩ := h h0
  exact ⟨b, off, e, hp.grown hg (by simpa using hn h0 b off e)⟩
section
variable {w W W' : World} {g : Nat} {p : Option Addr} {n c : Nat} {z : Nat → Int} {lb : Nat} {PL : Nat → Option Addr} {NL KL : Nat → Nat} {XL YL : Nat → Nat → Int} {k0 k1 : Nat} {PR : Nat → Option Addr} {NR KR : Nat → Nat} {D L F S C : Nat → Int} {XR YR : Nat → Nat → Int}
theorem Al.below (h : Al w g p n c z lb PL NL KL XL YL k0 k1 PR NR KR D L F S C XR YR W) (hb : Below W.heap.size W W') : Al w g p n c z lb PL NL KL XL YL k0 k1 PR NR KR D L F S C XR YR W' where
  lists := fun i hi => (hb.cell (p := ⟨lb, i, none⟩) (World.block_lt_of_cell? _ _ (h.lists i hi))).trans (h.lists i hi)
  rd := fun i hi => (h.rd i hi).below hb (Nat.le_refl _)
  le := h.le
  b0 := h.b0.below hb (World.block_lt_of_cell? _ _ h.b0.c0)
  b1 := h.b1.below hb (World.block_lt_of_cell? _ _ h.b1.c0)
  rr := fun j hj => (h.rr j hj).below hb (Nat.le_refl _)
  dk := h.dk.below hb h.dk.lt
  bel := h.bel.trans (hb.mono h.bel.size)
  nlb := h.nlb
  nk0 := h.nk0
  nk1 := h.nk1
  ngl := h.ngl
  ngr := h.ngr
  wg := h.wg
theorem Al.next (h : Al w g p n c z lb PL NL KL XL YL k0 k1 PR NR KR D L F S C XR YR W) (hd : Dk W' g p n c z) (hg : W.grownBy W' (some g)) : Al w g p n c z lb PL NL KL XL YL k0 k1 PR NR KR D L F S C XR YR W' where
  lists := fun i hi => hg.cell (h.lists i hi) (by simpa using h.nlb)
  rd := fun i hi => rdp_grown (h.rd i hi) hg (h.ngl i hi)
  le := h.le
  b0 := bx_grown h.b0 hg (by simpa using h.nk0)
  b1 := bx_grown h.b1 hg (by simpa using h.nk1)
  rr := fun j hj => rdp_grown (h.rr j hj) hg (h.ngr j hj)
  dk := hd
  bel := h.bel.grown hg h.bel.size (by intro k hk; cases hk; exact h.wg)
  nlb := h.nlb
  nk0 := h.nk0
  nk1 := h.nk1
  ngl := h.ngl
  ngr := h.ngr
  wg := h.wg
end
/-- The cells of two reservoirs in a row. -/
theorem two_cells (w : World) (P : Nat → Option Addr) (N K : Nat → Nat) (D L F S C : Nat → Int) (t : TypeId) : ∀ j, j < 2 →
    (w.alloc (.cells #[.slice (P 0) (N 0) (K 0), .int .i64 (D 0), .int .i64 (L 0), .int .i64 (F 0), .int .i64 (S 0), .int .i64 (C 0), .slice (P 1) (N 1) (K 1), .int .i64 (D 1), .int .i64 (L 1), .int .i64 (F 1), .int .i64 (S 1), .int .i64 (C 1)] t)).cell? ⟨w.heap.size, j * 6, none⟩ = some (.slice (P j) (N j) (K j)) ∧
    (w.alloc (.cells #[.slice (P 0) (N 0) (K 0), .int .i64 (D 0), .int .i64 (L 0), .int .i64 (F 0), .int .i64 (S 0), .int .i64 (C 0), .slice (P 1) (N 1) (K 1), .int .i64 (D 1), .int .i64 (L 1), .int .i64 (F 1), .int .i64 (S 1), .int .i64 (C 1)] t)).cell? ⟨w.heap.size, j * 6 + 1, none⟩ = some (.int .i64 (D j)) ∧
    (w.alloc (.cells #[.slice (P 0) (N 0) (K 0), .int .i64 (D 0), .int .i64 (L 0), .int .i64 (F 0), .int .i64 (S 0), .int .i64 (C 0), .slice (P 1) (N 1) (K 1), .int .i64 (D 1), .int .i64 (L 1), .int .i64 (F 1), .int .i64 (S 1), .int .i64 (C 1)] t)).cell? ⟨w.heap.size, j * 6 + 2, none⟩ = some (.int .i64 (L j)) ∧
    (w.alloc (.cells #[.slice (P 0) (N 0) (K 0), .int .i64 (D 0), .int .i64 (L 0), .int .i64 (F 0), .int .i64 (S 0), .int .i64 (C 0), .slice (P 1) (N 1) (K 1), .int .i64 (D 1), .int .i64 (L 1), .int .i64 (F 1), .int .i64 (S 1), .int .i64 (C 1)] t)).cell? ⟨w.heap.size, j * 6 + 3, none⟩ = some (.int .i64 (F j)) ∧
    (w.alloc (.cells #[.slice (P 0) (N 0) (K 0), .int .i64 (D 0), .int .i64 (L 0), .int .i64 (F 0), .int .i64 (S 0), .int .i64 (C 0), .slice (P 1) (N 1) (K 1), .int .i64 (D 1), .int .i64 (L 1), .int .i64 (F 1), .int .i64 (S 1), .int .i64 (C 1)] t)).cell? ⟨w.heap.size, j * 6 + 4, none⟩ = some (.int .i64 (S j)) ∧
    (w.alloc (.cells #[.slice (P 0) (N 0) (K 0), .int .i64 (D 0), .int .i64 (L 0), .int .i64 (F 0), .int .i64 (S 0), .int .i64 (C 0), .slice (P 1) (N 1) (K 1), .int .i64 (D 1), .int .i64 (L 1), .int .i64 (F 1), .int .i64 (S 1), .int .i64 (C 1)] t)).cell? ⟨w.heap.size, j * 6 + 5, none⟩ = some (.int .i64 (C j)) := fun j hj => by
  have hc : j = 0 ∨ j = 1 := by omega
  rcases hc with rfl | rfl <;> simp
/-- The cells of three days in a row. -/
theorem three_cells (w : World) (e : Nat → Int) (t : TypeId) : ∀ k, k < 3 → (w.alloc (.cells #[.int .i64 (e 0), .int .i64 (e 1), .int .i64 (e 2)] t)).cell? ⟨w.heap.size, k, none⟩ = some (.int .i64 (e k)) := fun k hk => by
  have hc : k = 0 ∨ k = 1 ∨ k = 2 := by omega
  rcases hc with rfl | rfl | rfl <;> simp

/-- What is asked of a list at any later world: Check and Highest, of both. -/
structure Qu (w5 : World) (p : Option Addr) (n c : Nat) (cd f h : Int) : Prop where
  C : ∀ W, Hid (Below w5.heap.size w5 W) → Calls Try.prog 12 #[.slice p n c] W fun e w' => e = .returned (.int .i64 cd) ∧ Hid (Below w5.heap.size w5 w')
  rC : ∀ W, Hid (Below w5.heap.size w5 W) → Calls Try.prog 13 #[.slice p n c] W fun e w' => e = .returned (.int .i64 cd) ∧ Hid (Below w5.heap.size w5 w')
  H : ∀ W, Hid (Below w5.heap.size w5 W) → Calls Try.prog 14 #[.slice p n c] W fun e w' => e = .returned (.tuple #[.int .i64 f, .int .i64 h, .int .i64 cd]) ∧ Hid (Below w5.heap.size w5 w')
  rH : ∀ W, Hid (Below w5.heap.size w5 W) → Calls Try.prog 15 #[.slice p n c] W fun e w' => e = .returned (.tuple #[.int .i64 f, .int .i64 h, .int .i64 cd]) ∧ Hid (Below w5.heap.size w5 w')
theorem err_later {w5 W : World} {er : Int} {f : FuncId} {args : Array Value} (h : Calls Try.prog f args W (Ek er W)) (hb : Hid (Below w5.heap.size w5 W)) : Calls Try.prog f args W fun en w' => en = .returned (.int .i64 er) ∧ Hid (Below w5.heap.size w5 w') :=
  h.mono fun _ _ ⟨he, h⟩ => ⟨he, hb.out.trans (h.mono hb.out.size)⟩
theorem sofar_ex (X Y : Nat → Int) (n : Nat) : ∀ k, ∃ f h, Sofar X Y n k f h
  | 0 => ⟨_, _, sofar_zero X Y n⟩
  | k + 1 => by
    obtain ⟨f, h, s⟩ := sofar_ex X Y n k
    by_cases c : h < Y k
    · exact ⟨_, _, s.next c⟩
    · exact ⟨_, _, s.keep (by omega)⟩
theorem hi_ex (X Y : Nat → Int) (n : Nat) : ∃ f h, (ckR X Y n = 0 ∧ Top X Y n f h) ∨ (ckR X Y n ≠ 0 ∧ f = 0 ∧ h = 0) := by
  by_cases c : ckR X Y n = 0
  · obtain ⟨f, h, s⟩ := sofar_ex X Y n n
    exact ⟨f, h, .inl ⟨c, s.top ((rc_iff X Y n).1 c)⟩⟩
  · exact ⟨0, 0, .inr ⟨c, rfl, rfl⟩⟩
theorem qu_pack {w5 : World} {p : Option Addr} {n c : Nat} {X Y : Nat → Int} (hp : RdP w5 p n X Y) (hnc : n ≤ c) : ∃ cd f h, Hid (Qu w5 p n c cd f h) := by
  obtain ⟨f, h, hc⟩ := hi_ex X Y n
  have hR := fun W (hb : Hid (Below w5.heap.size w5 W)) => hp.below hb.out (Nat.le_refl _)
  refine ⟨ckR X Y n, f, h, ⟨fun W hb => err_later (rck_any p n c X Y W (hR W hb)) hb, fun W hb => err_later (rrck_any p n c X Y W (hR W hb)) hb, fun W hb => ?_, fun W hb => ?_⟩⟩
  · refine (high_pkg p n c X Y W (hR W hb) hnc).mono ?_
    rintro e w' ⟨f', h', rfl, hc', hb'⟩
    obtain ⟨rfl, rfl⟩ := hip_one hc hc'
    exact ⟨rfl, hb.out.trans (hb'.mono hb.out.size)⟩
  · refine (high_ref p n c X Y W (hR W hb)).mono ?_
    rintro e w' ⟨f', h', rfl, hc', hb'⟩
    obtain ⟨rfl, rfl⟩ := hip_one hc hc'
    exact ⟨rfl, hb.out.trans (hb'.mono hb.out.size)⟩

/-- What is asked of a list and a day at any later world: At, of both. -/
structure Qa (w5 : World) (p : Option Addr) (n c : Nat) (x a e : Int) : Prop where
  A : ∀ W, Hid (Below w5.heap.size w5 W) → Calls Try.prog 18 #[.slice p n c, .int .i64 x] W fun en w' => en = .returned (.tuple #[.int .i64 a, .int .i64 e]) ∧ Hid (Below w5.heap.size w5 w')
  rA : ∀ W, Hid (Below w5.heap.size w5 W) → Calls Try.prog 19 #[.slice p n c, .int .i64 x] W fun en w' => en = .returned (.tuple #[.int .i64 a, .int .i64 e]) ∧ Hid (Below w5.heap.size w5 w')
theorem qa_pack {w5 : World} {p : Option Addr} {n c : Nat} {X Y : Nat → Int} (hp : RdP w5 p n X Y) (hnc : n ≤ c) (x : Int) : ∃ a e, Hid (Qa w5 p n c x a e) := by
  have hR := fun W (hb : Hid (Below w5.heap.size w5 W)) => hp.below hb.out (Nat.le_refl _)
  exact ⟨_, _, ⟨fun W hb => pair_later5 (rat_pkg p n c X Y x W (hR W hb) hnc) hb, fun W hb => pair_later5 (rat_ref p n c X Y x W (hR W hb)) hb⟩⟩
/-- What is asked of a reservoir, a list, a day and a volume at any later world: Target and Surplus, of both. -/
structure Qt (w5 : World) (pr : Option Addr) (nr cr : Nat) (D L F S C : Int) (p : Option Addr) (n c : Nat) (x v a e b d : Int) : Prop where
  T : ∀ W, Hid (Below w5.heap.size w5 W) → Calls Try.prog 20 #[.agg #[.slice pr nr cr, .int .i64 D, .int .i64 L, .int .i64 F, .int .i64 S, .int .i64 C], .slice p n c, .int .i64 x] W fun en w' => en = .returned (.tuple #[.int .i64 a, .int .i64 e]) ∧ Hid (Below w5.heap.size w5 w')
  rT : ∀ W, Hid (Below w5.heap.size w5 W) → Calls Try.prog 21 #[.agg #[.slice pr nr cr, .int .i64 D, .int .i64 L, .int .i64 F, .int .i64 S, .int .i64 C], .slice p n c, .int .i64 x] W fun en w' => en = .returned (.tuple #[.int .i64 a, .int .i64 e]) ∧ Hid (Below w5.heap.size w5 w')
  U : ∀ W, Hid (Below w5.heap.size w5 W) → Calls Try.prog 22 #[.agg #[.slice pr nr cr, .int .i64 D, .int .i64 L, .int .i64 F, .int .i64 S, .int .i64 C], .slice p n c, .int .i64 x, .int .i64 v] W fun en w' => en = .returned (.tuple #[.int .i64 b, .int .i64 d]) ∧ Hid (Below w5.heap.size w5 w')
  rU : ∀ W, Hid (Below w5.heap.size w5 W) → Calls Try.prog 23 #[.agg #[.slice pr nr cr, .int .i64 D, .int .i64 L, .int .i64 F, .int .i64 S, .int .i64 C], .slice p n c, .int .i64 x, .int .i64 v] W fun en w' => en = .returned (.tuple #[.int .i64 b, .int .i64 d]) ∧ Hid (Below w5.heap.size w5 w')
theorem qt_pack {w5 : World} {pr : Option Addr} {nr : Nat} (cr : Nat) {Xr Yr : Nat → Int} (D L F S C : Int) {p : Option Addr} {n c : Nat} {X Y : Nat → Int} (hpr : RdP w5 pr nr Xr Yr) (hp : RdP w5 p n X Y) (hnc : n ≤ c) (x v : Int) : ∃ a e b d, Hid (Qt w5 pr nr cr D L F S C p n c x v a e b d) := by
  have hR := fun W (hb : Hid (Below w5.heap.size w5 W)) => hp.below hb.out (Nat.le_refl _)
  have hS := fun W (hb : Hid (Below w5.heap.size w5 W)) => hpr.below hb.out (Nat.le_refl _)
  exact ⟨_, _, _, _, ⟨fun W hb => pair_later5 (tar_pkg p n c X Y pr nr cr Xr Yr D L F S C x W (hR W hb) hnc (hS W hb)) hb, fun W hb => pair_later5 (tar_ref p n c X Y pr nr cr Xr Yr D L F S C x W (hR W hb) (hS W hb)) hb,
    fun W hb => pair_later5 (sur_pkg p n c X Y pr nr cr Xr Yr D L F S C x v W (hR W hb) hnc (hS W hb)) hb, fun W hb => pair_later5 (sur_ref p n c X Y pr nr cr Xr Yr D L F S C x v W (hR W hb) (hS W hb)) hb⟩⟩

/-- The state at the head of the outer loop. -/
theorem al_start {w w2 w3 w4 : World} {p : Option Addr} {n c : Nat} {z : Nat → Int} {a0 : Option Addr} {len0 cap0 : Nat} {X0 Y0 : Nat → Int} {a1 : Option Addr} {len1 cap1 : Nat} {D1 L1 F1 S1 C1 : Int} {X1 Y1 : Nat → Int}
    {b k cap : Nat} {Xr Yr : Nat → Int} {D L F S C : Int} {g2 q2 c2 : Nat} {X Y : Nat → Int} {t1 t2 t3 : TypeId}
    (W0 : RdP w a0 len0 X0 Y0) (W1 : RdP w a1 len1 X1 Y1) (hc0 : len0 ≤ cap0)
    (hB : Below (w.alloc (.cells #[.slice a1 len1 cap1, .int .i64 D1, .int .i64 L1, .int .i64 F1, .int .i64 S1, .int .i64 C1] t1)).heap.size (w.alloc (.cells #[.slice a1 len1 cap1, .int .i64 D1, .int .i64 L1, .int .i64 F1, .int .i64 S1, .int .i64 C1] t1)) w2)
    (hD2 : Dk w2 (w.alloc (.cells #[.slice a1 len1 cap1, .int .i64 D1, .int .i64 L1, .int .i64 F1, .int .i64 S1, .int .i64 C1] t1)).heap.size p n c z) (hG3 : w2.grownBy w3 (some (w.heap.size + 1))) (hb : w2.heap.size ≤ b) (hP : Pts w3 b 0 k Xr Yr)
    (hG4 : (w3.alloc (.cells #[.slice (some ⟨b, 0, none⟩) k cap, .int .i64 D, .int .i64 L, .int .i64 F, .int .i64 S, .int .i64 C] t2)).grownBy w4 (some (w.heap.size + 1)))
    (hg2 : (w3.alloc (.cells #[.slice (some ⟨b, 0, none⟩) k cap, .int .i64 D, .int .i64 L, .int .i64 F, .int .i64 S, .int .i64 C] t2)).heap.size ≤ g2) (hqc : q2 ≤ c2) (hP4 : Pts w4 g2 0 q2 X Y) (hD4 : Dk w4 (w.heap.size + 1) p n c z) :
    Al w (w.heap.size + 1) p n c z w4.heap.size (pk2 (some ⟨g2, 0, none⟩) a0) (pk2 q2 len0) (pk2 c2 cap0) (pk2 X X0) (pk2 Y Y0) w3.heap.size w.heap.size (pk2 (some ⟨b, 0, none⟩) a1) (pk2 k len1) (pk2 cap cap1) (pk2 D D1) (pk2 L L1) (pk2 F F1) (pk2 S S1) (pk2 C C1) (pk2 Xr X1) (pk2 Yr Y1)
      (w4.alloc (.cells #[.slice (some ⟨g2, 0, none⟩) q2 c2, .slice a0 len0 cap0] t3)) := by
  have hA := (Below.refl w.heap.size w).alloc (Nat.le_refl _) (.cells #[.slice a1 len1 cap1, .int .i64 D1, .int .i64 L1, .int .i64 F1, .int .i64 S1, .int .i64 C1] t1)
  have s1 : w.heap.size + 1 < w2.heap.size := by have := hD2.lt; simpa using this
  have s2 := hG3.size
  have s3 := hG4.size
  rw [World.size_alloc] at s3 hg2
  have e2 : Below w.heap.size w w2 := hA.trans (hB.mono (by simp))
  have e3 : Below w.heap.size w w3 := e2.grown hG3 e2.size (by intro k hk; cases hk; omega)
  have e4 : Below w.heap.size w w4 := (e3.alloc e3.size _).grown hG4 (by simp; omega) (by intro k hk; cases hk; omega)
  have e5 := e4.alloc e4.size (.cells #[.slice (some ⟨g2, 0, none⟩) q2 c2, .slice a0 len0 cap0] t3)
  have x1 := (bx_alloc w a1 len1 cap1 D1 L1 F1 S1 C1 t1).below hB (by simp)
  have x2 := bx_grown x1 hG3 (by simp)
  have x3 := bx_grown (bx_grown x2 (World.grownBy_alloc w3 (.cells #[.slice (some ⟨b, 0, none⟩) k cap, .int .i64 D, .int .i64 L, .int .i64 F, .int .i64 S, .int .i64 C] t2) none) (by simp)) hG4 (by simp)
  have x4 := bx_grown x3 (World.grownBy_alloc w4 (.cells #[.slice (some ⟨g2, 0, none⟩) q2 c2, .slice a0 len0 cap0] t3) none) (by simp)
  have y1 := bx_grown (bx_alloc w3 (some ⟨b, 0, none⟩) k cap D L F S C t2) hG4 (by simp; omega)
  have y2 := bx_grown y1 (World.grownBy_alloc w4 (.cells #[.slice (some ⟨g2, 0, none⟩) q2 c2, .slice a0 len0 cap0] t3) none) (by simp)
  exact {
    lists := fun i hi => by
      have hc : i = 0 ∨ i = 1 := by omega
      rcases hc with rfl | rfl <;> simp [pk2]
    rd := fun i hi => by
      have hc : i = 0 ∨ i = 1 := by omega
      rcases hc with rfl | rfl
      · exact fun _ => ⟨g2, 0, rfl, hP4.alloc _⟩
      · exact W0.below e5 (Nat.le_refl _)
    le := fun i hi => by
      have hc : i = 0 ∨ i = 1 := by omega
      rcases hc with rfl | rfl
      · exact hqc
      · exact hc0
    b0 := y2
    b1 := x4
    rr := fun i hi => by
      have hc : i = 0 ∨ i = 1 := by omega
      rcases hc with rfl | rfl
      · exact fun _ => ⟨b, 0, rfl, ((hP.alloc _).grown hG4 (by simp; omega)).alloc _⟩
      · exact W1.below e5 (Nat.le_refl _)
    dk := hD4.alloc _
    bel := e5
    nlb := by omega
    nk0 := by omega
    nk1 := by omega
    ngl := fun i hi hn b' off e => by
      have hc : i = 0 ∨ i = 1 := by omega
      rcases hc with rfl | rfl
      · simp only [pk2, if_pos, Option.some.injEq, Addr.mk.injEq] at e
        omega
      · obtain ⟨b1, o1, h1, h2⟩ := W0 hn
        have h3 : a0 = some ⟨b', off, none⟩ := e
        rw [h1] at h3
        simp only [Option.some.injEq, Addr.mk.injEq] at h3
        have := h2.1
        omega
    ngr := fun i hi hn b' off e => by
      have hc : i = 0 ∨ i = 1 := by omega
      rcases hc with rfl | rfl
      · simp only [pk2, if_pos, Option.some.injEq, Addr.mk.injEq] at e
        omega
      · obtain ⟨b1, o1, h1, h2⟩ := W1 hn
        have h3 : a1 = some ⟨b', off, none⟩ := e
        rw [h1] at h3
        simp only [Option.some.injEq, Addr.mk.injEq] at h3
        have := h2.1
        omega
    wg := by omega }

set_option maxRecDepth 100000 in
set_option maxHeartbeats 32000000 in
theorem lal5_walk (a0 : Option Addr) (len0 cap0 : Nat) (X0 Y0 : Nat → Int) (a1 : Option Addr) (len1 cap1 : Nat) (D1 L1 F1 S1 C1 : Int) (X1 Y1 : Nat → Int) (p : Option Addr) (n c : Nat) (z : Nat → Int) (x y : Int) (w : World)
    (w0 : RdP w a0 len0 X0 Y0) (hc0 : len0 ≤ cap0) (w1 : RdP w a1 len1 X1 Y1) (hr : RdI w p n z) (hn : n ≤ 9223372036854775807) (hz : ∀ i, -9223372036854775808 ≤ z i ∧ z i ≤ 9223372036854775807)
    (hx : -9223372036854775808 ≤ x ∧ x ≤ 9223372036854775807) :
    Calls Try.prog 3 #[.slice a0 len0 cap0, .agg #[.slice a1 len1 cap1, .int .i64 D1, .int .i64 L1, .int .i64 F1, .int .i64 S1, .int .i64 C1], .slice p n c, .int .i64 x, .int .i64 y] w fun e w' => e = .returned (.bool true) ∧ Below w.heap.size w w' := by
  have HB0 := Lib.hid ((Below.refl w.heap.size w).alloc (Nat.le_refl _) (.cells #[.slice a1 len1 cap1, .int .i64 D1, .int .i64 L1, .int .i64 F1, .int .i64 S1, .int .i64 C1] 24))
  by_cases hbig : 150 < len0
  · have hbi : (150 : Int) < (len0 : Int) := by omega
    have HB1 : Hid (Hid (Below w.heap.size w (w.alloc (.cells #[.slice a1 len1 cap1, .int .i64 D1, .int .i64 L1, .int .i64 F1, .int .i64 S1, .int .i64 C1] 24)))) := HB0
    clear w0 w1 hr hz hn hx
    go_enter Try.func3, Try.ntmps3
    go_wp2_with (go_at_call 8; refine (awk5_later _ HB1.out).mono ?_; rintro e w6 ⟨rfl, hb5⟩)
    go_ret
    exact ⟨rfl, hb5.out⟩
  · have hbi : ¬ (150 : Int) < (len0 : Int) := by omega
    have hbn : (len0 : Int) ≤ 150 := by omega
    have HN := Lib.hid (new_any p n c z (w.alloc (.cells #[.slice a1 len1 cap1, .int .i64 D1, .int .i64 L1, .int .i64 F1, .int .i64 S1, .int .i64 C1] 24)) hn hz (fun h => by
      obtain ⟨b, off, e, hb, hc⟩ := hr h
      exact ⟨b, off, e, by simp; omega, fun i hi => (World.grownBy_alloc w _ none).cell (hc i hi) (by simp)⟩))
    have HM1 := Lib.hid (fun W => mod_any x 367 W hx (by omega) (by omega))
    have v1 := md_lo x 367 (by omega)
    have v2 := md_hi x 367 (by omega)
    have W0 := Lib.hid w0
    have W1 := Lib.hid w1
    clear hr hz hn hx w0 w1
    generalize md x 367 = s at *
    go_enter Try.func3, Try.ntmps3
    go_upto_block 0 with (first
      | (go_at_call 9; refine HN.out.mono ?_; rintro e w2 ⟨rfl, hd1, hb1⟩; have HB2 := Lib.hid hb1; have HD2 := Lib.hid hd1; clear HN hb1 hd1)
      | (go_at_call 10; refine (reservoir_any (w.heap.size + 1) p n c z _ (by have := HD2.out; simpa using this)).mono ?_; rintro e w3 ⟨b, cap, k, m, Xr, Yr, D, L, F, S, C, rfl, hk, m4, hwb, hpt, hres, hbd, hd2, hg2⟩; have HPT := Lib.hid hpt; have HD3 := Lib.hid hd2; have HG3 := Lib.hid hg2; clear hk m4 hpt hres hbd hd2 hg2)
      | (go_at_call 11; refine (made_any (w.heap.size + 1) p n c z _ (HD3.out.alloc _)).mono ?_; rintro e w4 ⟨g2, q2, c2, X, Y, rfl, hp3, hqc, hg2w, q1, q6, hd3, hg3⟩; have HP4 := Lib.hid hp3; have HD4 := Lib.hid hd3; have HG4 := Lib.hid hg3; clear hp3 hd3 hg3))
    have HAL := Lib.hid (al_start (t3 := 22) W0.out W1.out hc0 HB2.out HD2.out HG3.out hwb HPT.out HG4.out hg2w hqc HP4.out HD4.out)
    clear HB0 HB2 HD2 HG3 HPT HG4 HP4 HD4 HD3 W0 W1 hwb hg2w
    generalize pk2 (some ⟨g2, 0, none⟩) a0 = PL at *
    generalize pk2 q2 len0 = NL at *
    generalize pk2 c2 cap0 = KL at *
    generalize pk2 X X0 = XL at *
    generalize pk2 Y Y0 = YL at *
    generalize pk2 (some ⟨b, 0, none⟩) a1 = PR at *
    generalize pk2 k len1 = NR at *
    generalize pk2 cap cap1 = KR at *
    generalize pk2 D D1 = DR at *
    generalize pk2 L L1 = LR at *
    generalize pk2 F F1 = FR at *
    generalize pk2 S S1 = SR at *
    generalize pk2 C C1 = CR at *
    generalize pk2 Xr X1 = XR at *
    generalize pk2 Yr Y1 = YR at *
    generalize w4.alloc (.cells #[.slice (some ⟨g2, 0, none⟩) q2 c2, .slice a0 len0 cap0] 22) = W5 at *
    generalize w4.heap.size = lb at *
    generalize w3.heap.size = k0 at *
    clear q1 q6 hqc hc0
    go_wp2_with fail
    go_loopw [50] (fun i wr => ∃ k : Nat, k ≤ 2 ∧ i = .int .i64 k ∧ Hid (Al w (w.heap.size + 1) p n c z lb PL NL KL XL YL k0 w.heap.size PR NR KR DR LR FR SR CR XR YR wr)) (fun i _ => 2 - (intOf i).toNat)
    case atStart => exact ⟨0, by omega, rfl, HAL⟩
    case round =>
      obtain ⟨i, hi2, rfl, ha⟩ := hrel
      clear HAL
      by_cases hi : i < 2
      · have hii : (i : Int) < 2 := by omega
        have cl := ha.out.lists i hi
        obtain ⟨cd, f, h, HQ⟩ := qu_pack (ha.out.rd i hi) (ha.out.le i hi)
        obtain ⟨w6, rfl⟩ : ∃ w6, w6 = wr := ⟨_, rfl⟩
        have HRD : Hid (∀ W, Al w (w.heap.size + 1) p n c z lb PL NL KL XL YL k0 w.heap.size PR NR KR DR LR FR SR CR XR YR W → RdP W (PL i) (NL i) (XL i) (YL i)) := fun W h => h.rd i hi
        have HLE := Lib.hid (ha.out.le i hi)
        generalize PL i = P at *
        generalize NL i = N at *
        generalize KL i = K at *
        generalize XL i = X at *
        generalize YL i = Y at *
        have b1 : (cd != cd) = false := by simp
        have b2 : (f != f) = false := by simp
        have b3 : (h != h) = false := by simp
        have hb0 : Hid (Below w6.heap.size w6 w6) := Below.refl _ _
        go_upto_region 14 with (first
          | (go_at_call 12; refine (HQ.out.C _ (by assumption)).mono ?_; rintro e w7 ⟨rfl, hb0⟩)
          | (go_at_call 13; refine (HQ.out.rC _ (by assumption)).mono ?_; rintro e w7 ⟨rfl, hb0⟩)
          | (go_at_call 14; refine (HQ.out.H _ (by assumption)).mono ?_; rintro e w7 ⟨rfl, hb0⟩)
          | (go_at_call 15; refine (HQ.out.rH _ (by assumption)).mono ?_; rintro e w7 ⟨rfl, hb0⟩))
        have HA7 := Lib.hid (ha.out.below hb0.out)
        clear hb0 HQ cl b1 b2 b3 ha
        go_upto_block 3 with (first
          | (go_at_call 16; refine (HM1.out _).mono ?_; rintro e w' ⟨rfl, rfl⟩)
          | (go_at_call 17; refine (next_any (w.heap.size + 1) p n c z _ _ HA7.out.dk (by omega)).mono ?_; rintro e w8 ⟨r, rfl, r1, r2, hd8, hg8⟩; have HA8 := Lib.hid (HA7.out.next hd8 hg8); clear hd8 hg8 HA7))
        have HE9 := Lib.hid (three_cells w8 (fun k => if k = 0 then x else if k = 1 then s - 1 else r) 3)
        have HA9 := Lib.hid (HA8.out.below ((Below.refl w8.heap.size w8).alloc (Nat.le_refl _) (.cells #[.int .i64 x, .int .i64 (s - 1), .int .i64 r] 3)))
        have HE8 : Hid (∀ k, k < 3 → (w8.alloc (.cells #[.int .i64 x, .int .i64 (s - 1), .int .i64 r] 3)).cell? ⟨w8.heap.size, k, none⟩ = some (.int .i64 (if k = 0 then x else if k = 1 then s - 1 else r))) := fun k hk => HE9.out k hk
        clear HE9 HA8
        generalize w8.alloc (.cells #[.int .i64 x, .int .i64 (s - 1), .int .i64 r] 3) = w9 at *
        generalize w8.heap.size = db at *
        clear r1 r2
        go_loopw [92] (fun i2 wr => ∃ k2 : Nat, k2 ≤ 3 ∧ i2 = .int .i64 k2 ∧ Hid (Below w9.heap.size w9 wr)) (fun i2 _ => 3 - (intOf i2).toNat)
        case atStart => exact ⟨0, by omega, rfl, Below.refl _ _⟩
        case round =>
          obtain ⟨k2, hk2, rfl, hb9⟩ := hrel
          by_cases hk : k2 < 3
          · have hki : (k2 : Int) < 3 := by omega
            have ce := HE8.out k2 hk
            have ce2 := (hb9.out.cell (p := ⟨db, k2, none⟩) (World.block_lt_of_cell? _ _ ce)).trans ce
            generalize (if k2 = 0 then x else if k2 = 1 then s - 1 else r) = xv at ce2
            clear ce
            obtain ⟨av, ae, HQ⟩ := qa_pack ((HRD.out _ HA9.out).below hb9.out (Nat.le_refl _)) HLE.out xv
            obtain ⟨w10, rfl⟩ : ∃ w10, w10 = wr := ⟨_, rfl⟩
            have b1 : (av != av) = false := by simp
            have b2 : (ae != ae) = false := by simp
            have hb0 : Hid (Below w10.heap.size w10 w10) := Below.refl _ _
            go_upto_region 21 with (first
              | (go_at_call 18; refine (HQ.out.A _ (by assumption)).mono ?_; rintro e w11 ⟨rfl, hb0⟩)
              | (go_at_call 19; refine (HQ.out.rA _ (by assumption)).mono ?_; rintro e w12 ⟨rfl, hb0⟩))
            have HB12 := Lib.hid (hb9.out.trans (hb0.out.mono hb9.out.size))
            have HA12 := Lib.hid (HA9.out.below HB12.out)
            clear hb0 HQ b1 b2 hb9 ce2
            obtain ⟨d0, d1, d2, d3, d4, d5⟩ := HA12.out.b0
            obtain ⟨e0, e1, e2, e3, e4, e5⟩ := HA12.out.b1
            go_upto_block 5 with fail
            have HT13 := Lib.hid (two_cells w12 PR NR KR DR LR FR SR CR 24)
            have HB13 := Lib.hid (HB12.out.alloc HB12.out.size (.cells #[.slice (PR 0) (NR 0) (KR 0), .int .i64 (DR 0), .int .i64 (LR 0), .int .i64 (FR 0), .int .i64 (SR 0), .int .i64 (CR 0), .slice (PR 1) (NR 1) (KR 1), .int .i64 (DR 1), .int .i64 (LR 1), .int .i64 (FR 1), .int .i64 (SR 1), .int .i64 (CR 1)] 24))
            have HA13 := Lib.hid (HA9.out.below HB13.out)
            clear d0 d1 d2 d3 d4 d5 e0 e1 e2 e3 e4 e5 HA12 HB12
            generalize w12.alloc (.cells #[.slice (PR 0) (NR 0) (KR 0), .int .i64 (DR 0), .int .i64 (LR 0), .int .i64 (FR 0), .int .i64 (SR 0), .int .i64 (CR 0), .slice (PR 1) (NR 1) (KR 1), .int .i64 (DR 1), .int .i64 (LR 1), .int .i64 (FR 1), .int .i64 (SR 1), .int .i64 (CR 1)] 24) = w13 at *
            generalize w12.heap.size = rb at *
            go_loopw [120] (fun i3 wr => ∃ j : Nat, j ≤ 2 ∧ i3 = .int .i64 j ∧ Hid (Below w13.heap.size w13 wr)) (fun i3 _ => 2 - (intOf i3).toNat)
            case atStart => exact ⟨0, by omega, rfl, Below.refl _ _⟩
            case round =>
              obtain ⟨j, hj2, rfl, hb13⟩ := hrel
              by_cases hj : j < 2
              · have hji : (j : Int) < 2 := by omega
                obtain ⟨f0, f1, f2, f3, f4, f5⟩ := HT13.out j hj
                have rlt := World.block_lt_of_cell? _ _ f0
                have g0 := (hb13.out.cell (p := ⟨rb, j * 6, none⟩) rlt).trans f0
                have g1 := (hb13.out.cell (p := ⟨rb, j * 6 + 1, none⟩) rlt).trans f1
                have g2' := (hb13.out.cell (p := ⟨rb, j * 6 + 2, none⟩) rlt).trans f2
                have g3 := (hb13.out.cell (p := ⟨rb, j * 6 + 3, none⟩) rlt).trans f3
                have g4 := (hb13.out.cell (p := ⟨rb, j * 6 + 4, none⟩) rlt).trans f4
                have g5 := (hb13.out.cell (p := ⟨rb, j * 6 + 5, none⟩) rlt).trans f5
                have HRR := Lib.hid ((HA13.out.below hb13.out).rr j hj)
                have HRP := Lib.hid (HRD.out _ (HA13.out.below hb13.out))
                clear f0 f1 f2 f3 f4 f5 rlt
                generalize PR j = Pj at *
                generalize NR j = Nj at *
                generalize KR j = Kj at *
                generalize DR j = Dj at *
                generalize LR j = Lj at *
                generalize FR j = Fj at *
                generalize SR j = Sj at *
                generalize CR j = Cj at *
                generalize XR j = Xj at *
                generalize YR j = Yj at *
                obtain ⟨w14, rfl⟩ : ∃ w14, w14 = wr := ⟨_, rfl⟩
                go_upto_region 24 with fail
                have HAL2 := Lib.hid ((Below.refl w14.heap.size w14).alloc (Nat.le_refl _) (.cells #[.slice Pj Nj Kj, .int .i64 Dj, .int .i64 Lj, .int .i64 Fj, .int .i64 Sj, .int .i64 Cj] 24))
                have HX := Lib.hid (bx_alloc w14 Pj Nj Kj Dj Lj Fj Sj Cj 24)
                obtain ⟨tv, te, sv, se, HQ⟩ := qt_pack Kj Dj Lj Fj Sj Cj (HRR.out.below HAL2.out (Nat.le_refl _)) (HRP.out.below HAL2.out (Nat.le_refl _)) HLE.out xv y
                have HB15 := Lib.hid (hb13.out.trans (HAL2.out.mono hb13.out.size))
                clear HAL2 HRR HRP g0 g1 g2' g3 g4 g5 hb13
                generalize w14.alloc (.cells #[.slice Pj Nj Kj, .int .i64 Dj, .int .i64 Lj, .int .i64 Fj, .int .i64 Sj, .int .i64 Cj] 24) = w15 at *
                generalize w14.heap.size = yb at *
                have b1 : (tv != tv) = false := by simp
                have b2 : (te != te) = false := by simp
                have b3 : (sv != sv) = false := by simp
                have b4 : (se != se) = false := by simp
                have hb5 : Hid (Below w15.heap.size w15 w15) := Below.refl _ _
                have HCel : Hid (∀ W, Hid (Below w15.heap.size w15 W) → Bx W yb Pj Nj Kj Dj Lj Fj Sj Cj) := fun W h => HX.out.below h.out (World.block_lt_of_cell? _ _ HX.out.c0)
                obtain ⟨c0, c1, c2', c3, c4, c5⟩ := HX.out
                clear HX
                go_wp2_with (first
                  | (go_at_call 20; refine (HQ.out.T _ (by assumption)).mono ?_; clear c0 c1 c2' c3 c4 c5; rintro e w16 ⟨rfl, hb5⟩; have hbx := HCel.out _ hb5; obtain ⟨c0, c1, c2', c3, c4, c5⟩ := hbx)
                  | (go_at_call 21; refine (HQ.out.rT _ (by assumption)).mono ?_; clear c0 c1 c2' c3 c4 c5; rintro e w17 ⟨rfl, hb5⟩; have hbx := HCel.out _ hb5; obtain ⟨c0, c1, c2', c3, c4, c5⟩ := hbx)
                  | (go_at_call 22; refine (HQ.out.U _ (by assumption)).mono ?_; clear c0 c1 c2' c3 c4 c5; rintro e w18 ⟨rfl, hb5⟩; have hbx := HCel.out _ hb5; obtain ⟨c0, c1, c2', c3, c4, c5⟩ := hbx)
                  | (go_at_call 23; refine (HQ.out.rU _ (by assumption)).mono ?_; clear c0 c1 c2' c3 c4 c5; rintro e w19 ⟨rfl, hb5⟩))
                go_roundw
                case rel => exact ⟨j + 1, by omega, by go_num, HB15.out.trans (hb5.out.mono HB15.out.size)⟩
                case measure => simp [intOf]; omega
              · obtain rfl : j = 2 := by omega
                have HBE := Lib.hid (HB13.out.trans (hb13.out.mono HB13.out.size))
                clear HA13 HT13 HB13
                go_wp2_with fail
                go_roundw
                case rel => exact ⟨k2 + 1, by omega, by go_num, HBE⟩
                case measure => simp [intOf]; omega
          · obtain rfl : k2 = 3 := by omega
            have HAE := Lib.hid (HA9.out.below hb9.out)
            clear HA9 HE8
            go_wp2_with fail
            go_roundw
            case rel => exact ⟨i + 1, by omega, by go_num, HAE⟩
            case measure => simp [intOf]; omega
      · obtain rfl : i = 2 := by omega
        go_wp2_with (go_at_call 8; refine (awake5_any _).mono ?_; rintro e w6 ⟨rfl, hb5⟩)
        go_ret
        exact ⟨rfl, ha.out.bel.trans (hb5.mono ha.out.bel.size)⟩
end Go.Proofs.Ytdblppbjlgmccaa.Ru

/-
  Contracts of the deck of numbers: New, Next, and Curve, which makes a valid curve.
-/
import Derived.Test.YtbcjigociliflaaCuPts
namespace Go.Proofs.Ytbcjigociliflaa.Cu
open Go.ChangeShapes Go.WideShapes Go.ChangeAt Go.RowKit
set_option linter.unusedVariables false

/-- Block g is a deck over the n numbers z. -/
structure Dk (w : World) (g : Nat) (p : Option Addr) (n c : Nat) (z : Nat → Int) : Prop where
  lt : g < w.heap.size
  list : w.cell? ⟨g, 0, none⟩ = some (.slice p n c)
  place : ∃ k : Nat, k ≤ n ∧ w.cell? ⟨g, 1, none⟩ = some (.int .i64 k)
  free : w.frozen? ⟨g, 1, none⟩ = false
  len : n ≤ 9223372036854775807
  read : 0 < n → ∃ b off, p = some ⟨b, off, none⟩ ∧ b < g ∧ ∀ i, i < n → w.cell? ⟨b, off + i, none⟩ = some (.int .i64 (z i))
  bd : ∀ i, -9223372036854775808 ≤ z i ∧ z i ≤ 9223372036854775807
theorem Dk.grown {w w' : World} {g : Nat} {p : Option Addr} {n c : Nat} {z : Nat → Int} (h : Dk w g p n c z) {r : Option Nat} (hg : w.grownBy w' r) (hr : some g ≠ r) (hr2 : ∀ k, r = some k → g ≤ k) : Dk w' g p n c z where
  lt := Nat.lt_of_lt_of_le h.lt hg.size
  list := hg.cell h.list hr
  place := by obtain ⟨k, hk, hc⟩ := h.place; exact ⟨k, hk, hg.cell hc hr⟩
  free := (World.frozen?_of_block (w := w) (a := ⟨g, 1, none⟩) (hg.block g h.lt hr)).trans h.free
  len := h.len
  read := fun hn => by
    obtain ⟨b, off, e, hb, hc⟩ := h.read hn
    exact ⟨b, off, e, hb, fun i hi => hg.cell (hc i hi) (fun e2 => by have := hr2 b e2.symm; omega)⟩
  bd := h.bd
theorem Dk.below {w w' : World} {g : Nat} {p : Option Addr} {n c : Nat} {z : Nat → Int} (h : Dk w g p n c z) {B : Nat} (hb : Below B w w') (hB : g < B) : Dk w' g p n c z where
  lt := Nat.lt_of_lt_of_le h.lt hb.size
  list := (hb.cell (p := ⟨g, 0, none⟩) hB).trans h.list
  place := by obtain ⟨k, hk, hc⟩ := h.place; exact ⟨k, hk, (hb.cell (p := ⟨g, 1, none⟩) hB).trans hc⟩
  free := (hb.frozen (p := ⟨g, 1, none⟩) hB).trans h.free
  len := h.len
  read := fun hn => by
    obtain ⟨b, off, e, hbg, hc⟩ := h.read hn
    exact ⟨b, off, e, hbg, fun i hi => (hb.cell (p := ⟨b, off + i, none⟩) (Nat.lt_trans hbg hB)).trans (hc i hi)⟩
  bd := h.bd
theorem Dk.alloc {w : World} {g : Nat} {p : Option Addr} {n c : Nat} {z : Nat → Int} (h : Dk w g p n c z) (o : Obj) : Dk (w.alloc o) g p n c z :=
  h.grown (World.grownBy_alloc w o none) (by simp) (by intro k hk; cases hk)

theorem dk_grown (w : World) (g q : Nat) (u : Value) : w.grownBy ((w.drewN q).setCell ⟨g, 1, none⟩ u) (some g) :=
  ⟨rfl, rfl, rfl, by simp [World.setCell], fun j hj hne => (Below.heap_setCell _ _ _ _ (by intro e; apply hne; rw [e])).trans rfl⟩
theorem Dk.step {w : World} {g b off : Nat} {n c k : Nat} {z : Nat → Int} (h : Dk w g (some ⟨b, off, none⟩) n c z) (q : Nat) (u : Int) (hk : k < n) (hb : b < g) (hu : u = (k : Int) + 1 := by rfl) : Dk ((w.drewN q).setCell ⟨g, 1, none⟩ (.int .i64 u)) g (some ⟨b, off, none⟩) n c z where
  lt := by simpa using h.lt
  list := (World.cell?_setCell_other _ _ _ _ (by intro e; simp only [Addr.mk.injEq] at e; omega)).trans h.list
  place := by
    obtain ⟨k0, _, h1⟩ := h.place
    exact ⟨k + 1, by omega, by rw [World.cell?_setCell_same _ _ _ (show (w.drewN q).cell? ⟨g, 1, none⟩ = _ from h1), hu]; rfl⟩
  free := by simpa using h.free
  len := h.len
  read := fun hn => by
    obtain ⟨b', off', e, hb', hc⟩ := h.read hn
    exact ⟨b', off', e, hb', fun i hi => (World.cell?_setCell_other _ _ _ _ (by intro e; simp only [Addr.mk.injEq] at e; omega)).trans (hc i hi)⟩
  bd := h.bd

def NxP (w : World) (g : Nat) (p : Option Addr) (n c : Nat) (z : Nat → Int) (nn : Int) (e : Ending) (w' : World) : Prop :=
  ∃ r : Int, e = .returned (.int .i64 r) ∧ 0 ≤ r ∧ (r < nn ∨ r = 0) ∧ Dk w' g p n c z ∧ w.grownBy w' (some g)

theorem new_any (p : Option Addr) (n c : Nat) (z : Nat → Int) (w : World) (hn : n ≤ 9223372036854775807) (hz : ∀ i, -9223372036854775808 ≤ z i ∧ z i ≤ 9223372036854775807)
    (hr : 0 < n → ∃ b off, p = some ⟨b, off, none⟩ ∧ b < w.heap.size ∧ ∀ i, i < n → w.cell? ⟨b, off + i, none⟩ = some (.int .i64 (z i))) :
    Calls Try.prog 9 #[.slice p n c] w fun e w' => e = .returned (.pointer (some ⟨w.heap.size, 0, none⟩)) ∧ Dk w' w.heap.size p n c z ∧ Below w.heap.size w w' := by
  have HR := Lib.hid hr
  clear hr
  go_enter Try.func9, Try.ntmps9
  go_wp2
  go_ret
  refine ⟨rfl, ⟨by simp, by simp, ⟨0, Nat.zero_le _, by simp⟩, by simp, hn, fun h => ?_, hz⟩, (Below.refl _ _).alloc (Nat.le_refl _) _⟩
  obtain ⟨b, off, e, hb, hc⟩ := HR.out h
  exact ⟨b, off, e, hb, fun i hi => ((Below.refl w.heap.size w).alloc (Nat.le_refl _) _ |>.cell (p := ⟨b, off + i, none⟩) hb).trans (hc i hi)⟩

set_option maxHeartbeats 800000 in
theorem next_none (g : Nat) (p : Option Addr) (n c : Nat) (z : Nat → Int) (nn : Int) (w : World) (hd : Dk w g p n c z) (hk : nn < 1) :
    Calls Try.prog 24 #[.pointer (some ⟨g, 0, none⟩), .int .i64 nn] w (NxP w g p n c z nn) := by
  have HD := Lib.hid hd
  have d1 : decide (nn < 1) = true := by rw [decide_eq_true_eq]; exact hk
  clear hd
  go_enter Try.func24, Try.ntmps24
  go_wp2
  go_quiet (fail)
  go_wp2
  go_ret
  exact ⟨0, rfl, Int.le_refl _, .inr rfl, HD.out.grown (grown_drewN w _ none) (by simp) (by intro k hk; cases hk), grown_drewN w _ _⟩

set_option maxHeartbeats 800000 in
theorem next_end (g : Nat) (p : Option Addr) (n c : Nat) (z : Nat → Int) (nn : Int) (w : World) (hd : Dk w g p n c z) (hk : 1 ≤ nn) (h1 : w.cell? ⟨g, 1, none⟩ = some (.int .i64 n)) :
    Calls Try.prog 24 #[.pointer (some ⟨g, 0, none⟩), .int .i64 nn] w (NxP w g p n c z nn) := by
  have HD := Lib.hid hd
  have d1 : decide (nn < 1) = false := by rw [decide_eq_false_iff_not]; omega
  have d2 : decide ((n : Int) ≤ (n : Int)) = true := by rw [decide_eq_true_eq]; exact Int.le_refl _
  have h0 := hd.list
  have hl := hd.len
  clear hd
  go_enter Try.func24, Try.ntmps24
  go_wp2
  go_quiet (fail)
  go_wp2
  go_ret
  exact ⟨0, rfl, Int.le_refl _, .inr rfl, HD.out.grown (grown_drewN w _ none) (by simp) (by intro k hk; cases hk), grown_drewN w _ _⟩

set_option maxHeartbeats 1600000 in
theorem next_more (g b off : Nat) (n c k : Nat) (z : Nat → Int) (nn : Int) (w : World) (hd : Dk w g (some ⟨b, off, none⟩) n c z) (hk : 1 ≤ nn) (hk2 : nn ≤ 4611686018427387904) (h1 : w.cell? ⟨g, 1, none⟩ = some (.int .i64 k)) (hkn : k < n)
    (hb : b < g) (hc : w.cell? ⟨b, off + k, none⟩ = some (.int .i64 (z k))) :
    Calls Try.prog 24 #[.pointer (some ⟨g, 0, none⟩), .int .i64 nn] w (NxP w g (some ⟨b, off, none⟩) n c z nn) := by
  have HD := Lib.hid hd
  have d1 : decide (nn < 1) = false := by rw [decide_eq_false_iff_not]; omega
  have d2 : decide ((n : Int) ≤ (k : Int)) = false := by rw [decide_eq_false_iff_not]; omega
  have h0 := hd.list
  have hl := hd.len
  have hf := hd.free
  have hlt := hd.lt
  have hz := hd.bd k
  have a1 := md_lo (z k) nn (by omega)
  have a2 := md_hi (z k) nn (by omega)
  have hki : (k : Int) < (n : Int) := by omega
  have HM := Lib.hid (fun W => mod_any (z k) nn W hz hk hk2)
  clear hd
  generalize md (z k) nn = r at *
  generalize z k = x at *
  go_enter Try.func24, Try.ntmps24
  go_wp2
  go_quiet (fail)
  go_wp2
  go_quiet (fail)
  go_wp2_with (go_at_call 16; refine (HM.out _).mono ?_; rintro e w' ⟨rfl, rfl⟩)
  go_ret
  exact ⟨r, rfl, a1, .inl a2, HD.out.step _ _ hkn hb, dk_grown _ _ _ _⟩

theorem next_any (g : Nat) (p : Option Addr) (n c : Nat) (z : Nat → Int) (nn : Int) (w : World) (hd : Dk w g p n c z) (hk2 : nn ≤ 4611686018427387904) :
    Calls Try.prog 24 #[.pointer (some ⟨g, 0, none⟩), .int .i64 nn] w (NxP w g p n c z nn) := by
  by_cases hk : nn < 1
  · exact next_none g p n c z nn w hd hk
  obtain ⟨k, hkn, h1⟩ := hd.place
  by_cases e : k = n
  · subst e; exact next_end g p k c z nn w hd (by omega) h1
  · obtain ⟨b, off, rfl, hb, hc⟩ := hd.read (by omega)
    exact next_more g b off n c k z nn w hd (by omega) hk2 h1 (by omega) hb (hc k (by omega))

/-- The points 0, .., m as Curve makes them. -/
structure Mk (X Y : Nat → Int) (m : Nat) (x y dx dy : Int) : Prop where
  x0 : X 0 = x
  y0 : Y 0 = y
  step : ∀ i, i < m → X i < X (i + 1) ∧ X (i + 1) ≤ X i + dx ∧ Y i ≤ Y (i + 1) ∧ Y (i + 1) ≤ Y i + dy
theorem Mk.hi {X Y : Nat → Int} {m : Nat} {x y dx dy : Int} (h : Mk X Y m x y dx dy) (hx : dx ≤ 50) (hy : dy ≤ 250) : ∀ i, i ≤ m → x ≤ X i ∧ X i ≤ x + 50 * i ∧ y ≤ Y i ∧ Y i ≤ y + 250 * i
  | 0, _ => by rw [h.x0, h.y0]; omega
  | i + 1, hi => by
    have h1 := h.hi hx hy i (by omega)
    have h2 := h.step i (by omega)
    omega
theorem Mk.hi2 {X Y : Nat → Int} {m : Nat} {x y dx dy : Int} (h : Mk X Y m x y dx dy) (hx : dx ≤ 1000) (hy : dy ≤ 1000) : ∀ i, i ≤ m → x ≤ X i ∧ X i ≤ x + 1000 * i ∧ y ≤ Y i ∧ Y i ≤ y + 1000 * i
  | 0, _ => by rw [h.x0, h.y0]; omega
  | i + 1, hi => by
    have h1 := h.hi2 hx hy i (by omega)
    have h2 := h.step i (by omega)
    omega
theorem Mk.next {X Y : Nat → Int} {m : Nat} {x y dx dy x' y' : Int} (h : Mk X Y m x y dx dy) (h1 : X m < x') (h2 : x' ≤ X m + dx) (h3 : Y m ≤ y') (h4 : y' ≤ Y m + dy) : Mk (updF X (m + 1) x') (updF Y (m + 1) y') (m + 1) x y dx dy where
  x0 := by rw [updF_other _ _ (by omega)]; exact h.x0
  y0 := by rw [updF_other _ _ (by omega)]; exact h.y0
  step := fun i hi => by
    rw [updF_other X _ (show i ≠ m + 1 by omega), updF_other Y _ (show i ≠ m + 1 by omega)]
    by_cases e : i = m
    · subst e; rw [updF_same, updF_same]; exact ⟨h1, h2, h3, h4⟩
    · rw [updF_other X _ (show i + 1 ≠ m + 1 by omega), updF_other Y _ (show i + 1 ≠ m + 1 by omega)]
      exact h.step i (by omega)
theorem Mk.cur {X Y : Nat → Int} {m : Nat} {x y dx dy : Int} (h : Mk X Y m x y dx dy) (hx : dx ≤ 50) (hy : dy ≤ 250) (hm : m ≤ 4) (x0 : 0 ≤ x ∧ x ≤ 1000) (y0 : 0 ≤ y ∧ y ≤ 1000) : Cur X Y m where
  len := by omega
  xlo := fun i hi => by have := h.hi hx hy i hi; omega
  xhi := fun i hi => by have := h.hi hx hy i hi; omega
  ylo := fun i hi => by have := h.hi hx hy i hi; omega
  yhi := fun i hi => by have := h.hi hx hy i hi; omega
  asc := fun i hi => by have := h.step i hi; omega
  prod := fun i hi => by
    have h1 := h.step i hi
    have h2 := mul_bd (a := X (i + 1) - X i) (num := Y (i + 1) - Y i) (A := 50) (B := 250) (by omega) (by omega) (by omega) (by omega)
    omega

theorem Mk.cur2 {X Y : Nat → Int} {m : Nat} {x y dx dy : Int} (h : Mk X Y m x y dx dy) (hx : dx ≤ 1000) (hy : dy ≤ 1000) (hm : m ≤ 4) (x0 : 0 ≤ x ∧ x ≤ 1000) (y0 : 0 ≤ y ∧ y ≤ 1000) : Cur X Y m where
  len := by omega
  xlo := fun i hi => by have := h.hi2 hx hy i hi; omega
  xhi := fun i hi => by have := h.hi2 hx hy i hi; omega
  ylo := fun i hi => by have := h.hi2 hx hy i hi; omega
  yhi := fun i hi => by have := h.hi2 hx hy i hi; omega
  asc := fun i hi => by have := h.step i hi; omega
  prod := fun i hi => by
    have h1 := h.step i hi
    have h2 := mul_bd (a := X (i + 1) - X i) (num := Y (i + 1) - Y i) (A := 1000) (B := 1000) (by omega) (by omega) (by omega) (by omega)
    omega
end Go.Proofs.Ytbcjigociliflaa.Cu

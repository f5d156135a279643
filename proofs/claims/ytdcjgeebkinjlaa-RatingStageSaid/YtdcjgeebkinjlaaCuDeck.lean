/-
  Contracts of the deck of numbers: New, Next, and Curve, which makes a valid curve.
-/
import Derived.Test.YtdcjgeebkinjlaaCuPts
namespace Go.Proofs.Ytdcjgeebkinjlaa.Cu
open Go.ChangeShapes Go.WideShapes Go.ChangeAt Go.RowKit
set_option linter.unusedVariables false

/-- Block g is a deck over the n numbers z. -/
structure Dk (w : World) (g : Nat) (p : Option Addr) (n c : Nat) (z : Nat → Int) : Prop where
  lt : g < w.heap.size
  list : w.cell? ⟨g, 0, none⟩ = some (.slice p n c)
  place : ∃ k : Nat, k ≤ n ∧ w.cell? ⟨g, 1, none⟩ = some (.int .i64 k)
  free : w.frozen? ⟨g, 1, none⟩ = false
  len : n ≤ 9223372036854775807
  read : 0 < n → ∃ b off, p = some ⟨b, off, none⟩ ∧ b < g ∧ ∀ i, i < n → w.cell? ⟨b, off + i, none⟩ = some (.int .i64 (z i))
  bd : ∀ i, -9223372036854775808 ≤ z i ∧ z i ≤ 9223372036854775807
theorem Dk.grown {w w' : World} {g : Nat} {p : Option Addr} {n c : Nat} {z : Nat → Int} (h : Dk w g p n c z) {r : Option Nat} (hg : w.grownBy w' r) (hr : some g ≠ r) (hr2 : ∀ k, r = some k → g ≤ k) : Dk w' g p n c z where
  lt := Nat.lt_of_lt_of_le h.lt hg.size
  list := hg.cell h.list hr
  place := by obtain ⟨k, hk, hc⟩ := h.place; exact ⟨k, hk, hg.cell hc hr⟩
  free := (World.frozen?_of_block (w := w) (a := ⟨g, 1, none⟩) (hg.block g h.lt hr)).trans h.free
  len := h.len
  read := fun hn => by
    obtain ⟨b, off, e, hb, hc⟩ := h.read hn
    exact ⟨b, off, e, hb, fun i hi => hg.cell (hc i hi) (fun e2 => by have := hr2 b e2.symm; omega)⟩
  bd := h.bd
theorem Dk.below {w w' : World} {g : Nat} {p : Option Addr} {n c : Nat} {z : Nat → Int} (h : Dk w g p n c z) {B : Nat} (hb : Below B w w') (hB : g < B) : Dk w' g p n c z where
  lt := Nat.lt_of_lt_of_le h.lt hb.size
  list := (hb.cell (p := ⟨g, 0, none⟩) hB).trans h.list
  place := by obtain ⟨k, hk, hc⟩ := h.place; exact ⟨k, hk, (hb.cell (p := ⟨g, 1, none⟩) hB).trans hc⟩
  free := (hb.frozen (p := ⟨g, 1, none⟩) hB).trans h.free
  len := h.len
  read := fun hn => by
    obtain ⟨b, off, e, hbg, hc⟩ := h.read hn
    exact ⟨b, off, e, hbg, fun i hi => (hb.cell (p := ⟨b, off + i, none⟩) (Nat.lt_trans hbg hB)).trans (hc i hi)⟩
  bd := h.bd
theorem Dk.alloc {w : World} {g : Nat} {p : Option Addr} {n c : Nat} {z : Nat → Int} (h : Dk w g p n c z) (o : Obj) : Dk (w.alloc o) g p n c z :=
  h.grown (World.grownBy_alloc w o none) (by simp) (by intro k hk; cases hk)

theorem dk_grown (w : World) (g q : Nat) (u : Value) : w.grownBy ((w.drewN q).setCell ⟨g, 1, none⟩ u) (some g) :=
  ⟨rfl, rfl, rfl, by simp [World.setCell], fun j hj hne => (Below.heap_setCell _ _ _ _ (by intro e; apply hne; rw [e])).trans rfl⟩
theorem Dk.step {w : World} {g b off : Nat} {n c k : Nat} {z : Nat → Int} (h : Dk w g (some ⟨b, off, none⟩) n c z) (q : Nat) (u : Int) (hk : k < n) (hb : b < g) (hu : u = (k : Int) + 1 := by rfl) : Dk ((w.drewN q).setCell ⟨g, 1, none⟩ (.int .i64 u)) g (some ⟨b, off, none⟩) n c z where
  lt := by simpa using h.lt
  list := (World.cell?_setCell_other _ _ _ _ (by intro e; simp only [Addr.mk.injEq] at e; omega)).trans h.list
  place := by
    obtain ⟨k0, _, h1⟩ := h.place
    exact ⟨k + 1, by omega, by rw [World.cell?_setCell_same _ _ _ (show (w.drewN q).cell? ⟨g, 1, none⟩ = _ from h1), hu]; rfl⟩
  free := by simpa using h.free
  len := h.len
  read := fun hn => by
    obtain ⟨b', off', e, hb', hc⟩ := h.read hn
    exact ⟨b', off', e, hb', fun i hi => (World.cell?_setCell_other _ _ _ _ (by intro e; simp only [Addr.mk.injEq] at e; omega)).trans (hc i hi)⟩
  bd := h.bd

def NxP (w : World) (g : Nat) (p : Option Addr) (n c : Nat) (z : Nat → Int) (nn : Int) (e : Ending) (w' : World) : Prop :=
  ∃ r : Int, e = .returned (.int .i64 r) ∧ 0 ≤ r ∧ (r < nn ∨ r = 0) ∧ Dk w' g p n c z ∧ w.grownBy w' (some g)

theorem new_any (p : Option Addr) (n c : Nat) (z : Nat → Int) (w : World) (hn : n ≤ 9223372036854775807) (hz : ∀ i, -9223372036854775808 ≤ z i ∧ z i ≤ 9223372036854775807)
    (hr : 0 < n → ∃ b off, p = some ⟨b, off, none⟩ ∧ b < w.heap.size ∧ ∀ i, i < n → w.cell? ⟨b, off + i, none⟩ = some (.int .i64 (z i))) :
    Calls Try.prog 8 #[.slice p n c] w fun e w' => e = .returned (.pointer (some ⟨w.heap.size, 0, none⟩)) ∧ Dk w' w.heap.size p n c z ∧ Below w.heap.size w w' := by
  have HR := Lib.hid hr
  clear hr
  go_enter Try.func8, Try.ntmps8
  go_wp2
  go_ret
  refine ⟨rfl, ⟨by simp, by simp, ⟨0, Nat.zero_le _, by simp⟩, by simp, hn, fun h => ?_, hz⟩, (Below.refl _ _).alloc (Nat.le_refl _) _⟩
  obtain ⟨b, off, e, hb, hc⟩ := HR.out h
  exact ⟨b, off, e, hb, fun i hi => ((Below.refl w.heap.size w).alloc (Nat.le_refl _) _ |>.cell (p := ⟨b, off + i, none⟩) hb).trans (hc i hi)⟩

set_option maxHeartbeats 800000 in
theorem next_none (g : Nat) (p : Option Addr) (n c : Nat) (z : Nat → Int) (nn : Int) (w : World) (hd : Dk w g p n c z) (hk : nn < 1) :
    Calls Try.prog 18 #[.pointer (some ⟨g, 0, none⟩), .int .i64 nn] w (NxP w g p n c z nn) := by
  have HD := Lib.hid hd
  have d1 : decide (nn < 1) = true := by rw [decide_eq_true_eq]; exact hk
  clear hd
  go_enter Try.func18, Try.ntmps18
  go_wp2
  go_quiet (fail)
  go_wp2
  go_ret
  exact ⟨0, rfl, Int.le_refl _, .inr rfl, HD.out.grown (grown_drewN w _ none) (by simp) (by intro k hk; cases hk), grown_drewN w _ _⟩

set_option maxHeartbeats 800000 in
theorem next_end (g : Nat) (p : Option Addr) (n c : Nat) (z : Nat → Int) (nn : Int) (w : World) (hd : Dk w g p n c z) (hk : 1 ≤ nn) (h1 : w.cell? ⟨g, 1, none⟩ = some (.int .i64 n)) :
    Calls Try.prog 18 #[.pointer (some ⟨g, 0, none⟩), .int .i64 nn] w (NxP w g p n c z nn) := by
  have HD := Lib.hid hd
  have d1 : decide (nn < 1) = false := by rw [decide_eq_false_iff_not]; omega
  have d2 : decide ((n : Int) ≤ (n : Int)) = true := by rw [decide_eq_true_eq]; exact Int.le_refl _
  have h0 := hd.list
  have hl := hd.len
  clear hd
  go_enter Try.func18, Try.ntmps18
  go_wp2
  go_quiet (fail)
  go_wp2
  go_ret
  exact ⟨0, rfl, Int.le_refl _, .inr rfl, HD.out.grown (grown_drewN w _ none) (by simp) (by intro k hk; cases hk), grown_drewN w _ _⟩

set_option maxHeartbeats 1600000 in
theorem next_more (g b off : Nat) (n c k : Nat) (z : Nat → Int) (nn : Int) (w : World) (hd : Dk w g (some ⟨b, off, none⟩) n c z) (hk : 1 ≤ nn) (hk2 : nn ≤ 4611686018427387904) (h1 : w.cell? ⟨g, 1, none⟩ = some (.int .i64 k)) (hkn : k < n)
    (hb : b < g) (hc : w.cell? ⟨b, off + k, none⟩ = some (.int .i64 (z k))) :
    Calls Try.prog 18 #[.pointer (some ⟨g, 0, none⟩), .int .i64 nn] w (NxP w g (some ⟨b, off, none⟩) n c z nn) := by
  have HD := Lib.hid hd
  have d1 : decide (nn < 1) = false := by rw [decide_eq_false_iff_not]; omega
  have d2 : decide ((n : Int) ≤ (k : Int)) = false := by rw [decide_eq_false_iff_not]; omega
  have h0 := hd.list
  have hl := hd.len
  have hf := hd.free
  have hlt := hd.lt
  have hz := hd.bd k
  have a1 := md_lo (z k) nn (by omega)
  have a2 := md_hi (z k) nn (by omega)
  have hki : (k : Int) < (n : Int) := by omega
  have HM := Lib.hid (fun W => mod_any (z k) nn W hz hk hk2)
  clear hd
  generalize md (z k) nn = r at *
  generalize z k = x at *
  go_enter Try.func18, Try.ntmps18
  go_wp2
  go_quiet (fail)
  go_wp2
  go_quiet (fail)
  go_wp2_with (go_at_call 9; refine (HM.out _).mono ?_; rintro e w' ⟨rfl, rfl⟩)
  go_ret
  exact ⟨r, rfl, a1, .inl a2, HD.out.step _ _ hkn hb, dk_grown _ _ _ _⟩

theorem next_any (g : Nat) (p : Option Addr) (n c : Nat) (z : Nat → Int) (nn : Int) (w : World) (hd : Dk w g p n c z) (hk2 : nn ≤ 4611686018427387904) :
    Calls Try.prog 18 #[.pointer (some ⟨g, 0, none⟩), .int .i64 nn] w (NxP w g p n c z nn) := by
  by_cases hk : nn < 1
  · exact next_none g p n c z nn w hd hk
  obtain ⟨k, hkn, h1⟩ := hd.place
  by_cases e : k = n
  · subst e; exact next_end g p k c z nn w hd (by omega) h1
  · obtain ⟨b, off, rfl, hb, hc⟩ := hd.read (by omega)
    exact next_more g b off n c k z nn w hd (by omega) hk2 h1 (by omega) hb (hc k (by omega))

/-- The points 0, .., m as Curve makes them. -/
structure Mk (X Y : Nat → Int) (m : Nat) (x y dx dy : Int) : Prop where
  x0 : X 0 = x
  y0 : Y 0 = y
  step : ∀ i, i < m → X i < X (i + 1) ∧ X (i + 1) ≤ X i + dx ∧ Y i ≤ Y (i + 1) ∧ Y (i + 1) ≤ Y i + dy
theorem Mk.hi {X Y : Nat → Int} {m : Nat} {x y dx dy : Int} (h : Mk X Y m x y dx dy) (hx : dx ≤ 50) (hy : dy ≤ 250) : ∀ i, i ≤ m → x ≤ X i ∧ X i ≤ x + 50 * i ∧ y ≤ Y i ∧ Y i ≤ y + 250 * i
  | 0, _ => by rw [h.x0, h.y0]; omega
  | i + 1, hi => by
    have h1 := h.hi hx hy i (by omega)
    have h2 := h.step i (by omega)
    omega
theorem Mk.hi2 {X Y : Nat → Int} {m : Nat} {x y dx dy : Int} (h : Mk X Y m x y dx dy) (hx : dx ≤ 1000) (hy : dy ≤ 1000) : ∀ i, i ≤ m → x ≤ X i ∧ X i ≤ x + 1000 * i ∧ y ≤ Y i ∧ Y i ≤ y + 1000 * i
  | 0, _ => by rw [h.x0, h.y0]; omega
  | i + 1, hi => by
    have h1 := h.hi2 hx hy i (by omega)
    have h2 := h.step i (by omega)
    omega
theorem Mk.next {X Y : Nat → Int} {m : Nat} {x y dx dy x' y' : Int} (h : Mk X Y m x y dx dy) (h1 : X m < x') (h2 : x' ≤ X m + dx) (h3 : Y m ≤ y') (h4 : y' ≤ Y m + dy) : Mk (updF X (m + 1) x') (updF Y (m + 1) y') (m + 1) x y dx dy where
  x0 := by rw [updF_other _ _ (by omega)]; exact h.x0
  y0 := by rw [updF_other _ _ (by omega)]; exact h.y0
  step := fun i hi => by
    rw [updF_other X _ (show i ≠ m + 1 by omega), updF_other Y _ (show i ≠ m + 1 by omega)]
    by_cases e : i = m
    · subst e; rw [updF_same, updF_same]; exact ⟨h1, h2, h3, h4⟩
    · rw [updF_other X _ (show i + 1 ≠ m + 1 by omega), updF_other Y _ (show i + 1 ≠ m + 1 by omega)]
      exact h.step i (by omega)
theorem Mk.cur {X Y : Nat → Int} {m : Nat} {x y dx dy : Int} (h : Mk X Y m x y dx dy) (hx : dx ≤ 50) (hy : dy ≤ 250) (hm : m ≤ 4) (x0 : 0 ≤ x ∧ x ≤ 1000) (y0 : 0 ≤ y ∧ y ≤ 1000) : Cur X Y m where
  len := by omega
  xlo := fun i hi => by have := h.hi hx hy i hi; omega
  xhi := fun i hi => by have := h.hi hx hy i hi; omega
  ylo := fun i hi => by have := h.hi hx hy i hi; omega
  yhi := fun i hi => by have := h.hi hx hy i hi; omega
  asc := fun i hi => by have := h.step i hi; omega
  prod := fun i hi => by
    have h1 := h.step i hi
    have h2 := mul_bd (a := X (i + 1) - X i) (num := Y (i + 1) - Y i) (A := 50) (B := 250) (by omega) (by omega) (by omega) (by omega)
    omega

theorem Mk.cur2 {X Y : Nat → Int} {m : Nat} {x y dx dy : Int} (h : Mk X Y m x y dx dy) (hx : dx ≤ 1000) (hy : dy ≤ 1000) (hm : m ≤ 4) (x0 : 0 ≤ x ∧ x ≤ 1000) (y0 : 0 ≤ y ∧ y ≤ 1000) : Cur X Y m where
  len := by omega
  xlo := fun i hi => by have := h.hi2 hx hy i hi; omega
  xhi := fun i hi => by have := h.hi2 hx hy i hi; omega
  ylo := fun i hi => by have := h.hi2 hx hy i hi; omega
  yhi := fun i hi => by have := h.hi2 hx hy i hi; omega
  asc := fun i hi => by have := h.step i hi; omega
  prod := fun i hi => by
    have h1 := h.step i hi
    have h2 := mul_bd (a := X (i + 1) - X i) (num := Y (i + 1) - Y i) (A := 1000) (B := 1000) (by omega) (by omega) (by omega) (by omega)
    omega
/-- What Curve returns. -/
def CvP (w : World) (g : Nat) (p : Option Addr) (n c : Nat) (z : Nat → Int) (x y dx dy : Int) (e : Ending) (w' : World) : Prop :=
  ∃ (v : Value) (m : Nat) (X Y : Nat → Int), e = .returned v ∧ 1 ≤ m ∧ m ≤ 4 ∧ GotP w' w.heap.size v (m + 1) X Y ∧ Mk X Y m x y dx dy ∧ Dk w' g p n c z ∧ w.grownBy w' (some g)

set_option maxHeartbeats 4000000 in
theorem curve_any (g : Nat) (p : Option Addr) (n c : Nat) (z : Nat → Int) (x y dx dy : Int) (st : Bool) (w : World) (hd : Dk w g p n c z) (hx : 0 ≤ x ∧ x ≤ 1000) (hy : 0 ≤ y ∧ y ≤ 1000) (hdx : 1 ≤ dx ∧ dx ≤ 1000) (hdy : 1 ≤ dy ∧ dy ≤ 1000) :
    Calls Try.prog 17 #[.pointer (some ⟨g, 0, none⟩), .int .i64 x, .int .i64 y, .int .i64 dx, .int .i64 dy, .bool st] w (CvP w g p n c z x y dx dy) := by
  obtain ⟨i0, hi, hz0, hz1, hz2⟩ := info_parts Try.infoP
  have HD := Lib.hid hd
  have hgl := hd.lt
  clear hd
  cases st
  all_goals
    go_enter Try.func17, Try.ntmps17
    go_wp2_with (go_at_call 18; refine (next_any g p n c z _ _ (HD.out.alloc _) (by omega)).mono ?_; rintro e w1 ⟨r, rfl, hr1, hr2, hd1, hg1⟩)
    have hsz := hg1.size
    rw [World.size_alloc] at hsz
    have hG0 : GotP w1 w.heap.size (.slice (some ⟨w.heap.size, 0, none⟩) 1 1) 1 (fun _ => x) (fun _ => y) :=
      (World.ownsRow_lit w #[Value.int .i64 x, Value.int .i64 y] 1 (Nat.le_refl _) (by unfold maxLen; omega) rfl).kept hg1 (.inr (by intro e; simp only [Value.ownBlock, Option.some.injEq] at e; omega))
    have HG := Lib.hid hG0
    have HD1 := Lib.hid hd1
    have HB := Lib.hid (grown_trans (World.grownBy_alloc w _ (some g)) hg1)
    have HM := Lib.hid (show Mk (fun _ => x) (fun _ => y) 0 x y dx dy from ⟨rfl, rfl, fun i hi => absurd hi (Nat.not_lt_zero _)⟩)
    clear hG0 hd1 hg1
    go_loopw [1, 2, 14, 15] (fun s1 s2 v k wr => ∃ (j kk : Nat) (X Y : Nat → Int) (V : Value), V = v ∧ 1 ≤ j + kk ∧ j + kk ≤ 4 ∧ k = .int .i64 kk ∧ s1 = .int .i64 (X j) ∧ s2 = .int .i64 (Y j) ∧ Hid (GotP wr w.heap.size v (j + 1) X Y) ∧ Hid (Mk X Y j x y dx dy) ∧ Hid (Dk wr g p n c z) ∧ Hid (w.grownBy wr (some g))) (fun _ _ _ k _ => (intOf k).toNat)
    case atStart => exact ⟨0, (1 + r).toNat, fun _ => x, fun _ => y, _, rfl, by omega, by omega, by rw [Int.toNat_of_nonneg (by omega)], rfl, rfl, HG, HM, HD1, HB⟩
    case round =>
      clear hsz HG HM HD1 HB HD hr1 hr2
      obtain ⟨j, kk, X, Y, v, rfl, h1, h4, rfl, rfl, rfl, hgot, hmk, hdk, hgr⟩ := hrel
      obtain ⟨bx1, bx2, by1, by2⟩ := hmk.out.hi2 (by omega) (by omega) j (Nat.le_refl _)
      have hj4 : (j : Int) ≤ 4 := by omega
      by_cases hk : 0 < kk
      · have hk' : (0 : Int) < (kk : Int) := by omega
        have HX := Lib.hid (fun x' y' a1 a2 a3 a4 => hmk.out.next (x' := x') (y' := y') a1 a2 a3 a4)
        clear hmk
        generalize hXj : X j = xj at *
        generalize hYj : Y j = yj at *
        have HXJ := Lib.hid hXj
        have HYJ := Lib.hid hYj
        clear hXj hYj
        have HGL : Hid (∀ k, Value.ownBlock v = some k → k ≠ g) := fun k hk => by have := gotP_block hgot.out k hk; omega
        have hne : Hid (v.ownBlock = none ∨ v.ownBlock ≠ some g) := .inr fun e => HGL.out g e rfl
        have hws := hgr.out.size
        go_wp2_with (first | (go_at_call 18; first | (refine (next_any g p n c z _ _ hdk.out (by omega)).mono ?_; rintro e w1 ⟨r1, rfl, r11, r12, hd1, hg1⟩) | (refine (next_any g p n c z _ _ hd1 (by omega)).mono ?_; rintro e w2 ⟨r2, rfl, r21, r22, hd2, hg2⟩)) | (at_builtin; refine wpList_append_own _ rfl _ _ 23 rfl w.heap.size 44 i0 (.agg #[.int .i64 0, .int .i64 0]) 2 16 Try.underlying23 hi hz0 hz1 hz2 rfl (by decide) _ (j + 1) _ rfl (((hgot.out.kept hg1 hne.out).kept hg2 hne.out).alloc _) ⟨w2.heap.size, 0, none⟩ 1 1 [.int .i64 (xj + 1 + r1), .int .i64 _] rfl rfl (cell_two _ _ _ _) ?c2 ?c3 ?c4 ?c5 ?_))
        case c2 => intro u hu; simp at hu; rcases hu with rfl | rfl <;> rfl
        case c3 => unfold maxLen; omega
        case c4 => omega
        case c5 => have h1 := hg1.size; have h2 := hg2.size; simp; omega
        intro v' w3 hown' hgrow hnil
        have HG' := Lib.hid (gotP_next hown')
        have HD' := Lib.hid ((hd2.alloc _).grown hgrow (fun e => HGL.out g e.symm rfl) (fun k hk => by have := gotP_block hgot.out k hk; omega))
        have HGR' := Lib.hid (grown_own (grown_trans (grown_trans (grown_trans hgr.out hg1) hg2) (World.grownBy_alloc w2 _ (some g))) hgrow (fun k hk => gotP_block hgot.out k hk))
        clear hown' hgrow hnil hd1 hd2 hg1 hg2 hgot hdk hgr
        go_wp2
        go_roundw
        case rel => exact ⟨j + 1, kk - 1, _, _, _, rfl, by omega, by omega, by rw [show (kk : Int) - 1 = ((kk - 1 : Nat) : Int) by omega], by rw [updF_same], by rw [updF_same], HG', HX.out _ _ (by omega) (by omega) (by omega) (by omega), HD', HGR'⟩
        case measure => simp [intOf]; omega
      · obtain rfl : kk = 0 := by omega
        go_wp2
        go_ret
        exact ⟨_, j, X, Y, rfl, by omega, by omega, hgot.out, hmk.out, hdk.out, hgr.out⟩
end Go.Proofs.Ytdcjgeebkinjlaa.Cu

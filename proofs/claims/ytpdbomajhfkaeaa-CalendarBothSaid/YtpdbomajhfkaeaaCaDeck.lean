/-
  Contracts of the deck of numbers: New, Next, and Span, which makes a span of days.
-/
import Derived.Test.YtpdbomajhfkaeaaCaLst
import Derived.Deep.DeepCutAuto
import Derived.Deep.CutBlock
namespace Go.Proofs.Ytpdbomajhfkaeaa.Ca
open Go.ChangeShapes Go.WideShapes Go.ChangeAt Go.RowKit
set_option linter.unusedVariables false

theorem grown_refl (w : World) (r : Option Nat) : w.grownBy w r := ⟨rfl, rfl, rfl, Nat.le_refl _, fun _ _ _ => rfl⟩
theorem grown_trans {a b c : World} {r : Option Nat} (h : a.grownBy b r) (h2 : b.grownBy c r) : a.grownBy c r :=
  ⟨h2.os.trans h.os, h2.tape.trans h.tape, h2.output.trans h.output, Nat.le_trans h.size h2.size, fun k hk hr => (h2.block k (Nat.lt_of_lt_of_le hk h.size) hr).trans (h.block k hk hr)⟩
/-- A step that turns a row of the call's own only. -/
theorem grown_own {a b c : World} {r r2 : Option Nat} (h : a.grownBy b r) (h2 : b.grownBy c r2) (hr : ∀ k, r2 = some k → a.heap.size ≤ k) : a.grownBy c r :=
  ⟨h2.os.trans h.os, h2.tape.trans h.tape, h2.output.trans h.output, Nat.le_trans h.size h2.size, fun k hk hne => (h2.block k (Nat.lt_of_lt_of_le hk h.size) (fun e => by have := hr k e.symm; omega)).trans (h.block k hk hne)⟩
theorem grown_drewN (w : World) (q : Nat) (r : Option Nat) : w.grownBy (w.drewN q) r := ⟨rfl, rfl, rfl, Nat.le_refl _, fun _ _ _ => rfl⟩
/-- Block g is a deck over the n numbers z. -/
structure Dk (w : World) (g : Nat) (p : Option Addr) (n c : Nat) (z : Nat → Int) : Prop where
  lt : g < w.heap.size
  list : w.cell? ⟨g, 0, none⟩ = some (.slice p n c)
  place : ∃ k : Nat, k ≤ n ∧ w.cell? ⟨g, 1, none⟩ = some (.int .i64 k)
  free : w.frozen? ⟨g, 1, none⟩ = false
  len : n ≤ 9223372036854775807
  read : 0 < n → ∃ b off, p = some ⟨b, off, none⟩ ∧ b < g ∧ ∀ i, i < n → w.cell? ⟨b, off + i, none⟩ = some (.int .i64 (z i))
  bd : ∀ i, -9223372036854775808 ≤ z i ∧ z i ≤ 9223372036854775807
theorem Dk.grown {w w' : World} {g : Nat} {p : Option Addr} {n c : Nat} {z : Nat → Int} (h : Dk w g p n c z) {r : Option Nat} (hg : w.grownBy w' r) (hr : some g ≠ r) (hr2 : ∀ k, r = some k → g ≤ k) : Dk w' g p n c z where
  lt := Nat.lt_of_lt_of_le h.lt hg.size
  list := hg.cell h.list hr
  place := by obtain ⟨k, hk, hc⟩ := h.place; exact ⟨k, hk, hg.cell hc hr⟩
  free := (World.frozen?_of_block (w := w) (a := ⟨g, 1, none⟩) (hg.block g h.lt hr)).trans h.free
  len := h.len
  read := fun hn => by
    obtain ⟨b, off, e, hb, hc⟩ := h.read hn
    exact ⟨b, off, e, hb, fun i hi => hg.cell (hc i hi) (fun e2 => by have := hr2 b e2.symm; omega)⟩
  bd := h.bd
theorem Dk.below {w w' : World} {g : Nat} {p : Option Addr} {n c : Nat} {z : Nat → Int} (h : Dk w g p n c z) {B : Nat} (hb : Below B w w') (hB : g < B) : Dk w' g p n c z where
  lt := Nat.lt_of_lt_of_le h.lt hb.size
  list := (hb.cell (p := ⟨g, 0, none⟩) hB).trans h.list
  place := by obtain ⟨k, hk, hc⟩ := h.place; exact ⟨k, hk, (hb.cell (p := ⟨g, 1, none⟩) hB).trans hc⟩
  free := (hb.frozen (p := ⟨g, 1, none⟩) hB).trans h.free
  len := h.len
  read := fun hn => by
    obtain ⟨b, off, e, hbg, hc⟩ := h.read hn
    exact ⟨b, off, e, hbg, fun i hi => (hb.cell (p := ⟨b, off + i, none⟩) (Nat.lt_trans hbg hB)).trans (hc i hi)⟩
  bd := h.bd
theorem Dk.alloc {w : World} {g : Nat} {p : Option Addr} {n c : Nat} {z : Nat → Int} (h : Dk w g p n c z) (o : Obj) : Dk (w.alloc o) g p n c z :=
  h.grown (World.grownBy_alloc w o none) (by simp) (by intro k hk; cases hk)

theorem dk_grown (w : World) (g q : Nat) (u : Value) : w.grownBy ((w.drewN q).setCell ⟨g, 1, none⟩ u) (some g) :=
  ⟨rfl, rfl, rfl, by simp [World.setCell], fun j hj hne => (Below.heap_setCell _ _ _ _ (by intro e; apply hne; rw [e])).trans rfl⟩
theorem Dk.step {w : World} {g b off : Nat} {n c k : Nat} {z : Nat → Int} (h : Dk w g (some ⟨b, off, none⟩) n c z) (q : Nat) (u : Int) (hk : k < n) (hb : b < g) (hu : u = (k : Int) + 1 := by rfl) : Dk ((w.drewN q).setCell ⟨g, 1, none⟩ (.int .i64 u)) g (some ⟨b, off, none⟩) n c z where
  lt := by simpa using h.lt
  list := (World.cell?_setCell_other _ _ _ _ (by intro e; simp only [Addr.mk.injEq] at e; omega)).trans h.list
  place := by
    obtain ⟨k0, _, h1⟩ := h.place
    exact ⟨k + 1, by omega, by rw [World.cell?_setCell_same _ _ _ (show (w.drewN q).cell? ⟨g, 1, none⟩ = _ from h1), hu]; rfl⟩
  free := by simpa using h.free
  len := h.len
  read := fun hn => by
    obtain ⟨b', off', e, hb', hc⟩ := h.read hn
    exact ⟨b', off', e, hb', fun i hi => (World.cell?_setCell_other _ _ _ _ (by intro e; simp only [Addr.mk.injEq] at e; omega)).trans (hc i hi)⟩
  bd := h.bd

def NxP (w : World) (g : Nat) (p : Option Addr) (n c : Nat) (z : Nat → Int) (nn : Int) (e : Ending) (w' : World) : Prop :=
  ∃ r : Int, e = .returned (.int .i64 r) ∧ 0 ≤ r ∧ (r < nn ∨ r = 0) ∧ Dk w' g p n c z ∧ w.grownBy w' (some g)

theorem new_any (p : Option Addr) (n c : Nat) (z : Nat → Int) (w : World) (hn : n ≤ 9223372036854775807) (hz : ∀ i, -9223372036854775808 ≤ z i ∧ z i ≤ 9223372036854775807)
    (hr : 0 < n → ∃ b off, p = some ⟨b, off, none⟩ ∧ b < w.heap.size ∧ ∀ i, i < n → w.cell? ⟨b, off + i, none⟩ = some (.int .i64 (z i))) :
    Calls Try.prog 25 #[.slice p n c] w fun e w' => e = .returned (.pointer (some ⟨w.heap.size, 0, none⟩)) ∧ Dk w' w.heap.size p n c z ∧ Below w.heap.size w w' := by
  have HR := Lib.hid hr
  clear hr
  go_enter Try.func25, Try.ntmps25
  go_wp2
  go_ret
  refine ⟨rfl, ⟨by simp, by simp, ⟨0, Nat.zero_le _, by simp⟩, by simp, hn, fun h => ?_, hz⟩, (Below.refl _ _).alloc (Nat.le_refl _) _⟩
  obtain ⟨b, off, e, hb, hc⟩ := HR.out h
  exact ⟨b, off, e, hb, fun i hi => ((Below.refl w.heap.size w).alloc (Nat.le_refl _) _ |>.cell (p := ⟨b, off + i, none⟩) hb).trans (hc i hi)⟩

set_option maxHeartbeats 800000 in
theorem next_none (g : Nat) (p : Option Addr) (n c : Nat) (z : Nat → Int) (nn : Int) (w : World) (hd : Dk w g p n c z) (hk : nn < 1) :
    Calls Try.prog 31 #[.pointer (some ⟨g, 0, none⟩), .int .i64 nn] w (NxP w g p n c z nn) := by
  have HD := Lib.hid hd
  have d1 : decide (nn < 1) = true := by rw [decide_eq_true_eq]; exact hk
  clear hd
  go_enter Try.func31, Try.ntmps31
  go_wp2
  go_quiet (fail)
  go_wp2
  go_ret
  exact ⟨0, rfl, Int.le_refl _, .inr rfl, HD.out.grown (grown_drewN w _ none) (by simp) (by intro k hk; cases hk), grown_drewN w _ _⟩

set_option maxHeartbeats 800000 in
theorem next_end (g : Nat) (p : Option Addr) (n c : Nat) (z : Nat → Int) (nn : Int) (w : World) (hd : Dk w g p n c z) (hk : 1 ≤ nn) (h1 : w.cell? ⟨g, 1, none⟩ = some (.int .i64 n)) :
    Calls Try.prog 31 #[.pointer (some ⟨g, 0, none⟩), .int .i64 nn] w (NxP w g p n c z nn) := by
  have HD := Lib.hid hd
  have d1 : decide (nn < 1) = false := by rw [decide_eq_false_iff_not]; omega
  have d2 : decide ((n : Int) ≤ (n : Int)) = true := by rw [decide_eq_true_eq]; exact Int.le_refl _
  have h0 := hd.list
  have hl := hd.len
  clear hd
  go_enter Try.func31, Try.ntmps31
  go_wp2
  go_quiet (fail)
  go_wp2
  go_ret
  exact ⟨0, rfl, Int.le_refl _, .inr rfl, HD.out.grown (grown_drewN w _ none) (by simp) (by intro k hk; cases hk), grown_drewN w _ _⟩

set_option maxHeartbeats 1600000 in
theorem next_more (g b off : Nat) (n c k : Nat) (z : Nat → Int) (nn : Int) (w : World) (hd : Dk w g (some ⟨b, off, none⟩) n c z) (hk : 1 ≤ nn) (hk2 : nn ≤ 4611686018427387904) (h1 : w.cell? ⟨g, 1, none⟩ = some (.int .i64 k)) (hkn : k < n)
    (hb : b < g) (hc : w.cell? ⟨b, off + k, none⟩ = some (.int .i64 (z k))) :
    Calls Try.prog 31 #[.pointer (some ⟨g, 0, none⟩), .int .i64 nn] w (NxP w g (some ⟨b, off, none⟩) n c z nn) := by
  have HD := Lib.hid hd
  have d1 : decide (nn < 1) = false := by rw [decide_eq_false_iff_not]; omega
  have d2 : decide ((n : Int) ≤ (k : Int)) = false := by rw [decide_eq_false_iff_not]; omega
  have h0 := hd.list
  have hl := hd.len
  have hf := hd.free
  have hlt := hd.lt
  have hz := hd.bd k
  have a1 := md_lo (z k) nn (by omega)
  have a2 := md_hi (z k) nn (by omega)
  have hki : (k : Int) < (n : Int) := by omega
  have HM := Lib.hid (fun W => mod_any (z k) nn W hz hk hk2)
  clear hd
  generalize md (z k) nn = r at *
  generalize z k = x at *
  go_enter Try.func31, Try.ntmps31
  go_wp2
  go_quiet (fail)
  go_wp2
  go_quiet (fail)
  go_wp2_with (go_at_call 8; refine (HM.out _).mono ?_; rintro e w' ⟨rfl, rfl⟩)
  go_ret
  exact ⟨r, rfl, a1, .inl a2, HD.out.step _ _ hkn hb, dk_grown _ _ _ _⟩

theorem next_any (g : Nat) (p : Option Addr) (n c : Nat) (z : Nat → Int) (nn : Int) (w : World) (hd : Dk w g p n c z) (hk2 : nn ≤ 4611686018427387904) :
    Calls Try.prog 31 #[.pointer (some ⟨g, 0, none⟩), .int .i64 nn] w (NxP w g p n c z nn) := by
  by_cases hk : nn < 1
  · exact next_none g p n c z nn w hd hk
  obtain ⟨k, hkn, h1⟩ := hd.place
  by_cases e : k = n
  · subst e; exact next_end g p k c z nn w hd (by omega) h1
  · obtain ⟨b, off, rfl, hb, hc⟩ := hd.read (by omega)
    exact next_more g b off n c k z nn w hd (by omega) hk2 h1 (by omega) hb (hc k (by omega))


/-- A box of the call's own with two numbers. -/
structure Zb (w : World) (k : Nat) : Prop where
  c0 : w.cell? ⟨k, 0, none⟩ = some (.int .i64 0)
  c1 : w.cell? ⟨k, 1, none⟩ = some (.int .i64 0)
  f0 : w.frozen? ⟨k, 0, none⟩ = false
  f1 : w.frozen? ⟨k, 1, none⟩ = false
theorem Zb.grown {w w' : World} {k : Nat} {r : Option Nat} (h : Zb w k) (hg : w.grownBy w' r) (hr : some k ≠ r) : Zb w' k where
  c0 := hg.cell h.c0 hr
  c1 := hg.cell h.c1 hr
  f0 := (World.frozen?_of_block (w := w) (a := ⟨k, 0, none⟩) (hg.block k (World.block_lt_of_cell? _ _ h.c0) hr)).trans h.f0
  f1 := (World.frozen?_of_block (w := w) (a := ⟨k, 1, none⟩) (hg.block k (World.block_lt_of_cell? _ _ h.c0) hr)).trans h.f1
theorem zb_alloc (w : World) (t : TypeId) : Zb (w.alloc (.cells #[.int .i64 0, .int .i64 0] t)) w.heap.size := ⟨by simp, by simp, by simp, by simp⟩
theorem set_grown (w : World) (k i : Nat) (u : Value) : w.grownBy (w.setCell ⟨k, i, none⟩ u) (some k) :=
  ⟨rfl, rfl, rfl, by simp [World.setCell], fun j hj hne => Below.heap_setCell _ _ _ _ (by intro e; apply hne; rw [e])⟩
theorem set_two (w : World) (k : Nat) (u v : Value) : w.grownBy ((w.setCell ⟨k, 0, none⟩ u).setCell ⟨k, 1, none⟩ v) (some k) :=
  grown_trans (set_grown w k 0 u) (set_grown _ k 1 v)

/-- What Span returns. -/
def SpP (w : World) (g : Nat) (p : Option Addr) (n c : Nat) (z : Nat → Int) (e : Ending) (w' : World) : Prop :=
  ∃ F T : Int, e = .returned (.agg #[.int .i64 F, .int .i64 T]) ∧ Dk w' g p n c z ∧ w.grownBy w' (some g)

set_option maxHeartbeats 1600000 in
theorem span_any (g : Nat) (p : Option Addr) (n c : Nat) (z : Nat → Int) (w : World) (hd : Dk w g p n c z) :
    Calls Try.prog 26 #[.pointer (some ⟨g, 0, none⟩)] w (SpP w g p n c z) := by
  have HD := Lib.hid hd
  have hgl := hd.lt
  clear hd
  go_enter Try.func26, Try.ntmps26
  have HZ := Lib.hid (zb_alloc w 23)
  have HG := Lib.hid (World.grownBy_alloc w (.cells #[.int .i64 0, .int .i64 0] 23) (some g))
  replace HD := Lib.hid (HD.out.alloc (.cells #[.int .i64 0, .int .i64 0] 23))
  go_upto_block 0 with (first | (go_at_call 31; first | (refine (next_any g p n c z _ _ HD.out (by omega)).mono ?_; rintro e w1 ⟨r, rfl, hr1, hr2, hd1, hg1⟩; have HD1 := Lib.hid hd1; have HZ1 := Lib.hid (HZ.out.grown hg1 (by simp; omega)); have HG1 := Lib.hid (grown_trans HG.out hg1); obtain ⟨c0, c1, f0, f1⟩ := HZ1.out; clear HD HZ HG hd1 hg1) | (refine (next_any g p n c z _ _ HD1.out (by omega)).mono ?_; rintro e w2 ⟨q, rfl, hq1, hq2, hd2, hg2⟩; have HD2 := Lib.hid hd2; have HZ2 := Lib.hid (HZ1.out.grown hg2 (by simp; omega)); have HG2 := Lib.hid (grown_trans HG1.out hg2); obtain ⟨c0, c1, f0, f1⟩ := HZ2.out; clear HD1 HZ1 HG1 hd2 hg2) | (refine (next_any g p n c z _ _ HD2.out (by omega)).mono ?_; rintro e w3 ⟨q3, rfl, hq3, hq4, hd3, hg3⟩; have HD3 := Lib.hid hd3; have HZ3 := Lib.hid (HZ2.out.grown hg3 (by simp; omega)); have HG3 := Lib.hid (grown_trans HG2.out hg3); obtain ⟨c0, c1, f0, f1⟩ := HZ3.out; clear HD2 HZ2 HG2 hd3 hg3)))
  by_cases e0 : r = 0
  · subst e0
    go_wp2
    exact bodyPost_ret (v := .agg #[.int .i64 0, .int .i64 364]) (by simp [results, Try.results26, go_sem, c0, c1]) rfl ⟨_, _, rfl, HD1.out.grown (set_two _ _ _ _) (by simp; omega) (by intro k hk; cases hk; omega), grown_own HG1.out (set_two _ _ _ _) (by intro k hk; cases hk; omega)⟩

  have d0 : (r == 0) = false := by simpa using e0
  by_cases e1 : r = 1
  · subst e1
    go_wp2_with (first | (go_at_call 31; first | (refine (next_any g p n c z _ _ HD.out (by omega)).mono ?_; rintro e w1 ⟨r, rfl, hr1, hr2, hd1, hg1⟩; have HD1 := Lib.hid hd1; have HZ1 := Lib.hid (HZ.out.grown hg1 (by simp; omega)); have HG1 := Lib.hid (grown_trans HG.out hg1); obtain ⟨c0, c1, f0, f1⟩ := HZ1.out; clear HD HZ HG hd1 hg1) | (refine (next_any g p n c z _ _ HD1.out (by omega)).mono ?_; rintro e w2 ⟨q, rfl, hq1, hq2, hd2, hg2⟩; have HD2 := Lib.hid hd2; have HZ2 := Lib.hid (HZ1.out.grown hg2 (by simp; omega)); have HG2 := Lib.hid (grown_trans HG1.out hg2); obtain ⟨c0, c1, f0, f1⟩ := HZ2.out; clear HD1 HZ1 HG1 hd2 hg2) | (refine (next_any g p n c z _ _ HD2.out (by omega)).mono ?_; rintro e w3 ⟨q3, rfl, hq3, hq4, hd3, hg3⟩; have HD3 := Lib.hid hd3; have HZ3 := Lib.hid (HZ2.out.grown hg3 (by simp; omega)); have HG3 := Lib.hid (grown_trans HG2.out hg3); obtain ⟨c0, c1, f0, f1⟩ := HZ3.out; clear HD2 HZ2 HG2 hd3 hg3)))
    exact bodyPost_ret (v := .agg #[.int .i64 q, .int .i64 q3]) (by simp [results, Try.results26, go_sem, c0, c1]) rfl ⟨_, _, rfl, HD3.out.grown (set_two _ _ _ _) (by simp; omega) (by intro k hk; cases hk; omega), grown_own HG3.out (set_two _ _ _ _) (by intro k hk; cases hk; omega)⟩

  · have d1 : (r == 1) = false := by simpa using e1
    go_wp2_with (first | (go_at_call 31; first | (refine (next_any g p n c z _ _ HD.out (by omega)).mono ?_; rintro e w1 ⟨r, rfl, hr1, hr2, hd1, hg1⟩; have HD1 := Lib.hid hd1; have HZ1 := Lib.hid (HZ.out.grown hg1 (by simp; omega)); have HG1 := Lib.hid (grown_trans HG.out hg1); obtain ⟨c0, c1, f0, f1⟩ := HZ1.out; clear HD HZ HG hd1 hg1) | (refine (next_any g p n c z _ _ HD1.out (by omega)).mono ?_; rintro e w2 ⟨q, rfl, hq1, hq2, hd2, hg2⟩; have HD2 := Lib.hid hd2; have HZ2 := Lib.hid (HZ1.out.grown hg2 (by simp; omega)); have HG2 := Lib.hid (grown_trans HG1.out hg2); obtain ⟨c0, c1, f0, f1⟩ := HZ2.out; clear HD1 HZ1 HG1 hd2 hg2) | (refine (next_any g p n c z _ _ HD2.out (by omega)).mono ?_; rintro e w3 ⟨q3, rfl, hq3, hq4, hd3, hg3⟩; have HD3 := Lib.hid hd3; have HZ3 := Lib.hid (HZ2.out.grown hg3 (by simp; omega)); have HG3 := Lib.hid (grown_trans HG2.out hg3); obtain ⟨c0, c1, f0, f1⟩ := HZ3.out; clear HD2 HZ2 HG2 hd3 hg3)))
    exact bodyPost_ret (v := .agg #[.int .i64 q, .int .i64 q3]) (by simp [results, Try.results26, go_sem, c0, c1]) rfl ⟨_, _, rfl, HD3.out.grown (set_two _ _ _ _) (by simp; omega) (by intro k hk; cases hk; omega), grown_own HG3.out (set_two _ _ _ _) (by intro k hk; cases hk; omega)⟩

end Go.Proofs.Ytpdbomajhfkaeaa.Ca

/-
  The contract of levelOn: the level of a day of a valid rule curve.
-/
import Derived.Test.YtdblppbjlgmccaaRuTur
import Derived.Test.YtdblppbjlgmccaaStRes
namespace Go.Proofs.Ytdblppbjlgmccaa.Ru
open Go.ChangeShapes Go.WideShapes Go.ChangeAt Go.RowKit
open Go.Proofs.Ytdblppbjlgmccaa.Cu
set_option linter.unusedVariables false

theorem bel_set {B : Nat} {a w : World} (h : Below B a w) (hB : B ≤ a.heap.size) (ad : Addr) (v : Value) (had : B ≤ ad.block) : Below B a (w.setCell ad v) :=
  h.grown (set_grown w ad v) (Nat.le_trans hB h.size) (by intro k hk; cases hk; exact had)

/-- What is asked of turnedBehind: its last point and its first. -/
def TuQ (xa ya xb yb : Int) (n m : Nat) (w : World) (e : Ending) (w' : World) : Prop :=
  ∃ (b2 o2 c2 : Nat), e = .returned (.slice (some ⟨b2, o2, none⟩) n c2) ∧ w'.cell? ⟨b2, o2 + m * 2, none⟩ = some (.int .i64 xa) ∧ w'.cell? ⟨b2, o2 + m * 2 + 1, none⟩ = some (.int .i64 ya) ∧ w'.cell? ⟨b2, o2, none⟩ = some (.int .i64 xb) ∧ w'.cell? ⟨b2, o2 + 1, none⟩ = some (.int .i64 yb) ∧ Below w.heap.size w w'

/-- The two points between which a day lies: their days, counted on, their levels, the day. -/
structure Tw (X Y : Nat → Int) (n k : Nat) (x xa ya xb yb xb' d' : Int) : Prop where
  ea : xa = X ((k + (n - 1)) % n) ∧ ya = Y ((k + (n - 1)) % n)
  eb : xb = X (k % n) ∧ yb = Y (k % n)
  up : (xb ≤ xa ∧ xb' = xb + 365) ∨ (¬ xb ≤ xa ∧ xb' = xb)
  on : (x < xa ∧ d' = x + 365) ∨ (¬ x < xa ∧ d' = x)
  ba : 0 ≤ xa ∧ xa ≤ 364 ∧ 0 ≤ ya ∧ ya ≤ 16777216
  bb : 0 ≤ xb ∧ xb ≤ 364 ∧ 0 ≤ yb ∧ yb ≤ 16777216
  lo : xa ≤ d'
  hi : d' < xb'
  val : rl X Y n x = (ya * (xb' - d') + yb * (d' - xa)) / (xb' - xa)
theorem tw_of {X Y : Nat → Int} {n : Nat} (hr : Rc X Y n) (x : Int) (x0 : 0 ≤ x) (x1 : x ≤ 364) : ∃ xa ya xb yb xb' d', Tw X Y n (cnR X n x) x xa ya xb yb xb' d' := by
  obtain ⟨f1, f2, f3⟩ := cnR_facts hr x
  generalize cnR X n x = k at *
  have hn := hr.pos
  have en : n - 1 + 1 = n := by omega
  have pn := px_n X n hn
  have yn := py_n Y n
  by_cases h0 : k = 0
  · subst h0
    have e1 : (0 + (n - 1)) % n = n - 1 := by rw [Nat.zero_add]; exact Nat.mod_eq_of_lt (by omega)
    have e2 : 0 % n = 0 := Nat.zero_mod n
    have z := f3 0 (by omega) (by omega)
    have ed : dn X x = x + 365 := by unfold dn; rw [if_pos z]
    have b0 := hr.xlo 0 (by omega)
    have b1 := hr.xhi 0 (by omega)
    have c0 := hr.xlo (n - 1) (by omega)
    have c1 := hr.xhi (n - 1) (by omega)
    have l := hr.xle (n - 1) 0 (by omega) (by omega)
    refine ⟨X (n - 1), Y (n - 1), X 0, Y 0, X 0 + 365, x + 365, ⟨by rw [e1]; exact ⟨rfl, rfl⟩, by rw [e2]; exact ⟨rfl, rfl⟩, .inl ⟨l, rfl⟩, .inl ⟨by omega, rfl⟩, ⟨c0, c1, hr.ylo _ (by omega), hr.yhi _ (by omega)⟩, ⟨b0, b1, hr.ylo _ (by omega), hr.yhi _ (by omega)⟩, by omega, by omega, ?_⟩⟩
    have p1 := px_small X n (n - 1) (by omega)
    have q1 := py_small Y n (n - 1) (by omega)
    rw [rl_seg hr x (n - 1) (by omega) (by rw [p1, ed]; omega) (by rw [en, pn, ed]; omega), ed, lin_two _ _ _ _ (px_up hr _), p1, q1, en, pn, yn]
  · have e1 : (k + (n - 1)) % n = k - 1 := by rw [show k + (n - 1) = k - 1 + n by omega, Nat.add_mod_right]; exact Nat.mod_eq_of_lt (by omega)
    have z := f2 (k - 1) (by omega)
    have l := hr.xle (k - 1) 0 (by omega) (by omega)
    have ed : dn X x = x := by unfold dn; rw [if_neg (by omega)]
    have p1 := px_small X n (k - 1) (by omega)
    have q1 := py_small Y n (k - 1) (by omega)
    have c0 := hr.xlo (k - 1) (by omega)
    have c1 := hr.xhi (k - 1) (by omega)
    have ek : k - 1 + 1 = k := by omega
    by_cases h1 : k = n
    · subst h1
      have e2 : k % k = 0 := Nat.mod_self k
      have b0 := hr.xlo 0 (by omega)
      have b1 := hr.xhi 0 (by omega)
      refine ⟨X (k - 1), Y (k - 1), X 0, Y 0, X 0 + 365, x, ⟨by rw [e1]; exact ⟨rfl, rfl⟩, by rw [e2]; exact ⟨rfl, rfl⟩, .inl ⟨l, rfl⟩, .inr ⟨by omega, rfl⟩, ⟨c0, c1, hr.ylo _ (by omega), hr.yhi _ (by omega)⟩, ⟨b0, b1, hr.ylo _ (by omega), hr.yhi _ (by omega)⟩, by omega, by omega, ?_⟩⟩
      rw [rl_seg hr x (k - 1) (by omega) (by rw [p1, ed]; omega) (by rw [en, pn, ed]; omega), ed, lin_two _ _ _ _ (px_up hr _), p1, q1, en, pn, yn]
    · have e2 : k % n = k := Nat.mod_eq_of_lt (by omega)
      have z2 := f3 k (Nat.le_refl _) (by omega)
      have b0 := hr.xlo k (by omega)
      have b1 := hr.xhi k (by omega)
      have p2 := px_small X n k (by omega)
      have q2 := py_small Y n k (by omega)
      refine ⟨X (k - 1), Y (k - 1), X k, Y k, X k, x, ⟨by rw [e1]; exact ⟨rfl, rfl⟩, by rw [e2]; exact ⟨rfl, rfl⟩, .inr ⟨by omega, rfl⟩, .inr ⟨by omega, rfl⟩, ⟨c0, c1, hr.ylo _ (by omega), hr.yhi _ (by omega)⟩, ⟨b0, b1, hr.ylo _ (by omega), hr.yhi _ (by omega)⟩, by omega, by omega, ?_⟩⟩
      rw [rl_seg hr x (k - 1) (by omega) (by rw [p1, ed]; omega) (by rw [ek, p2, ed]; omega), ed, lin_two _ _ _ _ (px_up hr _), p1, q1, ek, p2, q2]

theorem tuq_any (b off n m c : Nat) (X Y : Nat → Int) (x xa ya xb yb xb' d' : Int) (w : World) (hr : Rc X Y n) (hp : Pts w b off n X Y) (hnc : n ≤ c) (hm : n = m + 1) (ht : Tw X Y n (cnR X n x) x xa ya xb yb xb' d') :
    Calls Try.prog 40 #[.slice (some ⟨b, off, none⟩) n c, .int .i64 x] w (TuQ xa ya xb yb n m w) := by
  refine (tur_any b off n c X Y x w hr hp hnc).mono ?_
  rintro e w' ⟨b2, o2, c2, X2, Y2, rfl, h2, h3, h4⟩
  obtain ⟨a1, a2⟩ := h2.2 m (by omega)
  obtain ⟨a3, a4⟩ := h2.2 0 (by omega)
  obtain ⟨a5, a6⟩ := h3 m (by omega)
  obtain ⟨a7, a8⟩ := h3 0 (by omega)
  rw [show m = n - 1 by omega] at a5 a6
  rw [Nat.add_zero] at a7 a8
  rw [Nat.zero_mul, Nat.add_zero] at a3 a4
  rw [← ht.ea.1] at a5
  rw [← ht.ea.2] at a6
  rw [← ht.eb.1] at a7
  rw [← ht.eb.2] at a8
  rw [show n - 1 = m by omega] at a5 a6
  rw [a5] at a1
  rw [a6] at a2
  rw [a7] at a3
  rw [a8] at a4
  exact ⟨b2, o2, c2, rfl, a1, a2, a3, a4, h4⟩

def RtI (v : Int) (w : World) (e : Ending) (w' : World) : Prop := e = .returned (.int .i64 v) ∧ Below w.heap.size w w'

set_option maxHeartbeats 4000000 in
theorem lvo_any (b off n c : Nat) (X Y : Nat → Int) (x : Int) (w : World) (hr : Rc X Y n) (hp : Pts w b off n X Y) (hnc : n ≤ c) (x0 : 0 ≤ x) (x1 : x ≤ 364) :
    Calls Try.prog 30 #[.slice (some ⟨b, off, none⟩) n c, .int .i64 x] w (RtI (rl X Y n x) w) := by
  obtain ⟨m, hm⟩ : ∃ m, n = m + 1 := ⟨n - 1, by have := hr.pos; omega⟩
  obtain ⟨xa, ya, xb, yb, xb', d', ht⟩ := tw_of hr x x0 x1
  have HT := Lib.hid (tuq_any b off n m c X Y x xa ya xb yb xb' d' w hr hp hnc hm ht)
  have HV := Lib.hid ht.val
  have hup := ht.up
  have hon := ht.on
  obtain ⟨a1, a2, a3, a4⟩ := ht.ba
  obtain ⟨b1, b2, b3, b4⟩ := ht.bb
  have lo := ht.lo
  have hi := ht.hi
  have e1 : (n : Int) - 1 = (m : Int) := by omega
  have e2 : (m : Int) < (n : Int) := by omega
  have e3 : (0 : Int) < (n : Int) := by omega
  have hl := hr.len
  have HM := Lib.hid hm
  clear hm ht hr hp hnc
  generalize rl X Y n x = v at *
  have HS : Hid (Below w.heap.size w w) := Below.refl _ _
  rcases hup with ⟨u1, f1⟩ | ⟨u1, f1⟩
  · rcases hon with ⟨o1, f2⟩ | ⟨o1, f2⟩
    · subst f1 f2
      have m1 := mul_bd (a := ya) (num := xb + 365 - (x + 365)) (A := 16777216) (B := 730) a3 a4 (by omega) (by omega)
      have m2 := mul_bd (a := yb) (num := x + 365 - xa) (A := 16777216) (B := 730) b3 b4 (by omega) (by omega)
      obtain ⟨m11, m12⟩ := m1
      obtain ⟨m21, m22⟩ := m2
      have q1 := div_bd (x := ya * (xb + 365 - (x + 365)) + yb * (x + 365 - xa)) (d := xb + 365 - xa) (by omega) (by omega)
      obtain ⟨q11, q12⟩ := q1
      have z1 : ¬ (xb + 365 - xa = 0) := by omega
      have z2 : ((xb + 365 - xa) == 0) = false := by rw [beq_eq_false_iff_ne]; exact z1
      clear a3 a4 b3 b4 lo hi
      go_enter Try.func30, Try.ntmps30
      go_wp2_with (go_at_call 40; refine HT.out.mono ?_; rintro e w1 ⟨g2, o2, c2, rfl, c1, c2', c3, c4, hb1⟩)
      have HB := Lib.hid hb1
      have HB2 : Hid (∀ o o', Below w.heap.size w ((w1.alloc o).alloc o').drew) := fun o o' => below_drewN ((HB.out.alloc HB.out.size o).alloc (by have := HB.out.size; simp; omega) o') 1
      have hg2 : g2 < w1.heap.size := World.block_lt_of_cell? _ _ c1
      have hg3 : ¬ g2 = w1.heap.size := by omega
      have hg4 : ¬ g2 = w1.heap.size + 1 := by omega
      clear hb1 HT
      go_region
      all_goals clear c1 c2' c3 c4
      all_goals go_wp2
      all_goals go_ret
      all_goals exact ⟨by rw [HV.out]; rfl, HB2.out _ _⟩
    · subst f1
      have f3 := f2.symm
      subst f3
      have m1 := mul_bd (a := ya) (num := xb + 365 - x) (A := 16777216) (B := 730) a3 a4 (by omega) (by omega)
      have m2 := mul_bd (a := yb) (num := x - xa) (A := 16777216) (B := 730) b3 b4 (by omega) (by omega)
      obtain ⟨m11, m12⟩ := m1
      obtain ⟨m21, m22⟩ := m2
      have q1 := div_bd (x := ya * (xb + 365 - x) + yb * (x - xa)) (d := xb + 365 - xa) (by omega) (by omega)
      obtain ⟨q11, q12⟩ := q1
      have z1 : ¬ (xb + 365 - xa = 0) := by omega
      have z2 : ((xb + 365 - xa) == 0) = false := by rw [beq_eq_false_iff_ne]; exact z1
      clear a3 a4 b3 b4 lo hi
      go_enter Try.func30, Try.ntmps30
      go_wp2_with (go_at_call 40; refine HT.out.mono ?_; rintro e w1 ⟨g2, o2, c2, rfl, c1, c2', c3, c4, hb1⟩)
      have HB := Lib.hid hb1
      have HB2 : Hid (∀ o o', Below w.heap.size w ((w1.alloc o).alloc o').drew) := fun o o' => below_drewN ((HB.out.alloc HB.out.size o).alloc (by have := HB.out.size; simp; omega) o') 1
      have hg2 : g2 < w1.heap.size := World.block_lt_of_cell? _ _ c1
      have hg3 : ¬ g2 = w1.heap.size := by omega
      have hg4 : ¬ g2 = w1.heap.size + 1 := by omega
      clear hb1 HT
      go_region
      all_goals clear c1 c2' c3 c4
      all_goals go_wp2
      all_goals go_ret
      all_goals exact ⟨by rw [HV.out]; rfl, HB2.out _ _⟩
  · rcases hon with ⟨o1, f2⟩ | ⟨o1, f2⟩
    · exfalso; omega
    · have f3 := f2.symm
      have f4 := f1.symm
      subst f3 f4
      have m1 := mul_bd (a := ya) (num := xb - x) (A := 16777216) (B := 730) a3 a4 (by omega) (by omega)
      have m2 := mul_bd (a := yb) (num := x - xa) (A := 16777216) (B := 730) b3 b4 (by omega) (by omega)
      obtain ⟨m11, m12⟩ := m1
      obtain ⟨m21, m22⟩ := m2
      have q1 := div_bd (x := ya * (xb - x) + yb * (x - xa)) (d := xb - xa) (by omega) (by omega)
      obtain ⟨q11, q12⟩ := q1
      have z1 : ¬ (xb - xa = 0) := by omega
      have z2 : ((xb - xa) == 0) = false := by rw [beq_eq_false_iff_ne]; exact z1
      clear a3 a4 b3 b4 lo hi
      go_enter Try.func30, Try.ntmps30
      go_wp2_with (go_at_call 40; refine HT.out.mono ?_; rintro e w1 ⟨g2, o2, c2, rfl, c1, c2', c3, c4, hb1⟩)
      have HB := Lib.hid hb1
      have HB2 : Hid (∀ o o', Below w.heap.size w ((w1.alloc o).alloc o').drew) := fun o o' => below_drewN ((HB.out.alloc HB.out.size o).alloc (by have := HB.out.size; simp; omega) o') 1
      have hg2 : g2 < w1.heap.size := World.block_lt_of_cell? _ _ c1
      have hg3 : ¬ g2 = w1.heap.size := by omega
      have hg4 : ¬ g2 = w1.heap.size + 1 := by omega
      clear hb1 HT
      go_region
      all_goals clear c1 c2' c3 c4
      all_goals go_wp2
      all_goals go_ret
      all_goals exact ⟨by rw [HV.out]; rfl, HB2.out _ _⟩
end Go.Proofs.Ytdblppbjlgmccaa.Ru

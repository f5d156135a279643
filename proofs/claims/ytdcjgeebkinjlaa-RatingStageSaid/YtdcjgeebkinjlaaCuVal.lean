/-
  Contracts of valueAt and firstReaching of package curve at a valid curve.
-/
import Derived.Test.YtdcjgeebkinjlaaCuCnt
import Derived.Test.YtdcjgeebkinjlaaCuPts
namespace Go.Proofs.Ytdcjgeebkinjlaa.Cu
open Go.ChangeShapes Go.WideShapes Go.ChangeAt Go.RowKit
set_option linter.unusedVariables false

/-- What a search over the points leaves. -/
def SrP (w : World) (b off n c : Nat) (X Y : Nat → Int) (x : Int) (k : Int) (e : Ending) (w' : World) : Prop :=
  e = .returned (.int .i64 k) ∧ w'.cell? ⟨w.heap.size, 0, none⟩ = some (.slice (some ⟨b, off, none⟩) n c) ∧ w'.cell? ⟨w.heap.size + 1, 0, none⟩ = some (.int .i64 x) ∧ Pts w' b off n X Y ∧ Below w.heap.size w w'

theorem srch_post (w w' : World) (b off n c : Nat) (X Y : Nat → Int) (x : Int) (hp : Pts w b off n X Y)
    (h : Below ((w.alloc (.cells #[.slice (some ⟨b, off, none⟩) n c] 23)).alloc (.cells #[.int .i64 x] 3)).heap.size ((w.alloc (.cells #[.slice (some ⟨b, off, none⟩) n c] 23)).alloc (.cells #[.int .i64 x] 3)) w') :
    w'.cell? ⟨w.heap.size, 0, none⟩ = some (.slice (some ⟨b, off, none⟩) n c) ∧ w'.cell? ⟨w.heap.size + 1, 0, none⟩ = some (.int .i64 x) ∧ Pts w' b off n X Y ∧ Below w.heap.size w w' := by
  refine ⟨?_, ?_, ((hp.alloc _).alloc _).up h (Nat.le_refl _), (((Below.refl w.heap.size w).alloc (Nat.le_refl _) _).alloc (by simp) _).trans (h.mono (by simp; omega))⟩
  · rw [h.cell (p := ⟨w.heap.size, 0, none⟩) (by simp; omega)]; simp
  · rw [h.cell (p := ⟨w.heap.size + 1, 0, none⟩) (by simp)]; simp

theorem srchV (w : World) (b off n m c : Nat) (X Y : Nat → Int) (x : Int) (k : Int) (hn : n = m + 1) (hc : Cur X Y m) (hp : Pts w b off n X Y) (hk : (cntX X (m + 1) x : Nat) = k) :
    Calls Try.prog 38 #[.int .i64 n, .func (.func 43) #[] #[.pointer (some ⟨w.heap.size, 0, none⟩), .pointer (some ⟨w.heap.size + 1, 0, none⟩)]] ((w.alloc (.cells #[.slice (some ⟨b, off, none⟩) n c] 23)).alloc (.cells #[.int .i64 x] 3)) (SrP w b off n c X Y x k) := by
  subst hn
  refine (srchX w.heap.size (w.heap.size + 1) b off m c X Y x _ hc.asc hc.len (by simp) (by simp) (fun i hi => (((hp.alloc _).alloc _).2 i hi).1)).mono ?_
  rintro e w' ⟨rfl, h⟩
  exact ⟨by rw [hk], srch_post w w' b off (m + 1) c X Y x hp h⟩
theorem srchF (w : World) (b off n m c : Nat) (X Y : Nat → Int) (y : Int) (k : Int) (hn : n = m + 1) (hc : Cur X Y m) (hp : Pts w b off n X Y) (hk : (cntY Y (m + 1) y : Nat) = k) :
    Calls Try.prog 38 #[.int .i64 n, .func (.func 39) #[] #[.pointer (some ⟨w.heap.size, 0, none⟩), .pointer (some ⟨w.heap.size + 1, 0, none⟩)]] ((w.alloc (.cells #[.slice (some ⟨b, off, none⟩) n c] 23)).alloc (.cells #[.int .i64 y] 3)) (SrP w b off n c X Y y k) := by
  subst hn
  refine (srchY w.heap.size (w.heap.size + 1) b off m c X Y y _ hc.asc hc.len (by simp) (by simp) (fun i hi => (((hp.alloc _).alloc _).2 i hi).2)).mono ?_
  rintro e w' ⟨rfl, h⟩
  exact ⟨by rw [hk], srch_post w w' b off (m + 1) c X Y y hp h⟩

theorem bel_drewN {B : Nat} {a w : World} (h : Below B a w) (q : Nat) : Below B a (w.drewN q) := ⟨h.os, h.tape, h.output, h.size, h.block⟩
def RetB (r : Int) (w : World) (e : Ending) (w' : World) : Prop := e = .returned (.int .i64 r) ∧ Below w.heap.size w w'

set_option maxHeartbeats 400000 in
theorem val_first (b off n m c : Nat) (X Y : Nat → Int) (x : Int) (w : World) (hn : n = m + 1) (hp : Pts w b off n X Y) (hc : Cur X Y m) (hk : cntX X (m + 1) x = 0) :
    Calls Try.prog 37 #[.slice (some ⟨b, off, none⟩) n c, .int .i64 x] w (RetB (Y 0) w) := by
  have HS := Lib.hid (srchV w b off n m c X Y x 0 hn hc hp (by rw [hk]; rfl))
  have hml := hc.len
  have hn0 : (0 : Int) < (n : Int) := by omega
  have h1n : 1 ≤ n := by omega
  clear hp hc hk hn
  go_enter Try.func37, Try.ntmps37
  go_wp2_with (go_at_call 38; refine HS.out.mono ?_; rintro e w2 ⟨rfl, c1, c2, hp, hb⟩; have c3 := (hp.2 0 (by omega)).2; rw [Nat.zero_mul, Nat.add_zero] at c3; have HP := Lib.hid hb; clear hp hb)
  go_ret
  exact ⟨rfl, HP.out⟩

set_option maxHeartbeats 400000 in
theorem val_last (b off n m c : Nat) (X Y : Nat → Int) (x : Int) (w : World) (hn : n = m + 1) (hp : Pts w b off n X Y) (hc : Cur X Y m) (hk : cntX X (m + 1) x = m + 1) :
    Calls Try.prog 37 #[.slice (some ⟨b, off, none⟩) n c, .int .i64 x] w (RetB (Y m) w) := by
  have HS := Lib.hid (srchV w b off n m c X Y x n hn hc hp (by rw [hk, hn]))
  have hml := hc.len
  have hn0 : (0 : Int) < (n : Int) := by omega
  have e1 : (n : Int) - 1 = (m : Int) := by omega
  have hmn : (m : Int) < (n : Int) := by omega
  have hmn' : m < n := by omega
  have e2 : ((n : Int) == (0 : Int)) = false := by simp; omega
  have h1n : 1 ≤ n := by omega
  clear hp hc hk hn
  go_enter Try.func37, Try.ntmps37
  go_wp2_with (go_at_call 38; refine HS.out.mono ?_; rintro e w2 ⟨rfl, c1, c2, hp, hb⟩; have c3 := (hp.2 m hmn').2; have c4 := (hp.2 m hmn').1; have c5 := cell_alloc_sl (.cells #[.int .i64 (X m), .int .i64 (Y m)] 44) c1; have l1 := hb.size; have HP := Lib.hid hb; clear hp hb)
  go_ret
  exact ⟨rfl, HP.out.alloc l1 _⟩

set_option maxHeartbeats 4000000 in
theorem val_mid (b off n m c i : Nat) (X Y : Nat → Int) (x : Int) (w : World) (hn : n = m + 1) (hp : Pts w b off n X Y) (hc : Cur X Y m) (hi : i < m) (hk : cntX X (m + 1) x = i + 1) (hx1 : X i ≤ x) (hx2 : x < X (i + 1)) :
    Calls Try.prog 37 #[.slice (some ⟨b, off, none⟩) n c, .int .i64 x] w (RetB (lin X Y i x) w) := by
  have HS := Lib.hid (srchV w b off n m c X Y x ((i : Int) + 1) hn hc hp (by rw [hk]; rfl))
  have hml := hc.len
  have hn0 : (0 : Int) < (n : Int) := by omega
  have h1 : (i : Int) + 1 < (n : Int) := by omega
  have h2 : i + 1 < n := by omega
  have h3 : i < n := by omega
  have h5 : ((i : Int) + 1 == (n : Int)) = false := by simp; omega
  have h6 : ((i : Int) + 1 == (0 : Int)) = false := by simp; omega
  have a1 := hc.xlo i (by omega)
  have a2 := hc.xhi (i + 1) (by omega)
  have a3 := hc.ylo i (by omega)
  have a4 := hc.yhi (i + 1) (by omega)
  have a5 := (hc.asc i hi).2
  have a6 := hc.prod i hi
  have p1 : 0 ≤ (x - X i) * (Y (i + 1) - Y i) := mulp (by omega) (by omega)
  have p2 : (x - X i) * (Y (i + 1) - Y i) ≤ 4611686018427387904 := Int.le_trans (Int.mul_le_mul_of_nonneg_right (by omega) (by omega)) a6
  have p3 : 0 ≤ (x - X i) * (Y (i + 1) - Y i) / (X (i + 1) - X i) := Int.ediv_nonneg p1 (by omega)
  have p4 : (x - X i) * (Y (i + 1) - Y i) / (X (i + 1) - X i) ≤ Y (i + 1) - Y i := by
    have := lin_mono X Y i (hc.asc i hi) x (X (i + 1)) (by omega)
    rw [lin_at1 X Y i (hc.asc i hi).1] at this
    unfold lin at this; omega
  have HF := Lib.hid (fun W => cfl_any ((x - X i) * (Y (i + 1) - Y i)) (X (i + 1) - X i) W (by omega) (by omega))
  unfold lin
  have HPT := Lib.hid (fun (w2 : World) (hp2 : Pts w2 b off n X Y) => And.intro (hp2.2 i h3) (hp2.2 (i + 1) h2))
  clear hp hc hk hn a6
  generalize hX1 : X (i + 1) = x1 at *
  generalize hY1 : Y (i + 1) = y1 at *
  generalize hX0 : X i = x0 at *
  generalize hY0 : Y i = y0 at *
  clear hX1 hY1 hX0 hY0
  generalize (x - x0) * (y1 - y0) / (x1 - x0) = q at *
  go_enter Try.func37, Try.ntmps37
  go_wp2_with (go_at_call 38; refine HS.out.mono ?_; rintro e w2 ⟨rfl, c1, c2, hp, hb⟩; obtain ⟨⟨c3, c4⟩, c5, c6⟩ := HPT.out w2 hp; have d1 := cell_alloc_sl (.cells #[.int .i64 x0, .int .i64 y0] 44) c1; have d2 := cell_alloc_sl (.cells #[.int .i64 x0, .int .i64 y0] 44) c2; have d5 := cell_alloc_sl (.cells #[.int .i64 x0, .int .i64 y0] 44) c5; have d6 := cell_alloc_sl (.cells #[.int .i64 x0, .int .i64 y0] 44) c6; have l1 := hb.size; have HP := Lib.hid hb; clear hp hb c5 c6 c2)
  go_quiet (refine Calls.quiet_of_same ((HF.out _).mono fun e w' h => ⟨h.1, h.2.symm⟩))
  go_wp2
  go_ret
  exact ⟨rfl, bel_drewN (HP.out.alloc l1 _) _⟩

/-- valueAt of a valid curve. -/
theorem val_any (b off n m c : Nat) (X Y : Nat → Int) (x : Int) (w : World) (hn : n = m + 1) (hp : Pts w b off n X Y) (hc : Cur X Y m) :
    Calls Try.prog 37 #[.slice (some ⟨b, off, none⟩) n c, .int .i64 x] w (RetB (val X Y m x) w) := by
  obtain ⟨f1, f2, f3⟩ := cntX_facts hc.asc x
  have hv := val_cut X Y m hc.asc x _ f1 f2 f3
  by_cases h0 : cntX X (m + 1) x = 0
  · rw [if_pos h0] at hv
    rw [hv]
    exact val_first b off n m c X Y x w hn hp hc h0
  rw [if_neg h0] at hv
  by_cases h1 : cntX X (m + 1) x = m + 1
  · rw [if_pos h1] at hv
    rw [hv]
    exact val_last b off n m c X Y x w hn hp hc h1
  rw [if_neg h1] at hv
  rw [hv]
  obtain ⟨i, hi⟩ : ∃ i, cntX X (m + 1) x = i + 1 := ⟨cntX X (m + 1) x - 1, by omega⟩
  rw [hi] at f1 f2 f3 h1 ⊢
  exact val_mid b off n m c i X Y x w hn hp hc (by omega) hi (f2 i (by omega)) (f3 (i + 1) (Nat.le_refl _) (by omega))

/-! ### firstReaching -/
set_option maxHeartbeats 1600000 in
theorem fst_first (b off n m c : Nat) (X Y : Nat → Int) (y : Int) (w : World) (hn : n = m + 1) (hp : Pts w b off n X Y) (hc : Cur X Y m) (hk : cntY Y (m + 1) y = 0) :
    Calls Try.prog 30 #[.slice (some ⟨b, off, none⟩) n c, .int .i64 y] w (RetB (X 0) w) := by
  have HS := Lib.hid (srchF w b off n m c X Y y 0 hn hc hp (by rw [hk]; rfl))
  have hml := hc.len
  have hn0 : (0 : Int) < (n : Int) := by omega
  have h1n : 1 ≤ n := by omega
  clear hp hc hk hn
  go_enter Try.func30, Try.ntmps30
  go_wp2_with (go_at_call 38; refine HS.out.mono ?_; rintro e w2 ⟨rfl, c1, c2, hp, hb⟩; have c3 := (hp.2 0 (by omega)).1; rw [Nat.zero_mul, Nat.add_zero] at c3; have HP := Lib.hid hb; clear hp hb)
  go_ret
  exact ⟨rfl, HP.out⟩

set_option maxHeartbeats 4000000 in
theorem fst_mid (b off n m c i : Nat) (X Y : Nat → Int) (y : Int) (w : World) (hn : n = m + 1) (hp : Pts w b off n X Y) (hc : Cur X Y m) (hi : i < m) (hk : cntY Y (m + 1) y = i + 1) (hx1 : Y i < y) (hx2 : y ≤ Y (i + 1)) :
    Calls Try.prog 30 #[.slice (some ⟨b, off, none⟩) n c, .int .i64 y] w (RetB (cel X Y i y) w) := by
  have HS := Lib.hid (srchF w b off n m c X Y y ((i : Int) + 1) hn hc hp (by rw [hk]; rfl))
  have hml := hc.len
  have hn0 : (0 : Int) < (n : Int) := by omega
  have h1 : (i : Int) + 1 < (n : Int) := by omega
  have h2 : i + 1 < n := by omega
  have h3 : i < n := by omega
  have h6 : ((i : Int) + 1 == (0 : Int)) = false := by simp; omega
  have a1 := hc.xlo i (by omega)
  have a2 := hc.xhi (i + 1) (by omega)
  have a3 := hc.ylo i (by omega)
  have a4 := hc.yhi (i + 1) (by omega)
  have a5 := (hc.asc i hi).1
  have a6 := hc.prod i hi
  have p1 : 0 ≤ (y - Y i) * (X (i + 1) - X i) := mulp (by omega) (by omega)
  have p2 : (y - Y i) * (X (i + 1) - X i) ≤ 4611686018427387904 := by
    rw [Int.mul_comm]
    exact Int.le_trans (Int.mul_le_mul_of_nonneg_left (by omega) (by omega)) a6
  have p5 : -(y - Y i) * (X (i + 1) - X i) = -((y - Y i) * (X (i + 1) - X i)) := Int.neg_mul _ _
  have p6 : -4611686018427387904 ≤ -(y - Y i) * (X (i + 1) - X i) := by omega
  have p7 : -(y - Y i) * (X (i + 1) - X i) ≤ 0 := by omega
  obtain ⟨p3, p4⟩ := cel_bd X Y i a5 y hx1 hx2
  unfold cel at p3 p4 ⊢
  have HF := Lib.hid (fun W => cfl_any (-(y - Y i) * (X (i + 1) - X i)) (Y (i + 1) - Y i) W (by omega) (by omega))
  have HPT := Lib.hid (fun (w2 : World) (hp2 : Pts w2 b off n X Y) => And.intro (hp2.2 i h3) (hp2.2 (i + 1) h2))
  clear hp hc hk hn a6 p1 p2 p5
  generalize hX1 : X (i + 1) = x1 at *
  generalize hY1 : Y (i + 1) = y1 at *
  generalize hX0 : X i = x0 at *
  generalize hY0 : Y i = y0 at *
  clear hX1 hY1 hX0 hY0
  generalize -(y - y0) * (x1 - x0) / (y1 - y0) = q at *
  go_enter Try.func30, Try.ntmps30
  go_wp2_with (go_at_call 38; refine HS.out.mono ?_; rintro e w2 ⟨rfl, c1, c2, hp, hb⟩; obtain ⟨⟨c3, c4⟩, c5, c6⟩ := HPT.out w2 hp; have d1 := cell_alloc_sl (.cells #[.int .i64 x0, .int .i64 y0] 44) c1; have d2 := cell_alloc_sl (.cells #[.int .i64 x0, .int .i64 y0] 44) c2; have d5 := cell_alloc_sl (.cells #[.int .i64 x0, .int .i64 y0] 44) c5; have d6 := cell_alloc_sl (.cells #[.int .i64 x0, .int .i64 y0] 44) c6; have l1 := hb.size; have HP := Lib.hid hb; clear hp hb c5 c6 c2)
  go_quiet (refine Calls.quiet_of_same ((HF.out _).mono fun e w' h => ⟨h.1, h.2.symm⟩))
  go_wp2
  go_ret
  exact ⟨rfl, bel_drewN (HP.out.alloc l1 _) _⟩

/-- firstReaching of a valid curve, of a number that its last value is at least. -/
theorem fst_any (b off n m c : Nat) (X Y : Nat → Int) (y : Int) (w : World) (hn : n = m + 1) (hp : Pts w b off n X Y) (hc : Cur X Y m) (hy : y ≤ Y m) :
    Calls Try.prog 30 #[.slice (some ⟨b, off, none⟩) n c, .int .i64 y] w (RetB (fst X Y m y) w) := by
  obtain ⟨f1, f2, f3⟩ := cntY_facts hc.asc y
  have hkm : cntY Y (m + 1) y ≤ m := by
    apply Classical.byContradiction
    intro h
    have := f2 m (by omega); omega
  have hv := fst_cut X Y m hc.asc y _ hkm f2 f3
  by_cases h0 : cntY Y (m + 1) y = 0
  · rw [if_pos h0] at hv
    rw [hv]
    exact fst_first b off n m c X Y y w hn hp hc h0
  rw [if_neg h0] at hv
  rw [hv]
  obtain ⟨i, hi⟩ : ∃ i, cntY Y (m + 1) y = i + 1 := ⟨cntY Y (m + 1) y - 1, by omega⟩
  rw [hi] at f1 f2 f3 hkm ⊢
  exact fst_mid b off n m c i X Y y w hn hp hc (by omega) hi (f2 i (by omega)) (f3 (i + 1) (Nat.le_refl _) (by omega))
end Go.Proofs.Ytdcjgeebkinjlaa.Cu

/-
  The contract of the program's readingOf.
-/
import Derived.Test.YtlelcooomfcbaaaDoorGpPar
import Derived.Test.YtlelcooomfcbaaaDoorGgDec
import Derived.Deep.RegionHeld3
import Derived.Deep.DeepCutAuto
namespace Go.Proofs.YtlelcooomfcbaaaDoor.Gg
open Go.ChangeShapes Go.WideShapes Go.ChangeAt Go.RowKit
set_option linter.unusedVariables false

def wd (l : List ByteArray) (i : Nat) : ByteArray := l.getD i ByteArray.empty
theorem wd_at (l : List ByteArray) (k : Nat) (hk : k < l.length) : wd l k = l[k] := by
  unfold wd
  rw [List.getD_eq_getElem?_getD, List.getElem?_eq_getElem hk]
  rfl
/-- The number that a word is; whether it is one. -/
def nuI (s : ByteArray) : Int := nuN (sB s) s.size
def nuK (s : ByteArray) : Bool := nuB (sB s) s.size
/-- The words of a line have the form of a reading. -/
def rdK (l : List ByteArray) : Bool := decide (l.length = 4) && (nuK (wd l 0) && (nuK (wd l 1) && (nuK (wd l 2) && decide (0 ≤ flG (wd l 3)))))
/-- P6.3: the error of a line; its reading. -/
def rdE (l : List ByteArray) : Int := if rdK l = true then ckG (nuI (wd l 0)) (nuI (wd l 1)) (nuI (wd l 2)) (flG (wd l 3)) else 7
def rdV (l : List ByteArray) : Nat → Int := mkR (nuI (wd l 0)) (nuI (wd l 1)) (nuI (wd l 2)) (flG (wd l 3))
def WOk (l : List ByteArray) : Prop := ∀ x ∈ l, 1 ≤ x.size ∧ x.size ≤ 1000000000
theorem WOk.at {l : List ByteArray} (h : WOk l) (k : Nat) (hk : k < l.length) : 1 ≤ (wd l k).size ∧ (wd l k).size ≤ 1000000000 := by
  rw [wd_at l k hk]; exact h _ (List.getElem_mem hk)
/-- What readingOf returns. -/
def RgP (w : World) (l : List ByteArray) (e : Ending) (w' : World) : Prop :=
  ∃ a b c d : Int, e = .returned (.tuple #[.agg #[.int .i64 a, .int .i64 b, .int .i64 c, .int .i64 d], .int .i64 (rdE l)]) ∧ (rdE l = 0 → rdV l = mkR a b c d) ∧ Below w.heap.size w w'
theorem rdE_no {l : List ByteArray} (h : rdK l = false) : rdE l = 7 := by unfold rdE; rw [h]; rfl
theorem RgP.bad {w w' : World} {l : List ByteArray} (h : rdK l = false) (hb : Below w.heap.size w w') : RgP w l (.returned (.tuple #[.agg #[.int .i64 0, .int .i64 0, .int .i64 0, .int .i64 0], .int .i64 7])) w' :=
  ⟨0, 0, 0, 0, by rw [rdE_no h], fun h2 => by rw [rdE_no h] at h2; omega, hb⟩

/-- What the loop over the three numbers keeps: the result is still zero, the numbers read so far. -/
structure Rl (w : World) (x0 x1 x2 : Int) (W : World) : Prop where
  z0 : W.cell? ⟨w.heap.size, 0, none⟩ = some (.int .i64 0)
  z1 : W.cell? ⟨w.heap.size, 1, none⟩ = some (.int .i64 0)
  z2 : W.cell? ⟨w.heap.size, 2, none⟩ = some (.int .i64 0)
  z3 : W.cell? ⟨w.heap.size, 3, none⟩ = some (.int .i64 0)
  fz : ∀ j, W.frozen? ⟨w.heap.size, j, none⟩ = false
  n0 : W.cell? ⟨w.heap.size + 1, 0, none⟩ = some (.int .i64 x0)
  n1 : W.cell? ⟨w.heap.size + 1, 1, none⟩ = some (.int .i64 x1)
  n2 : W.cell? ⟨w.heap.size + 1, 2, none⟩ = some (.int .i64 x2)
  fn : ∀ j, W.frozen? ⟨w.heap.size + 1, j, none⟩ = false
  bel : Below w.heap.size w W
  lt : w.heap.size + 2 ≤ W.heap.size
theorem Rl.up {w : World} {x0 x1 x2 : Int} {W W' : World} (h : Rl w x0 x1 x2 W) (hb : Below W.heap.size W W') : Rl w x0 x1 x2 W' :=
  have hl := h.lt
  { z0 := (hb.cell (p := ⟨_, 0, none⟩) (by show w.heap.size < _; omega)).trans h.z0
    z1 := (hb.cell (p := ⟨_, 1, none⟩) (by show w.heap.size < _; omega)).trans h.z1
    z2 := (hb.cell (p := ⟨_, 2, none⟩) (by show w.heap.size < _; omega)).trans h.z2
    z3 := (hb.cell (p := ⟨_, 3, none⟩) (by show w.heap.size < _; omega)).trans h.z3
    fz := fun j => (hb.frozen (p := ⟨_, j, none⟩) (by show w.heap.size < _; omega)).trans (h.fz j)
    n0 := (hb.cell (p := ⟨_, 0, none⟩) (by show w.heap.size + 1 < _; omega)).trans h.n0
    n1 := (hb.cell (p := ⟨_, 1, none⟩) (by show w.heap.size + 1 < _; omega)).trans h.n1
    n2 := (hb.cell (p := ⟨_, 2, none⟩) (by show w.heap.size + 1 < _; omega)).trans h.n2
    fn := fun j => (hb.frozen (p := ⟨_, j, none⟩) (by show w.heap.size + 1 < _; omega)).trans (h.fn j)
    bel := h.bel.trans (hb.mono (by omega))
    lt := Nat.le_trans hl hb.size }
theorem cell_oth {W : World} {b i c j : Nat} {u v : Value} (hne : ¬ (b = c ∧ i = j)) (h : W.cell? ⟨c, j, none⟩ = some v) : (W.setCell ⟨b, i, none⟩ u).cell? ⟨c, j, none⟩ = some v :=
  (World.cell?_setCell_other _ _ _ _ (by intro e; simp only [Addr.mk.injEq] at e; exact hne ⟨e.1, e.2.1⟩)).trans h
theorem Rl.start (w : World) : Rl w 0 0 0 ((w.alloc (.cells #[.int .i64 0, .int .i64 0, .int .i64 0, .int .i64 0] 23)).alloc (.cells #[.int .i64 0, .int .i64 0, .int .i64 0] 50)) :=
  { z0 := by simp
    z1 := by simp
    z2 := by simp
    z3 := by simp
    fz := fun j => by simp
    n0 := by simp
    n1 := by simp
    n2 := by simp
    fn := fun j => by simp
    bel := ((Below.refl _ _).alloc (Nat.le_refl _) _).alloc (by simp) _
    lt := by simp }
theorem Rl.set0 {w : World} {x0 x1 x2 y : Int} {W : World} (h : Rl w x0 x1 x2 W) : Rl w y x1 x2 (W.setCell ⟨w.heap.size + 1, 0, none⟩ (.int .i64 y)) :=
  { z0 := cell_oth (by omega) h.z0, z1 := cell_oth (by omega) h.z1, z2 := cell_oth (by omega) h.z2, z3 := cell_oth (by omega) h.z3
    fz := fun j => by simpa using h.fz j
    n0 := World.cell?_setCell_same _ _ _ h.n0, n1 := cell_oth (by omega) h.n1, n2 := cell_oth (by omega) h.n2
    fn := fun j => by simpa using h.fn j
    bel := h.bel.setCell (p := ⟨w.heap.size + 1, 0, none⟩) (by show w.heap.size ≤ w.heap.size + 1; omega) _
    lt := by simpa using h.lt }
theorem Rl.set1 {w : World} {x0 x1 x2 y : Int} {W : World} (h : Rl w x0 x1 x2 W) : Rl w x0 y x2 (W.setCell ⟨w.heap.size + 1, 1, none⟩ (.int .i64 y)) :=
  { z0 := cell_oth (by omega) h.z0, z1 := cell_oth (by omega) h.z1, z2 := cell_oth (by omega) h.z2, z3 := cell_oth (by omega) h.z3
    fz := fun j => by simpa using h.fz j
    n1 := World.cell?_setCell_same _ _ _ h.n1, n0 := cell_oth (by omega) h.n0, n2 := cell_oth (by omega) h.n2
    fn := fun j => by simpa using h.fn j
    bel := h.bel.setCell (p := ⟨w.heap.size + 1, 1, none⟩) (by show w.heap.size ≤ w.heap.size + 1; omega) _
    lt := by simpa using h.lt }
theorem Rl.set2 {w : World} {x0 x1 x2 y : Int} {W : World} (h : Rl w x0 x1 x2 W) : Rl w x0 x1 y (W.setCell ⟨w.heap.size + 1, 2, none⟩ (.int .i64 y)) :=
  { z0 := cell_oth (by omega) h.z0, z1 := cell_oth (by omega) h.z1, z2 := cell_oth (by omega) h.z2, z3 := cell_oth (by omega) h.z3
    fz := fun j => by simpa using h.fz j
    n2 := World.cell?_setCell_same _ _ _ h.n2, n0 := cell_oth (by omega) h.n0, n1 := cell_oth (by omega) h.n1
    fn := fun j => by simpa using h.fn j
    bel := h.bel.setCell (p := ⟨w.heap.size + 1, 2, none⟩) (by show w.heap.size ≤ w.heap.size + 1; omega) _
    lt := by simpa using h.lt }
theorem four_below {B : Nat} {w W : World} (h : Below B w W) (b : Nat) (hb : B ≤ b) (u0 u1 u2 u3 : Value) : Below B w ((((W.setCell ⟨b, 0, none⟩ u0).setCell ⟨b, 1, none⟩ u1).setCell ⟨b, 2, none⟩ u2).setCell ⟨b, 3, none⟩ u3) :=
  (((h.setCell (p := ⟨b, 0, none⟩) hb _).setCell (p := ⟨b, 1, none⟩) hb _).setCell (p := ⟨b, 2, none⟩) hb _).setCell (p := ⟨b, 3, none⟩) hb _

/-- What the return's region keeps. -/
def Kq (ka kb : Nat) (w W : World) : Prop := Below ka w W ∧ kb < W.heap.size ∧ ka < kb
/-- The result's cells before the return. -/
def Zr (ka : Nat) (W : World) : Prop := (W.cell? ⟨ka, 0, none⟩ = some (.int .i64 0) ∧ W.cell? ⟨ka, 1, none⟩ = some (.int .i64 0) ∧ W.cell? ⟨ka, 2, none⟩ = some (.int .i64 0) ∧ W.cell? ⟨ka, 3, none⟩ = some (.int .i64 0)) ∧ (W.frozen? ⟨ka, 0, none⟩ = false ∧ W.frozen? ⟨ka, 1, none⟩ = false ∧ W.frozen? ⟨ka, 2, none⟩ = false ∧ W.frozen? ⟨ka, 3, none⟩ = false) ∧ ka < W.heap.size
theorem Zr.up {ka : Nat} {W W' : World} (h : Zr ka W) (hb : Below W.heap.size W W') : Zr ka W' :=
  ⟨⟨(hb.cell (p := ⟨ka, 0, none⟩) h.2.2).trans h.1.1, (hb.cell (p := ⟨ka, 1, none⟩) h.2.2).trans h.1.2.1, (hb.cell (p := ⟨ka, 2, none⟩) h.2.2).trans h.1.2.2.1, (hb.cell (p := ⟨ka, 3, none⟩) h.2.2).trans h.1.2.2.2⟩,
    ⟨(hb.frozen (p := ⟨ka, 0, none⟩) h.2.2).trans h.2.1.1, (hb.frozen (p := ⟨ka, 1, none⟩) h.2.2).trans h.2.1.2.1, (hb.frozen (p := ⟨ka, 2, none⟩) h.2.2).trans h.2.1.2.2.1, (hb.frozen (p := ⟨ka, 3, none⟩) h.2.2).trans h.2.1.2.2.2⟩, Nat.lt_of_lt_of_le h.2.2 hb.size⟩
theorem Zr.drewN {ka : Nat} {W : World} (h : Zr ka W) (q : Nat) : Zr ka (W.drewN q) := h
theorem Zr.drew {ka : Nat} {W : World} (h : Zr ka W) : Zr ka W.drew := h
abbrev Sq (ka kb : Nat) (w : World) (v0 v1 v2 fl : Int) (W : World) : Prop :=
  W.cell? ⟨kb, 0, none⟩ = some (.int .i64 v0) ∧ W.cell? ⟨kb, 1, none⟩ = some (.int .i64 v1) ∧ W.cell? ⟨kb, 2, none⟩ = some (.int .i64 v2) ∧ W.cell? ⟨kb, 3, none⟩ = some (.int .i64 fl) ∧ Hid (Kq ka kb w W)
section
variable {ka kb : Nat} {w W : World} {v0 v1 v2 fl : Int}
theorem Sq_drew (h : Sq ka kb w v0 v1 v2 fl W) : Sq ka kb w v0 v1 v2 fl W.drew := ⟨h.1, h.2.1, h.2.2.1, h.2.2.2.1, (show Kq ka kb w W.drew from ⟨below_drewN h.2.2.2.2.out.1 1, h.2.2.2.2.out.2⟩)⟩
theorem Sq_drewN (h : Sq ka kb w v0 v1 v2 fl W) (q : Nat) : Sq ka kb w v0 v1 v2 fl (W.drewN q) := ⟨h.1, h.2.1, h.2.2.1, h.2.2.2.1, (show Kq ka kb w (W.drewN q) from ⟨below_drewN h.2.2.2.2.out.1 q, h.2.2.2.2.out.2⟩)⟩
theorem Sq_set (h : Sq ka kb w v0 v1 v2 fl W) (i : Nat) (u : Value) : Sq ka kb w v0 v1 v2 fl (W.setCell ⟨ka, i, none⟩ u) :=
  have hn : ka < kb := h.2.2.2.2.out.2.2
  ⟨cell_oth (by omega) h.1, cell_oth (by omega) h.2.1, cell_oth (by omega) h.2.2.1, cell_oth (by omega) h.2.2.2.1, (show Kq ka kb w (W.setCell ⟨ka, i, none⟩ u) from ⟨h.2.2.2.2.out.1.setCell (p := ⟨ka, i, none⟩) (Nat.le_refl _) _, by simpa using h.2.2.2.2.out.2.1, hn⟩)⟩
theorem Sq_up {W' : World} (h : Sq ka kb w v0 v1 v2 fl W) (hb : Below W.heap.size W W') : Sq ka kb w v0 v1 v2 fl W' :=
  have hn := h.2.2.2.2.out
  ⟨(hb.cell (p := ⟨kb, 0, none⟩) hn.2.1).trans h.1, (hb.cell (p := ⟨kb, 1, none⟩) hn.2.1).trans h.2.1, (hb.cell (p := ⟨kb, 2, none⟩) hn.2.1).trans h.2.2.1, (hb.cell (p := ⟨kb, 3, none⟩) hn.2.1).trans h.2.2.2.1,
    (show Kq ka kb w W' from ⟨hn.1.trans (hb.mono (by have := hn.2.1; have := hn.2.2; omega)), Nat.lt_of_lt_of_le hn.2.1 hb.size, hn.2.2⟩)⟩
end
set_option maxRecDepth 100000 in
set_option maxHeartbeats 2000000 in
theorem rdg_short (p : Option Addr) (c : Nat) (l : List ByteArray) (w : World) (h4 : l.length ≠ 4) (h9 : l.length ≤ 2000000000) : Calls Tryd.prog 48 #[.slice p l.length c] w (RgP w l) := by
  have HK : Hid (rdK l = false) := by
    show rdK l = false
    unfold rdK; rw [decide_eq_false h4]; rfl
  have e4 : ((l.length : Int) != 4) = true := by rw [bne_iff_ne]; omega
  clear h4
  go_enter Tryd.func48, Tryd.ntmps48
  go_wp2
  exact bodyPost_ret (v := .tuple #[.agg #[.int .i64 0, .int .i64 0, .int .i64 0, .int .i64 0], .int .i64 7]) (by simp [results, Tryd.results48, go_sem]) rfl (RgP.bad HK.out ((Below.refl _ _).alloc (Nat.le_refl _) _))
set_option maxRecDepth 100000 in
set_option maxHeartbeats 4000000 in
theorem rdg_four (g c : Nat) (l : List ByteArray) (w : World) (ht : Ts w g 0 l) (hw : FlW w) (h4 : l.length = 4) (hl : WOk l) : Calls Tryd.prog 48 #[.slice (some ⟨g, 0, none⟩) 4 c] w (RgP w l) := by
  have cc : ∀ k (hk : k < 4), w.cell? ⟨g, k, none⟩ = some (.string (wd l k)) := fun k hk => by
    have h := ht.2 k (by omega)
    rw [Nat.zero_add] at h
    rw [h, wd_at l k (by omega)]
  have HT := Lib.hid cc
  have hg := ht.1
  have hl0 := hl.at 0 (by omega)
  have hl1 := hl.at 1 (by omega)
  have hl2 := hl.at 2 (by omega)
  have HD0 := Lib.hid (fun W => decim_any (wd l 0) W hl0.1 hl0.2)
  have HD1 := Lib.hid (fun W => decim_any (wd l 1) W hl1.1 hl1.2)
  have HD2 := Lib.hid (fun W => decim_any (wd l 2) W hl2.1 hl2.2)
  have HF := Lib.hid (fun W h => flag_any (wd l 3) W h)
  have HW := Lib.hid hw
  have HK : Hid (rdK l = (nuK (wd l 0) && (nuK (wd l 1) && (nuK (wd l 2) && decide (0 ≤ flG (wd l 3)))))) := by
    show rdK l = _
    unfold rdK; rw [decide_eq_true h4]; rfl
  have HE : Hid (rdK l = true → rdE l = ckG (nuI (wd l 0)) (nuI (wd l 1)) (nuI (wd l 2)) (flG (wd l 3))) := fun h => by unfold rdE; rw [if_pos h]
  have HV : Hid (rdV l = mkR (nuI (wd l 0)) (nuI (wd l 1)) (nuI (wd l 2)) (flG (wd l 3))) := rfl
  have c3 := cc 3 (by omega)
  have HS0 := Lib.hid (cc 0 (by omega))
  have HS1 := Lib.hid (cc 1 (by omega))
  have HS2 := Lib.hid (cc 2 (by omega))
  clear HT cc ht hw hl hl0 hl1 hl2 h4
  generalize wd l 0 = s0 at *
  generalize wd l 1 = s1 at *
  generalize wd l 2 = s2 at *
  generalize wd l 3 = s3 at *
  generalize flG s3 = fl at *
  by_cases hf : 0 ≤ fl
  · have HF2 : Hid (∀ W, FlW W → Calls Tryd.prog 62 #[.string s3] W (RtN fl true W)) := fun W h => by
      have h2 := HF.out W h
      rw [if_pos hf, decide_eq_true hf] at h2
      exact h2
    clear HF
    go_enter Tryd.func48, Tryd.ntmps48
    go_wp2_with (go_at_call 62; refine (HF2.out _ (HW.out.up ((Below.refl _ _).alloc (Nat.le_refl _) _) (Nat.le_refl _))).mono ?_; rintro e w' ⟨rfl, rfl⟩)
    go_loopw [25] (fun i wr => ∃ (k : Nat) (x0 x1 x2 : Int), k ≤ 3 ∧ i = .int .i64 k ∧ Hid (0 < k → nuK s0 = true ∧ x0 = nuI s0) ∧ Hid (1 < k → nuK s1 = true ∧ x1 = nuI s1) ∧ Hid (2 < k → nuK s2 = true ∧ x2 = nuI s2) ∧ Hid (Rl w x0 x1 x2 wr)) (fun i _ => 3 - (intOf i).toNat)
    case atStart => exact ⟨0, 0, 0, 0, by omega, rfl, fun h => by omega, fun h => by omega, fun h => by omega, Rl.start w⟩
    case round =>
      obtain ⟨k, x0, x1, x2, hk, rfl, k0, k1, k2, hrl⟩ := hrel
      have hc : k = 0 ∨ k = 1 ∨ k = 2 ∨ k = 3 := by omega
      clear hk
      rcases hc with rfl | rfl | rfl | rfl
      · have cw : wr.cell? ⟨g, 0, none⟩ = some (.string s0) := (hrl.out.bel.cell (p := ⟨g, 0, none⟩) hg).trans (HS0.out)
        have HD := Lib.hid (HD0.out wr)
        have HX : Hid (nuN (sB s0) s0.size = nuI s0) := rfl
        have HY : Hid (nuB (sB s0) s0.size = nuK s0) := rfl
        generalize nuN (sB s0) s0.size = xn at HD HX
        cases hkk : nuB (sB s0) s0.size with
        | true =>
          rw [hkk] at HD HY
          clear hkk
          go_wp2_with (go_at_call 63; refine HD.out.mono ?_; rintro e w1 ⟨rfl, hb1⟩; have HR1 := Lib.hid (hrl.out.up hb1); have d0 := HR1.out.n0; have d1 := HR1.out.n1; have d2 := HR1.out.n2; have f0 := HR1.out.fn 0; clear hb1)
          go_roundw
          case rel => exact ⟨1, xn, x1, x2, by omega, by go_num, fun _ => ⟨HY.out.symm, HX.out⟩, fun h => by omega, fun h => by omega, HR1.out.set0⟩
          case measure => simp [intOf]
        | false =>
          rw [hkk] at HD HY
          clear hkk
          have HK2 : Hid (rdK l = false) := by show rdK l = false; rw [HK.out, ← HY.out, Bool.false_and]
          clear HK
          go_wp2_with (go_at_call 63; refine HD.out.mono ?_; rintro e w1 ⟨rfl, hb1⟩; have HR1 := Lib.hid (hrl.out.up hb1); have d0 := HR1.out.z0; have d1 := HR1.out.z1; have d2 := HR1.out.z2; have d3 := HR1.out.z3; have f0 := HR1.out.fz 0; have f1 := HR1.out.fz 1; have f2 := HR1.out.fz 2; have f3 := HR1.out.fz 3; clear hb1)
          have h4 := four_set w1 w.heap.size (.int .i64 0) (.int .i64 0) (.int .i64 0) (.int .i64 0) d0 d1 d2 d3
          exact bodyPost_ret (v := .tuple #[.agg #[.int .i64 0, .int .i64 0, .int .i64 0, .int .i64 0], .int .i64 7]) (by simp [results, Tryd.results48, go_sem, h4.1, h4.2.1, h4.2.2.1, h4.2.2.2]) rfl (RgP.bad HK2.out (four_below HR1.out.bel _ (Nat.le_refl _) _ _ _ _))
      · have cw : wr.cell? ⟨g, 1, none⟩ = some (.string s1) := (hrl.out.bel.cell (p := ⟨g, 1, none⟩) hg).trans (HS1.out)
        have HD := Lib.hid (HD1.out wr)
        have HX : Hid (nuN (sB s1) s1.size = nuI s1) := rfl
        have HY : Hid (nuB (sB s1) s1.size = nuK s1) := rfl
        generalize nuN (sB s1) s1.size = xn at HD HX
        cases hkk : nuB (sB s1) s1.size with
        | true =>
          rw [hkk] at HD HY
          clear hkk
          go_wp2_with (go_at_call 63; refine HD.out.mono ?_; rintro e w1 ⟨rfl, hb1⟩; have HR1 := Lib.hid (hrl.out.up hb1); have d0 := HR1.out.n0; have d1 := HR1.out.n1; have d2 := HR1.out.n2; have f1 := HR1.out.fn 1; clear hb1)
          go_roundw
          case rel => exact ⟨2, x0, xn, x2, by omega, by go_num, fun _ => k0.out (by omega), fun _ => ⟨HY.out.symm, HX.out⟩, fun h => by omega, HR1.out.set1⟩
          case measure => simp [intOf]
        | false =>
          rw [hkk] at HD HY
          clear hkk
          have HK2 : Hid (rdK l = false) := by show rdK l = false; rw [HK.out, ← HY.out, Bool.false_and, Bool.and_false]
          clear HK
          go_wp2_with (go_at_call 63; refine HD.out.mono ?_; rintro e w1 ⟨rfl, hb1⟩; have HR1 := Lib.hid (hrl.out.up hb1); have d0 := HR1.out.z0; have d1 := HR1.out.z1; have d2 := HR1.out.z2; have d3 := HR1.out.z3; have f0 := HR1.out.fz 0; have f1 := HR1.out.fz 1; have f2 := HR1.out.fz 2; have f3 := HR1.out.fz 3; clear hb1)
          have h4 := four_set w1 w.heap.size (.int .i64 0) (.int .i64 0) (.int .i64 0) (.int .i64 0) d0 d1 d2 d3
          exact bodyPost_ret (v := .tuple #[.agg #[.int .i64 0, .int .i64 0, .int .i64 0, .int .i64 0], .int .i64 7]) (by simp [results, Tryd.results48, go_sem, h4.1, h4.2.1, h4.2.2.1, h4.2.2.2]) rfl (RgP.bad HK2.out (four_below HR1.out.bel _ (Nat.le_refl _) _ _ _ _))
      · have cw : wr.cell? ⟨g, 2, none⟩ = some (.string s2) := (hrl.out.bel.cell (p := ⟨g, 2, none⟩) hg).trans (HS2.out)
        have HD := Lib.hid (HD2.out wr)
        have HX : Hid (nuN (sB s2) s2.size = nuI s2) := rfl
        have HY : Hid (nuB (sB s2) s2.size = nuK s2) := rfl
        generalize nuN (sB s2) s2.size = xn at HD HX
        cases hkk : nuB (sB s2) s2.size with
        | true =>
          rw [hkk] at HD HY
          clear hkk
          go_wp2_with (go_at_call 63; refine HD.out.mono ?_; rintro e w1 ⟨rfl, hb1⟩; have HR1 := Lib.hid (hrl.out.up hb1); have d0 := HR1.out.n0; have d1 := HR1.out.n1; have d2 := HR1.out.n2; have f2 := HR1.out.fn 2; clear hb1)
          go_roundw
          case rel => exact ⟨3, x0, x1, xn, by omega, by go_num, fun _ => k0.out (by omega), fun _ => k1.out (by omega), fun _ => ⟨HY.out.symm, HX.out⟩, HR1.out.set2⟩
          case measure => simp [intOf]
        | false =>
          rw [hkk] at HD HY
          clear hkk
          have HK2 : Hid (rdK l = false) := by show rdK l = false; rw [HK.out, ← HY.out, Bool.false_and, Bool.and_false, Bool.and_false]
          clear HK
          go_wp2_with (go_at_call 63; refine HD.out.mono ?_; rintro e w1 ⟨rfl, hb1⟩; have HR1 := Lib.hid (hrl.out.up hb1); have d0 := HR1.out.z0; have d1 := HR1.out.z1; have d2 := HR1.out.z2; have d3 := HR1.out.z3; have f0 := HR1.out.fz 0; have f1 := HR1.out.fz 1; have f2 := HR1.out.fz 2; have f3 := HR1.out.fz 3; clear hb1)
          have h4 := four_set w1 w.heap.size (.int .i64 0) (.int .i64 0) (.int .i64 0) (.int .i64 0) d0 d1 d2 d3
          exact bodyPost_ret (v := .tuple #[.agg #[.int .i64 0, .int .i64 0, .int .i64 0, .int .i64 0], .int .i64 7]) (by simp [results, Tryd.results48, go_sem, h4.1, h4.2.1, h4.2.2.1, h4.2.2.2]) rfl (RgP.bad HK2.out (four_below HR1.out.bel _ (Nat.le_refl _) _ _ _ _))
      · obtain ⟨y0, rfl⟩ := k0.out (by omega)
        obtain ⟨y1, rfl⟩ := k1.out (by omega)
        obtain ⟨y2, rfl⟩ := k2.out (by omega)
        have HK2 : Hid (rdK l = true) := by show rdK l = true; rw [HK.out, y0, y1, y2, decide_eq_true hf]; rfl
        have HE2 := Lib.hid (HE.out HK2.out)
        clear HK HE y0 y1 y2 k0 k1 k2
        have d0 := hrl.out.n0
        have d1 := hrl.out.n1
        have d2 := hrl.out.n2
        generalize nuI s0 = v0 at *
        generalize nuI s1 = v1 at *
        generalize nuI s2 = v2 at *
        have HC := Lib.hid (fun W => pck_any v0 v1 v2 fl W)
        rw [← HE2.out] at HC
        have HX : Hid (rdE l = 0 → rdV l = mkR v0 v1 v2 fl) := fun _ => HV.out
        obtain ⟨cd, hcd⟩ : ∃ cd, rdE l = cd := ⟨_, rfl⟩
        rw [hcd] at HC
        have HCD := Lib.hid hcd
        clear HV HE2 hcd
        go_upto_region 16 with fail
        have hl := hrl.out.lt
        have hw0 : Hid (Rl w v0 v1 v2 (wr.alloc (.cells #[.int .i64 v0, .int .i64 v1, .int .i64 v2, .int .i64 fl] 23))) := hrl.out.up ((Below.refl _ _).alloc (Nat.le_refl _) _)
        have q0 : (wr.alloc (.cells #[.int .i64 v0, .int .i64 v1, .int .i64 v2, .int .i64 fl] 23)).cell? ⟨wr.heap.size, 0, none⟩ = some (.int .i64 v0) := by simp
        have q1 : (wr.alloc (.cells #[.int .i64 v0, .int .i64 v1, .int .i64 v2, .int .i64 fl] 23)).cell? ⟨wr.heap.size, 1, none⟩ = some (.int .i64 v1) := by simp
        have q2 : (wr.alloc (.cells #[.int .i64 v0, .int .i64 v1, .int .i64 v2, .int .i64 fl] 23)).cell? ⟨wr.heap.size, 2, none⟩ = some (.int .i64 v2) := by simp
        have q3 : (wr.alloc (.cells #[.int .i64 v0, .int .i64 v1, .int .i64 v2, .int .i64 fl] 23)).cell? ⟨wr.heap.size, 3, none⟩ = some (.int .i64 fl) := by simp
        have hlt : wr.heap.size < (wr.alloc (.cells #[.int .i64 v0, .int .i64 v1, .int .i64 v2, .int .i64 fl] 23)).heap.size := by simp
        obtain ⟨kb, hkb⟩ : ∃ kb, kb = wr.heap.size := ⟨_, rfl⟩
        rw [← hkb] at q0 q1 q2 q3 hlt hl ⊢
        generalize wr.alloc (.cells #[.int .i64 v0, .int .i64 v1, .int .i64 v2, .int .i64 fl] 23) = W0 at *
        clear hkb hrl d0 d1 d2
        obtain ⟨ka, hka⟩ : ∃ ka, ka = w.heap.size := ⟨_, rfl⟩
        have HKA := Lib.hid hka
        rw [← hka] at hl ⊢
        have e0 : W0.cell? ⟨ka, 0, none⟩ = some (.int .i64 0) := by rw [hka]; exact hw0.out.z0
        have e1 : W0.cell? ⟨ka, 1, none⟩ = some (.int .i64 0) := by rw [hka]; exact hw0.out.z1
        have e2 : W0.cell? ⟨ka, 2, none⟩ = some (.int .i64 0) := by rw [hka]; exact hw0.out.z2
        have e3 : W0.cell? ⟨ka, 3, none⟩ = some (.int .i64 0) := by rw [hka]; exact hw0.out.z3
        have f0 : W0.frozen? ⟨ka, 0, none⟩ = false := by rw [hka]; exact hw0.out.fz 0
        have f1 : W0.frozen? ⟨ka, 1, none⟩ = false := by rw [hka]; exact hw0.out.fz 1
        have f2 : W0.frozen? ⟨ka, 2, none⟩ = false := by rw [hka]; exact hw0.out.fz 2
        have f3 : W0.frozen? ⟨ka, 3, none⟩ = false := by rw [hka]; exact hw0.out.fz 3
        have HB : Hid (Below ka w W0) := by rw [hka]; exact hw0.out.bel
        have hne : ¬ kb = ka := by omega
        have hne2 : ¬ ka = kb := by omega
        have hka2 : ka < W0.heap.size := by omega
        have hkk : ka < kb := by omega
        clear hka hl hw0 HD0 HD1 HD2 HS0 HS1 HS2 HF2 HW c3
        have HZ : Hid (Zr ka W0) := ⟨⟨e0, e1, e2, e3⟩, ⟨f0, f1, f2, f3⟩, hka2⟩
        have HS0 : Hid (Sq ka kb w v0 v1 v2 fl W0) := ⟨q0, q1, q2, q3, (show Kq ka kb w W0 from ⟨HB.out, hlt, hkk⟩)⟩
        have HC2 : Hid (∀ W, Sq ka kb w v0 v1 v2 fl W → Calls Tryd.prog 18 #[.agg #[.int .i64 v0, .int .i64 v1, .int .i64 v2, .int .i64 fl]] W fun e w' => e = .returned (.int .i64 cd) ∧ Sq ka kb w v0 v1 v2 fl w' ∧ Hid (Below W.heap.size W w')) := fun W h => (HC.out W).mono fun e w' hh => ⟨hh.1, Sq_up h hh.2, hh.2⟩
        clear HC q0 q1 q2 q3
        go_region_held3 (fun W => W.cell? ⟨kb, 0, none⟩ = some (.int .i64 v0) ∧ W.cell? ⟨kb, 1, none⟩ = some (.int .i64 v1) ∧ W.cell? ⟨kb, 2, none⟩ = some (.int .i64 v2) ∧ W.cell? ⟨kb, 3, none⟩ = some (.int .i64 fl) ∧ Hid (Kq ka kb w W)) (first | (with_reducible assumption) | (with_reducible exact HS0.out) | (with_reducible exact Sq_drew HS0.out) | (with_reducible exact Sq_drewN HS0.out _) | (with_reducible exact Sq_set (Sq_set (Sq_set (Sq_set (by assumption) _ _) _ _) _ _) _ _) | fail) (first
          | (go_at_call 18; refine (HC2.out _ (by assumption)).mono ?_; rintro e w5 ⟨rfl, hS5, hb5⟩; have hz5 := Zr.up (Zr.drew HZ.out) hb5.out; obtain ⟨⟨d0, d1, d2, d3⟩, ⟨g0, g1, g2, g3⟩, _⟩ := hz5))
        have h4 := four_set w5 ka (.int .i64 v0) (.int .i64 v1) (.int .i64 v2) (.int .i64 fl) d0 d1 d2 d3
        have HB9 := Lib.hid (Sq_set (Sq_set (Sq_set (Sq_set hS5 0 (.int .i64 v0)) 1 (.int .i64 v1)) 2 (.int .i64 v2)) 3 (.int .i64 fl)).2.2.2.2.out.1
        go_wp2_with fail
        exact bodyPost_ret (v := .tuple #[.agg #[.int .i64 v0, .int .i64 v1, .int .i64 v2, .int .i64 fl], .int .i64 cd]) (by simp [results, Tryd.results48, go_sem, h4.1, h4.2.1, h4.2.2.1, h4.2.2.2]) rfl ⟨v0, v1, v2, fl, by rw [HCD.out], fun h => HX.out h, by rw [← HKA.out]; exact HB9.out⟩
  · have HF2 : Hid (∀ W, FlW W → Calls Tryd.prog 62 #[.string s3] W (RtN 0 false W)) := fun W h => by
      have h2 := HF.out W h
      rw [if_neg hf, decide_eq_false hf] at h2
      exact h2
    have HK2 : Hid (rdK l = false) := by show rdK l = false; rw [HK.out, decide_eq_false hf, Bool.and_false, Bool.and_false, Bool.and_false]
    clear HF HK
    go_enter Tryd.func48, Tryd.ntmps48
    go_wp2_with (go_at_call 62; refine (HF2.out _ (HW.out.up ((Below.refl _ _).alloc (Nat.le_refl _) _) (Nat.le_refl _))).mono ?_; rintro e w' ⟨rfl, rfl⟩)
    exact bodyPost_ret (v := .tuple #[.agg #[.int .i64 0, .int .i64 0, .int .i64 0, .int .i64 0], .int .i64 7]) (by simp [results, Tryd.results48, go_sem]) rfl (RgP.bad HK2.out ((Below.refl _ _).alloc (Nat.le_refl _) _))
theorem prdg_any (p : Option Addr) (c : Nat) (l : List ByteArray) (w : World) (hp : RdS w p l) (hw : FlW w) (hl : WOk l) (h9 : l.length ≤ 2000000000) : Calls Tryd.prog 48 #[.slice p l.length c] w (RgP w l) := by
  by_cases h4 : l.length = 4
  · obtain ⟨g, rfl, ht⟩ := hp (by omega)
    rw [h4]
    exact rdg_four g c l w ht hw h4 hl
  · exact rdg_short p c l w h4 h9
end Go.Proofs.YtlelcooomfcbaaaDoor.Gg

/-
  Contracts of tableOf, flowAt, flowLowered, flowOf, Check and Flow of package rating at a valid rating.
-/
import Derived.Test.YtdcjgeebkinjlaaCuPts
import Derived.Test.YtdcjgeebkinjlaaGpFns
namespace Go.Proofs.Ytdcjgeebkinjlaa.Ra
open Go.ChangeShapes Go.WideShapes Go.ChangeAt Go.RowKit
open Go.Proofs.Ytdcjgeebkinjlaa.Cu hiding inB inB_yes inB_no
open Go.Proofs.Ytdcjgeebkinjlaa.Ca (inB inB_yes inB_no)
open Go.Proofs.Ytdcjgeebkinjlaa.Gg (ckG ckG_zero pck_any Ek Vr)
set_option linter.unusedVariables false

theorem fz_any (most x : Int) (w : World) :
    Calls Try.prog 22 #[.int .i64 most, .int .i64 x] w fun e w' => e = .returned (.bool (inB x most)) ∧ w = w' := by
  by_cases h1 : 0 ≤ x <;> by_cases h2 : x ≤ most
  all_goals
    go_enter Try.func22, Try.ntmps22
    go_wp2
    go_ret
    exact ⟨by simp [inB]; omega, rfl⟩

/-- What package curve does at the curve of a rating. -/
structure CvOk (b off n c : Nat) (X Y : Nat → Int) (m : Nat) : Prop where
  chk : ∀ W, Pts W b off n X Y → Calls Try.prog 27 #[.slice (some ⟨b, off, none⟩) n c] W (Ek 0 W)
  at_ : ∀ W x, Pts W b off n X Y → Calls Try.prog 29 #[.slice (some ⟨b, off, none⟩) n c, .int .i64 x] W fun e w' => e = .returned (.tuple #[.int .i64 (val X Y m x), .int .i64 0]) ∧ Below W.heap.size W w'

theorem fat_ok (b off n c m : Nat) (X Y : Nat → Int) (x : Int) (w : World) (hc : CvOk b off n c X Y m) (hp : Pts w b off n X Y) : Calls Try.prog 24 #[.agg #[.slice (some ⟨b, off, none⟩) n c], .int .i64 x] w (Ek (val X Y m x) w) := by
  have HA := Lib.hid (fun W hp => hc.at_ W x hp)
  have HP := Lib.hid (hp.alloc (.cells #[.slice (some ⟨b, off, none⟩) n c] 56))
  generalize val X Y m x = v at *
  clear hc hp
  go_enter Try.func24, Try.ntmps24
  go_wp2_with (go_at_call 29; refine (HA.out _ HP.out).mono ?_; rintro e w1 ⟨rfl, hb1⟩; have HB1 := Lib.hid hb1; clear hb1)
  go_ret
  exact ⟨rfl, ((Below.refl _ _).alloc (Nat.le_refl _) _).trans (HB1.out.mono (by simp))⟩

theorem flo_ok (b off n c m : Nat) (X Y : Nat → Int) (v y : Int) (w : World) (hc : CvOk b off n c X Y m) (hp : Pts w b off n X Y) (hv : 0 ≤ v ∧ v ≤ 1073741824) (hy : 0 ≤ y ∧ y ≤ 1073741824) : Calls Try.prog 23 #[.agg #[.slice (some ⟨b, off, none⟩) n c], .int .i64 v, .int .i64 y] w (Ek (val X Y m (max 0 (v - y))) w) := by
  have HA := Lib.hid (fun W hp => fat_ok b off n c m X Y (max 0 (v - y)) W hc hp)
  have hmx : max 0 (v - y) = if y < v then v - y else 0 := by split <;> omega
  rw [hmx] at HA ⊢
  clear hmx
  have HP := Lib.hid (hp.alloc (.cells #[.slice (some ⟨b, off, none⟩) n c] 56))
  generalize val X Y m (if y < v then v - y else 0) = z at *
  clear hc hp
  go_enter Try.func23, Try.ntmps23
  go_wp2_with (go_at_call 24; refine (HA.out _ HP.out).mono ?_; rintro e w1 ⟨rfl, hb1⟩; have HB1 := Lib.hid hb1; clear hb1)
  all_goals
    go_ret
    exact ⟨rfl, ((Below.refl _ _).alloc (Nat.le_refl _) _).trans (HB1.out.mono (by simp))⟩

/-- Two boxes of two cells: what lies in them behind a call. -/
theorem boxes2 {w w1 : World} {u v a0 a1 : Value} {t t' : TypeId} (hb : Below ((w.alloc (.cells #[u, v] t)).alloc (.cells #[a0, a1] t')).heap.size ((w.alloc (.cells #[u, v] t)).alloc (.cells #[a0, a1] t')) w1) :
    (w1.cell? ⟨w.heap.size, 0, none⟩ = some u ∧ w1.cell? ⟨w.heap.size, 1, none⟩ = some v) ∧ (w1.cell? ⟨w.heap.size + 1, 0, none⟩ = some a0 ∧ w1.cell? ⟨w.heap.size + 1, 1, none⟩ = some a1) ∧
    (w1.frozen? ⟨w.heap.size + 1, 0, none⟩ = false ∧ w1.frozen? ⟨w.heap.size + 1, 1, none⟩ = false) ∧ Below w.heap.size w w1 :=
  ⟨⟨(hb.cell (p := ⟨w.heap.size, 0, none⟩) (by simp; omega)).trans (by simp), (hb.cell (p := ⟨w.heap.size, 1, none⟩) (by simp; omega)).trans (by simp)⟩,
    ⟨(hb.cell (p := ⟨w.heap.size + 1, 0, none⟩) (by simp)).trans (by simp), (hb.cell (p := ⟨w.heap.size + 1, 1, none⟩) (by simp)).trans (by simp)⟩,
    ⟨(hb.frozen (p := ⟨w.heap.size + 1, 0, none⟩) (by simp)).trans (by simp), (hb.frozen (p := ⟨w.heap.size + 1, 1, none⟩) (by simp)).trans (by simp)⟩,
    (((Below.refl w.heap.size w).alloc (Nat.le_refl _) _).alloc (by simp) _).trans (hb.mono (by simp; omega))⟩

def TaP (b off n c : Nat) (ice : Int) (w : World) (e : Ending) (w' : World) : Prop := e = .returned (.tuple #[.agg #[.slice (some ⟨b, off, none⟩) n c, .int .i64 ice], .int .i64 0]) ∧ Below w.heap.size w w'
theorem tab_ok (b off n c m : Nat) (X Y : Nat → Int) (ice : Int) (w : World) (hc : CvOk b off n c X Y m) (hp : Pts w b off n X Y) (hi : 0 ≤ ice ∧ ice ≤ 16777216) : Calls Try.prog 19 #[.agg #[.slice (some ⟨b, off, none⟩) n c, .int .i64 ice]] w (TaP b off n c ice w) := by
  have HC := Lib.hid (fun W hp => hc.chk W hp)
  have HP := Lib.hid ((hp.alloc (.cells #[.slice (some ⟨b, off, none⟩) n c, .int .i64 ice] 25)).alloc (.cells #[.slice none 0 0, .int .i64 0] 58))
  have HF : Hid (∀ W, Calls Try.prog 22 #[.int .i64 16777216, .int .i64 ice] W fun e w' => e = .returned (.bool true) ∧ W = w') := fun W => by
    have h := fz_any 16777216 ice W
    rwa [inB_yes hi] at h
  clear hc hp
  go_enter Try.func19, Try.ntmps19
  go_wp2_with (first
    | (go_at_call 27; refine (HC.out _ HP.out).mono ?_; rintro e w1 ⟨rfl, hb1⟩; obtain ⟨⟨c0, c1⟩, ⟨d0, d1⟩, ⟨f0, f1⟩, hbw⟩ := boxes2 hb1; have HB1 := Lib.hid hbw; clear hb1 hbw)
    | (go_at_call 22; refine (HF.out _).mono ?_; rintro e w2 ⟨rfl, rfl⟩))
  have e0 : (w1.setCell ⟨w.heap.size + 1, 0, none⟩ (.slice (some ⟨b, off, none⟩) n c)).cell? ⟨w.heap.size + 1, 0, none⟩ = some (.slice (some ⟨b, off, none⟩) n c) := World.cell?_setCell_same _ _ _ d0
  have e1 : ((w1.setCell ⟨w.heap.size + 1, 0, none⟩ (.slice (some ⟨b, off, none⟩) n c)).setCell ⟨w.heap.size + 1, 1, none⟩ (.int .i64 ice)).cell? ⟨w.heap.size + 1, 1, none⟩ = some (.int .i64 ice) := World.cell?_setCell_same _ _ _ ((World.cell?_setCell_other _ _ _ _ (by simp)).trans d1)
  exact bodyPost_ret (v := .tuple #[.agg #[.slice (some ⟨b, off, none⟩) n c, .int .i64 ice], .int .i64 0]) (by simp [results, Try.results19, go_sem, e0, e1]) rfl ⟨rfl, (HB1.out.setCell (by simp) _).setCell (by simp) _⟩

/-- Two boxes, the first of two cells, the second of four: what lies in them behind a call. -/
theorem two_boxes {w w1 : World} {u v a0 a1 a2 a3 : Value} {t t' : TypeId} (hb : Below ((w.alloc (.cells #[u, v] t)).alloc (.cells #[a0, a1, a2, a3] t')).heap.size ((w.alloc (.cells #[u, v] t)).alloc (.cells #[a0, a1, a2, a3] t')) w1) :
    (w1.cell? ⟨w.heap.size, 0, none⟩ = some u ∧ w1.cell? ⟨w.heap.size, 1, none⟩ = some v) ∧ (w1.cell? ⟨w.heap.size + 1, 0, none⟩ = some a0 ∧ w1.cell? ⟨w.heap.size + 1, 1, none⟩ = some a1 ∧ w1.cell? ⟨w.heap.size + 1, 2, none⟩ = some a2 ∧ w1.cell? ⟨w.heap.size + 1, 3, none⟩ = some a3) ∧ Below w.heap.size w w1 :=
  ⟨⟨(hb.cell (p := ⟨w.heap.size, 0, none⟩) (by simp; omega)).trans (by simp), (hb.cell (p := ⟨w.heap.size, 1, none⟩) (by simp; omega)).trans (by simp)⟩,
    ⟨(hb.cell (p := ⟨w.heap.size + 1, 0, none⟩) (by simp)).trans (by simp), (hb.cell (p := ⟨w.heap.size + 1, 1, none⟩) (by simp)).trans (by simp), (hb.cell (p := ⟨w.heap.size + 1, 2, none⟩) (by simp)).trans (by simp), (hb.cell (p := ⟨w.heap.size + 1, 3, none⟩) (by simp)).trans (by simp)⟩,
    (((Below.refl w.heap.size w).alloc (Nat.le_refl _) _).alloc (by simp) _).trans (hb.mono (by simp; omega))⟩

/-- P7.2: the flow of a reading, and whether there is one. -/
def flV (X Y : Nat → Int) (m : Nat) (ice v f : Int) : Int := if f = 2 then 0 else if f = 1 then val X Y m (max 0 (v - ice)) else val X Y m v
def flB (f : Int) : Bool := !decide (f = 2)
def FlP (v : Int) (t : Bool) (w : World) (e : Ending) (w' : World) : Prop := e = .returned (.tuple #[.int .i64 v, .bool t, .int .i64 0]) ∧ Below w.heap.size w w'
theorem fof_ok (b off n c m : Nat) (X Y : Nat → Int) (ice a0 a1 a2 a3 : Int) (w : World) (hc : CvOk b off n c X Y m) (hp : Pts w b off n X Y) (hi : 0 ≤ ice ∧ ice ≤ 16777216) (hk : ckG a0 a1 a2 a3 = 0) : Calls Try.prog 20 #[.agg #[.slice (some ⟨b, off, none⟩) n c, .int .i64 ice], .agg #[.int .i64 a0, .int .i64 a1, .int .i64 a2, .int .i64 a3]] w (FlP (flV X Y m ice a2 a3) (flB a3) w) := by
  have hz := (ckG_zero _ _ _ _).1 hk
  have h2 := hz.2.2.1
  have h3 : a3 = 0 ∨ a3 = 1 ∨ a3 = 2 := by omega
  have HG := Lib.hid (fun W => pck_any a0 a1 a2 a3 W)
  rw [hk] at HG
  have HA := Lib.hid (fun W hp => fat_ok b off n c m X Y a2 W hc hp)
  have HL := Lib.hid (fun W hp => flo_ok b off n c m X Y a2 ice W hc hp h2 (by omega))
  have HP := Lib.hid hp
  clear hc hp hk hz
  rcases h3 with rfl | rfl | rfl
  · have HV : Hid (flV X Y m ice a2 0 = val X Y m a2) := rfl
    generalize val X Y m a2 = z at *
    clear HL
    go_enter Try.func20, Try.ntmps20
    go_wp2_with (first
      | (go_at_call 28; refine (HG.out _).mono ?_; rintro e w1 ⟨rfl, hb1⟩; obtain ⟨⟨c0, c1⟩, ⟨d0, d1, d2, d3⟩, hbw⟩ := two_boxes hb1; have HB1 := Lib.hid hbw; clear hb1 hbw)
      | (go_at_call 24; refine (HA.out _ (HP.out.up HB1.out (Nat.le_refl _))).mono ?_; rintro e w2 ⟨rfl, hb2⟩; have HB2 := Lib.hid (HB1.out.trans (hb2.mono HB1.out.size)); clear hb2))
    go_ret3
    exact ⟨by rw [HV.out]; rfl, HB2.out⟩
  · have HV : Hid (flV X Y m ice a2 1 = val X Y m (max 0 (a2 - ice))) := rfl
    generalize val X Y m (max 0 (a2 - ice)) = z at *
    clear HA
    go_enter Try.func20, Try.ntmps20
    go_wp2_with (first
      | (go_at_call 28; refine (HG.out _).mono ?_; rintro e w1 ⟨rfl, hb1⟩; obtain ⟨⟨c0, c1⟩, ⟨d0, d1, d2, d3⟩, hbw⟩ := two_boxes hb1; have HB1 := Lib.hid hbw; clear hb1 hbw)
      | (go_at_call 23; refine (HL.out _ (HP.out.up HB1.out (Nat.le_refl _))).mono ?_; rintro e w2 ⟨rfl, hb2⟩; have HB2 := Lib.hid (HB1.out.trans (hb2.mono HB1.out.size)); clear hb2))
    go_ret3
    exact ⟨by rw [HV.out]; rfl, HB2.out⟩
  · clear HA HL
    go_enter Try.func20, Try.ntmps20
    go_wp2_with (go_at_call 28; refine (HG.out _).mono ?_; rintro e w1 ⟨rfl, hb1⟩; obtain ⟨⟨c0, c1⟩, ⟨d0, d1, d2, d3⟩, hbw⟩ := two_boxes hb1; have HB1 := Lib.hid hbw; clear hb1 hbw)
    go_ret3
    exact ⟨rfl, HB1.out⟩

theorem rchk_ok (b off n c m : Nat) (X Y : Nat → Int) (ice : Int) (w : World) (hc : CvOk b off n c X Y m) (hp : Pts w b off n X Y) (hi : 0 ≤ ice ∧ ice ≤ 16777216) : Calls Try.prog 21 #[.agg #[.slice (some ⟨b, off, none⟩) n c, .int .i64 ice]] w (Ek 0 w) := by
  have HT := Lib.hid (fun W hp => tab_ok b off n c m X Y ice W hc hp hi)
  have HP := Lib.hid (hp.alloc (.cells #[.slice (some ⟨b, off, none⟩) n c, .int .i64 ice] 25))
  clear hc hp
  go_enter Try.func21, Try.ntmps21
  go_wp2_with (go_at_call 19; refine (HT.out _ HP.out).mono ?_; rintro e w1 ⟨rfl, hb1⟩; have HB1 : Hid (Below w.heap.size w w1) := ((Below.refl _ _).alloc (Nat.le_refl _) _).trans (hb1.mono (by simp)); clear hb1)
  go_ret
  exact ⟨rfl, HB1.out.alloc HB1.out.size _⟩

theorem flow_ok (b off n c m : Nat) (X Y : Nat → Int) (ice a0 a1 a2 a3 : Int) (w : World) (hc : CvOk b off n c X Y m) (hp : Pts w b off n X Y) (hi : 0 ≤ ice ∧ ice ≤ 16777216) (hk : ckG a0 a1 a2 a3 = 0) : Calls Try.prog 10 #[.agg #[.slice (some ⟨b, off, none⟩) n c, .int .i64 ice], .agg #[.int .i64 a0, .int .i64 a1, .int .i64 a2, .int .i64 a3]] w (FlP (flV X Y m ice a2 a3) (flB a3) w) := by
  have HT := Lib.hid (fun W hp => tab_ok b off n c m X Y ice W hc hp hi)
  have HF := Lib.hid (fun W hp => fof_ok b off n c m X Y ice a0 a1 a2 a3 W hc hp hi hk)
  have HP := Lib.hid hp
  have HP0 := Lib.hid ((hp.alloc (.cells #[.slice (some ⟨b, off, none⟩) n c, .int .i64 ice] 25)).alloc (.cells #[.int .i64 a0, .int .i64 a1, .int .i64 a2, .int .i64 a3] 31))
  generalize flV X Y m ice a2 a3 = fv at *
  generalize flB a3 = fb at *
  clear hc hp hk
  go_enter Try.func10, Try.ntmps10
  go_wp2_with (first
    | (go_at_call 19; refine (HT.out _ HP0.out).mono ?_; rintro e w1 ⟨rfl, hb1⟩; obtain ⟨⟨c0, c1⟩, ⟨d0, d1, d2, d3⟩, hbw⟩ := two_boxes hb1; have HB1 := Lib.hid (hbw.alloc hbw.size (.cells #[.slice (some ⟨b, off, none⟩) n c, .int .i64 ice] 58)); have hsz := World.block_lt_of_cell? _ _ d0; clear hb1 hbw)
    | (go_at_call 20; refine (HF.out _ (HP.out.up HB1.out (Nat.le_refl _))).mono ?_; rintro e w2 ⟨rfl, hb2⟩; have HB2 := Lib.hid (HB1.out.trans (hb2.mono HB1.out.size)); clear hb2))
  go_ret3
  exact ⟨rfl, HB2.out⟩
end Go.Proofs.Ytdcjgeebkinjlaa.Ra

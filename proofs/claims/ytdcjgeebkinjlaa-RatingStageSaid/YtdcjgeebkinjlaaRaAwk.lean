/-
  awake (the example of chapter 7), and the contracts of package rating at any later world.
-/
import Derived.Test.YtdcjgeebkinjlaaRaSp
namespace Go.Proofs.Ytdcjgeebkinjlaa.Ra
open Go.ChangeShapes Go.WideShapes Go.ChangeAt Go.RowKit
open Go.Proofs.Ytdcjgeebkinjlaa.Cu hiding inB inB_yes inB_no
open Go.Proofs.Ytdcjgeebkinjlaa.Ca (inB inB_yes inB_no)
open Go.Proofs.Ytdcjgeebkinjlaa.Gg (ckG ckG_zero pck_any Ek Vr)
set_option linter.unusedVariables false

def exX (i : Nat) : Int := if i = 0 then 0 else 100
def exY (i : Nat) : Int := if i = 0 then 0 else 1000
theorem exC : Cur exX exY 1 where
  len := by omega
  xlo := fun i _ => by unfold exX; split <;> omega
  xhi := fun i _ => by unfold exX; split <;> omega
  ylo := fun i _ => by unfold exY; split <;> omega
  yhi := fun i _ => by unfold exY; split <;> omega
  asc := fun i hi => by obtain rfl : i = 0 := by omega
                        exact ⟨by decide, by decide⟩
  prod := fun i hi => by obtain rfl : i = 0 := by omega
                         decide
theorem exP (w : World) : Pts (w.alloc (.cells #[.int .i64 0, .int .i64 0, .int .i64 100, .int .i64 1000] 44)) w.heap.size 0 2 exX exY := by
  refine ⟨by simp, fun i hi => ?_⟩
  match i, hi with
  | 0, _ => exact ⟨by simp [exX], by simp [exY]⟩
  | 1, _ => exact ⟨by simp [exX], by simp [exY]⟩

set_option maxHeartbeats 800000 in
theorem awake_any (w : World) : Calls Try.prog 11 #[] w fun e w' => e = .returned (.bool true) ∧ Below w.heap.size w w' := by
  have HF := Lib.hid (fun W hp => flow_ok w.heap.size 0 2 2 1 exX exY 20 0 0 50 1 W (cv_ok w.heap.size 0 2 1 2 exX exY rfl exC) hp (by omega) (by decide))
  rw [show flV exX exY 1 20 50 1 = 300 by decide, show flB 1 = true by decide] at HF
  have HC := Lib.hid (fun W hp => rchk_ok w.heap.size 0 2 2 1 exX exY 20 W (cv_ok w.heap.size 0 2 1 2 exX exY rfl exC) hp (by omega))
  have HP := Lib.hid ((exP w).alloc (.cells #[.slice (some ⟨w.heap.size, 0, none⟩) 2 2, .int .i64 20] 25))
  have HB := Lib.hid (((Below.refl w.heap.size w).alloc (Nat.le_refl _) (.cells #[.int .i64 0, .int .i64 0, .int .i64 100, .int .i64 1000] 44)).alloc (by simp) (.cells #[.slice (some ⟨w.heap.size, 0, none⟩) 2 2, .int .i64 20] 25))
  go_enter Try.func11, Try.ntmps11
  go_wp2_with (first
    | (go_at_call 10; refine (HF.out _ HP.out).mono ?_; rintro e w1 ⟨rfl, hb1⟩; have HP1 := Lib.hid (HP.out.up hb1 (Nat.le_refl _)); have HB1 := Lib.hid (HB.out.trans (hb1.mono (by simp; omega))); have c0 := (hb1.cell (p := ⟨w.heap.size + 1, 0, none⟩) (by simp)).trans (show _ = some (.slice (some ⟨w.heap.size, 0, none⟩) 2 2) by simp); have c1 := (hb1.cell (p := ⟨w.heap.size + 1, 1, none⟩) (by simp)).trans (show _ = some (.int .i64 20) by simp); clear hb1)
    | (go_at_call 21; refine (HC.out _ HP1.out).mono ?_; rintro e w2 ⟨rfl, hb2⟩; have HB2 := Lib.hid (HB1.out.trans (hb2.mono HB1.out.size)); clear hb2))
  go_ret
  exact ⟨rfl, HB2.out⟩

/-! ### at any later world -/
theorem flow_later {w4 : World} {b off n m c : Nat} {X Y : Nat → Int} {ice : Int} (hn : n = m + 1) (hp : Pts w4 b off n X Y) (hc : Cur X Y m) (hi : 0 ≤ ice ∧ ice ≤ 16777216) (a0 a1 a2 a3 : Int) (hk : ckG a0 a1 a2 a3 = 0) (W : World) (hb : Hid (Below w4.heap.size w4 W)) :
    Calls Try.prog 10 #[.agg #[.slice (some ⟨b, off, none⟩) n c, .int .i64 ice], .agg #[.int .i64 a0, .int .i64 a1, .int .i64 a2, .int .i64 a3]] W fun e w' => e = .returned (.tuple #[.int .i64 (flV X Y m ice a2 a3), .bool (flB a3), .int .i64 0]) ∧ Hid (Below w4.heap.size w4 w') :=
  (flow_ok b off n c m X Y ice a0 a1 a2 a3 W (cv_ok b off n m c X Y hn hc) (hp.up hb.out (Nat.le_refl _)) hi hk).mono fun _ _ ⟨he, h⟩ => ⟨he, hb.out.trans (h.mono hb.out.size)⟩
theorem spread_later {w4 : World} {b off n m c : Nat} {X Y : Nat → Int} {ice : Int} (hn : n = m + 1) (hp : Pts w4 b off n X Y) (hc : Cur X Y m) (hi : 0 ≤ ice ∧ ice ≤ 16777216) (x d : Int) (hx : 0 ≤ x ∧ x ≤ 16777216) (hd : 0 ≤ d ∧ d ≤ 16777216) (W : World) (hb : Hid (Below w4.heap.size w4 W)) :
    Calls Try.prog 12 #[.agg #[.slice (some ⟨b, off, none⟩) n c, .int .i64 ice], .int .i64 x, .int .i64 d] W fun e w' => e = .returned (.tuple #[.agg #[.int .i64 (val X Y m (max 0 (x - d))), .int .i64 (val X Y m (x + d))], .int .i64 0]) ∧ Hid (Below w4.heap.size w4 w') :=
  (spread_ok b off n m c X Y ice x d W hn hc (hp.up hb.out (Nat.le_refl _)) hi hx hd).mono fun _ _ ⟨he, h⟩ => ⟨he, hb.out.trans (h.mono hb.out.size)⟩
theorem stage_later {w4 : World} {b off n m c : Nat} {X Y : Nat → Int} {ice : Int} (hn : n = m + 1) (hp : Pts w4 b off n X Y) (hc : Cur X Y m) (hi : 0 ≤ ice ∧ ice ≤ 16777216) (y : Int) (hy : 0 ≤ y ∧ y ≤ 274877906944) (W : World) (hb : Hid (Below w4.heap.size w4 W)) :
    Calls Try.prog 13 #[.agg #[.slice (some ⟨b, off, none⟩) n c, .int .i64 ice], .int .i64 y] W fun e w' => e = .returned (.tuple #[.int .i64 (fiV X Y m y), .bool (fiB Y m y), .int .i64 0]) ∧ Hid (Below w4.heap.size w4 w') :=
  (stage_ok b off n m c X Y ice y W hn hc (hp.up hb.out (Nat.le_refl _)) hi hy).mono fun _ _ ⟨he, h⟩ => ⟨he, hb.out.trans (h.mono hb.out.size)⟩
theorem awk_later {w4 : World} (W : World) (hb : Hid (Below w4.heap.size w4 W)) : Calls Try.prog 11 #[] W fun e w' => e = .returned (.bool true) ∧ Hid (Below w4.heap.size w4 w') :=
  (awake_any W).mono fun _ _ ⟨he, h⟩ => ⟨he, hb.out.trans (h.mono hb.out.size)⟩
/-- A reading that a law makes. -/
theorem ck0 (x f : Int) (hx : 0 ≤ x ∧ x ≤ 1073741824) (hf : 0 ≤ f ∧ f ≤ 2) : ckG 0 0 x f = 0 := (ckG_zero _ _ _ _).2 ⟨by omega, by omega, hx, hf⟩
end Go.Proofs.Ytdcjgeebkinjlaa.Ra

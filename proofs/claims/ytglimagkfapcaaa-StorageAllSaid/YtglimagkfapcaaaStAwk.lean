/-
  The questions of a valid reservoir; the example of chapter 3; the questions at any later world.
-/
import Derived.Test.YtglimagkfapcaaaStRoom
namespace Go.Proofs.Ytglimagkfapcaaa.Cu
open Go.ChangeShapes Go.WideShapes Go.ChangeAt Go.RowKit
open Go.Shelf Go.Lib
set_option linter.unusedVariables false

theorem stC_res {X Y : Nat → Int} {n m : Nat} {D L F S C : Int} (hn : n = m + 1) (hr : Res X Y m D L F S C) : stC X Y n D L F S C = 0 := by subst hn; exact stC_ok hr
theorem vol_res (b off n m c : Nat) (X Y : Nat → Int) (D L F S C l : Int) (W : World) (hn : n = m + 1) (hp : Pts W b off n X Y) (hr : Res X Y m D L F S C) (hl : 0 ≤ l ∧ l ≤ 16777216) :
    Calls Try.prog 14 #[.agg #[.slice (some ⟨b, off, none⟩) n c, .int .i64 D, .int .i64 L, .int .i64 F, .int .i64 S, .int .i64 C], .int .i64 l] W (PairP (val X Y m l) 0 W) := by
  have h := vol_any (some ⟨b, off, none⟩) n c X Y D L F S C l W (fun _ => ⟨b, off, rfl, hp⟩)
  rw [stC_res hn hr, show n - 1 = m by omega, inB_yes hl] at h
  exact h
theorem lev_res (b off n m c : Nat) (X Y : Nat → Int) (D L F S C v : Int) (W : World) (hn : n = m + 1) (hp : Pts W b off n X Y) (hr : Res X Y m D L F S C) (hv : 0 ≤ v ∧ v ≤ 274877906944) :
    Calls Try.prog 16 #[.agg #[.slice (some ⟨b, off, none⟩) n c, .int .i64 D, .int .i64 L, .int .i64 F, .int .i64 S, .int .i64 C], .int .i64 v] W (PairP (levV X Y m v) 0 W) := by
  have h := lev_any (some ⟨b, off, none⟩) n c X Y D L F S C v W (fun _ => ⟨b, off, rfl, hp⟩) (by omega)
  rw [stC_res hn hr, show n - 1 = m by omega, inB_yes hv] at h
  exact h
theorem zone_res (b off n m c : Nat) (X Y : Nat → Int) (D L F S C l : Int) (W : World) (hn : n = m + 1) (hp : Pts W b off n X Y) (hr : Res X Y m D L F S C) (hl : 0 ≤ l ∧ l ≤ 16777216) :
    Calls Try.prog 18 #[.agg #[.slice (some ⟨b, off, none⟩) n c, .int .i64 D, .int .i64 L, .int .i64 F, .int .i64 S, .int .i64 C], .int .i64 l] W (PairP (zon D L F S C l) 0 W) := by
  have h := zone_any (some ⟨b, off, none⟩) n c X Y D L F S C l W (fun _ => ⟨b, off, rfl, hp⟩)
  rw [stC_res hn hr, inB_yes hl] at h
  exact h
theorem usa_res (b off n m c : Nat) (X Y : Nat → Int) (D L F S C v : Int) (W : World) (hn : n = m + 1) (hp : Pts W b off n X Y) (hr : Res X Y m D L F S C) (hv : 0 ≤ v ∧ v ≤ 274877906944) :
    Calls Try.prog 22 #[.agg #[.slice (some ⟨b, off, none⟩) n c, .int .i64 D, .int .i64 L, .int .i64 F, .int .i64 S, .int .i64 C], .int .i64 v] W (PairP (max 0 (v - val X Y m D)) 0 W) := by
  have h := usa_any (some ⟨b, off, none⟩) n c X Y D L F S C v W (fun _ => ⟨b, off, rfl, hp⟩)
  rw [stC_res hn hr, show n - 1 = m by omega, inB_yes hv] at h
  exact h
theorem room_res (b off n m c : Nat) (X Y : Nat → Int) (D L F S C v l : Int) (W : World) (hn : n = m + 1) (hp : Pts W b off n X Y) (hr : Res X Y m D L F S C) (hv : 0 ≤ v ∧ v ≤ 274877906944) (hl : 0 ≤ l ∧ l ≤ 16777216) :
    Calls Try.prog 20 #[.agg #[.slice (some ⟨b, off, none⟩) n c, .int .i64 D, .int .i64 L, .int .i64 F, .int .i64 S, .int .i64 C], .int .i64 v, .int .i64 l] W (PairP (max 0 (val X Y m l - v)) 0 W) := by
  have h := room_any (some ⟨b, off, none⟩) n c X Y D L F S C v l W (fun _ => ⟨b, off, rfl, hp⟩)
  rw [stC_res hn hr, show n - 1 = m by omega, inB_yes hv, inB_yes hl] at h
  exact h
theorem chk_res (b off n m c : Nat) (X Y : Nat → Int) (D L F S C : Int) (W : World) (hn : n = m + 1) (hp : Pts W b off n X Y) (hr : Res X Y m D L F S C) :
    Calls Try.prog 11 #[.agg #[.slice (some ⟨b, off, none⟩) n c, .int .i64 D, .int .i64 L, .int .i64 F, .int .i64 S, .int .i64 C]] W (RetE 0 W) := by
  have h := stchk_any (some ⟨b, off, none⟩) n c X Y D L F S C W (fun _ => ⟨b, off, rfl, hp⟩)
  rw [stC_res hn hr] at h
  exact h

/-! ### the example of chapter 3 -/
def exX (i : Nat) : Int := if i = 0 then 100 else 200
def exY (i : Nat) : Int := if i = 0 then 0 else 1000
theorem exR : Res exX exY 1 100 120 150 180 200 where
  cur := {
    len := by omega
    xlo := fun i _ => by unfold exX; split <;> omega
    xhi := fun i _ => by unfold exX; split <;> omega
    ylo := fun i _ => by unfold exY; split <;> omega
    yhi := fun i _ => by unfold exY; split <;> omega
    asc := fun i hi => by obtain rfl : i = 0 := by omega
                          exact ⟨by decide, by decide⟩
    prod := fun i hi => by obtain rfl : i = 0 := by omega
                           decide }
  two := by omega
  top := by decide
  ris := fun i hi => by obtain rfl : i = 0 := by omega
                        decide
  lev := by decide
theorem exP (w : World) : Pts (w.alloc (.cells #[.int .i64 100, .int .i64 0, .int .i64 200, .int .i64 1000] 42)) w.heap.size 0 2 exX exY := by
  refine ⟨by simp, fun i hi => ?_⟩
  match i, hi with
  | 0, _ => exact ⟨by simp [exX], by simp [exY]⟩
  | 1, _ => exact ⟨by simp [exX], by simp [exY]⟩

set_option maxRecDepth 100000 in
set_option maxHeartbeats 1600000 in
theorem awk_any (w : World) : Calls Try.prog 24 #[] w fun e w' => e = .returned (.bool true) ∧ Below w.heap.size w w' := by
  have HV := Lib.hid (fun W hp => vol_res w.heap.size 0 2 1 2 exX exY 100 120 150 180 200 150 W rfl hp exR (by omega))
  rw [show val exX exY 1 150 = 500 by decide] at HV
  have HL := Lib.hid (fun W hp => lev_res w.heap.size 0 2 1 2 exX exY 100 120 150 180 200 509 W rfl hp exR (by omega))
  rw [show levV exX exY 1 509 = 150 by decide] at HL
  have HC := Lib.hid (fun W hp => chk_res w.heap.size 0 2 1 2 exX exY 100 120 150 180 200 W rfl hp exR)
  have HP := Lib.hid (exP w)
  have HB0 := Lib.hid ((Below.refl w.heap.size w).alloc (Nat.le_refl _) (.cells #[.int .i64 100, .int .i64 0, .int .i64 200, .int .i64 1000] 42))
  go_enter Try.func24, Try.ntmps24
  go_wp2_with (first
    | (go_at_call 14; refine (HV.out _ (HP.out.alloc _)).mono ?_; rintro e w1 ⟨rfl, hb1⟩; have HP1 := Lib.hid ((HP.out.alloc _).up hb1 (Nat.le_refl _)); have HBW := Lib.hid ((HB0.out.alloc HB0.out.size _).trans (hb1.mono (by simp; omega))); have HX1 := Lib.hid ((bx_alloc _ _ _ _ _ _ _ _ _ _).below hb1 (by simp)); rw [World.size_alloc] at HX1; obtain ⟨c0, c1, c2, c3, c4, c5⟩ := HX1.out)
    | (go_at_call 16; refine (HL.out _ HP1.out).mono ?_; rintro e w2 ⟨rfl, hb2⟩; have HP2 := Lib.hid (HP1.out.up hb2 (Nat.le_refl _)); have HBW2 := Lib.hid (HBW.out.trans (hb2.mono HBW.out.size)); have HX2 := Lib.hid (HX1.out.below hb2 (World.block_lt_of_cell? _ _ c0)); obtain ⟨d0, d1, d2, d3, d4, d5⟩ := HX2.out; clear c0 c1 c2 c3 c4 c5)
    | (go_at_call 11; refine (HC.out _ HP2.out).mono ?_; rintro e w3 ⟨rfl, hb3⟩))
  go_ret
  exact ⟨rfl, HBW2.out.trans (hb3.mono HBW2.out.size)⟩

/-! ### at any later world -/
theorem vol_later {w4 : World} {b off n m c : Nat} {X Y : Nat → Int} {D L F S C : Int} (hn : n = m + 1) (hp : Pts w4 b off n X Y) (hr : Res X Y m D L F S C) (l : Int) (hl : 0 ≤ l ∧ l ≤ 16777216) (W : World) (hb : Hid (Below w4.heap.size w4 W)) :
    Calls Try.prog 14 #[.agg #[.slice (some ⟨b, off, none⟩) n c, .int .i64 D, .int .i64 L, .int .i64 F, .int .i64 S, .int .i64 C], .int .i64 l] W fun e w' => e = .returned (.tuple #[.int .i64 (val X Y m l), .int .i64 0]) ∧ Hid (Below w4.heap.size w4 w') :=
  (vol_res b off n m c X Y D L F S C l W hn (hp.up hb.out (Nat.le_refl _)) hr hl).mono fun _ _ ⟨he, h⟩ => ⟨he, hb.out.trans (h.mono hb.out.size)⟩
theorem lev_later {w4 : World} {b off n m c : Nat} {X Y : Nat → Int} {D L F S C : Int} (hn : n = m + 1) (hp : Pts w4 b off n X Y) (hr : Res X Y m D L F S C) (v : Int) (hv : 0 ≤ v ∧ v ≤ 274877906944) (W : World) (hb : Hid (Below w4.heap.size w4 W)) :
    Calls Try.prog 16 #[.agg #[.slice (some ⟨b, off, none⟩) n c, .int .i64 D, .int .i64 L, .int .i64 F, .int .i64 S, .int .i64 C], .int .i64 v] W fun e w' => e = .returned (.tuple #[.int .i64 (levV X Y m v), .int .i64 0]) ∧ Hid (Below w4.heap.size w4 w') :=
  (lev_res b off n m c X Y D L F S C v W hn (hp.up hb.out (Nat.le_refl _)) hr hv).mono fun _ _ ⟨he, h⟩ => ⟨he, hb.out.trans (h.mono hb.out.size)⟩
theorem zone_later {w4 : World} {b off n m c : Nat} {X Y : Nat → Int} {D L F S C : Int} (hn : n = m + 1) (hp : Pts w4 b off n X Y) (hr : Res X Y m D L F S C) (l : Int) (hl : 0 ≤ l ∧ l ≤ 16777216) (W : World) (hb : Hid (Below w4.heap.size w4 W)) :
    Calls Try.prog 18 #[.agg #[.slice (some ⟨b, off, none⟩) n c, .int .i64 D, .int .i64 L, .int .i64 F, .int .i64 S, .int .i64 C], .int .i64 l] W fun e w' => e = .returned (.tuple #[.int .i64 (zon D L F S C l), .int .i64 0]) ∧ Hid (Below w4.heap.size w4 w') :=
  (zone_res b off n m c X Y D L F S C l W hn (hp.up hb.out (Nat.le_refl _)) hr hl).mono fun _ _ ⟨he, h⟩ => ⟨he, hb.out.trans (h.mono hb.out.size)⟩
theorem usa_later {w4 : World} {b off n m c : Nat} {X Y : Nat → Int} {D L F S C : Int} (hn : n = m + 1) (hp : Pts w4 b off n X Y) (hr : Res X Y m D L F S C) (v : Int) (hv : 0 ≤ v ∧ v ≤ 274877906944) (W : World) (hb : Hid (Below w4.heap.size w4 W)) :
    Calls Try.prog 22 #[.agg #[.slice (some ⟨b, off, none⟩) n c, .int .i64 D, .int .i64 L, .int .i64 F, .int .i64 S, .int .i64 C], .int .i64 v] W fun e w' => e = .returned (.tuple #[.int .i64 (max 0 (v - val X Y m D)), .int .i64 0]) ∧ Hid (Below w4.heap.size w4 w') :=
  (usa_res b off n m c X Y D L F S C v W hn (hp.up hb.out (Nat.le_refl _)) hr hv).mono fun _ _ ⟨he, h⟩ => ⟨he, hb.out.trans (h.mono hb.out.size)⟩
theorem room_later {w4 : World} {b off n m c : Nat} {X Y : Nat → Int} {D L F S C : Int} (hn : n = m + 1) (hp : Pts w4 b off n X Y) (hr : Res X Y m D L F S C) (v l : Int) (hv : 0 ≤ v ∧ v ≤ 274877906944) (hl : 0 ≤ l ∧ l ≤ 16777216) (W : World) (hb : Hid (Below w4.heap.size w4 W)) :
    Calls Try.prog 20 #[.agg #[.slice (some ⟨b, off, none⟩) n c, .int .i64 D, .int .i64 L, .int .i64 F, .int .i64 S, .int .i64 C], .int .i64 v, .int .i64 l] W fun e w' => e = .returned (.tuple #[.int .i64 (max 0 (val X Y m l - v)), .int .i64 0]) ∧ Hid (Below w4.heap.size w4 w') :=
  (room_res b off n m c X Y D L F S C v l W hn (hp.up hb.out (Nat.le_refl _)) hr hv hl).mono fun _ _ ⟨he, h⟩ => ⟨he, hb.out.trans (h.mono hb.out.size)⟩
theorem awk_later {w4 : World} (W : World) (hb : Hid (Below w4.heap.size w4 W)) : Calls Try.prog 24 #[] W fun e w' => e = .returned (.bool true) ∧ Hid (Below w4.heap.size w4 w') :=
  (awk_any W).mono fun _ _ ⟨he, h⟩ => ⟨he, hb.out.trans (h.mono hb.out.size)⟩
end Go.Proofs.Ytglimagkfapcaaa.Cu

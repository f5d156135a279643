/-
  The walk of the law CurveAdds.
-/
import Derived.Test.YtilejadeknaleaaCuMad
namespace Go.Proofs.Ytilejadeknaleaa.Cu
open Go.ChangeShapes Go.WideShapes Go.ChangeAt Go.RowKit
open Go.Shelf Go.Lib
set_option linter.unusedVariables false

/-- A sum or its error, in words that both texts share. -/
def AdU (n : Nat) (cd : Int) (LX LY : Nat → Int) (W : World) (e : Ending) (w' : World) : Prop :=
  ∃ q cap, e = .returned (.tuple #[.slice q n cap, .int .i64 cd]) ∧ Hid (RdP w' q n LX LY) ∧ Hid (Below W.heap.size W w')
theorem adU_none {cd : Int} {LX LY : Nat → Int} {W w' : World} {e : Ending} (h : AdN cd W e w') : AdU 0 cd LX LY W e w' :=
  ⟨none, 0, h.1, fun h => absurd h (Nat.lt_irrefl _), h.2⟩

/-- What both texts do of two lists of points that can be read: the same. -/
structure Bt (w0 : World) (A B : Value) (n : Nat) (cd : Int) (LX LY : Nat → Int) : Prop where
  one : ∀ W, Hid (Below w0.heap.size w0 W) → Calls Try.prog 10 #[A, B] W (AdU n cd LX LY W)
  two : ∀ W, Hid (Below w0.heap.size w0 W) → Calls Try.prog 11 #[A, B] W (AdU n cd LX LY W)
theorem add_both {w0 : World} {pa pb : Option Addr} {na nb ca cb : Nat} {Xa Ya Xb Yb : Nat → Int} (ha : RdP w0 pa na Xa Ya) (hb : RdP w0 pb nb Xb Yb) :
    ∃ n cd LX LY, n ≤ 4096 ∧ Hid (Bt w0 (.slice pa na ca) (.slice pb nb cb) n cd LX LY) := by
  by_cases h1 : chkC Xa Ya na = 0
  · by_cases h2 : chkC Xb Yb nb = 0
    · obtain ⟨ma, rfl⟩ : ∃ ma, na = ma + 1 := ⟨na - 1, by
        have : na ≠ 0 := by intro e; subst e; unfold chkC at h1; rw [if_pos rfl] at h1; exact absurd h1 (by decide)
        omega⟩
      obtain ⟨mb, rfl⟩ : ∃ mb, nb = mb + 1 := ⟨nb - 1, by
        have : nb ≠ 0 := by intro e; subst e; unfold chkC at h2; rw [if_pos rfl] at h2; exact absurd h2 (by decide)
        omega⟩
      obtain ⟨ba, oa, rfl, hpa⟩ := ha (by omega)
      obtain ⟨bb, ob, rfl, hpb⟩ := hb (by omega)
      have H : Two2 w0 ba oa (ma + 1) ca ma bb ob (mb + 1) cb mb Xa Ya Xb Yb := ⟨rfl, rfl, hpa, hpb, (cur_iff _ _ _).1 h1, (cur_iff _ _ _).1 h2⟩
      have hlen := sumL_len Xa Xb (ma + 1) (mb + 1)
      have la := H.va.len
      have lb := H.vb.len
      by_cases h3 : chkC (lx (sumL Xa Xb (ma + 1) (mb + 1))) (ly (smF Xa Ya ma Xb Yb mb) (sumL Xa Xb (ma + 1) (mb + 1))) (sumL Xa Xb (ma + 1) (mb + 1)).length = 0
      · refine ⟨(sumL Xa Xb (ma + 1) (mb + 1)).length, 0, lx (sumL Xa Xb (ma + 1) (mb + 1)), ly (smF Xa Ya ma Xb Yb mb) (sumL Xa Xb (ma + 1) (mb + 1)), by omega, ⟨fun W hW => (add_ok ba oa _ ca ma bb ob _ cb mb Xa Ya Xb Yb W (H.below hW.out)).mono ?_, fun W hW => (radd_ok ba oa _ ca ma bb ob _ cb mb Xa Ya Xb Yb W (H.below hW.out)).mono ?_⟩⟩
        all_goals
          rintro e w' (⟨_, v, rfl, hg, hbl⟩ | ⟨h4, _⟩)
          · obtain ⟨q, cap, rfl, hr⟩ := gotP_rd hg
            exact ⟨q, cap, rfl, hr, hbl⟩
          · exact absurd h3 h4
      · refine ⟨0, chkC (lx (sumL Xa Xb (ma + 1) (mb + 1))) (ly (smF Xa Ya ma Xb Yb mb) (sumL Xa Xb (ma + 1) (mb + 1))) (sumL Xa Xb (ma + 1) (mb + 1)).length, fun _ => 0, fun _ => 0, by omega, ⟨fun W hW => (add_ok ba oa _ ca ma bb ob _ cb mb Xa Ya Xb Yb W (H.below hW.out)).mono ?_, fun W hW => (radd_ok ba oa _ ca ma bb ob _ cb mb Xa Ya Xb Yb W (H.below hW.out)).mono ?_⟩⟩
        all_goals
          rintro e w' (⟨h4, _⟩ | ⟨_, hN⟩)
          · exact absurd h4 h3
          · exact adU_none hN
    · refine ⟨0, chkC Xb Yb nb, fun _ => 0, fun _ => 0, by omega, ⟨fun W hW => ?_, fun W hW => ?_⟩⟩
      · exact (add_bad2 pa na ca Xa Ya pb nb cb Xb Yb W (ha.below hW.out (Nat.le_refl _)) (hb.below hW.out (Nat.le_refl _)) _ h1 rfl h2).mono fun _ _ h => adU_none h
      · exact (radd_bad2 pa na ca Xa Ya pb nb cb Xb Yb W (ha.below hW.out (Nat.le_refl _)) (hb.below hW.out (Nat.le_refl _)) _ h1 rfl h2).mono fun _ _ h => adU_none h
  · refine ⟨0, chkC Xa Ya na, fun _ => 0, fun _ => 0, by omega, ⟨fun W hW => ?_, fun W hW => ?_⟩⟩
    · exact (add_bad1 pa na ca Xa Ya _ W ⟨pb, nb, cb, rfl⟩ (ha.below hW.out (Nat.le_refl _)) _ rfl h1).mono fun _ _ h => adU_none h
    · exact (radd_bad1 pa na ca Xa Ya _ W ⟨pb, nb, cb, rfl⟩ (ha.below hW.out (Nat.le_refl _)) _ rfl h1).mono fun _ _ h => adU_none h

set_option maxRecDepth 100000 in
set_option maxHeartbeats 16000000 in
theorem lad_walk (pa : Option Addr) (na ca : Nat) (Xa Ya : Nat → Int) (pb : Option Addr) (nb cb : Nat) (Xb Yb : Nat → Int) (p : Option Addr) (n c : Nat) (z : Nat → Int) (w : World) (hra : RdP w pa na Xa Ya) (hrb : RdP w pb nb Xb Yb)
    (hr : RdI w p n z) (hn : n ≤ 9223372036854775807) (hz : ∀ i, -9223372036854775808 ≤ z i ∧ z i ≤ 9223372036854775807) :
    Calls Try.prog 3 #[.slice pa na ca, .slice pb nb cb, .slice p n c] w fun e w' => e = .returned (.bool true) ∧ Below w.heap.size w w' := by
  have HN := Lib.hid (new_any p n c z w hn hz hr)
  have HRA := Lib.hid hra
  have HRB := Lib.hid hrb
  clear hr hz hn hra hrb
  go_enter Try.func3, Try.ntmps3
  go_wp2_with (first
    | (go_at_call 8; refine HN.out.mono ?_; rintro e w1 ⟨rfl, hd1, hb1⟩)
    | (go_at_call 9; first
      | (refine (made_any w.heap.size p n c z _ hd1).mono ?_; rintro e w2 ⟨bx, cx, kx, X, Y, rfl, kx1, kx6, hbx, hpx, hd2, hg2⟩; have hlt1 := hd1.lt; clear hd1)
      | (refine (made_any w.heap.size p n c z _ hd2).mono ?_; rintro e w3 ⟨by_, cy, ky, X2, Y2, rfl, ky1, ky6, hby, hpy, hd3, hg3⟩; clear hd2)))
  have hg23 := grown_trans hg2 hg3
  have HBL : Hid (Below w.heap.size w w3) := hb1.grown hg23 hb1.size (by intro k hk; cases hk; exact Nat.le_refl _)
  have HRX : Hid (RdP w3 (some ⟨bx, 0, none⟩) kx X Y) := fun _ => ⟨bx, 0, rfl, hpx.grown hg3 (by intro e; cases e; omega)⟩
  have HRY : Hid (RdP w3 (some ⟨by_, 0, none⟩) ky X2 Y2) := fun _ => ⟨by_, 0, rfl, hpy⟩
  have HRA3 := Lib.hid (HRA.out.below HBL.out (Nat.le_refl _))
  have HRB3 := Lib.hid (HRB.out.below HBL.out (Nat.le_refl _))
  have hws := HBL.out.size
  clear HN HRA HRB hb1 hg2 hg3 hg23 hpx hpy hd3 hbx hby
  have HPR : Hid (∀ j, j < 3 → ∃ (qa : Option Addr) (ma ka : Nat) (qb : Option Addr) (mb kb : Nat) (n' : Nat) (cd : Int) (LX LY : Nat → Int), (w3.alloc (.cells #[.slice (some ⟨bx, 0, none⟩) kx cx, .slice (some ⟨by_, 0, none⟩) ky cy, .slice pa na ca, .slice (some ⟨by_, 0, none⟩) ky cy, .slice (some ⟨bx, 0, none⟩) kx cx, .slice pb nb cb] 27)).cell? ⟨w3.heap.size, j * 2, none⟩ = some (.slice qa ma ka) ∧
      (w3.alloc (.cells #[.slice (some ⟨bx, 0, none⟩) kx cx, .slice (some ⟨by_, 0, none⟩) ky cy, .slice pa na ca, .slice (some ⟨by_, 0, none⟩) ky cy, .slice (some ⟨bx, 0, none⟩) kx cx, .slice pb nb cb] 27)).cell? ⟨w3.heap.size, j * 2 + 1, none⟩ = some (.slice qb mb kb) ∧ n' ≤ 4096 ∧
      Hid (Bt (w3.alloc (.cells #[.slice (some ⟨bx, 0, none⟩) kx cx, .slice (some ⟨by_, 0, none⟩) ky cy, .slice pa na ca, .slice (some ⟨by_, 0, none⟩) ky cy, .slice (some ⟨bx, 0, none⟩) kx cx, .slice pb nb cb] 27)) (.slice qa ma ka) (.slice qb mb kb) n' cd LX LY)) := by
    intro j hj
    match j, hj with
    | 0, _ =>
      obtain ⟨n', cd, LX, LY, h1, h2⟩ := add_both (ca := cx) (cb := cy) (rdP_alloc HRX.out (.cells #[.slice (some ⟨bx, 0, none⟩) kx cx, .slice (some ⟨by_, 0, none⟩) ky cy, .slice pa na ca, .slice (some ⟨by_, 0, none⟩) ky cy, .slice (some ⟨bx, 0, none⟩) kx cx, .slice pb nb cb] 27)) (rdP_alloc HRY.out _)
      exact ⟨_, _, _, _, _, _, n', cd, LX, LY, by simp, by simp, h1, h2⟩
    | 1, _ =>
      obtain ⟨n', cd, LX, LY, h1, h2⟩ := add_both (ca := ca) (cb := cy) (rdP_alloc HRA3.out (.cells #[.slice (some ⟨bx, 0, none⟩) kx cx, .slice (some ⟨by_, 0, none⟩) ky cy, .slice pa na ca, .slice (some ⟨by_, 0, none⟩) ky cy, .slice (some ⟨bx, 0, none⟩) kx cx, .slice pb nb cb] 27)) (rdP_alloc HRY.out _)
      exact ⟨_, _, _, _, _, _, n', cd, LX, LY, by simp, by simp, h1, h2⟩
    | 2, _ =>
      obtain ⟨n', cd, LX, LY, h1, h2⟩ := add_both (ca := cx) (cb := cb) (rdP_alloc HRX.out (.cells #[.slice (some ⟨bx, 0, none⟩) kx cx, .slice (some ⟨by_, 0, none⟩) ky cy, .slice pa na ca, .slice (some ⟨by_, 0, none⟩) ky cy, .slice (some ⟨bx, 0, none⟩) kx cx, .slice pb nb cb] 27)) (rdP_alloc HRB3.out _)
      exact ⟨_, _, _, _, _, _, n', cd, LX, LY, by simp, by simp, h1, h2⟩
  have HBE : Hid (Below w.heap.size w (w3.alloc (.cells #[.slice (some ⟨bx, 0, none⟩) kx cx, .slice (some ⟨by_, 0, none⟩) ky cy, .slice pa na ca, .slice (some ⟨by_, 0, none⟩) ky cy, .slice (some ⟨bx, 0, none⟩) kx cx, .slice pb nb cb] 27))) := HBL.out.alloc hws _
  have hltE : w3.heap.size < (w3.alloc (.cells #[.slice (some ⟨bx, 0, none⟩) kx cx, .slice (some ⟨by_, 0, none⟩) ky cy, .slice pa na ca, .slice (some ⟨by_, 0, none⟩) ky cy, .slice (some ⟨bx, 0, none⟩) kx cx, .slice pb nb cb] 27)).heap.size := by simp
  clear HRX HRY HRA3 HRB3 HBL hws
  generalize w3.alloc (.cells #[.slice (some ⟨bx, 0, none⟩) kx cx, .slice (some ⟨by_, 0, none⟩) ky cy, .slice pa na ca, .slice (some ⟨by_, 0, none⟩) ky cy, .slice (some ⟨bx, 0, none⟩) kx cx, .slice pb nb cb] 27) = wE at *
  go_loopw [33] (fun i wr => ∃ j : Nat, j ≤ 3 ∧ i = .int .i64 j ∧ Hid (Below wE.heap.size wE wr)) (fun i _ => 3 - (intOf i).toNat)
  case atStart => exact ⟨0, by omega, rfl, Below.refl _ _⟩
  case round =>
    obtain ⟨j, hj, rfl, hbe⟩ := hrel
    by_cases hj3 : j < 3
    · obtain ⟨qa, ma, ka, qb, mb, kb, nn, cd, LX, LY, a1, a2, hnn, hbt⟩ := HPR.out j hj3
      have c1 := (hbe.out.cell (p := ⟨w3.heap.size, j * 2, none⟩) hltE).trans a1
      have c2 := (hbe.out.cell (p := ⟨w3.heap.size, j * 2 + 1, none⟩) hltE).trans a2
      have hji : (j : Int) < 3 := by omega
      have hbw : Hid (∀ o, Below wE.heap.size wE (wr.alloc o)) := fun o => hbe.out.alloc hbe.out.size o
      have hxx : (cd != cd) = false := by simp
      clear a1 a2
      go_wp2_with (first
        | (go_at_call 10; refine (hbt.out.one _ (hbw.out _)).mono ?_; rintro e w5 ⟨q, cap, rfl, hr5, hb5⟩; have f1 : w5.cell? ⟨wr.heap.size, 0, none⟩ = some (.slice qa ma ka) := (hb5.out.cell (p := ⟨wr.heap.size, 0, none⟩) (by simp)).trans (by simp); have f2 : w5.cell? ⟨wr.heap.size, 1, none⟩ = some (.slice qb mb kb) := (hb5.out.cell (p := ⟨wr.heap.size, 1, none⟩) (by simp)).trans (by simp); have hB5 : Hid (Below wE.heap.size wE w5) := (hbw.out _).trans (hb5.out.mono (hbw.out _).size); clear hb5)
        | (go_at_call 11; refine (hbt.out.two _ hB5).mono ?_; rintro e w6 ⟨q2, cap2, rfl, hr6, hb6⟩; have hr5' : Hid (RdP w6 q nn LX LY) := hr5.out.below hb6.out (Nat.le_refl _); have hB6 : Hid (Below wE.heap.size wE w6) := hB5.out.trans (hb6.out.mono hB5.out.size); clear hb6 hr5 hB5)
        | (go_at_call 12; refine (same_yes q q2 nn cap cap2 LX LY _ hnn hr5'.out hr6.out).mono ?_; rintro e w7 ⟨rfl, hb7⟩; have hB7 : Hid (Below wE.heap.size wE w7) := hB6.out.trans (hb7.mono hB6.out.size); clear hb7 hr5' hr6 hB6))
      go_roundw
      case rel => exact ⟨j + 1, by omega, by go_num, hB7⟩
      case measure => simp [intOf]; omega
    · have hj4 : j = 3 := by omega
      subst hj4
      go_wp2_with (go_at_call 13; refine (awake_later _ hbe).mono ?_; rintro e w9 ⟨rfl, hb9⟩)
      go_ret
      exact ⟨rfl, HBE.out.trans (hb9.out.mono HBE.out.size)⟩
end Go.Proofs.Ytilejadeknaleaa.Cu

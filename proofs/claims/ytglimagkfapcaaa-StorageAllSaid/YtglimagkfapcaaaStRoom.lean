/-
  The contract of Room of package storage.
-/
import Derived.Test.YtglimagkfapcaaaStLev
import Derived.StillTailTactics
namespace Go.Proofs.Ytglimagkfapcaaa.Cu
open Go.ChangeShapes Go.WideShapes Go.ChangeAt Go.RowKit
open Go.Shelf Go.Lib
set_option linter.unusedVariables false

set_option maxHeartbeats 8000000 in
theorem room_any (p : Option Addr) (n c : Nat) (X Y : Nat → Int) (D L F S C v l : Int) (w : World) (hp : RdP w p n X Y) :
    Calls Try.prog 20 #[.agg #[.slice p n c, .int .i64 D, .int .i64 L, .int .i64 F, .int .i64 S, .int .i64 C], .int .i64 v, .int .i64 l] w (PairP (ansV (stC X Y n D L F S C) (inB v 274877906944 && inB l 16777216) (max 0 (val X Y (n - 1) l - v))) (ansE (stC X Y n D L F S C) (inB v 274877906944 && inB l 16777216)) w) := by
  have HI := Lib.hid (fun W => isl_any l W)
  have HJ := Lib.hid (fun W => isv_any v W)
  have HW : Hid (∀ W, BA w w.heap.size p n c D L F S C W → Calls Try.prog 32 #[.agg #[.slice p n c, .int .i64 D, .int .i64 L, .int .i64 F, .int .i64 S, .int .i64 C], .bool (inB v 274877906944 && inB l 16777216)] W fun e w' => e = .returned (.int .i64 (ansE (stC X Y n D L F S C) (inB v 274877906944 && inB l 16777216))) ∧ BA w w.heap.size p n c D L F S C w') :=
    fun W h => (cw_any p n c X Y D L F S C _ W (hp.below h.bel (Nat.le_refl _))).mono fun e w' ⟨he, hb⟩ => ⟨he, h.below hb⟩
  by_cases her : ansE (stC X Y n D L F S C) (inB v 274877906944 && inB l 16777216) ≠ 0
  · rw [ans_bad her]
    cases hbv : inB v 274877906944
    · rw [hbv] at HW HJ her
      rw [Bool.false_and] at HW her ⊢
      generalize ansE (stC X Y n D L F S C) false = er at *
      have h2 : (er != 0) = true := by simpa using her
      clear hp her hbv
      go_enter Try.func20, Try.ntmps20
      go_wp2_with fail
      have HA0 := Lib.hid (ba_alloc w p n c D L F S C 24).drew
      generalize w.alloc (.cells #[.slice p n c, .int .i64 D, .int .i64 L, .int .i64 F, .int .i64 S, .int .i64 C] 24) = wA at *
      refine wp_region_still_tail 7 (by kernel_rfl) (by kernel_rfl) ?_
      change wpStill _ _ wA.drew (fun a' => wpList _ _ _ _ a' wA.drew) _ _
      obtain ⟨w2, hw2⟩ : ∃ w2, w2 = wA.drew := ⟨_, rfl⟩
      rw [← hw2] at HA0 ⊢
      obtain ⟨c0, c1, c2, c3, c4, c5, c6⟩ := HA0.out
      clear hw2 c6
      simp only [List.take_succ_cons, List.take_zero, List.drop_succ_cons, List.drop_zero]
      still_step
      still_step
      still_call ((HJ.out _).mono fun e w' h => ⟨h.1, h.2.symm⟩)
      still_step
      still_step
      still_step
      still_step
      refine wpStill_nil ?_
      go_wp2_with (go_at_call 32; refine (HW.out _ HA0.out).mono ?_; rintro e w' ⟨rfl, hS⟩)
      have HSB := Lib.hid hS.bel
      go_ret2
      exact ⟨rfl, HSB.out⟩
    · rw [hbv] at HW HJ her
      rw [Bool.true_and] at HW her ⊢
      generalize ansE (stC X Y n D L F S C) (inB l 16777216) = er at *
      generalize inB l 16777216 = ok at *
      have h2 : (er != 0) = true := by simpa using her
      clear hp her hbv
      go_enter Try.func20, Try.ntmps20
      go_wp2_with fail
      have HA0 := Lib.hid (ba_alloc w p n c D L F S C 24).drew
      obtain ⟨c0, c1, c2, c3, c4, c5, c6⟩ := HA0.out
      generalize w.alloc (.cells #[.slice p n c, .int .i64 D, .int .i64 L, .int .i64 F, .int .i64 S, .int .i64 C] 24) = wA at *
      clear c6
      go_region_held3 (fun W => W.cell? ⟨w.heap.size, 0, none⟩ = some (.slice p n c) ∧ W.cell? ⟨w.heap.size, 1, none⟩ = some (.int .i64 D) ∧ W.cell? ⟨w.heap.size, 2, none⟩ = some (.int .i64 L) ∧ W.cell? ⟨w.heap.size, 3, none⟩ = some (.int .i64 F) ∧ W.cell? ⟨w.heap.size, 4, none⟩ = some (.int .i64 S) ∧ W.cell? ⟨w.heap.size, 5, none⟩ = some (.int .i64 C) ∧ Below w.heap.size w W) (first | exact HA0.out | assumption | go_keep)
        (first
          | (go_at_call 37; refine (HJ.out _).mono ?_; rintro e w' ⟨rfl, rfl⟩)
              | (go_at_call 33; refine (HI.out _).mono ?_; rintro e w' ⟨rfl, rfl⟩)
          | (go_at_call 32; refine (HW.out _ (by assumption)).mono ?_; rintro e w' ⟨rfl, hS⟩))
      have HSB := Lib.hid hS.bel
      go_wp2
      go_ret2
      exact ⟨rfl, HSB.out⟩
  have her0 := Classical.not_not.1 her
  obtain ⟨hc0, hok, hvv⟩ := ans_good her0
  rw [hvv, her0]
  rw [her0, hok] at HW
  obtain ⟨hok1, hok2⟩ := Bool.and_eq_true_iff.1 hok
  rw [hok2] at HI
  rw [hok1] at HJ
  have hres : ∃ m, n = m + 1 ∧ Res X Y m D L F S C := by
    rcases stC_cases X Y n D L F S C with ⟨m, h1, h2, _⟩ | h
    · exact ⟨m, h1, h2⟩
    · exact absurd hc0 h
  obtain ⟨m, hn, hr⟩ := hres
  have hn1 : n - 1 = m := by omega
  rw [hn1]
  obtain ⟨b, off, rfl, hpt⟩ := hp (by omega)
  have v1 : 0 ≤ v ∧ v ≤ 274877906944 := by simpa [inB] using hok1
  clear her her0 hc0 hok hvv hn1 hp hok1 hok2
  have HV := Lib.hid (fun W hp => volAt_any b off n m c X Y D L F S C l W hn hp hr.cur)
  have HP := Lib.hid hpt
  have v2 := val_bd X Y m hr.cur.asc l
  have v3 := hr.cur.ylo 0 (Nat.zero_le _)
  have v4 := hr.cur.yhi m (Nat.le_refl _)
  obtain ⟨v5, v6⟩ := v1
  obtain ⟨v7, v8⟩ := v2
  generalize val X Y m l = vv at *
  clear hn hr hpt
  go_enter Try.func20, Try.ntmps20
  go_wp2_with fail
  have HA0 := Lib.hid (ba_alloc w (some ⟨b, off, none⟩) n c D L F S C 24).drew
  obtain ⟨c0, c1, c2, c3, c4, c5, c6⟩ := HA0.out
  generalize w.alloc (.cells #[.slice (some ⟨b, off, none⟩) n c, .int .i64 D, .int .i64 L, .int .i64 F, .int .i64 S, .int .i64 C] 24) = wA at *
  clear c6
  go_region_held3 (fun W => W.cell? ⟨w.heap.size, 0, none⟩ = some (.slice (some ⟨b, off, none⟩) n c) ∧ W.cell? ⟨w.heap.size, 1, none⟩ = some (.int .i64 D) ∧ W.cell? ⟨w.heap.size, 2, none⟩ = some (.int .i64 L) ∧ W.cell? ⟨w.heap.size, 3, none⟩ = some (.int .i64 F) ∧ W.cell? ⟨w.heap.size, 4, none⟩ = some (.int .i64 S) ∧ W.cell? ⟨w.heap.size, 5, none⟩ = some (.int .i64 C) ∧ Below w.heap.size w W) (first | exact HA0.out | assumption | go_keep)
    (first
      | (go_at_call 37; refine (HJ.out _).mono ?_; rintro e w' ⟨rfl, rfl⟩)
        | (go_at_call 33; refine (HI.out _).mono ?_; rintro e w' ⟨rfl, rfl⟩)
      | (go_at_call 32; refine (HW.out _ (by assumption)).mono ?_; rintro e w' ⟨rfl, hS⟩))
  have HSB := Lib.hid hS
  clear c0 c1 c2 c3 c4 c5 HA0 HW HI
  obtain ⟨c0, c1, c2, c3, c4, c5, c6⟩ := HSB.out
  clear c6
  go_wp2_with (go_at_call 34; refine (HV.out _ (HP.out.up HSB.out.bel (Nat.le_refl _))).mono ?_; rintro e w2 ⟨rfl, hb2⟩)
  go_ret2
  exact ⟨rfl, (HSB.out.below hb2).bel⟩
end Go.Proofs.Ytglimagkfapcaaa.Cu

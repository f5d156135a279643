/-
  Contracts of wrong, Volume, Level, Zone, Room and Usable of the reference of layer 3.
-/
import Derived.Test.YtdblppbjlgmccaaStRck3
namespace Go.Proofs.Ytdblppbjlgmccaa.Cu
open Go.ChangeShapes Go.WideShapes Go.ChangeAt Go.RowKit
open Go.Shelf Go.Lib
set_option linter.unusedVariables false

theorem fresh_rd {p : Option Addr} {n : Nat} {X Y : Nat → Int} {w : World} (hp : RdP w p n X Y) (o : Obj) : RdP (w.alloc o) p n X Y := hp.below ((Below.refl w.heap.size w).alloc (Nat.le_refl _) o) (Nat.le_refl _)

set_option maxHeartbeats 1600000 in
theorem wrong_any (p : Option Addr) (n c : Nat) (X Y : Nat → Int) (D L F S C l : Int) (w : World) (hp : RdP w p n X Y) :
    Calls Try.prog 36 #[.agg #[.slice p n c, .int .i64 D, .int .i64 L, .int .i64 F, .int .i64 S, .int .i64 C], .int .i64 l] w (RetE (ansE (stC X Y n D L F S C) (inB l 16777216)) w) := by
  have HC := Lib.hid (rck3_any p n c X Y D L F S C _ (fresh_rd hp (.cells #[.slice p n c, .int .i64 D, .int .i64 L, .int .i64 F, .int .i64 S, .int .i64 C] 24)))
  have HAL := Lib.hid ((Below.refl w.heap.size w).alloc (Nat.le_refl _) (.cells #[.slice p n c, .int .i64 D, .int .i64 L, .int .i64 F, .int .i64 S, .int .i64 C] 24))
  have HI := Lib.hid (fun W => rin_any l 16777216 W)
  unfold ansE
  generalize stC X Y n D L F S C = cd at *
  generalize inB l 16777216 = ok at *
  clear hp
  by_cases h1 : cd ≠ 0
  · rw [if_pos h1]
    have h2 : (cd != 0) = true := by simpa using h1
    go_enter Try.func36, Try.ntmps36
    go_wp2_with (go_at_call 34; refine HC.out.mono ?_; rintro e w1 ⟨rfl, hb1⟩)
    go_ret
    exact ⟨rfl, HAL.out.trans (hb1.mono (by simp))⟩
  · rw [if_neg h1]
    obtain rfl : cd = 0 := Classical.not_not.1 h1
    clear h1
    cases ok
    · rw [if_neg (by simp)]
      go_enter Try.func36, Try.ntmps36
      go_wp2_with (first | (go_at_call 34; refine HC.out.mono ?_; rintro e w1 ⟨rfl, hb1⟩) | (go_at_call 29; refine (HI.out _).mono ?_; rintro e w' ⟨rfl, rfl⟩))
      go_ret
      exact ⟨rfl, HAL.out.trans (hb1.mono (by simp))⟩
    · rw [if_pos rfl]
      go_enter Try.func36, Try.ntmps36
      go_wp2_with (first | (go_at_call 34; refine HC.out.mono ?_; rintro e w1 ⟨rfl, hb1⟩) | (go_at_call 29; refine (HI.out _).mono ?_; rintro e w' ⟨rfl, rfl⟩))
      go_ret
      exact ⟨rfl, HAL.out.trans (hb1.mono (by simp))⟩

/-- A reservoir whose question has no error. -/
theorem good_res {X Y : Nat → Int} {n : Nat} {D L F S C : Int} {ok : Bool} (h : ansE (stC X Y n D L F S C) ok = 0) : ∃ m, n = m + 1 ∧ Res X Y m D L F S C := by
  obtain ⟨hc0, _, _⟩ := ans_good h
  rcases stC_cases X Y n D L F S C with ⟨m, h1, h2, _⟩ | h
  · exact ⟨m, h1, h2⟩
  · exact absurd hc0 h

set_option maxHeartbeats 4000000 in
theorem rvol_any (p : Option Addr) (n c : Nat) (X Y : Nat → Int) (D L F S C l : Int) (w : World) (hp : RdP w p n X Y) :
    Calls Try.prog 24 #[.agg #[.slice p n c, .int .i64 D, .int .i64 L, .int .i64 F, .int .i64 S, .int .i64 C], .int .i64 l] w (PairP (ansV (stC X Y n D L F S C) (inB l 16777216) (val X Y (n - 1) l)) (ansE (stC X Y n D L F S C) (inB l 16777216)) w) := by
  have HAL := Lib.hid ((Below.refl w.heap.size w).alloc (Nat.le_refl _) (.cells #[.slice p n c, .int .i64 D, .int .i64 L, .int .i64 F, .int .i64 S, .int .i64 C] 24))
  have HBX := Lib.hid (bx_alloc w p n c D L F S C 24)
  have HC := Lib.hid (wrong_any p n c X Y D L F S C l _ (fresh_rd hp (.cells #[.slice p n c, .int .i64 D, .int .i64 L, .int .i64 F, .int .i64 S, .int .i64 C] 24)))
  by_cases her : ansE (stC X Y n D L F S C) (inB l 16777216) ≠ 0
  · rw [ans_bad her]
    generalize ansE (stC X Y n D L F S C) (inB l 16777216) = er at *
    have h2 : (er != 0) = true := by simpa using her
    clear hp her
    go_enter Try.func24, Try.ntmps24
    go_wp2_with (go_at_call 36; refine HC.out.mono ?_; rintro e w1 ⟨rfl, hb1⟩)
    go_ret2
    exact ⟨rfl, HAL.out.trans (hb1.mono (by simp))⟩
  have her0 := Classical.not_not.1 her
  obtain ⟨m, hn, hr⟩ := good_res her0
  obtain ⟨hc0, hok, hvv⟩ := ans_good her0
  rw [hvv, her0]
  have hn1 : n - 1 = m := by omega
  try rw [hn1]
  obtain ⟨b, off, rfl, hpt⟩ := hp (by omega)
  clear her hn1 hp
  rw [her0] at HC
  clear her0 hc0 hok hvv
  have HV := Lib.hid (fun W hp => rAt_any b off n m c X Y l W hn hp hr.cur)
  have HP := Lib.hid (hpt.alloc (.cells #[.slice (some ⟨b, off, none⟩) n c, .int .i64 D, .int .i64 L, .int .i64 F, .int .i64 S, .int .i64 C] 24))
  generalize val X Y m l = vv at *
  clear hn hr hpt
  go_enter Try.func24, Try.ntmps24
  go_wp2_with (first
    | (go_at_call 36; refine HC.out.mono ?_; rintro e w1 ⟨rfl, hb1⟩; have HB1 := Lib.hid (HAL.out.trans (hb1.mono (by simp))); have HP1 := Lib.hid (HP.out.up hb1 (Nat.le_refl _)); obtain ⟨c0, c1, c2, c3, c4, c5⟩ := bx_call HBX.out hb1)
    | (go_at_call 37; refine (HV.out _ HP1.out).mono ?_; rintro e w2 ⟨rfl, hb2⟩))
  go_ret2
  exact ⟨rfl, HB1.out.trans (hb2.mono HB1.out.size)⟩

end Go.Proofs.Ytdblppbjlgmccaa.Cu

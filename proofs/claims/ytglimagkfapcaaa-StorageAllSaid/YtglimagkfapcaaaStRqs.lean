/-
  Contracts of wrong, Volume, Level, Zone, Room and Usable of the reference of layer 3.
-/
import Derived.Test.YtglimagkfapcaaaStRck3
import Derived.Test.YtglimagkfapcaaaStLev
namespace Go.Proofs.Ytglimagkfapcaaa.Cu
open Go.ChangeShapes Go.WideShapes Go.ChangeAt Go.RowKit
open Go.Shelf Go.Lib
set_option linter.unusedVariables false

theorem fresh_rd {p : Option Addr} {n : Nat} {X Y : Nat → Int} {w : World} (hp : RdP w p n X Y) (o : Obj) : RdP (w.alloc o) p n X Y := hp.below ((Below.refl w.heap.size w).alloc (Nat.le_refl _) o) (Nat.le_refl _)

set_option maxHeartbeats 1600000 in
theorem wrong_any (p : Option Addr) (n c : Nat) (X Y : Nat → Int) (D L F S C l : Int) (w : World) (hp : RdP w p n X Y) :
    Calls Try.prog 35 #[.agg #[.slice p n c, .int .i64 D, .int .i64 L, .int .i64 F, .int .i64 S, .int .i64 C], .int .i64 l] w (RetE (ansE (stC X Y n D L F S C) (inB l 16777216)) w) := by
  have HC := Lib.hid (rck3_any p n c X Y D L F S C _ (fresh_rd hp (.cells #[.slice p n c, .int .i64 D, .int .i64 L, .int .i64 F, .int .i64 S, .int .i64 C] 24)))
  have HAL := Lib.hid ((Below.refl w.heap.size w).alloc (Nat.le_refl _) (.cells #[.slice p n c, .int .i64 D, .int .i64 L, .int .i64 F, .int .i64 S, .int .i64 C] 24))
  have HI := Lib.hid (fun W => rin_any l 16777216 W)
  unfold ansE
  generalize stC X Y n D L F S C = cd at *
  generalize inB l 16777216 = ok at *
  clear hp
  by_cases h1 : cd ≠ 0
  · rw [if_pos h1]
    have h2 : (cd != 0) = true := by simpa using h1
    go_enter Try.func35, Try.ntmps35
    go_wp2_with (go_at_call 12; refine HC.out.mono ?_; rintro e w1 ⟨rfl, hb1⟩)
    go_ret
    exact ⟨rfl, HAL.out.trans (hb1.mono (by simp))⟩
  · rw [if_neg h1]
    obtain rfl : cd = 0 := Classical.not_not.1 h1
    clear h1
    cases ok
    · rw [if_neg (by simp)]
      go_enter Try.func35, Try.ntmps35
      go_wp2_with (first | (go_at_call 12; refine HC.out.mono ?_; rintro e w1 ⟨rfl, hb1⟩) | (go_at_call 39; refine (HI.out _).mono ?_; rintro e w' ⟨rfl, rfl⟩))
      go_ret
      exact ⟨rfl, HAL.out.trans (hb1.mono (by simp))⟩
    · rw [if_pos rfl]
      go_enter Try.func35, Try.ntmps35
      go_wp2_with (first | (go_at_call 12; refine HC.out.mono ?_; rintro e w1 ⟨rfl, hb1⟩) | (go_at_call 39; refine (HI.out _).mono ?_; rintro e w' ⟨rfl, rfl⟩))
      go_ret
      exact ⟨rfl, HAL.out.trans (hb1.mono (by simp))⟩

/-- A reservoir whose question has no error. -/
theorem good_res {X Y : Nat → Int} {n : Nat} {D L F S C : Int} {ok : Bool} (h : ansE (stC X Y n D L F S C) ok = 0) : ∃ m, n = m + 1 ∧ Res X Y m D L F S C := by
  obtain ⟨hc0, _, _⟩ := ans_good h
  rcases stC_cases X Y n D L F S C with ⟨m, h1, h2, _⟩ | h
  · exact ⟨m, h1, h2⟩
  · exact absurd hc0 h

set_option maxHeartbeats 4000000 in
theorem rvol_any (p : Option Addr) (n c : Nat) (X Y : Nat → Int) (D L F S C l : Int) (w : World) (hp : RdP w p n X Y) :
    Calls Try.prog 15 #[.agg #[.slice p n c, .int .i64 D, .int .i64 L, .int .i64 F, .int .i64 S, .int .i64 C], .int .i64 l] w (PairP (ansV (stC X Y n D L F S C) (inB l 16777216) (val X Y (n - 1) l)) (ansE (stC X Y n D L F S C) (inB l 16777216)) w) := by
  have HAL := Lib.hid ((Below.refl w.heap.size w).alloc (Nat.le_refl _) (.cells #[.slice p n c, .int .i64 D, .int .i64 L, .int .i64 F, .int .i64 S, .int .i64 C] 24))
  have HBX := Lib.hid (bx_alloc w p n c D L F S C 24)
  have HC := Lib.hid (wrong_any p n c X Y D L F S C l _ (fresh_rd hp (.cells #[.slice p n c, .int .i64 D, .int .i64 L, .int .i64 F, .int .i64 S, .int .i64 C] 24)))
  by_cases her : ansE (stC X Y n D L F S C) (inB l 16777216) ≠ 0
  · rw [ans_bad her]
    generalize ansE (stC X Y n D L F S C) (inB l 16777216) = er at *
    have h2 : (er != 0) = true := by simpa using her
    clear hp her
    go_enter Try.func15, Try.ntmps15
    go_wp2_with (go_at_call 35; refine HC.out.mono ?_; rintro e w1 ⟨rfl, hb1⟩)
    go_ret2
    exact ⟨rfl, HAL.out.trans (hb1.mono (by simp))⟩
  have her0 := Classical.not_not.1 her
  obtain ⟨m, hn, hr⟩ := good_res her0
  obtain ⟨hc0, hok, hvv⟩ := ans_good her0
  rw [hvv, her0]
  have hn1 : n - 1 = m := by omega
  try rw [hn1]
  obtain ⟨b, off, rfl, hpt⟩ := hp (by omega)
  clear her hn1 hp
  rw [her0] at HC
  clear her0 hc0 hok hvv
  have HV := Lib.hid (fun W hp => rAt_any b off n m c X Y l W hn hp hr.cur)
  have HP := Lib.hid (hpt.alloc (.cells #[.slice (some ⟨b, off, none⟩) n c, .int .i64 D, .int .i64 L, .int .i64 F, .int .i64 S, .int .i64 C] 24))
  generalize val X Y m l = vv at *
  clear hn hr hpt
  go_enter Try.func15, Try.ntmps15
  go_wp2_with (first
    | (go_at_call 35; refine HC.out.mono ?_; rintro e w1 ⟨rfl, hb1⟩; have HB1 := Lib.hid (HAL.out.trans (hb1.mono (by simp))); have HP1 := Lib.hid (HP.out.up hb1 (Nat.le_refl _)); obtain ⟨c0, c1, c2, c3, c4, c5⟩ := bx_call HBX.out hb1)
    | (go_at_call 36; refine (HV.out _ HP1.out).mono ?_; rintro e w2 ⟨rfl, hb2⟩))
  go_ret2
  exact ⟨rfl, HB1.out.trans (hb2.mono HB1.out.size)⟩

set_option maxHeartbeats 4000000 in
theorem rzone_any (p : Option Addr) (n c : Nat) (X Y : Nat → Int) (D L F S C l : Int) (w : World) (hp : RdP w p n X Y) :
    Calls Try.prog 19 #[.agg #[.slice p n c, .int .i64 D, .int .i64 L, .int .i64 F, .int .i64 S, .int .i64 C], .int .i64 l] w (PairP (ansV (stC X Y n D L F S C) (inB l 16777216) (zon D L F S C l)) (ansE (stC X Y n D L F S C) (inB l 16777216)) w) := by
  have HAL := Lib.hid ((Below.refl w.heap.size w).alloc (Nat.le_refl _) (.cells #[.slice p n c, .int .i64 D, .int .i64 L, .int .i64 F, .int .i64 S, .int .i64 C] 24))
  have HBX := Lib.hid (bx_alloc w p n c D L F S C 24)
  have HC := Lib.hid (wrong_any p n c X Y D L F S C l _ (fresh_rd hp (.cells #[.slice p n c, .int .i64 D, .int .i64 L, .int .i64 F, .int .i64 S, .int .i64 C] 24)))
  by_cases her : ansE (stC X Y n D L F S C) (inB l 16777216) ≠ 0
  · rw [ans_bad her]
    generalize ansE (stC X Y n D L F S C) (inB l 16777216) = er at *
    have h2 : (er != 0) = true := by simpa using her
    clear hp her
    go_enter Try.func19, Try.ntmps19
    go_wp2_with (go_at_call 35; refine HC.out.mono ?_; rintro e w1 ⟨rfl, hb1⟩)
    go_ret2
    exact ⟨rfl, HAL.out.trans (hb1.mono (by simp))⟩
  have her0 := Classical.not_not.1 her
  obtain ⟨m, hn, hr⟩ := good_res her0
  obtain ⟨hc0, hok, hvv⟩ := ans_good her0
  rw [hvv, her0]
  have hn1 : n - 1 = m := by omega
  try rw [hn1]
  obtain ⟨b, off, rfl, hpt⟩ := hp (by omega)
  clear her hn1 hp
  rw [her0] at HC
  clear her0 hc0 hok hvv
  obtain ⟨l1, l2, l3, l4, l5, l6⟩ := hr.lev
  clear hn hr hpt
  by_cases h0 : l < D
  · rw [show zon D L F S C l = 0 by unfold zon; repeat' split <;> omega]
    go_enter Try.func19, Try.ntmps19
    go_wp2_with (go_at_call 35; refine HC.out.mono ?_; rintro e w1 ⟨rfl, hb1⟩; obtain ⟨c0, c1, c2, c3, c4, c5⟩ := bx_call HBX.out hb1)
    go_ret2
    exact ⟨rfl, HAL.out.trans (hb1.mono (by simp))⟩
  by_cases h1 : C < l
  · rw [show zon D L F S C l = 5 by unfold zon; repeat' split <;> omega]
    go_enter Try.func19, Try.ntmps19
    go_wp2_with (go_at_call 35; refine HC.out.mono ?_; rintro e w1 ⟨rfl, hb1⟩; obtain ⟨c0, c1, c2, c3, c4, c5⟩ := bx_call HBX.out hb1)
    go_ret2
    exact ⟨rfl, HAL.out.trans (hb1.mono (by simp))⟩
  by_cases h2 : S < l
  · rw [show zon D L F S C l = 4 by unfold zon; repeat' split <;> omega]
    go_enter Try.func19, Try.ntmps19
    go_wp2_with (go_at_call 35; refine HC.out.mono ?_; rintro e w1 ⟨rfl, hb1⟩; obtain ⟨c0, c1, c2, c3, c4, c5⟩ := bx_call HBX.out hb1)
    go_ret2
    exact ⟨rfl, HAL.out.trans (hb1.mono (by simp))⟩
  by_cases h3 : l < L
  · rw [show zon D L F S C l = 1 by unfold zon; repeat' split <;> omega]
    go_enter Try.func19, Try.ntmps19
    go_wp2_with (go_at_call 35; refine HC.out.mono ?_; rintro e w1 ⟨rfl, hb1⟩; obtain ⟨c0, c1, c2, c3, c4, c5⟩ := bx_call HBX.out hb1)
    go_ret2
    exact ⟨rfl, HAL.out.trans (hb1.mono (by simp))⟩
  by_cases h4 : l < F
  · rw [show zon D L F S C l = 2 by unfold zon; repeat' split <;> omega]
    go_enter Try.func19, Try.ntmps19
    go_wp2_with (go_at_call 35; refine HC.out.mono ?_; rintro e w1 ⟨rfl, hb1⟩; obtain ⟨c0, c1, c2, c3, c4, c5⟩ := bx_call HBX.out hb1)
    go_ret2
    exact ⟨rfl, HAL.out.trans (hb1.mono (by simp))⟩
  rw [show zon D L F S C l = 3 by unfold zon; repeat' split <;> omega]
  go_enter Try.func19, Try.ntmps19
  go_wp2_with (go_at_call 35; refine HC.out.mono ?_; rintro e w1 ⟨rfl, hb1⟩; obtain ⟨c0, c1, c2, c3, c4, c5⟩ := bx_call HBX.out hb1)
  go_ret2
  exact ⟨rfl, HAL.out.trans (hb1.mono (by simp))⟩

set_option maxHeartbeats 4000000 in
theorem rlev_any (p : Option Addr) (n c : Nat) (X Y : Nat → Int) (D L F S C v : Int) (w : World) (hp : RdP w p n X Y) :
    Calls Try.prog 17 #[.agg #[.slice p n c, .int .i64 D, .int .i64 L, .int .i64 F, .int .i64 S, .int .i64 C], .int .i64 v] w (PairP (ansV (stC X Y n D L F S C) (inB v 274877906944) (levV X Y (n - 1) v)) (ansE (stC X Y n D L F S C) (inB v 274877906944)) w) := by
  have HAL := Lib.hid ((Below.refl w.heap.size w).alloc (Nat.le_refl _) (.cells #[.slice p n c, .int .i64 D, .int .i64 L, .int .i64 F, .int .i64 S, .int .i64 C] 24))
  have HBX := Lib.hid (bx_alloc w p n c D L F S C 24)
  have HC := Lib.hid (rck3_any p n c X Y D L F S C _ (fresh_rd hp (.cells #[.slice p n c, .int .i64 D, .int .i64 L, .int .i64 F, .int .i64 S, .int .i64 C] 24)))
  have HI := Lib.hid (fun W => rin_any v 274877906944 W)
  by_cases her : ansE (stC X Y n D L F S C) (inB v 274877906944) ≠ 0
  · rw [ans_bad her]
    have her2 : inB v 274877906944 = true → stC X Y n D L F S C = 0 → False := fun a b => her (by unfold ansE; rw [b, a]; rfl)
    clear her
    unfold ansE
    by_cases h1 : stC X Y n D L F S C ≠ 0
    · rw [if_pos h1]
      generalize stC X Y n D L F S C = cd at *
      generalize inB v 274877906944 = ok at *
      have h2 : (cd != 0) = true := by simpa using h1
      clear hp h1 her2
      go_enter Try.func17, Try.ntmps17
      go_wp2_with (go_at_call 12; refine HC.out.mono ?_; rintro e w1 ⟨rfl, hb1⟩)
      go_ret2
      exact ⟨rfl, HAL.out.trans (hb1.mono (by simp))⟩
    · rw [if_neg h1]
      rw [Classical.not_not.1 h1] at HC
      cases hok : inB v 274877906944
      · rw [hok] at HI
        rw [if_neg (by simp)]
        clear hp h1 hok her2
        go_enter Try.func17, Try.ntmps17
        go_wp2_with (first | (go_at_call 12; refine HC.out.mono ?_; rintro e w1 ⟨rfl, hb1⟩) | (go_at_call 39; refine (HI.out _).mono ?_; rintro e w' ⟨rfl, rfl⟩))
        go_ret2
        exact ⟨rfl, HAL.out.trans (hb1.mono (by simp))⟩
      · exfalso; exact her2 hok (Classical.not_not.1 h1)
  have her0 := Classical.not_not.1 her
  obtain ⟨m, hn, hr⟩ := good_res her0
  obtain ⟨hc0, hok, hvv⟩ := ans_good her0
  rw [hvv, her0]
  have hn1 : n - 1 = m := by omega
  try rw [hn1]
  obtain ⟨b, off, rfl, hpt⟩ := hp (by omega)
  clear her hn1 hp
  rw [hc0] at HC
  rw [hok] at HI
  have hvr := hok
  clear her0 hc0 hok hvv
  have HV := Lib.hid (fun W hp => rLast_any b off n m c X Y v W hn hp hr.cur)
  have HP := Lib.hid (hpt.alloc (.cells #[.slice (some ⟨b, off, none⟩) n c, .int .i64 D, .int .i64 L, .int .i64 F, .int .i64 S, .int .i64 C] 24))
  have e0 : (0 : Int) < (n : Int) := by omega
  have e0n : 0 < n := by omega
  unfold levV
  generalize laV X Y m v = vv at *
  generalize laB Y v = bb at *
  clear hn hr hpt hvr
  cases bb
  · rw [if_neg (by simp)]
    go_enter Try.func17, Try.ntmps17
    go_wp2_with (first
      | (go_at_call 12; refine HC.out.mono ?_; rintro e w1 ⟨rfl, hb1⟩; have HB1 := Lib.hid (HAL.out.trans (hb1.mono (by simp))); have HP1 := Lib.hid (HP.out.up hb1 (Nat.le_refl _)); obtain ⟨c0, c1, c2, c3, c4, c5⟩ := bx_call HBX.out hb1)
      | (go_at_call 39; refine (HI.out _).mono ?_; rintro e w' ⟨rfl, rfl⟩)
      | (go_at_call 40; refine (HV.out _ HP1.out).mono ?_; rintro e w2 ⟨rfl, hb2⟩; obtain ⟨d0, _⟩ := (bx_call HBX.out hb1).below hb2 (World.block_lt_of_cell? _ _ c0); have hx0 := ((HP1.out.up hb2 (Nat.le_refl _)).2 0 e0n).1; rw [Nat.zero_mul, Nat.add_zero] at hx0))
    go_ret2
    exact ⟨rfl, HB1.out.trans (hb2.mono HB1.out.size)⟩
  · rw [if_pos rfl]
    go_enter Try.func17, Try.ntmps17
    go_wp2_with (first
      | (go_at_call 12; refine HC.out.mono ?_; rintro e w1 ⟨rfl, hb1⟩; have HB1 := Lib.hid (HAL.out.trans (hb1.mono (by simp))); have HP1 := Lib.hid (HP.out.up hb1 (Nat.le_refl _)); obtain ⟨c0, c1, c2, c3, c4, c5⟩ := bx_call HBX.out hb1)
      | (go_at_call 39; refine (HI.out _).mono ?_; rintro e w' ⟨rfl, rfl⟩)
      | (go_at_call 40; refine (HV.out _ HP1.out).mono ?_; rintro e w2 ⟨rfl, hb2⟩))
    go_ret2
    exact ⟨rfl, HB1.out.trans (hb2.mono HB1.out.size)⟩

set_option maxHeartbeats 4000000 in
theorem rusa_any (p : Option Addr) (n c : Nat) (X Y : Nat → Int) (D L F S C v : Int) (w : World) (hp : RdP w p n X Y) :
    Calls Try.prog 23 #[.agg #[.slice p n c, .int .i64 D, .int .i64 L, .int .i64 F, .int .i64 S, .int .i64 C], .int .i64 v] w (PairP (ansV (stC X Y n D L F S C) (inB v 274877906944) (max 0 (v - val X Y (n - 1) D))) (ansE (stC X Y n D L F S C) (inB v 274877906944)) w) := by
  have HAL := Lib.hid ((Below.refl w.heap.size w).alloc (Nat.le_refl _) (.cells #[.slice p n c, .int .i64 D, .int .i64 L, .int .i64 F, .int .i64 S, .int .i64 C] 24))
  have HBX := Lib.hid (bx_alloc w p n c D L F S C 24)
  have HC := Lib.hid (rck3_any p n c X Y D L F S C _ (fresh_rd hp (.cells #[.slice p n c, .int .i64 D, .int .i64 L, .int .i64 F, .int .i64 S, .int .i64 C] 24)))
  have HI := Lib.hid (fun W => rin_any v 274877906944 W)
  by_cases her : ansE (stC X Y n D L F S C) (inB v 274877906944) ≠ 0
  · rw [ans_bad her]
    have her2 : inB v 274877906944 = true → stC X Y n D L F S C = 0 → False := fun a b => her (by unfold ansE; rw [b, a]; rfl)
    clear her
    unfold ansE
    by_cases h1 : stC X Y n D L F S C ≠ 0
    · rw [if_pos h1]
      generalize stC X Y n D L F S C = cd at *
      generalize inB v 274877906944 = ok at *
      have h2 : (cd != 0) = true := by simpa using h1
      clear hp h1 her2
      go_enter Try.func23, Try.ntmps23
      go_wp2_with (go_at_call 12; refine HC.out.mono ?_; rintro e w1 ⟨rfl, hb1⟩)
      go_ret2
      exact ⟨rfl, HAL.out.trans (hb1.mono (by simp))⟩
    · rw [if_neg h1]
      rw [Classical.not_not.1 h1] at HC
      cases hok : inB v 274877906944
      · rw [hok] at HI
        rw [if_neg (by simp)]
        clear hp h1 hok her2
        go_enter Try.func23, Try.ntmps23
        go_wp2_with (first | (go_at_call 12; refine HC.out.mono ?_; rintro e w1 ⟨rfl, hb1⟩) | (go_at_call 39; refine (HI.out _).mono ?_; rintro e w' ⟨rfl, rfl⟩))
        go_ret2
        exact ⟨rfl, HAL.out.trans (hb1.mono (by simp))⟩
      · exfalso; exact her2 hok (Classical.not_not.1 h1)
  have her0 := Classical.not_not.1 her
  obtain ⟨m, hn, hr⟩ := good_res her0
  obtain ⟨hc0, hok, hvv⟩ := ans_good her0
  rw [hvv, her0]
  have hn1 : n - 1 = m := by omega
  try rw [hn1]
  obtain ⟨b, off, rfl, hpt⟩ := hp (by omega)
  clear her hn1 hp
  rw [hc0] at HC
  rw [hok] at HI
  have hvr := hok
  clear her0 hc0 hok hvv
  have hD : inB D 16777216 = true := inB_yes ⟨by have := hr.lev.1; have := hr.cur.xlo 0 (Nat.zero_le _); omega, by obtain ⟨l1, l2, l3, l4, l5, l6⟩ := hr.lev; have := hr.top; omega⟩
  have HV : Hid (∀ W, Pts W b off n X Y → Calls Try.prog 15 #[.agg #[.slice (some ⟨b, off, none⟩) n c, .int .i64 D, .int .i64 L, .int .i64 F, .int .i64 S, .int .i64 C], .int .i64 D] W (PairP (val X Y m D) 0 W)) := fun W h => by
    have h := rvol_any (some ⟨b, off, none⟩) n c X Y D L F S C D W (fun _ => ⟨b, off, rfl, h⟩)
    rw [show stC X Y n D L F S C = 0 by rw [hn]; exact stC_ok hr, hD, show n - 1 = m by omega] at h
    exact h
  have HP := Lib.hid (hpt.alloc (.cells #[.slice (some ⟨b, off, none⟩) n c, .int .i64 D, .int .i64 L, .int .i64 F, .int .i64 S, .int .i64 C] 24))
  have v1 : 0 ≤ v ∧ v ≤ 274877906944 := by simpa [inB] using hvr
  have v2 := val_bd X Y m hr.cur.asc D
  have v3 := hr.cur.ylo 0 (Nat.zero_le _)
  have v4 := hr.cur.yhi m (Nat.le_refl _)
  obtain ⟨v5, v6⟩ := v1
  obtain ⟨v7, v8⟩ := v2
  generalize val X Y m D = vv at *
  clear hn hr hpt hvr hD
  go_enter Try.func23, Try.ntmps23
  go_wp2_with (first
    | (go_at_call 12; refine HC.out.mono ?_; rintro e w1 ⟨rfl, hb1⟩; have HB1 := Lib.hid (HAL.out.trans (hb1.mono (by simp))); have HP1 := Lib.hid (HP.out.up hb1 (Nat.le_refl _)); obtain ⟨c0, c1, c2, c3, c4, c5⟩ := bx_call HBX.out hb1)
    | (go_at_call 39; refine (HI.out _).mono ?_; rintro e w' ⟨rfl, rfl⟩)
    | (go_at_call 15; refine (HV.out _ HP1.out).mono ?_; rintro e w2 ⟨rfl, hb2⟩))
  go_ret2
  exact ⟨rfl, HB1.out.trans (hb2.mono HB1.out.size)⟩

set_option maxHeartbeats 4000000 in
theorem rroom_any (p : Option Addr) (n c : Nat) (X Y : Nat → Int) (D L F S C v l : Int) (w : World) (hp : RdP w p n X Y) (hv64 : -9223372036854775808 ≤ v ∧ v ≤ 9223372036854775807) :
    Calls Try.prog 21 #[.agg #[.slice p n c, .int .i64 D, .int .i64 L, .int .i64 F, .int .i64 S, .int .i64 C], .int .i64 v, .int .i64 l] w (PairP (ansV (stC X Y n D L F S C) (inB v 274877906944 && inB l 16777216) (max 0 (val X Y (n - 1) l - v))) (ansE (stC X Y n D L F S C) (inB v 274877906944 && inB l 16777216)) w) := by
  have HAL := Lib.hid ((Below.refl w.heap.size w).alloc (Nat.le_refl _) (.cells #[.slice p n c, .int .i64 D, .int .i64 L, .int .i64 F, .int .i64 S, .int .i64 C] 24))
  have HBX := Lib.hid (bx_alloc w p n c D L F S C 24)
  have HC := Lib.hid (rvol_any p n c X Y D L F S C l _ (fresh_rd hp (.cells #[.slice p n c, .int .i64 D, .int .i64 L, .int .i64 F, .int .i64 S, .int .i64 C] 24)))
  have HI := Lib.hid (fun W => rin_any v 274877906944 W)
  by_cases he1 : ansE (stC X Y n D L F S C) (inB l 16777216) ≠ 0
  · have e1 : ansE (stC X Y n D L F S C) (inB v 274877906944 && inB l 16777216) = ansE (stC X Y n D L F S C) (inB l 16777216) := by
      unfold ansE at he1 ⊢
      by_cases h : stC X Y n D L F S C ≠ 0
      · rw [if_pos h, if_pos h]
      · rw [if_neg h] at he1 ⊢
        rw [if_neg h]
        cases hl : inB l 16777216
        · simp
        · rw [hl] at he1; simp at he1
    have he2 : ansE (stC X Y n D L F S C) (inB v 274877906944 && inB l 16777216) ≠ 0 := by rw [e1]; exact he1
    rw [ans_bad he2, e1]
    rw [ans_bad he1] at HC
    clear e1 he2
    generalize ansE (stC X Y n D L F S C) (inB l 16777216) = er at *
    have h2 : (er != 0) = true := by simpa using he1
    clear hp he1
    go_enter Try.func21, Try.ntmps21
    go_wp2_with (go_at_call 15; refine HC.out.mono ?_; rintro e w1 ⟨rfl, hb1⟩)
    go_ret2
    exact ⟨rfl, HAL.out.trans (hb1.mono (by simp))⟩
  have her0 := Classical.not_not.1 he1
  obtain ⟨m, hn, hr⟩ := good_res her0
  obtain ⟨hc0, hok, hvv⟩ := ans_good her0
  rw [hvv, her0] at HC
  rw [hok, Bool.and_true, hc0]
  have hn1 : n - 1 = m := by omega
  rw [hn1] at HC ⊢
  have v2 := val_bd X Y m hr.cur.asc l
  have v3 := hr.cur.ylo 0 (Nat.zero_le _)
  have v4 := hr.cur.yhi m (Nat.le_refl _)
  obtain ⟨v7, v8⟩ := v2
  clear he1 her0 hc0 hok hvv hn1 hp hn hr
  generalize val X Y m l = vv at *
  cases hbv : inB v 274877906944
  · rw [hbv] at HI
    show Calls _ _ _ _ (PairP 0 1 w)
    clear hbv
    go_enter Try.func21, Try.ntmps21
    go_wp2_with (first
      | (go_at_call 15; refine HC.out.mono ?_; rintro e w1 ⟨rfl, hb1⟩)
      | (go_at_call 39; refine (HI.out _).mono ?_; rintro e w' ⟨rfl, rfl⟩))
    go_ret2
    exact ⟨rfl, HAL.out.trans (hb1.mono (by simp))⟩
  · rw [hbv] at HI
    show Calls _ _ _ _ (PairP (max 0 (vv - v)) 0 w)
    have v1 : 0 ≤ v ∧ v ≤ 274877906944 := by simpa [inB] using hbv
    obtain ⟨v5, v6⟩ := v1
    clear hbv
    go_enter Try.func21, Try.ntmps21
    go_wp2_with (first
      | (go_at_call 15; refine HC.out.mono ?_; rintro e w1 ⟨rfl, hb1⟩)
      | (go_at_call 39; refine (HI.out _).mono ?_; rintro e w' ⟨rfl, rfl⟩))
    go_ret2
    exact ⟨rfl, HAL.out.trans (hb1.mono (by simp))⟩
end Go.Proofs.Ytglimagkfapcaaa.Cu

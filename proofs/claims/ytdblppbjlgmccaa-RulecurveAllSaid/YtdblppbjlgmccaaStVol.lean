/-
  Contracts of checkWith, Volume, Level, Zone, Room and Usable of package storage.
-/
import Derived.Test.YtdblppbjlgmccaaStChk
namespace Go.Proofs.Ytdblppbjlgmccaa.Cu
open Go.ChangeShapes Go.WideShapes Go.ChangeAt Go.RowKit
open Go.Shelf Go.Lib
set_option linter.unusedVariables false

theorem ans_bad {c : Int} {ok : Bool} (h : ansE c ok ≠ 0) (v : Int) : ansV c ok v = 0 := by
  unfold ansE at h; unfold ansV
  by_cases h1 : c ≠ 0
  · rw [if_pos h1]
  · rw [if_neg h1] at h ⊢
    cases ok
    · rfl
    · exact absurd rfl h
theorem ans_good {c : Int} {ok : Bool} (h : ansE c ok = 0) : c = 0 ∧ ok = true ∧ ∀ v, ansV c ok v = v := by
  unfold ansE at h; unfold ansV
  by_cases h1 : c ≠ 0
  · rw [if_pos h1] at h; exact absurd h h1
  · rw [if_neg h1] at h
    cases ok
    · simp at h
    · exact ⟨Classical.not_not.1 h1, rfl, fun v => by rw [if_neg h1, if_pos rfl]⟩
/-- What a question returns. -/
def PairP (v er : Int) (w : World) (e : Ending) (w' : World) : Prop := e = .returned (.tuple #[.int .i64 v, .int .i64 er]) ∧ Below w.heap.size w w'
/-- What a question keeps. -/
def BA (w0 : World) (k : Nat) (p : Option Addr) (n c : Nat) (D L F S C : Int) (W : World) : Prop :=
  W.cell? ⟨k, 0, none⟩ = some (.slice p n c) ∧ W.cell? ⟨k, 1, none⟩ = some (.int .i64 D) ∧ W.cell? ⟨k, 2, none⟩ = some (.int .i64 L) ∧ W.cell? ⟨k, 3, none⟩ = some (.int .i64 F) ∧ W.cell? ⟨k, 4, none⟩ = some (.int .i64 S) ∧ W.cell? ⟨k, 5, none⟩ = some (.int .i64 C) ∧ Below w0.heap.size w0 W
theorem BA.below {w0 W W' : World} {k : Nat} {p : Option Addr} {n c : Nat} {D L F S C : Int} (h : BA w0 k p n c D L F S C W) (hb : Below W.heap.size W W') : BA w0 k p n c D L F S C W' := by
  obtain ⟨h0, h1, h2, h3, h4, h5, h7⟩ := h
  have b0 := World.block_lt_of_cell? _ _ h0
  exact ⟨(hb.cell (p := ⟨k, 0, none⟩) b0).trans h0, (hb.cell (p := ⟨k, 1, none⟩) b0).trans h1, (hb.cell (p := ⟨k, 2, none⟩) b0).trans h2, (hb.cell (p := ⟨k, 3, none⟩) b0).trans h3, (hb.cell (p := ⟨k, 4, none⟩) b0).trans h4, (hb.cell (p := ⟨k, 5, none⟩) b0).trans h5, h7.trans (hb.mono h7.size)⟩
theorem BA.bel {w0 W : World} {k : Nat} {p : Option Addr} {n c : Nat} {D L F S C : Int} (h : BA w0 k p n c D L F S C W) : Below w0.heap.size w0 W := h.2.2.2.2.2.2
theorem ba_alloc (w : World) (p : Option Addr) (n c : Nat) (D L F S C : Int) (t : TypeId) : BA w w.heap.size p n c D L F S C (w.alloc (.cells #[.slice p n c, .int .i64 D, .int .i64 L, .int .i64 F, .int .i64 S, .int .i64 C] t)) :=
  ⟨by simp, by simp, by simp, by simp, by simp, by simp, (Below.refl w.heap.size w).alloc (Nat.le_refl _) _⟩
theorem BA.drew {w0 W : World} {k : Nat} {p : Option Addr} {n c : Nat} {D L F S C : Int} (h : BA w0 k p n c D L F S C W) : BA w0 k p n c D L F S C W.drew := h.below ⟨rfl, rfl, rfl, Nat.le_refl _, fun _ _ => rfl⟩

set_option maxHeartbeats 1600000 in
theorem cw_any (p : Option Addr) (n c : Nat) (X Y : Nat → Int) (D L F S C : Int) (ok : Bool) (w : World) (hp : RdP w p n X Y) :
    Calls Try.prog 46 #[.agg #[.slice p n c, .int .i64 D, .int .i64 L, .int .i64 F, .int .i64 S, .int .i64 C], .bool ok] w (RetE (ansE (stC X Y n D L F S C) ok) w) := by
  have hal := (Below.refl w.heap.size w).alloc (Nat.le_refl _) (.cells #[.slice p n c, .int .i64 D, .int .i64 L, .int .i64 F, .int .i64 S, .int .i64 C] 24)
  have HC := Lib.hid (stchk_any p n c X Y D L F S C _ (hp.below hal (Nat.le_refl _)))
  have HAL := Lib.hid hal
  unfold ansE
  generalize stC X Y n D L F S C = cd at *
  clear hp hal
  by_cases h1 : cd ≠ 0
  · rw [if_pos h1]
    have h2 : (cd != 0) = true := by simpa using h1
    go_enter Try.func46, Try.ntmps46
    go_wp2_with (go_at_call 32; refine HC.out.mono ?_; rintro e w1 ⟨rfl, hb1⟩)
    go_ret
    exact ⟨rfl, HAL.out.trans (hb1.mono (by simp))⟩
  · rw [if_neg h1]
    obtain rfl : cd = 0 := Classical.not_not.1 h1
    clear h1
    cases ok
    · rw [if_neg (by simp)]
      go_enter Try.func46, Try.ntmps46
      go_wp2_with (go_at_call 32; refine HC.out.mono ?_; rintro e w1 ⟨rfl, hb1⟩)
      go_ret
      exact ⟨rfl, HAL.out.trans (hb1.mono (by simp))⟩
    · rw [if_pos rfl]
      go_enter Try.func46, Try.ntmps46
      go_wp2_with (go_at_call 32; refine HC.out.mono ?_; rintro e w1 ⟨rfl, hb1⟩)
      go_ret
      exact ⟨rfl, HAL.out.trans (hb1.mono (by simp))⟩

set_option maxHeartbeats 4000000 in
theorem vol_any (p : Option Addr) (n c : Nat) (X Y : Nat → Int) (D L F S C l : Int) (w : World) (hp : RdP w p n X Y) :
    Calls Try.prog 33 #[.agg #[.slice p n c, .int .i64 D, .int .i64 L, .int .i64 F, .int .i64 S, .int .i64 C], .int .i64 l] w (PairP (ansV (stC X Y n D L F S C) (inB l 16777216) (val X Y (n - 1) l)) (ansE (stC X Y n D L F S C) (inB l 16777216)) w) := by
  have HI := Lib.hid (fun W => isl_any l W)
  have HW : Hid (∀ W, BA w w.heap.size p n c D L F S C W → Calls Try.prog 46 #[.agg #[.slice p n c, .int .i64 D, .int .i64 L, .int .i64 F, .int .i64 S, .int .i64 C], .bool (inB l 16777216)] W fun e w' => e = .returned (.int .i64 (ansE (stC X Y n D L F S C) (inB l 16777216))) ∧ BA w w.heap.size p n c D L F S C w') :=
    fun W h => (cw_any p n c X Y D L F S C _ W (hp.below h.bel (Nat.le_refl _))).mono fun e w' ⟨he, hb⟩ => ⟨he, h.below hb⟩
  by_cases her : ansE (stC X Y n D L F S C) (inB l 16777216) ≠ 0
  · rw [ans_bad her]
    generalize ansE (stC X Y n D L F S C) (inB l 16777216) = er at *
    generalize inB l 16777216 = ok at *
    have h2 : (er != 0) = true := by simpa using her
    clear hp her
    go_enter Try.func33, Try.ntmps33
    go_wp2_with fail
    have HA0 := Lib.hid (ba_alloc w p n c D L F S C 24).drew
    obtain ⟨c0, c1, c2, c3, c4, c5, c6⟩ := HA0.out
    generalize w.alloc (.cells #[.slice p n c, .int .i64 D, .int .i64 L, .int .i64 F, .int .i64 S, .int .i64 C] 24) = wA at *
    clear c6
    go_region_held3 (fun W => W.cell? ⟨w.heap.size, 0, none⟩ = some (.slice p n c) ∧ W.cell? ⟨w.heap.size, 1, none⟩ = some (.int .i64 D) ∧ W.cell? ⟨w.heap.size, 2, none⟩ = some (.int .i64 L) ∧ W.cell? ⟨w.heap.size, 3, none⟩ = some (.int .i64 F) ∧ W.cell? ⟨w.heap.size, 4, none⟩ = some (.int .i64 S) ∧ W.cell? ⟨w.heap.size, 5, none⟩ = some (.int .i64 C) ∧ Below w.heap.size w W) (first | exact HA0.out | assumption | go_keep)
      (first
        | (go_at_call 47; refine (HI.out _).mono ?_; rintro e w' ⟨rfl, rfl⟩)
        | (go_at_call 46; refine (HW.out _ (by assumption)).mono ?_; rintro e w' ⟨rfl, hS⟩))
    have HSB := Lib.hid hS.bel
    go_wp2
    go_ret2
    exact ⟨rfl, HSB.out⟩
  have her0 := Classical.not_not.1 her
  obtain ⟨hc0, hok, hv⟩ := ans_good her0
  rw [hv, her0]
  rw [her0, hok] at HW
  rw [hok] at HI
  have hres : ∃ m, n = m + 1 ∧ Res X Y m D L F S C := by
    rcases stC_cases X Y n D L F S C with ⟨m, h1, h2, _⟩ | h
    · exact ⟨m, h1, h2⟩
    · exact absurd hc0 h
  obtain ⟨m, hn, hr⟩ := hres
  have hn1 : n - 1 = m := by omega
  try rw [hn1]
  obtain ⟨b, off, rfl, hpt⟩ := hp (by omega)
  clear her her0 hc0 hok hv hn1 hp
  have HV := Lib.hid (fun W hp => volAt_any b off n m c X Y D L F S C l W hn hp hr.cur)
  have HP := Lib.hid hpt
  generalize val X Y m l = vv at *
  clear hn hr hpt
  go_enter Try.func33, Try.ntmps33
  go_wp2_with fail
  have HA0 := Lib.hid (ba_alloc w (some ⟨b, off, none⟩) n c D L F S C 24).drew
  obtain ⟨c0, c1, c2, c3, c4, c5, c6⟩ := HA0.out
  generalize w.alloc (.cells #[.slice (some ⟨b, off, none⟩) n c, .int .i64 D, .int .i64 L, .int .i64 F, .int .i64 S, .int .i64 C] 24) = wA at *
  clear c6
  go_region_held3 (fun W => W.cell? ⟨w.heap.size, 0, none⟩ = some (.slice (some ⟨b, off, none⟩) n c) ∧ W.cell? ⟨w.heap.size, 1, none⟩ = some (.int .i64 D) ∧ W.cell? ⟨w.heap.size, 2, none⟩ = some (.int .i64 L) ∧ W.cell? ⟨w.heap.size, 3, none⟩ = some (.int .i64 F) ∧ W.cell? ⟨w.heap.size, 4, none⟩ = some (.int .i64 S) ∧ W.cell? ⟨w.heap.size, 5, none⟩ = some (.int .i64 C) ∧ Below w.heap.size w W) (first | exact HA0.out | assumption | go_keep)
    (first
      | (go_at_call 47; refine (HI.out _).mono ?_; rintro e w' ⟨rfl, rfl⟩)
      | (go_at_call 46; refine (HW.out _ (by assumption)).mono ?_; rintro e w' ⟨rfl, hS⟩))
  have HSB := Lib.hid hS
  clear c0 c1 c2 c3 c4 c5 HA0 HW HI
  obtain ⟨c0, c1, c2, c3, c4, c5, c6⟩ := HSB.out
  clear c6
  go_wp2_with (go_at_call 48; refine (HV.out _ (HP.out.up HSB.out.bel (Nat.le_refl _))).mono ?_; rintro e w2 ⟨rfl, hb2⟩)
  go_ret2
  exact ⟨rfl, (HSB.out.below hb2).bel⟩

end Go.Proofs.Ytdblppbjlgmccaa.Cu

/-
  The contract of Check of package storage.
-/
import Derived.Test.YtdblppbjlgmccaaStFns
import Derived.Deep.RegionHeld3
namespace Go.Proofs.Ytdblppbjlgmccaa.Cu
open Go.ChangeShapes Go.WideShapes Go.ChangeAt Go.RowKit
open Go.Shelf Go.Lib
set_option linter.unusedVariables false

theorem Try.field_pt (w : World) (x y : Int) : Sem.run Try.prog (Instr.field 45 (Value.agg #[.int .i64 x, .int .i64 y]) 0) w = .ok (.int .i64 x) w := by simp [Instr.field, asAgg, go_sem]
attribute [local go_sem] Try.field_pt

/-- What levelsAscend keeps. -/
def LA (w0 : World) (k b off : Nat) (p : Option Addr) (n c : Nat) (D L F S C x0 : Int) (W : World) : Prop :=
  W.cell? ⟨k, 0, none⟩ = some (.slice p n c) ∧ W.cell? ⟨k, 1, none⟩ = some (.int .i64 D) ∧ W.cell? ⟨k, 2, none⟩ = some (.int .i64 L) ∧ W.cell? ⟨k, 3, none⟩ = some (.int .i64 F) ∧ W.cell? ⟨k, 4, none⟩ = some (.int .i64 S) ∧ W.cell? ⟨k, 5, none⟩ = some (.int .i64 C) ∧ W.cell? ⟨b, off, none⟩ = some (.int .i64 x0) ∧ Below w0.heap.size w0 W
theorem LA.below {w0 W W' : World} {k b off : Nat} {p : Option Addr} {n c : Nat} {D L F S C x0 : Int} (h : LA w0 k b off p n c D L F S C x0 W) (hb : Below W.heap.size W W') : LA w0 k b off p n c D L F S C x0 W' := by
  obtain ⟨h0, h1, h2, h3, h4, h5, h6, h7⟩ := h
  have b0 := World.block_lt_of_cell? _ _ h0
  have b6 := World.block_lt_of_cell? _ _ h6
  exact ⟨(hb.cell (p := ⟨k, 0, none⟩) b0).trans h0, (hb.cell (p := ⟨k, 1, none⟩) b0).trans h1, (hb.cell (p := ⟨k, 2, none⟩) b0).trans h2, (hb.cell (p := ⟨k, 3, none⟩) b0).trans h3, (hb.cell (p := ⟨k, 4, none⟩) b0).trans h4, (hb.cell (p := ⟨k, 5, none⟩) b0).trans h5, (hb.cell (p := ⟨b, off, none⟩) b6).trans h6, h7.trans (hb.mono h7.size)⟩
theorem LA.alc {w0 W : World} {k b off : Nat} {p : Option Addr} {n c : Nat} {D L F S C x0 : Int} (h : LA w0 k b off p n c D L F S C x0 W) (o : Obj) : LA w0 k b off p n c D L F S C x0 (W.alloc o) := h.below ((Below.refl _ _).alloc (Nat.le_refl _) o)

theorem LA.bel {w0 W : World} {k b off : Nat} {p : Option Addr} {n c : Nat} {D L F S C x0 : Int} (h : LA w0 k b off p n c D L F S C x0 W) (o : Obj) : Below w0.heap.size w0 (W.alloc o) := h.2.2.2.2.2.2.2.alloc h.2.2.2.2.2.2.2.size o
set_option maxRecDepth 100000 in
set_option maxHeartbeats 4000000 in
theorem asc_any (b off n m c : Nat) (X Y : Nat → Int) (D L F S C : Int) (w : World) (hn : n = m + 1) (hp : Pts w b off n X Y) (hm : m < 100) :
    Calls Try.prog 45 #[.agg #[.slice (some ⟨b, off, none⟩) n c, .int .i64 D, .int .i64 L, .int .i64 F, .int .i64 S, .int .i64 C]] w fun e w' => e = .returned (.bool (lvlB (X 0) D L F S C (X m))) ∧ Below w.heap.size w w' := by
  have e0 : (0 : Int) < (n : Int) := by omega
  have e0n : 0 < n := by omega
  have hc0 : w.cell? ⟨b, off, none⟩ = some (.int .i64 (X 0)) := by have := (hp.2 0 (by omega)).1; rwa [Nat.zero_mul, Nat.add_zero] at this
  have HLO := Lib.hid (fun W hb => lastOf_any b off n m c X Y D L F S C W hn (hp.up hb (Nat.le_refl _)) hm)
  have HSV := Lib.hid (fun W (k cap : Nat) h0 h1 h2 h3 h4 h5 h6 => seven_any k cap (X 0) D L F S C (X m) W h0 h1 h2 h3 h4 h5 h6)
  generalize X 0 = x0 at *
  generalize X m = xm at *
  generalize Y m = ym at *
  clear hn hp hm
  go_enter Try.func45, Try.ntmps45
  go_wp2_with fail
  have hA0 : LA w w.heap.size b off (some ⟨b, off, none⟩) n c D L F S C x0 (w.alloc (.cells #[.slice (some ⟨b, off, none⟩) n c, .int .i64 D, .int .i64 L, .int .i64 F, .int .i64 S, .int .i64 C] 24)) := by
    have hb := bx_alloc w (some ⟨b, off, none⟩) n c D L F S C 24
    exact ⟨hb.c0, hb.c1, hb.c2, hb.c3, hb.c4, hb.c5, (((Below.refl w.heap.size w).alloc (Nat.le_refl _) _).cell (p := ⟨b, off, none⟩) (World.block_lt_of_cell? _ _ hc0)).trans hc0, (Below.refl w.heap.size w).alloc (Nat.le_refl _) _⟩
  have hsz : w.heap.size < (w.alloc (.cells #[.slice (some ⟨b, off, none⟩) n c, .int .i64 D, .int .i64 L, .int .i64 F, .int .i64 S, .int .i64 C] 24)).heap.size := by simp
  generalize w.alloc (.cells #[.slice (some ⟨b, off, none⟩) n c, .int .i64 D, .int .i64 L, .int .i64 F, .int .i64 S, .int .i64 C] 24) = wA at *
  have hL2 : Hid (∀ W, LA w w.heap.size b off (some ⟨b, off, none⟩) n c D L F S C x0 W → Calls Try.prog 43 #[.agg #[.slice (some ⟨b, off, none⟩) n c, .int .i64 D, .int .i64 L, .int .i64 F, .int .i64 S, .int .i64 C]] W fun e w' => e = .returned (.agg #[.int .i64 xm, .int .i64 ym]) ∧ LA w w.heap.size b off (some ⟨b, off, none⟩) n c D L F S C x0 w') :=
    fun W h => (HLO.out W h.2.2.2.2.2.2.2).mono fun e w' ⟨he, hb⟩ => ⟨he, h.below hb⟩
  have hS2 : Hid (∀ W, LA w w.heap.size b off (some ⟨b, off, none⟩) n c D L F S C x0 W → Calls Try.prog 57 #[.slice (some ⟨W.heap.size, 0, none⟩) 7 7] (W.alloc (.cells #[.int .i64 x0, .int .i64 D, .int .i64 L, .int .i64 F, .int .i64 S, .int .i64 C, .int .i64 xm] 3)) fun e w' => e = .returned (.bool (lvlB x0 D L F S C xm)) ∧ LA w w.heap.size b off (some ⟨b, off, none⟩) n c D L F S C x0 w') := fun W h => by
    refine (HSV.out _ W.heap.size 7 (by simp) (by simp) (by simp) (by simp) (by simp) (by simp) (by simp)).mono ?_
    rintro e w' ⟨he, q, rfl⟩
    exact ⟨he, h.below (((Below.refl W.heap.size W).alloc (Nat.le_refl _) _).trans ⟨rfl, rfl, rfl, Nat.le_refl _, fun _ _ => rfl⟩)⟩
  obtain ⟨h0, h1, h2, h3, h4, h5, h6, h7⟩ := hA0
  have HA0 : Hid (LA w w.heap.size b off (some ⟨b, off, none⟩) n c D L F S C x0 wA.drew) := ⟨h0, h1, h2, h3, h4, h5, h6, h7.drew⟩
  obtain ⟨r, hr⟩ : ∃ r, lvlB x0 D L F S C xm = r := ⟨_, rfl⟩
  rw [hr] at hS2
  have HR := Lib.hid hr
  clear hr
  clear hc0 hsz HLO HSV h7
  go_region_held3 (fun W => W.cell? ⟨w.heap.size, 0, none⟩ = some (.slice (some ⟨b, off, none⟩) n c) ∧ W.cell? ⟨w.heap.size, 1, none⟩ = some (.int .i64 D) ∧ W.cell? ⟨w.heap.size, 2, none⟩ = some (.int .i64 L) ∧ W.cell? ⟨w.heap.size, 3, none⟩ = some (.int .i64 F) ∧ W.cell? ⟨w.heap.size, 4, none⟩ = some (.int .i64 S) ∧ W.cell? ⟨w.heap.size, 5, none⟩ = some (.int .i64 C) ∧ W.cell? ⟨b, off, none⟩ = some (.int .i64 x0) ∧ Below w.heap.size w W) (first | exact HA0.out | assumption | exact LA.alc hS _ | exact LA.bel hS _ | go_keep)
    (first
      | (go_at_call 43; refine (hL2.out _ (by assumption)).mono ?_; rintro e w' ⟨rfl, hS⟩)
      | (go_at_call 57; refine (hS2.out _ (by assumption)).mono ?_; rintro e w' ⟨rfl, hS⟩))
  go_wp2
  go_ret
  exact ⟨congrArg (fun v => Ending.returned (.bool v)) HR.out.symm, hS.2.2.2.2.2.2.2⟩

set_option maxHeartbeats 4000000 in
theorem stchk_any (p : Option Addr) (n c : Nat) (X Y : Nat → Int) (D L F S C : Int) (w : World) (hp : RdP w p n X Y) :
    Calls Try.prog 32 #[.agg #[.slice p n c, .int .i64 D, .int .i64 L, .int .i64 F, .int .i64 S, .int .i64 C]] w (RetE (stC X Y n D L F S C) w) := by
  have hal := (Below.refl w.heap.size w).alloc (Nat.le_refl _) (.cells #[.slice p n c, .int .i64 D, .int .i64 L, .int .i64 F, .int .i64 S, .int .i64 C] 24)
  have hbx := bx_alloc w p n c D L F S C 24
  have hrd := hp.below hal (Nat.le_refl _)
  have HK := Lib.hid (check_any p n c X Y _ hrd)
  have HBX := Lib.hid hbx
  have HAL := Lib.hid hal
  unfold stC
  by_cases h1 : chkC X Y n ≠ 0
  · rw [if_pos h1]
    have hne : (chkC X Y n == 0) = false := by simpa using h1
    have hne2 : (chkC X Y n != 0) = true := by simpa using h1
    clear hal hbx hrd hp
    generalize chkC X Y n = cd at *
    go_enter Try.func32, Try.ntmps32
    go_wp2_with (go_at_call 42; refine HK.out.mono ?_; rintro e w1 ⟨rfl, hb1⟩)
    go_ret
    exact ⟨rfl, HAL.out.trans (hb1.mono (by simp))⟩
  rw [if_neg h1]
  have hz : chkC X Y n = 0 := Classical.not_not.1 h1
  rw [hz] at HK
  by_cases h2 : n < 2
  · rw [if_pos h2]
    have h2' : (n : Int) < 2 := by omega
    clear hal hbx hrd hp h1 hz
    go_enter Try.func32, Try.ntmps32
    go_wp2_with (go_at_call 42; refine HK.out.mono ?_; rintro e w1 ⟨rfl, hb1⟩; have c0 := (bx_call HBX.out hb1).c0)
    go_ret
    exact ⟨rfl, HAL.out.trans (hb1.mono (by simp))⟩
  rw [if_neg h2]
  obtain ⟨b, off, rfl, hpt⟩ := hp (by omega)
  obtain ⟨m, hn⟩ : ∃ m, n = m + 1 := ⟨n - 1, by omega⟩
  have hcur : Cur X Y m := (cur_iff X Y m).1 (by rw [← hn]; exact hz)
  have hm := hcur.len
  have hn1 : n - 1 = m := by omega
  rw [hn1]
  have h2' : ¬ (n : Int) < 2 := by omega
  have HPT := Lib.hid (hpt.up hal (Nat.le_refl _))
  have HLO := Lib.hid (fun W hp => lastOf_any b off n m c X Y D L F S C W hn hp hm)
  have HRI := Lib.hid (fun W hp => rises_any b off n m c X Y W hn hp hm)
  have HAS := Lib.hid (fun W hp => asc_any b off n m c X Y D L F S C W hn hp hm)
  clear hal hbx hrd hp h1 hz hpt hcur hn hn1 hm
  generalize lvlB (X 0) D L F S C (X m) = la at *
  generalize risB Y n = ri at *
  generalize X m = xm at *
  generalize Y m = ym at *
  by_cases h3 : 16777216 < xm
  · rw [if_pos h3]
    go_enter Try.func32, Try.ntmps32
    go_wp2_with (first
      | (go_at_call 42; refine HK.out.mono ?_; rintro e w1 ⟨rfl, hb1⟩; obtain ⟨c0, c1, c2, c3, c4, c5⟩ := bx_call HBX.out hb1; have HP1 := Lib.hid (HPT.out.up hb1 (Nat.le_refl _)))
      | (go_at_call 43; refine (HLO.out _ HP1.out).mono ?_; rintro e w2 ⟨rfl, hb2⟩))
    go_ret
    exact ⟨rfl, (HAL.out.trans (hb1.mono (by simp))).trans (hb2.mono (Nat.le_trans (by simp) hb1.size))⟩
  rw [if_neg h3]
  cases ri
  · rw [if_pos rfl]
    go_enter Try.func32, Try.ntmps32
    go_wp2_with (first
      | (go_at_call 42; refine HK.out.mono ?_; rintro e w1 ⟨rfl, hb1⟩; have HB1 := Lib.hid (bx_call HBX.out hb1); obtain ⟨c0, c1, c2, c3, c4, c5⟩ := HB1.out; have HP1 := Lib.hid (HPT.out.up hb1 (Nat.le_refl _)))
      | (go_at_call 43; refine (HLO.out _ HP1.out).mono ?_; rintro e w2 ⟨rfl, hb2⟩; obtain ⟨d0, d1, d2, d3, d4, d5⟩ := HB1.out.below hb2 (World.block_lt_of_cell? _ _ HB1.out.c0); have HP2 := Lib.hid (HP1.out.up hb2 (Nat.le_refl _)))
      | (go_at_call 44; refine (HRI.out _ HP2.out).mono ?_; rintro e w3 ⟨rfl, q, rfl⟩))
    go_ret
    exact ⟨rfl, ((HAL.out.trans (hb1.mono (by simp))).trans (hb2.mono (Nat.le_trans (by simp) hb1.size))).trans ⟨rfl, rfl, rfl, Nat.le_refl _, fun _ _ => rfl⟩⟩
  rw [if_neg (by simp)]
  cases la
  · rw [if_pos rfl]
    go_enter Try.func32, Try.ntmps32
    go_wp2_with (first
      | (go_at_call 42; refine HK.out.mono ?_; rintro e w1 ⟨rfl, hb1⟩; have HB1 := Lib.hid (bx_call HBX.out hb1); obtain ⟨c0, c1, c2, c3, c4, c5⟩ := HB1.out; have HP1 := Lib.hid (HPT.out.up hb1 (Nat.le_refl _)))
      | (go_at_call 43; refine (HLO.out _ HP1.out).mono ?_; rintro e w2 ⟨rfl, hb2⟩; obtain ⟨d0, d1, d2, d3, d4, d5⟩ := HB1.out.below hb2 (World.block_lt_of_cell? _ _ HB1.out.c0); have HP2 := Lib.hid (HP1.out.up hb2 (Nat.le_refl _)))
      | (go_at_call 44; refine (HRI.out _ HP2.out).mono ?_; rintro e w3 ⟨rfl, q, rfl⟩)
      | (go_at_call 45; refine (HAS.out _ (HP2.out.drewN _)).mono ?_; rintro e w4 ⟨rfl, hb4⟩))
    have hfin : Below w.heap.size w w2 := (HAL.out.trans (hb1.mono (by simp))).trans (hb2.mono (Nat.le_trans (by simp) hb1.size))
    have hfin2 : Below w.heap.size w (w2.drewN q) := hfin.trans ⟨rfl, rfl, rfl, Nat.le_refl _, fun _ _ => rfl⟩
    go_ret
    exact ⟨rfl, hfin2.trans (hb4.mono hfin2.size)⟩
  · rw [if_neg (by simp)]
    go_enter Try.func32, Try.ntmps32
    go_wp2_with (first
      | (go_at_call 42; refine HK.out.mono ?_; rintro e w1 ⟨rfl, hb1⟩; have HB1 := Lib.hid (bx_call HBX.out hb1); obtain ⟨c0, c1, c2, c3, c4, c5⟩ := HB1.out; have HP1 := Lib.hid (HPT.out.up hb1 (Nat.le_refl _)))
      | (go_at_call 43; refine (HLO.out _ HP1.out).mono ?_; rintro e w2 ⟨rfl, hb2⟩; obtain ⟨d0, d1, d2, d3, d4, d5⟩ := HB1.out.below hb2 (World.block_lt_of_cell? _ _ HB1.out.c0); have HP2 := Lib.hid (HP1.out.up hb2 (Nat.le_refl _)))
      | (go_at_call 44; refine (HRI.out _ HP2.out).mono ?_; rintro e w3 ⟨rfl, q, rfl⟩)
      | (go_at_call 45; refine (HAS.out _ (HP2.out.drewN _)).mono ?_; rintro e w4 ⟨rfl, hb4⟩))
    have hfin : Below w.heap.size w w2 := (HAL.out.trans (hb1.mono (by simp))).trans (hb2.mono (Nat.le_trans (by simp) hb1.size))
    have hfin2 : Below w.heap.size w (w2.drewN q) := hfin.trans ⟨rfl, rfl, rfl, Nat.le_refl _, fun _ _ => rfl⟩
    go_ret
    exact ⟨rfl, hfin2.trans (hb4.mono hfin2.size)⟩
end Go.Proofs.Ytdblppbjlgmccaa.Cu

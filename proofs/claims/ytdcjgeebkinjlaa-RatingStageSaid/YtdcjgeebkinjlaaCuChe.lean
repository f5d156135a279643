/-
  The contract of Check of package curve.
-/
import Derived.Test.YtdcjgeebkinjlaaCuChk
import Derived.StillTailTactics
namespace Go.Proofs.Ytdcjgeebkinjlaa.Cu
open Go.ChangeShapes Go.WideShapes Go.ChangeAt Go.RowKit
open Go.Shelf Go.Lib
set_option linter.unusedVariables false

theorem chkS_stick (X Y : Nat → Int) (k : Nat) (h : chkS X Y k ≠ 0) : ∀ n, k ≤ n → chkS X Y n = chkS X Y k
  | 0, hn => by obtain rfl : k = 0 := by omega
                rfl
  | n + 1, hn => by
    by_cases e : k = n + 1
    · rw [e]
    · have ih := chkS_stick X Y k h n (by omega)
      show (if chkS X Y n ≠ 0 then chkS X Y n else _) = _
      rw [if_pos (by rw [ih]; exact h), ih]
theorem chkS_bad (X Y : Nat → Int) (k n : Nat) (h : chkS X Y k = 0) (hk : k < n) (hp : ptOk (X k) (Y k) = false) : chkS X Y n = 1 := by
  have e : chkS X Y (k + 1) = 1 := by
    show (if chkS X Y k ≠ 0 then chkS X Y k else if ptOk (X k) (Y k) = false then 1 else _) = _
    rw [if_neg (by simp [h]), if_pos hp]
  rw [← e]
  exact chkS_stick X Y (k + 1) (by rw [e]; decide) n hk
theorem chkS_lin (X Y : Nat → Int) (k n : Nat) (h : chkS X Y (k + 1) = 0) (hk : k + 1 < n) (hp : ptOk (X (k + 1)) (Y (k + 1)) = true) (hl : lnC (X k) (Y k) (X (k + 1)) (Y (k + 1)) ≠ 0) : chkS X Y n = lnC (X k) (Y k) (X (k + 1)) (Y (k + 1)) := by
  have e : chkS X Y (k + 1 + 1) = lnC (X k) (Y k) (X (k + 1)) (Y (k + 1)) := by
    show (if chkS X Y (k + 1) ≠ 0 then chkS X Y (k + 1) else if ptOk (X (k + 1)) (Y (k + 1)) = false then 1 else if k + 1 = 0 then 0 else lnC (X (k + 1 - 1)) (Y (k + 1 - 1)) (X (k + 1)) (Y (k + 1))) = _
    rw [if_neg (by simp [h]), if_neg (by simp [hp]), if_neg (by omega)]
    rfl
  rw [← e]
  exact chkS_stick X Y (k + 1 + 1) (by rw [e]; exact hl) n hk
theorem chkS_go (X Y : Nat → Int) (k : Nat) (h : chkS X Y (k + 1) = 0) (hp : ptOk (X (k + 1)) (Y (k + 1)) = true) (hl : lnC (X k) (Y k) (X (k + 1)) (Y (k + 1)) = 0) : chkS X Y (k + 1 + 1) = 0 := by
  show (if chkS X Y (k + 1) ≠ 0 then chkS X Y (k + 1) else if ptOk (X (k + 1)) (Y (k + 1)) = false then 1 else if k + 1 = 0 then 0 else lnC (X (k + 1 - 1)) (Y (k + 1 - 1)) (X (k + 1)) (Y (k + 1))) = _
  rw [if_neg (by simp [h]), if_neg (by simp [hp]), if_neg (by omega)]
  exact hl
theorem chkS_one (X Y : Nat → Int) (hp : ptOk (X 0) (Y 0) = true) : chkS X Y 1 = 0 := by
  show (if chkS X Y 0 ≠ 0 then chkS X Y 0 else if ptOk (X 0) (Y 0) = false then 1 else if 0 = 0 then 0 else _) = _
  rw [if_neg (by simp [chkS]), if_neg (by simp [hp]), if_pos rfl]

theorem check_none (p : Option Addr) (c : Nat) (X Y : Nat → Int) (w : World) : Calls Try.prog 27 #[.slice p 0 c] w (RetE 3 w) := by
  go_enter Try.func27, Try.ntmps27
  go_wp2
  go_ret
  exact ⟨rfl, Below.refl _ _⟩
theorem check_many (p : Option Addr) (n c : Nat) (X Y : Nat → Int) (w : World) (hn : 100 < n) : Calls Try.prog 27 #[.slice p n c] w (RetE 10 w) := by
  have e1 : ((n : Int) == 0) = false := by simp; omega
  have e2 : (100 : Int) < (n : Int) := by omega
  go_enter Try.func27, Try.ntmps27
  go_wp2
  go_ret
  exact ⟨rfl, Below.refl _ _⟩

set_option maxHeartbeats 4000000 in
theorem check_some (b off n c : Nat) (X Y : Nat → Int) (w : World) (hn : 1 ≤ n) (hn2 : n ≤ 100) (hp : Pts w b off n X Y) : Calls Try.prog 27 #[.slice (some ⟨b, off, none⟩) n c] w (RetE (chkS X Y n) w) := by
  have e1 : ((n : Int) == 0) = false := by simp; omega
  have HP := Lib.hid hp
  clear hp
  go_enter Try.func27, Try.ntmps27
  go_wp2
  go_loopw [14] (fun i wr => ∃ k : Nat, k ≤ n ∧ i = .int .i64 k ∧ Hid (chkS X Y k = 0) ∧ Hid (Below w.heap.size w wr)) (fun i _ => n - (intOf i).toNat)
  case atStart => exact ⟨0, Nat.zero_le _, rfl, rfl, Below.refl _ _⟩
  case round =>
    obtain ⟨k, hk, rfl, hs, hb⟩ := hrel
    by_cases hkn : k < n
    · have HP2 := Lib.hid (HP.out.up hb.out (Nat.le_refl _))
      obtain ⟨c1, c2⟩ := HP2.out.2 k hkn
      have hws := hb.out.size
      cases hok : ptOk (X k) (Y k) with
      | false =>
        have HR := Lib.hid (chkS_bad X Y k n hs.out hkn hok)
        have HI := Lib.hid (fun W => inr_any (X k) (Y k) W)
        rw [hok] at HI
        clear hok hs HP HP2
        generalize X k = xk at *
        generalize Y k = yk at *
        go_wp2_with (go_at_call 32; refine (HI.out _).mono ?_; rintro e w1 ⟨rfl, hb1⟩)
        go_ret
        exact ⟨by rw [HR.out]; rfl, (hb.out.alloc hws _).trans (hb1.mono (by simp; omega))⟩
      | true =>
        have HI := Lib.hid (fun W => inr_any (X k) (Y k) W)
        rw [hok] at HI
        by_cases hk0 : k = 0
        · subst hk0
          rw [Nat.zero_mul, Nat.add_zero] at c1 c2
          have HN := Lib.hid (chkS_one X Y hok)
          clear hok hs HP HP2
          generalize X 0 = xk at *
          generalize Y 0 = yk at *
          go_wp2_with (go_at_call 32; refine (HI.out _).mono ?_; rintro e w1 ⟨rfl, hb1⟩)
          go_roundw
          case rel => exact ⟨1, hn, rfl, HN, (hb.out.alloc hws _).trans (hb1.mono (by simp; omega))⟩
          case measure => simp [intOf]; omega
        · obtain ⟨j, rfl⟩ : ∃ j, k = j + 1 := ⟨k - 1, by omega⟩
          obtain ⟨c3, c4⟩ := HP2.out.2 j (by omega)
          have ej : (((j + 1 : Nat) : Int) == 0) = false := by simp; omega
          have HB := Lib.hid (chkS_lin X Y j n hs.out (by omega) hok)
          have HG := Lib.hid (chkS_go X Y j hs.out hok)
          have hok0 : ptOk (X j) (Y j) = true := ((chkS_zero X Y (j + 1)).1 hs.out).1 j (by omega)
          have HO := Lib.hid (fun W => line_any (X j) (Y j) (X (j + 1)) (Y (j + 1)) W hok0 hok)
          have hbl := HP2.out.1
          clear hok hs HP HP2 hok0
          generalize hx1 : X (j + 1) = x1 at *
          generalize hy1 : Y (j + 1) = y1 at *
          generalize hx0 : X j = x0 at *
          generalize hy0 : Y j = y0 at *
          clear hx1 hy1 hx0 hy0
          generalize lnC x0 y0 x1 y1 = cd at *
          go_wp2_with (go_at_call 32; refine (HI.out _).mono ?_; rintro e w1 ⟨rfl, hb1⟩; have hbw := (hb.out.alloc hws _).trans (hb1.mono (by simp; omega)); have d1 : w1.drew.cell? ⟨wr.heap.size, 0, none⟩ = some (.int .i64 x1) := (hb1.cell (p := ⟨wr.heap.size, 0, none⟩) (by simp)).trans (by simp); have d2 : w1.drew.cell? ⟨wr.heap.size, 1, none⟩ = some (.int .i64 y1) := (hb1.cell (p := ⟨wr.heap.size, 1, none⟩) (by simp)).trans (by simp); have d3 : w1.drew.cell? ⟨b, off + j * 2, none⟩ = some (.int .i64 x0) := (hb1.cell (p := ⟨b, off + j * 2, none⟩) (by simp; omega)).trans (cell_alloc_sl _ c3); have d4 : w1.drew.cell? ⟨b, off + j * 2 + 1, none⟩ = some (.int .i64 y0) := (hb1.cell (p := ⟨b, off + j * 2 + 1, none⟩) (by simp; omega)).trans (cell_alloc_sl _ c4))
          have HBW : Hid (Below w.heap.size w w1.drew) := ⟨hbw.os, hbw.tape, hbw.output, hbw.size, hbw.block⟩
          have hsz : w.heap.size ≤ w1.drew.heap.size := hbw.size
          clear hbw hb1
          have hjn : (j : Int) < (n : Int) := by omega
          have hwj : IntKind.i64.wrap (j : Int) = (j : Int) := by rw [IntKind.wrap_i64]; omega
          refine wp_region_still_tail 6 (by kernel_rfl) (by kernel_rfl) ?_
          change wpStill _ _ w1.drew (fun a' => wpList _ _ _ _ a' w1.drew) _ _
          generalize w1.drew = w2 at d1 d2 d3 d4 HBW hsz ⊢
          simp only [List.take_succ_cons, List.take_zero, List.drop_succ_cons, List.drop_zero]
          repeat still_step
          refine wpStill_nil ?_
          by_cases hcd : cd = 0
          · have HG2 := Lib.hid (HG.out hcd)
            subst hcd
            clear HB HG
            go_wp2_with (go_at_call 33; refine (HO.out _).mono ?_; rintro e w3 ⟨rfl, hb3⟩)
            go_roundw
            case rel => exact ⟨j + 1 + 1, by omega, by go_num, HG2, HBW.out.trans (hb3.mono hsz)⟩
            case measure => simp [intOf]; omega
          · have HB2 := Lib.hid (HB.out hcd)
            have hcd' : (cd != 0) = true := by simpa using hcd
            clear HB HG hcd
            go_wp2_with (go_at_call 33; refine (HO.out _).mono ?_; rintro e w3 ⟨rfl, hb3⟩)
            go_ret
            exact ⟨by rw [HB2.out]; rfl, HBW.out.trans (hb3.mono hsz)⟩
    · obtain rfl : k = n := by omega
      have HR := Lib.hid hs.out
      go_wp2
      go_ret
      exact ⟨by rw [HR.out]; rfl, hb.out⟩

/-- Check of any list of points that can be read. -/
theorem check_any (p : Option Addr) (n c : Nat) (X Y : Nat → Int) (w : World) (hp : RdP w p n X Y) : Calls Try.prog 27 #[.slice p n c] w (RetE (chkC X Y n) w) := by
  unfold chkC
  by_cases h0 : n = 0
  · rw [if_pos h0]; subst h0; exact check_none p c X Y w
  rw [if_neg h0]
  by_cases h1 : 100 < n
  · rw [if_pos h1]; exact check_many p n c X Y w h1
  rw [if_neg h1]
  obtain ⟨b, off, rfl, hpt⟩ := hp (by omega)
  exact check_some b off n c X Y w (by omega) (by omega) hpt
end Go.Proofs.Ytdcjgeebkinjlaa.Cu

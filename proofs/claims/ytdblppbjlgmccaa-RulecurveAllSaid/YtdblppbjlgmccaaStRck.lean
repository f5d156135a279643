/-
  The contract of Check of the reference.
-/
import Derived.Test.YtdblppbjlgmccaaStRow
import Derived.Sort.AtCall
import Derived.StillTailTactics
namespace Go.Proofs.Ytdblppbjlgmccaa.Cu
open Go.ChangeShapes Go.WideShapes Go.ChangeAt Go.RowKit
open Go.Shelf Go.Lib
set_option linter.unusedVariables false

theorem rin_any (x most : Int) (w : World) :
    Calls Try.prog 29 #[.int .i64 x, .int .i64 most] w fun e w' => e = .returned (.bool (inB x most)) ∧ w = w' := by
  have HI := Lib.hid (fun W => in_any x most W)
  generalize inB x most = b at *
  go_enter Try.func29, Try.ntmps29
  go_wp2_with (go_at_call 39; refine (HI.out _).mono ?_; rintro e w' ⟨rfl, rfl⟩)
  go_ret
  exact ⟨rfl, rfl⟩

theorem rcheck_none (p : Option Addr) (c : Nat) (w : World) : Calls Try.prog 49 #[.slice p 0 c] w (RetE 3 w) := by
  go_enter Try.func49, Try.ntmps49
  go_wp2
  go_ret
  exact ⟨rfl, Below.refl _ _⟩
theorem rcheck_many (p : Option Addr) (n c : Nat) (w : World) (hn : 100 < n) : Calls Try.prog 49 #[.slice p n c] w (RetE 10 w) := by
  have e1 : ((n : Int) == 0) = false := by simp; omega
  have e2 : (100 : Int) < (n : Int) := by omega
  go_enter Try.func49, Try.ntmps49
  go_wp2
  go_ret
  exact ⟨rfl, Below.refl _ _⟩

theorem pt_in (x y : Int) : (ptOk x y = false ∧ inB x 1073741824 = false) ∨ (ptOk x y = false ∧ inB x 1073741824 = true ∧ inB y 274877906944 = false) ∨ (ptOk x y = true ∧ inB x 1073741824 = true ∧ inB y 274877906944 = true) := by
  unfold ptOk
  by_cases h1 : 0 ≤ x ∧ x ≤ 1073741824
  · by_cases h2 : 0 ≤ y ∧ y ≤ 274877906944
    · exact .inr (.inr ⟨by rw [decide_eq_true_eq]; omega, inB_yes h1, inB_yes h2⟩)
    · exact .inr (.inl ⟨by rw [decide_eq_false_iff_not]; omega, inB_yes h1, inB_no h2⟩)
  · exact .inl ⟨by rw [decide_eq_false_iff_not]; omega, inB_no h1⟩

set_option maxHeartbeats 8000000 in
theorem rcheck_some (b off n c : Nat) (X Y : Nat → Int) (w : World) (hn : 1 ≤ n) (hn2 : n ≤ 100) (hp : Pts w b off n X Y) : Calls Try.prog 49 #[.slice (some ⟨b, off, none⟩) n c] w (RetE (chkS X Y n) w) := by
  have e1 : ((n : Int) == 0) = false := by simp; omega
  have HP := Lib.hid hp
  clear hp
  go_enter Try.func49, Try.ntmps49
  go_wp2
  go_loopw [15] (fun i wr => ∃ k : Nat, k ≤ n ∧ i = .int .i64 k ∧ Hid (chkS X Y k = 0) ∧ Hid (Below w.heap.size w wr)) (fun i _ => n - (intOf i).toNat)
  case atStart => exact ⟨0, Nat.zero_le _, rfl, rfl, Below.refl _ _⟩
  case round =>
    obtain ⟨k, hk, rfl, hs, hb⟩ := hrel
    by_cases hkn : k < n
    · have HP2 := Lib.hid (HP.out.up hb.out (Nat.le_refl _))
      obtain ⟨c1, c2⟩ := HP2.out.2 k hkn
      have hws := hb.out.size
      have HI1 := Lib.hid (fun W => rin_any (X k) 1073741824 W)
      have HI2 := Lib.hid (fun W => rin_any (Y k) 274877906944 W)
      rcases pt_in (X k) (Y k) with ⟨hok, i1⟩ | ⟨hok, i1, i2⟩ | ⟨hok, i1, i2⟩
      · have HR := Lib.hid (chkS_bad X Y k n hs.out hkn hok)
        rw [i1] at HI1
        clear hok hs HP HP2 HI2 i1
        generalize X k = xk at *
        generalize Y k = yk at *
        go_wp2_with (go_at_call 29; refine (HI1.out _).mono ?_; rintro e w1 ⟨rfl, rfl⟩)
        go_ret
        exact ⟨by rw [HR.out]; rfl, hb.out.alloc hws _⟩
      · have HR := Lib.hid (chkS_bad X Y k n hs.out hkn hok)
        rw [i1] at HI1
        rw [i2] at HI2
        clear hok hs HP HP2 i1 i2
        generalize X k = xk at *
        generalize Y k = yk at *
        go_wp2_with (go_at_call 29; first | (go_at_call_has 29 (Value.int .i64 1073741824); refine (HI1.out _).mono ?_; rintro e w1 ⟨rfl, rfl⟩) | (refine (HI2.out _).mono ?_; rintro e w1 ⟨rfl, rfl⟩))
        go_ret
        exact ⟨by rw [HR.out]; rfl, hb.out.alloc hws _⟩
      · rw [i1] at HI1
        rw [i2] at HI2
        by_cases hk0 : k = 0
        · subst hk0
          rw [Nat.zero_mul, Nat.add_zero] at c1 c2
          have HN := Lib.hid (chkS_one X Y hok)
          clear hok hs HP HP2 i1 i2
          generalize X 0 = xk at *
          generalize Y 0 = yk at *
          go_wp2_with (go_at_call 29; first | (go_at_call_has 29 (Value.int .i64 1073741824); refine (HI1.out _).mono ?_; rintro e w1 ⟨rfl, rfl⟩) | (refine (HI2.out _).mono ?_; rintro e w1 ⟨rfl, rfl⟩))
          go_roundw
          case rel => exact ⟨1, hn, rfl, HN, hb.out.alloc hws _⟩
          case measure => simp [intOf]; omega
        · obtain ⟨j, rfl⟩ : ∃ j, k = j + 1 := ⟨k - 1, by omega⟩
          obtain ⟨c3, c4⟩ := HP2.out.2 j (by omega)
          have ej : (((j + 1 : Nat) : Int) == 0) = false := by simp; omega
          have hok0 : ptOk (X j) (Y j) = true := ((chkS_zero X Y (j + 1)).1 hs.out).1 j (by omega)
          obtain ⟨a1, a2, a3, a4⟩ := ptOk_iff.1 hok
          obtain ⟨b1, b2, b3, b4⟩ := ptOk_iff.1 hok0
          have HB := Lib.hid (chkS_lin X Y j n hs.out (by omega) hok)
          have HG := Lib.hid (chkS_go X Y j hs.out hok)
          unfold lnC at HB HG
          clear hok hs HP HP2 hok0 i1 i2
          generalize hx1 : X (j + 1) = x1 at *
          generalize hy1 : Y (j + 1) = y1 at *
          generalize hx0 : X j = x0 at *
          generalize hy0 : Y j = y0 at *
          clear hx1 hy1 hx0 hy0
          have c5 := cell_alloc_sl (.cells #[.int .i64 x1, .int .i64 y1] 45) c3
          have c6 := cell_alloc_sl (.cells #[.int .i64 x1, .int .i64 y1] 45) c4
          clear c3 c4
          have hwj : IntKind.i64.wrap (j : Int) = (j : Int) := by rw [IntKind.wrap_i64]; omega
          have hjn : (j : Int) < (n : Int) := by omega
          have hwx : IntKind.i64.wrap (x1 - x0) = x1 - x0 := by rw [IntKind.wrap_i64]; omega
          have hwy : IntKind.i64.wrap (y1 - y0) = y1 - y0 := by rw [IntKind.wrap_i64]; omega
          go_wp2_with (go_at_call 29; first | (go_at_call_has 29 (Value.int .i64 1073741824); refine (HI1.out _).mono ?_; rintro e w1 ⟨rfl, rfl⟩) | (refine (HI2.out _).mono ?_; rintro e w1 ⟨rfl, rfl⟩))
          go_quiet (fail)
          clear c1 c2 c5 c6
          have HBW : Hid (∀ q, Below w.heap.size w ((wr.alloc (.cells #[.int .i64 x1, .int .i64 y1] 45)).drewN q)) := fun q => bel_drewN (hb.out.alloc hws _) q
          by_cases h1 : x1 ≤ x0 ∨ y1 < y0
          · have HR : Hid (chkS X Y n = 4) := by have := HB.out; rw [if_pos h1] at this; exact this (by decide)
            clear HB HG
            by_cases h2 : x1 - x0 ≤ 0
            · have g1 : decide (x1 - x0 ≤ 0) = true := by rw [decide_eq_true_eq]; exact h2
              clear h1 h2
              go_wp2
              go_ret
              exact ⟨by rw [HR.out]; rfl, HBW.out _⟩
            · have g1 : decide (x1 - x0 ≤ 0) = false := by rw [decide_eq_false_iff_not]; exact h2
              have g2 : decide (y1 - y0 < 0) = true := by rw [decide_eq_true_eq]; omega
              clear h1 h2
              go_wp2
              go_ret
              exact ⟨by rw [HR.out]; rfl, HBW.out _⟩
          · rw [if_neg h1] at HB HG
            have g1 : decide (x1 - x0 ≤ 0) = false := by rw [decide_eq_false_iff_not]; omega
            have g2 : decide (y1 - y0 < 0) = false := by rw [decide_eq_false_iff_not]; omega
            have hd1 : 1 ≤ x1 - x0 := by omega
            have hdz : ¬ x1 - x0 = 0 := by omega
            have hdb : (x1 - x0 == 0) = false := by simpa using hdz
            have q1 := div_bd (x := 4611686018427387904) (by omega) hd1
            have hql := div_lt (a := 4611686018427387904) (b := y1 - y0) (d := x1 - x0) (by omega)
            rw [Int.mul_comm (y1 - y0)] at hql
            obtain ⟨q11, q12⟩ := q1
            by_cases h2 : 4611686018427387904 < (x1 - x0) * (y1 - y0)
            · have HR : Hid (chkS X Y n = 1) := by have := HB.out; rw [if_pos h2] at this; exact this (by decide)
              have h3 := hql.2 h2
              clear HB HG hql h2 h1
              go_wp2
              go_ret
              exact ⟨by rw [HR.out]; rfl, HBW.out _⟩
            · have HG2 : Hid (chkS X Y (j + 1 + 1) = 0) := by have := HG.out; rw [if_neg h2] at this; exact this rfl
              have h3 : ¬ 4611686018427387904 / (x1 - x0) < y1 - y0 := fun h => h2 (hql.1 h)
              have h4 : y1 - y0 ≤ 4611686018427387904 / (x1 - x0) := by omega
              clear HB HG hql h2 h1 h3
              go_wp2
              go_roundw
              case rel => exact ⟨j + 1 + 1, by omega, by go_num, HG2, HBW.out _⟩
              case measure => simp [intOf]; omega
    · obtain rfl : k = n := by omega
      have HR := Lib.hid hs.out
      go_wp2
      go_ret
      exact ⟨by rw [HR.out]; rfl, hb.out⟩

/-- Check of the reference, of any list of points that can be read. -/
theorem rcheck_any (p : Option Addr) (n c : Nat) (X Y : Nat → Int) (w : World) (hp : RdP w p n X Y) : Calls Try.prog 49 #[.slice p n c] w (RetE (chkC X Y n) w) := by
  unfold chkC
  by_cases h0 : n = 0
  · rw [if_pos h0]; subst h0; exact rcheck_none p c w
  rw [if_neg h0]
  by_cases h1 : 100 < n
  · rw [if_pos h1]; exact rcheck_many p n c w h1
  rw [if_neg h1]
  obtain ⟨b, off, rfl, hpt⟩ := hp (by omega)
  exact rcheck_some b off n c X Y w (by omega) (by omega) hpt
end Go.Proofs.Ytdblppbjlgmccaa.Cu

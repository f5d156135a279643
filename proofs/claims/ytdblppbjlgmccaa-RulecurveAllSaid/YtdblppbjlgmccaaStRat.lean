/-
  The contract of at of the reference.
-/
import Derived.Test.YtdblppbjlgmccaaStRck
namespace Go.Proofs.Ytdblppbjlgmccaa.Cu
open Go.ChangeShapes Go.WideShapes Go.ChangeAt Go.RowKit
open Go.Shelf Go.Lib
set_option linter.unusedVariables false

set_option maxHeartbeats 1600000 in
theorem rat_low (b off n m c : Nat) (X Y : Nat → Int) (x : Int) (w : World) (hn : n = m + 1) (hp : Pts w b off n X Y) (hc : Cur X Y m) (hx : x ≤ X 0) :
    Calls Try.prog 50 #[.slice (some ⟨b, off, none⟩) n c, .int .i64 x] w (RetB (val X Y m x) w) := by
  rw [val_low X Y m hc.asc x hx]
  obtain ⟨c1, c2⟩ := hp.2 0 (by omega)
  rw [Nat.zero_mul, Nat.add_zero] at c1 c2
  have hn0 : (0 : Int) < (n : Int) := by omega
  clear hp hc hn
  go_enter Try.func50, Try.ntmps50
  go_wp2
  go_ret
  exact ⟨rfl, Below.refl _ _⟩

set_option maxHeartbeats 8000000 in
theorem rat_up (b off n m c : Nat) (X Y : Nat → Int) (x : Int) (w : World) (hn : n = m + 1) (hp : Pts w b off n X Y) (hc : Cur X Y m) (hx : X 0 < x) :
    Calls Try.prog 50 #[.slice (some ⟨b, off, none⟩) n c, .int .i64 x] w (RetB (val X Y m x) w) := by
  have HP := Lib.hid hp
  have HC := Lib.hid hc
  obtain ⟨c1, c2⟩ := hp.2 0 (by omega)
  rw [Nat.zero_mul, Nat.add_zero] at c1 c2
  have hn0 : (0 : Int) < (n : Int) := by omega
  have hm1 : (n : Int) - 1 = (m : Int) := by omega
  have hmn : m < n := by omega
  have hnm : n ≤ m + 1 := by omega
  have hml := hc.len
  have hX0 : Hid (X 0 < x) := hx
  clear hp hc hn
  go_enter Try.func50, Try.ntmps50
  go_wp2
  clear c1 c2 hx
  go_loop [5] (fun i => ∃ k : Nat, 1 ≤ k ∧ k ≤ n ∧ i = .int .i64 k ∧ Hid (X (k - 1) ≤ x)) (fun i => n - (intOf i).toNat)
  case atStart => exact ⟨1, Nat.le_refl _, by omega, rfl, Int.le_of_lt hX0.out⟩
  case round =>
    obtain ⟨k, hk1, hk, rfl, hxk⟩ := hrel
    by_cases hkn : k < n
    · obtain ⟨j, rfl⟩ : ∃ j, k = j + 1 := ⟨k - 1, by omega⟩
      obtain ⟨c1, c2⟩ := HP.out.2 (j + 1) hkn
      have hkn' : (j : Int) + 1 < (n : Int) := by omega
      have hjn : (j : Int) < (n : Int) := by omega
      have hwj : IntKind.i64.wrap (j : Int) = (j : Int) := by rw [IntKind.wrap_i64]; omega
      by_cases hlt : x < X (j + 1)
      · have hxj : X j ≤ x := hxk.out
        obtain ⟨c3, c4⟩ := HP.out.2 j (by omega)
        have hjm : j < m := by omega
        have HV : Hid (val X Y m x = lin X Y j x) := val_seg X Y m HC.out.asc j hjm x hxj (by omega)
        have a1 := HC.out.xlo j (by omega)
        have a2 := HC.out.xhi (j + 1) (by omega)
        have a3 := HC.out.ylo j (by omega)
        have a4 := HC.out.yhi (j + 1) (by omega)
        have a5 := (HC.out.asc j hjm).2
        have a6 := HC.out.prod j hjm
        have p1 : 0 ≤ (Y (j + 1) - Y j) * (x - X j) := mulp (by omega) (by omega)
        have p2 : (Y (j + 1) - Y j) * (x - X j) ≤ 4611686018427387904 := by
          rw [Int.mul_comm]
          exact Int.le_trans (Int.mul_le_mul_of_nonneg_right (by omega) (by omega)) a6
        have p3 : 0 ≤ (Y (j + 1) - Y j) * (x - X j) / (X (j + 1) - X j) := Int.ediv_nonneg p1 (by omega)
        have p4 : (Y (j + 1) - Y j) * (x - X j) / (X (j + 1) - X j) ≤ Y (j + 1) - Y j := by
          have := lin_mono X Y j (HC.out.asc j hjm) x (X (j + 1)) (by omega)
          rw [lin_at1 X Y j (HC.out.asc j hjm).1] at this
          unfold lin at this
          rw [Int.mul_comm]; omega
        have HV2 : Hid (val X Y m x = Y j + (Y (j + 1) - Y j) * (x - X j) / (X (j + 1) - X j)) := by
          have := HV.out; unfold lin at this; rw [Int.mul_comm] at this; exact this
        have hlb := HP.out.1
        have hdd : (X (j + 1) - X j == 0) = false := by simp; omega
        have hdn : ¬ X (j + 1) - X j = 0 := by omega
        clear HP HC HV a6 hxk
        generalize hx1 : X (j + 1) = x1 at *
        generalize hy1 : Y (j + 1) = y1 at *
        generalize hx0 : X j = x0 at *
        generalize hy0 : Y j = y0 at *
        clear hx1 hy1 hx0 hy0
        have w1 : IntKind.i64.wrap (y1 - y0) = y1 - y0 := by rw [IntKind.wrap_i64]; omega
        have w2 : IntKind.i64.wrap (x - x0) = x - x0 := by rw [IntKind.wrap_i64]; omega
        have w3 : IntKind.i64.wrap (x1 - x0) = x1 - x0 := by rw [IntKind.wrap_i64]; omega
        have w4 : IntKind.i64.wrap ((y1 - y0) * (x - x0)) = (y1 - y0) * (x - x0) := by rw [IntKind.wrap_i64]; omega
        have w5 : IntKind.i64.wrap (y0 + (y1 - y0) * (x - x0) / (x1 - x0)) = y0 + (y1 - y0) * (x - x0) / (x1 - x0) := by rw [IntKind.wrap_i64]; omega
        have HB : Hid (∀ o o' q, Below w.heap.size w (((w.alloc o).alloc o').drew.drewN q)) := fun o o' q => bel_drewN (bel_drewN (((Below.refl _ _).alloc (Nat.le_refl _) o).alloc (by simp) o') 1) q
        go_wp2
        go_region
        all_goals clear c1 c2 c3 c4
        all_goals go_wp2
        all_goals go_quiet (fail)
        all_goals go_wp2
        all_goals go_ret
        all_goals exact ⟨by rw [HV2.out]; rfl, HB.out _ _ _⟩
      · have HX2 : Hid (X (j + 1 + 1 - 1) ≤ x) := by show X (j + 1) ≤ x; omega
        generalize X (j + 1) = x1 at *
        go_wp2
        go_round
        case rel => exact ⟨j + 1 + 1, by omega, by omega, by go_num, HX2⟩
        case measure => simp [intOf]; omega
    · obtain rfl : n = k := by omega
      obtain ⟨c1, c2⟩ := HP.out.2 m hmn
      have HV : Hid (val X Y m x = Y m) := val_high X Y m x (by have := hxk.out; rw [show n - 1 = m by omega] at this; exact this)
      have hmi : (m : Int) < (n : Int) := by omega
      go_wp2
      go_ret
      exact ⟨by rw [HV.out]; rfl, Below.refl _ _⟩

/-- at of the reference at a valid curve: the same value. -/
theorem rat_any (b off n m c : Nat) (X Y : Nat → Int) (x : Int) (w : World) (hn : n = m + 1) (hp : Pts w b off n X Y) (hc : Cur X Y m) :
    Calls Try.prog 50 #[.slice (some ⟨b, off, none⟩) n c, .int .i64 x] w (RetB (val X Y m x) w) := by
  by_cases h : x ≤ X 0
  · exact rat_low b off n m c X Y x w hn hp hc h
  · exact rat_up b off n m c X Y x w hn hp hc (by omega)
end Go.Proofs.Ytdblppbjlgmccaa.Cu

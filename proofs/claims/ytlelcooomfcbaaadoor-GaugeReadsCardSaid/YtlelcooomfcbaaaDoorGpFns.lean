/-
  Contracts of the program's Check, checkEach, checkList and Sum.
-/
import Derived.Test.YtlelcooomfcbaaaDoorGgFns
namespace Go.Proofs.YtlelcooomfcbaaaDoor.Gg
open Go.ChangeShapes Go.WideShapes Go.ChangeAt Go.RowKit
open Go.Proofs.YtlelcooomfcbaaaDoor.Ca (inB inB_yes inB_no)
set_option linter.unusedVariables false

theorem pfz_any (most x : Int) (w : World) :
    Calls Tryd.prog 41 #[.int .i64 most, .int .i64 x] w fun e w' => e = .returned (.bool (inB x most)) ∧ w = w' := by
  by_cases h1 : 0 ≤ x <;> by_cases h2 : x ≤ most
  all_goals
    go_enter Tryd.func41, Tryd.ntmps41
    go_wp2
    go_ret
    exact ⟨by simp [inB]; omega, rfl⟩
theorem pgau_any (x : Int) (w : World) :
    Calls Tryd.prog 39 #[.int .i64 x] w fun e w' => e = .returned (.bool (inB x 255)) ∧ w = w' := by
  go_enter Tryd.func39, Tryd.ntmps39
  go_wp2_with (go_at_call 41; refine (pfz_any _ _ _).mono ?_; rintro e w' ⟨rfl, rfl⟩)
  go_ret
  exact ⟨rfl, rfl⟩
theorem ptim_any (x : Int) (w : World) :
    Calls Tryd.prog 40 #[.int .i64 x] w fun e w' => e = .returned (.bool (inB x 16777216)) ∧ w = w' := by
  go_enter Tryd.func40, Tryd.ntmps40
  go_wp2_with (go_at_call 41; refine (pfz_any _ _ _).mono ?_; rintro e w' ⟨rfl, rfl⟩)
  go_ret
  exact ⟨rfl, rfl⟩
set_option maxHeartbeats 1000000 in
theorem pck_any (a b c d : Int) (w : World) : Calls Tryd.prog 18 #[.agg #[.int .i64 a, .int .i64 b, .int .i64 c, .int .i64 d]] w (Ek (ckG a b c d) w) := by
  have H0 := Lib.hid (fun W => pgau_any a W)
  have H1 := Lib.hid (fun W => ptim_any b W)
  have H2 := Lib.hid (fun W => pfz_any 1073741824 c W)
  have H3 := Lib.hid (fun W => pfz_any 2 d W)
  unfold ckG
  cases h0 : inB a 255 with
  | false =>
    rw [h0] at H0
    clear h0
    go_enter Tryd.func18, Tryd.ntmps18
    go_wp2_with (go_at_call 39; refine (H0.out _).mono ?_; rintro e w' ⟨rfl, rfl⟩)
    go_ret
    exact ⟨rfl, (Below.refl _ _).alloc (Nat.le_refl _) _⟩
  | true =>
    rw [h0] at H0
    clear h0
    cases h1 : inB b 16777216 with
    | false =>
      rw [h1] at H1
      clear h1
      go_enter Tryd.func18, Tryd.ntmps18
      go_wp2_with (first
        | (go_at_call 39; refine (H0.out _).mono ?_; rintro e w' ⟨rfl, rfl⟩)
        | (go_at_call 40; refine (H1.out _).mono ?_; rintro e w' ⟨rfl, rfl⟩))
      go_ret
      exact ⟨rfl, (Below.refl _ _).alloc (Nat.le_refl _) _⟩
    | true =>
      rw [h1] at H1
      clear h1
      cases h2 : inB c 1073741824 with
      | false =>
        rw [h2] at H2
        clear h2
        go_enter Tryd.func18, Tryd.ntmps18
        go_wp2_with (first
          | (go_at_call 39; refine (H0.out _).mono ?_; rintro e w' ⟨rfl, rfl⟩)
          | (go_at_call 40; refine (H1.out _).mono ?_; rintro e w' ⟨rfl, rfl⟩)
          | (go_at_call_has 41 (Value.int .i64 1073741824); refine (H2.out _).mono ?_; rintro e w' ⟨rfl, rfl⟩))
        go_ret
        exact ⟨rfl, (Below.refl _ _).alloc (Nat.le_refl _) _⟩
      | true =>
        rw [h2] at H2
        clear h2
        cases h3 : inB d 2 with
        | false =>
          rw [h3] at H3
          clear h3
          go_enter Tryd.func18, Tryd.ntmps18
          go_wp2_with (first
            | (go_at_call 39; refine (H0.out _).mono ?_; rintro e w' ⟨rfl, rfl⟩)
            | (go_at_call 40; refine (H1.out _).mono ?_; rintro e w' ⟨rfl, rfl⟩)
            | (go_at_call_has 41 (Value.int .i64 1073741824); refine (H2.out _).mono ?_; rintro e w' ⟨rfl, rfl⟩)
            | (go_at_call_has 41 (Value.int .i64 2); refine (H3.out _).mono ?_; rintro e w' ⟨rfl, rfl⟩))
          go_ret
          exact ⟨rfl, (Below.refl _ _).alloc (Nat.le_refl _) _⟩
        | true =>
          rw [h3] at H3
          clear h3
          go_enter Tryd.func18, Tryd.ntmps18
          go_wp2_with (first
            | (go_at_call 39; refine (H0.out _).mono ?_; rintro e w' ⟨rfl, rfl⟩)
            | (go_at_call 40; refine (H1.out _).mono ?_; rintro e w' ⟨rfl, rfl⟩)
            | (go_at_call_has 41 (Value.int .i64 1073741824); refine (H2.out _).mono ?_; rintro e w' ⟨rfl, rfl⟩)
            | (go_at_call_has 41 (Value.int .i64 2); refine (H3.out _).mono ?_; rintro e w' ⟨rfl, rfl⟩))
          go_ret
          exact ⟨rfl, (Below.refl _ _).alloc (Nat.le_refl _) _⟩
set_option maxHeartbeats 2000000 in
theorem pea_some (b off n c : Nat) (R : Nat → Nat → Int) (w : World) (hp : Rs w b off n R) (hn : n ≤ 9223372036854775806) : Calls Tryd.prog 52 #[.slice (some ⟨b, off, none⟩) n c] w (Ek (alG R n) w) := by
  have HP := Lib.hid hp
  clear hp
  go_enter Tryd.func52, Tryd.ntmps52
  go_wp2
  go_loopw [8] (fun i wr => ∃ k : Nat, k ≤ n ∧ i = .int .i64 k ∧ Hid (alG R k = 0) ∧ Hid (Below w.heap.size w wr)) (fun i _ => n - (intOf i).toNat)
  case atStart => exact ⟨0, Nat.zero_le _, rfl, rfl, Below.refl _ _⟩
  case round =>
    obtain ⟨k, hk, rfl, hs, hb⟩ := hrel
    by_cases hkn : k < n
    · have HP2 := Lib.hid (HP.out.up hb.out (Nat.le_refl _))
      obtain ⟨c0, c1, c2, c3⟩ := HP2.out.cells k hkn
      have hws := hb.out.size
      have hki : (k : Int) < (n : Int) := by omega
      have hki2 : (k : Int) ≤ 9223372036854775805 := by omega
      have HC := Lib.hid (fun W => pck_any (R k 0) (R k 1) (R k 2) (R k 3) W)
      have HN := Lib.hid (alG_next R k hs.out)
      have HK : Hid (alG R (k + 1) ≠ 0 → alG R n = alG R (k + 1)) := fun h => alG_stick R (k + 1) h n (by omega)
      clear HP2
      generalize R k 0 = r0 at *
      generalize R k 1 = r1 at *
      generalize R k 2 = r2 at *
      generalize R k 3 = r3 at *
      generalize ckG r0 r1 r2 r3 = cd at *
      by_cases hcd : cd = 0
      · have HN2 : Hid (alG R (k + 1) = 0) := by rw [← hcd]; exact HN
        subst hcd
        go_wp2_with (go_at_call 18; refine (HC.out _).mono ?_; rintro e w1 ⟨rfl, hb1⟩)
        go_roundw
        case rel => exact ⟨k + 1, by omega, by go_num, HN2, (hb.out.alloc hws _).trans (hb1.mono (by simp; omega))⟩
        case measure => simp [intOf]; omega
      · have HR : Hid (alG R n = cd) := by
          show alG R n = cd
          rw [HK.out (by rw [HN.out]; exact hcd), HN.out]
        have hcn : (cd != 0) = true := by simpa using hcd
        clear hcd
        go_wp2_with (go_at_call 18; refine (HC.out _).mono ?_; rintro e w1 ⟨rfl, hb1⟩)
        go_ret
        exact ⟨by rw [HR.out]; rfl, (hb.out.alloc hws _).trans (hb1.mono (by simp; omega))⟩
    · obtain rfl : k = n := by omega
      have HR := Lib.hid hs.out
      go_wp2
      go_ret
      exact ⟨by rw [HR.out]; rfl, hb.out⟩
theorem pea_none (p : Option Addr) (c : Nat) (w : World) : Calls Tryd.prog 52 #[.slice p 0 c] w (Ek 0 w) := by
  go_enter Tryd.func52, Tryd.ntmps52
  go_wp2
  go_loop [8] (fun i => i = .int .i64 0) (fun _ => 0)
  case atStart => rfl
  case round =>
    obtain rfl := hrel
    go_wp2
    go_ret
    exact ⟨rfl, Below.refl _ _⟩
theorem pea_any (p : Option Addr) (n c : Nat) (R : Nat → Nat → Int) (w : World) (hp : RdR w p n R) (hn : n ≤ 9223372036854775806) : Calls Tryd.prog 52 #[.slice p n c] w (Ek (alG R n) w) := by
  by_cases h0 : n = 0
  · subst h0; exact pea_none p c w
  obtain ⟨b, off, rfl, hpt⟩ := hp (by omega)
  exact pea_some b off n c R w hpt hn

theorem sum_mod (s p q : Int) : (s + p % 65521 * q) % 65521 = (s + p * q) % 65521 := by
  rw [Int.add_emod, Int.mul_emod, Int.emod_emod, ← Int.mul_emod, ← Int.add_emod]
set_option maxHeartbeats 2000000 in
theorem psum_some (b off n c : Nat) (B : Nat → Int) (w : World) (hp : By w b off n B) (hB : Bt B n) (hn : n ≤ 1000000000) : Calls Tryd.prog 20 #[.slice (some ⟨b, off, none⟩) n c] w (RtI (smG B n) w) := by
  have HP := Lib.hid hp
  have HB := Lib.hid hB
  clear hp hB
  go_enter Tryd.func20, Tryd.ntmps20
  go_wp2
  go_loop [3, 8] (fun s i => ∃ (k : Nat) (sv : Int), k ≤ n ∧ s = .int .i64 sv ∧ i = .int .i64 k ∧ Hid (sv = smG B k)) (fun _ i => n - (intOf i).toNat)
  case atStart => exact ⟨0, 0, Nat.zero_le _, rfl, rfl, rfl⟩
  case round =>
    obtain ⟨k, sv, hk, rfl, rfl, hs⟩ := hrel
    by_cases hkn : k < n
    · have c0 := HP.out.2 k hkn
      obtain ⟨b0, b1⟩ := HB.out k hkn
      have hki : (k : Int) < (n : Int) := by omega
      have hki2 : (k : Int) ≤ 1000000000 := by omega
      obtain ⟨s0, s1⟩ := smG_bd B k
      rw [← hs.out] at s0 s1
      have HN : Hid (smG B (k + 1) = (sv + ((k : Int) + 1) * (B k + 1)) % 65521) := by
        show (smG B k + ((k : Int) + 1) % 65521 * (B k + 1)) % 65521 = _
        rw [← hs.out, sum_mod]
      generalize B k = x at *
      have m1 := Cu.mul_bd (a := (k : Int) + 1) (num := x + 1) (A := 1000000001) (B := 256) (by omega) (by omega) (by omega) (by omega)
      obtain ⟨m11, m12⟩ := m1
      go_wp2
      go_round
      case rel => exact ⟨k + 1, _, by omega, rfl, by go_num, HN.symm⟩
      case measure => simp [intOf]; omega
    · obtain rfl : k = n := by omega
      have HR := Lib.hid hs.out
      go_wp2
      go_ret
      exact ⟨by rw [HR.out]; rfl, rfl⟩
theorem psum_none (p : Option Addr) (c : Nat) (w : World) : Calls Tryd.prog 20 #[.slice p 0 c] w (RtI 0 w) := by
  go_enter Tryd.func20, Tryd.ntmps20
  go_wp2
  go_loop [3, 8] (fun s i => s = .int .i64 0 ∧ i = .int .i64 0) (fun _ _ => 0)
  case atStart => exact ⟨rfl, rfl⟩
  case round =>
    obtain ⟨rfl, rfl⟩ := hrel
    go_wp2
    go_ret
    exact ⟨rfl, rfl⟩
theorem psum_any (p : Option Addr) (n c : Nat) (B : Nat → Int) (w : World) (hp : RdB w p n B) (hB : Bt B n) (hn : n ≤ 1000000000) : Calls Tryd.prog 20 #[.slice p n c] w (RtI (smG B n) w) := by
  by_cases h0 : n = 0
  · subst h0; exact psum_none p c w
  obtain ⟨b, off, rfl, hpt⟩ := hp (by omega)
  exact psum_some b off n c B w hpt hB hn

def lsE (R : Nat → Nat → Int) (n : Nat) : Int := if 4096 < n then 10 else alG R n
theorem pcl_any (p : Option Addr) (n c : Nat) (R : Nat → Nat → Int) (w : World) (hp : RdR w p n R) (hn : n ≤ 9223372036854775806) : Calls Tryd.prog 30 #[.slice p n c] w (Ek (lsE R n) w) := by
  have HC := Lib.hid (pea_any p n c R w hp hn)
  clear hp
  unfold lsE
  by_cases h : 4096 < n
  · have hi : (4096 : Int) < (n : Int) := by omega
    rw [if_pos h]
    go_enter Tryd.func30, Tryd.ntmps30
    go_wp2
    go_ret
    exact ⟨rfl, Below.refl _ _⟩
  · have hi : ¬ (4096 : Int) < (n : Int) := by omega
    rw [if_neg h]
    go_enter Tryd.func30, Tryd.ntmps30
    go_wp2_with (go_at_call 52; refine HC.out.mono ?_; rintro e w1 ⟨rfl, hb1⟩)
    go_ret
    exact ⟨rfl, hb1⟩
end Go.Proofs.YtlelcooomfcbaaaDoor.Gg

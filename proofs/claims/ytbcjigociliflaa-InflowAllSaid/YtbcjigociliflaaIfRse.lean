/-
  Smooth of the reference for any input; Spread of both.
-/
import Derived.Test.YtbcjigociliflaaIfRsm
import Derived.Test.YtbcjigociliflaaQuRsm
import Derived.Test.YtbcjigociliflaaQuMat2
import Derived.Test.YtbcjigociliflaaIfSmk
namespace Go.Proofs.Ytbcjigociliflaa.If
open Go.ChangeShapes Go.WideShapes Go.ChangeAt Go.RowKit
open Go.Proofs.Ytbcjigociliflaa.Qu (sumZ sumZ_congr Rd ShP shLen shCode shVal share_any rshare_any)
set_option linter.unusedVariables false

set_option maxHeartbeats 1000000 in
theorem rsm_err (p : Option Addr) (n c : Nat) (z : Nat → Int) (w : Int) (W : World) (hn : n ≤ 4096) (hr : Rd W p n z) (h : btB 1 w 4096 = false ∨ allW (-274877906944) 274877906944 z n = false) :
    Calls Try.prog 21 #[.slice p n c, .int .i64 w] W (SmP z n w W) := by
  have HR := Lib.hid hr
  unfold SmP
  clear hr
  cases hb : btB 1 w 4096 with
  | false =>
    rw [(smC_w hb).1, (smC_w hb).2]
    have hb2 : ¬ (1 ≤ w ∧ w ≤ 4096) := fun h => by rw [btB_yes h] at hb; cases hb
    clear h hb
    by_cases h1 : w < 1
    · have x1 : decide (w < 1) = true := dt h1
      clear hb2
      go_enter Try.func21, Try.ntmps21
      go_wp2
      go_ret2
      exact ⟨_, _, rfl, rd_zero _ _ _, Below.refl _ _⟩
    · have h2 : 4096 < w := by omega
      have x1 : decide (w < 1) = false := df h1
      have x2 : decide (4096 < w) = true := dt h2
      clear hb2
      go_enter Try.func21, Try.ntmps21
      go_wp2
      go_ret2
      exact ⟨_, _, rfl, rd_zero _ _ _, Below.refl _ _⟩
  | true =>
    have h2 : allW (-274877906944) 274877906944 z n = false := by rcases h with h | h; · rw [hb] at h; cases h
                                                                  · exact h
    rw [(smC_z h2).1, (smC_z h2).2]
    obtain ⟨w1, w2⟩ := btB_iff.1 hb
    have HA := Lib.hid h2
    have x1 : decide (w < 1) = false := df (by omega)
    have x2 : decide (4096 < w) = false := df (by omega)
    clear h hb h2
    go_enter Try.func21, Try.ntmps21
    go_wp2
    clear x1 x2
    go_loop [25] (fun i => ∃ k : Nat, k ≤ n ∧ i = .int .i64 k ∧ Hid (allW (-274877906944) 274877906944 z k = true)) (fun i => n - (intOf i).toNat)
    case atStart => exact ⟨0, Nat.zero_le _, rfl, rfl⟩
    case round =>
      obtain ⟨k, hk, rfl, ha⟩ := hrel
      by_cases hlt : k < n
      · obtain ⟨b, off, rfl, _, hc⟩ := HR.out (by omega)
        have h5 := hc k hlt
        have hki : (k : Int) < (n : Int) := by omega
        clear hc
        by_cases hz1 : z k < -274877906944
        · have x1 : decide (z k < -274877906944) = true := dt hz1
          go_wp2
          go_ret2
          exact ⟨_, _, rfl, rd_zero _ _ _, Below.refl _ _⟩
        · have x1 : decide (z k < -274877906944) = false := df hz1
          by_cases hz2 : 274877906944 < z k
          · have x2 : decide (274877906944 < z k) = true := dt hz2
            go_wp2
            go_ret2
            exact ⟨_, _, rfl, rd_zero _ _ _, Below.refl _ _⟩
          · have x2 : decide (274877906944 < z k) = false := df hz2
            have HN : Hid (allW (-274877906944) 274877906944 z (k + 1) = true) := (show (allW (-274877906944) 274877906944 z k && btB (-274877906944) (z k) 274877906944) = true by rw [ha.out, btB_yes (by omega)]; rfl)
            clear ha
            generalize z k = zk at *
            go_wp2
            go_round
            case rel => exact ⟨k + 1, by omega, by go_num, HN⟩
            case measure => simp [intOf]; omega
      · exfalso
        have e : k = n := by omega
        have h1 := ha.out
        rw [e, HA.out] at h1
        cases h1

/-- Smooth of the reference, whatever the list (at most 4096 numbers) and the width. -/
theorem rsm_any (p : Option Addr) (n c : Nat) (z : Nat → Int) (w : Int) (W : World) (hn : n ≤ 4096) (hcap : n ≤ c) (hr : Rd W p n z) :
    Calls Try.prog 21 #[.slice p n c, .int .i64 w] W (SmP z n w W) := by
  cases h1 : btB 1 w 4096 with
  | false => exact rsm_err p n c z w W hn hr (.inl h1)
  | true =>
    cases h2 : allW (-274877906944) 274877906944 z n with
    | false => exact rsm_err p n c z w W hn hr (.inr h2)
    | true =>
      have hw := btB_iff.1 h1
      obtain ⟨k, rfl⟩ : ∃ k : Nat, w = (k : Int) := ⟨w.toNat, by omega⟩
      unfold SmP
      rw [(smC_ok h1 h2).1, (smC_ok h1 h2).2, Int.toNat_natCast]
      exact rsm_ok p n c k z W (by omega) hn hcap (allW_all h2) hr

/-- What Spread returns. -/
def SpP (a : Int) (z : Nat → Int) (n : Nat) (w : World) (e : Ending) (w' : World) : Prop := LcP (shCode a z n) (shLen a z n) (shVal a z n) w e w'
theorem spr_any (a : Int) (p : Option Addr) (n c : Nat) (z : Nat → Int) (w : World) (hn : n ≤ 4096) (hr : Rd w p n z) :
    Calls Try.prog 22 #[.int .i64 a, .slice p n c] w (SpP a z n w) := by
  have HS := Lib.hid (fun W (hW : W = w) => (show W = w from hW) ▸ share_any a p n c z w hn hr)
  unfold SpP
  clear hr
  go_enter Try.func22, Try.ntmps22
  go_wp2_with (go_at_call 34; refine (HS.out _ rfl).mono ?_; rintro e w1 ⟨p1, c1, rfl, hr1, hb1⟩; have HR1 := Lib.hid hr1; have HB1 := Lib.hid hb1; clear hr1 hb1)
  go_ret2
  exact ⟨_, _, rfl, HR1.out, HB1.out⟩
theorem rspr_any (a : Int) (p : Option Addr) (n c : Nat) (z : Nat → Int) (w : World) (hn : n ≤ 4096) (hr : Rd w p n z) :
    Calls Try.prog 23 #[.int .i64 a, .slice p n c] w (SpP a z n w) := by
  have HS := Lib.hid (fun W (hW : W = w) => (show W = w from hW) ▸ rshare_any a p n c z w hn hr)
  unfold SpP
  clear hr
  go_enter Try.func23, Try.ntmps23
  go_wp2_with (go_at_call 35; refine (HS.out _ rfl).mono ?_; rintro e w1 ⟨p1, c1, rfl, hr1, hb1⟩; have HR1 := Lib.hid hr1; have HB1 := Lib.hid hb1; clear hr1 hb1)
  go_ret2
  exact ⟨_, _, rfl, HR1.out, HB1.out⟩
end Go.Proofs.Ytbcjigociliflaa.If

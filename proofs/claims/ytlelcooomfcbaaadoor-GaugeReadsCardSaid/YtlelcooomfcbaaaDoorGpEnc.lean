/-
  The contract of the program's Encode.
-/
import Derived.Test.YtlelcooomfcbaaaDoorGpRec
import Derived.Test.YtlelcooomfcbaaaDoorGgEca
import Derived.Laws.MakeOwn
import Derived.Deep.Onto
namespace Go.Proofs.YtlelcooomfcbaaaDoor.Gg
open Go.ChangeShapes Go.WideShapes Go.ChangeAt Go.RowKit
set_option linter.unusedVariables false

theorem penc_bad (p : Option Addr) (n c : Nat) (R : Nat → Nat → Int) (w : World) (hp : RdR w p n R) (hn : n ≤ 9223372036854775806) (hx : enX R n ≠ 0) : Calls Tryd.prog 14 #[.slice p n c] w (EnP w (enX R n) 0 (enL R n)) := by
  have HA : Hid (Calls Tryd.prog 30 #[.slice p n c] w (Ek (enX R n) w)) := pcl_any p n c R w hp hn
  have hcn : (enX R n != 0) = true := by simpa using hx
  clear hp hx
  generalize enX R n = cd at *
  go_enter Tryd.func14, Tryd.ntmps14
  go_wp2_with (go_at_call 30; refine HA.out.mono ?_; rintro e w1 ⟨rfl, hb1⟩; have HB1 := Lib.hid hb1; clear hb1)
  go_ret2
  exact ⟨.slice none 0 0, rfl, gotB_nil _ _ _, HB1.out⟩
set_option maxRecDepth 100000 in
set_option maxHeartbeats 4000000 in
theorem penc_good (p : Option Addr) (n c : Nat) (R : Nat → Nat → Int) (w : World) (hp : RdR w p n R) (hn : n ≤ 4096) (hx : alG R n = 0) : Calls Tryd.prog 14 #[.slice p n c] w (EnP w 0 (n * 12) (enL R n)) := by
  obtain ⟨i0, hi, hz0, hz1, hz2⟩ := info_parts Tryd.infoB
  have HA : Hid (Calls Tryd.prog 30 #[.slice p n c] w (Ek 0 w)) := by
    have h := pcl_any p n c R w hp (by omega)
    have e : lsE R n = 0 := by unfold lsE; rw [if_neg (by omega), hx]
    rw [e] at h
    exact h
  have HP := Lib.hid hp
  have HV := Lib.hid ((alG_zero R n).1 hx)
  clear hp hx
  have hni : (n : Int) ≤ 4096 := by omega
  go_enter Tryd.func14, Tryd.ntmps14
  go_wp2_with (go_at_call 30; refine HA.out.mono ?_; rintro e w1 ⟨rfl, hb1⟩; have HB1 := Lib.hid hb1; clear hb1; obtain ⟨W5, hmk5, hown5, hgr5⟩ := run_make_own (P := Tryd.prog) w1 w1.heap.size 24 5 i0 _ 1 Tryd.underlying24 hi hz0 hz1 .i64 .i64 (n * 12) (by rw [hz2]; omega) (by unfold maxLen; omega) (Nat.le_refl _); rw [show ((n * 12 : Nat) : Int) = 12 * (n : Int) by omega] at hmk5; have HG5 : Hid (GotB W5 w.heap.size (.slice (some ⟨w1.heap.size, 0, none⟩) 0 (n * 12)) 0 (enL R 0)) := World.ownsRow.mono hown5 HB1.out.size; have HB5 : Hid (Below w.heap.size w W5) := HB1.out.grown hgr5 HB1.out.size (fun _ h => by cases h); clear hown5 hgr5)
  clear hmk5
  go_loopw [5, 19] (fun u i wr => ∃ (k : Nat) (V : Value), V = u ∧ k ≤ n ∧ i = .int .i64 k ∧ Hid (GotB wr w.heap.size u (k * 12) (enL R k)) ∧ Hid (Below w.heap.size w wr)) (fun _ i _ => n - (intOf i).toNat)
  case atStart => exact ⟨0, _, rfl, Nat.zero_le _, rfl, HG5, HB5⟩
  case round =>
    clear HG5 HB5
    obtain ⟨k, u, rfl, hk, rfl, hgot, hb⟩ := hrel
    by_cases hkn : k < n
    · have hki : (k : Int) < (n : Int) := by omega
      obtain ⟨b, off, rfl, hrs⟩ := HP.out (by omega)
      obtain ⟨c0, c1, c2, c3⟩ := (hrs.up hb.out (Nat.le_refl _)).cells k hkn
      have HR := Lib.hid (fun W (h : GotB W w.heap.size u (k * 12) (enL R k)) (h2 : w.heap.size ≤ W.heap.size) => par_any u (k * 12) w.heap.size (enL R k) (R k) W (HV.out k hkn) h (by omega) h2)
      have hbs := hb.out.size
      clear hrs
      generalize R k 0 = r0 at c0 HR
      generalize R k 1 = r1 at c1 HR
      generalize R k 2 = r2 at c2 HR
      generalize R k 3 = r3 at c3 HR
      go_wp2_with (go_at_call 31; refine (HR.out _ (World.ownsRow.alloc hgot.out _) (by simp; omega)).mono ?_; rintro e w2 ⟨v2, rfl, hg2, hb2, _, _⟩; have HG2 : Hid (GotB w2 w.heap.size v2 ((k + 1) * 12) (enL R (k + 1))) := (by have e : k * 12 + 12 = (k + 1) * 12 := (by omega); rw [e] at hg2; exact hg2); have HB2 := Lib.hid ((hb.out.alloc hbs _).trans hb2); clear hg2 hb2)
      go_roundw
      case rel => exact ⟨k + 1, _, rfl, by omega, by go_num, HG2, HB2⟩
      case measure => simp [intOf]; omega
    · obtain rfl : k = n := by omega
      go_wp2
      go_ret2
      exact ⟨u, rfl, hgot.out, hb.out⟩
theorem penc_any (p : Option Addr) (n c : Nat) (R : Nat → Nat → Int) (w : World) (hp : RdR w p n R) (hn : n ≤ 9223372036854775806) : Calls Tryd.prog 14 #[.slice p n c] w (EnP w (enX R n) (enN R n) (enL R n)) := by
  by_cases hx : enX R n = 0
  · have e2 : enN R n = n * 12 := by unfold enN; rw [if_pos hx]
    have h4 : n ≤ 4096 ∧ alG R n = 0 := by
      unfold enX at hx
      by_cases h : 4096 < n
      · rw [if_pos h] at hx; omega
      · rw [if_neg h] at hx; exact ⟨by omega, hx⟩
    rw [e2, hx]
    exact penc_good p n c R w hp h4.1 h4.2
  · have e2 : enN R n = 0 := by unfold enN; rw [if_neg hx]
    rw [e2]
    exact penc_bad p n c R w hp hn hx
end Go.Proofs.YtlelcooomfcbaaaDoor.Gg

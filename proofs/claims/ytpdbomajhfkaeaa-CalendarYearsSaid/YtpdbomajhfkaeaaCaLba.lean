/-
  The walk of the law CalendarBack.
-/
import Derived.Test.YtpdbomajhfkaeaaCaAwk
namespace Go.Proofs.Ytpdbomajhfkaeaa.Ca
open Go.ChangeShapes Go.WideShapes Go.ChangeAt Go.RowKit
set_option linter.unusedVariables false

/-- A step from 0 to 2^24 and its parts. -/
theorem parts {t : Int} (h : 0 ≤ t ∧ t ≤ 16777216) : yrT t = t / 96 / 365 ∧ dyT t = t / 96 % 365 ∧ nrT t = t % 96 ∧ erT t = 0 := by
  have g : okT t = true := inB_yes h
  unfold yrT dyT nrT erT
  rw [if_pos g, if_pos g, if_pos g, if_pos g]
  exact ⟨rfl, rfl, rfl, rfl⟩
theorem whole {y d s : Int} (hy : 0 ≤ y ∧ y ≤ 16777216) (hd : 0 ≤ d ∧ d ≤ 364) (hs : 0 ≤ s ∧ s ≤ 95) (h : (y * 365 + d) * 96 + s ≤ 16777216) : tmV y d s = (y * 365 + d) * 96 + s ∧ tmE y d s = 0 := by
  have g : okD y d s = true := by unfold okD; rw [inB_yes hy, inB_yes hs, show dayB d = true from inB_yes hd]; rfl
  unfold tmV tmE
  rw [if_pos g, if_pos g]
  unfold stp
  rw [if_pos h, if_pos h]
  exact ⟨rfl, rfl⟩

set_option maxHeartbeats 1600000 in
theorem lba_walk (x : Int) (w : World) (hx : -9223372036854775808 ≤ x ∧ x ≤ 9223372036854775807) :
    Calls Try.prog 4 #[.int .i64 x] w fun e w' => e = .returned (.bool true) ∧ Below w.heap.size w w' := by
  have HM := Lib.hid (fun W => mod_any x 16777120 W hx (by omega) (by omega))
  have t1 := md_lo x 16777120 (by omega)
  have t2 := md_hi x 16777120 (by omega)
  generalize md x 16777120 = t at *
  clear hx
  have HO := Lib.hid (fun W => of_any t W)
  have HD := Lib.hid (fun W => day_any t W)
  have HE := Lib.hid (fun W => day_any (t + 96) W)
  obtain ⟨p1, p2, p3, p4⟩ := parts (t := t) (by omega)
  obtain ⟨q1, q2, q3, q4⟩ := parts (t := t + 96) (by omega)
  have HT := Lib.hid (fun W => time_any (yrT t) (dyT t) (nrT t) W)
  obtain ⟨s1, s2⟩ := whole (y := yrT t) (d := dyT t) (s := nrT t) (by omega) (by omega) (by omega) (by omega)
  rw [s1, s2] at HT
  rw [p4] at HO HD
  rw [q4] at HE
  have e1 : ((yrT t * 365 + dyT t) * 96 + nrT t == t) = true := by rw [beq_iff_eq]; omega
  have e2 : (dyT (t + 96) == (dyT t + 1) % 365) = true := by rw [beq_iff_eq]; omega
  have b1 : 0 ≤ dyT t ∧ dyT t ≤ 364 := by omega
  have b2 : 0 ≤ dyT (t + 96) ∧ dyT (t + 96) ≤ 364 := by omega
  clear p1 p2 p3 p4 q1 q2 q3 q4 s1 s2
  generalize (yrT t * 365 + dyT t) * 96 + nrT t = u at *
  generalize yrT t = y at *
  generalize dyT t = d at *
  generalize nrT t = n at *
  generalize dyT (t + 96) = z at *
  go_enter Try.func4, Try.ntmps4
  go_wp2_with (first
    | (go_at_call 8; refine (HM.out _).mono ?_; rintro e w' ⟨rfl, rfl⟩)
    | (go_at_call 11; refine (HO.out _).mono ?_; rintro e w' ⟨rfl, rfl⟩)
    | (go_at_call 13; refine (HT.out _).mono ?_; rintro e w' ⟨rfl, rfl⟩)
    | (go_at_call 9; first | (refine (HD.out _).mono ?_; rintro e w' ⟨rfl, rfl⟩; clear HD) | (refine (HE.out _).mono ?_; rintro e w' ⟨rfl, rfl⟩))
    | (go_at_call 24; refine (awk_any _).mono ?_; rintro e w' ⟨rfl, hb⟩))
  go_ret
  exact ⟨rfl, hb⟩
end Go.Proofs.Ytpdbomajhfkaeaa.Ca

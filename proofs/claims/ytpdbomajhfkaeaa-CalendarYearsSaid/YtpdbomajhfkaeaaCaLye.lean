/-
  The walk of the law CalendarYears.
-/
import Derived.Test.YtpdbomajhfkaeaaCaLba
namespace Go.Proofs.Ytpdbomajhfkaeaa.Ca
open Go.ChangeShapes Go.WideShapes Go.ChangeAt Go.RowKit
set_option linter.unusedVariables false

set_option maxHeartbeats 1600000 in
theorem lye_walk (a b c : Int) (w : World) (ha : -9223372036854775808 ≤ a ∧ a ≤ 9223372036854775807) (hb : -9223372036854775808 ≤ b ∧ b ≤ 9223372036854775807) (hc : -9223372036854775808 ≤ c ∧ c ≤ 9223372036854775807) :
    Calls Try.prog 7 #[.int .i64 a, .int .i64 b, .int .i64 c] w fun e w' => e = .returned (.bool true) ∧ Below w.heap.size w w' := by
  have HA := Lib.hid (fun W => mod_any a 400 W ha (by omega) (by omega))
  have HB := Lib.hid (fun W => mod_any b 365 W hb (by omega) (by omega))
  have HC := Lib.hid (fun W => mod_any c 96 W hc (by omega) (by omega))
  have y1 := md_lo a 400 (by omega)
  have y2 := md_hi a 400 (by omega)
  have d1 := md_lo b 365 (by omega)
  have d2 := md_hi b 365 (by omega)
  have n1 := md_lo c 96 (by omega)
  have n2 := md_hi c 96 (by omega)
  generalize md a 400 = y at *
  generalize md b 365 = d at *
  generalize md c 96 = n at *
  clear ha hb hc
  have HT := Lib.hid (fun W => time_any y d n W)
  obtain ⟨s1, s2⟩ := whole (y := y) (d := d) (s := n) (by omega) (by omega) (by omega) (by omega)
  rw [s1, s2] at HT
  clear s1 s2
  obtain ⟨t, ht⟩ : ∃ t, (y * 365 + d) * 96 + n = t := ⟨_, rfl⟩
  rw [ht] at HT
  have HO := Lib.hid (fun W => of_any (t + 1) W)
  have t1 : 0 ≤ t := by omega
  have t2 : t ≤ 16777000 := by omega
  obtain ⟨p1, p2, p3, p4⟩ := parts (t := t + 1) (by omega)
  rw [p4] at HO
  by_cases h1 : n + 1 < 96
  · have e1 : (yrT (t + 1) == y) = true := by rw [beq_iff_eq]; omega
    have e2 : (dyT (t + 1) == d) = true := by rw [beq_iff_eq]; omega
    have e3 : (nrT (t + 1) == n + 1) = true := by rw [beq_iff_eq]; omega
    clear p1 p2 p3 p4 ht
    generalize yrT (t + 1) = z at *
    generalize dyT (t + 1) = x at *
    generalize nrT (t + 1) = m at *
    go_enter Try.func7, Try.ntmps7
    go_wp2_with (first
      | (go_at_call 8; first | (refine (HA.out _).mono ?_; rintro e w' ⟨rfl, rfl⟩; clear HA) | (refine (HB.out _).mono ?_; rintro e w' ⟨rfl, rfl⟩; clear HB) | (refine (HC.out _).mono ?_; rintro e w' ⟨rfl, rfl⟩))
      | (go_at_call 13; refine (HT.out _).mono ?_; rintro e w' ⟨rfl, rfl⟩)
      | (go_at_call 11; refine (HO.out _).mono ?_; rintro e w' ⟨rfl, rfl⟩)
      | (go_at_call 24; refine (awk_any _).mono ?_; rintro e w' ⟨rfl, hb⟩))
    go_ret
    exact ⟨rfl, hb⟩
  by_cases h2 : d + 1 < 365
  · have e1 : (yrT (t + 1) == y) = true := by rw [beq_iff_eq]; omega
    have e2 : (dyT (t + 1) == d + 1) = true := by rw [beq_iff_eq]; omega
    have e3 : (nrT (t + 1) == 0) = true := by rw [beq_iff_eq]; omega
    clear p1 p2 p3 p4 ht
    generalize yrT (t + 1) = z at *
    generalize dyT (t + 1) = x at *
    generalize nrT (t + 1) = m at *
    go_enter Try.func7, Try.ntmps7
    go_wp2_with (first
      | (go_at_call 8; first | (refine (HA.out _).mono ?_; rintro e w' ⟨rfl, rfl⟩; clear HA) | (refine (HB.out _).mono ?_; rintro e w' ⟨rfl, rfl⟩; clear HB) | (refine (HC.out _).mono ?_; rintro e w' ⟨rfl, rfl⟩))
      | (go_at_call 13; refine (HT.out _).mono ?_; rintro e w' ⟨rfl, rfl⟩)
      | (go_at_call 11; refine (HO.out _).mono ?_; rintro e w' ⟨rfl, rfl⟩)
      | (go_at_call 24; refine (awk_any _).mono ?_; rintro e w' ⟨rfl, hb⟩))
    go_ret
    exact ⟨rfl, hb⟩
  · have e1 : (yrT (t + 1) == y + 1) = true := by rw [beq_iff_eq]; omega
    have e2 : (dyT (t + 1) == 0) = true := by rw [beq_iff_eq]; omega
    have e3 : (nrT (t + 1) == 0) = true := by rw [beq_iff_eq]; omega
    clear p1 p2 p3 p4 ht
    generalize yrT (t + 1) = z at *
    generalize dyT (t + 1) = x at *
    generalize nrT (t + 1) = m at *
    go_enter Try.func7, Try.ntmps7
    go_wp2_with (first
      | (go_at_call 8; first | (refine (HA.out _).mono ?_; rintro e w' ⟨rfl, rfl⟩; clear HA) | (refine (HB.out _).mono ?_; rintro e w' ⟨rfl, rfl⟩; clear HB) | (refine (HC.out _).mono ?_; rintro e w' ⟨rfl, rfl⟩))
      | (go_at_call 13; refine (HT.out _).mono ?_; rintro e w' ⟨rfl, rfl⟩)
      | (go_at_call 11; refine (HO.out _).mono ?_; rintro e w' ⟨rfl, rfl⟩)
      | (go_at_call 24; refine (awk_any _).mono ?_; rintro e w' ⟨rfl, hb⟩))
    go_ret
    exact ⟨rfl, hb⟩
end Go.Proofs.Ytpdbomajhfkaeaa.Ca

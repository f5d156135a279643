/-
  The contract of awake (the examples of chapter 4): true, whatever the world.
-/
import Derived.Test.YtpdbomajhfkaeaaCaBo
namespace Go.Proofs.Ytpdbomajhfkaeaa.Ca
open Go.ChangeShapes Go.WideShapes Go.ChangeAt Go.RowKit
set_option linter.unusedVariables false

theorem ten : dyN 360 4 = 10 := by decide +kernel
theorem two_in : insB 360 4 2 = true := by decide +kernel
theorem day96 : dyT 96 = 1 ∧ erT 96 = 0 := by decide +kernel

set_option maxHeartbeats 800000 in
theorem awk_any (w : World) : Calls Try.prog 24 #[] w fun e w' => e = .returned (.bool true) ∧ Below w.heap.size w w' := by
  have HD := Lib.hid (fun W => day_any 96 W)
  rw [day96.1, day96.2] at HD
  have HN := Lib.hid (fun W => days_any 360 4 W)
  rw [ten] at HN
  have HI := Lib.hid (fun W => ins_any 360 4 2 W)
  rw [two_in] at HI
  go_enter Try.func24, Try.ntmps24
  go_wp2_with (first
    | (go_at_call 9; refine (HD.out _).mono ?_; rintro e w1 ⟨rfl, rfl⟩)
    | (go_at_call 19; refine (HN.out _).mono ?_; rintro e w2 ⟨rfl, hb2⟩)
    | (go_at_call 15; refine (HI.out _).mono ?_; rintro e w3 ⟨rfl, hb3⟩))
  go_ret
  exact ⟨rfl, hb2.trans (hb3.mono hb2.size)⟩
/-- .. at any later world. -/
theorem awk_later {w0 : World} (W : World) (hb : Hid (Below w0.heap.size w0 W)) : Calls Try.prog 24 #[] W fun e w' => e = .returned (.bool true) ∧ Hid (Below w0.heap.size w0 w') :=
  (awk_any W).mono fun _ _ ⟨he, h⟩ => ⟨he, hb.out.trans (h.mono hb.out.size)⟩
theorem wf_bd {x : Int} (h : (Lit.int .i64 x).wf = true) : -9223372036854775808 ≤ x ∧ x ≤ 9223372036854775807 := by
  simp [Lit.wf, IntKind.min, IntKind.max, IntKind.signed, IntKind.bits] at h; omega
end Go.Proofs.Ytpdbomajhfkaeaa.Ca

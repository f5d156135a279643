/-
  The days of a span and those behind it: the mathematics.
-/
import Derived.Test.YtpdbomajhfkaeaaCaAwk
namespace Go.Proofs.Ytpdbomajhfkaeaa.Ca
open Go.ChangeShapes Go.WideShapes Go.ChangeAt Go.RowKit
set_option linter.unusedVariables false

theorem ins_iff (f t d : Int) : insB f t d = true ↔ (0 ≤ f ∧ f ≤ 364) ∧ (0 ≤ t ∧ t ≤ 364) ∧ (0 ≤ d ∧ d ≤ 364) ∧ ((f ≤ t ∧ f ≤ d ∧ d ≤ t) ∨ (t < f ∧ (f ≤ d ∨ d ≤ t))) := by
  unfold insB valB dayB inB btw
  by_cases h : f ≤ t
  · rw [if_pos h]; simp only [Bool.and_eq_true, decide_eq_true_eq]; omega
  · rw [if_neg h]; simp only [Bool.and_eq_true, decide_eq_true_eq]; omega
theorem ins_full {f t : Int} (h : ∀ i : Int, 0 ≤ i → i ≤ 364 → insB f t i = true) : dyN f t = 365 :=
  bL_all 365 (fun i hi => h i (by omega) (by omega))
/-- The span behind has the other days. -/
theorem rest_not {f t d : Int} (hf : 0 ≤ f ∧ f < 365) (ht : 0 ≤ t ∧ t < 365) (hd : 0 ≤ d ∧ d < 365) (hn : dyN f t ≠ 365) : insB f t d = !insB ((t + 1) % 365) ((f + 365 - 1) % 365) d := by
  have h1 : ¬ (f = 0 ∧ t = 364) := fun h => hn (ins_full fun i h0 h1 => by rw [ins_iff]; omega)
  have h2 : ¬ (t + 1 = f) := fun h => hn (ins_full fun i h0 h1 => by rw [ins_iff]; omega)
  have e1 := ins_iff f t d
  have e2 := ins_iff ((t + 1) % 365) ((f + 365 - 1) % 365) d
  cases h3 : insB f t d
  · rw [h3] at e1
    have : insB ((t + 1) % 365) ((f + 365 - 1) % 365) d = true := by
      rw [e2]
      have := (not_congr e1).1 (by simp)
      omega
    rw [this]; rfl
  · rw [h3] at e1
    have h4 := e1.1 rfl
    have : ¬ insB ((t + 1) % 365) ((f + 365 - 1) % 365) d = true := by
      rw [e2]
      omega
    simp at this
    rw [this]; rfl
theorem rest_days {f t : Int} (hf : 0 ≤ f ∧ f < 365) (ht : 0 ≤ t ∧ t < 365) (hn : dyN f t ≠ 365) : dyN f t + dyN ((t + 1) % 365) ((f + 365 - 1) % 365) = 365 :=
  bL_two 365 (fun i hi => rest_not hf ht (by omega) hn)
theorem rest_both {f t : Int} (hf : 0 ≤ f ∧ f < 365) (ht : 0 ≤ t ∧ t < 365) (hn : dyN f t ≠ 365) : bL (both f t ((t + 1) % 365) ((f + 365 - 1) % 365)) 365 = [] :=
  bL_none 365 (fun i hi => by
    have h := rest_not hf ht (d := (i : Int)) (by omega) hn
    unfold both insF
    rw [h]
    cases insB ((t + 1) % 365) ((f + 365 - 1) % 365) i <;> rfl)
theorem full_in {f t d : Int} (hd : 0 ≤ d ∧ d < 365) (hn : dyN f t = 365) : insB f t d = true := by
  have h := bL_full (P := insF f t) 365 hn d.toNat (by omega)
  unfold insF at h
  rwa [Int.toNat_of_nonneg hd.1] at h
end Go.Proofs.Ytpdbomajhfkaeaa.Ca

/-
  Contracts of In of package calendar and of its reference.
-/
import Derived.Test.YtpdbomajhfkaeaaCaFns
namespace Go.Proofs.Ytpdbomajhfkaeaa.Ca
open Go.ChangeShapes Go.WideShapes Go.ChangeAt Go.RowKit
set_option linter.unusedVariables false

/-- P4.2: the day is in the span. -/
def insB (f t d : Int) : Bool := valB f t && dayB d && (if f ≤ t then btw f d t else decide (f ≤ d ∨ d ≤ t))
theorem ins_no1 {f t d : Int} (h : valB f t = false) : insB f t d = false := by unfold insB; rw [h]; rfl
theorem ins_no2 {f t d : Int} (h : dayB d = false) : insB f t d = false := by unfold insB; rw [h]; simp
theorem ins_le {f t d : Int} (h : valB f t = true) (h2 : dayB d = true) (h3 : f ≤ t) : insB f t d = btw f d t := by unfold insB; rw [h, h2, if_pos h3]; rfl
theorem ins_gt {f t d : Int} (h : valB f t = true) (h2 : dayB d = true) (h3 : ¬ f ≤ t) : insB f t d = decide (f ≤ d ∨ d ≤ t) := by unfold insB; rw [h, h2, if_neg h3]; rfl
def RetB (b : Bool) (w : World) (e : Ending) (w' : World) : Prop := e = .returned (.bool b) ∧ Below w.heap.size w w'
/-- A box of two numbers. -/
structure Bx2 (w : World) (k : Nat) (a b : Int) : Prop where
  c0 : w.cell? ⟨k, 0, none⟩ = some (.int .i64 a)
  c1 : w.cell? ⟨k, 1, none⟩ = some (.int .i64 b)
theorem Bx2.below {w w' : World} {B k : Nat} {a b : Int} (h : Bx2 w k a b) (hb : Below B w w') (hB : k < B) : Bx2 w' k a b :=
  ⟨(hb.cell (p := ⟨k, 0, none⟩) hB).trans h.c0, (hb.cell (p := ⟨k, 1, none⟩) hB).trans h.c1⟩
theorem Bx2.up {w w' : World} {k : Nat} {a b : Int} (h : Bx2 w k a b) (hb : Below w.heap.size w w') : Bx2 w' k a b := h.below hb (World.block_lt_of_cell? _ _ h.c0)
theorem Bx2.grown {w w' : World} {r : Option Nat} {k : Nat} {a b : Int} (h : Bx2 w k a b) (hg : w.grownBy w' r) (hr : some k ≠ r) : Bx2 w' k a b := ⟨hg.cell h.c0 hr, hg.cell h.c1 hr⟩
theorem bx2_alloc (w : World) (a b : Int) (t : TypeId) : Bx2 (w.alloc (.cells #[.int .i64 a, .int .i64 b] t)) w.heap.size a b := ⟨by simp, by simp⟩
theorem Bx2.alloc {w : World} {k : Nat} {a b : Int} (h : Bx2 w k a b) (o : Obj) : Bx2 (w.alloc o) k a b := h.up ((Below.refl w.heap.size w).alloc (Nat.le_refl _) o)

set_option maxHeartbeats 1600000 in
theorem ins_any (f t d : Int) (w : World) : Calls Try.prog 15 #[.agg #[.int .i64 f, .int .i64 t], .int .i64 d] w (RetB (insB f t d) w) := by
  have HV := Lib.hid (fun W => valid_any f t W)
  have HD := Lib.hid (fun W => isday_any d W)
  have HX := Lib.hid (bx2_alloc w f t 23)
  have HB := Lib.hid ((Below.refl w.heap.size w).alloc (Nat.le_refl _) (.cells #[.int .i64 f, .int .i64 t] 23))
  by_cases h1 : valB f t = true
  · by_cases h2 : dayB d = true
    · by_cases h3 : f ≤ t
      · rw [ins_le h1 h2 h3]
        have e3 : decide (f ≤ t) = true := by rw [decide_eq_true_eq]; exact h3
        clear h3
        go_enter Try.func15, Try.ntmps15
        go_wp2_with (first | (go_at_call 17; refine (HV.out _).mono ?_; rintro e w1 ⟨rfl, hb1⟩; have HX1 := Lib.hid (HX.out.up hb1); obtain ⟨c0, c1⟩ := HX1.out) | (go_at_call 29; refine (HD.out _).mono ?_; rintro e w2 ⟨rfl, rfl⟩) | (go_at_call 27; refine (bt_any _ _ _ _).mono ?_; rintro e w2 ⟨rfl, rfl⟩))
        go_ret
        exact ⟨rfl, HB.out.trans (hb1.mono (by simp))⟩
      · rw [ins_gt h1 h2 h3]
        have e3 : decide (f ≤ t) = false := by rw [decide_eq_false_iff_not]; exact h3
        clear h3
        by_cases h4 : f ≤ d
        · have e4 : decide (f ≤ d) = true := by rw [decide_eq_true_eq]; exact h4
          rw [show decide (f ≤ d ∨ d ≤ t) = true by rw [decide_eq_true_eq]; exact .inl h4]
          clear h4
          go_enter Try.func15, Try.ntmps15
          go_wp2_with (first | (go_at_call 17; refine (HV.out _).mono ?_; rintro e w1 ⟨rfl, hb1⟩; have HX1 := Lib.hid (HX.out.up hb1); obtain ⟨c0, c1⟩ := HX1.out) | (go_at_call 29; refine (HD.out _).mono ?_; rintro e w2 ⟨rfl, rfl⟩) | (go_at_call 27; refine (bt_any _ _ _ _).mono ?_; rintro e w2 ⟨rfl, rfl⟩))
          go_ret
          exact ⟨rfl, HB.out.trans (hb1.mono (by simp))⟩
        · have e4 : decide (f ≤ d) = false := by rw [decide_eq_false_iff_not]; exact h4
          rw [show decide (f ≤ d ∨ d ≤ t) = decide (d ≤ t) by congr 1; simp [h4]]
          clear h4
          go_enter Try.func15, Try.ntmps15
          go_wp2_with (first | (go_at_call 17; refine (HV.out _).mono ?_; rintro e w1 ⟨rfl, hb1⟩; have HX1 := Lib.hid (HX.out.up hb1); obtain ⟨c0, c1⟩ := HX1.out) | (go_at_call 29; refine (HD.out _).mono ?_; rintro e w2 ⟨rfl, rfl⟩) | (go_at_call 27; refine (bt_any _ _ _ _).mono ?_; rintro e w2 ⟨rfl, rfl⟩))
          go_ret
          exact ⟨rfl, HB.out.trans (hb1.mono (by simp))⟩
    · have h2 : dayB d = false := by simpa using h2
      rw [ins_no2 h2]
      go_enter Try.func15, Try.ntmps15
      go_wp2_with (first | (go_at_call 17; refine (HV.out _).mono ?_; rintro e w1 ⟨rfl, hb1⟩; have HX1 := Lib.hid (HX.out.up hb1); obtain ⟨c0, c1⟩ := HX1.out) | (go_at_call 29; refine (HD.out _).mono ?_; rintro e w2 ⟨rfl, rfl⟩) | (go_at_call 27; refine (bt_any _ _ _ _).mono ?_; rintro e w2 ⟨rfl, rfl⟩))
      go_ret
      exact ⟨rfl, HB.out.trans (hb1.mono (by simp))⟩
  · have h1 : valB f t = false := by simpa using h1
    rw [ins_no1 h1]
    go_enter Try.func15, Try.ntmps15
    go_wp2_with (first | (go_at_call 17; refine (HV.out _).mono ?_; rintro e w1 ⟨rfl, hb1⟩; have HX1 := Lib.hid (HX.out.up hb1); obtain ⟨c0, c1⟩ := HX1.out) | (go_at_call 29; refine (HD.out _).mono ?_; rintro e w2 ⟨rfl, rfl⟩) | (go_at_call 27; refine (bt_any _ _ _ _).mono ?_; rintro e w2 ⟨rfl, rfl⟩))
    go_ret
    exact ⟨rfl, HB.out.trans (hb1.mono (by simp))⟩

set_option maxHeartbeats 1600000 in
theorem rins_any (f t d : Int) (w : World) : Calls Try.prog 16 #[.agg #[.int .i64 f, .int .i64 t], .int .i64 d] w (RetB (insB f t d) w) := by
  have HV := Lib.hid (fun W => rvalid_any f t W)
  have HD := Lib.hid (fun W => risday_any d W)
  have HX := Lib.hid (bx2_alloc w f t 23)
  have HB := Lib.hid ((Below.refl w.heap.size w).alloc (Nat.le_refl _) (.cells #[.int .i64 f, .int .i64 t] 23))
  by_cases h1 : valB f t = true
  · by_cases h2 : dayB d = true
    · by_cases h3 : f ≤ t
      · rw [ins_le h1 h2 h3]
        have e3 : decide (f ≤ t) = true := by rw [decide_eq_true_eq]; exact h3
        clear h3
        by_cases h4 : f ≤ d
        · have e4 : decide (f ≤ d) = true := by rw [decide_eq_true_eq]; exact h4
          rw [show btw f d t = decide (d ≤ t) by unfold btw; congr 1; simp [h4]]
          clear h4
          go_enter Try.func16, Try.ntmps16
          go_wp2_with (first | (go_at_call 18; refine (HV.out _).mono ?_; rintro e w1 ⟨rfl, hb1⟩; have HX1 := Lib.hid (HX.out.up hb1); obtain ⟨c0, c1⟩ := HX1.out) | (go_at_call 30; refine (HD.out _).mono ?_; rintro e w2 ⟨rfl, rfl⟩))
          go_ret
          exact ⟨rfl, HB.out.trans (hb1.mono (by simp))⟩
        · have e4 : decide (f ≤ d) = false := by rw [decide_eq_false_iff_not]; exact h4
          rw [show btw f d t = false by unfold btw; rw [decide_eq_false_iff_not]; omega]
          clear h4
          go_enter Try.func16, Try.ntmps16
          go_wp2_with (first | (go_at_call 18; refine (HV.out _).mono ?_; rintro e w1 ⟨rfl, hb1⟩; have HX1 := Lib.hid (HX.out.up hb1); obtain ⟨c0, c1⟩ := HX1.out) | (go_at_call 30; refine (HD.out _).mono ?_; rintro e w2 ⟨rfl, rfl⟩))
          go_ret
          exact ⟨rfl, HB.out.trans (hb1.mono (by simp))⟩
      · rw [ins_gt h1 h2 h3]
        have e3 : decide (f ≤ t) = false := by rw [decide_eq_false_iff_not]; exact h3
        clear h3
        by_cases h4 : f ≤ d
        · have e4 : decide (f ≤ d) = true := by rw [decide_eq_true_eq]; exact h4
          rw [show decide (f ≤ d ∨ d ≤ t) = true by rw [decide_eq_true_eq]; exact .inl h4]
          clear h4
          go_enter Try.func16, Try.ntmps16
          go_wp2_with (first | (go_at_call 18; refine (HV.out _).mono ?_; rintro e w1 ⟨rfl, hb1⟩; have HX1 := Lib.hid (HX.out.up hb1); obtain ⟨c0, c1⟩ := HX1.out) | (go_at_call 30; refine (HD.out _).mono ?_; rintro e w2 ⟨rfl, rfl⟩))
          go_ret
          exact ⟨rfl, HB.out.trans (hb1.mono (by simp))⟩
        · have e4 : decide (f ≤ d) = false := by rw [decide_eq_false_iff_not]; exact h4
          rw [show decide (f ≤ d ∨ d ≤ t) = decide (d ≤ t) by congr 1; simp [h4]]
          clear h4
          go_enter Try.func16, Try.ntmps16
          go_wp2_with (first | (go_at_call 18; refine (HV.out _).mono ?_; rintro e w1 ⟨rfl, hb1⟩; have HX1 := Lib.hid (HX.out.up hb1); obtain ⟨c0, c1⟩ := HX1.out) | (go_at_call 30; refine (HD.out _).mono ?_; rintro e w2 ⟨rfl, rfl⟩))
          go_ret
          exact ⟨rfl, HB.out.trans (hb1.mono (by simp))⟩
    · have h2 : dayB d = false := by simpa using h2
      rw [ins_no2 h2]
      go_enter Try.func16, Try.ntmps16
      go_wp2_with (first | (go_at_call 18; refine (HV.out _).mono ?_; rintro e w1 ⟨rfl, hb1⟩; have HX1 := Lib.hid (HX.out.up hb1); obtain ⟨c0, c1⟩ := HX1.out) | (go_at_call 30; refine (HD.out _).mono ?_; rintro e w2 ⟨rfl, rfl⟩))
      go_ret
      exact ⟨rfl, HB.out.trans (hb1.mono (by simp))⟩
  · have h1 : valB f t = false := by simpa using h1
    rw [ins_no1 h1]
    go_enter Try.func16, Try.ntmps16
    go_wp2_with (first | (go_at_call 18; refine (HV.out _).mono ?_; rintro e w1 ⟨rfl, hb1⟩; have HX1 := Lib.hid (HX.out.up hb1); obtain ⟨c0, c1⟩ := HX1.out) | (go_at_call 30; refine (HD.out _).mono ?_; rintro e w2 ⟨rfl, rfl⟩))
    go_ret
    exact ⟨rfl, HB.out.trans (hb1.mono (by simp))⟩
end Go.Proofs.Ytpdbomajhfkaeaa.Ca

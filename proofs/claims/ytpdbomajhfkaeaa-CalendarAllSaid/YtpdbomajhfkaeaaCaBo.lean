/-
  What Both returns, of package calendar and of its reference; Days of the reference.
-/
import Derived.Test.YtpdbomajhfkaeaaCaLst
import Derived.Sort.AtCall
import Derived.Deep.Onto
namespace Go.Proofs.Ytpdbomajhfkaeaa.Ca
open Go.ChangeShapes Go.WideShapes Go.ChangeAt Go.RowKit
set_option linter.unusedVariables false

set_option maxHeartbeats 4000000 in
theorem both_any (a b c d : Int) (w : World) : Calls Try.prog 22 #[.agg #[.int .i64 a, .int .i64 b], .agg #[.int .i64 c, .int .i64 d]] w (RetL (bL (both a b c d) 365) w) := by
  obtain ⟨i0, hi, hz0, hz1, hz2⟩ := info_parts Try.info3
  have HX := Lib.hid ((bx2_alloc w a b 23).alloc (.cells #[.int .i64 c, .int .i64 d] 23))
  have HY := Lib.hid (bx2_alloc (w.alloc (.cells #[.int .i64 a, .int .i64 b] 23)) c d 23)
  rw [World.size_alloc] at HY
  have HB := Lib.hid (((Below.refl w.heap.size w).alloc (Nat.le_refl _) (.cells #[.int .i64 a, .int .i64 b] 23)).alloc (by simp) (.cells #[.int .i64 c, .int .i64 d] 23))
  go_enter Try.func22, Try.ntmps22
  go_wp2
  go_loopw [5, 7] (fun v i wr => ∃ (k : Nat) (V : Value), V = v ∧ k ≤ 365 ∧ i = .int .i64 k ∧ Hid (Got wr (w.heap.size + 2) V (bL (both a b c d) k)) ∧ Hid (Bx2 wr w.heap.size a b) ∧ Hid (Bx2 wr (w.heap.size + 1) c d) ∧ Hid (Below w.heap.size w wr)) (fun _ i _ => 365 - (intOf i).toNat)
  case atStart => exact ⟨0, _, rfl, by omega, rfl, got_nil _ _, HX, HY, HB⟩
  case round =>
    clear HX HY HB
    obtain ⟨k, V, rfl, hk, rfl, hg, hx, hy, hb⟩ := hrel
    by_cases hlt : k < 365
    · have hki : (k : Int) < 365 := by omega
      have hl := bL_len (both a b c d) k
      have HI1 := Lib.hid (fun W => ins_any a b (k : Int) W)
      have HI2 := Lib.hid (fun W => ins_any c d (k : Int) W)
      obtain ⟨c0, c1⟩ := hx.out
      obtain ⟨d0, d1⟩ := hy.out
      cases hP : insB a b (k : Int)
      · have HE := Lib.hid (bL_no (P := both a b c d) (k := k) (by show (insB a b k && insB c d k) = false; rw [hP]; rfl))
        rw [hP] at HI1
        clear hP
        go_wp2_with (go_at_call 15; refine (HI1.out _).mono ?_; rintro e w1 ⟨rfl, hb1⟩; have HX1 := Lib.hid (hx.out.up hb1); have HY1 := Lib.hid (hy.out.up hb1); have HB1 := Lib.hid (hb.out.trans (hb1.mono hb.out.size)); have HG1 := Lib.hid (hg.out.up hb1))
        go_roundw
        case rel => exact ⟨k + 1, _, rfl, by omega, by go_num, by rw [HE.out]; exact HG1.out, HX1, HY1, HB1⟩
        case measure => simp [intOf]; omega
      · rw [hP] at HI1
        cases hQ : insB c d (k : Int)
        · have HE := Lib.hid (bL_no (P := both a b c d) (k := k) (by show (insB a b k && insB c d k) = false; rw [hP, hQ]; rfl))
          rw [hQ] at HI2
          clear hP hQ
          go_wp2_with (go_at_call 15; first | (go_at_call_has 15 (Value.agg #[Value.int .i64 a, Value.int .i64 b]); refine (HI1.out _).mono ?_; rintro e w1 ⟨rfl, hb1⟩; have HX1 := Lib.hid (hx.out.up hb1); have HY1 := Lib.hid (hy.out.up hb1); have HB1 := Lib.hid (hb.out.trans (hb1.mono hb.out.size)); have HG1 := Lib.hid (hg.out.up hb1); obtain ⟨c0, c1⟩ := HX1.out; obtain ⟨d0, d1⟩ := HY1.out) | (refine (HI2.out _).mono ?_; rintro e w2 ⟨rfl, hb2⟩; have HX2 := Lib.hid (HX1.out.up hb2); have HY2 := Lib.hid (HY1.out.up hb2); have HB2 := Lib.hid (HB1.out.trans (hb2.mono HB1.out.size)); have HG2 := Lib.hid (HG1.out.up hb2); obtain ⟨c0, c1⟩ := HX2.out; obtain ⟨d0, d1⟩ := HY2.out))
          go_roundw
          case rel => exact ⟨k + 1, _, rfl, by omega, by go_num, by rw [HE.out]; exact HG2.out, HX2, HY2, HB2⟩
          case measure => simp [intOf]; omega
        · have HE := Lib.hid (bL_yes (P := both a b c d) (k := k) (by show (insB a b k && insB c d k) = true; rw [hP, hQ]; rfl))
          rw [hQ] at HI2
          clear hP hQ
          go_wp2_with (first | (go_at_call 15; first | (go_at_call_has 15 (Value.agg #[Value.int .i64 a, Value.int .i64 b]); refine (HI1.out _).mono ?_; rintro e w1 ⟨rfl, hb1⟩; have HX1 := Lib.hid (hx.out.up hb1); have HY1 := Lib.hid (hy.out.up hb1); have HB1 := Lib.hid (hb.out.trans (hb1.mono hb.out.size)); have HG1 := Lib.hid (hg.out.up hb1); obtain ⟨c0, c1⟩ := HX1.out; obtain ⟨d0, d1⟩ := HY1.out) | (refine (HI2.out _).mono ?_; rintro e w2 ⟨rfl, hb2⟩; have HX2 := Lib.hid (HX1.out.up hb2); have HY2 := Lib.hid (HY1.out.up hb2); have HB2 := Lib.hid (HB1.out.trans (hb2.mono HB1.out.size)); have HG2 := Lib.hid (HG1.out.up hb2); obtain ⟨c0, c1⟩ := HX2.out; obtain ⟨d0, d1⟩ := HY2.out)) | (at_builtin; refine wpList_append_own _ rfl _ _ 25 rfl (w.heap.size + 2) 3 i0 (.int .i64 0) 1 8 Try.underlying25 hi hz0 hz1 hz2 rfl (by decide) _ (bL (both a b c d) k).length _ rfl (World.ownsRow.alloc HG2.out _) ⟨w2.heap.size, 0, none⟩ 1 1 [.int .i64 k] rfl rfl (cell_one _ _ _) (by intro u hu; simp at hu; subst hu; rfl) (by unfold maxLen; omega) (by omega) (by have := World.block_lt_of_cell? _ _ d0; simp at this ⊢; omega) ?_; intro v' w3 hown' hgrow hnil))
          have HG3 := Lib.hid (got_next hown')
          have hgr : (w2.alloc (Obj.cells #[Value.int .i64 (k : Int)] 3)).grownBy w3 V.ownBlock := hgrow
          have HX3 := Lib.hid ((HX2.out.alloc _).grown hgr (fun e => by have := got_block HG2.out _ e.symm; omega))
          have HY3 := Lib.hid ((HY2.out.alloc _).grown hgr (fun e => by have := got_block HG2.out _ e.symm; omega))
          have HB3 := Lib.hid ((HB2.out.alloc HB2.out.size _).grown hgr (by have := HB2.out.size; simp; omega) (fun j hj => by have := got_block HG2.out j hj; omega))
          clear hown' hgrow hnil hgr
          go_roundw
          case rel => exact ⟨k + 1, _, rfl, by omega, by go_num, by rw [HE.out]; exact HG3.out, HX3, HY3, HB3⟩
          case measure => simp [intOf]; omega
    · obtain rfl : k = 365 := by omega
      go_wp2
      go_ret
      exact ⟨_, rfl, World.ownsRow.mono hg.out (by omega), hb.out⟩

set_option maxHeartbeats 4000000 in
theorem rboth_any (a b c d : Int) (w : World) : Calls Try.prog 23 #[.agg #[.int .i64 a, .int .i64 b], .agg #[.int .i64 c, .int .i64 d]] w (RetL (bL (both a b c d) 365) w) := by
  obtain ⟨i0, hi, hz0, hz1, hz2⟩ := info_parts Try.info3
  have HX := Lib.hid ((bx2_alloc w a b 23).alloc (.cells #[.int .i64 c, .int .i64 d] 23))
  have HY := Lib.hid (bx2_alloc (w.alloc (.cells #[.int .i64 a, .int .i64 b] 23)) c d 23)
  rw [World.size_alloc] at HY
  have HB := Lib.hid (((Below.refl w.heap.size w).alloc (Nat.le_refl _) (.cells #[.int .i64 a, .int .i64 b] 23)).alloc (by simp) (.cells #[.int .i64 c, .int .i64 d] 23))
  go_enter Try.func23, Try.ntmps23
  go_wp2
  go_loopw [5, 7] (fun v i wr => ∃ (k : Nat) (V : Value), V = v ∧ k ≤ 365 ∧ i = .int .i64 k ∧ Hid (Got wr (w.heap.size + 2) V (bL (both a b c d) k)) ∧ Hid (Bx2 wr w.heap.size a b) ∧ Hid (Bx2 wr (w.heap.size + 1) c d) ∧ Hid (Below w.heap.size w wr)) (fun _ i _ => 365 - (intOf i).toNat)
  case atStart => exact ⟨0, _, rfl, by omega, rfl, got_nil _ _, HX, HY, HB⟩
  case round =>
    clear HX HY HB
    obtain ⟨k, V, rfl, hk, rfl, hg, hx, hy, hb⟩ := hrel
    by_cases hlt : k < 365
    · have hki : (k : Int) < 365 := by omega
      have hl := bL_len (both a b c d) k
      have HI1 := Lib.hid (fun W => rins_any a b (k : Int) W)
      have HI2 := Lib.hid (fun W => rins_any c d (k : Int) W)
      obtain ⟨c0, c1⟩ := hx.out
      obtain ⟨d0, d1⟩ := hy.out
      cases hP : insB a b (k : Int)
      · have HE := Lib.hid (bL_no (P := both a b c d) (k := k) (by show (insB a b k && insB c d k) = false; rw [hP]; rfl))
        rw [hP] at HI1
        clear hP
        go_wp2_with (go_at_call 16; refine (HI1.out _).mono ?_; rintro e w1 ⟨rfl, hb1⟩; have HX1 := Lib.hid (hx.out.up hb1); have HY1 := Lib.hid (hy.out.up hb1); have HB1 := Lib.hid (hb.out.trans (hb1.mono hb.out.size)); have HG1 := Lib.hid (hg.out.up hb1))
        go_roundw
        case rel => exact ⟨k + 1, _, rfl, by omega, by go_num, by rw [HE.out]; exact HG1.out, HX1, HY1, HB1⟩
        case measure => simp [intOf]; omega
      · rw [hP] at HI1
        cases hQ : insB c d (k : Int)
        · have HE := Lib.hid (bL_no (P := both a b c d) (k := k) (by show (insB a b k && insB c d k) = false; rw [hP, hQ]; rfl))
          rw [hQ] at HI2
          clear hP hQ
          go_wp2_with (go_at_call 16; first | (go_at_call_has 16 (Value.agg #[Value.int .i64 a, Value.int .i64 b]); refine (HI1.out _).mono ?_; rintro e w1 ⟨rfl, hb1⟩; have HX1 := Lib.hid (hx.out.up hb1); have HY1 := Lib.hid (hy.out.up hb1); have HB1 := Lib.hid (hb.out.trans (hb1.mono hb.out.size)); have HG1 := Lib.hid (hg.out.up hb1); obtain ⟨c0, c1⟩ := HX1.out; obtain ⟨d0, d1⟩ := HY1.out) | (refine (HI2.out _).mono ?_; rintro e w2 ⟨rfl, hb2⟩; have HX2 := Lib.hid (HX1.out.up hb2); have HY2 := Lib.hid (HY1.out.up hb2); have HB2 := Lib.hid (HB1.out.trans (hb2.mono HB1.out.size)); have HG2 := Lib.hid (HG1.out.up hb2); obtain ⟨c0, c1⟩ := HX2.out; obtain ⟨d0, d1⟩ := HY2.out))
          go_roundw
          case rel => exact ⟨k + 1, _, rfl, by omega, by go_num, by rw [HE.out]; exact HG2.out, HX2, HY2, HB2⟩
          case measure => simp [intOf]; omega
        · have HE := Lib.hid (bL_yes (P := both a b c d) (k := k) (by show (insB a b k && insB c d k) = true; rw [hP, hQ]; rfl))
          rw [hQ] at HI2
          clear hP hQ
          go_wp2_with (first | (go_at_call 16; first | (go_at_call_has 16 (Value.agg #[Value.int .i64 a, Value.int .i64 b]); refine (HI1.out _).mono ?_; rintro e w1 ⟨rfl, hb1⟩; have HX1 := Lib.hid (hx.out.up hb1); have HY1 := Lib.hid (hy.out.up hb1); have HB1 := Lib.hid (hb.out.trans (hb1.mono hb.out.size)); have HG1 := Lib.hid (hg.out.up hb1); obtain ⟨c0, c1⟩ := HX1.out; obtain ⟨d0, d1⟩ := HY1.out) | (refine (HI2.out _).mono ?_; rintro e w2 ⟨rfl, hb2⟩; have HX2 := Lib.hid (HX1.out.up hb2); have HY2 := Lib.hid (HY1.out.up hb2); have HB2 := Lib.hid (HB1.out.trans (hb2.mono HB1.out.size)); have HG2 := Lib.hid (HG1.out.up hb2); obtain ⟨c0, c1⟩ := HX2.out; obtain ⟨d0, d1⟩ := HY2.out)) | (at_builtin; refine wpList_append_own _ rfl _ _ 25 rfl (w.heap.size + 2) 3 i0 (.int .i64 0) 1 8 Try.underlying25 hi hz0 hz1 hz2 rfl (by decide) _ (bL (both a b c d) k).length _ rfl (World.ownsRow.alloc HG2.out _) ⟨w2.heap.size, 0, none⟩ 1 1 [.int .i64 k] rfl rfl (cell_one _ _ _) (by intro u hu; simp at hu; subst hu; rfl) (by unfold maxLen; omega) (by omega) (by have := World.block_lt_of_cell? _ _ d0; simp at this ⊢; omega) ?_; intro v' w3 hown' hgrow hnil))
          have HG3 := Lib.hid (got_next hown')
          have hgr : (w2.alloc (Obj.cells #[Value.int .i64 (k : Int)] 3)).grownBy w3 V.ownBlock := hgrow
          have HX3 := Lib.hid ((HX2.out.alloc _).grown hgr (fun e => by have := got_block HG2.out _ e.symm; omega))
          have HY3 := Lib.hid ((HY2.out.alloc _).grown hgr (fun e => by have := got_block HG2.out _ e.symm; omega))
          have HB3 := Lib.hid ((HB2.out.alloc HB2.out.size _).grown hgr (by have := HB2.out.size; simp; omega) (fun j hj => by have := got_block HG2.out j hj; omega))
          clear hown' hgrow hnil hgr
          go_roundw
          case rel => exact ⟨k + 1, _, rfl, by omega, by go_num, by rw [HE.out]; exact HG3.out, HX3, HY3, HB3⟩
          case measure => simp [intOf]; omega
    · obtain rfl : k = 365 := by omega
      go_wp2
      go_ret
      exact ⟨_, rfl, World.ownsRow.mono hg.out (by omega), hb.out⟩

set_option maxHeartbeats 800000 in
theorem rdays_any (f t : Int) (w : World) : Calls Try.prog 20 #[.agg #[.int .i64 f, .int .i64 t]] w (RetI (dyN f t) w) := by
  have HX := Lib.hid (bx2_alloc w f t 23)
  have HB := Lib.hid ((Below.refl w.heap.size w).alloc (Nat.le_refl _) (.cells #[.int .i64 f, .int .i64 t] 23))
  have HC : Hid (∀ W, Calls Try.prog 23 #[.agg #[.int .i64 f, .int .i64 t], .agg #[.int .i64 f, .int .i64 t]] W (fun e w' => ∃ p cap, e = .returned (.slice p (dyN f t) cap) ∧ Below W.heap.size W w')) := fun W =>
    (rboth_any f t f t W).mono fun e w' ⟨v, he, hg, hb⟩ => by
      rw [both_self] at hg
      obtain ⟨p, cap, hv, _⟩ := got_rd hg
      exact ⟨p, cap, by rw [he, hv]; rfl, hb⟩
  generalize dyN f t = n at *
  go_enter Try.func20, Try.ntmps20
  go_wp2_with (go_at_call 23; refine (HC.out _).mono ?_; rintro e w1 ⟨p, cap, rfl, hb1⟩)
  go_ret
  exact ⟨rfl, HB.out.trans (hb1.mono (by simp))⟩
end Go.Proofs.Ytpdbomajhfkaeaa.Ca

/-
  The contract of at of the reference: the level of a day of a valid rule curve.
-/
import Derived.Test.YtdblppbjlgmccaaRuAt
namespace Go.Proofs.Ytdblppbjlgmccaa.Ru
open Go.ChangeShapes Go.WideShapes Go.ChangeAt Go.RowKit
open Go.Proofs.Ytdblppbjlgmccaa.Cu
set_option linter.unusedVariables false

theorem tdiv_floor (a b : Int) (ha : a < 0) (hb : 1 ≤ b) : a / b = if a.tmod b < 0 then a.tdiv b - 1 else a.tdiv b := by
  have h := flr_pos a b hb
  have h2 : (flr a b).1 = a / b := by rw [h]
  unfold flr at h2
  rw [if_neg (by omega), if_neg (by omega)] at h2
  have h3 : a.tmod b ≤ 0 := by have := Int.tmod_nonneg (a := -a) b (by omega); rw [Int.neg_tmod] at this; omega
  by_cases c : a.tmod b < 0
  · rw [if_pos c]
    rw [if_pos ⟨by omega, .inl ⟨ha, by omega⟩⟩] at h2
    exact h2.symm
  · rw [if_neg c]
    rw [if_neg (by omega)] at h2
    exact h2.symm

set_option maxHeartbeats 1000000 in
theorem rflo_any (a b : Int) (w : World) (ha : -4611686018427387904 ≤ a ∧ a ≤ 4611686018427387904) (hb : 1 ≤ b ∧ b ≤ 4611686018427387904) :
    Calls Try.prog 54 #[.int .i64 a, .int .i64 b] w fun e w' => e = .returned (.int .i64 (a / b)) ∧ w = w' := by
  have e0 : (b == 0) = false := by rw [beq_eq_false_iff_ne]; omega
  have n0 : ¬ b = 0 := by omega
  have n1 : ¬ b = -1 := by omega
  have e9 : (a == -9223372036854775808) = false := by rw [beq_eq_false_iff_ne]; omega
  by_cases s : 0 ≤ a
  · have h1 := div_bd (x := a) (d := b) s hb.1
    have h2 : 0 ≤ a % b := Int.emod_nonneg _ n0
    have h3 : a % b < b := Int.emod_lt_of_pos _ (by omega)
    have dr : decide (a % b < 0) = false := by rw [decide_eq_false_iff_not]; omega
    go_enter Try.func54, Try.ntmps54
    go_wp2
    go_ret
    exact ⟨rfl, rfl⟩
  · have hq := tdiv_bd a b (by omega) n0 (by omega)
    have hr := tmod_bd a b (by omega)
    have hf := tdiv_floor a b (by omega) hb.1
    by_cases c : a.tmod b < 0
    · rw [if_pos c] at hf
      rw [hf]
      have hq2 := tdiv_bd2 a b (by omega) n0 (by omega)
      have HF := Lib.hid hf
      clear hf
      go_enter Try.func54, Try.ntmps54
      go_wp2
      go_ret
      exact ⟨rfl, rfl⟩
    · rw [if_neg c] at hf
      rw [hf]
      have HF := Lib.hid hf
      clear hf
      go_enter Try.func54, Try.ntmps54
      go_wp2
      go_ret
      exact ⟨rfl, rfl⟩
theorem rdown_any (a b : Int) (w : World) (ha : -4611686018427387904 ≤ a ∧ a ≤ 4611686018427387904) (hb : 1 ≤ b ∧ b ≤ 4611686018427387904) :
    Calls Try.prog 41 #[.int .i64 a, .int .i64 b] w fun e w' => e = .returned (.int .i64 (a / b)) ∧ w = w' := by
  have HF := Lib.hid (fun W => rflo_any a b W ha hb)
  generalize a / b = q at *
  go_enter Try.func41, Try.ntmps41
  go_wp2_with (go_at_call 54; refine (HF.out _).mono ?_; rintro e w' ⟨rfl, rfl⟩)
  go_ret
  exact ⟨rfl, rfl⟩

theorem mulab {a b A B : Int} (h1 : -A ≤ a) (h2 : a ≤ A) (h3 : 0 ≤ b) (h4 : b ≤ B) : -(A * B) ≤ a * b ∧ a * b ≤ A * B := by
  have p := mul_bd (a := A - a) (num := b) (A := A + A) (B := B) (by omega) (by omega) h3 h4
  have q := mul_bd (a := A + a) (num := b) (A := A + A) (B := B) (by omega) (by omega) h3 h4
  have r : 0 ≤ A * (B - b) := Int.mul_nonneg (by omega) (by omega)
  rw [Int.sub_mul] at p
  rw [Int.add_mul] at q
  rw [Int.mul_sub] at r
  omega

/-- One line of the curve, as at reads it. -/
structure Ln (X Y : Nat → Int) (n k : Nat) (ax ay bx yb : Int) : Prop where
  ea : ax = X k ∧ ay = Y k
  eb : (k + 1 < n ∧ bx = X (k + 1) ∧ yb = Y (k + 1)) ∨ (k + 1 = n ∧ bx = X 0 ∧ yb = Y 0)

set_option maxHeartbeats 8000000 in
theorem rrl_any (b off n c : Nat) (X Y : Nat → Int) (x : Int) (w : World) (hr : Rc X Y n) (hp : Pts w b off n X Y) (x0 : 0 ≤ x) (x1 : x ≤ 364) :
    Calls Try.prog 31 #[.slice (some ⟨b, off, none⟩) n c, .int .i64 x] w (RtI (rl X Y n x) w) := by
  have hn1 := hr.pos
  have hn2 := hr.len
  obtain ⟨c1, _⟩ := hp.2 0 (by omega)
  rw [Nat.zero_mul, Nat.add_zero] at c1
  have a1 := hr.xlo 0 (by omega)
  have a2 := hr.xhi 0 (by omega)
  have hn0 : (0 : Int) < (n : Int) := by omega
  have hdn : ∃ d, d = dn X x := ⟨_, rfl⟩
  obtain ⟨d, hd⟩ := hdn
  have hd2 : px X n 0 ≤ d ∧ d < px X n n := by
    rw [px_small X n 0 (by omega), px_n X n hn1, hd]; unfold dn; split <;> omega
  have hd3 : 0 ≤ d ∧ d ≤ 729 := by rw [hd]; unfold dn; split <;> omega
  have HD2 := Lib.hid hd2
  have HR := Lib.hid hr
  have HP := Lib.hid hp
  have hdx : (x < X 0 ∧ d = x + 365) ∨ (¬ x < X 0 ∧ x = d) := by
    rw [hd]; unfold dn
    by_cases h : x < X 0
    · rw [if_pos h]; exact .inl ⟨h, rfl⟩
    · rw [if_neg h]; exact .inr ⟨h, rfl⟩
  have HDN := Lib.hid hd
  clear hd hd2 hr hp
  generalize hx0 : X 0 = z0 at c1 a1 a2 hdx
  have HX0 := Lib.hid hx0
  clear hx0
  rcases hdx with ⟨h1, h2⟩ | ⟨h1, h2⟩
  · have h3 := h2.symm
    have H2 := Lib.hid h2
    clear h2
    go_enter Try.func31, Try.ntmps31
    go_wp2
    clear c1 h1 h3
    go_loopw [21] (fun i wr => ∃ k : Nat, k ≤ n ∧ i = .int .i64 k ∧ Hid (px X n k ≤ d) ∧ Hid (Below w.heap.size w wr)) (fun i _ => n - (intOf i).toNat)
    case atStart => exact ⟨0, Nat.zero_le _, rfl, HD2.out.1, Below.refl _ _⟩
    case round =>
      obtain ⟨k, hk, rfl, hpx, hb⟩ := hrel
      by_cases hkn : k < n
      · have HPW := Lib.hid (HP.out.up hb.out (Nat.le_refl _))
        have hws := hb.out.size
        have hbl : b < wr.heap.size := HPW.out.1
        have nb1 : ¬ b = wr.heap.size := by omega
        have nb2 : ¬ b = wr.heap.size + 1 := by omega
        have HB2 : Hid (∀ o o' q, Below w.heap.size w (((wr.alloc o).alloc o').drew.drewN q)) := fun o o' q => below_drewN (below_drewN ((hb.out.alloc hws o).alloc (by simp; omega) o') 1) q
        have HB3 : Hid (∀ o o', Below w.heap.size w ((wr.alloc o).alloc o').drew) := fun o o' => below_drewN ((hb.out.alloc hws o).alloc (by simp; omega) o') 1
        have hki : (k : Int) < (n : Int) := by omega
        have nn0 : ¬ (n : Int) = 0 := by omega
        have nn2 : ¬ n = 0 := by omega
        have hwk : IntKind.i64.wrap ((k : Int) + 1) = (k : Int) + 1 := by rw [IntKind.wrap_i64]; omega
        have nn1 : ((n : Int) == 0) = false := by rw [beq_eq_false_iff_ne]; exact nn0
        obtain ⟨c3, c4⟩ := HPW.out.2 k hkn
        have b1 := HR.out.xlo k hkn
        have b2 := HR.out.xhi k hkn
        have b3 := HR.out.ylo k hkn
        have b4 := HR.out.yhi k hkn
        have lo : X k ≤ d := by have := hpx.out; rwa [px_small X n k hkn] at this
        have hup := px_up HR.out k
        by_cases hlast : k + 1 < n
        · have hk1 : (k : Int) + 1 < (n : Int) := by omega
          have hm1 : ((k : Int) + 1) % (n : Int) = (k : Int) + 1 := Int.emod_eq_of_lt (by omega) hk1
          have hm2 : ((k : Int) + 1).tmod (n : Int) = (k : Int) + 1 := by rw [Int.tmod_eq_emod_of_nonneg (by omega)]; exact hm1
          have dl : ((k : Int) == (n : Int) - 1) = false := by rw [beq_eq_false_iff_ne]; omega
          obtain ⟨c5, c6⟩ := HPW.out.2 (k + 1) hlast
          have b5 := HR.out.xlo (k + 1) hlast
          have b6 := HR.out.xhi (k + 1) hlast
          have b7 := HR.out.ylo (k + 1) hlast
          have b8 := HR.out.yhi (k + 1) hlast
          have PK := px_small X n (k + 1) hlast
          have QK := py_small Y n (k + 1) hlast
          rw [px_small X n k hkn, PK] at hup
          by_cases hin : d < X (k + 1)
          · have HRL : Hid (rl X Y n x = Y k + (Y (k + 1) - Y k) * (d - X k) / (X (k + 1) - X k)) := by
              have hd := HDN.out
              have h := rl_seg HR.out x k hkn (by rw [← hd]; exact hpx.out) (by rw [← hd, PK]; exact hin)
              rw [← hd] at h
              unfold lin at h
              rw [px_small X n k hkn, py_small Y n k hkn, PK, QK, Int.mul_comm] at h
              exact h
            clear PK QK HPW hpx
            generalize X (k + 1) = xb at *
            generalize Y (k + 1) = yb at *
            generalize X k = xa at *
            generalize Y k = ya at *
            have hxp : 1 ≤ xb - xa := by omega
            have dlo : decide (xa ≤ d) = true := by rw [decide_eq_true_eq]; exact lo
            have dhi : decide (d < xb) = true := by rw [decide_eq_true_eq]; omega
            have mm := mulab (a := yb - ya) (b := d - xa) (A := 16777216) (B := 729) (by omega) (by omega) (by omega) (by omega)
            obtain ⟨mm1, mm2⟩ := mm
            have HF := Lib.hid (fun W => rdown_any ((yb - ya) * (d - xa)) (xb - xa) W (by omega) (by omega))
            have hq1 := rl_ge HR.out 0 HR.out.ylo x x0 x1
            have hq2 := rl_le HR.out 16777216 HR.out.yhi x x0 x1
            rw [HRL.out] at hq1 hq2
            have w1 : IntKind.i64.wrap (yb - ya) = yb - ya := by rw [IntKind.wrap_i64]; omega
            have w2 : IntKind.i64.wrap (d - xa) = d - xa := by rw [IntKind.wrap_i64]; omega
            have w3 : IntKind.i64.wrap (xb - xa) = xb - xa := by rw [IntKind.wrap_i64]; omega
            have w4 : IntKind.i64.wrap ((yb - ya) * (d - xa)) = (yb - ya) * (d - xa) := by rw [IntKind.wrap_i64]; omega
            generalize (yb - ya) * (d - xa) / (xb - xa) = q at *
            have w5 : IntKind.i64.wrap (ya + q) = ya + q := by rw [IntKind.wrap_i64]; omega
            clear hup
            go_wp2
            go_region
            all_goals clear c3 c4 c5 c6 hm1 hm2 dl
            all_goals go_wp2
            all_goals go_quiet (refine (HF.out _).mono fun e w' h => ⟨h.1, _, h.2.symm⟩)
            all_goals go_wp2
            all_goals go_ret
            all_goals exact ⟨by rw [HRL.out]; rfl, HB2.out _ _ _⟩
          · have HNX : Hid (px X n (k + 1) ≤ d) := show px X n (k + 1) ≤ d by rw [PK]; omega
            have dlo : decide (X k ≤ d) = true := by rw [decide_eq_true_eq]; exact lo
            have dhi : decide (d < X (k + 1)) = false := by rw [decide_eq_false_iff_not]; exact hin
            clear PK QK HPW hpx
            generalize X (k + 1) = xb at *
            generalize Y (k + 1) = yb at *
            generalize X k = xa at *
            generalize Y k = ya at *
            clear hup
            go_wp2
            go_region
            all_goals clear c3 c4 c5 c6 hm1 hm2 dl
            all_goals go_wp2
            all_goals go_roundw
            all_goals first
              | exact ⟨k + 1, by omega, by go_num, HNX, HB3.out _ _⟩
              | (simp [intOf]; omega)
        · obtain rfl : n = k + 1 := by omega
          have hm1 : ((k : Int) + 1) % ((k : Int) + 1) = 0 := Int.emod_self
          have hm2 : ((k : Int) + 1).tmod ((k : Int) + 1) = 0 := Int.tmod_self
          have dl : (k : Int) ≤ (k : Int) := Int.le_refl _
          have nn3 : ¬ (k : Int) + 1 = 0 := by omega
          have nn4 : (((k : Int) + 1) == 0) = false := by rw [beq_eq_false_iff_ne]; exact nn3
          have kk1 : (k : Int) < (k : Int) + 1 := by omega
          obtain ⟨c5, c6⟩ := HPW.out.2 0 (by omega)
          rw [Nat.zero_mul, Nat.add_zero] at c5 c6
          have b5 := HR.out.xlo 0 (by omega)
          have b6 := HR.out.xhi 0 (by omega)
          have b7 := HR.out.ylo 0 (by omega)
          have b8 := HR.out.yhi 0 (by omega)
          have PK : px X (k + 1) (k + 1) = X 0 + 365 := px_n X (k + 1) hn1
          have QK : py Y (k + 1) (k + 1) = Y 0 := py_n Y (k + 1)
          rw [px_small X (k + 1) k hkn, PK] at hup
          have hin : d < X 0 + 365 := by have := HD2.out.2; rwa [px_n X (k + 1) hn1] at this
          have HRL : Hid (rl X Y (k + 1) x = Y k + (Y 0 - Y k) * (d - X k) / (X 0 + 365 - X k)) := by
            have hd := HDN.out
            have h := rl_seg HR.out x k hkn (by rw [← hd]; exact hpx.out) (by rw [← hd, PK]; exact hin)
            rw [← hd] at h
            unfold lin at h
            rw [px_small X (k + 1) k hkn, py_small Y (k + 1) k hkn, PK, QK, Int.mul_comm] at h
            exact h
          clear PK QK HPW hpx hlast
          generalize X 0 = xb at *
          generalize Y 0 = yb at *
          generalize X k = xa at *
          generalize Y k = ya at *
          have hxp : 1 ≤ xb + 365 - xa := by omega
          have dlo : decide (xa ≤ d) = true := by rw [decide_eq_true_eq]; exact lo
          have dhi : decide (d < xb + 365) = true := by rw [decide_eq_true_eq]; omega
          have mm := mulab (a := yb - ya) (b := d - xa) (A := 16777216) (B := 729) (by omega) (by omega) (by omega) (by omega)
          obtain ⟨mm1, mm2⟩ := mm
          have HF := Lib.hid (fun W => rdown_any ((yb - ya) * (d - xa)) (xb + 365 - xa) W (by omega) (by omega))
          have hq1 := rl_ge HR.out 0 HR.out.ylo x x0 x1
          have hq2 := rl_le HR.out 16777216 HR.out.yhi x x0 x1
          rw [HRL.out] at hq1 hq2
          have w1 : IntKind.i64.wrap (yb - ya) = yb - ya := by rw [IntKind.wrap_i64]; omega
          have w2 : IntKind.i64.wrap (d - xa) = d - xa := by rw [IntKind.wrap_i64]; omega
          have w3 : IntKind.i64.wrap (xb + 365 - xa) = xb + 365 - xa := by rw [IntKind.wrap_i64]; omega
          have w4 : IntKind.i64.wrap ((yb - ya) * (d - xa)) = (yb - ya) * (d - xa) := by rw [IntKind.wrap_i64]; omega
          generalize (yb - ya) * (d - xa) / (xb + 365 - xa) = q at *
          have w5 : IntKind.i64.wrap (ya + q) = ya + q := by rw [IntKind.wrap_i64]; omega
          clear hup
          go_wp2
          go_region
          all_goals clear c3 c4 c5 c6 hm1 hm2 dl
          all_goals go_wp2
          all_goals go_quiet (refine (HF.out _).mono fun e w' h => ⟨h.1, _, h.2.symm⟩)
          all_goals go_wp2
          all_goals go_ret
          all_goals exact ⟨by rw [HRL.out]; rfl, HB2.out _ _ _⟩
      · exfalso
        obtain rfl : k = n := by omega
        have := HD2.out.2
        have := hpx.out
        omega
  · subst h2
    go_enter Try.func31, Try.ntmps31
    go_wp2
    clear c1
    go_loopw [21] (fun i wr => ∃ k : Nat, k ≤ n ∧ i = .int .i64 k ∧ Hid (px X n k ≤ x) ∧ Hid (Below w.heap.size w wr)) (fun i _ => n - (intOf i).toNat)
    case atStart => exact ⟨0, Nat.zero_le _, rfl, HD2.out.1, Below.refl _ _⟩
    case round =>
      obtain ⟨k, hk, rfl, hpx, hb⟩ := hrel
      by_cases hkn : k < n
      · have HPW := Lib.hid (HP.out.up hb.out (Nat.le_refl _))
        have hws := hb.out.size
        have hbl : b < wr.heap.size := HPW.out.1
        have nb1 : ¬ b = wr.heap.size := by omega
        have nb2 : ¬ b = wr.heap.size + 1 := by omega
        have HB2 : Hid (∀ o o' q, Below w.heap.size w (((wr.alloc o).alloc o').drew.drewN q)) := fun o o' q => below_drewN (below_drewN ((hb.out.alloc hws o).alloc (by simp; omega) o') 1) q
        have HB3 : Hid (∀ o o', Below w.heap.size w ((wr.alloc o).alloc o').drew) := fun o o' => below_drewN ((hb.out.alloc hws o).alloc (by simp; omega) o') 1
        have hki : (k : Int) < (n : Int) := by omega
        have nn0 : ¬ (n : Int) = 0 := by omega
        have nn2 : ¬ n = 0 := by omega
        have hwk : IntKind.i64.wrap ((k : Int) + 1) = (k : Int) + 1 := by rw [IntKind.wrap_i64]; omega
        have nn1 : ((n : Int) == 0) = false := by rw [beq_eq_false_iff_ne]; exact nn0
        obtain ⟨c3, c4⟩ := HPW.out.2 k hkn
        have b1 := HR.out.xlo k hkn
        have b2 := HR.out.xhi k hkn
        have b3 := HR.out.ylo k hkn
        have b4 := HR.out.yhi k hkn
        have lo : X k ≤ x := by have := hpx.out; rwa [px_small X n k hkn] at this
        have hup := px_up HR.out k
        by_cases hlast : k + 1 < n
        · have hk1 : (k : Int) + 1 < (n : Int) := by omega
          have hm1 : ((k : Int) + 1) % (n : Int) = (k : Int) + 1 := Int.emod_eq_of_lt (by omega) hk1
          have hm2 : ((k : Int) + 1).tmod (n : Int) = (k : Int) + 1 := by rw [Int.tmod_eq_emod_of_nonneg (by omega)]; exact hm1
          have dl : ((k : Int) == (n : Int) - 1) = false := by rw [beq_eq_false_iff_ne]; omega
          obtain ⟨c5, c6⟩ := HPW.out.2 (k + 1) hlast
          have b5 := HR.out.xlo (k + 1) hlast
          have b6 := HR.out.xhi (k + 1) hlast
          have b7 := HR.out.ylo (k + 1) hlast
          have b8 := HR.out.yhi (k + 1) hlast
          have PK := px_small X n (k + 1) hlast
          have QK := py_small Y n (k + 1) hlast
          rw [px_small X n k hkn, PK] at hup
          by_cases hin : x < X (k + 1)
          · have HRL : Hid (rl X Y n x = Y k + (Y (k + 1) - Y k) * (x - X k) / (X (k + 1) - X k)) := by
              have hd := HDN.out
              have h := rl_seg HR.out x k hkn (by rw [← hd]; exact hpx.out) (by rw [← hd, PK]; exact hin)
              rw [← hd] at h
              unfold lin at h
              rw [px_small X n k hkn, py_small Y n k hkn, PK, QK, Int.mul_comm] at h
              exact h
            clear PK QK HPW hpx
            generalize X (k + 1) = xb at *
            generalize Y (k + 1) = yb at *
            generalize X k = xa at *
            generalize Y k = ya at *
            have hxp : 1 ≤ xb - xa := by omega
            have dlo : decide (xa ≤ x) = true := by rw [decide_eq_true_eq]; exact lo
            have dhi : decide (x < xb) = true := by rw [decide_eq_true_eq]; omega
            have mm := mulab (a := yb - ya) (b := x - xa) (A := 16777216) (B := 729) (by omega) (by omega) (by omega) (by omega)
            obtain ⟨mm1, mm2⟩ := mm
            have HF := Lib.hid (fun W => rdown_any ((yb - ya) * (x - xa)) (xb - xa) W (by omega) (by omega))
            have hq1 := rl_ge HR.out 0 HR.out.ylo x x0 x1
            have hq2 := rl_le HR.out 16777216 HR.out.yhi x x0 x1
            rw [HRL.out] at hq1 hq2
            have w1 : IntKind.i64.wrap (yb - ya) = yb - ya := by rw [IntKind.wrap_i64]; omega
            have w2 : IntKind.i64.wrap (x - xa) = x - xa := by rw [IntKind.wrap_i64]; omega
            have w3 : IntKind.i64.wrap (xb - xa) = xb - xa := by rw [IntKind.wrap_i64]; omega
            have w4 : IntKind.i64.wrap ((yb - ya) * (x - xa)) = (yb - ya) * (x - xa) := by rw [IntKind.wrap_i64]; omega
            generalize (yb - ya) * (x - xa) / (xb - xa) = q at *
            have w5 : IntKind.i64.wrap (ya + q) = ya + q := by rw [IntKind.wrap_i64]; omega
            clear hup
            go_wp2
            go_region
            all_goals clear c3 c4 c5 c6 hm1 hm2 dl
            all_goals go_wp2
            all_goals go_quiet (refine (HF.out _).mono fun e w' h => ⟨h.1, _, h.2.symm⟩)
            all_goals go_wp2
            all_goals go_ret
            all_goals exact ⟨by rw [HRL.out]; rfl, HB2.out _ _ _⟩
          · have HNX : Hid (px X n (k + 1) ≤ x) := show px X n (k + 1) ≤ x by rw [PK]; omega
            have dlo : decide (X k ≤ x) = true := by rw [decide_eq_true_eq]; exact lo
            have dhi : decide (x < X (k + 1)) = false := by rw [decide_eq_false_iff_not]; exact hin
            clear PK QK HPW hpx
            generalize X (k + 1) = xb at *
            generalize Y (k + 1) = yb at *
            generalize X k = xa at *
            generalize Y k = ya at *
            clear hup
            go_wp2
            go_region
            all_goals clear c3 c4 c5 c6 hm1 hm2 dl
            all_goals go_wp2
            all_goals go_roundw
            all_goals first
              | exact ⟨k + 1, by omega, by go_num, HNX, HB3.out _ _⟩
              | (simp [intOf]; omega)
        · obtain rfl : n = k + 1 := by omega
          have hm1 : ((k : Int) + 1) % ((k : Int) + 1) = 0 := Int.emod_self
          have hm2 : ((k : Int) + 1).tmod ((k : Int) + 1) = 0 := Int.tmod_self
          have dl : (k : Int) ≤ (k : Int) := Int.le_refl _
          have nn3 : ¬ (k : Int) + 1 = 0 := by omega
          have nn4 : (((k : Int) + 1) == 0) = false := by rw [beq_eq_false_iff_ne]; exact nn3
          have kk1 : (k : Int) < (k : Int) + 1 := by omega
          obtain ⟨c5, c6⟩ := HPW.out.2 0 (by omega)
          rw [Nat.zero_mul, Nat.add_zero] at c5 c6
          have b5 := HR.out.xlo 0 (by omega)
          have b6 := HR.out.xhi 0 (by omega)
          have b7 := HR.out.ylo 0 (by omega)
          have b8 := HR.out.yhi 0 (by omega)
          have PK : px X (k + 1) (k + 1) = X 0 + 365 := px_n X (k + 1) hn1
          have QK : py Y (k + 1) (k + 1) = Y 0 := py_n Y (k + 1)
          rw [px_small X (k + 1) k hkn, PK] at hup
          have hin : x < X 0 + 365 := by have := HD2.out.2; rwa [px_n X (k + 1) hn1] at this
          have HRL : Hid (rl X Y (k + 1) x = Y k + (Y 0 - Y k) * (x - X k) / (X 0 + 365 - X k)) := by
            have hd := HDN.out
            have h := rl_seg HR.out x k hkn (by rw [← hd]; exact hpx.out) (by rw [← hd, PK]; exact hin)
            rw [← hd] at h
            unfold lin at h
            rw [px_small X (k + 1) k hkn, py_small Y (k + 1) k hkn, PK, QK, Int.mul_comm] at h
            exact h
          clear PK QK HPW hpx hlast
          generalize X 0 = xb at *
          generalize Y 0 = yb at *
          generalize X k = xa at *
          generalize Y k = ya at *
          have hxp : 1 ≤ xb + 365 - xa := by omega
          have dlo : decide (xa ≤ x) = true := by rw [decide_eq_true_eq]; exact lo
          have dhi : decide (x < xb + 365) = true := by rw [decide_eq_true_eq]; omega
          have mm := mulab (a := yb - ya) (b := x - xa) (A := 16777216) (B := 729) (by omega) (by omega) (by omega) (by omega)
          obtain ⟨mm1, mm2⟩ := mm
          have HF := Lib.hid (fun W => rdown_any ((yb - ya) * (x - xa)) (xb + 365 - xa) W (by omega) (by omega))
          have hq1 := rl_ge HR.out 0 HR.out.ylo x x0 x1
          have hq2 := rl_le HR.out 16777216 HR.out.yhi x x0 x1
          rw [HRL.out] at hq1 hq2
          have w1 : IntKind.i64.wrap (yb - ya) = yb - ya := by rw [IntKind.wrap_i64]; omega
          have w2 : IntKind.i64.wrap (x - xa) = x - xa := by rw [IntKind.wrap_i64]; omega
          have w3 : IntKind.i64.wrap (xb + 365 - xa) = xb + 365 - xa := by rw [IntKind.wrap_i64]; omega
          have w4 : IntKind.i64.wrap ((yb - ya) * (x - xa)) = (yb - ya) * (x - xa) := by rw [IntKind.wrap_i64]; omega
          generalize (yb - ya) * (x - xa) / (xb + 365 - xa) = q at *
          have w5 : IntKind.i64.wrap (ya + q) = ya + q := by rw [IntKind.wrap_i64]; omega
          clear hup
          go_wp2
          go_region
          all_goals clear c3 c4 c5 c6 hm1 hm2 dl
          all_goals go_wp2
          all_goals go_quiet (refine (HF.out _).mono fun e w' h => ⟨h.1, _, h.2.symm⟩)
          all_goals go_wp2
          all_goals go_ret
          all_goals exact ⟨by rw [HRL.out]; rfl, HB2.out _ _ _⟩
      · exfalso
        obtain rfl : k = n := by omega
        have := HD2.out.2
        have := hpx.out
        omega
end Go.Proofs.Ytdblppbjlgmccaa.Ru

/-
  Contracts of Down of layer 1's reference and of Fill of the reference of chapter 8.
-/
import Derived.Test.YtkflgiopkopeeaaQlFlp
namespace Go.Proofs.Ytkflgiopkopeeaa.Ql
open Go.ChangeShapes Go.WideShapes Go.ChangeAt Go.RowKit
open Go.Proofs.Ytkflgiopkopeeaa.Cu hiding inB inB_yes inB_no
open Go.Proofs.Ytkflgiopkopeeaa.Ca (inB inB_yes inB_no Rd rin_any)
set_option linter.unusedVariables false

theorem tdiv_floor (a b : Int) (ha : a < 0) (hb : 1 ≤ b) : a / b = if a.tmod b < 0 then a.tdiv b - 1 else a.tdiv b := by
  have h := flr_pos a b hb
  have h2 : (flr a b).1 = a / b := by rw [h]
  unfold flr at h2
  rw [if_neg (by omega), if_neg (by omega)] at h2
  have h3 : a.tmod b ≤ 0 := by have := Int.tmod_nonneg (a := -a) b (by omega); rw [Int.neg_tmod] at this; omega
  by_cases c : a.tmod b < 0
  · rw [if_pos c]
    rw [if_pos ⟨by omega, .inl ⟨ha, by omega⟩⟩] at h2
    exact h2.symm
  · rw [if_neg c]
    rw [if_neg (by omega)] at h2
    exact h2.symm

set_option maxHeartbeats 1000000 in
theorem rflo_any (a b : Int) (w : World) (ha : -4611686018427387904 ≤ a ∧ a ≤ 4611686018427387904) (hb : 1 ≤ b ∧ b ≤ 4611686018427387904) :
    Calls Try.prog 65 #[.int .i64 a, .int .i64 b] w fun e w' => e = .returned (.int .i64 (a / b)) ∧ w = w' := by
  have e0 : (b == 0) = false := by rw [beq_eq_false_iff_ne]; omega
  have n0 : ¬ b = 0 := by omega
  have n1 : ¬ b = -1 := by omega
  have e9 : (a == -9223372036854775808) = false := by rw [beq_eq_false_iff_ne]; omega
  by_cases s : 0 ≤ a
  · have h1 := div_bd (x := a) (d := b) s hb.1
    have h2 : 0 ≤ a % b := Int.emod_nonneg _ n0
    have h3 : a % b < b := Int.emod_lt_of_pos _ (by omega)
    have dr : decide (a % b < 0) = false := by rw [decide_eq_false_iff_not]; omega
    go_enter Try.func65, Try.ntmps65
    go_wp2
    go_ret
    exact ⟨rfl, rfl⟩
  · have hq := tdiv_bd a b (by omega) n0 (by omega)
    have hr := tmod_bd a b (by omega)
    have hf := tdiv_floor a b (by omega) hb.1
    by_cases c : a.tmod b < 0
    · rw [if_pos c] at hf
      rw [hf]
      have hq2 := tdiv_bd2 a b (by omega) n0 (by omega)
      have HF := Lib.hid hf
      clear hf
      go_enter Try.func65, Try.ntmps65
      go_wp2
      go_ret
      exact ⟨rfl, rfl⟩
    · rw [if_neg c] at hf
      rw [hf]
      have HF := Lib.hid hf
      clear hf
      go_enter Try.func65, Try.ntmps65
      go_wp2
      go_ret
      exact ⟨rfl, rfl⟩
theorem rdown_any (a b : Int) (w : World) (ha : -4611686018427387904 ≤ a ∧ a ≤ 4611686018427387904) (hb : 1 ≤ b ∧ b ≤ 4611686018427387904) :
    Calls Try.prog 47 #[.int .i64 a, .int .i64 b] w fun e w' => e = .returned (.int .i64 (a / b)) ∧ w = w' := by
  have HF := Lib.hid (fun W => rflo_any a b W ha hb)
  generalize a / b = q at *
  go_enter Try.func47, Try.ntmps47
  go_wp2_with (go_at_call 65; refine (HF.out _).mono ?_; rintro e w' ⟨rfl, rfl⟩)
  go_ret
  exact ⟨rfl, rfl⟩

set_option maxHeartbeats 1000000 in
theorem rfi_len (p q : Option Addr) (n m c d : Nat) (V : Nat → Int) (G : Nat → Bool) (last : Int) (w : World) (h : n ≠ m) (hn : n ≤ 1000) (hm : m ≤ 9223372036854775807) :
    Calls Try.prog 25 #[.slice p n c, .slice q m d, .int .i64 last] w (VdP (flE V n m last) (flN V n m last) (fil V G n last) w) := by
  rw [(fl_len (V := V) (last := last) h).1, (fl_len (V := V) (last := last) h).2]
  have e : ((n : Int) != (m : Int)) = true := by simp; omega
  go_enter Try.func25, Try.ntmps25
  go_wp2
  go_ret2
  exact vdp_bad (Below.refl _ _)
set_option maxHeartbeats 1000000 in
theorem rfi_no (p q : Option Addr) (n c d : Nat) (V : Nat → Int) (G : Nat → Bool) (last : Int) (w : World) (h : alF V n = false) (hn : n ≤ 1000) (hr : Rd w p n V) :
    Calls Try.prog 25 #[.slice p n c, .slice q n d, .int .i64 last] w (VdP (flE V n n last) (flN V n n last) (fil V G n last) w) := by
  rw [(fl_no (last := last) h).1, (fl_no (last := last) h).2]
  have HA := Lib.hid (rarf_any p n c V w (by omega) hr)
  rw [h] at HA
  clear hr h
  go_enter Try.func25, Try.ntmps25
  go_wp2_with (go_at_call 46; refine HA.out.mono ?_; rintro e w' ⟨rfl, rfl⟩)
  go_ret2
  exact vdp_bad (Below.refl _ _)
set_option maxHeartbeats 1000000 in
theorem rfi_last (p q : Option Addr) (n c d : Nat) (V : Nat → Int) (G : Nat → Bool) (last : Int) (w : World) (h : alF V n = true) (h2 : inB last 1073741824 = false) (hn : n ≤ 1000) (hr : Rd w p n V) :
    Calls Try.prog 25 #[.slice p n c, .slice q n d, .int .i64 last] w (VdP (flE V n n last) (flN V n n last) (fil V G n last) w) := by
  rw [(fl_last h h2).1, (fl_last h h2).2]
  have HA := Lib.hid (rarf_any p n c V w (by omega) hr)
  rw [h] at HA
  have HI := Lib.hid (fun W => rin_any last 1073741824 W)
  rw [h2] at HI
  clear hr h h2
  go_enter Try.func25, Try.ntmps25
  go_wp2_with (first
    | (go_at_call 46; refine HA.out.mono ?_; rintro e w' ⟨rfl, rfl⟩)
    | (go_at_call 40; refine (HI.out _).mono ?_; rintro e w' ⟨rfl, rfl⟩))
  go_ret2
  exact vdp_bad (Below.refl _ _)

set_option maxRecDepth 100000 in
set_option maxHeartbeats 4000000 in
theorem rfi_ok (p q : Option Addr) (n c d : Nat) (V : Nat → Int) (G : Nat → Bool) (last : Int) (w : World) (h : alF V n = true) (h2 : inB last 1073741824 = true) (hn : n ≤ 1000) (hr : Rd w p n V) (hq : RdL w q n G) :
    Calls Try.prog 25 #[.slice p n c, .slice q n d, .int .i64 last] w (VdP (flE V n n last) (flN V n n last) (fil V G n last) w) := by
  rw [(fl_ok h h2).1, (fl_ok h h2).2]
  have HV := Lib.hid (alF_all h)
  have HA := Lib.hid (rarf_any p n c V w (by omega) hr)
  rw [h] at HA
  have HI := Lib.hid (fun W => rin_any last 1073741824 W)
  rw [h2] at HI
  have HR := Lib.hid hr
  have HQ := Lib.hid hq
  obtain ⟨i0, hi, hz0, hz1, hz2⟩ := info_parts Try.infoI
  clear hr h2 h hq
  have hni : (n : Int) ≤ 1000 := by omega
  go_enter Try.func25, Try.ntmps25
  go_wp2_with (first
    | (go_at_call 46; refine HA.out.mono ?_; rintro e w' ⟨rfl, rfl⟩)
    | (go_at_call 40; refine (HI.out _).mono ?_; rintro e w' ⟨rfl, rfl⟩))
  clear HA HI
  go_loopw [8, 9, 28] (fun v x i wr => ∃ (k : Nat) (v0 : Value), v0 = v ∧ k ≤ n ∧ i = .int .i64 k ∧ x = .int .i64 (bfI G k) ∧ Hid (Own 3 wr w.heap.size v0 k (iC (fil V G n last))) ∧ Hid (Below w.heap.size w wr)) (fun _ _ i _ => n - (intOf i).toNat)
  case atStart => exact ⟨0, _, rfl, Nat.zero_le _, rfl, rfl, own_nil _ _ _ _, Below.refl _ _⟩
  case round =>
    obtain ⟨k, v, rfl, hk, rfl, rfl, hv, hb⟩ := hrel
    have hbd := bf_bd G k
    by_cases hlt : k < n
    · obtain ⟨b1, o1, rfl, l1, d1⟩ := (HR.out.below hb.out (Nat.le_refl _)) (by omega)
      obtain ⟨b2, o2, rfl, l2, d2⟩ := (HQ.out.below hb.out (Nat.le_refl _)) (by omega)
      have e1 := d1 k hlt
      have e2 := d2 k hlt
      have HD1 := Lib.hid d1
      have HD2 := Lib.hid d2
      have hws := hb.out.size
      have hkn : (k : Int) < (n : Int) := by omega
      have HOA : Hid (∀ x : Int, (wr.alloc (.cells #[.int .i64 x] 3)).ownsRow w.heap.size 3 1 v k (vL (iC (fil V G n last)) k)) := fun x => own_up hv.out ((Below.refl _ _).alloc (Nat.le_refl _) _)
      clear d1 d2
      cases hg : G k with
      | true =>
        rw [hg] at e2
        have HX : Hid (Value.int .i64 (V k) = iC (fil V G n last) k) := (show Value.int .i64 (V k) = Value.int .i64 (fil V G n last k) by rw [fil_good hg])
        have HSL : Hid (bfI G (k + 1) = (k : Int)) := bf_yes hg
        clear hg
        go_wp2
        refine wp_loop_rounds 1 ?_
        rw [rounds_succ]
        generalize V k = vk at *
        go_wp2_with (at_builtin; refine wpList_append_own _ rfl _ _ 26 rfl w.heap.size 3 i0 (.int .i64 0) 1 8 Try.underlying26 hi hz0 hz1 hz2 rfl (by decide) _ _ _ rfl (HOA.out vk) ⟨wr.heap.size, 0, none⟩ 1 1 [.int .i64 vk] rfl rfl (cell_one _ _ _) (by intro u hu; simp at hu; subst hu; rfl) (by unfold maxLen; omega) (by omega) (by simp; omega) ?_; intro v' w9 hown' hgrow hnil)
        refine ⟨⟨k + 1, _, rfl, by omega, by go_num, by rw [HSL.out], own_next hown' (fun _ _ => rfl) HX.out, Gg.below_own ((hb.out).alloc hws _) (Nat.le_refl _) hgrow (own_block hv.out)⟩, ?_⟩
        simp [intOf]
        omega
      | false =>
        rw [hg] at e2
        have HN : Hid (bfI G (k + 1) = bfI G k) := bf_no hg
        have HG0 := Lib.hid hg
        clear hg
        go_wp2_with fail
        go_loop [12] (fun x => ∃ j : Nat, k ≤ j ∧ j ≤ n ∧ x = .int .i64 j ∧ Hid (∀ t, k ≤ t → t < j → G t = false)) (fun x => n - (intOf x).toNat)
        case atStart => exact ⟨k, Nat.le_refl _, by omega, rfl, fun t h1 h2 => by omega⟩
        case round =>
          obtain ⟨j, hkj, hjn, rfl, hgap⟩ := hrel
          by_cases hjl : j < n
          · have e3 := HD2.out j hjl
            have hjni : (j : Int) < (n : Int) := by omega
            cases hgj : G j with
            | false =>
              rw [hgj] at e3
              have HGN : Hid (∀ t, k ≤ t → t < j + 1 → G t = false) := fun t h1 h2 => by
                by_cases e : t = j
                · subst e; exact hgj
                · exact hgap.out t h1 (by omega)
              clear hgj hgap
              go_wp2
              go_round
              case rel => exact ⟨j + 1, by omega, by omega, by go_num, HGN⟩
              case measure => simp [intOf]; omega
            | true =>
              rw [hgj] at e3
              have haf : afN G k (n - k) = j := af_of hkj (by omega) hgap.out (fun _ => hgj)
              clear hgj hgap
              by_cases hneg : bfI G k < 0
              · have hm1 : bfI G k = -1 := by omega
                have HX : Hid (Value.int .i64 last = iC (fil V G n last) k) := (show Value.int .i64 last = Value.int .i64 (fil V G n last k) by rw [fil_before HG0.out hneg])
                have HSL : Hid (bfI G (k + 1) = -1) := HN.out.trans hm1
                rw [hm1]
                clear hneg hm1 hbd haf
                go_wp2_with (at_builtin; refine wpList_append_own _ rfl _ _ 26 rfl w.heap.size 3 i0 (.int .i64 0) 1 8 Try.underlying26 hi hz0 hz1 hz2 rfl (by decide) _ _ _ rfl (HOA.out last) ⟨wr.heap.size, 0, none⟩ 1 1 [.int .i64 last] rfl rfl (cell_one _ _ _) (by intro u hu; simp at hu; subst hu; rfl) (by unfold maxLen; omega) (by omega) (by simp; omega) ?_; intro v' w9 hown' hgrow hnil)
                refine ⟨⟨k + 1, _, rfl, by omega, by go_num, by rw [HSL.out], own_next hown' (fun _ _ => rfl) HX.out, Gg.below_own ((hb.out).alloc hws _) (Nat.le_refl _) hgrow (own_block hv.out)⟩, ?_⟩
                simp [intOf]
                omega
              · obtain ⟨b0, hb0⟩ : ∃ b0 : Nat, bfI G k = (b0 : Int) := ⟨(bfI G k).toNat, by omega⟩
                have hbk : b0 < k := by omega
                have hkj2 : k ≠ j := fun e => by subst e; have := HG0.out; simp_all
                have hv1 := HV.out b0 (by omega)
                have hv2 := HV.out j hjl
                have c1 := HD1.out b0 (by omega)
                have c2 := HD1.out j hjl
                have HX : Hid (Value.int .i64 (V b0 + (V j - V b0) * ((k : Int) - (b0 : Int)) / ((j : Int) - (b0 : Int))) = iC (fil V G n last) k) := (show _ = Value.int .i64 (fil V G n last k) by rw [fil_mid HG0.out hneg (by omega), haf, hb0]; rfl)
                have hlb := ln_bd (V b0) (V j) ((k : Int) - b0) ((j : Int) - b0) (by omega) (by omega) (by omega)
                unfold lnI at hlb
                have HSL : Hid (bfI G (k + 1) = (b0 : Int)) := HN.out.trans hb0
                rw [hb0]
                clear hneg hb0 hbd haf
                have hbi : (b0 : Int) < (n : Int) := by omega
                have hbi0 : ¬ (b0 : Int) < 0 := by omega
                have hjne : ((j : Int) == (n : Int)) = false := by simp; omega
                generalize V b0 = vb at *
                generalize V j = vj at *
                have hw1 : IntKind.i64.wrap (vj - vb) = vj - vb := by rw [IntKind.wrap_i64]; omega
                have hw2 : IntKind.i64.wrap ((k : Int) - (b0 : Int)) = (k : Int) - (b0 : Int) := by rw [IntKind.wrap_i64]; omega
                have hw3 : IntKind.i64.wrap ((j : Int) - (b0 : Int)) = (j : Int) - (b0 : Int) := by rw [IntKind.wrap_i64]; omega
                obtain ⟨m1, m2⟩ := mul_abs (r := vj - vb) (k := (k : Int) - (b0 : Int)) (R := 1073741824) (K := 1000) (by omega) (by omega) (by omega) (by omega) (by omega)
                have hw4 : IntKind.i64.wrap ((vj - vb) * ((k : Int) - (b0 : Int))) = (vj - vb) * ((k : Int) - (b0 : Int)) := by rw [IntKind.wrap_i64]; omega
                have hw5 : IntKind.i64.wrap (vb + (vj - vb) * ((k : Int) - (b0 : Int)) / ((j : Int) - (b0 : Int))) = vb + (vj - vb) * ((k : Int) - (b0 : Int)) / ((j : Int) - (b0 : Int)) := by rw [IntKind.wrap_i64]; omega
                have HDn := Lib.hid (fun W => rdown_any ((vj - vb) * ((k : Int) - (b0 : Int))) ((j : Int) - (b0 : Int)) W (by omega) (by omega))
                clear hlb m1 m2
                go_wp2_with fail
                go_quiet (refine (HDn.out _).mono fun e w' h => ⟨h.1, _, h.2.symm⟩)
                go_wp2_with (at_builtin; refine wpList_append_own _ rfl _ _ 26 rfl w.heap.size 3 i0 (.int .i64 0) 1 8 Try.underlying26 hi hz0 hz1 hz2 rfl (by decide) _ _ _ rfl (HOA.out (vb + (vj - vb) * ((k : Int) - (b0 : Int)) / ((j : Int) - (b0 : Int)))) ⟨wr.heap.size, 0, none⟩ 1 1 [.int .i64 (vb + (vj - vb) * ((k : Int) - (b0 : Int)) / ((j : Int) - (b0 : Int)))] rfl rfl (cell_one _ _ _) (by intro u hu; simp at hu; subst hu; rfl) (by unfold maxLen; omega) (by omega) (by simp; omega) ?_; intro v' w9 hown' hgrow hnil)
                refine ⟨⟨k + 1, _, rfl, by omega, by go_num, by rw [HSL.out], own_next hown' (fun _ _ => rfl) HX.out, Gg.below_own ((Gg.below_drewN hb.out nq).alloc hws _) (Nat.le_refl _) hgrow (own_block hv.out)⟩, ?_⟩
                simp [intOf]
                omega
          · obtain rfl : j = n := by omega
            have haf : afN G k (j - k) = j := af_of hkj (by omega) hgap.out (fun h => by omega)
            clear hgap
            by_cases hneg : bfI G k < 0
            · have hm1 : bfI G k = -1 := by omega
              have HX : Hid (Value.int .i64 last = iC (fil V G j last) k) := (show Value.int .i64 last = Value.int .i64 (fil V G j last k) by rw [fil_before HG0.out hneg])
              have HSL : Hid (bfI G (k + 1) = -1) := HN.out.trans hm1
              rw [hm1]
              clear hneg hm1 hbd haf
              go_wp2_with (at_builtin; refine wpList_append_own _ rfl _ _ 26 rfl w.heap.size 3 i0 (.int .i64 0) 1 8 Try.underlying26 hi hz0 hz1 hz2 rfl (by decide) _ _ _ rfl (HOA.out last) ⟨wr.heap.size, 0, none⟩ 1 1 [.int .i64 last] rfl rfl (cell_one _ _ _) (by intro u hu; simp at hu; subst hu; rfl) (by unfold maxLen; omega) (by omega) (by simp; omega) ?_; intro v' w9 hown' hgrow hnil)
              refine ⟨⟨k + 1, _, rfl, by omega, by go_num, by rw [HSL.out], own_next hown' (fun _ _ => rfl) HX.out, Gg.below_own ((hb.out).alloc hws _) (Nat.le_refl _) hgrow (own_block hv.out)⟩, ?_⟩
              simp [intOf]
              omega
            · obtain ⟨b0, hb0⟩ : ∃ b0 : Nat, bfI G k = (b0 : Int) := ⟨(bfI G k).toNat, by omega⟩
              have hbk : b0 < k := by omega
              have c1 := HD1.out b0 (by omega)
              have HX : Hid (Value.int .i64 (V b0) = iC (fil V G j last) k) := (show _ = Value.int .i64 (fil V G j last k) by rw [fil_behind HG0.out hneg haf, hb0]; rfl)
              have HSL : Hid (bfI G (k + 1) = (b0 : Int)) := HN.out.trans hb0
              rw [hb0]
              clear hneg hb0 hbd haf
              have hbi : (b0 : Int) < (j : Int) := by omega
              have hbi0 : ¬ (b0 : Int) < 0 := by omega
              generalize V b0 = vb at *
              go_wp2_with (at_builtin; refine wpList_append_own _ rfl _ _ 26 rfl w.heap.size 3 i0 (.int .i64 0) 1 8 Try.underlying26 hi hz0 hz1 hz2 rfl (by decide) _ _ _ rfl (HOA.out vb) ⟨wr.heap.size, 0, none⟩ 1 1 [.int .i64 vb] rfl rfl (cell_one _ _ _) (by intro u hu; simp at hu; subst hu; rfl) (by unfold maxLen; omega) (by omega) (by simp; omega) ?_; intro v' w9 hown' hgrow hnil)
              refine ⟨⟨k + 1, _, rfl, by omega, by go_num, by rw [HSL.out], own_next hown' (fun _ _ => rfl) HX.out, Gg.below_own ((hb.out).alloc hws _) (Nat.le_refl _) hgrow (own_block hv.out)⟩, ?_⟩
              simp [intOf]
              omega
    · obtain rfl : k = n := by omega
      obtain ⟨p2, cap, rfl, hrd, hbs⟩ := own_rd hv.out
      have HRD := Lib.hid hrd
      have HBS := Lib.hid hbs
      clear hrd hbs
      go_wp2
      go_ret2
      exact ⟨_, _, rfl, HRD.out, HBS.out, hb.out⟩
theorem rfi_any (p q : Option Addr) (n m c d : Nat) (V : Nat → Int) (G : Nat → Bool) (last : Int) (w : World) (hn : n ≤ 1000) (hm : m ≤ 9223372036854775807) (hr : Rd w p n V) (hq : RdL w q m G) :
    Calls Try.prog 25 #[.slice p n c, .slice q m d, .int .i64 last] w (VdP (flE V n m last) (flN V n m last) (fil V G n last) w) := by
  by_cases h : n = m
  · subst h
    cases h1 : alF V n with
    | false => exact rfi_no p q n c d V G last w h1 hn hr
    | true =>
      cases h2 : inB last 1073741824 with
      | false => exact rfi_last p q n c d V G last w h1 h2 hn hr
      | true => exact rfi_ok p q n c d V G last w h1 h2 hn hr hq
  · exact rfi_len p q n m c d V G last w h hn hm
end Go.Proofs.Ytkflgiopkopeeaa.Ql

/-
  The contract of Verdicts of the reference of chapter 8.
-/
import Derived.Test.YtkflgiopkopeeaaQlVrd
import Derived.Test.YtkflgiopkopeeaaQlStk
import Derived.Test.YtkflgiopkopeeaaQlDck
namespace Go.Proofs.Ytkflgiopkopeeaa.Ql
open Go.ChangeShapes Go.WideShapes Go.ChangeAt Go.RowKit
open Go.Proofs.Ytkflgiopkopeeaa.Cu (grown_trans grown_refl updF updF_same updF_other)
open Go.Proofs.Ytkflgiopkopeeaa.Gg (ckG ckG_zero pck_any alG alG_next alG_stick alG_zero gall_any Vr Rs RdR)
set_option linter.unusedVariables false

theorem pvd_any (l m j s : Int) (p : Option Addr) (n c : Nat) (R : Nat → Nat → Int) (w : World) (hr : RdR w p n R) (hn : n ≤ 17592186044416) :
    Calls Try.prog 15 #[.agg #[.int .i64 l, .int .i64 m, .int .i64 j, .int .i64 s], .slice p n c] w (VdP (vdE l m j s R n) (vdN l m j s R n) (vrI l m j s R) w) := by
  by_cases h : chC l m j s = 0
  · exact pvd_ok l m j s p n c R w h hr hn
  · exact pvd_bad l m j s p n c R w h
theorem cell_oneN (w : World) (N : Nat) (hN : w.heap.size = N) (u : Value) (t : TypeId) : ∀ j x, [u][j]? = some x → (w.alloc (.cells #[u] t)).cell? ((⟨N, 0, none⟩ : Addr).add j) = some x := by
  subst hN; exact cell_one w u t
structure C4 (w : World) (g : Nat) (l m j s : Int) : Prop where
  c0 : w.cell? ⟨g, 0, none⟩ = some (.int .i64 l)
  c1 : w.cell? ⟨g, 1, none⟩ = some (.int .i64 m)
  c2 : w.cell? ⟨g, 2, none⟩ = some (.int .i64 j)
  c3 : w.cell? ⟨g, 3, none⟩ = some (.int .i64 s)
theorem C4.below {w w' : World} {B g : Nat} {l m j s : Int} (h : C4 w g l m j s) (hb : Below B w w') (hB : g < B) : C4 w' g l m j s :=
  ⟨(hb.cell (p := ⟨g, 0, none⟩) hB).trans h.c0, (hb.cell (p := ⟨g, 1, none⟩) hB).trans h.c1, (hb.cell (p := ⟨g, 2, none⟩) hB).trans h.c2, (hb.cell (p := ⟨g, 3, none⟩) hB).trans h.c3⟩
theorem C4.grown {w w' : World} {r : Option Nat} {g : Nat} {l m j s : Int} (h : C4 w g l m j s) (hg : w.grownBy w' r) (hr : some g ≠ r) : C4 w' g l m j s :=
  ⟨hg.cell h.c0 hr, hg.cell h.c1 hr, hg.cell h.c2 hr, hg.cell h.c3 hr⟩
set_option maxHeartbeats 1000000 in
theorem rvd_bad (l m j s : Int) (p : Option Addr) (n c : Nat) (R : Nat → Nat → Int) (w : World) (hc : chC l m j s ≠ 0) :
    Calls Try.prog 16 #[.agg #[.int .i64 l, .int .i64 m, .int .i64 j, .int .i64 s], .slice p n c] w (VdP (vdE l m j s R n) (vdN l m j s R n) (vrI l m j s R) w) := by
  rw [(vdE_bad (R := R) (n := n) hc).1, (vdE_bad (R := R) (n := n) hc).2]
  have HC := Lib.hid (fun W => rchk_any l m j s W)
  generalize chC l m j s = cd at *
  have hcn : (cd != 0) = true := by simpa using hc
  clear hc
  go_enter Try.func16, Try.ntmps16
  go_wp2_with (go_at_call 19; refine (HC.out _).mono ?_; rintro e w1 ⟨rfl, hb1⟩)
  go_ret2
  exact vdp_bad (((Below.refl _ _).alloc (Nat.le_refl _) _).trans (hb1.mono (by simp)))
set_option maxHeartbeats 1000000 in
theorem rvd_al (l m j s : Int) (p : Option Addr) (n c : Nat) (R : Nat → Nat → Int) (w : World) (hc : chC l m j s = 0) (ha : alG R n ≠ 0) (hr : RdR w p n R) (hn : n ≤ 17592186044416) :
    Calls Try.prog 16 #[.agg #[.int .i64 l, .int .i64 m, .int .i64 j, .int .i64 s], .slice p n c] w (VdP (vdE l m j s R n) (vdN l m j s R n) (vrI l m j s R) w) := by
  have he : vdE l m j s R n = alG R n := vdE_ok hc
  rw [vdN_no (by rw [he]; exact ha), he]
  have HC := Lib.hid (fun W => rchk_any l m j s W)
  rw [hc] at HC
  have HG := Lib.hid (fun W hr => gall_any p n c R W hr (by omega))
  have HR := Lib.hid hr
  have HB0 := Lib.hid ((Below.refl w.heap.size w).alloc (Nat.le_refl _) (.cells #[.int .i64 l, .int .i64 m, .int .i64 j, .int .i64 s] 23))
  generalize alG R n = cd at *
  have hcn : (cd != 0) = true := by simpa using ha
  clear hc ha he hr
  go_enter Try.func16, Try.ntmps16
  go_wp2_with (first
    | (go_at_call 19; refine (HC.out _).mono ?_; rintro e w1 ⟨rfl, hb1⟩; have HB1 : Hid (Below w.heap.size w w1) := HB0.out.trans (hb1.mono (by simp)); clear hb1)
    | (go_at_call 37; refine (HG.out _ (HR.out.below HB1.out (Nat.le_refl _))).mono ?_; rintro e w2 ⟨rfl, hb2⟩; have HB2 : Hid (Below w.heap.size w w2) := HB1.out.trans (hb2.mono HB1.out.size); clear hb2))
  go_ret2
  exact vdp_bad HB2.out
set_option maxRecDepth 100000 in
set_option maxHeartbeats 8000000 in
theorem rvd_ok (l m j s : Int) (p : Option Addr) (n c : Nat) (R : Nat → Nat → Int) (w : World) (hc : chC l m j s = 0) (ha : alG R n = 0) (hr : RdR w p n R) (hn : n ≤ 17592186044416) :
    Calls Try.prog 16 #[.agg #[.int .i64 l, .int .i64 m, .int .i64 j, .int .i64 s], .slice p n c] w (VdP (vdE l m j s R n) (vdN l m j s R n) (vrI l m j s R) w) := by
  have he : vdE l m j s R n = 0 := (vdE_ok hc).trans ha
  rw [vdN_ok he, he]
  have HC := Lib.hid (fun W => rchk_any l m j s W)
  rw [hc] at HC
  have HG := Lib.hid (fun W hr => gall_any p n c R W hr (by omega))
  rw [ha] at HG
  have HV := Lib.hid ((alG_zero R n).1 ha)
  have HR := Lib.hid hr
  obtain ⟨_, _, _, hj, hs5⟩ := chC_zero.1 hc
  have hs0 : 0 ≤ s := by omega
  have HST := Lib.hid (fun (W : World) (i : Nat) hp hi => stk_any l m j s p n c R i W hs0 hp hi hn)
  have HB0 := Lib.hid ((Below.refl w.heap.size w).alloc (Nat.le_refl _) (.cells #[.int .i64 l, .int .i64 m, .int .i64 j, .int .i64 s] 23))
  obtain ⟨i0, hi, hz0, hz1, hz2⟩ := info_parts Try.infoI
  have hki0 : (n : Int) ≤ 17592186044416 := by omega
  clear hc ha he hr hs5 hs0
  go_enter Try.func16, Try.ntmps16
  go_wp2_with (first
    | (go_at_call 19; refine (HC.out _).mono ?_; rintro e w1 ⟨rfl, hb1⟩; have HB1 : Hid (Below w.heap.size w w1) := HB0.out.trans (hb1.mono (by simp)); have HK1 : Hid (C4 w1 w.heap.size l m j s ∧ w.heap.size + 1 ≤ w1.heap.size) := ⟨⟨(hb1.cell (p := ⟨w.heap.size, 0, none⟩) (by simp)).trans (by simp), (hb1.cell (p := ⟨w.heap.size, 1, none⟩) (by simp)).trans (by simp), (hb1.cell (p := ⟨w.heap.size, 2, none⟩) (by simp)).trans (by simp), (hb1.cell (p := ⟨w.heap.size, 3, none⟩) (by simp)).trans (by simp)⟩, by have := hb1.size; simp at this; omega⟩; clear hb1)
    | (go_at_call 37; refine (HG.out _ (HR.out.below HB1.out (Nat.le_refl _))).mono ?_; rintro e w2 ⟨rfl, hb2⟩; have HB2 : Hid (Below w.heap.size w w2) := HB1.out.trans (hb2.mono HB1.out.size); have HK2 : Hid (C4 w2 w.heap.size l m j s ∧ w.heap.size + 1 ≤ w2.heap.size) := ⟨HK1.out.1.below hb2 (by have := HK1.out.2; omega), Nat.le_trans HK1.out.2 hb2.size⟩; clear hb2))
  clear HC HG HB0 HB1 HK1
  go_loopw [8, 9, 25] (fun v y i wr => ∃ (k : Nat) (v0 : Value), v0 = v ∧ k ≤ n ∧ i = .int .i64 k ∧ y = .int .i64 (lgN l m j s R k) ∧ Hid (Own 3 wr (w.heap.size + 1) v0 k (iC (vrI l m j s R))) ∧ Hid (Below w.heap.size w wr) ∧ Hid (C4 wr w.heap.size l m j s ∧ w.heap.size + 1 ≤ wr.heap.size)) (fun _ _ i _ => n - (intOf i).toNat)
  case atStart => exact ⟨0, _, rfl, Nat.zero_le _, rfl, rfl, own_nil _ _ _ _, HB2, HK2⟩
  case round =>
    clear HB2 HK2
    obtain ⟨k, v, rfl, hk, rfl, rfl, hv, hb, hk4⟩ := hrel
    by_cases hlt : k < n
    · obtain ⟨b, off, rfl, hrs⟩ := HR.out (by omega)
      have HP2 := Lib.hid (hrs.up hb.out (Nat.le_refl _))
      clear hrs
      obtain ⟨c0, c1, c2, c3⟩ := HP2.out.cells k hlt
      have hblt := HP2.out.1
      have hws : w.heap.size + 1 ≤ wr.heap.size := hk4.out.2
      have hkn : (k : Int) < (n : Int) := by omega
      have hvr := HV.out k hlt
      obtain ⟨qa0, qa1, qa2, qa3, _⟩ : (∀ o, (wr.alloc o).cell? ⟨w.heap.size, 0, none⟩ = some (.int .i64 l)) ∧ (∀ o, (wr.alloc o).cell? ⟨w.heap.size, 1, none⟩ = some (.int .i64 m)) ∧ (∀ o, (wr.alloc o).cell? ⟨w.heap.size, 2, none⟩ = some (.int .i64 j)) ∧ (∀ o, (wr.alloc o).cell? ⟨w.heap.size, 3, none⟩ = some (.int .i64 s)) ∧ True := by
        have B := fun o => (Below.refl wr.heap.size wr).alloc (Nat.le_refl _) o
        have hl : w.heap.size < wr.heap.size := by omega
        exact ⟨fun o => ((B o).cell (p := ⟨w.heap.size, 0, none⟩) hl).trans hk4.out.1.c0, fun o => ((B o).cell (p := ⟨w.heap.size, 1, none⟩) hl).trans hk4.out.1.c1, fun o => ((B o).cell (p := ⟨w.heap.size, 2, none⟩) hl).trans hk4.out.1.c2, fun o => ((B o).cell (p := ⟨w.heap.size, 3, none⟩) hl).trans hk4.out.1.c3, trivial⟩
      have HOW : Hid (∀ W o, Below wr.heap.size wr W → (W.alloc o).ownsRow (w.heap.size + 1) 3 1 v k (vL (iC (vrI l m j s R)) k)) := fun W o h => own_up (own_up hv.out h) ((Below.refl _ _).alloc (Nat.le_refl _) o)
      have HAF : Hid (∀ W o v' w9 x, Below wr.heap.size wr W → (W.alloc o).grownBy w9 v.ownBlock → w9.ownsRow (w.heap.size + 1) 3 1 v' (k + 1) (vL (iC (vrI l m j s R)) k ++ [.int .i64 x]) → x = vrI l m j s R k → Own 3 w9 (w.heap.size + 1) v' (k + 1) (iC (vrI l m j s R)) ∧ Below w.heap.size w w9 ∧ C4 w9 w.heap.size l m j s ∧ w.heap.size + 1 ≤ w9.heap.size) := fun W o v' w9 x h hg ho hx => by
        have hsz := h.size
        have hA : Below wr.heap.size wr (W.alloc o) := h.alloc hsz o
        refine ⟨own_next ho (fun _ _ => rfl) (by unfold iC; rw [hx]), Gg.below_own (hb.out.trans (hA.mono (by omega))) (Nat.le_refl _) hg (fun k hk => by have := own_block hv.out k hk; omega), (hk4.out.1.below hA (by omega)).grown hg (by intro e; have := own_block hv.out _ e.symm; omega), ?_⟩
        have := hg.size
        simp at this
        omega
      have HLG := lg_bd l m j s R k
      have HRS : Hid (RdR wr (some ⟨b, off, none⟩) n R) := fun _ => ⟨b, off, rfl, HP2.out⟩
      have HYE : Hid (vrI l m j s R k = 1 → lgN l m j s R (k + 1) = (k : Int)) := lg_yes
      have HNO : Hid (¬ vrI l m j s R k = 1 → lgN l m j s R (k + 1) = lgN l m j s R k) := lg_no
      have HLV : Hid (∀ g0 : Nat, g0 < n → wr.cell? ⟨b, off + g0 * 4 + 2, none⟩ = some (.int .i64 (R g0 2)) ∧ (0 ≤ R g0 2 ∧ R g0 2 ≤ 1073741824)) := fun g0 h => ⟨HP2.out.2 g0 h 2 (by omega), by have := HV.out g0 h; exact ⟨this.2.2.2.2.1, this.2.2.2.2.2.1⟩⟩
      have hq2 : 0 ≤ R k 2 ∧ R k 2 ≤ 1073741824 := ⟨hvr.2.2.2.2.1, hvr.2.2.2.2.2.1⟩
      clear hvr HP2
      generalize hR0 : R k 0 = q0 at *
      generalize hR1 : R k 1 = q1 at *
      generalize hR2 : R k 2 = q2 at *
      generalize hR3 : R k 3 = q3 at *
      have HR2 := Lib.hid hR2
      have HR3 := Lib.hid hR3
      clear hR0 hR1 hR2 hR3
      by_cases h1 : q3 = 2
      · have HVD : Hid (vrI l m j s R k = 2) := vd_miss (by rw [HR3.out]; exact h1)
        have HLN : Hid (lgN l m j s R (k + 1) = lgN l m j s R k) := HNO.out (by rw [HVD.out]; omega)
        have g1 : (q3 == 2) = true := by simp [h1]
        clear h1
        go_wp2_with ((at_builtin; refine wpList_append_own _ rfl _ _ 26 rfl (w.heap.size + 1) 3 i0 (.int .i64 0) 1 8 Try.underlying26 hi hz0 hz1 hz2 rfl (by decide) _ _ _ rfl (HOW.out _ _ (by first | exact (Below.refl _ _).alloc (Nat.le_refl _) _ | exact Gg.below_drewN ((Below.refl _ _).alloc (Nat.le_refl _) _) _ | exact HBS.out)) ⟨_, 0, none⟩ 1 1 [.int .i64 2] rfl rfl (cell_oneN _ _ (by first | rfl | (simp; done)) _ _) (by intro u hu; simp at hu; subst hu; rfl) (by unfold maxLen; omega) (by omega) (by simp; omega) ?_; intro v' w9 hown' hgrow hnil; have H9 := Lib.hid (HAF.out _ _ _ _ _ (by first | exact (Below.refl _ _).alloc (Nat.le_refl _) _ | exact Gg.below_drewN ((Below.refl _ _).alloc (Nat.le_refl _) _) _ | exact HBS.out) hgrow hown' HVD.out.symm); clear hown' hgrow hnil))
        refine ⟨⟨k + 1, _, rfl, by omega, by go_num, by rw [HLN.out], H9.out.1, H9.out.2.1, H9.out.2.2⟩, ?_⟩
        simp [intOf]
        omega
      · have g1 : (q3 == 2) = false := by simp [h1]
        by_cases h2 : q2 < l
        · have HVD : Hid (vrI l m j s R k = 3) := vd_range (by rw [HR3.out]; exact h1) (by rw [HR2.out]; exact .inl h2)
          have HLN : Hid (lgN l m j s R (k + 1) = lgN l m j s R k) := HNO.out (by rw [HVD.out]; omega)
          clear h1
          go_wp2_with ((at_builtin; refine wpList_append_own _ rfl _ _ 26 rfl (w.heap.size + 1) 3 i0 (.int .i64 0) 1 8 Try.underlying26 hi hz0 hz1 hz2 rfl (by decide) _ _ _ rfl (HOW.out _ _ (by first | exact (Below.refl _ _).alloc (Nat.le_refl _) _ | exact Gg.below_drewN ((Below.refl _ _).alloc (Nat.le_refl _) _) _ | exact HBS.out)) ⟨_, 0, none⟩ 1 1 [.int .i64 3] rfl rfl (cell_oneN _ _ (by first | rfl | (simp; done)) _ _) (by intro u hu; simp at hu; subst hu; rfl) (by unfold maxLen; omega) (by omega) (by simp; omega) ?_; intro v' w9 hown' hgrow hnil; have H9 := Lib.hid (HAF.out _ _ _ _ _ (by first | exact (Below.refl _ _).alloc (Nat.le_refl _) _ | exact Gg.below_drewN ((Below.refl _ _).alloc (Nat.le_refl _) _) _ | exact HBS.out) hgrow hown' HVD.out.symm); clear hown' hgrow hnil))
          refine ⟨⟨k + 1, _, rfl, by omega, by go_num, by rw [HLN.out], H9.out.1, H9.out.2.1, H9.out.2.2⟩, ?_⟩
          simp [intOf]
          omega
        · by_cases h3 : m < q2
          · have HVD : Hid (vrI l m j s R k = 3) := vd_range (by rw [HR3.out]; exact h1) (by rw [HR2.out]; exact .inr h3)
            have HLN : Hid (lgN l m j s R (k + 1) = lgN l m j s R k) := HNO.out (by rw [HVD.out]; omega)
            clear h1
            go_wp2_with ((at_builtin; refine wpList_append_own _ rfl _ _ 26 rfl (w.heap.size + 1) 3 i0 (.int .i64 0) 1 8 Try.underlying26 hi hz0 hz1 hz2 rfl (by decide) _ _ _ rfl (HOW.out _ _ (by first | exact (Below.refl _ _).alloc (Nat.le_refl _) _ | exact Gg.below_drewN ((Below.refl _ _).alloc (Nat.le_refl _) _) _ | exact HBS.out)) ⟨_, 0, none⟩ 1 1 [.int .i64 3] rfl rfl (cell_oneN _ _ (by first | rfl | (simp; done)) _ _) (by intro u hu; simp at hu; subst hu; rfl) (by unfold maxLen; omega) (by omega) (by simp; omega) ?_; intro v' w9 hown' hgrow hnil; have H9 := Lib.hid (HAF.out _ _ _ _ _ (by first | exact (Below.refl _ _).alloc (Nat.le_refl _) _ | exact Gg.below_drewN ((Below.refl _ _).alloc (Nat.le_refl _) _) _ | exact HBS.out) hgrow hown' HVD.out.symm); clear hown' hgrow hnil))
            refine ⟨⟨k + 1, _, rfl, by omega, by go_num, by rw [HLN.out], H9.out.1, H9.out.2.1, H9.out.2.2⟩, ?_⟩
            simp [intOf]
            omega
          · have hnr : ¬ (q2 < l ∨ m < q2) := by omega
            by_cases hneg : lgN l m j s R k = -1
            · have hnj : ¬ (lgN l m j s R k ≠ -1 ∧ wrap64 (j * ((k : Int) - lgN l m j s R k)) < dst (R k 2) (R (lgN l m j s R k).toNat 2)) := fun h => h.1 hneg
              have hlo := hneg
              rw [hneg]
              cases hsb : decide (0 < s ∧ s ≤ (rnN R k : Int)) with
              | true =>
                have HVD : Hid (vrI l m j s R k = 5) := vd_stuck (by rw [HR3.out]; exact h1) (by rw [HR2.out]; exact hnr) hnj (of_decide_eq_true hsb)
                have HLN : Hid (lgN l m j s R (k + 1) = -1) := (HNO.out (by rw [HVD.out]; omega)).trans hlo
                have HSB := Lib.hid hsb
                clear hsb hnj hlo h1 hnr hneg
                go_wp2_with fail
                go_quiet (fail)
                go_wp2_with (first
                  | (go_at_call 38; refine (HST.out _ k (HRS.out.below (by first | exact Gg.below_drewN ((Below.refl _ _).alloc (Nat.le_refl _) _) _ | exact (Below.refl _ _).alloc (Nat.le_refl _) _) (Nat.le_refl _)) hlt).mono ?_; rintro e w6 ⟨rfl, hb6⟩; rw [HSB.out]; have HBS : Hid (Below wr.heap.size wr w6) := (Below.trans (by first | exact Gg.below_drewN ((Below.refl _ _).alloc (Nat.le_refl _) _) _ | exact (Below.refl _ _).alloc (Nat.le_refl _) _) (hb6.mono (by simp))); have hs6 := HBS.out.size; clear hb6)
                  | (at_builtin; refine wpList_append_own _ rfl _ _ 26 rfl (w.heap.size + 1) 3 i0 (.int .i64 0) 1 8 Try.underlying26 hi hz0 hz1 hz2 rfl (by decide) _ _ _ rfl (HOW.out _ _ (by first | exact (Below.refl _ _).alloc (Nat.le_refl _) _ | exact Gg.below_drewN ((Below.refl _ _).alloc (Nat.le_refl _) _) _ | exact HBS.out)) ⟨_, 0, none⟩ 1 1 [.int .i64 5] rfl rfl (cell_oneN _ _ (by first | rfl | (simp; done)) _ _) (by intro u hu; simp at hu; subst hu; rfl) (by unfold maxLen; omega) (by omega) (by simp; omega) ?_; intro v' w9 hown' hgrow hnil; have H9 := Lib.hid (HAF.out _ _ _ _ _ (by first | exact (Below.refl _ _).alloc (Nat.le_refl _) _ | exact Gg.below_drewN ((Below.refl _ _).alloc (Nat.le_refl _) _) _ | exact HBS.out) hgrow hown' HVD.out.symm); clear hown' hgrow hnil))
                refine ⟨⟨k + 1, _, rfl, by omega, by go_num, by rw [HLN.out], H9.out.1, H9.out.2.1, H9.out.2.2⟩, ?_⟩
                simp [intOf]
                omega
              | false =>
                have HVD : Hid (vrI l m j s R k = 1) := vd_good (by rw [HR3.out]; exact h1) (by rw [HR2.out]; exact hnr) hnj (of_decide_eq_false hsb)
                have HLN : Hid (lgN l m j s R (k + 1) = (k : Int)) := HYE.out HVD.out
                have HSB := Lib.hid hsb
                clear hsb hnj hlo h1 hnr hneg
                go_wp2_with fail
                go_quiet (fail)
                go_wp2_with (first
                  | (go_at_call 38; refine (HST.out _ k (HRS.out.below (by first | exact Gg.below_drewN ((Below.refl _ _).alloc (Nat.le_refl _) _) _ | exact (Below.refl _ _).alloc (Nat.le_refl _) _) (Nat.le_refl _)) hlt).mono ?_; rintro e w6 ⟨rfl, hb6⟩; rw [HSB.out]; have HBS : Hid (Below wr.heap.size wr w6) := (Below.trans (by first | exact Gg.below_drewN ((Below.refl _ _).alloc (Nat.le_refl _) _) _ | exact (Below.refl _ _).alloc (Nat.le_refl _) _) (hb6.mono (by simp))); have hs6 := HBS.out.size; clear hb6)
                  | (at_builtin; refine wpList_append_own _ rfl _ _ 26 rfl (w.heap.size + 1) 3 i0 (.int .i64 0) 1 8 Try.underlying26 hi hz0 hz1 hz2 rfl (by decide) _ _ _ rfl (HOW.out _ _ (by first | exact (Below.refl _ _).alloc (Nat.le_refl _) _ | exact Gg.below_drewN ((Below.refl _ _).alloc (Nat.le_refl _) _) _ | exact HBS.out)) ⟨_, 0, none⟩ 1 1 [.int .i64 1] rfl rfl (cell_oneN _ _ (by first | rfl | (simp; done)) _ _) (by intro u hu; simp at hu; subst hu; rfl) (by unfold maxLen; omega) (by omega) (by simp; omega) ?_; intro v' w9 hown' hgrow hnil; have H9 := Lib.hid (HAF.out _ _ _ _ _ (by first | exact (Below.refl _ _).alloc (Nat.le_refl _) _ | exact Gg.below_drewN ((Below.refl _ _).alloc (Nat.le_refl _) _) _ | exact HBS.out) hgrow hown' HVD.out.symm); clear hown' hgrow hnil))
                refine ⟨⟨k + 1, _, rfl, by omega, by go_num, by rw [HLN.out], H9.out.1, H9.out.2.1, H9.out.2.2⟩, ?_⟩
                simp [intOf]
                omega
            · obtain ⟨g0, hg0⟩ : ∃ g0 : Nat, lgN l m j s R k = (g0 : Int) := ⟨(lgN l m j s R k).toNat, by omega⟩
              have hgk : g0 < k := by omega
              obtain ⟨e6, hv6⟩ := HLV.out g0 (by omega)
              have HLJ : Hid ((lgN l m j s R k ≠ -1 ∧ wrap64 (j * ((k : Int) - lgN l m j s R k)) < dst (R k 2) (R (lgN l m j s R k).toNat 2)) ↔ wrap64 (j * ((k : Int) - (g0 : Int))) < dst q2 (R g0 2)) := by
                show _ ↔ _
                rw [hg0, HR2.out, Int.toNat_natCast]
                exact ⟨fun h => h.2, fun h => ⟨by omega, h⟩⟩
              have hlo := hg0
              rw [hg0]
              have e7 : ∀ o, (wr.alloc o).cell? ⟨b, off + g0 * 4 + 2, none⟩ = some (.int .i64 (R g0 2)) := fun o => (((Below.refl wr.heap.size wr).alloc (Nat.le_refl _) o).cell (p := ⟨b, off + g0 * 4 + 2, none⟩) hblt).trans e6
              generalize R g0 2 = v0 at *
              have hg0i : (g0 : Int) < (n : Int) := by omega
              have hg00 : (0 : Int) ≤ (g0 : Int) := by omega
              have k1 : IntKind.i64.wrap (q2 - v0) = q2 - v0 := by rw [IntKind.wrap_i64]; omega
              have k2 : IntKind.i64.wrap (v0 - q2) = v0 - q2 := by rw [IntKind.wrap_i64]; omega
              have k3 : IntKind.i64.wrap ((k : Int) - (g0 : Int)) = (k : Int) - (g0 : Int) := by rw [IntKind.wrap_i64]; omega
              by_cases hju : wrap64 (j * ((k : Int) - (g0 : Int))) < dst q2 v0
              · have HVD : Hid (vrI l m j s R k = 4) := vd_jump (by rw [HR3.out]; exact h1) (by rw [HR2.out]; exact hnr) (HLJ.out.2 hju)
                have HLN : Hid (lgN l m j s R (k + 1) = (g0 : Int)) := (HNO.out (by rw [HVD.out]; omega)).trans hlo
                have g2 : decide (wrap64 (j * ((k : Int) - (g0 : Int))) < max (q2 - v0) (v0 - q2)) = true := decide_eq_true hju
                clear h1 hnr hneg hlo hg0
                by_cases hmx : v0 - q2 ≤ q2 - v0
                · have hm1 : max (q2 - v0) (v0 - q2) = q2 - v0 := by omega
                  rw [hm1] at g2
                  clear hju
                  go_wp2_with fail
                  go_quiet (fail)
                  go_wp2_with ((at_builtin; refine wpList_append_own _ rfl _ _ 26 rfl (w.heap.size + 1) 3 i0 (.int .i64 0) 1 8 Try.underlying26 hi hz0 hz1 hz2 rfl (by decide) _ _ _ rfl (HOW.out _ _ (by first | exact (Below.refl _ _).alloc (Nat.le_refl _) _ | exact Gg.below_drewN ((Below.refl _ _).alloc (Nat.le_refl _) _) _ | exact HBS.out)) ⟨_, 0, none⟩ 1 1 [.int .i64 4] rfl rfl (cell_oneN _ _ (by first | rfl | (simp; done)) _ _) (by intro u hu; simp at hu; subst hu; rfl) (by unfold maxLen; omega) (by omega) (by simp; omega) ?_; intro v' w9 hown' hgrow hnil; have H9 := Lib.hid (HAF.out _ _ _ _ _ (by first | exact (Below.refl _ _).alloc (Nat.le_refl _) _ | exact Gg.below_drewN ((Below.refl _ _).alloc (Nat.le_refl _) _) _ | exact HBS.out) hgrow hown' HVD.out.symm); clear hown' hgrow hnil))
                  refine ⟨⟨k + 1, _, rfl, by omega, by go_num, by rw [HLN.out], H9.out.1, H9.out.2.1, H9.out.2.2⟩, ?_⟩
                  simp [intOf]
                  omega
                · have hm1 : max (q2 - v0) (v0 - q2) = v0 - q2 := by omega
                  rw [hm1] at g2
                  clear hju
                  go_wp2_with fail
                  go_quiet (fail)
                  go_wp2_with ((at_builtin; refine wpList_append_own _ rfl _ _ 26 rfl (w.heap.size + 1) 3 i0 (.int .i64 0) 1 8 Try.underlying26 hi hz0 hz1 hz2 rfl (by decide) _ _ _ rfl (HOW.out _ _ (by first | exact (Below.refl _ _).alloc (Nat.le_refl _) _ | exact Gg.below_drewN ((Below.refl _ _).alloc (Nat.le_refl _) _) _ | exact HBS.out)) ⟨_, 0, none⟩ 1 1 [.int .i64 4] rfl rfl (cell_oneN _ _ (by first | rfl | (simp; done)) _ _) (by intro u hu; simp at hu; subst hu; rfl) (by unfold maxLen; omega) (by omega) (by simp; omega) ?_; intro v' w9 hown' hgrow hnil; have H9 := Lib.hid (HAF.out _ _ _ _ _ (by first | exact (Below.refl _ _).alloc (Nat.le_refl _) _ | exact Gg.below_drewN ((Below.refl _ _).alloc (Nat.le_refl _) _) _ | exact HBS.out) hgrow hown' HVD.out.symm); clear hown' hgrow hnil))
                  refine ⟨⟨k + 1, _, rfl, by omega, by go_num, by rw [HLN.out], H9.out.1, H9.out.2.1, H9.out.2.2⟩, ?_⟩
                  simp [intOf]
                  omega
              · have hnj := fun h => hju (HLJ.out.1 h)
                have g2 : decide (wrap64 (j * ((k : Int) - (g0 : Int))) < max (q2 - v0) (v0 - q2)) = false := decide_eq_false hju
                by_cases hmx : v0 - q2 ≤ q2 - v0
                · have hm1 : max (q2 - v0) (v0 - q2) = q2 - v0 := by omega
                  rw [hm1] at g2
                  cases hsb : decide (0 < s ∧ s ≤ (rnN R k : Int)) with
                  | true =>
                    have HVD : Hid (vrI l m j s R k = 5) := vd_stuck (by rw [HR3.out]; exact h1) (by rw [HR2.out]; exact hnr) hnj (of_decide_eq_true hsb)
                    have HLN : Hid (lgN l m j s R (k + 1) = (g0 : Int)) := (HNO.out (by rw [HVD.out]; omega)).trans hlo
                    have HSB := Lib.hid hsb
                    clear hsb hnj hlo h1 hnr hneg hg0 hju
                    go_wp2_with fail
                    go_quiet (fail)
                    go_wp2_with (first
                      | (go_at_call 38; refine (HST.out _ k (HRS.out.below (by first | exact Gg.below_drewN ((Below.refl _ _).alloc (Nat.le_refl _) _) _ | exact (Below.refl _ _).alloc (Nat.le_refl _) _) (Nat.le_refl _)) hlt).mono ?_; rintro e w6 ⟨rfl, hb6⟩; rw [HSB.out]; have HBS : Hid (Below wr.heap.size wr w6) := (Below.trans (by first | exact Gg.below_drewN ((Below.refl _ _).alloc (Nat.le_refl _) _) _ | exact (Below.refl _ _).alloc (Nat.le_refl _) _) (hb6.mono (by simp))); have hs6 := HBS.out.size; clear hb6)
                      | (at_builtin; refine wpList_append_own _ rfl _ _ 26 rfl (w.heap.size + 1) 3 i0 (.int .i64 0) 1 8 Try.underlying26 hi hz0 hz1 hz2 rfl (by decide) _ _ _ rfl (HOW.out _ _ (by first | exact (Below.refl _ _).alloc (Nat.le_refl _) _ | exact Gg.below_drewN ((Below.refl _ _).alloc (Nat.le_refl _) _) _ | exact HBS.out)) ⟨_, 0, none⟩ 1 1 [.int .i64 5] rfl rfl (cell_oneN _ _ (by first | rfl | (simp; done)) _ _) (by intro u hu; simp at hu; subst hu; rfl) (by unfold maxLen; omega) (by omega) (by simp; omega) ?_; intro v' w9 hown' hgrow hnil; have H9 := Lib.hid (HAF.out _ _ _ _ _ (by first | exact (Below.refl _ _).alloc (Nat.le_refl _) _ | exact Gg.below_drewN ((Below.refl _ _).alloc (Nat.le_refl _) _) _ | exact HBS.out) hgrow hown' HVD.out.symm); clear hown' hgrow hnil))
                    refine ⟨⟨k + 1, _, rfl, by omega, by go_num, by rw [HLN.out], H9.out.1, H9.out.2.1, H9.out.2.2⟩, ?_⟩
                    simp [intOf]
                    omega
                  | false =>
                    have HVD : Hid (vrI l m j s R k = 1) := vd_good (by rw [HR3.out]; exact h1) (by rw [HR2.out]; exact hnr) hnj (of_decide_eq_false hsb)
                    have HLN : Hid (lgN l m j s R (k + 1) = (k : Int)) := HYE.out HVD.out
                    have HSB := Lib.hid hsb
                    clear hsb hnj hlo h1 hnr hneg hg0 hju
                    go_wp2_with fail
                    go_quiet (fail)
                    go_wp2_with (first
                      | (go_at_call 38; refine (HST.out _ k (HRS.out.below (by first | exact Gg.below_drewN ((Below.refl _ _).alloc (Nat.le_refl _) _) _ | exact (Below.refl _ _).alloc (Nat.le_refl _) _) (Nat.le_refl _)) hlt).mono ?_; rintro e w6 ⟨rfl, hb6⟩; rw [HSB.out]; have HBS : Hid (Below wr.heap.size wr w6) := (Below.trans (by first | exact Gg.below_drewN ((Below.refl _ _).alloc (Nat.le_refl _) _) _ | exact (Below.refl _ _).alloc (Nat.le_refl _) _) (hb6.mono (by simp))); have hs6 := HBS.out.size; clear hb6)
                      | (at_builtin; refine wpList_append_own _ rfl _ _ 26 rfl (w.heap.size + 1) 3 i0 (.int .i64 0) 1 8 Try.underlying26 hi hz0 hz1 hz2 rfl (by decide) _ _ _ rfl (HOW.out _ _ (by first | exact (Below.refl _ _).alloc (Nat.le_refl _) _ | exact Gg.below_drewN ((Below.refl _ _).alloc (Nat.le_refl _) _) _ | exact HBS.out)) ⟨_, 0, none⟩ 1 1 [.int .i64 1] rfl rfl (cell_oneN _ _ (by first | rfl | (simp; done)) _ _) (by intro u hu; simp at hu; subst hu; rfl) (by unfold maxLen; omega) (by omega) (by simp; omega) ?_; intro v' w9 hown' hgrow hnil; have H9 := Lib.hid (HAF.out _ _ _ _ _ (by first | exact (Below.refl _ _).alloc (Nat.le_refl _) _ | exact Gg.below_drewN ((Below.refl _ _).alloc (Nat.le_refl _) _) _ | exact HBS.out) hgrow hown' HVD.out.symm); clear hown' hgrow hnil))
                    refine ⟨⟨k + 1, _, rfl, by omega, by go_num, by rw [HLN.out], H9.out.1, H9.out.2.1, H9.out.2.2⟩, ?_⟩
                    simp [intOf]
                    omega
                · have hm1 : max (q2 - v0) (v0 - q2) = v0 - q2 := by omega
                  rw [hm1] at g2
                  cases hsb : decide (0 < s ∧ s ≤ (rnN R k : Int)) with
                  | true =>
                    have HVD : Hid (vrI l m j s R k = 5) := vd_stuck (by rw [HR3.out]; exact h1) (by rw [HR2.out]; exact hnr) hnj (of_decide_eq_true hsb)
                    have HLN : Hid (lgN l m j s R (k + 1) = (g0 : Int)) := (HNO.out (by rw [HVD.out]; omega)).trans hlo
                    have HSB := Lib.hid hsb
                    clear hsb hnj hlo h1 hnr hneg hg0 hju
                    go_wp2_with fail
                    go_quiet (fail)
                    go_wp2_with (first
                      | (go_at_call 38; refine (HST.out _ k (HRS.out.below (by first | exact Gg.below_drewN ((Below.refl _ _).alloc (Nat.le_refl _) _) _ | exact (Below.refl _ _).alloc (Nat.le_refl _) _) (Nat.le_refl _)) hlt).mono ?_; rintro e w6 ⟨rfl, hb6⟩; rw [HSB.out]; have HBS : Hid (Below wr.heap.size wr w6) := (Below.trans (by first | exact Gg.below_drewN ((Below.refl _ _).alloc (Nat.le_refl _) _) _ | exact (Below.refl _ _).alloc (Nat.le_refl _) _) (hb6.mono (by simp))); have hs6 := HBS.out.size; clear hb6)
                      | (at_builtin; refine wpList_append_own _ rfl _ _ 26 rfl (w.heap.size + 1) 3 i0 (.int .i64 0) 1 8 Try.underlying26 hi hz0 hz1 hz2 rfl (by decide) _ _ _ rfl (HOW.out _ _ (by first | exact (Below.refl _ _).alloc (Nat.le_refl _) _ | exact Gg.below_drewN ((Below.refl _ _).alloc (Nat.le_refl _) _) _ | exact HBS.out)) ⟨_, 0, none⟩ 1 1 [.int .i64 5] rfl rfl (cell_oneN _ _ (by first | rfl | (simp; done)) _ _) (by intro u hu; simp at hu; subst hu; rfl) (by unfold maxLen; omega) (by omega) (by simp; omega) ?_; intro v' w9 hown' hgrow hnil; have H9 := Lib.hid (HAF.out _ _ _ _ _ (by first | exact (Below.refl _ _).alloc (Nat.le_refl _) _ | exact Gg.below_drewN ((Below.refl _ _).alloc (Nat.le_refl _) _) _ | exact HBS.out) hgrow hown' HVD.out.symm); clear hown' hgrow hnil))
                    refine ⟨⟨k + 1, _, rfl, by omega, by go_num, by rw [HLN.out], H9.out.1, H9.out.2.1, H9.out.2.2⟩, ?_⟩
                    simp [intOf]
                    omega
                  | false =>
                    have HVD : Hid (vrI l m j s R k = 1) := vd_good (by rw [HR3.out]; exact h1) (by rw [HR2.out]; exact hnr) hnj (of_decide_eq_false hsb)
                    have HLN : Hid (lgN l m j s R (k + 1) = (k : Int)) := HYE.out HVD.out
                    have HSB := Lib.hid hsb
                    clear hsb hnj hlo h1 hnr hneg hg0 hju
                    go_wp2_with fail
                    go_quiet (fail)
                    go_wp2_with (first
                      | (go_at_call 38; refine (HST.out _ k (HRS.out.below (by first | exact Gg.below_drewN ((Below.refl _ _).alloc (Nat.le_refl _) _) _ | exact (Below.refl _ _).alloc (Nat.le_refl _) _) (Nat.le_refl _)) hlt).mono ?_; rintro e w6 ⟨rfl, hb6⟩; rw [HSB.out]; have HBS : Hid (Below wr.heap.size wr w6) := (Below.trans (by first | exact Gg.below_drewN ((Below.refl _ _).alloc (Nat.le_refl _) _) _ | exact (Below.refl _ _).alloc (Nat.le_refl _) _) (hb6.mono (by simp))); have hs6 := HBS.out.size; clear hb6)
                      | (at_builtin; refine wpList_append_own _ rfl _ _ 26 rfl (w.heap.size + 1) 3 i0 (.int .i64 0) 1 8 Try.underlying26 hi hz0 hz1 hz2 rfl (by decide) _ _ _ rfl (HOW.out _ _ (by first | exact (Below.refl _ _).alloc (Nat.le_refl _) _ | exact Gg.below_drewN ((Below.refl _ _).alloc (Nat.le_refl _) _) _ | exact HBS.out)) ⟨_, 0, none⟩ 1 1 [.int .i64 1] rfl rfl (cell_oneN _ _ (by first | rfl | (simp; done)) _ _) (by intro u hu; simp at hu; subst hu; rfl) (by unfold maxLen; omega) (by omega) (by simp; omega) ?_; intro v' w9 hown' hgrow hnil; have H9 := Lib.hid (HAF.out _ _ _ _ _ (by first | exact (Below.refl _ _).alloc (Nat.le_refl _) _ | exact Gg.below_drewN ((Below.refl _ _).alloc (Nat.le_refl _) _) _ | exact HBS.out) hgrow hown' HVD.out.symm); clear hown' hgrow hnil))
                    refine ⟨⟨k + 1, _, rfl, by omega, by go_num, by rw [HLN.out], H9.out.1, H9.out.2.1, H9.out.2.2⟩, ?_⟩
                    simp [intOf]
                    omega
    · obtain rfl : k = n := by omega
      obtain ⟨p2, cap, rfl, hrd, hbs⟩ := own_rd hv.out
      have HRD := Lib.hid hrd
      have HBS : Hid (∀ b off, p2 = some ⟨b, off, none⟩ → w.heap.size ≤ b) := fun b off e => by have := hbs b off e; omega
      clear hrd hbs
      go_wp2
      go_ret2
      exact ⟨_, _, rfl, HRD.out, HBS.out, hb.out⟩
theorem rvd_any (l m j s : Int) (p : Option Addr) (n c : Nat) (R : Nat → Nat → Int) (w : World) (hr : RdR w p n R) (hn : n ≤ 17592186044416) :
    Calls Try.prog 16 #[.agg #[.int .i64 l, .int .i64 m, .int .i64 j, .int .i64 s], .slice p n c] w (VdP (vdE l m j s R n) (vdN l m j s R n) (vrI l m j s R) w) := by
  by_cases h : chC l m j s = 0
  · by_cases h2 : alG R n = 0
    · exact rvd_ok l m j s p n c R w h h2 hr hn
    · exact rvd_al l m j s p n c R w h h2 hr hn
  · exact rvd_bad l m j s p n c R w h
end Go.Proofs.Ytkflgiopkopeeaa.Ql

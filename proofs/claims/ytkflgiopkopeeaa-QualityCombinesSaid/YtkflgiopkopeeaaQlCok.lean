/-
  The contract of Combine where nothing is wrong.
-/
import Derived.Test.YtkflgiopkopeeaaQlCo3
namespace Go.Proofs.Ytkflgiopkopeeaa.Ql
open Go.ChangeShapes Go.WideShapes Go.ChangeAt Go.RowKit
open Go.Proofs.Ytkflgiopkopeeaa.Ca (inB inB_yes inB_no Rd)
open Go.Proofs.Ytkflgiopkopeeaa.Cu (updF updF_same updF_other)
open Go.Proofs.Ytkflgiopkopeeaa.Gg (RdR Rs)
set_option linter.unusedVariables false

theorem rdv_set {W : World} {g b n : Nat} {C : Nat → Value} (h : RdV W (some ⟨b, 0, none⟩) n C) (hne : g ≠ b) (k : Nat) (u : Value) : RdV (W.setCell ⟨g, k, none⟩ u) (some ⟨b, 0, none⟩) n C := fun hn => by
  obtain ⟨b', off, e, hlt, hc⟩ := h hn
  simp only [Option.some.injEq, Addr.mk.injEq] at e
  obtain ⟨rfl, rfl, _⟩ := e
  exact ⟨b, 0, rfl, by simpa using hlt, fun i hi => (World.cell?_setCell_other _ _ _ _ (by intro e; simp only [Addr.mk.injEq] at e; omega)).trans (hc i hi)⟩
theorem va_zero {K : Nat → Nat → Int} {RR : Nat → Nat → Nat → Int} {Ln : Nat → Nat} {m : Nat} (h : vaE K RR Ln m = 0) (i : Nat) (hi : i < m) : vdE (K i 0) (K i 1) (K i 2) (K i 3) (RR i) (Ln i) = 0 := by
  by_cases e : vaE K RR Ln (i + 1) = 0
  · by_cases e2 : vaE K RR Ln i = 0
    · have e3 : vaE K RR Ln (i + 1) = vdE (K i 0) (K i 1) (K i 2) (K i 3) (RR i) (Ln i) := if_pos e2
      rw [← e3]; exact e
    · exact absurd ((va_stop e2 (i + 1) (by omega)).symm.trans e) e2
  · exact absurd ((va_stop e m (by omega)).symm.trans h) e
theorem va_al {K : Nat → Nat → Int} {RR : Nat → Nat → Nat → Int} {Ln : Nat → Nat} {m : Nat} (h : vaE K RR Ln m = 0) (i : Nat) (hi : i < m) : Gg.alG (RR i) (Ln i) = 0 := by
  have h1 := va_zero h i hi
  by_cases e : chC (K i 0) (K i 1) (K i 2) (K i 3) = 0
  · rw [vdE_ok e] at h1; exact h1
  · rw [(vdE_bad (R := RR i) (n := Ln i) e).1] at h1; exact absurd h1 e
set_option maxRecDepth 100000 in
set_option maxHeartbeats 8000000 in
theorem com_ok (q p : Option Addr) (m d c : Nat) (most : Int) (P : Nat → Option Addr) (Ln Cp : Nat → Nat) (RR : Nat → Nat → Nat → Int) (K : Nat → Nat → Int) (w : World) (h : LL w p m P Ln Cp RR) (hk : RdR w q m K) (ho : olB Ln m = true) (hm : m ≤ 1000000) (hl : ∀ i, i < m → Ln i ≤ 17592186044416) (hmo : 0 ≤ most) (hE : vaE K RR Ln m = 0) :
    Calls Try.prog 29 #[.slice q m d, .slice p m c, .int .i64 most] w (CoP 0 (stN Ln m) (fun s => vtI (coV RR s) (coG K RR s) m) (fun s => vtB (coV RR s) (coG K RR s) m) (fun s => (odN (coV RR s) (coG K RR s) (vtI (coV RR s) (coG K RR s) m) most m : Int)) w) := by
  have hne : ((m : Int) != (m : Int)) = false := by simp
  have HO := Lib.hid (ol_all ho)
  have HH := Lib.hid (hol_any p m c P Ln Cp RR w h hm)
  rw [ho] at HH
  have HV : Hid (Calls Try.prog 50 #[.slice q m d, .slice p m c] w fun e w' => ∃ q1 c1 Q NN C, e = .returned (.tuple #[.slice q1 m c1, .int .i64 0]) ∧ LV w' q1 m Q NN C (fun i => vrI (K i 0) (K i 1) (K i 2) (K i 3) (RR i)) ∧ (∀ i, i < m → NN i = Ln i) ∧ Below w.heap.size w w') := (voa_any p q m c d P Ln Cp RR K w h hk hm (fun i hi => by have := hl i hi; omega)).mono fun e w' ⟨q1, c1, Q, N, C, he, hx, hb⟩ => by
    obtain ⟨h1, h2, h3⟩ := hx hE
    rw [hE, h1] at he
    exact ⟨q1, _, Q, N, C, he, h2, h3, hb⟩
  have hst : stN Ln m ≤ 17592186044416 := by
    unfold stN
    split
    · omega
    · exact hl 0 (by omega)
  have HFL : Hid (∀ i, i < m → ∀ s, s < Ln i → 0 ≤ RR i s 2 ∧ RR i s 2 ≤ 1073741824) := fun i hi s hs => by
    have h1 := (Gg.alG_zero (RR i) (Ln i)).1 (va_al hE i hi) s hs
    exact ⟨h1.2.2.2.2.1, h1.2.2.2.2.2.1⟩
  have HL := Lib.hid h
  have HLN := Lib.hid hl
  have HNS : Hid (∀ i, i < m → Ln i = stN Ln m) := fun i hi => (HO.out i hi).trans (by unfold stN; rw [if_neg (by omega)])
  generalize hN : stN Ln m = N at *
  have hNi : (N : Int) ≤ 17592186044416 := by omega
  have hmk1 : ∀ W : World, (Instr.makeSlice 26 (.int .i64 (N : Int)) (.int .i64 (N : Int))).run Try.prog W = .ok (.slice (some ⟨W.heap.size, 0, none⟩) N N) (W.alloc (.cells (madeCells #[.int .i64 0] N) 3)) := fun W => run_make_row' 26 3 (.int .i64 0) 8 Try.underlying26 Try.infoI rfl .i64 .i64 N (by omega) (by omega) W
  have hmk2 : ∀ W : World, (Instr.makeSlice 42 (.int .i64 (N : Int)) (.int .i64 (N : Int))).run Try.prog W = .ok (.slice (some ⟨W.heap.size, 0, none⟩) N N) (W.alloc (.cells (madeCells #[.bool false] N) 4)) := fun W => run_make_row' 42 4 (.bool false) 1 Try.underlying42 Try.infoL rfl .i64 .i64 N (by omega) (by omega) W
  have HCS : Hid (∀ W, LL W p m P Ln Cp RR → Calls Try.prog 51 #[.slice p m c] W fun e w' => e = .returned (.int .i64 (N : Int)) ∧ W = w') := fun W hW => by
    have := cst_any p m c P Ln Cp RR W hW hm
    rw [hN] at this
    exact this
  clear h hk ho hl hE hN
  go_enter Try.func29, Try.ntmps29
  go_upto_region 9 with (first
    | (go_at_call 49; refine HH.out.mono ?_; rintro e w' ⟨rfl, rfl⟩)
    | (go_at_call 50; refine HV.out.mono ?_; rintro e w5 ⟨q1, c1, Q, NN, C, rfl, hlv, hnl, hb⟩; have HB := Lib.hid hb; have HLV := Lib.hid hlv; have HNL := Lib.hid hnl; have HL5 := Lib.hid (HL.out.below hb (Nat.le_refl _)); clear hb hlv hnl)
    | (go_at_call 51; refine (HCS.out _ HL5.out).mono ?_; rintro e w' ⟨rfl, rfl⟩))
  go_cut [13, 14, 15] (fun u13 u14 u15 wx => ∃ gp gq go, u13 = .slice (some ⟨gp, 0, none⟩) N N ∧ u14 = .slice (some ⟨gq, 0, none⟩) N N ∧ u15 = .slice (some ⟨go, 0, none⟩) N N ∧ Hid (F3 w5 gp gq go N (fun _ => 0) (fun _ => false) (fun _ => 0) wx))
  case first =>
    go_region
    all_goals go_wp2_with fail
    all_goals go_meet
    all_goals have HB5z := Nat.le_refl w5.heap.size
    all_goals first
      | (obtain ⟨a, b, c, e⟩ := ow3 w5 N (.int .i64 0) (.bool false) (.int .i64 0) 3 4 3; exact ⟨_, _, _, rfl, rfl, rfl, (show F3 _ _ _ _ _ _ _ _ _ from ⟨a, b, c, by omega, by omega, by omega, Nat.le_trans HB5z (by omega), Nat.le_trans HB5z (by omega), Nat.le_trans HB5z (by omega), e⟩)⟩)
      | (obtain ⟨a, b, c, e⟩ := ow3 w5 N (.int .i64 0) (.int .i64 0) (.bool false) 3 3 4; exact ⟨_, _, _, rfl, rfl, rfl, (show F3 _ _ _ _ _ _ _ _ _ from ⟨a, c, b, by omega, by omega, by omega, Nat.le_trans HB5z (by omega), Nat.le_trans HB5z (by omega), Nat.le_trans HB5z (by omega), e⟩)⟩)
      | (obtain ⟨a, b, c, e⟩ := ow3 w5 N (.bool false) (.int .i64 0) (.int .i64 0) 4 3 3; exact ⟨_, _, _, rfl, rfl, rfl, (show F3 _ _ _ _ _ _ _ _ _ from ⟨b, a, c, by omega, by omega, by omega, Nat.le_trans HB5z (by omega), Nat.le_trans HB5z (by omega), Nat.le_trans HB5z (by omega), e⟩)⟩)
      | (obtain ⟨a, b, c, e⟩ := ow3 w5 N (.bool false) (.int .i64 0) (.int .i64 0) 4 3 3; exact ⟨_, _, _, rfl, rfl, rfl, (show F3 _ _ _ _ _ _ _ _ _ from ⟨c, a, b, by omega, by omega, by omega, Nat.le_trans HB5z (by omega), Nat.le_trans HB5z (by omega), Nat.le_trans HB5z (by omega), e⟩)⟩)
      | (obtain ⟨a, b, c, e⟩ := ow3 w5 N (.int .i64 0) (.int .i64 0) (.bool false) 3 3 4; exact ⟨_, _, _, rfl, rfl, rfl, (show F3 _ _ _ _ _ _ _ _ _ from ⟨b, c, a, by omega, by omega, by omega, Nat.le_trans HB5z (by omega), Nat.le_trans HB5z (by omega), Nat.le_trans HB5z (by omega), e⟩)⟩)
      | (obtain ⟨a, b, c, e⟩ := ow3 w5 N (.int .i64 0) (.bool false) (.int .i64 0) 3 4 3; exact ⟨_, _, _, rfl, rfl, rfl, (show F3 _ _ _ _ _ _ _ _ _ from ⟨c, b, a, by omega, by omega, by omega, Nat.le_trans HB5z (by omega), Nat.le_trans HB5z (by omega), Nat.le_trans HB5z (by omega), e⟩)⟩)
  case rest =>
    obtain ⟨gp, gq, go, rfl, rfl, rfl, hf0⟩ := hcut
    clear hmk1 hmk2 HH HV HCS
    have hbs := HB.out.size
    have HZ0 : Hid (∀ i, i < 0 → (fun _ => (0 : Int)) i = vtI (coV RR i) (coG K RR i) m ∧ (fun _ => false) i = vtB (coV RR i) (coG K RR i) m ∧ (fun _ => (0 : Int)) i = (odN (coV RR i) (coG K RR i) (vtI (coV RR i) (coG K RR i) m) most m : Int)) := fun i hi => absurd hi (Nat.not_lt_zero _)
    go_wp2_with fail
    go_loopw [49] (fun y wr => ∃ (k : Nat) (A : Nat → Int) (B : Nat → Bool) (O : Nat → Int), y = .int .i64 k ∧ k ≤ N ∧ Hid (F3 w5 gp gq go N A B O wr) ∧ Hid (∀ i, i < k → A i = vtI (coV RR i) (coG K RR i) m ∧ B i = vtB (coV RR i) (coG K RR i) m ∧ O i = (odN (coV RR i) (coG K RR i) (vtI (coV RR i) (coG K RR i) m) most m : Int))) (fun y _ => N - (intOf y).toNat)
    case atStart => exact ⟨0, _, _, _, rfl, Nat.zero_le _, hf0, HZ0⟩
    case round =>
      clear hf0 HZ0
      obtain ⟨k, A, B, O, rfl, hkN, hf, hd⟩ := hrel
      by_cases hlt : k < N
      · have hki : (k : Int) < (N : Int) := by omega
        have hll := HL5.out.below hf.out.bel (Nat.le_refl _)
        have hlv := HLV.out.below hf.out.bel (Nat.le_refl _)
        have HVO : Hid (Calls Try.prog 52 #[.slice p m c, .slice q1 m c1, .int .i64 k] wr (VsP m (coV RR k) (coG K RR k) wr)) := vos_any p q1 m c c1 k P Ln Cp RR Q NN C (fun i => vrI (K i 0) (K i 1) (K i 2) (K i 3) (RR i)) wr hll hlv hm (fun i hi => by have := HNS.out i hi; have := HNL.out i hi; omega)
        have HBD : Hid (∀ i, i < m → 0 ≤ coV RR k i ∧ coV RR k i ≤ 1073741824) := fun i hi => HFL.out i hi k (by rw [HNS.out i hi]; exact hlt)
        have hvb := vt_bd (V := coV RR k) (G := coG K RR k) (n := m) (a := 0) (b := 1073741824) (fun i hi _ => HBD.out i hi) (by omega) (by omega)
        have HNX : Hid (∀ i, i < k + 1 → updF A k (vtI (coV RR k) (coG K RR k) m) i = vtI (coV RR i) (coG K RR i) m ∧ updB B k (vtB (coV RR k) (coG K RR k) m) i = vtB (coV RR i) (coG K RR i) m ∧ updF O k (odN (coV RR k) (coG K RR k) (vtI (coV RR k) (coG K RR k) m) most m : Int) i = (odN (coV RR i) (coG K RR i) (vtI (coV RR i) (coG K RR i) m) most m : Int)) := fun i hik => by
          by_cases e : i = k
          · subst e; exact ⟨updF_same _ _ _, if_pos rfl, updF_same _ _ _⟩
          · have h := hd.out i (by omega)
            exact ⟨(updF_other _ _ e).trans h.1, (if_neg e).trans h.2.1, (updF_other _ _ e).trans h.2.2⟩
        have HPV : Hid (∀ W (a b : Option Addr), Rd W a m (coV RR k) → RdL W b m (coG K RR k) → Calls Try.prog 22 #[.slice a m m, .slice b m m] W (Ekt (vtI (coV RR k) (coG K RR k) m) (vtB (coV RR k) (coG K RR k) m) W)) := fun W a b h1 h2 => pvt_ok a b m m m (coV RR k) (coG K RR k) W hm h1 h2
        have HCO : Hid (∀ W (a b : Option Addr), Rd W a m (coV RR k) → RdL W b m (coG K RR k) → Calls Try.prog 53 #[.slice a m m, .slice b m m, .int .i64 (vtI (coV RR k) (coG K RR k) m), .int .i64 most] W fun e w' => e = .returned (.int .i64 (odN (coV RR k) (coG K RR k) (vtI (coV RR k) (coG K RR k) m) most m : Int)) ∧ Below W.heap.size W w') := fun W a b h1 h2 => cod_any a b m m m (coV RR k) (coG K RR k) _ most W hm h1 h2 HBD.out hvb
        have hbp := hf.out.bel.size
        have hgp := hf.out.p.1
        have hgq := hf.out.q.1
        have hgo := hf.out.o.1
        clear hll hlv hd hvb
        generalize coV RR k = V at *
        generalize coG K RR k = G at *
        generalize (odN V G (vtI V G m) most m : Int) = od at *
        generalize vtI V G m = vi at *
        generalize vtB V G m = vb at *
        go_upto_region 15 with (first
          | (go_at_call 52; refine HVO.out.mono ?_; rintro e w6 ⟨ga, gb, rfl, hra, hrb, hb6, hga, hgb⟩; have HF6 := Lib.hid (hf.out.next hb6); have HRA := Lib.hid hra; have HRB := Lib.hid hrb; clear hra hrb hb6)
          | (go_at_call 22; refine (HPV.out w6 _ _ HRA.out HRB.out).mono ?_; rintro e w7 ⟨rfl, hb7⟩; have HF7 := Lib.hid (HF6.out.next hb7); have HA7 : Hid (Rd w7 (some ⟨ga, 0, none⟩) m V) := RdV.below (C := iC V) HRA.out hb7 (Nat.le_refl _); have HB7 : Hid (RdL w7 (some ⟨gb, 0, none⟩) m G) := HRB.out.below hb7 (Nat.le_refl _); obtain ⟨a7, f7⟩ := HF7.out.p.2 k hlt; obtain ⟨b7, g7⟩ := HF7.out.q.2 k hlt; have hn1 := HF7.out.n1; have b8 : (w7.setCell ⟨gp, k, none⟩ (.int .i64 vi)).cell? ⟨gq, k, none⟩ = some (bC B k) := (World.cell?_setCell_other _ _ _ _ (by intro e; simp only [Addr.mk.injEq] at e; omega)).trans b7; clear hb7))
        have HF8 := Lib.hid (HF7.out.two k hlt vi vb)
        have HA8 : Hid (Rd ((w7.setCell ⟨gp, k, none⟩ (.int .i64 vi)).setCell ⟨gq, k, none⟩ (.bool vb)) (some ⟨ga, 0, none⟩) m V) := rdv_set (rdv_set (C := iC V) HA7.out (show gp ≠ ga by omega) k _) (show gq ≠ ga by omega) k _
        have HB8 : Hid (RdL ((w7.setCell ⟨gp, k, none⟩ (.int .i64 vi)).setCell ⟨gq, k, none⟩ (.bool vb)) (some ⟨gb, 0, none⟩) m G) := rdv_set (rdv_set (C := bC G) HB7.out (show gp ≠ gb by omega) k _) (show gq ≠ gb by omega) k _
        have a8 := (HF8.out.p.2 k hlt).1
        unfold iC at a8
        rw [updF_same] at a8
        generalize (w7.setCell ⟨gp, k, none⟩ (.int .i64 vi)).setCell ⟨gq, k, none⟩ (.bool vb) = w8 at *
        clear a7 f7 b7 g7 b8 HF7 HA7 HB7
        go_wp2_with (go_at_call 53; refine (HCO.out w8 _ _ HA8.out HB8.out).mono ?_; rintro e w9 ⟨rfl, hb9⟩; have HF9 := Lib.hid (HF8.out.next hb9); obtain ⟨a9, f9⟩ := HF9.out.o.2 k hlt; clear hb9)
        go_roundw
        case rel => exact ⟨k + 1, _, _, _, by go_num, by omega, HF9.out.one k hlt _, HNX⟩
        case measure => simp [intOf]; omega
      · obtain rfl : k = N := by omega
        go_wp2
        exact bodyPost_ret (v := .tuple #[.slice (some ⟨gp, 0, none⟩) k k, .slice (some ⟨gq, 0, none⟩) k k, .slice (some ⟨go, 0, none⟩) k k, .int .i64 0]) (by simp [results, Try.results29, go_sem]) rfl ⟨_, _, _, _, _, _, rfl, fun hn => ⟨gp, 0, rfl, hf.out.p.1, fun i hi => by rw [Nat.zero_add]; exact (hf.out.p.2 i hi).1.trans (by unfold iC; rw [(hd.out i hi).1])⟩, fun hn => ⟨gq, 0, rfl, hf.out.q.1, fun i hi => by rw [Nat.zero_add]; exact (hf.out.q.2 i hi).1.trans (by unfold bC; rw [(hd.out i hi).2.1])⟩, fun hn => ⟨go, 0, rfl, hf.out.o.1, fun i hi => by rw [Nat.zero_add]; exact (hf.out.o.2 i hi).1.trans (by unfold iC; rw [(hd.out i hi).2.2])⟩, HB.out.trans (hf.out.bel.mono hbs)⟩
end Go.Proofs.Ytkflgiopkopeeaa.Ql

/-
  Combine of the reference of chapter 8: its errors behind the lengths.
-/
import Derived.Test.YtkflgiopkopeeaaQlRco
import Derived.Deep.RegionHeld3
namespace Go.Proofs.Ytkflgiopkopeeaa.Ql
open Go.ChangeShapes Go.WideShapes Go.ChangeAt Go.RowKit
open Go.Proofs.Ytkflgiopkopeeaa.Ca (inB inB_yes inB_no Rd)
open Go.Proofs.Ytkflgiopkopeeaa.Gg (RdR Rs)
set_option linter.unusedVariables false

theorem rcall_ok {K : Nat → Nat → Int} {RR : Nat → Nat → Nat → Int} {Ln Cp : Nat → Nat} {P : Nat → Option Addr} {k : Nat} {W : World} (hr : RdR W (P k) (Ln k) (RR k)) (hl : Ln k ≤ 17592186044416) (he : vdE (K k 0) (K k 1) (K k 2) (K k 3) (RR k) (Ln k) = 0) :
    Calls Try.prog 16 #[.agg #[.int .i64 (K k 0), .int .i64 (K k 1), .int .i64 (K k 2), .int .i64 (K k 3)], .slice (P k) (Ln k) (Cp k)] W (VdP 0 (Ln k) (vrI (K k 0) (K k 1) (K k 2) (K k 3) (RR k)) W) := by
  have h := rvd_any (K k 0) (K k 1) (K k 2) (K k 3) (P k) (Ln k) (Cp k) (RR k) W hr hl
  have hN : vdN (K k 0) (K k 1) (K k 2) (K k 3) (RR k) (Ln k) = Ln k := if_pos he
  rw [hN, he] at h
  exact h
theorem rcall_bad {K : Nat → Nat → Int} {RR : Nat → Nat → Nat → Int} {Ln Cp : Nat → Nat} {P : Nat → Option Addr} {k : Nat} {W : World} (hr : RdR W (P k) (Ln k) (RR k)) (hl : Ln k ≤ 17592186044416) (he : vdE (K k 0) (K k 1) (K k 2) (K k 3) (RR k) (Ln k) ≠ 0) :
    Calls Try.prog 16 #[.agg #[.int .i64 (K k 0), .int .i64 (K k 1), .int .i64 (K k 2), .int .i64 (K k 3)], .slice (P k) (Ln k) (Cp k)] W (VdP (vdE (K k 0) (K k 1) (K k 2) (K k 3) (RR k) (Ln k)) 0 (vrI (K k 0) (K k 1) (K k 2) (K k 3) (RR k)) W) := by
  have h := rvd_any (K k 0) (K k 1) (K k 2) (K k 3) (P k) (Ln k) (Cp k) (RR k) W hr hl
  have hN : vdN (K k 0) (K k 1) (K k 2) (K k 3) (RR k) (Ln k) = 0 := if_neg he
  rw [hN] at h
  exact h
set_option maxRecDepth 100000 in
set_option maxHeartbeats 2000000 in
theorem rco_range (q p : Option Addr) (n d c : Nat) (most : Int) (P : Nat → Option Addr) (Ln Cp : Nat → Nat) (RR : Nat → Nat → Nat → Int) (A : Nat → Int) (B : Nat → Bool) (O : Nat → Int) (w : World) (h : LL w p n P Ln Cp RR) (ho : olB Ln n = true) (hm : n ≤ 1000000) (hneg : most < 0) :
    Calls Try.prog 30 #[.slice q n d, .slice p n c, .int .i64 most] w (CoP 1 0 A B O w) := by
  have HLC := Lib.hid h.c
  have HO := Lib.hid ho
  have hmi : (n : Int) ≤ 1000000 := by omega
  have e : ((n : Int) != (n : Int)) = false := by simp
  clear h ho
  go_enter Try.func30, Try.ntmps30
  go_wp2
  go_loopw [33] (fun y wr => ∃ k : Nat, k ≤ n ∧ y = .int .i64 k ∧ Hid (Below w.heap.size w wr)) (fun y _ => n - (intOf y).toNat)
  case atStart => exact ⟨0, Nat.zero_le _, rfl, Below.refl _ _⟩
  case round =>
    obtain ⟨k, hk, rfl, hb⟩ := hrel
    by_cases hlt : k < n
    · obtain ⟨b, o, rfl, hbl, dd⟩ := (HLC.out.below hb.out (Nat.le_refl _)) (by omega)
      have e1 := dd k hlt
      have e2 := dd 0 (by omega)
      rw [Nat.add_zero] at e2
      have hki : (k : Int) < (n : Int) := by omega
      have hm0 : (0 : Int) < (n : Int) := by omega
      have heq := ol_all HO.out k hlt
      clear dd
      have hne : ((Ln k : Int) != (Ln 0 : Int)) = false := by simp; omega
      clear heq
      go_wp2
      go_quiet (fail)
      go_wp2
      go_roundw
      case rel => exact ⟨k + 1, by omega, by go_num, Gg.below_drewN hb.out _⟩
      case measure => simp [intOf]; omega
    · obtain rfl : k = n := by omega
      go_wp2
      exact bodyPost_ret (v := .tuple #[.slice none 0 0, .slice none 0 0, .slice none 0 0, .int .i64 1]) (by simp [results, Try.results30, go_sem]) rfl (cop_bad hb.out)
set_option maxRecDepth 100000 in
set_option maxHeartbeats 4000000 in
theorem rco_code (q p : Option Addr) (n d c : Nat) (most : Int) (P : Nat → Option Addr) (Ln Cp : Nat → Nat) (RR : Nat → Nat → Nat → Int) (K : Nat → Nat → Int) (A : Nat → Int) (B : Nat → Bool) (O : Nat → Int) (w : World) (h : LL w p n P Ln Cp RR) (hk : RdR w q n K) (ho : olB Ln n = true) (hm : n ≤ 1000000) (hl : ∀ i, i < n → Ln i ≤ 17592186044416) (hneg : 0 ≤ most) (hE : vaE K RR Ln n ≠ 0) :
    Calls Try.prog 30 #[.slice q n d, .slice p n c, .int .i64 most] w (CoP (vaE K RR Ln n) 0 A B O w) := by
  obtain ⟨i0, hi, hz0, hz1, hz2⟩ := info_parts Try.infoS
  have HLC := Lib.hid h.c
  have HL := Lib.hid h
  have HK := Lib.hid hk
  have HLN := Lib.hid hl
  have HO := Lib.hid ho
  have HEE := Lib.hid hE
  have hmi : (n : Int) ≤ 1000000 := by omega
  have e : ((n : Int) != (n : Int)) = false := by simp
  obtain ⟨F, hF⟩ : ∃ F : Nat → Nat → Int, ∀ i, vrI (K i 0) (K i 1) (K i 2) (K i 3) (RR i) = F i := ⟨_, fun _ => rfl⟩
  have HF := Lib.hid hF
  clear h hk ho hl hE hF
  go_enter Try.func30, Try.ntmps30
  go_wp2
  go_loopw [33] (fun y wr => ∃ k : Nat, k ≤ n ∧ y = .int .i64 k ∧ Hid (Below w.heap.size w wr)) (fun y _ => n - (intOf y).toNat)
  case atStart => exact ⟨0, Nat.zero_le _, rfl, Below.refl _ _⟩
  case round =>
    obtain ⟨k, hk, rfl, hb⟩ := hrel
    by_cases hlt : k < n
    · obtain ⟨b, o, rfl, hbl, dd⟩ := (HLC.out.below hb.out (Nat.le_refl _)) (by omega)
      have e1 := dd k hlt
      have e2 := dd 0 (by omega)
      rw [Nat.add_zero] at e2
      have hki : (k : Int) < (n : Int) := by omega
      have hm0 : (0 : Int) < (n : Int) := by omega
      have heq := ol_all HO.out k hlt
      clear dd
      have hne : ((Ln k : Int) != (Ln 0 : Int)) = false := by simp; omega
      clear heq
      go_wp2
      go_quiet (fail)
      go_wp2
      go_roundw
      case rel => exact ⟨k + 1, by omega, by go_num, Gg.below_drewN hb.out _⟩
      case measure => simp [intOf]; omega
    · obtain rfl : n = k := by omega
      have HB0 := hb
      clear hb HLC HO
      generalize hw1 : wr = wb at *
      go_wp2
      go_loopw [11, 12, 13, 14, 51] (fun s11 s12 s13 s14 s51 wr => ∃ (k : Nat) (v : Value) (Q : Nat → Option Addr) (C : Nat → Nat), v = s11 ∧ s51 = .int .i64 k ∧ k ≤ n ∧ Hid (Av wb v k Q Ln C F wr) ∧ Hid (vaE K RR Ln k = 0)) (fun _ _ _ _ s51 _ => n - (intOf s51).toNat)
      case atStart => exact ⟨0, _, _, _, rfl, rfl, Nat.zero_le _, av_nil _ _ _, rfl⟩
      case round =>
        obtain ⟨k, v, Q, C, rfl, rfl, hkm, hav, he0⟩ := hrel
        by_cases hlt : k < n
        · have hki : (k : Int) < (n : Int) := by omega
          have hki2 : (k : Int) ≤ 1000000 := by omega
          have hbw : Below w.heap.size w wr := HB0.out.trans (hav.out.bel.mono HB0.out.size)
          have hll := HL.out.below hbw (Nat.le_refl _)
          have hkk := HK.out.below hbw (Nat.le_refl _)
          obtain ⟨b1, o1, rfl, l1, d1⟩ := hll.c (by omega)
          obtain ⟨b2, o2, rfl, hrs⟩ := hkk (by omega)
          have l2 := hrs.1
          obtain ⟨x0, x1, x2, x3⟩ := hrs.cells k hlt
          have e1 := d1 k hlt
          have HRR := Lib.hid (hll.r k hlt)
          have HEN : Hid (vaE K RR Ln (k + 1) = vdE (K k 0) (K k 1) (K k 2) (K k 3) (RR k) (Ln k)) := if_pos he0.out
          have hvb := Lib.hid (own_up hav.out.o (Below.refl _ _)).lt
          have hbs := hav.out.bel.size
          clear hll hkk d1 hrs hbw
          by_cases hE : vdE (K k 0) (K k 1) (K k 2) (K k 3) (RR k) (Ln k) = 0
          · have HRV : Hid (∀ W, (W.cell? ⟨b2, o2 + k * 4, none⟩ = some (.int .i64 (K k 0)) ∧ W.cell? ⟨b2, o2 + k * 4 + 1, none⟩ = some (.int .i64 (K k 1)) ∧ W.cell? ⟨b2, o2 + k * 4 + 2, none⟩ = some (.int .i64 (K k 2)) ∧ W.cell? ⟨b2, o2 + k * 4 + 3, none⟩ = some (.int .i64 (K k 3)) ∧ W.cell? ⟨b1, o1 + k, none⟩ = some (.slice (P k) (Ln k) (Cp k)) ∧ Hid (Below wr.heap.size wr W)) → Calls Try.prog 16 #[.agg #[.int .i64 (K k 0), .int .i64 (K k 1), .int .i64 (K k 2), .int .i64 (K k 3)], .slice (P k) (Ln k) (Cp k)] W fun e w' => ∃ p' cap', e = .returned (.tuple #[.slice p' (Ln k) cap', .int .i64 0]) ∧ Hid (Rd w' p' (Ln k) (F k)) ∧ Hid (∀ b off, p' = some ⟨b, off, none⟩ → wr.heap.size ≤ b) ∧ (w'.cell? ⟨b2, o2 + k * 4, none⟩ = some (.int .i64 (K k 0)) ∧ w'.cell? ⟨b2, o2 + k * 4 + 1, none⟩ = some (.int .i64 (K k 1)) ∧ w'.cell? ⟨b2, o2 + k * 4 + 2, none⟩ = some (.int .i64 (K k 2)) ∧ w'.cell? ⟨b2, o2 + k * 4 + 3, none⟩ = some (.int .i64 (K k 3)) ∧ w'.cell? ⟨b1, o1 + k, none⟩ = some (.slice (P k) (Ln k) (Cp k)) ∧ Hid (Below wr.heap.size wr w'))) := fun W hW => (rcall_ok (HRR.out.below hW.2.2.2.2.2.out (Nat.le_refl _)) (HLN.out k hlt) hE).mono fun e w' hh => by
              obtain ⟨p', cap', h1, h2, h3, h4⟩ := hh
              have hs := hW.2.2.2.2.2.out.size
              have g : ∀ b i u, b < wr.heap.size → W.cell? ⟨b, i, none⟩ = some u → w'.cell? ⟨b, i, none⟩ = some u := fun b i u hb hc => (h4.cell (p := ⟨b, i, none⟩) (Nat.lt_of_lt_of_le hb hs)).trans hc
              exact ⟨p', cap', h1, (by rw [← HF.out k]; exact h2), fun b off e => Nat.le_trans hs (h3 b off e), g _ _ _ l2 hW.1, g _ _ _ l2 hW.2.1, g _ _ _ l2 hW.2.2.1, g _ _ _ l2 hW.2.2.2.1, g _ _ _ l1 hW.2.2.2.2.1, hW.2.2.2.2.2.out.trans (h4.mono hs)⟩
            have HT0 : Hid (wr.cell? ⟨b2, o2 + k * 4, none⟩ = some (.int .i64 (K k 0)) ∧ wr.cell? ⟨b2, o2 + k * 4 + 1, none⟩ = some (.int .i64 (K k 1)) ∧ wr.cell? ⟨b2, o2 + k * 4 + 2, none⟩ = some (.int .i64 (K k 2)) ∧ wr.cell? ⟨b2, o2 + k * 4 + 3, none⟩ = some (.int .i64 (K k 3)) ∧ wr.cell? ⟨b1, o1 + k, none⟩ = some (.slice (P k) (Ln k) (Cp k)) ∧ Hid (Below wr.heap.size wr wr)) := ⟨x0, x1, x2, x3, e1, Below.refl _ _⟩
            have HEK : Hid (vaE K RR Ln (k + 1) = 0) := HEN.out.trans hE
            clear HEN hE HRR
            generalize K k 0 = y0 at *
            generalize K k 1 = y1 at *
            generalize K k 2 = y2 at *
            generalize K k 3 = y3 at *
            generalize RR k = rk at *
            clear x0 x1 x2 x3 e1
            go_wp2
            go_region_held3 (fun W => W.cell? ⟨b2, o2 + k * 4, none⟩ = some (.int .i64 y0) ∧ W.cell? ⟨b2, o2 + k * 4 + 1, none⟩ = some (.int .i64 y1) ∧ W.cell? ⟨b2, o2 + k * 4 + 2, none⟩ = some (.int .i64 y2) ∧ W.cell? ⟨b2, o2 + k * 4 + 3, none⟩ = some (.int .i64 y3) ∧ W.cell? ⟨b1, o1 + k, none⟩ = some (.slice (P k) (Ln k) (Cp k)) ∧ Hid (Below wr.heap.size wr W)) (first | (with_reducible assumption) | (with_reducible exact HT0.out) | (exact ⟨HT0.out.1, HT0.out.2.1, HT0.out.2.2.1, HT0.out.2.2.2.1, HT0.out.2.2.2.2.1, below_drew HT0.out.2.2.2.2.2.out⟩) | exact HT0.out | assumption | go_keep | fail) (first
              | (go_at_call 16; refine (HRV.out _ (by assumption)).mono ?_; rintro e w5 ⟨p5, c5, rfl, hr5, hq5, hS⟩))
            have H5 := Lib.hid (hav.out.up hS.2.2.2.2.2.out)
            have HQ5 : Hid (∀ b off, p5 = some ⟨b, off, none⟩ → v.ownBlock ≠ some b) := fun b off e e2 => by have := hq5.out b off e; have := (hvb.out b e2).2; omega
            have HT := Lib.hid (H5.out.up ((Below.refl _ _).alloc (Nat.le_refl _) (.cells #[.slice p5 (Ln k) c5] 26)))
            have HR5 : Hid (Rd (w5.alloc (.cells #[.slice p5 (Ln k) c5] 26)) p5 (Ln k) (F k)) := RdV.alloc (C := iC (F k)) hr5.out _
            have hs5 := H5.out.bel.size
            clear hS HRV HT0 hav hr5 hq5 hvb
            go_wp2_with (at_builtin; refine wpList_append_own_at _ rfl _ _ 80 rfl wb.heap.size 26 i0 (.slice none 0 0) 1 24 Try.underlying80 hi hz0 hz1 hz2 rfl (by decide) v k _ rfl HT.out.o ⟨w5.heap.size, 0, none⟩ 1 1 [.slice p5 (Ln k) c5] rfl rfl (cell_one _ _ _) (by intro u hu; simp at hu; subst hu; rfl) (by unfold maxLen; omega) (by omega) (by simp; omega) ?_; intro v' w6 hown hgrow hnil hat; have H6 := Lib.hid (HT.out.app hown hgrow hat HR5.out HQ5.out); clear hown hgrow hnil hat)
            refine ⟨⟨k + 1, _, _, _, rfl, by go_num, by omega, H6, HEK⟩, ?_⟩
            simp [intOf]
            omega
          · have HRV : Hid (∀ W, (W.cell? ⟨b2, o2 + k * 4, none⟩ = some (.int .i64 (K k 0)) ∧ W.cell? ⟨b2, o2 + k * 4 + 1, none⟩ = some (.int .i64 (K k 1)) ∧ W.cell? ⟨b2, o2 + k * 4 + 2, none⟩ = some (.int .i64 (K k 2)) ∧ W.cell? ⟨b2, o2 + k * 4 + 3, none⟩ = some (.int .i64 (K k 3)) ∧ W.cell? ⟨b1, o1 + k, none⟩ = some (.slice (P k) (Ln k) (Cp k)) ∧ Hid (Below wr.heap.size wr W)) → Calls Try.prog 16 #[.agg #[.int .i64 (K k 0), .int .i64 (K k 1), .int .i64 (K k 2), .int .i64 (K k 3)], .slice (P k) (Ln k) (Cp k)] W fun e w' => ∃ p' cap', e = .returned (.tuple #[.slice p' 0 cap', .int .i64 (vdE (K k 0) (K k 1) (K k 2) (K k 3) (RR k) (Ln k))]) ∧ (w'.cell? ⟨b2, o2 + k * 4, none⟩ = some (.int .i64 (K k 0)) ∧ w'.cell? ⟨b2, o2 + k * 4 + 1, none⟩ = some (.int .i64 (K k 1)) ∧ w'.cell? ⟨b2, o2 + k * 4 + 2, none⟩ = some (.int .i64 (K k 2)) ∧ w'.cell? ⟨b2, o2 + k * 4 + 3, none⟩ = some (.int .i64 (K k 3)) ∧ w'.cell? ⟨b1, o1 + k, none⟩ = some (.slice (P k) (Ln k) (Cp k)) ∧ Hid (Below wr.heap.size wr w'))) := fun W hW => (rcall_bad (HRR.out.below hW.2.2.2.2.2.out (Nat.le_refl _)) (HLN.out k hlt) hE).mono fun e w' hh => by
              obtain ⟨p', cap', h1, _, _, h4⟩ := hh
              have hs := hW.2.2.2.2.2.out.size
              have g : ∀ b i u, b < wr.heap.size → W.cell? ⟨b, i, none⟩ = some u → w'.cell? ⟨b, i, none⟩ = some u := fun b i u hb hc => (h4.cell (p := ⟨b, i, none⟩) (Nat.lt_of_lt_of_le hb hs)).trans hc
              exact ⟨p', cap', h1, g _ _ _ l2 hW.1, g _ _ _ l2 hW.2.1, g _ _ _ l2 hW.2.2.1, g _ _ _ l2 hW.2.2.2.1, g _ _ _ l1 hW.2.2.2.2.1, hW.2.2.2.2.2.out.trans (h4.mono hs)⟩
            have HT0 : Hid (wr.cell? ⟨b2, o2 + k * 4, none⟩ = some (.int .i64 (K k 0)) ∧ wr.cell? ⟨b2, o2 + k * 4 + 1, none⟩ = some (.int .i64 (K k 1)) ∧ wr.cell? ⟨b2, o2 + k * 4 + 2, none⟩ = some (.int .i64 (K k 2)) ∧ wr.cell? ⟨b2, o2 + k * 4 + 3, none⟩ = some (.int .i64 (K k 3)) ∧ wr.cell? ⟨b1, o1 + k, none⟩ = some (.slice (P k) (Ln k) (Cp k)) ∧ Hid (Below wr.heap.size wr wr)) := ⟨x0, x1, x2, x3, e1, Below.refl _ _⟩
            have HEK : Hid (vaE K RR Ln n = vdE (K k 0) (K k 1) (K k 2) (K k 3) (RR k) (Ln k)) := (va_stop (fun h => hE (HEN.out.symm.trans h)) n (by omega)).trans HEN.out
            have hE2 : (vdE (K k 0) (K k 1) (K k 2) (K k 3) (RR k) (Ln k) != 0) = true := by simp [hE]
            have HBR : Hid (Below w.heap.size w wr) := HB0.out.trans (hav.out.bel.mono HB0.out.size)
            clear HEN hE HRR
            generalize vdE (K k 0) (K k 1) (K k 2) (K k 3) (RR k) (Ln k) = E at *
            generalize K k 0 = y0 at *
            generalize K k 1 = y1 at *
            generalize K k 2 = y2 at *
            generalize K k 3 = y3 at *
            clear x0 x1 x2 x3 e1
            go_wp2
            go_region_held3 (fun W => W.cell? ⟨b2, o2 + k * 4, none⟩ = some (.int .i64 y0) ∧ W.cell? ⟨b2, o2 + k * 4 + 1, none⟩ = some (.int .i64 y1) ∧ W.cell? ⟨b2, o2 + k * 4 + 2, none⟩ = some (.int .i64 y2) ∧ W.cell? ⟨b2, o2 + k * 4 + 3, none⟩ = some (.int .i64 y3) ∧ W.cell? ⟨b1, o1 + k, none⟩ = some (.slice (P k) (Ln k) (Cp k)) ∧ Hid (Below wr.heap.size wr W)) (first | (with_reducible assumption) | (with_reducible exact HT0.out) | (exact ⟨HT0.out.1, HT0.out.2.1, HT0.out.2.2.1, HT0.out.2.2.2.1, HT0.out.2.2.2.2.1, below_drew HT0.out.2.2.2.2.2.out⟩) | exact HT0.out | assumption | go_keep | fail) (first
              | (go_at_call 16; refine (HRV.out _ (by assumption)).mono ?_; rintro e w5 ⟨p5, c5, rfl, hS⟩))
            have HB5 : Hid (Below w.heap.size w w5) := HBR.out.trans (hS.2.2.2.2.2.out.mono HBR.out.size)
            clear hS HRV HT0 hav hvb
            go_wp2
            exact bodyPost_ret (v := .tuple #[.slice none 0 0, .slice none 0 0, .slice none 0 0, .int .i64 E]) (by simp [results, Try.results30, go_sem]) rfl (by rw [HEK.out]; exact cop_bad HB5.out)
        · obtain rfl : k = n := by omega
          exact absurd he0.out HEE.out
end Go.Proofs.Ytkflgiopkopeeaa.Ql

/-
  Combine of the reference of chapter 8: all is well.
-/
import Derived.Test.YtkflgiopkopeeaaQlRcm
import Derived.Deep.RegionLaw
import Derived.Deep.AppendLies
import Derived.Deep.DeepCutAuto
import Derived.Deep.CutRange
import Derived.Deep.CutBlock
import Derived.BigRegion
namespace Go.Proofs.Ytkflgiopkopeeaa.Ql
open Go.ChangeShapes Go.WideShapes Go.ChangeAt Go.RowKit
open Go.Proofs.Ytkflgiopkopeeaa.Ca (inB inB_yes inB_no Rd)
open Go.Proofs.Ytkflgiopkopeeaa.Gg (RdR Rs)
set_option linter.unusedVariables false

/-- Two lists of the call's own, of truths and integers, at a world of their own. -/
structure T2 (w : World) (v1 v2 : Value) (j1 j2 : Nat) (V : Nat → Int) (G : Nat → Bool) (W : World) : Prop where
  o1 : Own 3 W w.heap.size v1 j1 (iC V)
  o2 : Own 4 W w.heap.size v2 j2 (bC G)
  bel : Below w.heap.size w W
theorem T2.up {w : World} {v1 v2 : Value} {j1 j2 : Nat} {V : Nat → Int} {G : Nat → Bool} {W W' : World} (h : T2 w v1 v2 j1 j2 V G W) (hb : Below W.heap.size W W') : T2 w v1 v2 j1 j2 V G W' :=
  ⟨own_up h.o1 hb, own_up h.o2 hb, h.bel.trans (hb.mono h.bel.size)⟩
theorem T2.alloc {w : World} {v1 v2 : Value} {j1 j2 : Nat} {V : Nat → Int} {G : Nat → Bool} {W : World} (h : T2 w v1 v2 j1 j2 V G W) (o : Obj) : T2 w v1 v2 j1 j2 V G (W.alloc o) := h.up ((Below.refl _ _).alloc (Nat.le_refl _) o)
theorem T2.drew {w : World} {v1 v2 : Value} {j1 j2 : Nat} {V : Nat → Int} {G : Nat → Bool} {W : World} (h : T2 w v1 v2 j1 j2 V G W) : T2 w v1 v2 j1 j2 V G W.drew := h.up ⟨rfl, rfl, rfl, Nat.le_refl _, fun _ _ => rfl⟩
theorem T2.one {w : World} {v1 v2 v' : Value} {j1 j2 : Nat} {V : Nat → Int} {G : Nat → Bool} {W W' : World} {x : Int} (h : T2 w v1 v2 j1 j2 V G W) (ho : W'.ownsRow w.heap.size 3 1 v' (j1 + 1) (vL (iC V) j1 ++ [.int .i64 x])) (hg : W.grownBy W' v1.ownBlock) (hx : x = V j1) : T2 w v' v2 (j1 + 1) j2 V G W' :=
  ⟨own_next ho (fun _ _ => rfl) (by unfold iC; rw [hx]), own_grown h.o2 hg (kind_ne h.o1 h.o2 (by decide)), Gg.below_own h.bel (Nat.le_refl _) hg (own_block h.o1)⟩
theorem T2.two {w : World} {v1 v2 v' : Value} {j1 j2 : Nat} {V : Nat → Int} {G : Nat → Bool} {W W' : World} {x : Bool} (h : T2 w v1 v2 j1 j2 V G W) (ho : W'.ownsRow w.heap.size 4 1 v' (j2 + 1) (vL (bC G) j2 ++ [.bool x])) (hg : W.grownBy W' v2.ownBlock) (hx : x = G j2) : T2 w v1 v' j1 (j2 + 1) V G W' :=
  ⟨own_grown h.o1 hg (kind_ne h.o2 h.o1 (by decide)), own_next ho (fun _ _ => rfl) (by unfold bC; rw [hx]), Gg.below_own h.bel (Nat.le_refl _) hg (own_block h.o2)⟩
theorem one_at {w : World} {blk : Nat} {u : Value} (h : w.cell? ⟨blk, 0, none⟩ = some u) : ∀ j x, [u][j]? = some x → w.cell? ((⟨blk, 0, none⟩ : Addr).add j) = some x := by
  intro j x hj
  match j, hj with
  | 0, hj => simp at hj; subst hj; exact h
set_option maxRecDepth 100000 in
set_option maxHeartbeats 8000000 in
theorem rco_ok (q p : Option Addr) (n d c : Nat) (most : Int) (P : Nat → Option Addr) (Ln Cp : Nat → Nat) (RR : Nat → Nat → Nat → Int) (K : Nat → Nat → Int) (w : World) (h : LL w p n P Ln Cp RR) (hk : RdR w q n K) (ho : olB Ln n = true) (hm : n ≤ 1000000) (hl : ∀ i, i < n → Ln i ≤ 17592186044416) (hneg : 0 ≤ most) (hE : vaE K RR Ln n = 0) :
    Calls Try.prog 30 #[.slice q n d, .slice p n c, .int .i64 most] w (CoP 0 (stN Ln n) (coA K RR n) (coB K RR n) (coO K RR n most) w) := by
  obtain ⟨i0, hi, hz0, hz1, hz2⟩ := info_parts Try.infoS
  obtain ⟨i1, hj, hw0, hw1, hw2⟩ := info_parts Try.infoI
  obtain ⟨i2, hj2, hx0, hx1, hx2⟩ := info_parts Try.infoL
  have HFL : Hid (∀ i, i < n → ∀ s, s < Ln i → 0 ≤ RR i s 2 ∧ RR i s 2 ≤ 1073741824) := fun i hi s hs => by
    have h1 := (Gg.alG_zero (RR i) (Ln i)).1 (va_al hE i hi) s hs
    exact ⟨h1.2.2.2.2.1, h1.2.2.2.2.2.1⟩
  have HLC := Lib.hid h.c
  have HL := Lib.hid h
  have HK := Lib.hid hk
  have HLN := Lib.hid hl
  have HO := Lib.hid ho
  have HVZ := Lib.hid (va_zero hE)
  have HNS : Hid (∀ i, i < n → Ln i = stN Ln n) := fun i hi => (ol_all ho i hi).trans (by unfold stN; rw [if_neg (by omega)])
  have HSN : Hid (stN Ln n ≤ 17592186044416) := by
    show stN Ln n ≤ _
    unfold stN
    split
    · omega
    · exact hl 0 (by omega)
  have hmi : (n : Int) ≤ 1000000 := by omega
  have e : ((n : Int) != (n : Int)) = false := by simp
  obtain ⟨F, hF⟩ : ∃ F : Nat → Nat → Int, ∀ i, vrI (K i 0) (K i 1) (K i 2) (K i 3) (RR i) = F i := ⟨_, fun _ => rfl⟩
  have HF := Lib.hid hF
  clear h hk ho hl hE hF
  go_enter Try.func30, Try.ntmps30
  go_wp2
  go_loopw [33] (fun y wr => ∃ k : Nat, k ≤ n ∧ y = .int .i64 k ∧ Hid (Below w.heap.size w wr)) (fun y _ => n - (intOf y).toNat)
  case atStart => exact ⟨0, Nat.zero_le _, rfl, Below.refl _ _⟩
  case round =>
    obtain ⟨k, hk, rfl, hb⟩ := hrel
    by_cases hlt : k < n
    · obtain ⟨b, o, rfl, hbl, dd⟩ := (HLC.out.below hb.out (Nat.le_refl _)) (by omega)
      have e1 := dd k hlt
      have e2 := dd 0 (by omega)
      rw [Nat.add_zero] at e2
      have hki : (k : Int) < (n : Int) := by omega
      have hm0 : (0 : Int) < (n : Int) := by omega
      have heq := ol_all HO.out k hlt
      clear dd
      have hne : ((Ln k : Int) != (Ln 0 : Int)) = false := by simp; omega
      clear heq
      go_wp2
      go_quiet (fail)
      go_wp2
      go_roundw
      case rel => exact ⟨k + 1, by omega, by go_num, Gg.below_drewN hb.out _⟩
      case measure => simp [intOf]; omega
    · obtain rfl : n = k := by omega
      have HB0 := hb
      clear hb
      generalize hwb : wr = wb at *
      go_wp2
      go_loopw [11, 12, 13, 14, 51] (fun s11 s12 s13 s14 s51 wr => ∃ (k : Nat) (v : Value) (Q : Nat → Option Addr) (C : Nat → Nat), v = s11 ∧ s51 = .int .i64 k ∧ k ≤ n ∧ Hid (Av wb v k Q Ln C F wr) ∧ Hid (vaE K RR Ln k = 0)) (fun _ _ _ _ s51 _ => n - (intOf s51).toNat)
      case atStart => exact ⟨0, _, _, _, rfl, rfl, Nat.zero_le _, av_nil _ _ _, rfl⟩
      case round =>
        obtain ⟨k, v, Q, C, rfl, rfl, hkm, hav, he0⟩ := hrel
        by_cases hlt : k < n
        · have hki : (k : Int) < (n : Int) := by omega
          have hki2 : (k : Int) ≤ 1000000 := by omega
          have hbw : Below w.heap.size w wr := HB0.out.trans (hav.out.bel.mono HB0.out.size)
          have hll := HL.out.below hbw (Nat.le_refl _)
          have hkk := HK.out.below hbw (Nat.le_refl _)
          obtain ⟨b1, o1, rfl, l1, d1⟩ := hll.c (by omega)
          obtain ⟨b2, o2, rfl, hrs⟩ := hkk (by omega)
          have l2 := hrs.1
          obtain ⟨x0, x1, x2, x3⟩ := hrs.cells k hlt
          have e1 := d1 k hlt
          have HRR := Lib.hid (hll.r k hlt)
          have HEN : Hid (vaE K RR Ln (k + 1) = vdE (K k 0) (K k 1) (K k 2) (K k 3) (RR k) (Ln k)) := if_pos he0.out
          have hvb := Lib.hid (own_up hav.out.o (Below.refl _ _)).lt
          have hbs := hav.out.bel.size
          clear hll hkk d1 hrs hbw
          by_cases hE : vdE (K k 0) (K k 1) (K k 2) (K k 3) (RR k) (Ln k) = 0
          · have HRV : Hid (∀ W, (W.cell? ⟨b2, o2 + k * 4, none⟩ = some (.int .i64 (K k 0)) ∧ W.cell? ⟨b2, o2 + k * 4 + 1, none⟩ = some (.int .i64 (K k 1)) ∧ W.cell? ⟨b2, o2 + k * 4 + 2, none⟩ = some (.int .i64 (K k 2)) ∧ W.cell? ⟨b2, o2 + k * 4 + 3, none⟩ = some (.int .i64 (K k 3)) ∧ W.cell? ⟨b1, o1 + k, none⟩ = some (.slice (P k) (Ln k) (Cp k)) ∧ Hid (Below wr.heap.size wr W)) → Calls Try.prog 16 #[.agg #[.int .i64 (K k 0), .int .i64 (K k 1), .int .i64 (K k 2), .int .i64 (K k 3)], .slice (P k) (Ln k) (Cp k)] W fun e w' => ∃ p' cap', e = .returned (.tuple #[.slice p' (Ln k) cap', .int .i64 0]) ∧ Hid (Rd w' p' (Ln k) (F k)) ∧ Hid (∀ b off, p' = some ⟨b, off, none⟩ → wr.heap.size ≤ b) ∧ (w'.cell? ⟨b2, o2 + k * 4, none⟩ = some (.int .i64 (K k 0)) ∧ w'.cell? ⟨b2, o2 + k * 4 + 1, none⟩ = some (.int .i64 (K k 1)) ∧ w'.cell? ⟨b2, o2 + k * 4 + 2, none⟩ = some (.int .i64 (K k 2)) ∧ w'.cell? ⟨b2, o2 + k * 4 + 3, none⟩ = some (.int .i64 (K k 3)) ∧ w'.cell? ⟨b1, o1 + k, none⟩ = some (.slice (P k) (Ln k) (Cp k)) ∧ Hid (Below wr.heap.size wr w'))) := fun W hW => (rcall_ok (HRR.out.below hW.2.2.2.2.2.out (Nat.le_refl _)) (HLN.out k hlt) hE).mono fun e w' hh => by
              obtain ⟨p', cap', h1, h2, h3, h4⟩ := hh
              have hs := hW.2.2.2.2.2.out.size
              have g : ∀ b i u, b < wr.heap.size → W.cell? ⟨b, i, none⟩ = some u → w'.cell? ⟨b, i, none⟩ = some u := fun b i u hb hc => (h4.cell (p := ⟨b, i, none⟩) (Nat.lt_of_lt_of_le hb hs)).trans hc
              exact ⟨p', cap', h1, (by rw [← HF.out k]; exact h2), fun b off e => Nat.le_trans hs (h3 b off e), g _ _ _ l2 hW.1, g _ _ _ l2 hW.2.1, g _ _ _ l2 hW.2.2.1, g _ _ _ l2 hW.2.2.2.1, g _ _ _ l1 hW.2.2.2.2.1, hW.2.2.2.2.2.out.trans (h4.mono hs)⟩
            have HT0 : Hid (wr.cell? ⟨b2, o2 + k * 4, none⟩ = some (.int .i64 (K k 0)) ∧ wr.cell? ⟨b2, o2 + k * 4 + 1, none⟩ = some (.int .i64 (K k 1)) ∧ wr.cell? ⟨b2, o2 + k * 4 + 2, none⟩ = some (.int .i64 (K k 2)) ∧ wr.cell? ⟨b2, o2 + k * 4 + 3, none⟩ = some (.int .i64 (K k 3)) ∧ wr.cell? ⟨b1, o1 + k, none⟩ = some (.slice (P k) (Ln k) (Cp k)) ∧ Hid (Below wr.heap.size wr wr)) := ⟨x0, x1, x2, x3, e1, Below.refl _ _⟩
            have HEK : Hid (vaE K RR Ln (k + 1) = 0) := HEN.out.trans hE
            clear HEN hE HRR
            generalize K k 0 = y0 at *
            generalize K k 1 = y1 at *
            generalize K k 2 = y2 at *
            generalize K k 3 = y3 at *
            generalize RR k = rk at *
            clear x0 x1 x2 x3 e1
            go_wp2
            go_region_held3 (fun W => W.cell? ⟨b2, o2 + k * 4, none⟩ = some (.int .i64 y0) ∧ W.cell? ⟨b2, o2 + k * 4 + 1, none⟩ = some (.int .i64 y1) ∧ W.cell? ⟨b2, o2 + k * 4 + 2, none⟩ = some (.int .i64 y2) ∧ W.cell? ⟨b2, o2 + k * 4 + 3, none⟩ = some (.int .i64 y3) ∧ W.cell? ⟨b1, o1 + k, none⟩ = some (.slice (P k) (Ln k) (Cp k)) ∧ Hid (Below wr.heap.size wr W)) (first | (with_reducible assumption) | (with_reducible exact HT0.out) | (exact ⟨HT0.out.1, HT0.out.2.1, HT0.out.2.2.1, HT0.out.2.2.2.1, HT0.out.2.2.2.2.1, below_drew HT0.out.2.2.2.2.2.out⟩) | exact HT0.out | assumption | go_keep | fail) (first
              | (go_at_call 16; refine (HRV.out _ (by assumption)).mono ?_; rintro e w5 ⟨p5, c5, rfl, hr5, hq5, hS⟩))
            have H5 := Lib.hid (hav.out.up hS.2.2.2.2.2.out)
            have HQ5 : Hid (∀ b off, p5 = some ⟨b, off, none⟩ → v.ownBlock ≠ some b) := fun b off e e2 => by have := hq5.out b off e; have := (hvb.out b e2).2; omega
            have HT := Lib.hid (H5.out.up ((Below.refl _ _).alloc (Nat.le_refl _) (.cells #[.slice p5 (Ln k) c5] 26)))
            have HR5 : Hid (Rd (w5.alloc (.cells #[.slice p5 (Ln k) c5] 26)) p5 (Ln k) (F k)) := RdV.alloc (C := iC (F k)) hr5.out _
            have hs5 := H5.out.bel.size
            clear hS HRV HT0 hav hr5 hq5 hvb
            go_wp2_with (at_builtin; refine wpList_append_own_at _ rfl _ _ 80 rfl wb.heap.size 26 i0 (.slice none 0 0) 1 24 Try.underlying80 hi hz0 hz1 hz2 rfl (by decide) v k _ rfl HT.out.o ⟨w5.heap.size, 0, none⟩ 1 1 [.slice p5 (Ln k) c5] rfl rfl (cell_one _ _ _) (by intro u hu; simp at hu; subst hu; rfl) (by unfold maxLen; omega) (by omega) (by simp; omega) ?_; intro v' w6 hown hgrow hnil hat; have H6 := Lib.hid (HT.out.app hown hgrow hat HR5.out HQ5.out); clear hown hgrow hnil hat)
            refine ⟨⟨k + 1, _, _, _, rfl, by go_num, by omega, H6, HEK⟩, ?_⟩
            simp [intOf]
            omega
          · exact absurd (HVZ.out k hlt) hE
        · obtain rfl : n = k := by omega
          have HB3 : Hid (Below w.heap.size w wr) := HB0.out.trans (hav.out.bel.mono HB0.out.size)
          by_cases hn0 : n = 0
          · subst hn0
            go_wp2
            exact bodyPost_ret (v := .tuple #[.slice none 0 0, .slice none 0 0, .slice none 0 0, .int .i64 0]) (by simp [results, Try.results30, go_sem]) rfl (cop_bad HB3.out)
          · have hn1 : (0 : Int) < (n : Int) := by omega
            have hn2 : ((n : Int) == 0) = false := by simp; omega
            have HZN : Hid (stN Ln n = Ln 0) := if_neg hn0
            obtain ⟨pv, cv, rfl, hrv, _⟩ := own_rd hav.out.o
            obtain ⟨bv, ov, rfl, lv, dv⟩ := hrv (by omega)
            have HDV := Lib.hid dv
            have HRD := Lib.hid hav.out.rd
            have hll := HL.out.below HB3.out (Nat.le_refl _)
            obtain ⟨b1, o1, rfl, l1, d1⟩ := hll.c (by omega)
            have HD1 := Lib.hid d1
            have HRL := Lib.hid hll.r
            have e0 : wr.cell? ⟨b1, o1 + 0, none⟩ = some (.slice (P 0) (Ln 0) (Cp 0)) := d1 0 (by omega)
            rw [Nat.add_zero, ← HZN.out] at e0
            have hns := HSN.out
            have HAB : Hid (∀ s, coA K RR n s = vtI (fun i => RR i s 2) (fun i => F i s == 1) n ∧ coB K RR n s = vtB (fun i => RR i s 2) (fun i => F i s == 1) n ∧ coO K RR n most s = (odN (fun i => RR i s 2) (fun i => F i s == 1) (vtI (fun i => RR i s 2) (fun i => F i s == 1) n) most n : Int)) := fun s => by
              have hg : coG K RR s = fun i => F i s == 1 := by funext i; unfold coG; rw [HF.out i]
              have hv : coV RR s = fun i => RR i s 2 := rfl
              unfold coA coB coO
              rw [hg, hv]
              exact ⟨rfl, rfl, rfl⟩
            generalize hN : stN Ln n = N at *
            have hNi : (N : Int) ≤ 17592186044416 := by omega
            obtain ⟨A, hA⟩ : ∃ A, coA K RR n = A := ⟨_, rfl⟩
            obtain ⟨B, hB⟩ : ∃ B, coB K RR n = B := ⟨_, rfl⟩
            obtain ⟨O, hO⟩ : ∃ O, coO K RR n most = O := ⟨_, rfl⟩
            rw [hA, hB, hO] at HAB
            have HA0 := Lib.hid hA
            have HB00 := Lib.hid hB
            have HO0 := Lib.hid hO
            clear hrv dv hll d1 HLC HO HK HVZ HLN HL HSN HZN hav HB0 hA hB hO hlt hkm he0 HF
            generalize wr = w3 at *
            go_wp2
            go_loopw [15, 16, 17, 81] (fun s15 s16 s17 s81 wr => ∃ (t : Nat) (v1 v2 v3 : Value), v1 = s15 ∧ v3 = s16 ∧ v2 = s17 ∧ s81 = .int .i64 t ∧ t ≤ N ∧ Hid (T3 w3 v1 v2 v3 t t t A B O wr)) (fun _ _ _ s81 _ => N - (intOf s81).toNat)
            case atStart => exact ⟨0, _, _, _, rfl, rfl, rfl, rfl, Nat.zero_le _, t3_nil _ _ _ _⟩
            case round =>
              obtain ⟨t, v1, v2, v3, rfl, rfl, rfl, rfl, htN, ht3⟩ := hrel
              by_cases htl : t < N
              · have hti : (t : Int) < (N : Int) := by omega
                have hbt := ht3.out.bel
                have hst := hbt.size
                generalize hwt : wr = wt at *
                obtain ⟨hab1, hab2, hab3⟩ := HAB.out t
                obtain ⟨V, hV⟩ : ∃ V : Nat → Int, (fun i => RR i t 2) = V := ⟨_, rfl⟩
                obtain ⟨G, hG⟩ : ∃ G : Nat → Bool, (fun i => F i t == 1) = G := ⟨_, rfl⟩
                rw [hV, hG] at hab1 hab2 hab3
                have HAt := Lib.hid hab1
                have HBt := Lib.hid hab2
                have HOt := Lib.hid hab3
                have HVI : Hid (∀ i, RR i t 2 = V i) := fun i => congrFun hV i
                have HGI : Hid (∀ i, (F i t == 1) = G i) := fun i => congrFun hG i
                have HVB : Hid (∀ i, i < n → 0 ≤ V i ∧ V i ≤ 1073741824) := fun i hi => by rw [← HVI.out i]; exact HFL.out i hi t (by rw [HNS.out i hi]; exact htl)
                have HT0 : Hid (T2 wt (.slice none 0 0) (.slice none 0 0) 0 0 V G wt) := ⟨own_nil _ _ _ _, own_nil _ _ _ _, Below.refl _ _⟩
                have HBT := Lib.hid hbt
                clear hab1 hab2 hab3 hV hG hwt hbt
                go_wp2
                go_loopw [19, 20, 86] (fun s19 s20 s86 wr => ∃ (i : Nat) (u1 u2 : Value), u1 = s19 ∧ u2 = s20 ∧ s86 = .int .i64 i ∧ i ≤ n ∧ Hid (T2 wt u1 u2 i i V G wr)) (fun _ _ s86 _ => n - (intOf s86).toNat)
                case atStart => exact ⟨0, _, _, rfl, rfl, rfl, Nat.zero_le _, HT0⟩
                case round =>
                  clear HT0
                  obtain ⟨i, u1, u2, rfl, rfl, rfl, hin, ht⟩ := hrel
                  have hb := Lib.hid ht.out.bel
                  by_cases hlt4 : i < n
                  · have hii : (i : Int) < (n : Int) := by omega
                    have hii2 : (i : Int) ≤ 1000000 := by omega
                    have keep : ∀ b j u, b < w3.heap.size → w3.cell? ⟨b, j, none⟩ = some u → wr.cell? ⟨b, j, none⟩ = some u := fun b j u hl hc => (hb.out.cell (p := ⟨b, j, none⟩) (Nat.lt_of_lt_of_le hl hst)).trans ((HBT.out.cell (p := ⟨b, j, none⟩) hl).trans hc)
                    have hln := HNS.out i hlt4
                    obtain ⟨bp, op, hpi, hrs⟩ := HRL.out i hlt4 (by omega)
                    obtain ⟨bq, oq, hqi, lq, dq⟩ := HRD.out i hlt4 (by omega)
                    have e1 := keep _ _ _ l1 (HD1.out i hlt4)
                    have e2 := keep _ _ _ hrs.1 (hrs.cells t (by omega)).2.2.1
                    have e3 := keep _ _ _ lv (HDV.out i hlt4)
                    have e4 := keep _ _ _ lq (dq t (by omega))
                    rw [hpi] at e1
                    rw [hqi] at e3
                    have HX1 : Hid (RR i t 2 = V i) := HVI.out i
                    have HX2 : Hid ((F i t == 1) = G i) := HGI.out i
                    have hsl : (t : Int) < (Ln i : Int) := by omega
                    have lbp : Hid (bp < wt.heap.size) := Nat.lt_of_lt_of_le hrs.1 hst
                    have lbq : Hid (bq < wt.heap.size) := Nat.lt_of_lt_of_le lq hst
                    have lb1 : Hid (b1 < wt.heap.size) := Nat.lt_of_lt_of_le l1 hst
                    have lbv : Hid (bv < wt.heap.size) := Nat.lt_of_lt_of_le lv hst
                    clear keep hrs dq lq hpi hqi hln
                    generalize RR i t 2 = xv at *
                    generalize F i t = fv at *
                    generalize Ln i = ln at *
                    generalize Cp i = c1 at *
                    generalize C i = c3 at *
                    have up1 : ∀ b j u, b < wt.heap.size → wr.cell? ⟨b, j, none⟩ = some u → ∀ o, (wr.alloc o).cell? ⟨b, j, none⟩ = some u := fun b j u hl hc o => (((Below.refl wr.heap.size wr).alloc (Nat.le_refl _) o).cell (p := ⟨b, j, none⟩) (Nat.lt_of_lt_of_le hl hb.out.size)).trans hc
                    have up2 : ∀ b j u, b < wt.heap.size → wr.cell? ⟨b, j, none⟩ = some u → ∀ o o', ((wr.alloc o).alloc o').cell? ⟨b, j, none⟩ = some u := fun b j u hl hc o o' => ((((Below.refl wr.heap.size wr).alloc (Nat.le_refl _) o).alloc (by simp) o').cell (p := ⟨b, j, none⟩) (Nat.lt_of_lt_of_le hl hb.out.size)).trans hc
                    have A1 := Lib.hid (up1 _ _ _ lb1.out e1)
                    have A2 := Lib.hid (up1 _ _ _ lbp.out e2)
                    have A3 := Lib.hid (up1 _ _ _ lbv.out e3)
                    have A4 := Lib.hid (up1 _ _ _ lbq.out e4)
                    have B1 := Lib.hid (up2 _ _ _ lb1.out e1)
                    have B2 := Lib.hid (up2 _ _ _ lbp.out e2)
                    have B3 := Lib.hid (up2 _ _ _ lbv.out e3)
                    have B4 := Lib.hid (up2 _ _ _ lbq.out e4)
                    have g1 := A1.out
                    have g2 := A2.out
                    have g3 := A3.out
                    have g4 := A4.out
                    have NW11 : Hid (∀ j u, [Value.int .i64 xv][j]? = some u → (wr.alloc (.cells #[.int .i64 xv] 3)).cell? ((⟨wr.heap.size, 0, none⟩ : Addr).add j) = some u) := cell_one _ _ _
                    have NW21 : Hid (∀ j u, [Value.bool (fv == 1)][j]? = some u → (wr.alloc (.cells #[.bool (fv == 1)] 4)).cell? ((⟨wr.heap.size, 0, none⟩ : Addr).add j) = some u) := cell_one _ _ _
                    have NW11b : Hid (∀ o, ∀ j u, [Value.int .i64 xv][j]? = some u → ((wr.alloc (.cells #[.int .i64 xv] 3)).alloc o).cell? ((⟨wr.heap.size, 0, none⟩ : Addr).add j) = some u) := fun o => one_at (by simp)
                    have NW21b : Hid (∀ o, ∀ j u, [Value.bool (fv == 1)][j]? = some u → ((wr.alloc (.cells #[.bool (fv == 1)] 4)).alloc o).cell? ((⟨wr.heap.size, 0, none⟩ : Addr).add j) = some u) := fun o => one_at (by simp)
                    have NW12 : Hid (∀ o, ∀ j u, [Value.int .i64 xv][j]? = some u → ((wr.alloc o).alloc (.cells #[.int .i64 xv] 3)).cell? ((⟨wr.heap.size + 1, 0, none⟩ : Addr).add j) = some u) := fun o => one_at (by simp)
                    have NW22 : Hid (∀ o, ∀ j u, [Value.bool (fv == 1)][j]? = some u → ((wr.alloc o).alloc (.cells #[.bool (fv == 1)] 4)).cell? ((⟨wr.heap.size + 1, 0, none⟩ : Addr).add j) = some u) := fun o => one_at (by simp)
                    clear up1 up2
                    go_upto_block 7 with (fail)
                    go_cut [19, 20, 86] from 88 to 110 (fun s19 s20 s86 wx => ∃ y1 y2 : Value, y1 = s19 ∧ y2 = s20 ∧ s86 = .int .i64 i ∧ Hid (T2 wt y1 y2 (i + 1) (i + 1) V G wx))
                    case first =>
                     go_upto_region 32 with (fail)
                     go_region_law (first
                      | (refine step_app rfl (.tmp 89) (.tmp 98) 26 rfl wt.heap.size 3 i1 (.int .i64 0) 1 8 Try.underlying26 hj hw0 hw1 hw2 rfl (by decide) u1 i (vL (iC V) i) ?_ (by first | exact (ht.out.alloc _).o1 | exact ((ht.out.alloc _).alloc _).o1) (some ⟨wr.heap.size, 0, none⟩) 1 1 [.int .i64 xv] ?_ (fun h => by cases h) rfl (fun ad h => by cases h; first | exact NW11.out | exact NW11b.out _ | exact NW12.out _) (by intro u hu; simp at hu; subst hu; rfl) (by unfold maxLen; omega) (by omega) (by have := hb.out.size; simp; omega) ?_; (· first | (simp [Act.eval]; done) | rfl); (· first | (simp [Act.eval]; done) | rfl); intro y1 w15 ho1 hg1 _; have HT1 := Lib.hid (T2.one (by first | exact (ht.out.alloc _).drew | exact ((ht.out.alloc _).alloc _).drew) ho1 hg1 HX1.out); have f3 : w15.cell? ⟨bv, ov + i, none⟩ = some (.slice (some ⟨bq, oq, none⟩) ln c3) := hg1.cell (by first | exact A3.out _ | exact B3.out _ _) (by intro e; have h9 := own_block ht.out.o1 _ e.symm; have h8 := lbv.out; change wt.heap.size ≤ bv at h9; omega); have f4 : w15.cell? ⟨bq, oq + t, none⟩ = some (.int .i64 fv) := hg1.cell (by first | exact A4.out _ | exact B4.out _ _) (by intro e; have h9 := own_block ht.out.o1 _ e.symm; have h8 := lbq.out; change wt.heap.size ≤ bq at h9; omega); have HL1 := Lib.hid (fun (blk : Nat) (u : Value) (h7 : wr.heap.size ≤ blk) h6 => hg1.cell (a := ⟨blk, 0, none⟩) (v := u) h6 (by intro e; have h9 := ht.out.o1.lt _ e.symm; change _ ∧ blk < wr.heap.size at h9; omega)); clear ho1)
                      | (refine step_app rfl (.tmp 89) (.tmp 98) 26 rfl wt.heap.size 3 i1 (.int .i64 0) 1 8 Try.underlying26 hj hw0 hw1 hw2 rfl (by decide) u1 i (vL (iC V) i) ?_ (by first | exact (ht.out.alloc _).o1 | exact ((ht.out.alloc _).alloc _).o1) (some ⟨wr.heap.size + 1, 0, none⟩) 1 1 [.int .i64 xv] ?_ (fun h => by cases h) rfl (fun ad h => by cases h; first | exact NW11.out | exact NW11b.out _ | exact NW12.out _) (by intro u hu; simp at hu; subst hu; rfl) (by unfold maxLen; omega) (by omega) (by have := hb.out.size; simp; omega) ?_; (· first | (simp [Act.eval]; done) | rfl); (· first | (simp [Act.eval]; done) | rfl); intro y1 w15 ho1 hg1 _; have HT1 := Lib.hid (T2.one (by first | exact (ht.out.alloc _).drew | exact ((ht.out.alloc _).alloc _).drew) ho1 hg1 HX1.out); have f3 : w15.cell? ⟨bv, ov + i, none⟩ = some (.slice (some ⟨bq, oq, none⟩) ln c3) := hg1.cell (by first | exact A3.out _ | exact B3.out _ _) (by intro e; have h9 := own_block ht.out.o1 _ e.symm; have h8 := lbv.out; change wt.heap.size ≤ bv at h9; omega); have f4 : w15.cell? ⟨bq, oq + t, none⟩ = some (.int .i64 fv) := hg1.cell (by first | exact A4.out _ | exact B4.out _ _) (by intro e; have h9 := own_block ht.out.o1 _ e.symm; have h8 := lbq.out; change wt.heap.size ≤ bq at h9; omega); have HL1 := Lib.hid (fun (blk : Nat) (u : Value) (h7 : wr.heap.size ≤ blk) h6 => hg1.cell (a := ⟨blk, 0, none⟩) (v := u) h6 (by intro e; have h9 := ht.out.o1.lt _ e.symm; change _ ∧ blk < wr.heap.size at h9; omega)); clear ho1)
                      | (refine step_app rfl (.tmp 100) (.tmp 109) 42 rfl wt.heap.size 4 i2 (.bool false) 1 1 Try.underlying42 hj2 hx0 hx1 hx2 rfl (by decide) u2 i (vL (bC G) i) ?_ (by first | exact (ht.out.alloc _).o2 | exact ((ht.out.alloc _).alloc _).o2) (some ⟨wr.heap.size, 0, none⟩) 1 1 [.bool (fv == 1)] ?_ (fun h => by cases h) rfl (fun ad h => by cases h; first | exact NW21.out | exact NW21b.out _ | exact NW22.out _) (by intro u hu; simp at hu; subst hu; rfl) (by unfold maxLen; omega) (by omega) (by have := hb.out.size; simp; omega) ?_; (· first | (simp [Act.eval]; done) | rfl); (· first | (simp [Act.eval]; done) | rfl); intro y2 w25 ho2 hg2 _; have HT2 := Lib.hid (T2.two (by first | exact (ht.out.alloc _).drew | exact ((ht.out.alloc _).alloc _).drew) ho2 hg2 HX2.out); have f1 : w25.cell? ⟨b1, o1 + i, none⟩ = some (.slice (some ⟨bp, op, none⟩) ln c1) := hg2.cell (by first | exact A1.out _ | exact B1.out _ _) (by intro e; have h9 := own_block ht.out.o2 _ e.symm; have h8 := lb1.out; change wt.heap.size ≤ b1 at h9; omega); have f2 : w25.cell? ⟨bp, op + t * 4 + 2, none⟩ = some (.int .i64 xv) := hg2.cell (by first | exact A2.out _ | exact B2.out _ _) (by intro e; have h9 := own_block ht.out.o2 _ e.symm; have h8 := lbp.out; change wt.heap.size ≤ bp at h9; omega); have HL2 := Lib.hid (fun (blk : Nat) (u : Value) (h7 : wr.heap.size ≤ blk) h6 => hg2.cell (a := ⟨blk, 0, none⟩) (v := u) h6 (by intro e; have h9 := ht.out.o2.lt _ e.symm; change _ ∧ blk < wr.heap.size at h9; omega)); clear ho2)
                      | (refine step_app rfl (.tmp 100) (.tmp 109) 42 rfl wt.heap.size 4 i2 (.bool false) 1 1 Try.underlying42 hj2 hx0 hx1 hx2 rfl (by decide) u2 i (vL (bC G) i) ?_ (by first | exact (ht.out.alloc _).o2 | exact ((ht.out.alloc _).alloc _).o2) (some ⟨wr.heap.size + 1, 0, none⟩) 1 1 [.bool (fv == 1)] ?_ (fun h => by cases h) rfl (fun ad h => by cases h; first | exact NW21.out | exact NW21b.out _ | exact NW22.out _) (by intro u hu; simp at hu; subst hu; rfl) (by unfold maxLen; omega) (by omega) (by have := hb.out.size; simp; omega) ?_; (· first | (simp [Act.eval]; done) | rfl); (· first | (simp [Act.eval]; done) | rfl); intro y2 w25 ho2 hg2 _; have HT2 := Lib.hid (T2.two (by first | exact (ht.out.alloc _).drew | exact ((ht.out.alloc _).alloc _).drew) ho2 hg2 HX2.out); have f1 : w25.cell? ⟨b1, o1 + i, none⟩ = some (.slice (some ⟨bp, op, none⟩) ln c1) := hg2.cell (by first | exact A1.out _ | exact B1.out _ _) (by intro e; have h9 := own_block ht.out.o2 _ e.symm; have h8 := lb1.out; change wt.heap.size ≤ b1 at h9; omega); have f2 : w25.cell? ⟨bp, op + t * 4 + 2, none⟩ = some (.int .i64 xv) := hg2.cell (by first | exact A2.out _ | exact B2.out _ _) (by intro e; have h9 := own_block ht.out.o2 _ e.symm; have h8 := lbp.out; change wt.heap.size ≤ bp at h9; omega); have HL2 := Lib.hid (fun (blk : Nat) (u : Value) (h7 : wr.heap.size ≤ blk) h6 => hg2.cell (a := ⟨blk, 0, none⟩) (v := u) h6 (by intro e; have h9 := ht.out.o2.lt _ e.symm; change _ ∧ blk < wr.heap.size at h9; omega)); clear ho2)
                      | (refine step_app rfl (.tmp 89) (.tmp 98) 26 rfl wt.heap.size 3 i1 (.int .i64 0) 1 8 Try.underlying26 hj hw0 hw1 hw2 rfl (by decide) u1 i (vL (iC V) i) ?_ (by first | exact HT2.out.o1 | exact (HT2.out.alloc _).o1) (some ⟨wr.heap.size, 0, none⟩) 1 1 [.int .i64 xv] ?_ (fun h => by cases h) rfl (fun ad h => by cases h; exact one_at (HL2.out _ _ (Nat.le_refl _) (by simp; done))) (by intro u hu; simp at hu; subst hu; rfl) (by unfold maxLen; omega) (by omega) (by have := HT2.out.bel.size; first | exact this | (simp; omega)) ?_; (· first | (simp [Act.eval]; done) | rfl); (· first | (simp [Act.eval]; done) | rfl); intro y1 wz ho1 hg1 _; have HZ := Lib.hid (T2.one (by first | exact HT2.out | exact HT2.out.alloc _ | exact HT2.out.drew | exact (HT2.out.alloc _).drew) ho1 hg1 HX1.out); clear ho1)
                      | (refine step_app rfl (.tmp 89) (.tmp 98) 26 rfl wt.heap.size 3 i1 (.int .i64 0) 1 8 Try.underlying26 hj hw0 hw1 hw2 rfl (by decide) u1 i (vL (iC V) i) ?_ (by first | exact HT2.out.o1 | exact (HT2.out.alloc _).o1) (some ⟨wr.heap.size + 1, 0, none⟩) 1 1 [.int .i64 xv] ?_ (fun h => by cases h) rfl (fun ad h => by cases h; exact one_at (HL2.out _ _ (by omega) (by simp; done))) (by intro u hu; simp at hu; subst hu; rfl) (by unfold maxLen; omega) (by omega) (by have := HT2.out.bel.size; first | exact this | (simp; omega)) ?_; (· first | (simp [Act.eval]; done) | rfl); (· first | (simp [Act.eval]; done) | rfl); intro y1 wz ho1 hg1 _; have HZ := Lib.hid (T2.one (by first | exact HT2.out | exact HT2.out.alloc _ | exact HT2.out.drew | exact (HT2.out.alloc _).drew) ho1 hg1 HX1.out); clear ho1)
                      | (refine step_app rfl (.tmp 89) (.tmp 98) 26 rfl wt.heap.size 3 i1 (.int .i64 0) 1 8 Try.underlying26 hj hw0 hw1 hw2 rfl (by decide) u1 i (vL (iC V) i) ?_ (by first | exact HT2.out.o1 | exact (HT2.out.alloc _).o1) (some ⟨w25.heap.size, 0, none⟩) 1 1 [.int .i64 xv] ?_ (fun h => by cases h) rfl (fun ad h => by cases h; exact cell_one _ _ _) (by intro u hu; simp at hu; subst hu; rfl) (by unfold maxLen; omega) (by omega) (by have := HT2.out.bel.size; first | exact this | (simp; omega)) ?_; (· first | (simp [Act.eval]; done) | rfl); (· first | (simp [Act.eval]; done) | rfl); intro y1 wz ho1 hg1 _; have HZ := Lib.hid (T2.one (by first | exact HT2.out | exact HT2.out.alloc _ | exact HT2.out.drew | exact (HT2.out.alloc _).drew) ho1 hg1 HX1.out); clear ho1)
                      | (refine step_app rfl (.tmp 100) (.tmp 109) 42 rfl wt.heap.size 4 i2 (.bool false) 1 1 Try.underlying42 hj2 hx0 hx1 hx2 rfl (by decide) u2 i (vL (bC G) i) ?_ (by first | exact HT1.out.o2 | exact (HT1.out.alloc _).o2) (some ⟨wr.heap.size, 0, none⟩) 1 1 [.bool (fv == 1)] ?_ (fun h => by cases h) rfl (fun ad h => by cases h; exact one_at (HL1.out _ _ (Nat.le_refl _) (by simp; done))) (by intro u hu; simp at hu; subst hu; rfl) (by unfold maxLen; omega) (by omega) (by have := HT1.out.bel.size; first | exact this | (simp; omega)) ?_; (· first | (simp [Act.eval]; done) | rfl); (· first | (simp [Act.eval]; done) | rfl); intro y2 wz ho2 hg2 _; have HZ := Lib.hid (T2.two (by first | exact HT1.out | exact HT1.out.alloc _ | exact HT1.out.drew | exact (HT1.out.alloc _).drew) ho2 hg2 HX2.out); clear ho2)
                      | (refine step_app rfl (.tmp 100) (.tmp 109) 42 rfl wt.heap.size 4 i2 (.bool false) 1 1 Try.underlying42 hj2 hx0 hx1 hx2 rfl (by decide) u2 i (vL (bC G) i) ?_ (by first | exact HT1.out.o2 | exact (HT1.out.alloc _).o2) (some ⟨wr.heap.size + 1, 0, none⟩) 1 1 [.bool (fv == 1)] ?_ (fun h => by cases h) rfl (fun ad h => by cases h; exact one_at (HL1.out _ _ (by omega) (by simp; done))) (by intro u hu; simp at hu; subst hu; rfl) (by unfold maxLen; omega) (by omega) (by have := HT1.out.bel.size; first | exact this | (simp; omega)) ?_; (· first | (simp [Act.eval]; done) | rfl); (· first | (simp [Act.eval]; done) | rfl); intro y2 wz ho2 hg2 _; have HZ := Lib.hid (T2.two (by first | exact HT1.out | exact HT1.out.alloc _ | exact HT1.out.drew | exact (HT1.out.alloc _).drew) ho2 hg2 HX2.out); clear ho2)
                      | (refine step_app rfl (.tmp 100) (.tmp 109) 42 rfl wt.heap.size 4 i2 (.bool false) 1 1 Try.underlying42 hj2 hx0 hx1 hx2 rfl (by decide) u2 i (vL (bC G) i) ?_ (by first | exact HT1.out.o2 | exact (HT1.out.alloc _).o2) (some ⟨w15.heap.size, 0, none⟩) 1 1 [.bool (fv == 1)] ?_ (fun h => by cases h) rfl (fun ad h => by cases h; exact cell_one _ _ _) (by intro u hu; simp at hu; subst hu; rfl) (by unfold maxLen; omega) (by omega) (by have := HT1.out.bel.size; first | exact this | (simp; omega)) ?_; (· first | (simp [Act.eval]; done) | rfl); (· first | (simp [Act.eval]; done) | rfl); intro y2 wz ho2 hg2 _; have HZ := Lib.hid (T2.two (by first | exact HT1.out | exact HT1.out.alloc _ | exact HT1.out.drew | exact (HT1.out.alloc _).drew) ho2 hg2 HX2.out); clear ho2)
                      | fail)
                     all_goals go_wp2_with fail
                     all_goals go_meet
                     all_goals exact ⟨_, _, rfl, rfl, rfl, HZ⟩
                    case rest =>
                     obtain ⟨y1, y2, rfl, rfl, rfl, hz⟩ := hcut
                     go_wp2_with fail
                     go_roundw
                     case rel => exact ⟨i + 1, _, _, rfl, rfl, by go_num, by omega, hz⟩
                     case measure => simp [intOf]; omega
                  · obtain rfl : n = i := by omega
                    obtain ⟨q1, d1, rfl, hr1, _⟩ := own_rd ht.out.o1
                    obtain ⟨q2, d2, rfl, hr2, _⟩ := own_rd ht.out.o2
                    have HVo := Lib.hid (rvt_ok q1 q2 n d1 d2 V G wr (by omega) hr1 hr2)
                    have HR1 := Lib.hid hr1
                    have HR2 := Lib.hid hr2
                    have hvb := vt_bd (V := V) (G := G) (n := n) (a := 0) (b := 1073741824) (fun i hi _ => HVB.out i hi) (by omega) (by omega)
                    have HBW4 := Lib.hid ht.out.bel
                    clear hr1 hr2 ht hb
                    generalize vtI V G n = vi at *
                    generalize vtB V G n = vb at *
                    go_wp2_with (go_at_call 23; refine HVo.out.mono ?_; rintro e w8 ⟨rfl, hb8⟩; have HB8 : Hid (Below wt.heap.size wt w8) := HBW4.out.trans (hb8.mono HBW4.out.size); have HR81 := Lib.hid (RdV.below (C := iC V) HR1.out hb8 (Nat.le_refl _)); have HR82 := Lib.hid (RdV.below (C := bC G) HR2.out hb8 (Nat.le_refl _)); clear hb8)
                    clear HR1 HR2 HVo HBW4
                    go_loopw [24, 120] (fun s24 s120 wr => ∃ j : Nat, j ≤ n ∧ s24 = .int .i64 (odN V G vi most j : Int) ∧ s120 = .int .i64 j ∧ Hid (Below w8.heap.size w8 wr)) (fun _ s120 _ => n - (intOf s120).toNat)
                    case atStart => exact ⟨0, Nat.zero_le _, rfl, rfl, Below.refl _ _⟩
                    case round =>
                      obtain ⟨j, hjn, rfl, rfl, hb⟩ := hrel
                      have hod := od_le V G vi most j
                      by_cases hlt5 : j < n
                      · have hji : (j : Int) < (n : Int) := by omega
                        obtain ⟨x1, y1, rfl, _, dd1⟩ := (HR81.out.below hb.out (Nat.le_refl _)) (by omega)
                        obtain ⟨x2, y2, rfl, _, dd2⟩ := (HR82.out.below hb.out (Nat.le_refl _)) (by omega)
                        have e1 : wr.cell? ⟨x1, y1 + j, none⟩ = some (.int .i64 (V j)) := dd1 j hlt5
                        have e2 : wr.cell? ⟨x2, y2 + j, none⟩ = some (.bool (G j)) := dd2 j hlt5
                        have hvj := HVB.out j hlt5
                        have HNX : Hid (odN V G vi most (j + 1) = if G j = true ∧ most < dst (V j) vi then odN V G vi most j + 1 else odN V G vi most j) := rfl
                        clear dd1 dd2
                        generalize odN V G vi most j = ok at *
                        have hoki : (ok : Int) ≤ 1000000 := by omega
                        cases hgj : G j with
                        | false =>
                          rw [hgj] at e2
                          have HN : Hid (odN V G vi most (j + 1) = ok) := HNX.out.trans (if_neg (by rw [hgj]; simp))
                          clear hgj HNX
                          go_wp2
                          go_quiet (fail)
                          go_wp2
                          refine ⟨⟨j + 1, by omega, by rw [HN.out], by go_num, Gg.below_drewN hb.out _⟩, ?_⟩
                          simp [intOf]
                          omega
                        | true =>
                          rw [hgj] at e2
                          obtain ⟨hv0, hv1⟩ := hvj
                          obtain ⟨hi0, hi1⟩ := hvb
                          have k1 : IntKind.i64.wrap (V j - vi) = V j - vi := by rw [IntKind.wrap_i64]; omega
                          have k2 : IntKind.i64.wrap (vi - V j) = vi - V j := by rw [IntKind.wrap_i64]; omega
                          have HDT : Hid (dst (V j) vi = max (V j - vi) (vi - V j)) := rfl
                          by_cases hds : most < max (V j - vi) (vi - V j)
                          · have HN : Hid (odN V G vi most (j + 1) = ok + 1) := HNX.out.trans (if_pos ⟨hgj, by rw [HDT.out]; exact hds⟩)
                            have gd : decide (most < max (V j - vi) (vi - V j)) = true := decide_eq_true hds
                            clear hgj HNX HDT
                            generalize V j = vj at *
                            by_cases hmx : vi - vj ≤ vj - vi
                            · have hm1 : max (vj - vi) (vi - vj) = vj - vi := by omega
                              rw [hm1] at gd hds
                              go_wp2
                              go_quiet (fail)
                              go_wp2
                              refine ⟨⟨j + 1, by omega, by rw [HN.out]; push_cast; rfl, by go_num, Gg.below_drewN hb.out _⟩, ?_⟩
                              simp [intOf]
                              omega
                            · have hm1 : max (vj - vi) (vi - vj) = vi - vj := by omega
                              rw [hm1] at gd hds
                              go_wp2
                              go_quiet (fail)
                              go_wp2
                              refine ⟨⟨j + 1, by omega, by rw [HN.out]; push_cast; rfl, by go_num, Gg.below_drewN hb.out _⟩, ?_⟩
                              simp [intOf]
                              omega
                          · have HN : Hid (odN V G vi most (j + 1) = ok) := HNX.out.trans (if_neg (fun h => hds (by rw [← HDT.out]; exact h.2)))
                            have gd : decide (most < max (V j - vi) (vi - V j)) = false := decide_eq_false hds
                            clear hgj HNX HDT
                            generalize V j = vj at *
                            by_cases hmx : vi - vj ≤ vj - vi
                            · have hm1 : max (vj - vi) (vi - vj) = vj - vi := by omega
                              rw [hm1] at gd hds
                              go_wp2
                              go_quiet (fail)
                              go_wp2
                              refine ⟨⟨j + 1, by omega, by rw [HN.out], by go_num, Gg.below_drewN hb.out _⟩, ?_⟩
                              simp [intOf]
                              omega
                            · have hm1 : max (vj - vi) (vi - vj) = vi - vj := by omega
                              rw [hm1] at gd hds
                              go_wp2
                              go_quiet (fail)
                              go_wp2
                              refine ⟨⟨j + 1, by omega, by rw [HN.out], by go_num, Gg.below_drewN hb.out _⟩, ?_⟩
                              simp [intOf]
                              omega
                      · obtain rfl : n = j := by omega
                        have HT3 := Lib.hid ((ht3.out.up (HB8.out.trans (hb.out.mono HB8.out.size))).alloc (.cells #[.int .i64 vi] 3))
                        have hs9 := HT3.out.bel.size
                        have htb : (t : Int) ≤ 17592186044416 := by omega
                        have HVT : Hid (vi = A t) := HAt.out.symm
                        have HBT2 : Hid (vb = B t) := HBt.out.symm
                        have HOT : Hid ((odN V G vi most n : Int) = O t) := HOt.out.symm
                        clear HR81 HR82 HAt HBt HOt hb HB8 HBT
                        generalize (odN V G vi most n : Int) = od at *
                        simp only [World.size_alloc] at hs9
                        go_wp2_with (at_builtin; first
                          | (refine wpList_append_own_at _ rfl _ _ 26 rfl w3.heap.size 3 i1 (.int .i64 0) 1 8 Try.underlying26 hj hw0 hw1 hw2 rfl (by decide) v1 t _ rfl HT3.out.o1 ⟨wr.heap.size, 0, none⟩ 1 1 [.int .i64 vi] rfl rfl (cell_one _ _ _) (by intro u hu; simp at hu; subst hu; rfl) (by unfold maxLen; omega) (by omega) (by simp; omega) ?_; intro z1 w9 hown hgrow hnil hat; have hsz9 := (HT3.out.one hown hgrow hat HVT.out).bel.size; have H9 := Lib.hid ((HT3.out.one hown hgrow hat HVT.out).alloc (.cells #[.bool vb] 4)); clear hown hgrow hnil hat HT3)
                          | (refine wpList_append_own_at _ rfl _ _ 42 rfl w3.heap.size 4 i2 (.bool false) 1 1 Try.underlying42 hj2 hx0 hx1 hx2 rfl (by decide) v2 t _ rfl H9.out.o2 ⟨w9.heap.size, 0, none⟩ 1 1 [.bool vb] rfl rfl (cell_one _ _ _) (by intro u hu; simp at hu; subst hu; rfl) (by unfold maxLen; omega) (by omega) (by simp; omega) ?_; intro z2 w10 hown hgrow hnil hat; have hsz10 := (H9.out.two hown hgrow HBT2.out).bel.size; have H10 := Lib.hid ((H9.out.two hown hgrow HBT2.out).alloc (.cells #[.int .i64 od] 3)); clear hown hgrow hnil hat)
                          | (refine wpList_append_own_at _ rfl _ _ 26 rfl w3.heap.size 3 i1 (.int .i64 0) 1 8 Try.underlying26 hj hw0 hw1 hw2 rfl (by decide) v3 t _ rfl H10.out.o3 ⟨w10.heap.size, 0, none⟩ 1 1 [.int .i64 od] rfl rfl (cell_one _ _ _) (by intro u hu; simp at hu; subst hu; rfl) (by unfold maxLen; omega) (by omega) (by simp; omega) ?_; intro z3 w11 hown hgrow hnil hat; have H11 := Lib.hid (H10.out.three hown hgrow hat HOT.out); clear hown hgrow hnil hat))
                        refine ⟨⟨t + 1, _, _, _, rfl, rfl, rfl, by go_num, by omega, H11⟩, ?_⟩
                        simp [intOf]
                        omega
              · obtain rfl : N = t := by omega
                obtain ⟨pa, ca, rfl, hra, _⟩ := own_rd ht3.out.o1
                obtain ⟨pb, cb, rfl, hrb, _⟩ := own_rd ht3.out.o2
                obtain ⟨po, co, rfl, hro, _⟩ := own_rd ht3.out.o3
                have HRA := Lib.hid hra
                have HRB := Lib.hid hrb
                have HRO := Lib.hid hro
                have HBE : Hid (Below w.heap.size w wr) := HB3.out.trans (ht3.out.bel.mono HB3.out.size)
                clear hra hrb hro ht3
                go_wp2
                exact bodyPost_ret (v := .tuple #[.slice pa N ca, .slice pb N cb, .slice po N co, .int .i64 0]) (by simp [results, Try.results30, go_sem]) rfl ⟨pa, ca, pb, cb, po, co, rfl, by rw [HA0.out]; exact HRA.out, by rw [HB00.out]; exact HRB.out, by rw [HO0.out]; exact HRO.out, HBE.out⟩
end Go.Proofs.Ytkflgiopkopeeaa.Ql

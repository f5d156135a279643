/-
  QualityCombines: the walk.
-/
import Derived.Test.YtkflgiopkopeeaaQlRca
import Derived.Test.YtkflgiopkopeeaaQlLw
import Derived.Test.YtkflgiopkopeeaaQlAwk
import Derived.Sort.AtCall
namespace Go.Proofs.Ytkflgiopkopeeaa.Ql
open Go.ChangeShapes Go.WideShapes Go.ChangeAt Go.RowKit
open Go.Proofs.Ytkflgiopkopeeaa.Ca (inB inB_yes inB_no Rd)
open Go.Proofs.Ytkflgiopkopeeaa.Cu (grown_below grown_own grown_trans grown_refl updF updF_same updF_other Dk next_any new_any md md_lo md_hi mod_any)
open Go.Proofs.Ytkflgiopkopeeaa.Gg (GotR gotR_nil gotR_rs gotR_rd gotR_next gotR_block rsL rsL_len rsL_one RdR Rs updR updR_same updR_other mkR cell_four)
set_option linter.unusedVariables false

theorem Lw.dk1 {w : World} {g : Nat} {v1 v2 : Value} {k1 k2 n : Nat} {K : Nat → Nat → Int} {P : Nat → Option Addr} {Cp : Nat → Nat} {RR : Nat → Nat → Nat → Int} {W W' : World} {p : Option Addr} {dn dc : Nat} {z : Nat → Int} (h : Lw w g v1 v2 k1 k2 n K P Cp RR W) (hd : Dk W g p dn dc z) (hg : W.grownBy W' v1.ownBlock) : Dk W' g p dn dc z :=
  hd.grown hg (by intro e; have := (h.o1.lt g e.symm).1; have := h.gl; omega) (fun k hk => by have := (h.o1.lt k hk).1; have := h.gl; omega)
theorem Lw.dk2 {w : World} {g : Nat} {v1 v2 : Value} {k1 k2 n : Nat} {K : Nat → Nat → Int} {P : Nat → Option Addr} {Cp : Nat → Nat} {RR : Nat → Nat → Nat → Int} {W W' : World} {p : Option Addr} {dn dc : Nat} {z : Nat → Int} (h : Lw w g v1 v2 k1 k2 n K P Cp RR W) (hd : Dk W g p dn dc z) (hg : W.grownBy W' v2.ownBlock) : Dk W' g p dn dc z :=
  hd.grown hg (by intro e; have := own_block h.o2 g e.symm; have := h.gl; omega) (fun k hk => by have := own_block h.o2 k hk; have := h.gl; omega)
theorem cn_le {K : Nat → Nat → Int} {RR : Nat → Nat → Nat → Int} {Ln : Nat → Nat} {n m : Nat} {most : Int} (h : ∀ i, i < m → Ln i ≤ 17592186044416) : coN K RR Ln n m most ≤ 17592186044416 := by
  unfold coN stN
  split
  · split
    · omega
    · exact h 0 (by omega)
  · omega
set_option maxRecDepth 100000 in
set_option maxHeartbeats 8000000 in
theorem cb_walk (aC : Option Addr) (nC cC : Nat) (KC : Nat → Nat → Int) (aL : Option Addr) (nL cL : Nat) (PL : Nat → Option Addr) (LL0 CL : Nat → Nat) (RL : Nat → Nat → Nat → Int) (a2 : Option Addr) (len2 cap2 : Nat) (z : Nat → Int) (most : Int) (w : World)
    (hrc : RdR w aC nC KC) (hrl : LL w aL nL PL LL0 CL RL) (hls : ∀ i, i < nL → LL0 i ≤ 17592186044416)
    (hn : len2 ≤ 9223372036854775807) (hz : ∀ i, -9223372036854775808 ≤ z i ∧ z i ≤ 9223372036854775807) (hr : Rd w a2 len2 z) (hby : -9223372036854775808 ≤ most ∧ most ≤ 9223372036854775807) :
    Calls Try.prog 5 #[.slice aC nC cC, .slice aL nL cL, .slice a2 len2 cap2, .int .i64 most] w fun e w' => e = .returned (.bool true) ∧ Below w.heap.size w w' := by
  obtain ⟨i0, hi, hz0, hz1, hz2⟩ := info_parts Try.infoC
  obtain ⟨i1, hj, hw0, hw1, hw2⟩ := info_parts Try.infoQ
  have HR := Lib.hid hr
  have HZ := Lib.hid hz
  have HRC := Lib.hid hrc
  have HRL := Lib.hid hrl
  have HLS := Lib.hid hls
  have HMD := Lib.hid (fun W => mod_any most 30 W hby (by omega) (by omega))
  generalize md most 30 = m30 at *
  clear hr hz hby hrc hrl hls
  go_enter Try.func5, Try.ntmps5
  by_cases hbig : 10 < nC
  · have hb2 : (10 : Int) < (nC : Int) := by omega
    go_wp2_with (go_at_call 20; refine (awake_any _).mono ?_; rintro e w9 ⟨rfl, hb9⟩; have HB9 := Lib.hid hb9; clear hb9)
    go_ret
    exact ⟨rfl, HB9.out⟩
  by_cases hbig2 : 10 < nL
  · have hb1 : (nC : Int) ≤ 10 := by omega
    have hb2 : (10 : Int) < (nL : Int) := by omega
    go_wp2_with (go_at_call 20; refine (awake_any _).mono ?_; rintro e w9 ⟨rfl, hb9⟩; have HB9 := Lib.hid hb9; clear hb9)
    go_ret
    exact ⟨rfl, HB9.out⟩
  have hb1 : (nC : Int) ≤ 10 := by omega
  have hb2 : (nL : Int) ≤ 10 := by omega
  have hc1 : nC ≤ 10 := by omega
  have hc2 : nL ≤ 10 := by omega
  clear hbig hbig2
  go_wp2_with (first
    | (go_at_call 11; refine (new_any a2 len2 cap2 z w hn HZ.out HR.out).mono ?_; rintro e w1 ⟨rfl, hd1, hb1⟩; have HD1 := Lib.hid hd1; have HB1 := Lib.hid hb1; clear hd1 hb1)
    | (go_at_call_has 14 (Value.int .i64 12); refine (next_any w.heap.size a2 len2 cap2 z _ _ HD1.out (by omega)).mono ?_; rintro e w2 ⟨r, rfl, hr0, hr1, hd2, hg2⟩; have HD2 := Lib.hid hd2; have HB2 : Hid (Below w.heap.size w w2) := below_grown HB1.out (Nat.le_refl _) hg2 (Nat.le_refl _); clear hd2 hg2 HD1)
    | (go_at_call_has 14 (Value.int .i64 5); refine (next_any w.heap.size a2 len2 cap2 z _ _ HD2.out (by omega)).mono ?_; rintro e w3 ⟨r3, rfl, hr30, hr31, hd3, hg3⟩; have HD3 := Lib.hid hd3; have HB3 : Hid (Below w.heap.size w w3) := below_grown HB2.out (Nat.le_refl _) hg3 (Nat.le_refl _); clear hd3 hg3 HD2))
  obtain ⟨n, rfl⟩ : ∃ n : Nat, r = (n : Int) := ⟨r.toNat, by omega⟩
  obtain ⟨k0, rfl⟩ : ∃ k0 : Nat, r3 = (k0 : Int) := ⟨r3.toNat, by omega⟩
  have hn11 : n ≤ 11 := by omega
  have hk04 : k0 ≤ 4 := by omega
  clear hr0 hr1 hr30 hr31 HR HZ HB1 HB2
  have hgl : w.heap.size < w3.heap.size := HD3.out.lt
  have HL0 := Lib.hid (lw_nil (n := n) hgl)
  go_loopw [11, 12, 13] (fun s11 s12 s13 wr => ∃ (k j : Nat) (v1 v2 : Value) (K : Nat → Nat → Int) (P : Nat → Option Addr) (Cp : Nat → Nat) (RR : Nat → Nat → Nat → Int), v1 = s11 ∧ v2 = s12 ∧ s13 = .int .i64 k ∧ j + k ≤ 4 ∧ Hid (Lw w3 w.heap.size v1 v2 j j n K P Cp RR wr) ∧ Hid (Dk wr w.heap.size a2 len2 cap2 z)) (fun _ _ s13 _ => (intOf s13).toNat)
  case atStart => exact ⟨k0, 0, _, _, _, _, _, _, rfl, rfl, rfl, by omega, HL0, HD3⟩
  case round =>
    clear HL0 HD3
    obtain ⟨k, j, v1, v2, K, P, Cp, RR, rfl, rfl, rfl, hjk, hl, hd⟩ := hrel
    by_cases hk : 0 < k
    · have hki : (0 : Int) < (k : Int) := by omega
      have hki2 : (k : Int) ≤ 4 := by omega
      go_wp2_with (first
        | (go_at_call 12; refine (checks_any w.heap.size a2 len2 cap2 z wr hd.out).mono ?_; rintro e w4 ⟨l, m, jj, s, rfl, _, _, _, _, hd4, hg4⟩; have HT4 := Lib.hid ((hl.out.turn hg4).alloc (.cells #[.int .i64 l, .int .i64 m, .int .i64 jj, .int .i64 s] 23)); have HD4 := Lib.hid (hd4.alloc (.cells #[.int .i64 l, .int .i64 m, .int .i64 jj, .int .i64 s] 23)); have hs4 := (hl.out.turn hg4).gr.size; clear hd4 hg4)
        | (go_at_call 13; refine (series_any w.heap.size a2 len2 cap2 z n w5 HD5.out (by omega)).mono ?_; rintro e w6 ⟨v6, R, rfl, _, hsw⟩; obtain ⟨p6, c6, rfl, _, hkd⟩ := kdr_of hsw.o hsw.gl; have HT6 := Lib.hid ((H5.out.turn hsw.gr).alloc (.cells #[.slice p6 n c6] 30)); have HD6 := Lib.hid (hsw.dk.alloc (.cells #[.slice p6 n c6] 30)); have HK6 := Lib.hid (hkd.below ((Below.refl w6.heap.size w6).alloc (Nat.le_refl _) (.cells #[.slice p6 n c6] 30))); have hs6 := (H5.out.turn hsw.gr).gr.size; clear hsw hkd)
        | (at_builtin; first
          | (refine wpList_append_own _ rfl _ _ 33 rfl w3.heap.size 23 i0 (.agg #[.int .i64 0, .int .i64 0, .int .i64 0, .int .i64 0]) 4 32 Try.underlying33 hi hz0 hz1 hz2 rfl (by decide) v1 j _ rfl HT4.out.o1 ⟨w4.heap.size, 0, none⟩ 1 1 [.int .i64 l, .int .i64 m, .int .i64 jj, .int .i64 s] rfl rfl (cell_four _ _ _ _ _ _) (by intro u hu; simp at hu; rcases hu with rfl | rfl | rfl | rfl <;> rfl) (by unfold maxLen; omega) (by omega) (by simp; omega) ?_; intro v' w5 hown' hgrow hnil; have H5 := Lib.hid (HT4.out.one hown' hgrow); have HD5 := Lib.hid (HT4.out.dk1 HD4.out hgrow); clear hown' hgrow hnil)
          | (refine wpList_append_own _ rfl _ _ 34 rfl w3.heap.size 30 i1 (.slice none 0 0) 1 24 Try.underlying34 hj hw0 hw1 hw2 rfl (by decide) v2 j _ rfl HT6.out.o2 ⟨w6.heap.size, 0, none⟩ 1 1 [.slice p6 n c6] rfl rfl (cell_one _ _ _) (by intro u hu; simp at hu; subst hu; rfl) (by unfold maxLen; omega) (by omega) (by simp; omega) ?_; intro v'' w7 hown' hgrow hnil; have H7 := Lib.hid (HT6.out.two hown' hgrow HK6.out); have HD7 := Lib.hid (HT6.out.dk2 HD6.out hgrow); clear hown' hgrow hnil)))
      refine ⟨⟨k - 1, j + 1, _, _, _, _, _, _, rfl, rfl, by rw [show (k : Int) - 1 = ((k - 1 : Nat) : Int) by omega], by omega, H7, HD7⟩, ?_⟩
      simp [intOf]
      omega
    · have hk0 : ¬ (0 : Int) < (k : Int) := by omega
      have hj4 : j ≤ 4 := by omega
      obtain ⟨qz, dz, pz, cz, rfl, rfl, hrk, hll⟩ := hl.out.both
      have HB4 : Hid (Below w.heap.size w wr) := below_grown HB3.out (Nat.le_refl _) hl.out.gr (Nat.le_refl _)
      have HB5 : Hid (Below wr.heap.size wr (wr.alloc (.cells #[.slice qz j dz, .slice aC nC cC] 33))) := (Below.refl _ _).alloc (Nat.le_refl _) _
      have HK1 := Lib.hid (hrk.below HB5.out (Nat.le_refl _))
      have HM1 := Lib.hid (hll.below HB5.out (Nat.le_refl _))
      have HK2 := Lib.hid ((HRC.out.below HB4.out (Nat.le_refl _)).below HB5.out (Nat.le_refl _))
      have HM2 := Lib.hid ((HRL.out.below HB4.out (Nat.le_refl _)).below HB5.out (Nat.le_refl _))
      have HBW : Hid (Below w.heap.size w (wr.alloc (.cells #[.slice qz j dz, .slice aC nC cC] 33))) := HB4.out.trans (HB5.out.mono HB4.out.size)
      have HC0 : Hid ((wr.alloc (.cells #[.slice qz j dz, .slice aC nC cC] 33)).cell? ⟨wr.heap.size, 0, none⟩ = some (.slice qz j dz)) := by show _ = _; simp
      have HC1 : Hid ((wr.alloc (.cells #[.slice qz j dz, .slice aC nC cC] 33)).cell? ⟨wr.heap.size, 1, none⟩ = some (.slice aC nC cC)) := by show _ = _; simp
      have hgx : wr.heap.size < (wr.alloc (.cells #[.slice qz j dz, .slice aC nC cC] 33)).heap.size := by simp
      clear hl hd hrk hll HRC HRL HB3 HB4 HB5
      go_wp2_with fail
      generalize wr.alloc (.cells #[.slice qz j dz, .slice aC nC cC] 33) = w5 at *
      generalize wr.heap.size = gx at *
      go_loopw [62] (fun y wr => ∃ x : Nat, x ≤ 2 ∧ y = .int .i64 x ∧ Hid (Below w5.heap.size w5 wr)) (fun y _ => 2 - (intOf y).toNat)
      case atStart => exact ⟨0, by omega, rfl, Below.refl _ _⟩
      case round =>
        obtain ⟨x, hx2, rfl, hb⟩ := hrel
        by_cases hlt : x < 2
        · have hxi : (x : Int) < 2 := by omega
          obtain ⟨qq, nn, dd, KK, tt, hrr, hnn⟩ : ∃ (qq : Option Addr) (nn dd : Nat) (KK : Nat → Nat → Int), wr.cell? ⟨gx, x, none⟩ = some (.slice qq nn dd) ∧ Hid (RdR wr qq nn KK) ∧ nn ≤ 10 := by
            have hc : x = 0 ∨ x = 1 := by omega
            rcases hc with rfl | rfl
            · exact ⟨qz, j, dz, K, (hb.out.cell (p := ⟨gx, 0, none⟩) hgx).trans HC0.out, HK1.out.below hb.out (Nat.le_refl _), by omega⟩
            · exact ⟨aC, nC, cC, KC, (hb.out.cell (p := ⟨gx, 1, none⟩) hgx).trans HC1.out, HK2.out.below hb.out (Nat.le_refl _), hc1⟩
          have hsx := hb.out.size
          have HB6 : Hid (Below wr.heap.size wr (wr.alloc (.cells #[.slice pz j cz, .slice aL nL cL] 34))) := (Below.refl _ _).alloc (Nat.le_refl _) _
          have HK3 := Lib.hid (hrr.out.below HB6.out (Nat.le_refl _))
          have HM3 := Lib.hid ((HM1.out.below hb.out (Nat.le_refl _)).below HB6.out (Nat.le_refl _))
          have HM4 := Lib.hid ((HM2.out.below hb.out (Nat.le_refl _)).below HB6.out (Nat.le_refl _))
          have HBX : Hid (Below w5.heap.size w5 (wr.alloc (.cells #[.slice pz j cz, .slice aL nL cL] 34))) := hb.out.trans (HB6.out.mono hsx)
          have HE0 : Hid ((wr.alloc (.cells #[.slice pz j cz, .slice aL nL cL] 34)).cell? ⟨wr.heap.size, 0, none⟩ = some (.slice pz j cz)) := by show _ = _; simp
          have HE1 : Hid ((wr.alloc (.cells #[.slice pz j cz, .slice aL nL cL] 34)).cell? ⟨wr.heap.size, 1, none⟩ = some (.slice aL nL cL)) := by show _ = _; simp
          have hgy : wr.heap.size < (wr.alloc (.cells #[.slice pz j cz, .slice aL nL cL] 34)).heap.size := by simp
          clear hb hrr HB6
          go_wp2_with fail
          clear tt
          generalize wr.alloc (.cells #[.slice pz j cz, .slice aL nL cL] 34) = w6 at *
          generalize wr.heap.size = gy at *
          go_loopw [70] (fun y wr => ∃ x : Nat, x ≤ 2 ∧ y = .int .i64 x ∧ Hid (Below w6.heap.size w6 wr)) (fun y _ => 2 - (intOf y).toNat)
          case atStart => exact ⟨0, by omega, rfl, Below.refl _ _⟩
          case round =>
            obtain ⟨y, hy2, rfl, hb⟩ := hrel
            by_cases hlt3 : y < 2
            · have hyi : (y : Int) < 2 := by omega
              obtain ⟨pp, mm, cc, PP, LN, CP, R2, tt, hll, hmm, hln⟩ : ∃ (pp : Option Addr) (mm cc : Nat) (PP : Nat → Option Addr) (LN CP : Nat → Nat) (R2 : Nat → Nat → Nat → Int), wr.cell? ⟨gy, y, none⟩ = some (.slice pp mm cc) ∧ Hid (LL wr pp mm PP LN CP R2) ∧ mm ≤ 10 ∧ Hid (∀ i, i < mm → LN i ≤ 17592186044416) := by
                have hc : y = 0 ∨ y = 1 := by omega
                rcases hc with rfl | rfl
                · exact ⟨pz, j, cz, P, fun _ => n, Cp, RR, (hb.out.cell (p := ⟨gy, 0, none⟩) hgy).trans HE0.out, HM3.out.below hb.out (Nat.le_refl _), by omega, fun i hi => by show n ≤ _; omega⟩
                · exact ⟨aL, nL, cL, PL, LL0, CL, RL, (hb.out.cell (p := ⟨gy, 1, none⟩) hgy).trans HE1.out, HM4.out.below hb.out (Nat.le_refl _), hc2, HLS.out⟩
              have hsy := hb.out.size
              have HB7 : Hid (Below wr.heap.size wr (wr.alloc (.cells #[.int .i64 most, .int .i64 m30] 3))) := (Below.refl _ _).alloc (Nat.le_refl _) _
              have HK5 := Lib.hid ((HK3.out.below hb.out (Nat.le_refl _)).below HB7.out (Nat.le_refl _))
              have HM5 := Lib.hid (hll.out.below HB7.out (Nat.le_refl _))
              have HBY : Hid (Below w6.heap.size w6 (wr.alloc (.cells #[.int .i64 most, .int .i64 m30] 3))) := hb.out.trans (HB7.out.mono hsy)
              have HF0 : Hid ((wr.alloc (.cells #[.int .i64 most, .int .i64 m30] 3)).cell? ⟨wr.heap.size, 0, none⟩ = some (.int .i64 most)) := by show _ = _; simp
              have HF1 : Hid ((wr.alloc (.cells #[.int .i64 most, .int .i64 m30] 3)).cell? ⟨wr.heap.size, 1, none⟩ = some (.int .i64 m30)) := by show _ = _; simp
              have hgz : wr.heap.size < (wr.alloc (.cells #[.int .i64 most, .int .i64 m30] 3)).heap.size := by simp
              clear hb hll HB7
              go_wp2_with (go_at_call 26; refine (HMD.out _).mono ?_; rintro e w' ⟨rfl, rfl⟩)
              clear tt
              generalize wr.alloc (.cells #[.int .i64 most, .int .i64 m30] 3) = w7 at *
              generalize wr.heap.size = gz at *
              go_loopw [79] (fun y wr => ∃ x : Nat, x ≤ 2 ∧ y = .int .i64 x ∧ Hid (Below w7.heap.size w7 wr)) (fun y _ => 2 - (intOf y).toNat)
              case atStart => exact ⟨0, by omega, rfl, Below.refl _ _⟩
              case round =>
                obtain ⟨v, hv2, rfl, hb⟩ := hrel
                by_cases hlt4 : v < 2
                · have hvi : (v : Int) < 2 := by omega
                  obtain ⟨zz, tt⟩ : ∃ zz : Int, wr.cell? ⟨gz, v, none⟩ = some (.int .i64 zz) := by
                    have hc : v = 0 ∨ v = 1 := by omega
                    rcases hc with rfl | rfl
                    · exact ⟨most, (hb.out.cell (p := ⟨gz, 0, none⟩) hgz).trans HF0.out⟩
                    · exact ⟨m30, (hb.out.cell (p := ⟨gz, 1, none⟩) hgz).trans HF1.out⟩
                  have hsz := hb.out.size
                  have HCA : Hid (∀ W, Below wr.heap.size wr W → Calls Try.prog 29 #[.slice qq nn dd, .slice pp mm cc, .int .i64 zz] W (CoP (coE KK R2 LN nn mm zz) (coN KK R2 LN nn mm zz) (coA KK R2 mm) (coB KK R2 mm) (coO KK R2 mm zz) W)) := fun W hW => com_any qq pp nn mm dd cc zz PP LN CP R2 KK W (HM5.out.below (hb.out.trans (hW.mono hsz)) (Nat.le_refl _)) (HK5.out.below (hb.out.trans (hW.mono hsz)) (Nat.le_refl _)) (by omega) (by omega) hln.out
                  have HCR : Hid (∀ W, Below wr.heap.size wr W → Calls Try.prog 30 #[.slice qq nn dd, .slice pp mm cc, .int .i64 zz] W (CoP (coE KK R2 LN nn mm zz) (coN KK R2 LN nn mm zz) (coA KK R2 mm) (coB KK R2 mm) (coO KK R2 mm zz) W)) := fun W hW => rco_any qq pp nn mm dd cc zz PP LN CP R2 KK W (HM5.out.below (hb.out.trans (hW.mono hsz)) (Nat.le_refl _)) (HK5.out.below (hb.out.trans (hW.mono hsz)) (Nat.le_refl _)) (by omega) (by omega) hln.out
                  have hcn : coN KK R2 LN nn mm zz ≤ 17592186044416 := cn_le hln.out
                  generalize coE KK R2 LN nn mm zz = E at *
                  generalize coN KK R2 LN nn mm zz = N at *
                  generalize coA KK R2 mm = A at *
                  generalize coB KK R2 mm = B at *
                  generalize coO KK R2 mm zz = O at *
                  have hEE : (E != E) = false := by simp
                  go_wp2_with (first
                    | (go_at_call 29; refine (HCA.out _ (Below.refl _ _)).mono ?_; rintro e w8 ⟨y1, b1, y2, b2, y3, b3, rfl, ha, hb', ho, hb8⟩; have HB8 := Lib.hid hb8; have HA8 := Lib.hid ha; have HB88 := Lib.hid hb'; have HO8 := Lib.hid ho; clear ha hb' ho hb8 HCA)
                    | (go_at_call 30; refine (HCR.out _ HB8.out).mono ?_; rintro e w9 ⟨z1, d1, z2, d2, z3, d3, rfl, ha, hb', ho, hb9⟩; have HB9 : Hid (Below wr.heap.size wr w9) := HB8.out.trans (hb9.mono HB8.out.size); have HA9 := Lib.hid (RdV.below (C := iC A) HA8.out hb9 (Nat.le_refl _)); have HB99 := Lib.hid (RdV.below (C := bC B) HB88.out hb9 (Nat.le_refl _)); have HO9 := Lib.hid (RdV.below (C := iC O) HO8.out hb9 (Nat.le_refl _)); have HA10 := Lib.hid ha; have HB10 := Lib.hid hb'; have HO10 := Lib.hid ho; clear ha hb' ho hb9 HCR HA8 HB88 HO8)
                    | (go_at_call 17; first
                      | (refine (same_t y1 z1 N b1 d1 A _ (by omega) HA9.out HA10.out).mono ?_; rintro e w11 ⟨rfl, hb11⟩; have HB11 := Lib.hid hb11; clear hb11 HA9 HA10)
                      | (refine (same_t y3 z3 N b3 d3 O _ (by omega) (RdV.below (C := iC O) HO9.out HB12.out (Nat.le_refl _)) (RdV.below (C := iC O) HO10.out HB12.out (Nat.le_refl _))).mono ?_; rintro e w13 ⟨rfl, hb13⟩; have HB13 : Hid (Below wr.heap.size wr w13) := HB9.out.trans ((HB12.out.trans (hb13.mono HB12.out.size)).mono HB9.out.size); clear hb13))
                    | (go_at_call 31; refine (sameb_t y2 z2 N b2 d2 B _ (by omega) (RdV.below (C := bC B) HB99.out HB11.out (Nat.le_refl _)) (RdV.below (C := bC B) HB10.out HB11.out (Nat.le_refl _))).mono ?_; rintro e w12 ⟨rfl, hb12⟩; have HB12 : Hid (Below w9.heap.size w9 w12) := HB11.out.trans (hb12.mono HB11.out.size); clear hb12))
                  have HBF : Hid (Below w7.heap.size w7 _) := hb.out.trans (HB13.out.mono hsz)
                  go_roundw
                  case rel => exact ⟨v + 1, by omega, by go_num, HBF⟩
                  case measure => simp [intOf]; omega
                · obtain rfl : v = 2 := by omega
                  have HBF : Hid (Below w6.heap.size w6 wr) := HBY.out.trans (hb.out.mono HBY.out.size)
                  go_wp2_with fail
                  go_roundw
                  case rel => exact ⟨y + 1, by omega, by go_num, HBF⟩
                  case measure => simp [intOf]; omega
            · obtain rfl : y = 2 := by omega
              have HBF : Hid (Below w5.heap.size w5 wr) := HBX.out.trans (hb.out.mono HBX.out.size)
              go_wp2_with fail
              go_roundw
              case rel => exact ⟨x + 1, by omega, by go_num, HBF⟩
              case measure => simp [intOf]; omega
        · obtain rfl : x = 2 := by omega
          have HBF : Hid (Below w.heap.size w wr) := HBW.out.trans (hb.out.mono HBW.out.size)
          go_wp2_with (go_at_call 20; refine (awake_any _).mono ?_; rintro e w14 ⟨rfl, hb14⟩; have HB14 : Hid (Below w.heap.size w w14) := HBF.out.trans (hb14.mono HBF.out.size); clear hb14)
          go_ret
          exact ⟨rfl, HB14.out⟩
end Go.Proofs.Ytkflgiopkopeeaa.Ql

/-
  QualityDrifts: the walk.
-/
import Derived.Test.YtkflgiopkopeeaaQlGoo
import Derived.Test.YtkflgiopkopeeaaQlAwk
import Derived.Test.YtkflgiopkopeeaaQlDri
namespace Go.Proofs.Ytkflgiopkopeeaa.Ql
open Go.ChangeShapes Go.WideShapes Go.ChangeAt Go.RowKit
open Go.Proofs.Ytkflgiopkopeeaa.Ca (inB inB_yes inB_no Rd)
open Go.Proofs.Ytkflgiopkopeeaa.Cu (grown_below grown_own grown_trans grown_refl updF updF_same updF_other Dk next_any new_any md md_lo md_hi mod_any)
set_option linter.unusedVariables false

theorem drifts {V : Nat → Int} {G : Nat → Bool} {n : Nat} {d : Int} (hd : 0 ≤ d ∧ d ≤ 39) (hv : ∀ i, i < n → 0 ≤ V i ∧ V i ≤ 59) :
    dvE V (fun i => V i + d) n n n = 0 ∧ dvE (fun i => V i + d) V n n n = 0 ∧ dvB V (fun i => V i + d) G n n n = drB G n ∧ dvB (fun i => V i + d) V G n n n = drB G n ∧ (drB G n = true → dvI V (fun i => V i + d) G n n n = d ∧ dvI (fun i => V i + d) V G n n n = -d) ∧ (drB G n = false → dvI V (fun i => V i + d) G n n n = 0 ∧ dvI (fun i => V i + d) V G n n n = 0) := by
  have h1 : alF V n = true := alF_of (fun i hi => by have := hv i hi; omega)
  have h2 : alF (fun i => V i + d) n = true := alF_of (fun i hi => by have := hv i hi; show 0 ≤ V i + d ∧ V i + d ≤ _; omega)
  have g1 : dvG V (fun i => V i + d) n n n = true := by unfold dvG; rw [h1, h2]; simp
  have g2 : dvG (fun i => V i + d) V n n n = true := by unfold dvG; rw [h1, h2]; simp
  refine ⟨by unfold dvE; rw [if_pos ⟨rfl, rfl⟩, h1, h2]; rfl, by unfold dvE; rw [if_pos ⟨rfl, rfl⟩, h1, h2]; rfl, by unfold dvB; rw [if_pos g1], by unfold dvB; rw [if_pos g2], fun h => ?_, fun h => ?_⟩
  · have hc : ctD G n ≠ 0 := by unfold drB at h; simpa using h
    unfold dvI
    rw [if_pos g1, if_pos g2]
    exact ⟨dr_off (fun i _ => by show V i + d - V i = d; omega) hc, dr_off (fun i _ => by show V i - (V i + d) = -d; omega) hc⟩
  · have hc : ctD G n = 0 := by unfold drB at h; simpa using h
    unfold dvI
    rw [if_pos g1, if_pos g2]
    exact ⟨(dr_zero hc).1, (dr_zero hc).1⟩
/-- Is one of the first k good? -/
def soB (G : Nat → Bool) : Nat → Bool
  | 0 => false
  | k + 1 => soB G k || G k
theorem so_ct (G : Nat → Bool) : ∀ k, drB G k = soB G k
  | 0 => rfl
  | k + 1 => by
    have ih := so_ct G k
    have hb := ct_bd G k
    unfold drB at ih ⊢
    unfold soB
    rw [← ih]
    cases h : G k
    · rw [ct_no h]; simp
    · rw [ct_yes h]; simp; omega
set_option maxRecDepth 100000 in
set_option maxHeartbeats 4000000 in
theorem dr_walk (a0 : Option Addr) (len0 cap0 : Nat) (z : Nat → Int) (by_ : Int) (w : World) (hn : len0 ≤ 9223372036854775807) (hz : ∀ i, -9223372036854775808 ≤ z i ∧ z i ≤ 9223372036854775807) (hr : Rd w a0 len0 z) (hby : -9223372036854775808 ≤ by_ ∧ by_ ≤ 9223372036854775807) :
    Calls Try.prog 9 #[.slice a0 len0 cap0, .int .i64 by_] w fun e w' => e = .returned (.bool true) ∧ Below w.heap.size w w' := by
  obtain ⟨i0, hi, hz0, hz1, hz2⟩ := info_parts Try.infoI
  have HR := Lib.hid hr
  have HZ := Lib.hid hz
  have HMD := Lib.hid (fun W => mod_any by_ 40 W hby (by omega) (by omega))
  have hm0 := md_lo by_ 40 (by omega)
  have hm1 := md_hi by_ 40 (by omega)
  generalize md by_ 40 = d at *
  clear hr hz hby
  go_enter Try.func9, Try.ntmps9
  go_wp2_with (first
    | (go_at_call 11; refine (new_any a0 len0 cap0 z w hn HZ.out HR.out).mono ?_; rintro e w1 ⟨rfl, hd1, hb1⟩; have HD1 := Lib.hid hd1; have HB1 := Lib.hid hb1; clear hd1 hb1)
    | (go_at_call 21; refine (goods_any w.heap.size a0 len0 cap0 z 12 w1 HD1.out (by omega)).mono ?_; rintro e w2 ⟨u1, u2, n, V, G, rfl, hn12, hgw⟩; obtain ⟨p1, c1, rfl, hr1, _⟩ := own_rd hgw.o1; obtain ⟨p2, c2, rfl, hr2, _⟩ := own_rd hgw.o2; have HB2 : Hid (Below w.heap.size w w2) := below_grown HB1.out (Nat.le_refl _) hgw.gr (Nat.le_refl _); have HR1 : Hid (Rd w2 p1 n V) := hr1; have HR2 : Hid (RdL w2 p2 n G) := hr2; have HBD := Lib.hid hgw.bd; clear hgw hr1 hr2)
    | (go_at_call 26; refine (HMD.out _).mono ?_; rintro e w' ⟨rfl, rfl⟩))
  clear HD1 HB1 HZ HR HMD
  have hni : (n : Int) ≤ 12 := by omega
  have hs2 := HB2.out.size
  go_loopw [9, 10, 30] (fun s9 s10 i wr => ∃ (j : Nat) (v0 : Value), v0 = s9 ∧ j ≤ n ∧ i = .int .i64 j ∧ s10 = .bool (soB G j) ∧ Hid (Own 3 wr w2.heap.size v0 j (iC (fun i => V i + d))) ∧ Hid (Below w2.heap.size w2 wr)) (fun _ _ i _ => n - (intOf i).toNat)
  case atStart => exact ⟨0, _, rfl, Nat.zero_le _, rfl, rfl, own_nil _ _ _ _, Below.refl _ _⟩
  case round =>
    obtain ⟨j, v, rfl, hj, rfl, rfl, hv, hb⟩ := hrel
    by_cases hlt : j < n
    · obtain ⟨b1, o1, rfl, l1, d1⟩ := (RdV.below (C := iC V) HR1.out hb.out (Nat.le_refl _)) (by omega)
      obtain ⟨b2, o2, rfl, l2, d2⟩ := (HR2.out.below hb.out (Nat.le_refl _)) (by omega)
      have e1 : wr.cell? ⟨b1, o1 + j, none⟩ = some (.int .i64 (V j)) := d1 j hlt
      have e2 := d2 j hlt
      have hws := hb.out.size
      have hjn : (j : Int) < (n : Int) := by omega
      have hvj := HBD.out j hlt
      have HS : Hid (soB G (j + 1) = (soB G j || G j)) := rfl
      have HX : Hid (Value.int .i64 (V j + d) = iC (fun i => V i + d) j) := rfl
      have HF2 : Hid (∀ o, (wr.alloc o).cell? ⟨b2, o2 + j, none⟩ = some (.bool (G j))) := fun o => (((Below.refl wr.heap.size wr).alloc (Nat.le_refl _) o).cell (p := ⟨b2, o2 + j, none⟩) l2).trans e2
      have HOB : Hid (∀ k, v.ownBlock = some k → w2.heap.size ≤ k) := own_block hv.out
      have hb2 : b2 < w2.heap.size := by
        obtain ⟨b9, o9, e9, l9, _⟩ := HR2.out (by omega)
        cases e9; exact l9
      clear d1 d2
      generalize V j = vj at *
      generalize G j = gj at *
      generalize soB G j = sj at *
      go_wp2_with (at_builtin; refine wpList_append_own _ rfl _ _ 26 rfl w2.heap.size 3 i0 (.int .i64 0) 1 8 Try.underlying26 hi hz0 hz1 hz2 rfl (by decide) _ _ _ rfl (own_up hv.out ((Below.refl _ _).alloc (Nat.le_refl _) _)) ⟨wr.heap.size, 0, none⟩ 1 1 [.int .i64 (vj + d)] rfl rfl (cell_one _ _ _) (by intro u hu; simp at hu; subst hu; rfl) (by unfold maxLen; omega) (by omega) (by simp; omega) ?_; intro v' w9 hown' hgrow hnil; have e3 : w9.cell? ⟨b2, o2 + j, none⟩ = some (.bool gj) := hgrow.cell (HF2.out _) (by intro e; have h9 := HOB.out _ e.symm; change w2.heap.size ≤ b2 at h9; omega); have HO9 := Lib.hid (own_next hown' (fun _ _ => rfl) HX.out); have HB9 : Hid (Below w2.heap.size w2 w9) := Gg.below_own ((hb.out).alloc hws _) (Nat.le_refl _) hgrow HOB.out; clear hown' hgrow hnil)
      all_goals
        refine ⟨⟨j + 1, _, rfl, by omega, by go_num, by rw [HS.out]; first | rfl | simp_all, HO9, HB9⟩, ?_⟩
        simp [intOf]
        omega
    · obtain rfl : j = n := by omega
      obtain ⟨p3, c3, rfl, hr3, _⟩ := own_rd hv.out
      have HA1 : Hid (Rd wr p1 j V) := RdV.below (C := iC V) HR1.out hb.out (Nat.le_refl _)
      have HA2 : Hid (RdL wr p2 j G) := HR2.out.below hb.out (Nat.le_refl _)
      have HA3 : Hid (Rd wr p3 j (fun i => V i + d)) := hr3
      have HBW : Hid (Below w.heap.size w wr) := HB2.out.trans (hb.out.mono hs2)
      obtain ⟨k1, k2, k3, k4, k5, k6⟩ := drifts (V := V) (G := G) (n := j) (d := d) (by omega) HBD.out
      rw [so_ct] at k3 k4 k5 k6
      have HC1 := Lib.hid (fun W h1 h2 h3 => pdr_any p1 p3 p2 j j j c1 c3 c2 V (fun i => V i + d) G W (by omega) (by omega) (by omega) h1 h3 h2)
      have HC2 := Lib.hid (fun W h1 h2 h3 => pdr_any p3 p1 p2 j j j c3 c1 c2 (fun i => V i + d) V G W (by omega) (by omega) (by omega) h3 h1 h2)
      rw [k1, k3] at HC1
      rw [k2, k4] at HC2
      clear k1 k2 k3 k4 hr3
      cases hso : soB G j with
      | true =>
        rw [hso] at HC1 HC2
        rw [(k5 hso).1] at HC1
        rw [(k5 hso).2] at HC2
        have en : IntKind.i64.wrap (-d) = -d := by rw [IntKind.wrap_i64]; omega
        clear k5 k6 hso
        go_wp2_with (first
          | (go_at_call 27; first
            | (refine (HC1.out _ HA1.out HA2.out HA3.out).mono ?_; rintro e w5 ⟨rfl, hb5⟩; have HB5 := Lib.hid (HBW.out.trans (hb5.mono HBW.out.size)); have HE1 : Hid (Rd w5 p1 j V) := RdV.below (C := iC V) HA1.out hb5 (Nat.le_refl _); have HE2 : Hid (RdL w5 p2 j G) := HA2.out.below hb5 (Nat.le_refl _); have HE3 : Hid (Rd w5 p3 j (fun i => V i + d)) := RdV.below (C := iC (fun i => V i + d)) HA3.out hb5 (Nat.le_refl _); clear HC1 hb5)
            | (refine (HC2.out _ HE1.out HE2.out HE3.out).mono ?_; rintro e w6 ⟨rfl, hb6⟩; have HB6 := Lib.hid (HB5.out.trans (hb6.mono HB5.out.size)); clear HC2 hb6))
          | (go_at_call 20; refine (awake_any _).mono ?_; rintro e w7 ⟨rfl, hb7⟩; have HB7 : Hid (Below w.heap.size w w7) := HB6.out.trans (hb7.mono HB6.out.size); clear hb7))
        go_ret
        exact ⟨rfl, HB7.out⟩
      | false =>
        rw [hso] at HC1 HC2
        rw [(k6 hso).1] at HC1
        rw [(k6 hso).2] at HC2
        have en : IntKind.i64.wrap (-d) = -d := by rw [IntKind.wrap_i64]; omega
        clear k5 k6 hso
        go_wp2_with (first
          | (go_at_call 27; first
            | (refine (HC1.out _ HA1.out HA2.out HA3.out).mono ?_; rintro e w5 ⟨rfl, hb5⟩; have HB5 := Lib.hid (HBW.out.trans (hb5.mono HBW.out.size)); have HE1 : Hid (Rd w5 p1 j V) := RdV.below (C := iC V) HA1.out hb5 (Nat.le_refl _); have HE2 : Hid (RdL w5 p2 j G) := HA2.out.below hb5 (Nat.le_refl _); have HE3 : Hid (Rd w5 p3 j (fun i => V i + d)) := RdV.below (C := iC (fun i => V i + d)) HA3.out hb5 (Nat.le_refl _); clear HC1 hb5)
            | (refine (HC2.out _ HE1.out HE2.out HE3.out).mono ?_; rintro e w6 ⟨rfl, hb6⟩; have HB6 := Lib.hid (HB5.out.trans (hb6.mono HB5.out.size)); clear HC2 hb6))
          | (go_at_call 20; refine (awake_any _).mono ?_; rintro e w7 ⟨rfl, hb7⟩; have HB7 : Hid (Below w.heap.size w w7) := HB6.out.trans (hb7.mono HB6.out.size); clear hb7))
        go_ret
        exact ⟨rfl, HB7.out⟩
end Go.Proofs.Ytkflgiopkopeeaa.Ql

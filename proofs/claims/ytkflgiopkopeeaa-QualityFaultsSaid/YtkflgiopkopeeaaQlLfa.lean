/-
  QualityFaults: the walk.
-/
import Derived.Test.YtkflgiopkopeeaaQlFm
import Derived.Test.YtkflgiopkopeeaaQlAwk
namespace Go.Proofs.Ytkflgiopkopeeaa.Ql
open Go.ChangeShapes Go.WideShapes Go.ChangeAt Go.RowKit
open Go.Proofs.Ytkflgiopkopeeaa.Ca (inB inB_yes inB_no Rd)
open Go.Proofs.Ytkflgiopkopeeaa.Cu (grown_below grown_own grown_trans grown_refl updF updF_same updF_other Dk next_any new_any md md_lo md_hi mod_any)
open Go.Proofs.Ytkflgiopkopeeaa.Gg (GotR gotR_nil gotR_rs gotR_block rsL rsL_len rsL_one RdR Rs updR mkR)
set_option linter.unusedVariables false

/-- The changed list, read. -/
theorem bad_rs {w : World} {g k t : Nat} {R : Nat → Nat → Int} (h : Rs w g 0 k R) (ht : t < k) : Rs (w.setCell ⟨g, t * 4 + 2, none⟩ (.int .i64 9)) g 0 k (bdR R t) := by
  refine ⟨by simpa using h.1, fun i hi j hj => ?_⟩
  rw [Nat.zero_add]
  have h0 := h.2 i hi j hj
  rw [Nat.zero_add] at h0
  by_cases e : i = t ∧ j = 2
  · obtain ⟨rfl, rfl⟩ := e
    rw [bd_at]
    exact World.cell?_setCell_same _ _ _ h0
  · have e2 : bdR R t i j = R i j := if_neg e
    rw [e2]
    exact (World.cell?_setCell_other _ _ _ _ (by intro e3; simp only [Addr.mk.injEq] at e3; omega)).trans h0
theorem md_small {a k : Int} (h : 1 ≤ k) : 0 ≤ md a k ∧ md a k < k := ⟨md_lo a k (by omega), md_hi a k (by omega)⟩
set_option maxRecDepth 100000 in
set_option maxHeartbeats 4000000 in
theorem fa_walk (a0 : Option Addr) (len0 cap0 : Nat) (z : Nat → Int) (at_ : Int) (w : World) (hn : len0 ≤ 9223372036854775807) (hz : ∀ i, -9223372036854775808 ≤ z i ∧ z i ≤ 9223372036854775807) (hr : Rd w a0 len0 z) (hby : -9223372036854775808 ≤ at_ ∧ at_ ≤ 9223372036854775807) :
    Calls Try.prog 8 #[.slice a0 len0 cap0, .int .i64 at_] w fun e w' => e = .returned (.bool true) ∧ Below w.heap.size w w' := by
  obtain ⟨i0, hi, hz0, hz1, hz2⟩ := info_parts Gg.Try.infoR
  have HR := Lib.hid hr
  have HZ := Lib.hid hz
  have HAT := Lib.hid hby
  clear hr hz hby
  go_enter Try.func8, Try.ntmps8
  go_wp2_with (go_at_call 11; refine (new_any a0 len0 cap0 z w hn HZ.out HR.out).mono ?_; rintro e w1 ⟨rfl, hd1, hb1⟩; have HB1 : Hid (Below w.heap.size w (w1.alloc (.cells #[.int .i64 10, .int .i64 200, .int .i64 5, .int .i64 0] 23))) := hb1.alloc hb1.size _; have HS1 : Hid (Sw (w1.alloc (.cells #[.int .i64 10, .int .i64 200, .int .i64 5, .int .i64 0] 23)) w.heap.size a0 len0 cap0 z (.slice none 0 0) 0 (fun _ _ => 0) (w1.alloc (.cells #[.int .i64 10, .int .i64 200, .int .i64 5, .int .i64 0] 23))) := ⟨(hd1.alloc _).lt, hd1.alloc _, gotR_nil _ _ _, grown_refl _ _⟩; have HC1 : Hid (C4 (w1.alloc (.cells #[.int .i64 10, .int .i64 200, .int .i64 5, .int .i64 0] 23)) w1.heap.size 10 200 5 0 ∧ w.heap.size < w1.heap.size ∧ w1.heap.size < (w1.alloc (.cells #[.int .i64 10, .int .i64 200, .int .i64 5, .int .i64 0] 23)).heap.size) := ⟨⟨by simp, by simp, by simp, by simp⟩, hd1.lt, by simp⟩; clear hd1 hb1)
  generalize w1.alloc (.cells #[.int .i64 10, .int .i64 200, .int .i64 5, .int .i64 0] 23) = w2 at *
  generalize w1.heap.size = kc at *
  clear HR HZ
  have HF0 : Hid (Fr (fun _ _ => 0) 0 100) := ⟨fun i hi => absurd hi (Nat.not_lt_zero _), fun i hi => absurd hi (Nat.not_lt_zero _), fun _ => rfl, fun i e => absurd e (Nat.succ_ne_zero i)⟩
  go_loopw [7, 8, 9] (fun s7 s8 s9 wr => ∃ (k : Nat) (v : Value) (x : Int) (R : Nat → Nat → Int), v = s7 ∧ s8 = .int .i64 x ∧ s9 = .int .i64 k ∧ k ≤ 15 ∧ (25 ≤ x ∧ x ≤ 175) ∧ Hid (Fr R k x) ∧ Hid (Sw w2 w.heap.size a0 len0 cap0 z v k R wr)) (fun _ _ s9 _ => 15 - (intOf s9).toNat)
  case atStart => exact ⟨0, _, 100, _, rfl, rfl, rfl, by omega, by omega, HF0, HS1⟩
  case round =>
    clear HF0 HS1
    obtain ⟨k, v, x, R, rfl, rfl, rfl, hk, ⟨hx0, hx1⟩, hfr, hsw⟩ := hrel
    have hki : (k : Int) ≤ 15 := by omega
    have hws := hsw.out.gr.size
    have hkc : kc < w2.heap.size := HC1.out.2.2
    go_wp2_with (first
      | (go_at_call_has 14 (Value.int .i64 14); refine (next_any w.heap.size a0 len0 cap0 z _ _ hsw.out.dk (by omega)).mono ?_; rintro e w3 ⟨a, rfl, ha0, ha1, hd3, hg3⟩; have H3 := Lib.hid (hsw.out.turn hd3 hg3); have hs3 := Nat.le_trans hws hg3.size; have hc4 : C4 w3 kc 10 200 5 0 := HC1.out.1.grown H3.out.gr (by intro e; have e2 : kc = w.heap.size := Option.some.inj e; have := HC1.out.2.1; omega); obtain ⟨k0, k1, k2, k3⟩ := hc4; clear hd3 hg3)
      | (go_at_call_has 14 (Value.int .i64 11); refine (next_any w.heap.size a0 len0 cap0 z _ _ H3.out.dk (by omega)).mono ?_; rintro e w4 ⟨b, rfl, hb0, hb1, hd4, hg4⟩; have H4 := Lib.hid ((H3.out.turn hd4 hg4).alloc (.cells #[.int .i64 0, .int .i64 k, .int .i64 (x + (b - 5)), .int .i64 0] 25)); have hs4 := Nat.le_trans hs3 hg4.size; clear hd4 hg4)
      | (at_builtin; first
        | (refine wpList_append_own _ rfl _ _ 30 rfl w2.heap.size 25 i0 (.agg #[.int .i64 0, .int .i64 0, .int .i64 0, .int .i64 0]) 4 32 Try.underlying30 hi hz0 hz1 hz2 rfl (by decide) v k _ rfl H4.out.o ⟨w4.heap.size, 0, none⟩ 1 1 [.int .i64 0, .int .i64 k, .int .i64 (x + (b - 5)), .int .i64 0] rfl rfl (Gg.cell_fourN _ _ rfl _ _ _ _ _) (by intro u hu; simp at hu; rcases hu with rfl | rfl | rfl | rfl <;> rfl) (by unfold maxLen; omega) (by omega) (by simp; omega) ?_; intro v' w9 hown' hgrow hnil; have H9 := Lib.hid (H4.out.app hown' hgrow); have HN9 := Lib.hid (hfr.out.next (y := x + (b - 5)) (by omega) (by omega)); clear hown' hgrow hnil)))
    · have hg9 := HN9.out.g k (by omega)
      have hl9 := HN9.out.l k rfl
      refine ⟨⟨k + 1, _, _, _, rfl, rfl, by go_num, by omega, by omega, HN9, H9⟩, ?_⟩
      simp [intOf]
      omega
    · have hk2 : 2 ≤ k := by omega
      obtain ⟨g, cap, rfl, hbg, hrs, hcap, _⟩ := gotR_rs H3.out.o (by omega)
      have HRS := Lib.hid hrs
      have HE1 : Hid (vdE 10 200 5 0 R k = 0 ∧ vdN 10 200 5 0 R k = k) := fr_E hfr.out (by omega)
      have HE2 : Hid (∀ t, vdE 10 200 5 0 (bdR R t) k = 0 ∧ vdN 10 200 5 0 (bdR R t) k = k) := fun t => bd_E hfr.out (by omega)
      have HGD : Hid (∀ i, i < k → vrI 10 200 5 0 R i = 1) := fun i hi => (fr_good hfr.out (by omega) i hi).1
      have HBA : Hid (∀ t, 1 ≤ t → t < k → ∀ i, i < k → (i ≠ t → vrI 10 200 5 0 (bdR R t) i = 1) ∧ (i = t → vrI 10 200 5 0 (bdR R t) i = 3)) := fun t h1 h2 i hi => ⟨(fr_bad hfr.out (by omega) h1 h2 i hi).1, (fr_bad hfr.out (by omega) h1 h2 i hi).2.1⟩
      have HBW : Hid (Below w.heap.size w w3) := below_grown HB1.out (Nat.le_refl _) H3.out.gr (Nat.le_refl _)
      have hcap2 : (k : Int) ≤ (cap : Int) := by omega
      obtain ⟨q, hq⟩ : ∃ q : Nat, md at_ ((k : Int) - 1) = (q : Int) := ⟨(md at_ ((k : Int) - 1)).toNat, by have := md_small (a := at_) (k := (k : Int) - 1) (by omega); omega⟩
      have hqk : 1 + q < k := by have := md_small (a := at_) (k := (k : Int) - 1) (by omega); omega
      have HMD : Hid (∀ W, Calls Try.prog 26 #[.int .i64 at_, .int .i64 ((k : Int) - 1)] W fun e w' => e = .returned (.int .i64 (q : Int)) ∧ W = w') := fun W => by
        have := mod_any at_ ((k : Int) - 1) W HAT.out (by omega) (by omega)
        rw [hq] at this
        exact this
      have hqi : (1 : Int) + (q : Int) < (k : Int) := by omega
      have hs3g := H3.out.o.lt
      have hg3 : g < w3.heap.size := hrs.1
      have hkg : kc < g := by omega
      clear hsw hfr hq hrs hs3g
      go_wp2_with (first
        | (go_at_call 26; refine (HMD.out _).mono ?_; rintro e w' ⟨rfl, rfl⟩)
        | (go_at_call 15; first
          | (refine (pvd_any 10 200 5 0 (some ⟨g6, 0, none⟩) k cap6 (bdR R (1 + q)) _ (fun _ => ⟨g6, 0, rfl, HR7.out⟩) (by omega)).mono ?_; rintro e w8 ⟨p2, d2, rfl, hr2, _, hb8⟩; rw [(HE2.out (1 + q)).1, (HE2.out (1 + q)).2]; rw [(HE2.out (1 + q)).2] at hr2; have HB8 : Hid (Below w.heap.size w w8) := HB7.out.trans (hb8.mono HB7.out.size); have HP2 : Hid (Rd w8 p2 k (vrI 10 200 5 0 (bdR R (1 + q)))) := hr2; have HP1 : Hid (Rd w8 p1 k (vrI 10 200 5 0 R)) := RdV.below (C := iC (vrI 10 200 5 0 R)) HQ7.out hb8 (Nat.le_refl _); clear hr2 hb8)
          | (refine (pvd_any 10 200 5 0 (some ⟨g, 0, none⟩) k cap R _ (fun _ => ⟨g, 0, rfl, HRS.out⟩) (by omega)).mono ?_; rintro e w5 ⟨p1, d1, rfl, hr1, hpb, hb5⟩; rw [HE1.out.1, HE1.out.2]; rw [HE1.out.2] at hr1; have HB5 : Hid (Below w.heap.size w w5) := HBW.out.trans (hb5.mono HBW.out.size); have HQ5 := Lib.hid hr1; have HPB := Lib.hid hpb; have HR5 := Lib.hid (HRS.out.up hb5 (Nat.le_refl _)); have hs5 := hb5.size; have HK5 : Hid (C4 w5 kc 10 200 5 0) := C4.below ⟨k0, k1, k2, k3⟩ hb5 (by omega); clear hr1 hb5 hpb))
        | (at_builtin; refine wpList_append_own _ rfl _ _ 30 rfl w5.heap.size 25 i0 (.agg #[.int .i64 0, .int .i64 0, .int .i64 0, .int .i64 0]) 4 32 Try.underlying30 hi hz0 hz1 hz2 rfl (by decide) (.slice none 0 0) 0 [] rfl (World.ownsRow_nil _ _ _ _) ⟨g, 0, none⟩ k cap (rsL R k) rfl (rsL_len R k) (rs_news HR5.out) (rsL_one R k) (by unfold maxLen; omega) (by omega) (by simp) ?_; intro v6 w6 hown6 hgrow6 _; rw [Nat.zero_add, List.nil_append] at hown6; obtain ⟨g6, cap6, rfl, hbg6, hrs6, hcap6, hfz6⟩ := gotR_rs (R := R) hown6 (by omega); have hb6 : Below w5.heap.size w5 w6 := (Below.refl _ _).grown hgrow6 (Nat.le_refl _) (by intro k hk; cases hk); have e62 : w6.cell? ⟨g6, (1 + q) * 4 + 2, none⟩ = some (.int .i64 (R (1 + q) 2)) := (by have := hrs6.2 (1 + q) (by omega) 2 (by omega); rwa [Nat.zero_add] at this); have f62 := hfz6 ((1 + q) * 4 + 2); have HR7 := Lib.hid (bad_rs hrs6 hqk); have hB7 : Below w5.heap.size w5 (w6.setCell ⟨g6, (1 + q) * 4 + 2, none⟩ (.int .i64 9)) := hb6.setCell (p := ⟨g6, (1 + q) * 4 + 2, none⟩) hbg6 _; have HB7 : Hid (Below w.heap.size w (w6.setCell ⟨g6, (1 + q) * 4 + 2, none⟩ (.int .i64 9))) := HB5.out.trans (hB7.mono HB5.out.size); have HQ7 : Hid (Rd (w6.setCell ⟨g6, (1 + q) * 4 + 2, none⟩ (.int .i64 9)) p1 k (vrI 10 200 5 0 R)) := RdV.below (C := iC (vrI 10 200 5 0 R)) HQ5.out hB7 (Nat.le_refl _); obtain ⟨m0, m1, m2, m3⟩ := HK5.out.below hB7 (by omega); have hcap6i : (k : Int) ≤ (cap6 : Int) := (by omega); clear hown6 hgrow6 hrs6 hfz6 hb6 hB7))
      clear HRS HE1 HE2 HMD HB5 HQ5 HPB HR5 HK5 HR7 HQ7 HB7
      go_loop [84] (fun y => ∃ j : Nat, j ≤ k ∧ y = .int .i64 j) (fun y => k - (intOf y).toNat)
      case atStart => exact ⟨0, Nat.zero_le _, rfl⟩
      case round =>
        obtain ⟨j, hj, rfl⟩ := hrel
        by_cases hlt : j < k
        · obtain ⟨b1, o1, rfl, l1, t1⟩ := HP1.out (by omega)
          obtain ⟨b2, o2, rfl, l2, t2⟩ := HP2.out (by omega)
          have e1 := t1 j hlt
          have e2 := t2 j hlt
          rw [HGD.out j hlt] at e1
          have hjk : (j : Int) < (k : Int) := by omega
          have hba := HBA.out (1 + q) (by omega) hqk j hlt
          clear t1 t2
          by_cases hjq : j = 1 + q
          · rw [hba.2 hjq] at e2
            have g1 : ((j : Int) != 1 + (q : Int)) = false := by simp; omega
            have g2 : ((j : Int) == 1 + (q : Int)) = true := by simp; omega
            clear hba hjq
            go_wp2
            go_round
            case rel => exact ⟨j + 1, by omega, by go_num⟩
            case measure => simp [intOf]; omega
          · rw [hba.1 hjq] at e2
            have g1 : ((j : Int) != 1 + (q : Int)) = true := by simp; omega
            have g2 : ((j : Int) == 1 + (q : Int)) = false := by simp; omega
            clear hba hjq
            go_wp2
            go_round
            case rel => exact ⟨j + 1, by omega, by go_num⟩
            case measure => simp [intOf]; omega
        · obtain rfl : j = k := by omega
          go_wp2_with (go_at_call 20; refine (awake_any _).mono ?_; rintro e w9 ⟨rfl, hb9⟩; have HB9 : Hid (Below w.heap.size w w9) := HB8.out.trans (hb9.mono HB8.out.size); clear hb9)
          go_ret
          exact ⟨rfl, HB9.out⟩
end Go.Proofs.Ytkflgiopkopeeaa.Ql

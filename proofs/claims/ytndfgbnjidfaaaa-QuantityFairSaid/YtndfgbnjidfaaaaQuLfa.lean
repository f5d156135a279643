/-
  The walk of the law QuantityFair.
-/
import Derived.Test.YtndfgbnjidfaaaaQuLsc
namespace Go.Proofs.Ytndfgbnjidfaaaa.Qu
open Go.ChangeShapes Go.WideShapes Go.ChangeAt Go.RowKit
set_option linter.unusedVariables false

theorem sumZ_part (s : Nat → Int) (k : Nat) (h : ∀ i, i < k → 0 ≤ s i) : ∀ d j, j + d = k → 0 ≤ sumZ s j ∧ sumZ s j ≤ sumZ s k := by
  have h0 : ∀ j, j ≤ k → 0 ≤ sumZ s j := by
    intro j
    induction j with
    | zero => intro _; simp [sumZ]
    | succ j ih => intro hj; unfold sumZ; have := ih (by omega); have := h j (by omega); omega
  intro d
  induction d with
  | zero => intro j hj; obtain rfl : j = k := by omega
            exact ⟨h0 j (by omega), Int.le_refl _⟩
  | succ d ih =>
    intro j hj
    have h1 := ih (j + 1) (by omega)
    have h2 := h j (by omega)
    have h3 : sumZ s (j + 1) = sumZ s j + s j := rfl
    exact ⟨h0 j (by omega), by omega⟩

set_option maxRecDepth 100000 in
set_option maxHeartbeats 8000000 in
theorem lfa_walk (p : Option Addr) (n c : Nat) (z : Nat → Int) (am : Int) (w : World) (hr : Rd w p n z) (hn : n ≤ 9223372036854775807) (hz : ∀ i, -9223372036854775808 ≤ z i ∧ z i ≤ 9223372036854775807)
    (h1 : -9223372036854775808 ≤ am ∧ am ≤ 9223372036854775807) :
    Calls Try.prog 5 #[.slice p n c, .int .i64 am] w fun e w' => e = .returned (.bool true) ∧ Below w.heap.size w w' := by
  obtain ⟨i0, hi, hz0, hz1, hz2⟩ := info_parts Try.info3
  have HR := Lib.hid hr
  have HZ := Lib.hid hz
  have HF := Lib.hid (mdF_bd z 40 (by omega) (by omega))
  clear hr hz
  go_enter Try.func5, Try.ntmps5
  go_wp2
  go_loopw [5, 6, 7] (fun v s i wr => ∃ k : Nat, k ≤ 15 ∧ k ≤ n ∧ i = .int .i64 k ∧ s = .int .i64 (sumZ (mdF z 40) k) ∧ Hid (Got wr w.heap.size v k (mdF z 40)) ∧ Hid (Below w.heap.size w wr)) (fun _ _ i _ => 15 - (intOf i).toNat)
  case atStart => exact ⟨0, by omega, by omega, rfl, rfl, got_nil _ _ _, Below.refl _ _⟩
  case round =>
    obtain ⟨k, hkL, hkn, rfl, rfl, hgot, hbel⟩ := hrel
    have b1 := sumZ_bd (mdF z 40) k 10000 (fun i _ => HF.out i) k (Nat.le_refl _)
    have b2 : sumZ (mdF z 40) k ≤ 150000 := by omega
    have b3 := b1.1
    clear b1
    by_cases hgo : k < n ∧ k < 15
    · obtain ⟨hlt, hl2⟩ := hgo
      have e1 : decide ((k : Int) < (n : Int)) = true := by rw [decide_eq_true_eq]; omega
      obtain ⟨b, off, rfl, hb, hc⟩ := HR.out (by omega)
      have h5 : wr.cell? ⟨b, off + k, none⟩ = some (.int .i64 (z k)) := (hbel.out.cell (p := ⟨b, off + k, none⟩) hb).trans (hc k hlt)
      have h6 := HZ.out k
      have a1 := md_lo (z k) 40 (by omega)
      have a2 := md_hi (z k) 40 (by omega)
      obtain ⟨x, hx⟩ : ∃ x, x = mdF z 40 k := ⟨_, rfl⟩
      have HX := Lib.hid hx
      have HX2 := Lib.hid (show md (z k) 40 = x from hx.symm)
      have HS := Lib.hid (show sumZ (mdF z 40) (k + 1) = sumZ (mdF z 40) k + x by rw [hx]; rfl)
      have x1 : 0 ≤ x := by rw [hx]; exact a1
      have x2 : x ≤ 40 := by rw [hx]; exact Int.le_of_lt a2
      clear hx a1 a2 hc
      generalize sumZ (mdF z 40) k = s at *
      go_wp2_with (first | (go_at_call 9; refine (mod_any _ _ _ (by omega) (by omega) (by omega)).mono ?_; rintro e w' ⟨rfl, rfl⟩; rw [HX2.out]) | (at_builtin; refine wpList_append_own _ rfl _ _ 38 rfl w.heap.size 3 i0 (.int .i64 0) 1 8 Try.underlying38 hi hz0 hz1 hz2 rfl (by decide) _ k _ rfl (hgot.out.alloc _) ⟨wr.heap.size, 0, none⟩ 1 1 [.int .i64 x] rfl rfl ?c1 ?c2 ?c3 ?c4 ?c5 ?_))
      case c1 =>
        intro j u hj
        match j, hj with
        | 0, hj => simp at hj; subst hj; simp [Addr.add]
      case c2 => intro u hu; simp at hu; subst hu; rfl
      case c3 => unfold maxLen; omega
      case c4 => omega
      case c5 => have := hbel.out.size; simp; omega
      intro v' w2 hown' hgrow hnil
      obtain ⟨g, cap, rfl, hcell, hgot'⟩ := got_next hown' HX.out
      have HG := Lib.hid hgot'
      have HB := Lib.hid ((hbel.out.alloc hbel.out.size _).grown hgrow (by have := hbel.out.size; simp; omega) (fun k hk => got_block hgot.out k hk))
      clear hown' hgrow hnil hgot' hgot hbel h5
      go_wp2
      go_roundw
      case rel => exact ⟨k + 1, by omega, by omega, by go_num, by rw [HS.out], HG, HB⟩
      case measure => simp [intOf]; omega
    · have hex : (decide ((k : Int) < (n : Int)) = false ∧ (n : Int) ≤ (k : Int)) ∨ (decide ((k : Int) < (n : Int)) = true ∧ (k : Int) < (n : Int) ∧ (15 : Int) ≤ (k : Int) ∧ decide ((k : Int) < 15) = false) := by
        by_cases h : k < n
        · exact .inr ⟨by rw [decide_eq_true_eq]; omega, by omega, by omega, by rw [decide_eq_false_iff_not]; omega⟩
        · exact .inl ⟨by rw [decide_eq_false_iff_not]; omega, by omega⟩
      obtain ⟨q, cp, rfl, hrd⟩ := got_rd hgot.out
      have HRD := Lib.hid hrd
      have m1 := md_lo am 1000 (by omega)
      have m2 := md_hi am 1000 (by omega)
      have HM := Lib.hid (fun W => mod_any am 1000 W h1 (by omega) (by omega))
      clear hrd hgot hgo
      generalize md am 1000 = A at *
      have hsz := hbel.out.size
      have hk16 : (k : Int) ≤ 15 := by omega
      obtain ⟨cd, hcd⟩ : ∃ cd : Int, cd = if A = 0 then 0 else 2 := ⟨_, rfl⟩
      have HS := Lib.hid (fun (h : ¬ sumZ (mdF z 40) k = 0) => share_pos A q k cp (mdF z 40) wr (by omega) HRD.out (by omega) HF.out h)
      have HS0 := Lib.hid (fun (h : sumZ (mdF z 40) k = 0) => share_zer A q k cp (mdF z 40) wr (by omega) HRD.out (by omega) HF.out h cd hcd)
      by_cases hT : sumZ (mdF z 40) k = 0
      · have HS1 := Lib.hid (HS0.out hT)
        have hT' : (sumZ (mdF z 40) k == 0) = true := by simpa using hT
        clear hT HS HS0
        by_cases hA0 : A = 0
        · obtain rfl : cd = 0 := by rw [hcd, if_pos hA0]
          have dA : decide (0 < A) = false := by rw [decide_eq_false_iff_not]; omega
          clear hcd hA0
          rcases hex with ⟨e1, e3⟩ | ⟨e1, e3, e4, e2⟩
          all_goals
            go_wp2_with (first | (go_at_call 9; refine (HM.out _).mono ?_; rintro e w' ⟨rfl, rfl⟩) | (go_at_call 21; refine HS1.out.mono ?_; rintro e w3 ⟨p', m', c', rfl, hb3⟩) | (go_at_call 20; refine (awake_any _).mono ?_; rintro e w' ⟨rfl, hb4⟩))
            go_ret
            exact ⟨rfl, (hbel.out.trans (hb3.mono hsz)).trans (hb4.mono (Nat.le_trans hsz hb3.size))⟩
        · obtain rfl : cd = 2 := by rw [hcd, if_neg hA0]
          have dA : decide (0 < A) = true := by rw [decide_eq_true_eq]; omega
          clear hcd hA0
          rcases hex with ⟨e1, e3⟩ | ⟨e1, e3, e4, e2⟩
          all_goals
            go_wp2_with (first | (go_at_call 9; refine (HM.out _).mono ?_; rintro e w' ⟨rfl, rfl⟩) | (go_at_call 21; refine HS1.out.mono ?_; rintro e w3 ⟨p', m', c', rfl, hb3⟩) | (go_at_call 20; refine (awake_any _).mono ?_; rintro e w' ⟨rfl, hb4⟩))
            go_ret
            exact ⟨rfl, (hbel.out.trans (hb3.mono hsz)).trans (hb4.mono (Nat.le_trans hsz hb3.size))⟩
      · have HS1 := Lib.hid (HS.out hT)
        have hT' : (sumZ (mdF z 40) k == 0) = false := by simpa using hT
        have hTp : 0 < sumZ (mdF z 40) k := by omega
        have hk0 : 0 < k := by
          apply Classical.byContradiction
          intro h
          obtain rfl : k = 0 := by omega
          exact hT rfl
        have HFA := Lib.hid (share_fair (mdF z 40) A k hk0 hTp m1 (fun i _ => (HF.out i).1))
        have HPA := Lib.hid (fun j hj => sumZ_part (shVal A (mdF z 40) k) k HFA.out.pos (k - j) j hj)
        clear hT HS HS0 hcd
        generalize hTT : sumZ (mdF z 40) k = T at *
        have HTT := Lib.hid hTT
        clear hTT
        have d3 : ((k : Int) != (k : Int)) = false := by simp
        rcases hex with ⟨e1, e3⟩ | ⟨e1, e3, e4, e2⟩
        all_goals
          go_wp2_with (first | (go_at_call 9; refine (HM.out _).mono ?_; rintro e w' ⟨rfl, rfl⟩) | (go_at_call 21; refine HS1.out.mono ?_; rintro e w3 ⟨p', c', rfl, hr3, hb3⟩))
          have HB3 := Lib.hid (hbel.out.trans (hb3.mono hsz))
          have HRW := Lib.hid (HRD.out.below hb3 (Nat.le_refl _))
          have HR3 := Lib.hid hr3
          clear hb3 hr3 d3
          obtain ⟨b, off, rfl, _, hc⟩ := HRW.out hk0
          obtain ⟨b', off', rfl, _, hc'⟩ := HR3.out hk0
          have HC1 := Lib.hid hc
          have HC2 := Lib.hid hc'
          clear hc hc' HRW HR3
          go_loopw [11, 68] (fun al i wx => ∃ j : Nat, j ≤ k ∧ i = .int .i64 j ∧ al = .int .i64 (sumZ (shVal A (mdF z 40) k) j) ∧ Hid (∃ q, wx = w3.drewN q)) (fun _ i _ => k - (intOf i).toNat)
          case atStart => exact ⟨0, by omega, rfl, rfl, 0, rfl⟩
          case round =>
            obtain ⟨j, hj, rfl, rfl, hwx⟩ := hrel
            obtain ⟨q1, rfl⟩ := hwx.out
            have hpa := HPA.out j (by omega)
            have hAll := HFA.out.all
            by_cases hjk : j < k
            · have hpo := HFA.out.pos j hjk
              have hlo := HFA.out.lo j hjk
              have hhi := HFA.out.hi j hjk
              rw [HTT.out] at hlo hhi
              rw [hAll] at hpa
              have hpa2 := HPA.out (j + 1) (by omega)
              rw [hAll] at hpa2
              have hnx : sumZ (shVal A (mdF z 40) k) (j + 1) = sumZ (shVal A (mdF z 40) k) j + shVal A (mdF z 40) k j := rfl
              rw [hnx] at hpa2
              have HNX := Lib.hid hnx
              have HMO := Lib.hid (fun m hm => HFA.out.mono j m hjk hm)
              have g1 : w3.cell? ⟨b, off + j, none⟩ = some (.int .i64 (mdF z 40 j)) := HC1.out j hjk
              have g2 : w3.cell? ⟨b', off' + j, none⟩ = some (.int .i64 (shVal A (mdF z 40) k j)) := HC2.out j hjk
              have g3 := HF.out j
              have g4 : 0 ≤ A * mdF z 40 j ∧ A * mdF z 40 j ≤ 9990000 := by
                have h := mul_bd m1 (show A ≤ 999 by omega) g3.1 g3.2
                omega
              have hmul : 0 ≤ shVal A (mdF z 40) k j * T := Int.mul_nonneg hpo (by omega)
              generalize hfj : mdF z 40 j = fj at *
              generalize hsj : shVal A (mdF z 40) k j = sj at *
              generalize sumZ (shVal A (mdF z 40) k) j = al at *
              have d1 : decide (A * fj + T - 1 < sj * T) = false := by rw [decide_eq_false_iff_not]; omega
              have d2 : decide (sj * T < A * fj - T + 1) = false := by rw [decide_eq_false_iff_not]; omega
              have hjk' : (j : Int) < (k : Int) := by omega
              clear hAll hnx hfj hsj
              go_wp2
              go_loopw [106] (fun i wx => ∃ m : Nat, m ≤ k ∧ i = .int .i64 m ∧ Hid (∃ q, wx = w3.drewN q)) (fun i _ => k - (intOf i).toNat)
              case atStart => exact ⟨0, by omega, rfl, q1, rfl⟩
              case round =>
                obtain ⟨m, hm, rfl, hwy⟩ := hrel
                obtain ⟨q2, rfl⟩ := hwy.out
                by_cases hmk : m < k
                · have g5 : w3.cell? ⟨b, off + m, none⟩ = some (.int .i64 (mdF z 40 m)) := HC1.out m hmk
                  have g6 : w3.cell? ⟨b', off' + m, none⟩ = some (.int .i64 (shVal A (mdF z 40) k m)) := HC2.out m hmk
                  have hmo := HMO.out m hmk
                  have hmk' : (m : Int) < (k : Int) := by omega
                  generalize mdF z 40 m = fm at *
                  generalize shVal A (mdF z 40) k m = sm at *
                  by_cases hlt : fj < fm
                  · have hge := hmo hlt
                    have d4 : decide (fj < fm) = true := by rw [decide_eq_true_eq]; omega
                    have d5 : decide (sm < sj) = false := by rw [decide_eq_false_iff_not]; omega
                    clear hmo
                    go_wp2
                    go_quiet (fail)
                    go_wp2
                    go_roundw
                    case rel => exact ⟨m + 1, by omega, by go_num, _, rfl⟩
                    case measure => simp [intOf]; omega
                  · have d4 : decide (fj < fm) = false := by rw [decide_eq_false_iff_not]; omega
                    clear hmo
                    go_wp2
                    go_quiet (fail)
                    go_wp2
                    go_roundw
                    case rel => exact ⟨m + 1, by omega, by go_num, _, rfl⟩
                    case measure => simp [intOf]; omega
                · obtain rfl : k = m := by omega
                  go_wp2
                  go_roundw
                  case rel => exact ⟨j + 1, by omega, by go_num, by rw [HNX.out], q2, rfl⟩
                  case measure => simp [intOf]; omega
            · obtain rfl : k = j := by omega
              have HAL := Lib.hid hAll
              clear hAll hpa
              rw [HAL.out]
              go_wp2_with (go_at_call 20; refine (awake_any _).mono ?_; rintro e w' ⟨rfl, hb4⟩)
              go_ret
              exact ⟨rfl, (Below.drewN HB3.out q1).trans (hb4.mono HB3.out.size)⟩
end Go.Proofs.Ytndfgbnjidfaaaa.Qu

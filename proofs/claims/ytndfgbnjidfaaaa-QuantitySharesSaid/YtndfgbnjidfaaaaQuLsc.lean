/-
  The walk of a law over shares of a gathered list of weights.
-/
import Derived.Test.YtndfgbnjidfaaaaQuAwk
import Derived.Test.YtndfgbnjidfaaaaQuRow
import Derived.Test.YtndfgbnjidfaaaaQuGot
import Derived.Test.YtndfgbnjidfaaaaQuMat2
namespace Go.Proofs.Ytndfgbnjidfaaaa.Qu
open Go.ChangeShapes Go.WideShapes Go.ChangeAt Go.RowKit
set_option linter.unusedVariables false

/-- The weights that a law makes of a list of numbers. -/
def mdF (z : Nat → Int) (K : Int) (i : Nat) : Int := md (z i) K
theorem mdF_bd (z : Nat → Int) (K : Int) (hK : 1 ≤ K) (hK2 : K ≤ 10000) (i : Nat) : 0 ≤ mdF z K i ∧ mdF z K i ≤ 10000 := by
  have := md_lo (z i) K (by omega); have := md_hi (z i) K (by omega); unfold mdF; omega
theorem allB_of {f : Nat → Int} (h : ∀ i, 0 ≤ f i ∧ f i ≤ 10000) : ∀ n, allB f n = true
  | 0 => rfl
  | n + 1 => by unfold allB; rw [allB_of h n, inB_yes (h n)]; rfl

/-- Share of valid weights: with a sum above 0. -/
theorem share_pos (A : Int) (p : Option Addr) (k c : Nat) (f : Nat → Int) (w : World) (hk : k ≤ 4096) (hr : Rd w p k f) (hA : 0 ≤ A ∧ A ≤ 274877906944) (hf : ∀ i, 0 ≤ f i ∧ f i ≤ 10000) (hT : ¬ sumZ f k = 0) :
    Calls Try.prog 21 #[.int .i64 A, .slice p k c] w fun e w' => ∃ p' c', e = .returned (.tuple #[.slice p' k c', .int .i64 0]) ∧ Rd w' p' k (shVal A f k) ∧ Below w.heap.size w w' := by
  have hc : shCode A f k = 0 := by unfold shCode; rw [chk_yes (inB_yes hA) (allB_of hf k), if_pos rfl, if_neg hT]; simp
  have hl : shLen A f k = k := by unfold shLen; rw [if_pos hc]
  have h := share_any A p k c f w hk hr
  unfold ShP at h
  rw [hc, hl] at h
  exact h
/-- .. with a sum of 0. -/
theorem share_zer (A : Int) (p : Option Addr) (k c : Nat) (f : Nat → Int) (w : World) (hk : k ≤ 4096) (hr : Rd w p k f) (hA : 0 ≤ A ∧ A ≤ 274877906944) (hf : ∀ i, 0 ≤ f i ∧ f i ≤ 10000) (hT : sumZ f k = 0) (code : Int) (hcd : code = if A = 0 then 0 else 2) :
    Calls Try.prog 21 #[.int .i64 A, .slice p k c] w fun e w' => ∃ p' m c', e = .returned (.tuple #[.slice p' m c', .int .i64 code]) ∧ Below w.heap.size w w' := by
  have hc : shCode A f k = code := by unfold shCode; rw [chk_yes (inB_yes hA) (allB_of hf k), if_pos rfl, if_pos hT, hcd]
  have h := share_any A p k c f w hk hr
  unfold ShP at h
  rw [hc] at h
  exact h.mono fun e w' ⟨p', c', he, _, hb⟩ => ⟨p', _, c', he, hb⟩

set_option maxHeartbeats 8000000 in
theorem lsc_walk (p : Option Addr) (n c : Nat) (z : Nat → Int) (am : Int) (w : World) (hr : Rd w p n z) (hn : n ≤ 9223372036854775807) (hz : ∀ i, -9223372036854775808 ≤ z i ∧ z i ≤ 9223372036854775807)
    (h1 : -9223372036854775808 ≤ am ∧ am ≤ 9223372036854775807) :
    Calls Try.prog 8 #[.slice p n c, .int .i64 am] w fun e w' => e = .returned (.bool true) ∧ Below w.heap.size w w' := by
  obtain ⟨i0, hi, hz0, hz1, hz2⟩ := info_parts Try.info3
  have HR := Lib.hid hr
  have HZ := Lib.hid hz
  have HF := Lib.hid (mdF_bd z 50 (by omega) (by omega))
  clear hr hz
  go_enter Try.func8, Try.ntmps8
  go_wp2
  go_loopw [5, 6, 7] (fun v s i wr => ∃ k : Nat, k ≤ 12 ∧ k ≤ n ∧ i = .int .i64 k ∧ s = .int .i64 (sumZ (mdF z 50) k) ∧ Hid (Got wr w.heap.size v k (mdF z 50)) ∧ Hid (Below w.heap.size w wr)) (fun _ _ i _ => 12 - (intOf i).toNat)
  case atStart => exact ⟨0, by omega, by omega, rfl, rfl, got_nil _ _ _, Below.refl _ _⟩
  case round =>
    obtain ⟨k, hkL, hkn, rfl, rfl, hgot, hbel⟩ := hrel
    have b1 := sumZ_bd (mdF z 50) k 10000 (fun i _ => HF.out i) k (Nat.le_refl _)
    have b2 : sumZ (mdF z 50) k ≤ 150000 := by omega
    have b3 := b1.1
    clear b1
    by_cases hgo : k < n ∧ k < 12
    · obtain ⟨hlt, hl2⟩ := hgo
      have e1 : decide ((k : Int) < (n : Int)) = true := by rw [decide_eq_true_eq]; omega
      obtain ⟨b, off, rfl, hb, hc⟩ := HR.out (by omega)
      have h5 : wr.cell? ⟨b, off + k, none⟩ = some (.int .i64 (z k)) := (hbel.out.cell (p := ⟨b, off + k, none⟩) hb).trans (hc k hlt)
      have h6 := HZ.out k
      have a1 := md_lo (z k) 50 (by omega)
      have a2 := md_hi (z k) 50 (by omega)
      obtain ⟨x, hx⟩ : ∃ x, x = mdF z 50 k := ⟨_, rfl⟩
      have HX := Lib.hid hx
      have HX2 := Lib.hid (show md (z k) 50 = x from hx.symm)
      have HS := Lib.hid (show sumZ (mdF z 50) (k + 1) = sumZ (mdF z 50) k + x by rw [hx]; rfl)
      have x1 : 0 ≤ x := by rw [hx]; exact a1
      have x2 : x ≤ 50 := by rw [hx]; exact Int.le_of_lt a2
      clear hx a1 a2 hc
      generalize sumZ (mdF z 50) k = s at *
      go_wp2_with (first | (go_at_call 9; refine (mod_any _ _ _ (by omega) (by omega) (by omega)).mono ?_; rintro e w' ⟨rfl, rfl⟩; rw [HX2.out]) | (at_builtin; refine wpList_append_own _ rfl _ _ 38 rfl w.heap.size 3 i0 (.int .i64 0) 1 8 Try.underlying38 hi hz0 hz1 hz2 rfl (by decide) _ k _ rfl (hgot.out.alloc _) ⟨wr.heap.size, 0, none⟩ 1 1 [.int .i64 x] rfl rfl ?c1 ?c2 ?c3 ?c4 ?c5 ?_))
      case c1 =>
        intro j u hj
        match j, hj with
        | 0, hj => simp at hj; subst hj; simp [Addr.add]
      case c2 => intro u hu; simp at hu; subst hu; rfl
      case c3 => unfold maxLen; omega
      case c4 => omega
      case c5 => have := hbel.out.size; simp; omega
      intro v' w2 hown' hgrow hnil
      obtain ⟨g, cap, rfl, hcell, hgot'⟩ := got_next hown' HX.out
      have HG := Lib.hid hgot'
      have HB := Lib.hid ((hbel.out.alloc hbel.out.size _).grown hgrow (by have := hbel.out.size; simp; omega) (fun k hk => got_block hgot.out k hk))
      clear hown' hgrow hnil hgot' hgot hbel h5
      go_wp2
      go_roundw
      case rel => exact ⟨k + 1, by omega, by omega, by go_num, by rw [HS.out], HG, HB⟩
      case measure => simp [intOf]; omega
    · have hex : (decide ((k : Int) < (n : Int)) = false ∧ (n : Int) ≤ (k : Int)) ∨ (decide ((k : Int) < (n : Int)) = true ∧ (k : Int) < (n : Int) ∧ (12 : Int) ≤ (k : Int) ∧ decide ((k : Int) < 12) = false) := by
        by_cases h : k < n
        · exact .inr ⟨by rw [decide_eq_true_eq]; omega, by omega, by omega, by rw [decide_eq_false_iff_not]; omega⟩
        · exact .inl ⟨by rw [decide_eq_false_iff_not]; omega, by omega⟩
      obtain ⟨q, cp, rfl, hrd⟩ := got_rd hgot.out
      have HRD := Lib.hid hrd
      have m1 := md_lo am 10000 (by omega)
      have m2 := md_hi am 10000 (by omega)
      have HM := Lib.hid (fun W => mod_any am 10000 W h1 (by omega) (by omega))
      clear hrd hgot hgo
      generalize md am 10000 = A at *
      have hsz := hbel.out.size
      have hk16 : (k : Int) ≤ 12 := by omega
      have HS := Lib.hid (fun (h : ¬ sumZ (mdF z 50) k = 0) => share_pos A q k cp (mdF z 50) wr (by omega) HRD.out (by omega) HF.out h)
      obtain ⟨cd, hcd⟩ : ∃ cd : Int, cd = if A = 0 then 0 else 2 := ⟨_, rfl⟩
      have HS0 := Lib.hid (fun (h : sumZ (mdF z 50) k = 0) => share_zer A q k cp (mdF z 50) wr (by omega) HRD.out (by omega) HF.out h cd hcd)
      have HCD := Lib.hid hcd
      clear hcd
      by_cases hT : sumZ (mdF z 50) k = 0
      · have HS1 := Lib.hid (HS0.out hT)
        have hT' : (sumZ (mdF z 50) k == 0) = true := by simpa using hT
        clear hT HS HS0
        rcases hex with ⟨e1, e3⟩ | ⟨e1, e3, e4, e2⟩
        all_goals
          go_wp2_with (first | (go_at_call 9; refine (HM.out _).mono ?_; rintro e w' ⟨rfl, rfl⟩) | (go_at_call 21; refine HS1.out.mono ?_; rintro e w3 ⟨p', m', c', rfl, hb3⟩) | (go_at_call 20; refine (awake_any _).mono ?_; rintro e w' ⟨rfl, hb4⟩))
          go_ret
          exact ⟨rfl, (hbel.out.trans (hb3.mono hsz)).trans (hb4.mono (Nat.le_trans hsz hb3.size))⟩
      · have HS1 := Lib.hid (HS.out hT)
        have hT' : (sumZ (mdF z 50) k == 0) = false := by simpa using hT
        have hTp : 0 < sumZ (mdF z 50) k := by omega
        have hk0 : 0 < k := by
          apply Classical.byContradiction
          intro h
          obtain rfl : k = 0 := by omega
          exact hT rfl
        have HFA := Lib.hid (share_fair (mdF z 50) A k hk0 hTp m1 (fun i _ => (HF.out i).1))
        clear hT HS HS0
        generalize hTT : sumZ (mdF z 50) k = T at *
        have HTT := Lib.hid hTT
        clear hTT
        rcases hex with ⟨e1, e3⟩ | ⟨e1, e3, e4, e2⟩
        all_goals
          go_wp2_with (first | (go_at_call 9; refine (HM.out _).mono ?_; rintro e w' ⟨rfl, rfl⟩) | (go_at_call 21; refine HS1.out.mono ?_; rintro e w3 ⟨p', c', rfl, hr3, hb3⟩))
          have HB3 := Lib.hid (hbel.out.trans (hb3.mono hsz))
          have HRW := Lib.hid (HRD.out.below hb3 (Nat.le_refl _))
          have HR3 := Lib.hid hr3
          clear hb3 hr3
          go_loop [11, 52] (fun al i => ∃ j : Nat, j ≤ k ∧ i = .int .i64 j ∧ al = .int .i64 (sumZ (qF (mdF z 50) A T) j)) (fun _ i => k - (intOf i).toNat)
          case atStart => exact ⟨0, by omega, rfl, rfl⟩
          case round =>
            obtain ⟨j, hj, rfl, rfl⟩ := hrel
            have hlj : 0 ≤ lef (mdF z 50) A T j ∧ lef (mdF z 50) A T j ≤ A := by
              have h := HFA.out.left
              rw [HTT.out] at h
              exact ⟨Int.le_trans h.1 (lef_lo (mdF z 50) A T k hTp m1 (fun i _ => (HF.out i).1) (k - j) j (by omega)), lef_mono (mdF z 50) A T k hTp m1 (fun i _ => (HF.out i).1) j hj⟩
            have hs1 : 0 ≤ sumZ (qF (mdF z 50) A T) j ∧ sumZ (qF (mdF z 50) A T) j ≤ A := by unfold lef at hlj; omega
            clear hlj
            by_cases hjk : j < k
            · have hqs := HFA.out.q j hjk
              have hpo := HFA.out.pos j hjk
              rw [HTT.out] at hqs
              obtain ⟨b, off, rfl, _, hc⟩ := HRW.out hk0
              obtain ⟨b', off', rfl, _, hc'⟩ := HR3.out hk0
              have g1 := hc j hjk
              have g2 := hc' j hjk
              have g3 := HF.out j
              have HSC : Hid (∀ W, Calls Try.prog 12 #[.int .i64 A, .int .i64 (mdF z 50 j), .int .i64 T] W (Two (A * mdF z 50 j / T) 0 W)) := by
                intro W
                have h := scale_any A (mdF z 50 j) T W (by omega)
                have e : scl A (mdF z 50 j) T = (A * mdF z 50 j / T, 0) := by unfold scl; rw [if_neg (by omega), if_neg (by omega)]
                rw [e] at h
                exact h
              have HNX := Lib.hid (show sumZ (qF (mdF z 50) A T) (j + 1) = sumZ (qF (mdF z 50) A T) j + A * mdF z 50 j / T from rfl)
              have hq0 : 0 ≤ A * mdF z 50 j / T := Int.ediv_nonneg (Int.mul_nonneg m1 g3.1) (by omega)
              have hq1 : A * mdF z 50 j / T ≤ 100000000 := by
                have h := div_bd (mul_bd m1 (show A ≤ 9999 by omega) g3.1 g3.2).1 (show 1 ≤ T by omega)
                have h2 := (mul_bd m1 (show A ≤ 9999 by omega) g3.1 g3.2).2
                omega
              generalize A * mdF z 50 j / T = qq at *
              generalize mdF z 50 j = fj at *
              generalize shVal A (mdF z 50) k j = sj at *
              generalize sumZ (qF (mdF z 50) A T) j = al at *
              have d1 : decide (sj < qq) = false := by rw [decide_eq_false_iff_not]; omega
              have d2 : decide (qq + 1 < sj) = false := by rw [decide_eq_false_iff_not]; omega
              have d3 : ((k : Int) != (k : Int)) = false := by simp
              have hjk' : (j : Int) < (k : Int) := by omega
              clear hc hc'
              go_wp2_with (go_at_call 12; refine (HSC.out _).mono ?_; rintro e w' ⟨rfl, rfl⟩)
              go_round
              case rel => exact ⟨j + 1, by omega, by go_num, by rw [HNX.out]⟩
              case measure => simp [intOf]; omega
            · obtain rfl : k = j := by omega
              have hle := HFA.out.left
              rw [HTT.out] at hle
              unfold lef at hle
              generalize sumZ (qF (mdF z 50) A T) k = al at *
              have d1 : decide (al ≤ A) = true := by rw [decide_eq_true_eq]; omega
              have d2 : decide (A - al < (k : Int)) = true := by rw [decide_eq_true_eq]; omega
              go_wp2_with (go_at_call 20; refine (awake_any _).mono ?_; rintro e w' ⟨rfl, hb4⟩)
              go_ret
              exact ⟨rfl, HB3.out.trans (hb4.mono HB3.out.size)⟩
end Go.Proofs.Ytndfgbnjidfaaaa.Qu

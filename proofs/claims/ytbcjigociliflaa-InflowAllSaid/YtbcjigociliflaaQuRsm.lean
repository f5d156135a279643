/-
  The contract of Share of the reference of layer 1 where something is shared.
-/
import Derived.Test.YtbcjigociliflaaQuRsh
namespace Go.Proofs.Ytbcjigociliflaa.Qu
open Go.ChangeShapes Go.WideShapes Go.ChangeAt Go.RowKit
set_option linter.unusedVariables false

set_option maxRecDepth 100000 in
set_option maxHeartbeats 8000000 in
theorem rshare_main (a : Int) (p : Option Addr) (n c : Nat) (z : Nat → Int) (w : World) (hn : n ≤ 4096) (hr : Rd w p n z) (h1 : inB a 274877906944 = true) (h2 : allB z n = true) (ha : 0 < a) (ht : 0 < sumZ z n) (hn0 : 0 < n) :
    Calls Try.prog 35 #[.int .i64 a, .slice p n c] w (ShP a z n w) := by
  have hk : chk a z n = 0 := chk_yes h1 h2
  have hall := allB_all h2
  have hBD := sumZ_bd z n 10000 hall n (Nat.le_refl _)
  obtain ⟨i0, hi, hz0, hz1, hz2⟩ := info_parts Try.info3
  have hS : shCode a z n = 0 := by unfold shCode; rw [hk]; simp; omega
  have hL : shLen a z n = n := by unfold shLen; rw [hS]; simp
  have hV : shVal a z n = shF z a n := by funext i; unfold shVal; rw [if_neg (by omega)]
  have hTB := hBD.2
  have hLf := lef_bd z a n hn0 ht
  have hLm := fun k hk => lef_mono z a (sumZ z n) n ht (by omega) (fun i hi => (hall i hi).1) k hk
  have hLo := fun k hk => lef_lo z a (sumZ z n) n ht (by omega) (fun i hi => (hall i hi).1) (n - k) k hk
  obtain ⟨L, hLL⟩ : ∃ L : Nat, lef z a (sumZ z n) n = L := ⟨(lef z a (sumZ z n) n).toNat, by omega⟩
  have hV2 : shVal a z n = fun i => qF z a (sumZ z n) i + plus (rF z a (sumZ z n)) n L i := by rw [hV]; funext i; unfold shF; rw [hLL, Int.toNat_natCast]
  rw [hLL] at hLf
  have hLn : L < n := by omega
  have HSL := Lib.hid (And.intro hS hL)
  have HV := Lib.hid hV2
  have HLL := Lib.hid hLL
  have HLM := Lib.hid hLm
  have HLO := Lib.hid hLo
  have ha1 : 0 ≤ a ∧ a ≤ 274877906944 := of_decide_eq_true h1
  have ha' : (a == 0) = false := by simp; omega
  have HT := Lib.hid ht
  have HTB := Lib.hid hTB
  clear hS hL hV hV2 hLL hLf hLm hLo hTB ht
  have HR := Lib.hid hr
  have HA := Lib.hid hall
  have HBD := Lib.hid hBD
  have hn2 : (n : Int) ≤ 4096 := by omega
  clear hr hall h2 hk hBD
  go_enter Try.func35, Try.ntmps35
  go_wp2_with (go_at_call 36; refine (in_any _ _ _).mono ?_; rintro e w' ⟨rfl, rfl⟩)
  go_loop [6, 22] (fun s i => ∃ k : Nat, k ≤ n ∧ i = .int .i64 k ∧ s = .int .i64 (sumZ z k)) (fun _ i => n - (intOf i).toNat)
  case atStart => exact ⟨0, Nat.zero_le _, rfl, rfl⟩
  case round =>
    obtain ⟨k, hkn, rfl, rfl⟩ := hrel
    by_cases hlt : k < n
    · obtain ⟨b, off, rfl, _, hc⟩ := HR.out (by omega)
      have h5 := hc k hlt
      have hs := sumZ_bd z n 10000 HA.out k hkn
      have hs2 : sumZ z k ≤ 40960000 := by omega
      have hs1 := hs.1
      have HNX := Lib.hid (show sumZ z (k + 1) = sumZ z k + z k from rfl)
      have hb := HA.out k hlt
      have hib : inB (z k) 10000 = true := inB_yes hb
      clear hc hs
      go_wp2_with (go_at_call 36; refine (in_any _ _ _).mono ?_; rintro e w' ⟨rfl, rfl⟩)
      go_round
      case rel => exact ⟨k + 1, by omega, by go_num, by rw [HNX.out]⟩
      case measure => simp [intOf]; omega
    · obtain rfl : n = k := by omega
      have ht := HT.out
      have hTB := HTB.out
      have HALL := HA.out
      generalize hT : sumZ z n = T at *
      have ht' : (T == 0) = false := by simp; omega
      have ht'' : ¬ T = 0 := by omega
      have hTB2 : T ≤ 40960000 := by omega
      have HTT := Lib.hid hT
      clear hT HALL HT hTB
      go_wp2_with (first | (at_make; refine wpList_make_full _ rfl (.tmp 37) (.tmp 37) 22 rfl w.heap.size 3 i0 (.int .i64 0) 1 Try.underlying22 hi hz0 hz1 .i64 .i64 _ _ n rfl rfl rfl rfl (by rw [hz2]; omega) (by unfold maxLen; omega) (by simp) ?_; intro w1 hown hgrow) | (at_make; refine wpList_make_full _ rfl (.tmp 46) (.tmp 46) 22 rfl w1.heap.size 3 i0 (.int .i64 0) 1 Try.underlying22 hi hz0 hz1 .i64 .i64 _ _ n rfl rfl rfl rfl (by rw [hz2]; omega) (by unfold maxLen; omega) (by simp) ?_; intro w2 hown2 hgrow2))
      have hS1 : w.heap.size < w1.heap.size := (hown.lt _ rfl).2
      have hR1 : w1.heap.size < w2.heap.size := (hown2.lt _ rfl).2
      have hbel1 : Below w.heap.size w w1 := (Below.refl w.heap.size w).grown hgrow (Nat.le_refl _) (by intro k hk; cases hk)
      have hb2 : Below w1.heap.size w1 w2 := (Below.refl w1.heap.size w1).grown hgrow2 (Nat.le_refl _) (by intro k hk; cases hk)
      have HB := Lib.hid (hbel1.trans (hb2.mono (by omega)))
      have HO1 := Lib.hid (((own_made hown hS1).below hb2 hS1).congr fun i _ => (upTo_zero (qF z a T) i).symm)
      have HO2 := Lib.hid ((own_made hown2 hR1).congr fun i _ => (upTo_zero (rF z a T) i).symm)
      clear hown hown2 hgrow hgrow2 hbel1 hb2 hi hz0 hz1 hz2
      generalize w1.heap.size = R at *
      have hne1 : ¬ R = w.heap.size := by omega
      have hne2 : ¬ w.heap.size = R := by omega
      have hSR : w.heap.size ≤ R := by omega
      clear hS1 hR1
      go_loopw [10, 50] (fun t i wr => ∃ k : Nat, k ≤ n ∧ i = .int .i64 k ∧ t = .int .i64 (lef z a T k) ∧ Hid (Own wr w.heap.size n (upTo (qF z a T) k)) ∧ Hid (Own wr R n (upTo (rF z a T) k)) ∧ Hid (Below w.heap.size w wr)) (fun _ i _ => n - (intOf i).toNat)
      case atStart => exact ⟨0, Nat.zero_le _, rfl, by simp [lef, sumZ], HO1, HO2, HB⟩
      case round =>
        clear HO1 HO2 HB
        obtain ⟨k, hk, rfl, rfl, ho1, ho2, hbel⟩ := hrel
        have l1 := HLM.out k hk
        have l2 := HLO.out k (by omega)
        rw [HLL.out] at l2
        by_cases hlt : k < n
        · obtain ⟨b, off, rfl, hb, hc⟩ := HR.out (by omega)
          have h1 := ho1.out.cell hlt
          have h2 := ho1.out.free hlt
          have h3 := ho2.out.cell hlt
          have h4 := ho2.out.free hlt
          have h5 : wr.cell? ⟨b, off + k, none⟩ = some (.int .i64 (z k)) := (hbel.out.cell (p := ⟨b, off + k, none⟩) hb).trans (hc k hlt)
          have m1 := HA.out k hlt
          have m2 := mul_bd ha1.1 ha1.2 m1.1 m1.2
          have m3 : a * z k ≤ 2748779069440000 := by have := m2.2; omega
          have m4 := m2.1
          have m5 := div_bd m4 (show 1 ≤ T by omega)
          have m6 : 0 ≤ a * z k % T := Int.emod_nonneg _ (by omega)
          have m7 : a * z k % T < T := Int.emod_lt_of_pos _ (by omega)
          have l3 := HLO.out (k + 1) (by omega)
          rw [HLL.out] at l3
          have l4 : lef z a T (k + 1) = lef z a T k - a * z k / T := by unfold lef; rw [sumZ]; unfold qF; omega
          rw [l4] at l3
          have L4 := Lib.hid l4
          have hkn : (k : Int) < (n : Int) := by omega
          clear m2 l4 hc
          go_wp2
          go_region
          go_wp2
          go_roundw
          case rel =>
            refine ⟨k + 1, by omega, by go_num, ?_, ?_, ?_, ?_⟩
            · rw [L4.out]
            · exact ((ho1.out.next hlt rfl).other (by simpa using hne1) _).drew
            · exact ((ho2.out.other (by simpa using hne2) _).next hlt rfl).drew
            · exact ((hbel.out.setCell (by simp) _).setCell (by simp; omega) _).drew
          case measure => simp [intOf]; omega
        · obtain rfl : n = k := by omega
          have HO1 := Lib.hid (ho1.out.congr fun i hi => show upTo (qF z a T) n i = qF z a T i + plus (rF z a T) n 0 i by rw [upTo_all _ hi, plus_zero, Int.add_zero])
          have HO2 := Lib.hid (ho2.out.congr fun i hi => show upTo (rF z a T) n i = rst (rF z a T) n 0 i by rw [upTo_all _ hi, rst_zero])
          have HLLo := HLL.out
          clear l1 l2 ho1 ho2
          rw [HLLo]
          clear HLLo
          go_wp2
          go_loopw [10] (fun t wr => ∃ j : Nat, j ≤ L ∧ t = .int .i64 ((L : Int) - (j : Int)) ∧ Hid (Own wr w.heap.size n (fun i => qF z a T i + plus (rF z a T) n j i)) ∧ Hid (Own wr R n (fun i => rst (rF z a T) n j i)) ∧ Hid (Below w.heap.size w wr)) (fun t _ => (intOf t).toNat)
          case atStart => exact ⟨0, Nat.zero_le _, by simp, HO1, HO2, hbel⟩
          case round =>
            clear HO1 HO2 hbel
            obtain ⟨j, hj, rfl, ho1, ho2, hbel⟩ := hrel
            by_cases hjl : j < L
            · have hjn : j < n := by omega
              obtain ⟨wo, rfl⟩ : ∃ wo : World, wo = wr := ⟨_, rfl⟩
              go_wp2
              go_loop [14, 84] (fun bb i => ∃ (m : Nat) (bv : Int), m ≤ n ∧ i = .int .i64 m ∧ bb = .int .i64 bv ∧ Hid (BestIs (rF z a T) n j m bv)) (fun _ i => n - (intOf i).toNat)
              case atStart => exact ⟨0, -1, Nat.zero_le _, rfl, rfl, best_zero _ _ _⟩
              case round =>
                obtain ⟨m, bv, hm, rfl, rfl, hbest⟩ := hrel
                by_cases hmn : m < n
                · have g1 : wo.cell? ⟨R, m, none⟩ = some (.int .i64 (rst (rF z a T) n j m)) := ho2.out.cell hmn
                  have hmn' : (m : Int) < (n : Int) := by omega
                  by_cases hmt : m ∈ tak (rF z a T) n j
                  · have hv : rst (rF z a T) n j m = -1 := by unfold rst; rw [if_pos hmt]
                    rw [hv] at g1
                    have HB2 := Lib.hid (best_pass _ _ _ _ _ hbest.out hmt)
                    clear hv hmt
                    go_wp2
                    go_round
                    case rel => exact ⟨m + 1, bv, by omega, by go_num, rfl, HB2⟩
                    case measure => simp [intOf]; omega
                  · have hv : rst (rF z a T) n j m = rF z a T m := by unfold rst; rw [if_neg hmt]
                    rw [hv] at g1
                    have hr0 := rF_lo z a T m ht
                    have hcs : (bv = -1) ∨ ∃ mm : Nat, bv = mm := by
                      rcases hbest.out with ⟨h, _⟩ | ⟨mm, h, _⟩
                      · exact .inl h
                      · exact .inr ⟨mm, h⟩
                    rcases hcs with rfl | ⟨mm, rfl⟩
                    · have HB2 := Lib.hid (best_first _ _ _ _ hbest.out hmt)
                      clear hv hmt
                      go_wp2
                      go_round
                      case rel => exact ⟨m + 1, m, by omega, by go_num, rfl, HB2⟩
                      case measure => simp [intOf]; omega
                    · have hbl := best_lt hbest.out
                      have hmm : mm < n := by omega
                      have g2 : wo.cell? ⟨R, mm, none⟩ = some (.int .i64 (rF z a T mm)) := by
                        have h := ho2.out.cell hmm
                        have e : rst (rF z a T) n j mm = rF z a T mm := by unfold rst; rw [if_neg hbl.2]
                        rw [e] at h
                        exact h
                      have hmm' : (mm : Int) < (n : Int) := by omega
                      have dneg : decide ((mm : Int) < 0) = false := by rw [decide_eq_false_iff_not]; omega
                      have HMT := Lib.hid hmt
                      clear hv hmt hbl
                      by_cases hgt : rF z a T mm < rF z a T m
                      · have HB2 := Lib.hid (best_take _ _ _ _ _ hbest.out HMT.out hgt)
                        have dgt : decide (rF z a T mm < rF z a T m) = true := by rw [decide_eq_true_eq]; exact hgt
                        go_wp2
                        go_round
                        case rel => exact ⟨m + 1, m, by omega, by go_num, rfl, HB2⟩
                        case measure => simp [intOf]; omega
                      · have HB2 := Lib.hid (best_keep _ _ _ _ _ hbest.out HMT.out (by omega))
                        have dgt : decide (rF z a T mm < rF z a T m) = false := by rw [decide_eq_false_iff_not]; exact hgt
                        go_wp2
                        go_round
                        case rel => exact ⟨m + 1, mm, by omega, by go_num, rfl, HB2⟩
                        case measure => simp [intOf]; omega
                · obtain rfl : n = m := by omega
                  obtain rfl : bv = (ordA (rF z a T) n j : Nat) := best_end _ _ _ _ hjn hbest.out
                  have hx := ordA_lt (rF z a T) n j hjn
                  have HX := Lib.hid (fun i => plus_succ (rF z a T) n j i hjn)
                  have HX2 := Lib.hid (fun i => rst_succ (rF z a T) n j i hjn)
                  clear hbest
                  generalize ordA (rF z a T) n j = x at *
                  have g1 : wo.cell? ⟨w.heap.size, x, none⟩ = some (.int .i64 (qF z a T x + plus (rF z a T) n j x)) := ho1.out.cell hx
                  have g2 := ho1.out.free hx
                  have g3 : wo.cell? ⟨R, x, none⟩ = some (.int .i64 (rst (rF z a T) n j x)) := ho2.out.cell hx
                  have g4 := ho2.out.free hx
                  have m1 := HA.out x hx
                  have m2 := mul_bd ha1.1 ha1.2 m1.1 m1.2
                  have m3 : 0 ≤ qF z a T x ∧ qF z a T x ≤ 2748779069440000 := by have := m2.2; have := div_bd m2.1 (show 1 ≤ T by omega); unfold qF; omega
                  have m4 := plus_bd (rF z a T) n j x
                  obtain ⟨v, hv⟩ : ∃ v, v = qF z a T x + plus (rF z a T) n j x := ⟨_, rfl⟩
                  rw [← hv] at g1
                  have hv1 : 0 ≤ v := by omega
                  have hv2 : v ≤ 2748779069440001 := by omega
                  have hxn : (x : Int) < (n : Int) := by omega
                  have HV2 := Lib.hid hv
                  clear m1 m2 m3 m4 hv
                  go_wp2
                  go_roundw
                  case rel =>
                    refine ⟨j + 1, by omega, by congr 1; omega, ?_, ?_, (hbel.out.setCell (by simp) _).setCell (by simp; omega) _⟩
                    · refine ((ho1.out.store hx (v + 1)).other (by simpa using hne1) _).congr fun i _ => ?_
                      unfold upd
                      show _ = qF z a T i + plus (rF z a T) n (j + 1) i
                      rw [HX.out i, HV2.out]
                      by_cases e : i = x
                      · subst e; rw [if_pos rfl, if_pos rfl]; omega
                      · rw [if_neg e, if_neg e]
                    · refine ((ho2.out.other (by simpa using hne2) _).store hx (-1)).congr fun i _ => ?_
                      unfold upd
                      show _ = rst (rF z a T) n (j + 1) i
                      rw [HX2.out i]
                  case measure => simp [intOf]; omega
            · obtain rfl : j = L := by omega
              have e0 : ((j : Int) - (j : Int)) = 0 := by omega
              rw [e0]
              clear e0
              go_wp2
              go_ret2
              exact ⟨some ⟨w.heap.size, 0, none⟩, n, by rw [HSL.out.1, HSL.out.2]; rfl, by rw [HSL.out.2, HV.out]; exact ho1.out.rd, hbel.out⟩

/-- Share of the reference: the same as Share of package quantity. -/
theorem rshare_any (a : Int) (p : Option Addr) (n c : Nat) (z : Nat → Int) (w : World) (hn : n ≤ 4096) (hr : Rd w p n z) :
    Calls Try.prog 35 #[.int .i64 a, .slice p n c] w (ShP a z n w) := by
  rcases chk_cases a z n with hk | ⟨hk, h1, h2⟩
  · exact rshare_bad a p n c z w hn hr hk
  by_cases ha : a = 0
  · exact rshare_nil a p n c z w hn hr h1 h2 ha
  have hall := allB_all h2
  have h1' : 0 ≤ a ∧ a ≤ 274877906944 := of_decide_eq_true h1
  have hs := (sumZ_bd z n 10000 hall n (Nat.le_refl _)).1
  by_cases ht : sumZ z n = 0
  · exact rshare_none a p n c z w hn hr h1 h2 ha ht
  have hn0 : 0 < n := by
    apply Classical.byContradiction
    intro h
    obtain rfl : n = 0 := by omega
    exact ht rfl
  exact rshare_main a p n c z w hn hr h1 h2 (by omega) (by omega) hn0
end Go.Proofs.Ytbcjigociliflaa.Qu

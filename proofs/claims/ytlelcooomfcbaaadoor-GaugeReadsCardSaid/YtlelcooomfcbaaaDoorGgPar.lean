/-
  The contract of Parse of the reference of chapter 6.
-/
import Derived.Test.YtlelcooomfcbaaaDoorGgLix
import Derived.Test.YtlelcooomfcbaaaDoorGpPrs
import Derived.Test.YtlelcooomfcbaaaDoorGpStr
namespace Go.Proofs.YtlelcooomfcbaaaDoor.Gg
open Go.ChangeShapes Go.WideShapes Go.ChangeAt Go.RowKit
set_option linter.unusedVariables false

theorem lin_any (p : Option Addr) (c : Nat) (l : List ByteArray) (w : World) (hp : RdS w p l) : Calls Tryd.prog 51 #[.slice p l.length c] w (LiP w l) := by
  by_cases h4 : l.length = 4
  · obtain ⟨g, rfl, ht⟩ := hp (by omega)
    rw [h4]
    exact lin_four g c l w ht h4
  · exact lin_short p c l w h4
set_option maxRecDepth 100000 in
set_option maxHeartbeats 4000000 in
theorem rparse_any (s : ByteArray) (w : World) (h9 : s.size ≤ 1000000000) : Calls Tryd.prog 27 #[.string s] w (DeP w (paX s) (paN s) (paR (linesG s) (linesG s).length)) := by
  obtain ⟨i0, hi, hz0, hz1, hz2⟩ := info_parts Tryd.infoR
  by_cases hbig : 65536 < s.size
  · have HX : Hid (paX s = (10, 0)) := by show paX s = _; unfold paX; rw [if_pos hbig]
    have n1 : (65536 : Int) < (s.size : Int) := by omega
    go_enter Tryd.func27, Tryd.ntmps27
    go_wp2
    go_ret3
    refine ⟨.slice none 0 0, by rw [HX.out]; rfl, ?_, Below.refl _ _⟩
    unfold paN
    rw [HX.out]
    exact gotR_nil _ _ _
  · have n1 : ¬ (65536 : Int) < (s.size : Int) := by omega
    have HXX : Hid (paX s = if 4096 < cwG (linesG s) (linesG s).length then (10, 0) else paA (linesG s) (linesG s).length) := by show paX s = _; unfold paX; rw [if_neg hbig]
    have HNN : Hid (paN s = if (paX s).1 = 0 then cwG (linesG s) (linesG s).length else 0) := rfl
    have HLI := Lib.hid (lines_any s w h9)
    have HLO := Lib.hid (lines_ok s h9)
    have hlen := lines_len s
    have hpos := lines_pos s
    clear hbig
    generalize linesG s = L at *
    obtain ⟨n, hN⟩ : ∃ n, L.length = n := ⟨_, rfl⟩
    rw [hN] at hlen hpos HXX HNN ⊢
    have HN := Lib.hid hN
    clear hN
    go_enter Tryd.func27, Tryd.ntmps27
    go_wp2_with (go_at_call 49; refine HLI.out.mono ?_; rintro e W1 ⟨vl, rfl, hgl, hbl⟩; obtain ⟨gl, cl, rfl, hgl1, htl⟩ := gotS_ts hgl (by rw [HN.out]; exact hpos); rw [HN.out]; have HTS := Lib.hid htl; have HBA := Lib.hid hbl; have hsA := hbl.size; clear hgl hbl htl HLI)
    go_loopw [5, 23] (fun q i wr => ∃ (k m : Nat), k ≤ n ∧ q = .int .i64 m ∧ i = .int .i64 k ∧ m ≤ k ∧ Hid (cwG L k = m) ∧ Hid (Below W1.heap.size W1 wr)) (fun _ i _ => n - (intOf i).toNat)
    case atStart => exact ⟨0, 0, Nat.zero_le _, rfl, rfl, Nat.le_refl _, rfl, Below.refl _ _⟩
    case round =>
      obtain ⟨k, m, hk, rfl, rfl, hmk, hcw, hb⟩ := hrel
      by_cases hkn : k < n
      · have hki : (k : Int) < (n : Int) := by omega
        have hki2 : (k : Int) ≤ 65536 := by omega
        have hmi : (m : Int) ≤ 65536 := by omega
        have hkL : k < L.length := by rw [HN.out]; exact hkn
        have c0 := (HTS.out.up hb.out (Nat.le_refl _)).2 k hkL
        rw [Nat.zero_add] at c0
        have HWd : Hid (∀ W, Calls Tryd.prog 50 #[.string L[k]] W (GsP W (lw L k))) := by
          show ∀ W, _
          intro W
          rw [lw_at L k hkL]
          exact words_any _ W (HLO.out.at k hkL).2
        have HS : Hid (cwG L (k + 1) = if 0 < (lw L k).length then m + 1 else m) := by
          show (if 0 < (lw L k).length then cwG L k + 1 else cwG L k) = _
          rw [hcw.out]
        have hsr := hb.out.size
        generalize lw L k = ws at HWd HS
        generalize L[k] = ln at c0 HWd
        by_cases h0 : 0 < ws.length
        · have e1 : (0 : Int) < (ws.length : Int) := by omega
          have HS2 : Hid (cwG L (k + 1) = m + 1) := by show _ = _; rw [HS.out, if_pos h0]
          clear HS h0 hcw hkL
          go_wp2_with (go_at_call 50; refine (HWd.out _).mono ?_; rintro e w3 ⟨vv, rfl, hg3, hb3⟩; obtain ⟨p, cap, rfl, _⟩ := gotS_rd hg3; have HB3 := Lib.hid (hb.out.trans (hb3.mono hsr)); clear hg3 hb3)
          go_roundw
          case rel => exact ⟨k + 1, m + 1, by omega, by go_num, by go_num, by omega, HS2, HB3⟩
          case measure => simp [intOf]; omega
        · have e1 : ¬ (0 : Int) < (ws.length : Int) := by omega
          have HS2 : Hid (cwG L (k + 1) = m) := by show _ = _; rw [HS.out, if_neg h0]
          clear HS h0 hcw hkL
          go_wp2_with (go_at_call 50; refine (HWd.out _).mono ?_; rintro e w3 ⟨vv, rfl, hg3, hb3⟩; obtain ⟨p, cap, rfl, _⟩ := gotS_rd hg3; have HB3 := Lib.hid (hb.out.trans (hb3.mono hsr)); clear hg3 hb3)
          go_roundw
          case rel => exact ⟨k + 1, m, by omega, rfl, by go_num, by omega, HS2, HB3⟩
          case measure => simp [intOf]; omega
      · obtain rfl : n = k := by omega
        have HB2 := Lib.hid hb.out
        have HCW := Lib.hid hcw.out
        rw [HCW.out] at HXX
        clear hb hcw
        by_cases hcw4 : 4096 < m
        · have HX : Hid (paX s = (10, 0)) := by show paX s = _; rw [HXX.out, if_pos hcw4]
          have n2 : (4096 : Int) < (m : Int) := by omega
          go_wp2
          go_ret3
          refine ⟨.slice none 0 0, by rw [HX.out]; rfl, ?_, HBA.out.trans (HB2.out.mono hsA)⟩
          rw [HNN.out, HX.out]
          exact gotR_nil _ _ _
        · have HX : Hid (paX s = paA L n) := by show paX s = _; rw [HXX.out, if_neg hcw4]
          have HCL : Hid (∀ q, q ≤ n → cwG L q ≤ 4096) := fun q hq => Nat.le_trans (cwG_up L q n hq) (by rw [HCW.out]; omega)
          have n2 : ¬ (4096 : Int) < (m : Int) := by omega
          have hs2 := HB2.out.size
          clear HXX hcw4 HCW hkn
          go_wp2_with fail
          go_loopw [9, 38] (fun v i wx => ∃ (k m : Nat) (V : Value), V = v ∧ k ≤ n ∧ i = .int .i64 k ∧ m ≤ k ∧ Hid (cwG L k = m) ∧ Hid (paA L k = (0, 0)) ∧ Hid (GotR wx W1.heap.size v m (paR L k)) ∧ Hid (Below W1.heap.size W1 wx)) (fun _ i _ => n - (intOf i).toNat)
          case atStart => exact ⟨0, 0, _, rfl, Nat.zero_le _, rfl, Nat.le_refl _, rfl, rfl, gotR_nil _ _ _, HB2.out⟩
          case round =>
            obtain ⟨k, m, v, rfl, hk, rfl, hmk, hcm, hpa, hgot, hb⟩ := hrel
            by_cases hkn : k < n
            · have hki : (k : Int) < (n : Int) := by omega
              have hki2 : (k : Int) ≤ 65536 := by omega
              have hmi : m ≤ 4096 := by rw [← hcm.out]; exact HCL.out k hk
              have hkL : k < L.length := by rw [HN.out]; exact hkn
              have c0 := (HTS.out.up hb.out (Nat.le_refl _)).2 k hkL
              rw [Nat.zero_add] at c0
              have HWd : Hid (∀ W, Calls Tryd.prog 50 #[.string L[k]] W (GsP W (lw L k))) := by
                show ∀ W, _
                intro W
                rw [lw_at L k hkL]
                exact words_any _ W (HLO.out.at k hkL).2
              have HS : Hid (cwG L (k + 1) = if 0 < (lw L k).length then m + 1 else m) := by
                show (if 0 < (lw L k).length then cwG L k + 1 else cwG L k) = _
                rw [hcm.out]
              have HPN := Lib.hid (paA_next L k hpa.out)
              have HPE : Hid (paE L k = if 0 < (lw L k).length then rdE (lw L k) else 0) := rfl
              have HPR : Hid (paR L (k + 1) = if 0 < (lw L k).length then updR (paR L k) m (rdV (lw L k)) else paR L k) := by
                show (if 0 < (lw L k).length then updR (paR L k) (cwG L k) (rdV (lw L k)) else paR L k) = _
                rw [hcm.out]
              have hsr := hb.out.size
              generalize lw L k = ws at *
              generalize L[k] = ln at c0 HWd
              by_cases h0 : ws.length = 0
              · have e1 : ((ws.length : Int) == 0) = true := by rw [beq_iff_eq]; omega
                have HS2 : Hid (cwG L (k + 1) = m) := by show _ = _; rw [HS.out, if_neg (by omega)]
                have HP2 : Hid (paA L (k + 1) = (0, 0)) := by show _ = _; rw [HPN.out, show paE L k = 0 by rw [HPE.out, if_neg (by omega)], if_neg (by simp)]
                have HR2 : Hid (paR L (k + 1) = paR L k) := by show _ = _; rw [HPR.out, if_neg (by omega)]
                clear HS HPN HPE HPR h0 hkL hcm hpa
                go_wp2_with (go_at_call 50; refine (HWd.out _).mono ?_; rintro e w3 ⟨vv, rfl, hg3, hb3⟩; obtain ⟨p, cap, rfl, _⟩ := gotS_rd hg3; have HB3 := Lib.hid (hb.out.trans (hb3.mono hsr)); have HG3 := Lib.hid (gotR_kept hgot.out hb3); clear hg3 hb3)
                go_roundw
                case rel => exact ⟨k + 1, m, _, rfl, by omega, by go_num, by omega, HS2, HP2, by rw [HR2.out]; exact HG3, HB3⟩
                case measure => simp [intOf]; omega
              · have e1 : ((ws.length : Int) == 0) = false := by rw [beq_eq_false_iff_ne]; omega
                have HS2 : Hid (cwG L (k + 1) = m + 1) := by show _ = _; rw [HS.out, if_pos (by omega)]
                have HP2 : Hid (paA L (k + 1) = if rdE ws ≠ 0 then (rdE ws, (k : Int) + 1) else (0, 0)) := by show _ = _; rw [HPN.out, show paE L k = rdE ws by rw [HPE.out, if_pos (by omega)]]
                have HR2 : Hid (paR L (k + 1) = updR (paR L k) m (rdV ws)) := by show _ = _; rw [HPR.out, if_pos (by omega)]
                clear HS HPN HPE HPR h0 hkL hcm hpa
                cases hrk : rdK ws with
                | false =>
                  have HLN : Hid (∀ W p c, RdS W p ws → Calls Tryd.prog 51 #[.slice p ws.length c] W fun e w' => ∃ a b c' d : Int, e = .returned (.tuple #[.agg #[.int .i64 a, .int .i64 b, .int .i64 c', .int .i64 d], .bool false]) ∧ Below W.heap.size W w') := fun W p c h => (lin_any p c ws W h).mono fun e w' hh => by
                    obtain ⟨a, b, c', d, h1, _, h3⟩ := hh
                    rw [hrk] at h1
                    exact ⟨a, b, c', d, h1, h3⟩
                  have HE7 : Hid (rdE ws = 7) := rdE_no hrk
                  have HR : Hid (paX s = (7, (k : Int) + 1)) := by
                    have e2 : paA L (k + 1) = (7, (k : Int) + 1) := by rw [HP2.out, HE7.out]; rfl
                    show paX s = _
                    rw [HX.out, ← e2]
                    exact paA_stick L (k + 1) (by rw [e2]; simp) n (by omega)
                  have HR3 : Hid (paN s = 0) := by show _ = _; rw [HNN.out, HR.out, if_neg (by simp)]
                  clear hrk HP2 HE7
                  go_wp2_with (first
                    | (go_at_call 50; refine (HWd.out _).mono ?_; rintro e w3 ⟨vv, rfl, hg3, hb3⟩; obtain ⟨p, cap, rfl, hrd3⟩ := gotS_rd hg3; have HRD3 := Lib.hid hrd3; have HB3 := Lib.hid (hb.out.trans (hb3.mono hsr)); clear hg3 hrd3 hb3)
                    | (go_at_call 51; refine (HLN.out _ _ _ HRD3.out).mono ?_; rintro e w4 ⟨a, b, c', d, rfl, hb4⟩; have HB4 := Lib.hid (HB3.out.trans (hb4.mono HB3.out.size)); have hs4 := HB4.out.size; clear hb4))
                  go_ret3
                  refine ⟨.slice none 0 0, by rw [HR.out]; rfl, ?_, HBA.out.trans ((HB4.out.alloc hs4 _).mono hsA)⟩
                  rw [HR3.out]
                  exact gotR_nil _ _ _
                | true =>
                  obtain ⟨x0, hx0⟩ : ∃ x, x = nuI (wd ws 0) := ⟨_, rfl⟩
                  obtain ⟨x1, hx1⟩ : ∃ x, x = nuI (wd ws 1) := ⟨_, rfl⟩
                  obtain ⟨x2, hx2⟩ : ∃ x, x = nuI (wd ws 2) := ⟨_, rfl⟩
                  obtain ⟨x3, hx3⟩ : ∃ x, x = flG (wd ws 3) := ⟨_, rfl⟩
                  have HLN : Hid (∀ W p c, RdS W p ws → Calls Tryd.prog 51 #[.slice p ws.length c] W fun e w' => e = .returned (.tuple #[.agg #[.int .i64 x0, .int .i64 x1, .int .i64 x2, .int .i64 x3], .bool true]) ∧ Below W.heap.size W w') := fun W p c h => (lin_any p c ws W h).mono fun e w' hh => by
                    obtain ⟨a, b, c', d, h1, h2, h3⟩ := hh
                    obtain ⟨rfl, rfl, rfl, rfl⟩ := h2 hrk
                    rw [hrk] at h1
                    rw [hx0, hx1, hx2, hx3]
                    exact ⟨h1, h3⟩
                  have HEQ : Hid (rdE ws = ckG x0 x1 x2 x3) := by show rdE ws = _; unfold rdE; rw [if_pos hrk, hx0, hx1, hx2, hx3]
                  have HRV : Hid (rdV ws = mkR x0 x1 x2 x3) := by show rdV ws = _; unfold rdV; rw [hx0, hx1, hx2, hx3]
                  have HCK := Lib.hid (fun W => gck_any x0 x1 x2 x3 W)
                  clear hrk hx0 hx1 hx2 hx3
                  obtain ⟨cd, hcd⟩ : ∃ cd, cd = ckG x0 x1 x2 x3 := ⟨_, rfl⟩
                  rw [← hcd] at HEQ HCK
                  rw [HEQ.out] at HP2
                  clear hcd
                  by_cases hc0 : cd = 0
                  · subst hc0
                    have HP3 : Hid (paA L (k + 1) = (0, 0)) := by show _ = _; rw [HP2.out]; rfl
                    clear HP2 HEQ
                    go_wp2_with (first
                      | (go_at_call 50; refine (HWd.out _).mono ?_; rintro e w3 ⟨vv, rfl, hg3, hb3⟩; obtain ⟨p, cap, rfl, hrd3⟩ := gotS_rd hg3; have HRD3 := Lib.hid hrd3; have HB3 := Lib.hid (hb.out.trans (hb3.mono hsr)); have HG3 := Lib.hid (gotR_kept hgot.out hb3); clear hg3 hrd3 hb3)
                      | (go_at_call 51; refine (HLN.out _ _ _ HRD3.out).mono ?_; rintro e w4 ⟨rfl, hb4⟩; have HB4 := Lib.hid (HB3.out.trans (hb4.mono HB3.out.size)); have HG4 := Lib.hid (gotR_kept HG3.out hb4); have hs4 := HB4.out.size; clear hb4)
                      | (go_at_call 19; refine (HCK.out _).mono ?_; rintro e w5 ⟨rfl, hb5⟩; have hb6 := (Bx4.new w4 x0 x1 x2 x3).up hb5; obtain ⟨d0, d1, d2, d3⟩ := hb6.cells; have HG5 := Lib.hid (gotR_kept (World.ownsRow.alloc HG4.out _) hb5); have HB5 := Lib.hid ((HB4.out.alloc hs4 _).trans (hb5.mono (by simp; omega))); have hs5 := HB5.out.size; clear hb5 hb6)
                      | (at_builtin; have HA := Lib.hid (World.ownsRow.alloc HG5.out (.cells #[.int .i64 x0, .int .i64 x1, .int .i64 x2, .int .i64 x3] 23)); refine wpList_append_own _ rfl _ _ 29 rfl W1.heap.size 23 i0 (.agg #[.int .i64 0, .int .i64 0, .int .i64 0, .int .i64 0]) 4 32 Tryd.underlying29 hi hz0 hz1 hz2 rfl (by decide) v m _ rfl HA.out ⟨w5.heap.size, 0, none⟩ 1 1 [.int .i64 x0, .int .i64 x1, .int .i64 x2, .int .i64 x3] rfl rfl (cell_four _ _ _ _ _ _) (by intro u hu; simp at hu; rcases hu with rfl | rfl | rfl | rfl <;> rfl) (by unfold maxLen; omega) (by omega) (by simp; omega) ?_; intro v' w9 hown' hgrow hnil; have H9 := Lib.hid (gotR_next hown'); have hb9 := Lib.hid (below_own (HB5.out.alloc hs5 _) (Nat.le_refl _) hgrow (fun j hj => gotR_block HG5.out j hj)); clear hown' hgrow hnil HA))
                    go_roundw
                    case rel => exact ⟨k + 1, m + 1, _, rfl, by omega, by go_num, by omega, HS2, HP3, by rw [HR2.out, HRV.out]; exact H9, hb9⟩
                    case measure => simp [intOf]; omega
                  · have HR : Hid (paX s = (cd, (k : Int) + 1)) := by
                      have e2 : paA L (k + 1) = (cd, (k : Int) + 1) := by rw [HP2.out, if_pos hc0]
                      show paX s = _
                      rw [HX.out, ← e2]
                      exact paA_stick L (k + 1) (by rw [e2]; exact hc0) n (by omega)
                    have HR3 : Hid (paN s = 0) := by show _ = _; rw [HNN.out, HR.out, if_neg hc0]
                    have hcn : (cd != 0) = true := by simpa using hc0
                    clear hc0 HP2 HEQ
                    go_wp2_with (first
                      | (go_at_call 50; refine (HWd.out _).mono ?_; rintro e w3 ⟨vv, rfl, hg3, hb3⟩; obtain ⟨p, cap, rfl, hrd3⟩ := gotS_rd hg3; have HRD3 := Lib.hid hrd3; have HB3 := Lib.hid (hb.out.trans (hb3.mono hsr)); clear hg3 hrd3 hb3)
                      | (go_at_call 51; refine (HLN.out _ _ _ HRD3.out).mono ?_; rintro e w4 ⟨rfl, hb4⟩; have HB4 := Lib.hid (HB3.out.trans (hb4.mono HB3.out.size)); have hs4 := HB4.out.size; clear hb4)
                      | (go_at_call 19; refine (HCK.out _).mono ?_; rintro e w5 ⟨rfl, hb5⟩; have HB5 := Lib.hid ((HB4.out.alloc hs4 _).trans (hb5.mono (by simp; omega))); clear hb5))
                    go_ret3
                    refine ⟨.slice none 0 0, by rw [HR.out]; rfl, ?_, HBA.out.trans (HB5.out.mono hsA)⟩
                    rw [HR3.out]
                    exact gotR_nil _ _ _
            · obtain rfl : k = n := by omega
              have HR : Hid (paN s = m) := by show _ = _; rw [HNN.out, HX.out, hpa.out, hcm.out]; rfl
              go_wp2
              go_ret3
              refine ⟨v, by rw [HX.out, hpa.out]; rfl, ?_, HBA.out.trans (hb.out.mono hsA)⟩
              rw [HR.out]
              exact gotR_mono hgot.out hsA
end Go.Proofs.YtlelcooomfcbaaaDoor.Gg

/-
  The contract of the program's Parse.
-/
import Derived.Test.YtlelcooomfcbaaaDoorGpRdg
import Derived.Deep.Onto
import Derived.Test.YtlelcooomfcbaaaDoorGgRead
namespace Go.Proofs.YtlelcooomfcbaaaDoor.Gg
open Go.ChangeShapes Go.WideShapes Go.ChangeAt Go.RowKit
set_option linter.unusedVariables false

/-- The error of line k; the first error of the first k lines and its line. -/
def paE (L : List ByteArray) (k : Nat) : Int := if 0 < (lw L k).length then rdE (lw L k) else 0
def paA (L : List ByteArray) : Nat → Int × Int
  | 0 => (0, 0)
  | k + 1 => if (paA L k).1 ≠ 0 then paA L k else if paE L k ≠ 0 then (paE L k, (k : Int) + 1) else (0, 0)
theorem paA_stick (L : List ByteArray) (k : Nat) (h : (paA L k).1 ≠ 0) : ∀ m, k ≤ m → paA L m = paA L k
  | 0, hn => by obtain rfl : k = 0 := by omega
                rfl
  | m + 1, hn => by
    by_cases e : k = m + 1
    · rw [e]
    · have ih := paA_stick L k h m (by omega)
      show (if (paA L m).1 ≠ 0 then paA L m else _) = _
      rw [if_pos (by rw [ih]; exact h), ih]
theorem paA_next (L : List ByteArray) (k : Nat) (h : paA L k = (0, 0)) : paA L (k + 1) = if paE L k ≠ 0 then (paE L k, (k : Int) + 1) else (0, 0) := by
  show (if (paA L k).1 ≠ 0 then paA L k else _) = _
  rw [if_neg (by simp [h])]
/-- The readings of the first k lines. -/
def paR (L : List ByteArray) : Nat → Nat → Nat → Int
  | 0 => fun _ _ => 0
  | k + 1 => if 0 < (lw L k).length then updR (paR L k) (cwG L k) (rdV (lw L k)) else paR L k
def paX (s : ByteArray) : Int × Int := if 65536 < s.size then (10, 0) else if 4096 < cwG (linesG s) (linesG s).length then (10, 0) else paA (linesG s) (linesG s).length
def paN (s : ByteArray) : Nat := if (paX s).1 = 0 then cwG (linesG s) (linesG s).length else 0
theorem lines_ok (s : ByteArray) (hs : s.size ≤ 1000000000) : LnOk (linesG s) := fun l hl => ⟨(lines_nonl s l hl).1, Nat.le_trans (lines_nonl s l hl).2 hs⟩
theorem lw_ok (L : List ByteArray) (hL : LnOk L) (k : Nat) (hk : k < L.length) : WOk (lw L k) ∧ (lw L k).length ≤ 1000000001 := by
  rw [lw_at L k hk]
  have h := (hL.at k hk).2
  exact ⟨fun x hx => ⟨(words_ne _ x hx).1, Nat.le_trans (words_ne _ x hx).2 h⟩, Nat.le_trans (words_len _) (by omega)⟩
theorem gotR_mono {w : World} {b b' : Nat} {v : Value} {n : Nat} {R : Nat → Nat → Int} (h : GotR w b v n R) (hb : b' ≤ b) : GotR w b' v n R := World.ownsRow.mono h hb
theorem lines_pos (s : ByteArray) : 0 < (linesG s).length := by
  rcases idx_cases s with ⟨_, h⟩ | ⟨i, _, h1, h2, h3⟩
  · rw [lines_miss s h]; simp
  · rw [lines_hit s i h1 h2 h3]; simp
theorem cwG_up (L : List ByteArray) (k : Nat) : ∀ m, k ≤ m → cwG L k ≤ cwG L m
  | 0, h => by obtain rfl : k = 0 := by omega
               exact Nat.le_refl _
  | m + 1, h => by
    by_cases e : k = m + 1
    · rw [e]; exact Nat.le_refl _
    · exact Nat.le_trans (cwG_up L k m (by omega)) (cwG_mono L m)

set_option maxRecDepth 100000 in
set_option maxHeartbeats 4000000 in
theorem pparse_any (s : ByteArray) (w : World) (hw : FlW w) (h9 : s.size ≤ 1000000000) : Calls Tryd.prog 26 #[.string s] w (DeP w (paX s) (paN s) (paR (linesG s) (linesG s).length)) := by
  obtain ⟨i0, hi, hz0, hz1, hz2⟩ := info_parts Tryd.infoR
  by_cases hbig : 65536 < s.size
  · have HX : Hid (paX s = (10, 0)) := by show paX s = _; unfold paX; rw [if_pos hbig]
    have n1 : (65536 : Int) < (s.size : Int) := by omega
    go_enter Tryd.func26, Tryd.ntmps26
    go_wp2
    go_ret3
    refine ⟨.slice none 0 0, by rw [HX.out]; rfl, ?_, Below.refl _ _⟩
    unfold paN
    rw [HX.out]
    exact gotR_nil _ _ _
  · have n1 : ¬ (65536 : Int) < (s.size : Int) := by omega
    have HXX : Hid (paX s = if 4096 < cwG (linesG s) (linesG s).length then (10, 0) else paA (linesG s) (linesG s).length) := by show paX s = _; unfold paX; rw [if_neg hbig]
    have HNN : Hid (paN s = if (paX s).1 = 0 then cwG (linesG s) (linesG s).length else 0) := rfl
    have HSP := Lib.hid (split_nl s w (by omega))
    have HTS := Lib.hid (ts_split s w)
    have HLO := Lib.hid (lines_ok s h9)
    have hlen := lines_len s
    have hpos := lines_pos s
    have HW := Lib.hid hw
    clear hw hbig
    generalize linesG s = L at *
    have HBA : Hid (Below w.heap.size w (w.alloc (.cells (L.map Value.string).toArray 9))) := (Below.refl _ _).alloc (Nat.le_refl _) _
    have HSA : Hid ((w.alloc (.cells (L.map Value.string).toArray 9)).heap.size = w.heap.size + 1) := by show _ = _; simp
    obtain ⟨W1, hW1⟩ : ∃ W1, W1 = w.alloc (.cells (L.map Value.string).toArray 9) := ⟨_, rfl⟩
    rw [← hW1] at HSP HTS HBA HSA
    clear hW1
    obtain ⟨n, hN⟩ : ∃ n, L.length = n := ⟨_, rfl⟩
    rw [hN] at HSP hlen hpos HXX HNN ⊢
    have HN := Lib.hid hN
    have HCW : Hid (Calls Tryd.prog 46 #[.slice (some ⟨w.heap.size, 0, none⟩) n n] W1 fun e w' => e = .returned (.int .i64 (cwG L n)) ∧ Below W1.heap.size W1 w') := by
      have h := cww_some w.heap.size n L W1 HTS.out HLO.out (by omega)
      rw [hN] at h
      exact h
    clear hN
    by_cases hcw : 4096 < cwG L n
    · have HX : Hid (paX s = (10, 0)) := by show paX s = _; rw [HXX.out, if_pos hcw]
      generalize cwG L n = cw at *
      have n2 : (4096 : Int) < (cw : Int) := by omega
      go_enter Tryd.func26, Tryd.ntmps26
      go_wp2_with (first
        | (go_at_call 45; refine HSP.out.mono ?_; rintro e w' ⟨rfl, hw1⟩; rw [hw1]; clear hw1)
        | (go_at_call 46; refine HCW.out.mono ?_; rintro e w2 ⟨rfl, hb2⟩))
      go_ret3
      refine ⟨.slice none 0 0, by rw [HX.out]; rfl, ?_, HBA.out.trans (hb2.mono (by rw [HSA.out]; omega))⟩
      rw [HNN.out, HX.out]
      exact gotR_nil _ _ _
    · have HX : Hid (paX s = paA L n) := by show paX s = _; rw [HXX.out, if_neg hcw]
      have HCL : Hid (∀ k, k ≤ n → cwG L k ≤ 4096) := fun k hk => Nat.le_trans (cwG_up L k n hk) (by omega)
      obtain ⟨cw, hcwe⟩ : ∃ cw, cwG L n = cw := ⟨_, rfl⟩
      rw [hcwe] at HCW hcw
      have n2 : ¬ (4096 : Int) < (cw : Int) := by omega
      clear HXX hcwe hcw
      go_enter Tryd.func26, Tryd.ntmps26
      go_wp2_with (first
        | (go_at_call 45; refine HSP.out.mono ?_; rintro e w' ⟨rfl, hw1⟩; rw [hw1]; clear hw1)
        | (go_at_call 46; refine HCW.out.mono ?_; rintro e w2 ⟨rfl, hb2⟩; have HB2 := Lib.hid hb2; clear hb2 HCW HSP))
      go_loopw [6, 22] (fun v i wr => ∃ (k m : Nat) (V : Value), V = v ∧ k ≤ n ∧ i = .int .i64 k ∧ m ≤ k ∧ Hid (cwG L k = m) ∧ Hid (paA L k = (0, 0)) ∧ Hid (GotR wr W1.heap.size v m (paR L k)) ∧ Hid (Below W1.heap.size W1 wr)) (fun _ i _ => n - (intOf i).toNat)
      case atStart => exact ⟨0, 0, _, rfl, Nat.zero_le _, rfl, Nat.le_refl _, rfl, rfl, gotR_nil _ _ _, HB2.out⟩
      case round =>
        obtain ⟨k, m, v, rfl, hk, rfl, hmk, hcm, hpa, hgot, hb⟩ := hrel
        by_cases hkn : k < n
        · have hki : (k : Int) < (n : Int) := by omega
          have hki2 : (k : Int) ≤ 65536 := by omega
          have hmi : m ≤ 4096 := by rw [← hcm.out]; exact HCL.out k hk
          have hkL : k < L.length := by rw [HN.out]; exact hkn
          have c0 := (HTS.out.up hb.out (Nat.le_refl _)).2 k hkL
          rw [Nat.zero_add] at c0
          have HWd : Hid (∀ W, Calls Tryd.prog 47 #[.string L[k]] W (GsP W (lw L k))) := by
            show ∀ W, _
            intro W
            rw [lw_at L k hkL]
            exact pwords_any _ W (HLO.out.at k hkL).2 (HLO.out.at k hkL).1
          have HOK := Lib.hid (lw_ok L HLO.out k hkL)
          have HS : Hid (cwG L (k + 1) = if 0 < (lw L k).length then m + 1 else m) := by
            show (if 0 < (lw L k).length then cwG L k + 1 else cwG L k) = _
            rw [hcm.out]
          have HPN := Lib.hid (paA_next L k hpa.out)
          have HPE : Hid (paE L k = if 0 < (lw L k).length then rdE (lw L k) else 0) := rfl
          have HPR : Hid (paR L (k + 1) = if 0 < (lw L k).length then updR (paR L k) m (rdV (lw L k)) else paR L k) := by
            show (if 0 < (lw L k).length then updR (paR L k) (cwG L k) (rdV (lw L k)) else paR L k) = _
            rw [hcm.out]
          have HWr : Hid (FlW wr) := HW.out.up (HBA.out.trans (hb.out.mono (by rw [HSA.out]; omega))) (Nat.le_refl _)
          have hsr := hb.out.size
          generalize lw L k = ws at *
          generalize L[k] = ln at c0 HWd
          by_cases h0 : ws.length = 0
          · have e1 : ((ws.length : Int) == 0) = true := by rw [beq_iff_eq]; omega
            have HS2 : Hid (cwG L (k + 1) = m) := by show _ = _; rw [HS.out, if_neg (by omega)]
            have HP2 : Hid (paA L (k + 1) = (0, 0)) := by show _ = _; rw [HPN.out, show paE L k = 0 by rw [HPE.out, if_neg (by omega)], if_neg (by simp)]
            have HR2 : Hid (paR L (k + 1) = paR L k) := by show _ = _; rw [HPR.out, if_neg (by omega)]
            clear HS HPN HPE HPR h0 HOK HWr hkL hcm hpa
            go_wp2_with (go_at_call 47; refine (HWd.out _).mono ?_; rintro e w3 ⟨vv, rfl, hg3, hb3⟩; obtain ⟨p, cap, rfl, _⟩ := gotS_rd hg3; have HB3 := Lib.hid (hb.out.trans (hb3.mono hsr)); have HG3 := Lib.hid (gotR_kept hgot.out hb3); clear hg3 hb3)
            go_roundw
            case rel => exact ⟨k + 1, m, _, rfl, by omega, by go_num, by omega, HS2, HP2, by rw [HR2.out]; exact HG3, HB3⟩
            case measure => simp [intOf]; omega
          · have e1 : ((ws.length : Int) == 0) = false := by rw [beq_eq_false_iff_ne]; omega
            have HS2 : Hid (cwG L (k + 1) = m + 1) := by show _ = _; rw [HS.out, if_pos (by omega)]
            have HP2 : Hid (paA L (k + 1) = if rdE ws ≠ 0 then (rdE ws, (k : Int) + 1) else (0, 0)) := by show _ = _; rw [HPN.out, show paE L k = rdE ws by rw [HPE.out, if_pos (by omega)]]
            have HR2 : Hid (paR L (k + 1) = updR (paR L k) m (rdV ws)) := by show _ = _; rw [HPR.out, if_pos (by omega)]
            have HRG : Hid (∀ W p c, RdS W p ws → FlW W → Calls Tryd.prog 48 #[.slice p ws.length c] W (RgP W ws)) := fun W p c h1 h2 => prdg_any p c ws W h1 h2 HOK.out.1 (by have := HOK.out.2; omega)
            clear HS HPN HPE HPR h0 hkL hcm hpa
            obtain ⟨cd, hcd⟩ : ∃ cd, rdE ws = cd := ⟨_, rfl⟩
            have HCD := Lib.hid hcd
            rw [hcd] at HP2
            clear hcd
            by_cases hc0 : cd = 0
            · have HP3 : Hid (paA L (k + 1) = (0, 0)) := by show _ = _; rw [HP2.out, hc0]; rfl
              have HC0 : Hid (rdE ws = 0) := by show _ = _; rw [HCD.out, hc0]
              subst hc0
              go_wp2_with (first
                | (go_at_call 47; refine (HWd.out _).mono ?_; rintro e w3 ⟨vv, rfl, hg3, hb3⟩; obtain ⟨p, cap, rfl, hrd3⟩ := gotS_rd hg3; have HRD3 := Lib.hid hrd3; have HB3 := Lib.hid (hb.out.trans (hb3.mono hsr)); have HG3 := Lib.hid (gotR_kept hgot.out hb3); have HW3 := Lib.hid (HWr.out.up hb3 (Nat.le_refl _)); clear hg3 hrd3 hb3)
                | (go_at_call 48; refine (HRG.out _ _ _ HRD3.out HW3.out).mono ?_; rintro e w4 ⟨a, b, c, d, rfl, hv4, hb4⟩; rw [HCD.out]; have HV4 := Lib.hid (hv4 HC0.out); have HB4 := Lib.hid (HB3.out.trans (hb4.mono HB3.out.size)); have HG4 := Lib.hid (gotR_kept HG3.out hb4); have hs4 := HB4.out.size; clear hv4 hb4)
                | (at_builtin; have HA := Lib.hid (World.ownsRow.alloc (World.ownsRow.alloc HG4.out (.cells #[.int .i64 a, .int .i64 b, .int .i64 c, .int .i64 d] 23)) (.cells #[.int .i64 a, .int .i64 b, .int .i64 c, .int .i64 d] 23)); refine wpList_append_own _ rfl _ _ 29 rfl W1.heap.size 23 i0 (.agg #[.int .i64 0, .int .i64 0, .int .i64 0, .int .i64 0]) 4 32 Tryd.underlying29 hi hz0 hz1 hz2 rfl (by decide) v m _ rfl HA.out ⟨w4.heap.size + 1, 0, none⟩ 1 1 [.int .i64 a, .int .i64 b, .int .i64 c, .int .i64 d] rfl rfl (cell_fourN _ _ (by simp) _ _ _ _ _) (by intro u hu; simp at hu; rcases hu with rfl | rfl | rfl | rfl <;> rfl) (by unfold maxLen; omega) (by omega) (by simp; omega) ?_; intro v' w9 hown' hgrow hnil; have H9 := Lib.hid (gotR_next hown'); have hb9 := Lib.hid (below_own ((HB4.out.alloc hs4 _).alloc (by simp; omega) _) (Nat.le_refl _) hgrow (fun j hj => gotR_block HG4.out j hj)); clear hown' hgrow hnil HA))
              go_roundw
              case rel => exact ⟨k + 1, m + 1, _, rfl, by omega, by go_num, by omega, HS2, HP3, by rw [HR2.out, HV4.out]; exact H9, hb9⟩
              case measure => simp [intOf]; omega
            · have HR : Hid (paX s = (cd, (k : Int) + 1)) := by
                have e2 : paA L (k + 1) = (cd, (k : Int) + 1) := by rw [HP2.out, if_pos hc0]
                show paX s = _
                rw [HX.out, ← e2]
                exact paA_stick L (k + 1) (by rw [e2]; exact hc0) n (by omega)
              have HR3 : Hid (paN s = 0) := by show _ = _; rw [HNN.out, HR.out, if_neg hc0]
              have hcn : (cd != 0) = true := by simpa using hc0
              clear hc0 HP2
              go_wp2_with (first
                | (go_at_call 47; refine (HWd.out _).mono ?_; rintro e w3 ⟨vv, rfl, hg3, hb3⟩; obtain ⟨p, cap, rfl, hrd3⟩ := gotS_rd hg3; have HRD3 := Lib.hid hrd3; have HB3 := Lib.hid (hb.out.trans (hb3.mono hsr)); have HW3 := Lib.hid (HWr.out.up hb3 (Nat.le_refl _)); clear hg3 hrd3 hb3)
                | (go_at_call 48; refine (HRG.out _ _ _ HRD3.out HW3.out).mono ?_; rintro e w4 ⟨a, b, c, d, rfl, hv4, hb4⟩; rw [HCD.out]; have HB4 := Lib.hid (HB3.out.trans (hb4.mono HB3.out.size)); have hs4 := HB4.out.size; clear hv4 hb4))
              go_ret3
              refine ⟨.slice none 0 0, by rw [HR.out]; rfl, ?_, HBA.out.trans ((HB4.out.alloc hs4 _).mono (by rw [HSA.out]; omega))⟩
              rw [HR3.out]
              exact gotR_nil _ _ _
        · obtain rfl : k = n := by omega
          have HR : Hid (paN s = m) := by show _ = _; rw [HNN.out, HX.out, hpa.out, hcm.out]; rfl
          go_wp2
          go_ret3
          refine ⟨v, by rw [HX.out, hpa.out]; rfl, ?_, HBA.out.trans (hb.out.mono (by rw [HSA.out]; omega))⟩
          rw [HR.out]
          exact gotR_mono hgot.out (by rw [HSA.out]; omega)
end Go.Proofs.YtlelcooomfcbaaaDoor.Gg

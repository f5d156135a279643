/-
  The contract of Fill of package quality.
-/
import Derived.Test.YtkflgiopkopeeaaQlFil
import Derived.Test.YtkflgiopkopeeaaQlVrd
namespace Go.Proofs.Ytkflgiopkopeeaa.Ql
open Go.ChangeShapes Go.WideShapes Go.ChangeAt Go.RowKit Go.Shelf Go.Sort
open Go.Proofs.Ytkflgiopkopeeaa.Ca (inB inB_yes inB_no Rd)
open Go.Proofs.Ytkflgiopkopeeaa.Cu (grown_trans grown_refl updF updF_same updF_other)
set_option linter.unusedVariables false

/-- The error of Fill, how many values it returns. -/
def flE (V : Nat → Int) (n m : Nat) (last : Int) : Int := if n ≠ m then 3 else if alF V n = true then (if inB last 1073741824 = true then 0 else 1) else 1
def flN (V : Nat → Int) (n m : Nat) (last : Int) : Nat := if flE V n m last = 0 then n else 0
theorem fl_len {V : Nat → Int} {n m : Nat} {last : Int} (h : n ≠ m) : flE V n m last = 3 ∧ flN V n m last = 0 := by
  have e : flE V n m last = 3 := if_pos h
  exact ⟨e, by unfold flN; rw [e]; rfl⟩
theorem fl_no {V : Nat → Int} {n : Nat} {last : Int} (h : alF V n = false) : flE V n n last = 1 ∧ flN V n n last = 0 := by
  have e : flE V n n last = 1 := by unfold flE; rw [if_neg (by simp), h]; rfl
  exact ⟨e, by unfold flN; rw [e]; rfl⟩
theorem fl_last {V : Nat → Int} {n : Nat} {last : Int} (h : alF V n = true) (h2 : inB last 1073741824 = false) : flE V n n last = 1 ∧ flN V n n last = 0 := by
  have e : flE V n n last = 1 := by unfold flE; rw [if_neg (by simp), h, h2]; rfl
  exact ⟨e, by unfold flN; rw [e]; rfl⟩
theorem fl_ok {V : Nat → Int} {n : Nat} {last : Int} (h : alF V n = true) (h2 : inB last 1073741824 = true) : flE V n n last = 0 ∧ flN V n n last = n := by
  have e : flE V n n last = 0 := by unfold flE; rw [if_neg (by simp), h, h2]; rfl
  exact ⟨e, by unfold flN; rw [e]; rfl⟩

def ClP (w : World) (n : Nat) (V : Nat → Int) (e : Ending) (w' : World) : Prop := ∃ g cap, e = .returned (.slice (some ⟨g, 0, none⟩) n cap) ∧ w.heap.size ≤ g ∧ n ≤ cap ∧ Cz w' g n V ∧ Below w.heap.size w w'
theorem clone_some (b off n c : Nat) (V : Nat → Int) (w : World) (hn0 : 0 < n) (hn : n ≤ 1000) (hc : ∀ i, i < n → w.cell? ⟨b, off + i, none⟩ = some (.int .i64 (V i))) :
    Calls Try.prog 43 #[.slice (some ⟨b, off, none⟩) n c] w (ClP w n V) := by
  have hl : ((List.range n).map V).length = n := by simp
  have hg : ∀ i, i < n → ((List.range n).map V).getD i 0 = V i := fun i hi => by rw [List.getD_eq_getElem?_getD, List.getElem?_map, List.getElem?_range hi]; rfl
  refine Calls.mono (Any.slices_Clone_int Try.cloneL b off n c ((List.range n).map V) w (by rw [hl]; exact Nat.le_refl _) (by omega) (fun j hj => by rw [hg j (by rw [hl] at hj; exact hj)]; exact hc j (by rw [hl] at hj; exact hj))) ?_
  rintro e w' ⟨v', rfl, hown, hnn, hb⟩
  rw [List.take_of_length_le (by rw [hl]; exact Nat.le_refl _)] at hown
  obtain ⟨g, cap, rfl, hbg, hgl, hncap, hcm, hlen, hH⟩ := Lib.holds_of_ownsRow hown hnn
  refine ⟨g, cap, rfl, hbg, hncap, ⟨hgl, fun i hi => ?_⟩, hb⟩
  obtain ⟨e1, e2⟩ := hH i (by simpa using hi)
  rw [Nat.zero_add] at e1 e2
  refine ⟨?_, e2⟩
  rw [e1]
  simp [List.getElem?_range hi]
theorem clone_zero (p : Option Addr) (c : Nat) (w : World) : Calls Try.prog 43 #[.slice p 0 c] w fun e w' => ∃ p' c', e = .returned (.slice p' 0 c') ∧ (∀ b off, p' = some ⟨b, off, none⟩ → w.heap.size ≤ b) ∧ Below w.heap.size w w' := by
  cases p with
  | none =>
    refine Calls.mono (Any.slices_Clone_int_nil Try.cloneL 0 c w) ?_
    rintro e w' ⟨rfl, rfl⟩
    exact ⟨_, _, rfl, (fun b off e => by cases e), Below.refl _ _⟩
  | some a =>
    refine Calls.mono (Any.slices_Clone_int_zero Try.cloneL a c w) ?_
    rintro e w' ⟨v', rfl, hown, hnn, hb⟩
    rcases hown.2 with ⟨h, _⟩ | ⟨g, cap, cur, rfl, hbg, _⟩
    · exact absurd h hnn
    · exact ⟨_, _, rfl, (fun b off e => by cases e; exact hbg), hb⟩

/-- How far the row is filled ahead of index k. -/
def prF (V : Nat → Int) (G : Nat → Bool) (n : Nat) (last : Int) (k j : Nat) : Int := if (j : Int) ≤ bfI G k then fil V G n last j else V j
theorem pr_first {V : Nat → Int} {G : Nat → Bool} {n : Nat} {last : Int} {k : Nat} (hg : G k = true) (hb : bfI G k < 0) (j : Nat) : allF (prF V G n last k) 0 k last j = prF V G n last (k + 1) j := by
  unfold allF prF
  rw [bf_yes hg]
  by_cases h : j < k
  · rw [if_pos (by omega), if_pos (by omega)]
    have h1 := bf_gap G k j (by omega) h
    have h2 := bf_mid (G := G) (k := k) (j := j) (by omega) (by omega)
    rw [fil_before h1 (by omega)]
  · rw [if_neg (by omega), if_neg (by omega)]
    by_cases e : j = k
    · subst e; rw [if_pos (by omega), fil_good hg]
    · rw [if_neg (by omega)]
theorem pr_line {V : Nat → Int} {G : Nat → Bool} {n : Nat} {last : Int} {k b : Nat} (hg : G k = true) (hk : k < n) (hb : bfI G k = (b : Int)) (j : Nat) : linF (prF V G n last k) b (k - b) (k - b) j = prF V G n last (k + 1) j := by
  have hbd := bf_bd G k
  have hgb := bf_good G k (by omega)
  rw [hb] at hgb
  simp only [Int.toNat_natCast] at hgb
  unfold linF prF
  rw [bf_yes hg, hb]
  by_cases h : b < j ∧ j < k
  · rw [if_pos (by omega), if_pos (by omega), if_neg (by omega), if_pos (by omega), fil_good hgb, show b + (k - b) = k by omega]
    have h1 := bf_gap G k j (by omega) h.2
    have h2 := bf_mid (G := G) (k := k) (j := j) (by omega) (by omega)
    have h3 : afN G j (n - j) = k := af_of (by omega) (by omega) (fun i hi hi2 => bf_gap G k i (by omega) hi2) (fun _ => hg)
    rw [fil_mid h1 (by omega) (by omega), h2, hb, h3]
    simp only [Int.toNat_natCast]
    congr 1
    omega
  · rw [if_neg (by omega)]
    by_cases e : j ≤ b
    · rw [if_pos (by omega), if_pos (by omega)]
    · rw [if_neg (by omega)]
      by_cases e2 : j = k
      · subst e2; rw [if_pos (by omega), fil_good hg]
      · rw [if_neg (by omega)]
theorem pr_none {V : Nat → Int} {G : Nat → Bool} {n : Nat} {last : Int} (hb : bfI G n < 0) (j : Nat) (hj : j < n) : allF (prF V G n last n) 0 n last j = fil V G n last j := by
  unfold allF
  rw [if_pos (by omega)]
  have h1 := bf_gap G n j (by omega) hj
  have h2 := bf_mid (G := G) (k := n) (j := j) (by omega) (by omega)
  rw [fil_before h1 (by omega)]
theorem pr_last {V : Nat → Int} {G : Nat → Bool} {n : Nat} {last : Int} {b : Nat} (hb : bfI G n = (b : Int)) (j : Nat) (hj : j < n) : allF (prF V G n last n) (b + 1) (n - (b + 1)) (V b) j = fil V G n last j := by
  have hbd := bf_bd G n
  unfold allF prF
  rw [hb]
  by_cases h : j ≤ b
  · rw [if_neg (by omega), if_pos (by omega)]
  · rw [if_pos (by omega)]
    have h1 := bf_gap G n j (by omega) hj
    have h2 := bf_mid (G := G) (k := n) (j := j) (by omega) (by omega)
    have h3 : afN G j (n - j) = n := af_end (by omega) (fun i hi hi2 => bf_gap G n i (by omega) hi2)
    rw [fil_behind h1 (by omega) h3, h2, hb]
    simp only [Int.toNat_natCast]

set_option maxHeartbeats 1000000 in
theorem pfi_len (p q : Option Addr) (n m c d : Nat) (V : Nat → Int) (G : Nat → Bool) (last : Int) (w : World) (h : n ≠ m) (hn : n ≤ 1000) (hm : m ≤ 9223372036854775807) :
    Calls Try.prog 24 #[.slice p n c, .slice q m d, .int .i64 last] w (VdP (flE V n m last) (flN V n m last) (fil V G n last) w) := by
  rw [(fl_len (V := V) (last := last) h).1, (fl_len (V := V) (last := last) h).2]
  have e : ((n : Int) != (m : Int)) = true := by simp; omega
  go_enter Try.func24, Try.ntmps24
  go_wp2
  go_ret2
  exact vdp_bad (Below.refl _ _)
set_option maxHeartbeats 1000000 in
theorem pfi_no (p q : Option Addr) (n c d : Nat) (V : Nat → Int) (G : Nat → Bool) (last : Int) (w : World) (h : alF V n = false) (hn : n ≤ 1000) (hr : Rd w p n V) :
    Calls Try.prog 24 #[.slice p n c, .slice q n d, .int .i64 last] w (VdP (flE V n n last) (flN V n n last) (fil V G n last) w) := by
  rw [(fl_no (last := last) h).1, (fl_no (last := last) h).2]
  have HA := Lib.hid (parf_any p n c V w (by omega) hr)
  rw [h] at HA
  clear hr h
  go_enter Try.func24, Try.ntmps24
  go_wp2_with (go_at_call 42; refine HA.out.mono ?_; rintro e w' ⟨rfl, rfl⟩)
  go_ret2
  exact vdp_bad (Below.refl _ _)
set_option maxHeartbeats 1000000 in
theorem pfi_last (p q : Option Addr) (n c d : Nat) (V : Nat → Int) (G : Nat → Bool) (last : Int) (w : World) (h : alF V n = true) (h2 : inB last 1073741824 = false) (hn : n ≤ 1000) (hr : Rd w p n V) :
    Calls Try.prog 24 #[.slice p n c, .slice q n d, .int .i64 last] w (VdP (flE V n n last) (flN V n n last) (fil V G n last) w) := by
  rw [(fl_last h h2).1, (fl_last h h2).2]
  have HA := Lib.hid (parf_any p n c V w (by omega) hr)
  rw [h] at HA
  have HI := Lib.hid (fun W => pfl_any last W)
  rw [h2] at HI
  clear hr h h2
  go_enter Try.func24, Try.ntmps24
  go_wp2_with (first
    | (go_at_call 42; refine HA.out.mono ?_; rintro e w' ⟨rfl, rfl⟩)
    | (go_at_call 39; refine (HI.out _).mono ?_; rintro e w' ⟨rfl, rfl⟩))
  go_ret2
  exact vdp_bad (Below.refl _ _)
set_option maxHeartbeats 1000000 in
theorem pfi_zero (p q : Option Addr) (c d : Nat) (V : Nat → Int) (G : Nat → Bool) (last : Int) (w : World) (h2 : inB last 1073741824 = true) (hr : Rd w p 0 V) :
    Calls Try.prog 24 #[.slice p 0 c, .slice q 0 d, .int .i64 last] w (VdP (flE V 0 0 last) (flN V 0 0 last) (fil V G 0 last) w) := by
  rw [(fl_ok (V := V) (n := 0) rfl h2).1, (fl_ok (V := V) (n := 0) rfl h2).2]
  have HA := Lib.hid (parf_any p 0 c V w (by omega) hr)
  rw [show alF V 0 = true from rfl] at HA
  have HI := Lib.hid (fun W => pfl_any last W)
  rw [h2] at HI
  have HC := Lib.hid (clone_zero p c w)
  clear hr h2
  go_enter Try.func24, Try.ntmps24
  go_wp2_with (first
    | (go_at_call 42; refine HA.out.mono ?_; rintro e w' ⟨rfl, rfl⟩)
    | (go_at_call 39; refine (HI.out _).mono ?_; rintro e w' ⟨rfl, rfl⟩)
    | (go_at_call 43; refine HC.out.mono ?_; rintro e w1 ⟨p1, c1, rfl, hp1, hb1⟩; have HP1 := Lib.hid hp1; clear hp1; have HB1 := Lib.hid hb1; clear hb1))
  refine wp_loop_rounds 1 ?_
  rw [rounds_succ]
  cases p1
  all_goals
    go_wp2_with (go_at_call 44; refine (seta_none _ _ _ _).mono ?_; rintro e w' ⟨rfl, rfl⟩)
    go_ret2
    exact ⟨_, _, rfl, fun h => absurd h (Nat.lt_irrefl _), HP1.out, HB1.out⟩
set_option maxRecDepth 100000 in
set_option maxHeartbeats 4000000 in
theorem pfi_ok (b off : Nat) (q : Option Addr) (n c d : Nat) (V : Nat → Int) (G : Nat → Bool) (last : Int) (w : World) (h : alF V n = true) (h2 : inB last 1073741824 = true) (hn0 : 0 < n) (hn : n ≤ 1000) (hr : ∀ i, i < n → w.cell? ⟨b, off + i, none⟩ = some (.int .i64 (V i))) (hbl : b < w.heap.size) (hq : RdL w q n G) :
    Calls Try.prog 24 #[.slice (some ⟨b, off, none⟩) n c, .slice q n d, .int .i64 last] w (VdP (flE V n n last) (flN V n n last) (fil V G n last) w) := by
  rw [(fl_ok h h2).1, (fl_ok h h2).2]
  have HV := Lib.hid (alF_all h)
  have HA := Lib.hid (parf_any (some ⟨b, off, none⟩) n c V w (by omega) (fun _ => ⟨b, off, rfl, hbl, hr⟩))
  rw [h] at HA
  have HI := Lib.hid (fun W => pfl_any last W)
  rw [h2] at HI
  have HC := Lib.hid (clone_some b off n c V w hn0 hn hr)
  have HQ := Lib.hid hq
  clear hr h2 h hq
  have hni : (n : Int) ≤ 1000 := by omega
  have hni0 : (1 : Int) ≤ (n : Int) := by omega
  go_enter Try.func24, Try.ntmps24
  go_wp2_with (first
    | (go_at_call 42; refine HA.out.mono ?_; rintro e w' ⟨rfl, rfl⟩)
    | (go_at_call 39; refine (HI.out _).mono ?_; rintro e w' ⟨rfl, rfl⟩)
    | (go_at_call 43; refine HC.out.mono ?_; rintro e w1 ⟨g, cap, rfl, hbg, hcap, hcz, hb1⟩; have HB1 := Lib.hid hb1; have HZ1 := Lib.hid hcz; clear hb1 hcz))
  clear HA HI HC
  have HS0 : Hid (Cz w1 g n (prF V G n last 0)) := HZ1.out.congr (fun i _ => by unfold prF; rw [if_neg (by show ¬ (i : Int) ≤ -1; omega)])
  have hci : (n : Int) ≤ (cap : Int) := by omega
  clear HZ1
  go_loopw [9, 28] (fun x i wr => ∃ k : Nat, k ≤ n ∧ i = .int .i64 k ∧ x = .int .i64 (bfI G k) ∧ Hid (Cz wr g n (prF V G n last k)) ∧ Hid (Below w.heap.size w wr)) (fun _ i _ => n - (intOf i).toNat)
  case atStart => exact ⟨0, Nat.zero_le _, rfl, rfl, HS0, HB1⟩
  case round =>
    clear HS0 HB1
    obtain ⟨k, hk, rfl, rfl, hz, hb⟩ := hrel
    have hbd := bf_bd G k
    by_cases hlt : k < n
    · obtain ⟨b2, o2, rfl, l2, d2⟩ := (HQ.out.below hb.out (Nat.le_refl _)) (by omega)
      have e2 := d2 k hlt
      have hkn : (k : Int) < (n : Int) := by omega
      have hkc : (k : Int) ≤ (cap : Int) := by omega
      have hkc1 : (k : Int) + 1 ≤ (cap : Int) := by omega
      clear d2
      cases hg : G k with
      | false =>
        rw [hg] at e2
        have HN : Hid (bfI G (k + 1) = bfI G k) := bf_no hg
        have HZ : Hid (Cz wr g n (prF V G n last (k + 1))) := hz.out.congr (fun i _ => by unfold prF; rw [HN.out])
        clear hg
        go_wp2
        go_roundw
        case rel => exact ⟨k + 1, by omega, by go_num, by rw [HN.out], HZ, hb⟩
        case measure => simp [intOf]; omega
      | true =>
        rw [hg] at e2
        have HN : Hid (bfI G (k + 1) = (k : Int)) := bf_yes hg
        by_cases hneg : bfI G k < 0
        · have hm1 : bfI G k = -1 := by omega
          have HF := Lib.hid (pr_first (V := V) (n := n) (last := last) hg hneg)
          have HS := Lib.hid (seta_any g 0 k cap n last (prF V G n last k) wr hz.out (by omega) hn)
          rw [hm1]
          clear hg hneg hm1 hbd
          go_wp2_with (go_at_call 44; refine HS.out.mono ?_; rintro e w2 ⟨rfl, hz2, hg2⟩; have HZ2 : Hid (Cz w2 g n (prF V G n last (k + 1))) := hz2.congr (fun i _ => HF.out i); have HB2 := Lib.hid (below_grown hb.out (Nat.le_refl _) hg2 hbg); clear hz2 hg2)
          go_roundw
          case rel => exact ⟨k + 1, by omega, by go_num, by rw [HN.out], HZ2, HB2⟩
          case measure => simp [intOf]; omega
        · obtain ⟨b0, hb0⟩ : ∃ b0 : Nat, bfI G k = (b0 : Int) := ⟨(bfI G k).toNat, by omega⟩
          have HF := Lib.hid (pr_line (V := V) (n := n) (last := last) hg hlt hb0)
          have hbk : b0 < k := by omega
          have hv1 := HV.out b0 (by omega)
          have hv2 := HV.out k hlt
          have hgb : G b0 = true := by have := bf_good G k (by omega); rw [hb0] at this; simpa using this
          have p1 : prF V G n last k b0 = V b0 := by unfold prF; rw [if_pos (by omega), fil_good hgb]
          have p2 : prF V G n last k (b0 + (k - b0)) = V k := by unfold prF; rw [if_neg (by omega), show b0 + (k - b0) = k by omega]
          have hD := draw_any g b0 (k - b0) (cap - b0) n (prF V G n last k) wr hz.out (by omega) (by omega) hn (by rw [p1]; exact hv1) (by rw [p2]; exact hv2)
          rw [show k - b0 + 1 = k + 1 - b0 by omega] at hD
          have HD := Lib.hid hD
          rw [hb0]
          clear hg hneg hb0 hbd hv1 hv2 hgb p1 p2 hD
          have hnc : ¬ cap = b0 := by omega
          have hbi : (b0 : Int) ≤ (k : Int) + 1 := by omega
          have hbe : ((b0 : Int) == -1) = false := by simp
          go_wp2_with (go_at_call 45; refine HD.out.mono ?_; rintro e w2 ⟨rfl, hz2, hg2⟩; have HZ2 : Hid (Cz w2 g n (prF V G n last (k + 1))) := hz2.congr (fun i _ => HF.out i); have HB2 := Lib.hid (below_grown hb.out (Nat.le_refl _) hg2 hbg); clear hz2 hg2)
          go_roundw
          case rel => exact ⟨k + 1, by omega, by go_num, by rw [HN.out], HZ2, HB2⟩
          case measure => simp [intOf]; omega
    · obtain rfl : k = n := by omega
      by_cases hneg : bfI G k < 0
      · have hm1 : bfI G k = -1 := by omega
        have HF := Lib.hid (pr_none (V := V) (last := last) hneg)
        have HS := Lib.hid (seta_any g 0 k cap k last (prF V G k last k) wr hz.out (by omega) hn)
        rw [hm1]
        clear hneg hm1 hbd
        go_wp2_with (go_at_call 44; refine HS.out.mono ?_; rintro e w2 ⟨rfl, hz2, hg2⟩; have HZ2 : Hid (Cz w2 g k (fil V G k last)) := hz2.congr HF.out; have HB2 := Lib.hid (below_grown hb.out (Nat.le_refl _) hg2 hbg); clear hz2 hg2)
        go_ret2
        exact ⟨_, _, rfl, fun _ => ⟨g, 0, rfl, HZ2.out.lt, fun i hi => by rw [Nat.zero_add]; exact (HZ2.out.c i hi).1⟩, (fun b off e => by cases e; exact hbg), HB2.out⟩
      · obtain ⟨b0, hb0⟩ : ∃ b0 : Nat, bfI G k = (b0 : Int) := ⟨(bfI G k).toNat, by omega⟩
        have HF := Lib.hid (pr_last (V := V) (last := last) hb0)
        have hgb : G b0 = true := by have := bf_good G k (by omega); rw [hb0] at this; simpa using this
        have hbk : b0 < k := by omega
        have e1 : wr.cell? ⟨g, b0, none⟩ = some (.int .i64 (V b0)) := by
          rw [(hz.out.c b0 hbk).1]
          unfold prF
          rw [if_pos (by omega), fil_good hgb]
        rw [hb0]
        clear hneg hb0 hbd hgb
        have hbi : (b0 : Int) + 1 ≤ (k : Int) := by omega
        have hbi2 : (b0 : Int) < (k : Int) := by omega
        have hbe : ((b0 : Int) != -1) = true := by simp
        have hbn : ((b0 : Int) == -1) = false := by simp
        by_cases hend : b0 + 1 = k
        · obtain ⟨A, hA⟩ : ∃ A : Option Addr, (if cap = b0 + 1 then some (⟨g, 0, none⟩ : Addr) else some ⟨g, b0 + 1, none⟩) = A := ⟨_, rfl⟩
          have hS := fun c => seta_none A c (V b0) wr
          rw [show (0 : Nat) = k - (b0 + 1) by omega] at hS
          have HS := Lib.hid hS
          have HZ2 : Hid (Cz wr g k (fil V G k last)) := hz.out.congr (fun i hi => by rw [← HF.out i hi]; unfold allF; rw [if_neg (by omega)])
          clear hS
          have HE := Lib.hid hend
          clear hend
          generalize V b0 = vb at *
          go_wp2_with (go_at_call 44; refine (HS.out _).mono ?_; rintro e w2 ⟨rfl, rfl⟩)
          go_ret2
          exact ⟨_, _, rfl, fun _ => ⟨g, 0, rfl, HZ2.out.lt, fun i hi => by rw [Nat.zero_add]; exact (HZ2.out.c i hi).1⟩, (fun b off e => by cases e; exact hbg), hb.out⟩
        · have HS := Lib.hid (seta_any g (b0 + 1) (k - (b0 + 1)) (cap - (b0 + 1)) k (V b0) (prF V G k last k) wr hz.out (by omega) hn)
          have hnc : ¬ cap = b0 + 1 := by omega
          generalize V b0 = vb at *
          go_wp2_with (go_at_call 44; refine HS.out.mono ?_; rintro e w2 ⟨rfl, hz2, hg2⟩; have HZ2 : Hid (Cz w2 g k (fil V G k last)) := hz2.congr HF.out; have HB2 := Lib.hid (below_grown hb.out (Nat.le_refl _) hg2 hbg); clear hz2 hg2)
          go_ret2
          exact ⟨_, _, rfl, fun _ => ⟨g, 0, rfl, HZ2.out.lt, fun i hi => by rw [Nat.zero_add]; exact (HZ2.out.c i hi).1⟩, (fun b off e => by cases e; exact hbg), HB2.out⟩
theorem pfi_any (p q : Option Addr) (n m c d : Nat) (V : Nat → Int) (G : Nat → Bool) (last : Int) (w : World) (hn : n ≤ 1000) (hm : m ≤ 9223372036854775807) (hr : Rd w p n V) (hq : RdL w q m G) :
    Calls Try.prog 24 #[.slice p n c, .slice q m d, .int .i64 last] w (VdP (flE V n m last) (flN V n m last) (fil V G n last) w) := by
  by_cases h : n = m
  · subst h
    cases h1 : alF V n with
    | false => exact pfi_no p q n c d V G last w h1 hn hr
    | true =>
      cases h2 : inB last 1073741824 with
      | false => exact pfi_last p q n c d V G last w h1 h2 hn hr
      | true =>
        by_cases h0 : n = 0
        · subst h0; exact pfi_zero p q c d V G last w h2 hr
        · obtain ⟨b, off, rfl, hbl, hc⟩ := hr (by omega)
          exact pfi_ok b off q n c d V G last w h1 h2 (by omega) hn hc hbl hq
  · exact pfi_len p q n m c d V G last w h hn hm
end Go.Proofs.Ytkflgiopkopeeaa.Ql

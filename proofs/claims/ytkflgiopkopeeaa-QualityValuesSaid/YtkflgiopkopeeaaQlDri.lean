/-
  The contracts of Drift of package quality and of the reference.
-/
import Derived.Test.YtkflgiopkopeeaaQlRfl
namespace Go.Proofs.Ytkflgiopkopeeaa.Ql
open Go.ChangeShapes Go.WideShapes Go.ChangeAt Go.RowKit
open Go.Proofs.Ytkflgiopkopeeaa.Ca (inB inB_yes inB_no Rd)
set_option linter.unusedVariables false

def dvG (A B : Nat → Int) (n m l : Nat) : Bool := decide (n = m ∧ n = l) && (alF A n && alF B n)
def dvI (A B : Nat → Int) (G : Nat → Bool) (n m l : Nat) : Int := if dvG A B n m l = true then drI A B G n else 0
def dvB (A B : Nat → Int) (G : Nat → Bool) (n m l : Nat) : Bool := if dvG A B n m l = true then drB G n else false
def dvE (A B : Nat → Int) (n m l : Nat) : Int := if n = m ∧ n = l then (if alF A n && alF B n then 0 else 1) else 3
def DrP (x : Int) (b : Bool) (E : Int) (w : World) (e : Ending) (w' : World) : Prop := e = .returned (.tuple #[.int .i64 x, .bool b, .int .i64 E]) ∧ Below w.heap.size w w'
theorem dr_zero {A B : Nat → Int} {G : Nat → Bool} {n : Nat} (h : ctD G n = 0) : drI A B G n = 0 ∧ drB G n = false := ⟨if_pos h, by unfold drB; simp [h]⟩
theorem dr_some {A B : Nat → Int} {G : Nat → Bool} {n : Nat} (h : ¬ ctD G n = 0) : drI A B G n = smD A B G n / ctD G n ∧ drB G n = true := ⟨if_neg h, by unfold drB; simp [h]⟩

set_option maxHeartbeats 1000000 in
theorem pdr_len1 (p q r : Option Addr) (n m l c d k : Nat) (w : World) (h : n ≠ m) (hn : n ≤ 1000) (hm : m ≤ 9223372036854775807) :
    Calls Try.prog 27 #[.slice p n c, .slice q m d, .slice r l k] w (DrP 0 false 3 w) := by
  have e : ((n : Int) != (m : Int)) = true := by simp; omega
  go_enter Try.func27, Try.ntmps27
  go_wp2
  go_ret3
  exact ⟨rfl, Below.refl _ _⟩
set_option maxHeartbeats 1000000 in
theorem pdr_len2 (p q r : Option Addr) (n m l c d k : Nat) (w : World) (h : n = m) (h2 : n ≠ l) (hn : n ≤ 1000) (hl : l ≤ 9223372036854775807) :
    Calls Try.prog 27 #[.slice p n c, .slice q m d, .slice r l k] w (DrP 0 false 3 w) := by
  subst h
  have e0 : ((n : Int) != (n : Int)) = false := by simp
  have e : ((n : Int) != (l : Int)) = true := by simp; omega
  go_enter Try.func27, Try.ntmps27
  go_wp2
  go_ret3
  exact ⟨rfl, Below.refl _ _⟩
set_option maxHeartbeats 1000000 in
theorem pdr_no (p q r : Option Addr) (n c d k : Nat) (A B : Nat → Int) (w : World) (h : (alF A n && alF B n) = false) (hn : n ≤ 1000) (ha : Rd w p n A) (hb : Rd w q n B) :
    Calls Try.prog 27 #[.slice p n c, .slice q n d, .slice r n k] w (DrP 0 false 1 w) := by
  have HA := Lib.hid (fun c => parf_any p n c A w (by omega) ha)
  have HB := Lib.hid (fun c => parf_any q n c B w (by omega) hb)
  have e0 : ((n : Int) != (n : Int)) = false := by simp
  cases h1 : alF A n with
  | false =>
    rw [h1] at HA
    clear ha hb h h1 HB
    go_enter Try.func27, Try.ntmps27
    go_wp2_with (go_at_call 42; refine (HA.out _).mono ?_; rintro e w' ⟨rfl, rfl⟩)
    go_ret3
    exact ⟨rfl, Below.refl _ _⟩
  | true =>
    rw [h1] at HA h
    have h2 : alF B n = false := by simpa using h
    rw [h2] at HB
    clear ha hb h h1 h2
    go_enter Try.func27, Try.ntmps27
    go_wp2_with (go_at_call 42; first
      | (refine (HA.out _).mono ?_; rintro e w' ⟨rfl, rfl⟩; clear HA)
      | (refine (HB.out _).mono ?_; rintro e w' ⟨rfl, rfl⟩; clear HB))
    go_ret3
    exact ⟨rfl, Below.refl _ _⟩
set_option maxRecDepth 100000 in
set_option maxHeartbeats 2000000 in
theorem pdr_ok (p q r : Option Addr) (n c d k0 : Nat) (A B : Nat → Int) (G : Nat → Bool) (w : World) (h1 : alF A n = true) (h2 : alF B n = true) (hn : n ≤ 1000) (ha : Rd w p n A) (hb : Rd w q n B) (hg : RdL w r n G) :
    Calls Try.prog 27 #[.slice p n c, .slice q n d, .slice r n k0] w (DrP (drI A B G n) (drB G n) 0 w) := by
  have HA := Lib.hid (fun c => parf_any p n c A w (by omega) ha)
  have HB := Lib.hid (fun c => parf_any q n c B w (by omega) hb)
  have HRA := Lib.hid ha
  have HRB := Lib.hid hb
  have HRG := Lib.hid hg
  have HVA := Lib.hid (alF_all h1)
  have HVB := Lib.hid (alF_all h2)
  have HSB := Lib.hid (sm_bd (A := A) (B := B) (G := G) (n := n) (fun i hi => ⟨alF_all h1 i hi, alF_all h2 i hi⟩))
  rw [h1] at HA
  rw [h2] at HB
  have e0 : ((n : Int) != (n : Int)) = false := by simp
  have hni : (n : Int) ≤ 1000 := by omega
  clear ha hb hg h1 h2
  go_enter Try.func27, Try.ntmps27
  go_wp2_with (go_at_call 42; first
    | (refine (HA.out _).mono ?_; rintro e w' ⟨rfl, rfl⟩; clear HA)
    | (refine (HB.out _).mono ?_; rintro e w' ⟨rfl, rfl⟩; clear HB))
  go_loopw [9, 10, 38] (fun s t i wr => ∃ j : Nat, j ≤ n ∧ i = .int .i64 j ∧ s = .int .i64 (smD A B G j) ∧ t = .int .i64 (ctD G j) ∧ Hid (∃ q, wr = w.drewN q)) (fun _ _ i _ => n - (intOf i).toNat)
  case atStart => exact ⟨0, Nat.zero_le _, rfl, rfl, rfl, 0, rfl⟩
  case round =>
    obtain ⟨j, hj, rfl, rfl, rfl, hw⟩ := hrel
    have hcb := ct_bd G j
    by_cases hlt : j < n
    · obtain ⟨b1, o1, rfl, l1, d1⟩ := HRA.out (by omega)
      obtain ⟨b2, o2, rfl, l2, d2⟩ := HRB.out (by omega)
      obtain ⟨b3, o3, rfl, l3, d3⟩ := HRG.out (by omega)
      obtain ⟨qq, hq⟩ := hw.out
      have e1 : wr.cell? ⟨b1, o1 + j, none⟩ = some (.int .i64 (A j)) := by rw [hq]; exact d1 j hlt
      have e2 : wr.cell? ⟨b2, o2 + j, none⟩ = some (.int .i64 (B j)) := by rw [hq]; exact d2 j hlt
      have e3 : wr.cell? ⟨b3, o3 + j, none⟩ = some (.bool (G j)) := by rw [hq]; exact d3 j hlt
      have hjn : (j : Int) < (n : Int) := by omega
      have hva := HVA.out j hlt
      have hvb := HVB.out j hlt
      have hsb := HSB.out j hj
      have HQ := Lib.hid hq
      clear d1 d2 d3 hq hw
      cases hgj : G j with
      | false =>
        rw [hgj] at e3
        have q1 : Hid (ctD G (j + 1) = ctD G j) := ct_no hgj
        have q2 : Hid (smD A B G (j + 1) = smD A B G j) := sm_no hgj
        clear hgj
        go_wp2
        go_roundw
        case rel => exact ⟨j + 1, by omega, by go_num, by rw [q2.out], by rw [q1.out], qq, HQ.out⟩
        case measure => simp [intOf]; omega
      | true =>
        rw [hgj] at e3
        have q1 : Hid (ctD G (j + 1) = ctD G j + 1) := ct_yes hgj
        have q2 : Hid (smD A B G (j + 1) = smD A B G j + (B j - A j)) := sm_yes hgj
        clear hgj
        generalize smD A B G j = sj at *
        generalize ctD G j = tj at *
        generalize A j = aj at *
        generalize B j = bj at *
        have k1 : IntKind.i64.wrap (bj - aj) = bj - aj := by rw [IntKind.wrap_i64]; omega
        have k2 : IntKind.i64.wrap (sj + (bj - aj)) = sj + (bj - aj) := by rw [IntKind.wrap_i64]; omega
        have k3 : IntKind.i64.wrap (sj + bj) = sj + bj := by rw [IntKind.wrap_i64]; omega
        have k4 : IntKind.i64.wrap (sj + bj - aj) = sj + bj - aj := by rw [IntKind.wrap_i64]; omega
        have k5 : IntKind.i64.wrap (tj + 1) = tj + 1 := by rw [IntKind.wrap_i64]; omega
        go_wp2
        go_quiet (fail)
        go_wp2
        go_roundw
        case rel => exact ⟨j + 1, by omega, by go_num, (by first | (rw [q2.out]; done) | (rw [q2.out, Int.add_sub_assoc])), by rw [q1.out], qq + nq, by rw [HQ.out, World.drewN_drewN]⟩
        case measure => simp [intOf]; omega
    · obtain rfl : j = n := by omega
      obtain ⟨qq, hq⟩ := hw.out
      have hsb := HSB.out j hj
      have HBL : Hid (Below w.heap.size w wr) := by show Below _ _ _; rw [hq]; exact Gg.below_drewN (Below.refl _ _) _
      clear hw hq
      by_cases hz : ctD G j = 0
      · obtain ⟨z1, z2⟩ := dr_zero (A := A) (B := B) hz
        have Z1 := Lib.hid z1
        have Z2 := Lib.hid z2
        clear z1 z2
        rw [hz]
        clear hz
        go_wp2
        go_ret3
        rw [Z1.out, Z2.out]
        exact ⟨rfl, HBL.out⟩
      · obtain ⟨z1, z2⟩ := dr_some (A := A) (B := B) hz
        have Z1 := Lib.hid z1
        have Z2 := Lib.hid z2
        have HF := Lib.hid (fun W => flo_any (smD A B G j) (ctD G j) W (by omega) (by omega))
        have hz2 : (ctD G j == 0) = false := by simp [hz]
        clear z1 z2 hz
        go_wp2_with (go_at_call 48; refine (HF.out _).mono ?_; rintro e w' ⟨rfl, rfl⟩)
        go_ret3
        rw [Z1.out, Z2.out]
        exact ⟨rfl, HBL.out⟩
theorem pdr_any (p q r : Option Addr) (n m l c d k : Nat) (A B : Nat → Int) (G : Nat → Bool) (w : World) (hn : n ≤ 1000) (hm : m ≤ 9223372036854775807) (hl : l ≤ 9223372036854775807) (ha : Rd w p n A) (hb : Rd w q m B) (hg : RdL w r l G) :
    Calls Try.prog 27 #[.slice p n c, .slice q m d, .slice r l k] w (DrP (dvI A B G n m l) (dvB A B G n m l) (dvE A B n m l) w) := by
  by_cases h : n = m
  · by_cases h2 : n = l
    · subst h; subst h2
      cases h3 : (alF A n && alF B n) with
      | false =>
        have e1 : dvG A B n n n = false := by unfold dvG; rw [h3]; simp
        have e2 : dvE A B n n n = 1 := by unfold dvE; rw [if_pos ⟨rfl, rfl⟩, h3]; rfl
        unfold dvI dvB
        rw [e1, e2]
        exact pdr_no p q r n c d k A B w h3 hn ha hb
      | true =>
        have e1 : dvG A B n n n = true := by unfold dvG; rw [h3]; simp
        have e2 : dvE A B n n n = 0 := by unfold dvE; rw [if_pos ⟨rfl, rfl⟩, h3]; rfl
        unfold dvI dvB
        rw [e1, e2]
        simp only [if_true]
        rw [Bool.and_eq_true] at h3
        exact pdr_ok p q r n c d k A B G w h3.1 h3.2 hn ha hb hg
    · have e1 : dvG A B n m l = false := by unfold dvG; simp [h2]
      have e2 : dvE A B n m l = 3 := if_neg (fun e => h2 e.2)
      unfold dvI dvB
      rw [e1, e2]
      exact pdr_len2 p q r n m l c d k w h h2 hn hl
  · have e1 : dvG A B n m l = false := by unfold dvG; simp [h]
    have e2 : dvE A B n m l = 3 := if_neg (fun e => h e.1)
    unfold dvI dvB
    rw [e1, e2]
    exact pdr_len1 p q r n m l c d k w h hn hm

set_option maxHeartbeats 1000000 in
theorem rdr_len1 (p q r : Option Addr) (n m l c d k : Nat) (w : World) (h : n ≠ m) (hn : n ≤ 1000) (hm : m ≤ 9223372036854775807) :
    Calls Try.prog 28 #[.slice p n c, .slice q m d, .slice r l k] w (DrP 0 false 3 w) := by
  have e : ((n : Int) != (m : Int)) = true := by simp; omega
  go_enter Try.func28, Try.ntmps28
  go_wp2
  go_ret3
  exact ⟨rfl, Below.refl _ _⟩
set_option maxHeartbeats 1000000 in
theorem rdr_len2 (p q r : Option Addr) (n m l c d k : Nat) (w : World) (h : n = m) (h2 : n ≠ l) (hn : n ≤ 1000) (hl : l ≤ 9223372036854775807) :
    Calls Try.prog 28 #[.slice p n c, .slice q m d, .slice r l k] w (DrP 0 false 3 w) := by
  subst h
  have e0 : ((n : Int) != (n : Int)) = false := by simp
  have e : ((n : Int) != (l : Int)) = true := by simp; omega
  go_enter Try.func28, Try.ntmps28
  go_wp2
  go_ret3
  exact ⟨rfl, Below.refl _ _⟩
set_option maxHeartbeats 1000000 in
theorem rdr_no (p q r : Option Addr) (n c d k : Nat) (A B : Nat → Int) (w : World) (h : (alF A n && alF B n) = false) (hn : n ≤ 1000) (ha : Rd w p n A) (hb : Rd w q n B) :
    Calls Try.prog 28 #[.slice p n c, .slice q n d, .slice r n k] w (DrP 0 false 1 w) := by
  have HA := Lib.hid (fun c => rarf_any p n c A w (by omega) ha)
  have HB := Lib.hid (fun c => rarf_any q n c B w (by omega) hb)
  have e0 : ((n : Int) != (n : Int)) = false := by simp
  cases h1 : alF A n with
  | false =>
    rw [h1] at HA
    clear ha hb h h1 HB
    go_enter Try.func28, Try.ntmps28
    go_wp2_with (go_at_call 46; refine (HA.out _).mono ?_; rintro e w' ⟨rfl, rfl⟩)
    go_ret3
    exact ⟨rfl, Below.refl _ _⟩
  | true =>
    rw [h1] at HA h
    have h2 : alF B n = false := by simpa using h
    rw [h2] at HB
    clear ha hb h h1 h2
    go_enter Try.func28, Try.ntmps28
    go_wp2_with (go_at_call 46; first
      | (refine (HA.out _).mono ?_; rintro e w' ⟨rfl, rfl⟩; clear HA)
      | (refine (HB.out _).mono ?_; rintro e w' ⟨rfl, rfl⟩; clear HB))
    go_ret3
    exact ⟨rfl, Below.refl _ _⟩
set_option maxRecDepth 100000 in
set_option maxHeartbeats 2000000 in
theorem rdr_ok (p q r : Option Addr) (n c d k0 : Nat) (A B : Nat → Int) (G : Nat → Bool) (w : World) (h1 : alF A n = true) (h2 : alF B n = true) (hn : n ≤ 1000) (ha : Rd w p n A) (hb : Rd w q n B) (hg : RdL w r n G) :
    Calls Try.prog 28 #[.slice p n c, .slice q n d, .slice r n k0] w (DrP (drI A B G n) (drB G n) 0 w) := by
  have HA := Lib.hid (fun c => rarf_any p n c A w (by omega) ha)
  have HB := Lib.hid (fun c => rarf_any q n c B w (by omega) hb)
  have HRA := Lib.hid ha
  have HRB := Lib.hid hb
  have HRG := Lib.hid hg
  have HVA := Lib.hid (alF_all h1)
  have HVB := Lib.hid (alF_all h2)
  have HSB := Lib.hid (sm_bd (A := A) (B := B) (G := G) (n := n) (fun i hi => ⟨alF_all h1 i hi, alF_all h2 i hi⟩))
  rw [h1] at HA
  rw [h2] at HB
  have e0 : ((n : Int) != (n : Int)) = false := by simp
  have hni : (n : Int) ≤ 1000 := by omega
  clear ha hb hg h1 h2
  go_enter Try.func28, Try.ntmps28
  go_wp2_with (go_at_call 46; first
    | (refine (HA.out _).mono ?_; rintro e w' ⟨rfl, rfl⟩; clear HA)
    | (refine (HB.out _).mono ?_; rintro e w' ⟨rfl, rfl⟩; clear HB))
  go_loopw [9, 10, 37] (fun s t i wr => ∃ j : Nat, j ≤ n ∧ i = .int .i64 j ∧ s = .int .i64 (smD A B G j) ∧ t = .int .i64 (ctD G j) ∧ Hid (∃ q, wr = w.drewN q)) (fun _ _ i _ => n - (intOf i).toNat)
  case atStart => exact ⟨0, Nat.zero_le _, rfl, rfl, rfl, 0, rfl⟩
  case round =>
    obtain ⟨j, hj, rfl, rfl, rfl, hw⟩ := hrel
    have hcb := ct_bd G j
    by_cases hlt : j < n
    · obtain ⟨b1, o1, rfl, l1, d1⟩ := HRA.out (by omega)
      obtain ⟨b2, o2, rfl, l2, d2⟩ := HRB.out (by omega)
      obtain ⟨b3, o3, rfl, l3, d3⟩ := HRG.out (by omega)
      obtain ⟨qq, hq⟩ := hw.out
      have e1 : wr.cell? ⟨b1, o1 + j, none⟩ = some (.int .i64 (A j)) := by rw [hq]; exact d1 j hlt
      have e2 : wr.cell? ⟨b2, o2 + j, none⟩ = some (.int .i64 (B j)) := by rw [hq]; exact d2 j hlt
      have e3 : wr.cell? ⟨b3, o3 + j, none⟩ = some (.bool (G j)) := by rw [hq]; exact d3 j hlt
      have hjn : (j : Int) < (n : Int) := by omega
      have hva := HVA.out j hlt
      have hvb := HVB.out j hlt
      have hsb := HSB.out j hj
      have HQ := Lib.hid hq
      clear d1 d2 d3 hq hw
      cases hgj : G j with
      | false =>
        rw [hgj] at e3
        have q1 : Hid (ctD G (j + 1) = ctD G j) := ct_no hgj
        have q2 : Hid (smD A B G (j + 1) = smD A B G j) := sm_no hgj
        clear hgj
        go_wp2
        go_roundw
        case rel => exact ⟨j + 1, by omega, by go_num, by rw [q2.out], by rw [q1.out], qq, HQ.out⟩
        case measure => simp [intOf]; omega
      | true =>
        rw [hgj] at e3
        have q1 : Hid (ctD G (j + 1) = ctD G j + 1) := ct_yes hgj
        have q2 : Hid (smD A B G (j + 1) = smD A B G j + (B j - A j)) := sm_yes hgj
        clear hgj
        generalize smD A B G j = sj at *
        generalize ctD G j = tj at *
        generalize A j = aj at *
        generalize B j = bj at *
        have k1 : IntKind.i64.wrap (bj - aj) = bj - aj := by rw [IntKind.wrap_i64]; omega
        have k2 : IntKind.i64.wrap (sj + (bj - aj)) = sj + (bj - aj) := by rw [IntKind.wrap_i64]; omega
        have k3 : IntKind.i64.wrap (sj + bj) = sj + bj := by rw [IntKind.wrap_i64]; omega
        have k4 : IntKind.i64.wrap (sj + bj - aj) = sj + bj - aj := by rw [IntKind.wrap_i64]; omega
        have k5 : IntKind.i64.wrap (tj + 1) = tj + 1 := by rw [IntKind.wrap_i64]; omega
        go_wp2
        go_quiet (fail)
        go_wp2
        go_roundw
        case rel => exact ⟨j + 1, by omega, by go_num, (by first | (rw [q2.out]; done) | (rw [q2.out, Int.add_sub_assoc])), by rw [q1.out], qq + nq, by rw [HQ.out, World.drewN_drewN]⟩
        case measure => simp [intOf]; omega
    · obtain rfl : j = n := by omega
      obtain ⟨qq, hq⟩ := hw.out
      have hsb := HSB.out j hj
      have HBL : Hid (Below w.heap.size w wr) := by show Below _ _ _; rw [hq]; exact Gg.below_drewN (Below.refl _ _) _
      clear hw hq
      by_cases hz : ctD G j = 0
      · obtain ⟨z1, z2⟩ := dr_zero (A := A) (B := B) hz
        have Z1 := Lib.hid z1
        have Z2 := Lib.hid z2
        clear z1 z2
        rw [hz]
        clear hz
        go_wp2
        go_ret3
        rw [Z1.out, Z2.out]
        exact ⟨rfl, HBL.out⟩
      · obtain ⟨z1, z2⟩ := dr_some (A := A) (B := B) hz
        have Z1 := Lib.hid z1
        have Z2 := Lib.hid z2
        have HF := Lib.hid (fun W => rdown_any (smD A B G j) (ctD G j) W (by omega) (by omega))
        have hz2 : (ctD G j == 0) = false := by simp [hz]
        clear z1 z2 hz
        go_wp2_with (go_at_call 47; refine (HF.out _).mono ?_; rintro e w' ⟨rfl, rfl⟩)
        go_ret3
        rw [Z1.out, Z2.out]
        exact ⟨rfl, HBL.out⟩
theorem rdr_any (p q r : Option Addr) (n m l c d k : Nat) (A B : Nat → Int) (G : Nat → Bool) (w : World) (hn : n ≤ 1000) (hm : m ≤ 9223372036854775807) (hl : l ≤ 9223372036854775807) (ha : Rd w p n A) (hb : Rd w q m B) (hg : RdL w r l G) :
    Calls Try.prog 28 #[.slice p n c, .slice q m d, .slice r l k] w (DrP (dvI A B G n m l) (dvB A B G n m l) (dvE A B n m l) w) := by
  by_cases h : n = m
  · by_cases h2 : n = l
    · subst h; subst h2
      cases h3 : (alF A n && alF B n) with
      | false =>
        have e1 : dvG A B n n n = false := by unfold dvG; rw [h3]; simp
        have e2 : dvE A B n n n = 1 := by unfold dvE; rw [if_pos ⟨rfl, rfl⟩, h3]; rfl
        unfold dvI dvB
        rw [e1, e2]
        exact rdr_no p q r n c d k A B w h3 hn ha hb
      | true =>
        have e1 : dvG A B n n n = true := by unfold dvG; rw [h3]; simp
        have e2 : dvE A B n n n = 0 := by unfold dvE; rw [if_pos ⟨rfl, rfl⟩, h3]; rfl
        unfold dvI dvB
        rw [e1, e2]
        simp only [if_true]
        rw [Bool.and_eq_true] at h3
        exact rdr_ok p q r n c d k A B G w h3.1 h3.2 hn ha hb hg
    · have e1 : dvG A B n m l = false := by unfold dvG; simp [h2]
      have e2 : dvE A B n m l = 3 := if_neg (fun e => h2 e.2)
      unfold dvI dvB
      rw [e1, e2]
      exact rdr_len2 p q r n m l c d k w h h2 hn hl
  · have e1 : dvG A B n m l = false := by unfold dvG; simp [h]
    have e2 : dvE A B n m l = 3 := if_neg (fun e => h e.1)
    unfold dvI dvB
    rw [e1, e2]
    exact rdr_len1 p q r n m l c d k w h hn hm
end Go.Proofs.Ytkflgiopkopeeaa.Ql

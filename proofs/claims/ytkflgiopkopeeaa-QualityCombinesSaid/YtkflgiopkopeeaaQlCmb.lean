/-
  Combine: lists of lists of readings, and what is said of them.
-/
import Derived.Test.YtkflgiopkopeeaaQlRvd
import Derived.Test.YtkflgiopkopeeaaQlRvt
namespace Go.Proofs.Ytkflgiopkopeeaa.Ql
open Go.ChangeShapes Go.WideShapes Go.ChangeAt Go.RowKit
open Go.Proofs.Ytkflgiopkopeeaa.Ca (inB inB_yes inB_no Rd)
open Go.Proofs.Ytkflgiopkopeeaa.Gg (RdR Rs)
set_option linter.unusedVariables false

/-- m lists of readings. -/
structure LL (w : World) (p : Option Addr) (m : Nat) (P : Nat → Option Addr) (Ln Cp : Nat → Nat) (RR : Nat → Nat → Nat → Int) : Prop where
  c : RdV w p m (fun i => .slice (P i) (Ln i) (Cp i))
  r : ∀ i, i < m → RdR w (P i) (Ln i) (RR i)
theorem LL.below {w w' : World} {B : Nat} {p : Option Addr} {m : Nat} {P : Nat → Option Addr} {Ln Cp : Nat → Nat} {RR : Nat → Nat → Nat → Int} (h : LL w p m P Ln Cp RR) (hb : Below B w w') (hB : w.heap.size ≤ B) : LL w' p m P Ln Cp RR :=
  ⟨h.c.below hb hB, fun i hi => (h.r i hi).below hb hB⟩
/-- All have the first one's length. -/
def olB (Ln : Nat → Nat) : Nat → Bool
  | 0 => true
  | k + 1 => olB Ln k && decide (Ln k = Ln 0)
theorem ol_all {Ln : Nat → Nat} : ∀ {m : Nat}, olB Ln m = true → ∀ i, i < m → Ln i = Ln 0
  | 0, _, i, hi => absurd hi (Nat.not_lt_zero _)
  | k + 1, h, i, hi => by
    simp only [olB, Bool.and_eq_true, decide_eq_true_eq] at h
    by_cases e : i = k
    · subst e; exact h.2
    · exact ol_all h.1 i (by omega)
theorem ol_of {Ln : Nat → Nat} : ∀ {m : Nat}, (∀ i, i < m → Ln i = Ln 0) → olB Ln m = true
  | 0, _ => rfl
  | k + 1, h => by
    simp only [olB, Bool.and_eq_true, decide_eq_true_eq]
    exact ⟨ol_of (fun i hi => h i (by omega)), h k (by omega)⟩
theorem ol_no {Ln : Nat → Nat} {m k : Nat} (hk : k < m) (h : Ln k ≠ Ln 0) : olB Ln m = false := by
  cases e : olB Ln m with
  | false => rfl
  | true => exact absurd (ol_all e k hk) h
/-- How many steps there are. -/
def stN (Ln : Nat → Nat) (m : Nat) : Nat := if m = 0 then 0 else Ln 0
/-- How many good values are farther from a vote. -/
def odN (V : Nat → Int) (G : Nat → Bool) (v most : Int) : Nat → Nat
  | 0 => 0
  | k + 1 => if G k = true ∧ most < dst (V k) v then odN V G v most k + 1 else odN V G v most k
theorem od_le (V : Nat → Int) (G : Nat → Bool) (v most : Int) : ∀ k, odN V G v most k ≤ k
  | 0 => Nat.le_refl _
  | k + 1 => by have := od_le V G v most k; unfold odN; split <;> omega

set_option maxHeartbeats 1000000 in
theorem hol_any (p : Option Addr) (m c : Nat) (P : Nat → Option Addr) (Ln Cp : Nat → Nat) (RR : Nat → Nat → Nat → Int) (w : World) (h : LL w p m P Ln Cp RR) (hm : m ≤ 1000000) :
    Calls Try.prog 49 #[.slice p m c] w fun e w' => e = .returned (.bool (olB Ln m)) ∧ w = w' := by
  have HL := Lib.hid h.c
  have hmi : (m : Int) ≤ 1000000 := by omega
  clear h
  go_enter Try.func49, Try.ntmps49
  go_wp2
  go_loop [7] (fun y => ∃ k : Nat, k ≤ m ∧ y = .int .i64 k ∧ Hid (∀ i, i < k → Ln i = Ln 0)) (fun y => m - (intOf y).toNat)
  case atStart => exact ⟨0, Nat.zero_le _, rfl, fun i hi => absurd hi (Nat.not_lt_zero _)⟩
  case round =>
    obtain ⟨k, hk, rfl, hol⟩ := hrel
    by_cases hlt : k < m
    · obtain ⟨b, o, rfl, hb, d⟩ := HL.out (by omega)
      have e1 := d k hlt
      have e2 := d 0 (by omega)
      rw [Nat.add_zero] at e2
      have hki : (k : Int) < (m : Int) := by omega
      have hm0 : (0 : Int) < (m : Int) := by omega
      clear d
      by_cases heq : Ln k = Ln 0
      · have hne : ((Ln k : Int) != (Ln 0 : Int)) = false := by simp; omega
        have HN : Hid (∀ i, i < k + 1 → Ln i = Ln 0) := fun i hi => by
          by_cases e : i = k
          · subst e; exact heq
          · exact hol.out i (by omega)
        clear heq hol
        go_wp2
        go_round
        case rel => exact ⟨k + 1, by omega, by go_num, HN⟩
        case measure => simp [intOf]; omega
      · have hne : ((Ln k : Int) != (Ln 0 : Int)) = true := by simp; omega
        have HN : Hid (olB Ln m = false) := ol_no hlt heq
        clear heq hol
        go_wp2
        go_ret
        exact ⟨by rw [HN.out]; rfl, rfl⟩
    · obtain rfl : k = m := by omega
      have HN : Hid (olB Ln k = true) := ol_of hol.out
      clear hol
      go_wp2
      go_ret
      exact ⟨by rw [HN.out]; rfl, rfl⟩
theorem cst_any (p : Option Addr) (m c : Nat) (P : Nat → Option Addr) (Ln Cp : Nat → Nat) (RR : Nat → Nat → Nat → Int) (w : World) (h : LL w p m P Ln Cp RR) (hm : m ≤ 1000000) :
    Calls Try.prog 51 #[.slice p m c] w fun e w' => e = .returned (.int .i64 (stN Ln m : Int)) ∧ w = w' := by
  have HL := Lib.hid h.c
  clear h
  by_cases h0 : m = 0
  · subst h0
    go_enter Try.func51, Try.ntmps51
    go_wp2
    go_ret
    exact ⟨rfl, rfl⟩
  · obtain ⟨b, o, rfl, hb, d⟩ := HL.out (by omega)
    have e2 := d 0 (by omega)
    rw [Nat.add_zero] at e2
    have hm0 : (0 : Int) < (m : Int) := by omega
    have hne : ((m : Int) == 0) = false := by simp; omega
    have HN : Hid (stN Ln m = Ln 0) := if_neg h0
    clear d
    go_enter Try.func51, Try.ntmps51
    go_wp2
    go_ret
    exact ⟨by rw [HN.out]; rfl, rfl⟩
set_option maxHeartbeats 1000000 in
theorem cod_any (p q : Option Addr) (n c d : Nat) (V : Nat → Int) (G : Nat → Bool) (v most : Int) (w : World) (hn : n ≤ 1000000) (hr : Rd w p n V) (hg : RdL w q n G) (hV : ∀ i, i < n → 0 ≤ V i ∧ V i ≤ 1073741824) (hv : 0 ≤ v ∧ v ≤ 1073741824) :
    Calls Try.prog 53 #[.slice p n c, .slice q n d, .int .i64 v, .int .i64 most] w fun e w' => e = .returned (.int .i64 (odN V G v most n : Int)) ∧ Below w.heap.size w w' := by
  have HR := Lib.hid hr
  have HG := Lib.hid hg
  have HV := Lib.hid hV
  have hni : (n : Int) ≤ 1000000 := by omega
  obtain ⟨hv0, hv1⟩ := hv
  clear hr hg hV
  go_enter Try.func53, Try.ntmps53
  go_wp2
  go_loopw [9, 14] (fun c i wr => ∃ k : Nat, k ≤ n ∧ i = .int .i64 k ∧ c = .int .i64 (odN V G v most k : Int) ∧ Hid (Below w.heap.size w wr)) (fun _ i _ => n - (intOf i).toNat)
  case atStart => exact ⟨0, Nat.zero_le _, rfl, rfl, Below.refl _ _⟩
  case round =>
    obtain ⟨k, hk, rfl, rfl, hb⟩ := hrel
    have hod := od_le V G v most k
    by_cases hlt : k < n
    · obtain ⟨b1, o1, rfl, l1, d1⟩ := (RdV.below (C := iC V) HR.out hb.out (Nat.le_refl _)) (by omega)
      obtain ⟨b2, o2, rfl, l2, d2⟩ := (HG.out.below hb.out (Nat.le_refl _)) (by omega)
      have e1 : wr.cell? ⟨b1, o1 + k, none⟩ = some (.int .i64 (V k)) := d1 k hlt
      have e2 := d2 k hlt
      have hki : (k : Int) < (n : Int) := by omega
      have hvk := HV.out k hlt
      have HNX : Hid (odN V G v most (k + 1) = if G k = true ∧ most < dst (V k) v then odN V G v most k + 1 else odN V G v most k) := rfl
      clear d1 d2
      generalize hok : odN V G v most k = ok at *
      have hoki : (ok : Int) ≤ 1000000 := by omega
      cases hgk : G k with
      | false =>
        rw [hgk] at e2
        have HN : Hid (odN V G v most (k + 1) = ok) := HNX.out.trans (if_neg (by rw [hgk]; simp))
        clear hgk hok HNX
        go_wp2
        refine ⟨⟨k + 1, by omega, by go_num, by rw [HN.out], hb⟩, ?_⟩
        simp [intOf]
        omega
      | true =>
        rw [hgk] at e2
        have HD := Lib.hid (fun W => dst_any (V k) v W (by omega) (by omega))
        by_cases hds : most < dst (V k) v
        · have HN : Hid (odN V G v most (k + 1) = ok + 1) := HNX.out.trans (if_pos ⟨hgk, hds⟩)
          clear hgk hok HNX
          generalize dst (V k) v = ds at *
          go_wp2_with (go_at_call 67; refine (HD.out _).mono ?_; rintro e w' ⟨rfl, rfl⟩)
          refine ⟨⟨k + 1, by omega, by go_num, by rw [HN.out]; push_cast; rfl, hb⟩, ?_⟩
          simp [intOf]
          omega
        · have HN : Hid (odN V G v most (k + 1) = ok) := HNX.out.trans (if_neg (fun h => hds h.2))
          clear hgk hok HNX
          generalize dst (V k) v = ds at *
          have hds2 : ds ≤ most := by omega
          go_wp2_with (go_at_call 67; refine (HD.out _).mono ?_; rintro e w' ⟨rfl, rfl⟩)
          refine ⟨⟨k + 1, by omega, by go_num, by rw [HN.out], hb⟩, ?_⟩
          simp [intOf]
          omega
    · obtain rfl : k = n := by omega
      go_wp2
      go_ret
      exact ⟨rfl, hb.out⟩
end Go.Proofs.Ytkflgiopkopeeaa.Ql

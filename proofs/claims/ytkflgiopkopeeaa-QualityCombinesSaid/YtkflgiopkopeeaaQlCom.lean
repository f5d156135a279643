/-
  The contract of Combine: what is no list, no number, no valid reading.
-/
import Derived.Test.YtkflgiopkopeeaaQlVoa
namespace Go.Proofs.Ytkflgiopkopeeaa.Ql
open Go.ChangeShapes Go.WideShapes Go.ChangeAt Go.RowKit
open Go.Proofs.Ytkflgiopkopeeaa.Ca (inB inB_yes inB_no Rd)
open Go.Proofs.Ytkflgiopkopeeaa.Cu (updF updF_same updF_other)
open Go.Proofs.Ytkflgiopkopeeaa.Gg (RdR Rs)
set_option linter.unusedVariables false

/-- The code that Combine returns. -/
def coE (K : Nat → Nat → Int) (RR : Nat → Nat → Nat → Int) (Ln : Nat → Nat) (n m : Nat) (most : Int) : Int := if n ≠ m ∨ olB Ln m = false then 3 else if most < 0 then 1 else vaE K RR Ln m
def coN (K : Nat → Nat → Int) (RR : Nat → Nat → Nat → Int) (Ln : Nat → Nat) (n m : Nat) (most : Int) : Nat := if coE K RR Ln n m most = 0 then stN Ln m else 0
/-- The values of a step and which are good. -/
def coV (RR : Nat → Nat → Nat → Int) (s : Nat) (i : Nat) : Int := RR i s 2
def coG (K : Nat → Nat → Int) (RR : Nat → Nat → Nat → Int) (s : Nat) (i : Nat) : Bool := vrI (K i 0) (K i 1) (K i 2) (K i 3) (RR i) s == 1
/-- What Combine returns. -/
def CoP (E : Int) (N : Nat) (A : Nat → Int) (B : Nat → Bool) (O : Nat → Int) (w : World) (e : Ending) (w' : World) : Prop :=
  ∃ p1 c1 p2 c2 p3 c3, e = .returned (.tuple #[.slice p1 N c1, .slice p2 N c2, .slice p3 N c3, .int .i64 E]) ∧ Rd w' p1 N A ∧ RdL w' p2 N B ∧ Rd w' p3 N O ∧ Below w.heap.size w w'
theorem cop_bad {E : Int} {A : Nat → Int} {B : Nat → Bool} {O : Nat → Int} {w w' : World} (h : Below w.heap.size w w') : CoP E 0 A B O w (.returned (.tuple #[.slice none 0 0, .slice none 0 0, .slice none 0 0, .int .i64 E])) w' :=
  ⟨none, 0, none, 0, none, 0, rfl, fun h => absurd h (Nat.lt_irrefl _), fun h => absurd h (Nat.lt_irrefl _), fun h => absurd h (Nat.lt_irrefl _), h⟩
set_option maxRecDepth 100000 in
set_option maxHeartbeats 2000000 in
theorem com_form1 (q p : Option Addr) (n m d c : Nat) (most : Int) (A : Nat → Int) (B : Nat → Bool) (O : Nat → Int) (w : World) (hnm : n ≠ m) (hn : n ≤ 1000000) (hm : m ≤ 1000000) :
    Calls Try.prog 29 #[.slice q n d, .slice p m c, .int .i64 most] w (CoP 3 0 A B O w) := by
  have hne : ((n : Int) != (m : Int)) = true := by simp; omega
  go_enter Try.func29, Try.ntmps29
  go_wp2
  exact bodyPost_ret (v := .tuple #[.slice none 0 0, .slice none 0 0, .slice none 0 0, .int .i64 3]) (by simp [results, Try.results29, go_sem]) rfl (cop_bad (Below.refl _ _))
set_option maxRecDepth 100000 in
set_option maxHeartbeats 2000000 in
theorem com_form2 (q p : Option Addr) (m d c : Nat) (most : Int) (P : Nat → Option Addr) (Ln Cp : Nat → Nat) (RR : Nat → Nat → Nat → Int) (A : Nat → Int) (B : Nat → Bool) (O : Nat → Int) (w : World) (h : LL w p m P Ln Cp RR) (ho : olB Ln m = false) (hm : m ≤ 1000000) :
    Calls Try.prog 29 #[.slice q m d, .slice p m c, .int .i64 most] w (CoP 3 0 A B O w) := by
  have hne : ((m : Int) != (m : Int)) = false := by simp
  have HH := Lib.hid (hol_any p m c P Ln Cp RR w h hm)
  rw [ho] at HH
  clear h ho
  go_enter Try.func29, Try.ntmps29
  go_wp2_with (go_at_call 49; refine HH.out.mono ?_; rintro e w' ⟨rfl, rfl⟩)
  exact bodyPost_ret (v := .tuple #[.slice none 0 0, .slice none 0 0, .slice none 0 0, .int .i64 3]) (by simp [results, Try.results29, go_sem]) rfl (cop_bad (Below.refl _ _))
set_option maxRecDepth 100000 in
set_option maxHeartbeats 2000000 in
theorem com_range (q p : Option Addr) (m d c : Nat) (most : Int) (P : Nat → Option Addr) (Ln Cp : Nat → Nat) (RR : Nat → Nat → Nat → Int) (A : Nat → Int) (B : Nat → Bool) (O : Nat → Int) (w : World) (h : LL w p m P Ln Cp RR) (ho : olB Ln m = true) (hm : m ≤ 1000000) (hmo : most < 0) :
    Calls Try.prog 29 #[.slice q m d, .slice p m c, .int .i64 most] w (CoP 1 0 A B O w) := by
  have hne : ((m : Int) != (m : Int)) = false := by simp
  have HH := Lib.hid (hol_any p m c P Ln Cp RR w h hm)
  rw [ho] at HH
  clear h ho
  go_enter Try.func29, Try.ntmps29
  go_wp2_with (go_at_call 49; refine HH.out.mono ?_; rintro e w' ⟨rfl, rfl⟩)
  exact bodyPost_ret (v := .tuple #[.slice none 0 0, .slice none 0 0, .slice none 0 0, .int .i64 1]) (by simp [results, Try.results29, go_sem]) rfl (cop_bad (Below.refl _ _))
set_option maxRecDepth 100000 in
set_option maxHeartbeats 2000000 in
theorem com_code (q p : Option Addr) (m d c : Nat) (most : Int) (P : Nat → Option Addr) (Ln Cp : Nat → Nat) (RR : Nat → Nat → Nat → Int) (K : Nat → Nat → Int) (A : Nat → Int) (B : Nat → Bool) (O : Nat → Int) (w : World) (h : LL w p m P Ln Cp RR) (hk : RdR w q m K) (ho : olB Ln m = true) (hm : m ≤ 1000000) (hl : ∀ i, i < m → Ln i ≤ 17592186044416) (hmo : 0 ≤ most) (hE : vaE K RR Ln m ≠ 0) :
    Calls Try.prog 29 #[.slice q m d, .slice p m c, .int .i64 most] w (CoP (vaE K RR Ln m) 0 A B O w) := by
  have hne : ((m : Int) != (m : Int)) = false := by simp
  have HH := Lib.hid (hol_any p m c P Ln Cp RR w h hm)
  have HV : Hid (Calls Try.prog 50 #[.slice q m d, .slice p m c] w fun e w' => ∃ q1 c1, e = .returned (.tuple #[.slice q1 c1 c1, .int .i64 (vaE K RR Ln m)]) ∧ Below w.heap.size w w') := (voa_any p q m c d P Ln Cp RR K w h hk hm hl).mono fun e w' ⟨q1, c1, Q, N, C, he, _, hb⟩ => ⟨q1, c1, he, hb⟩
  have hE2 : (vaE K RR Ln m != 0) = true := by simp [hE]
  rw [ho] at HH
  clear h hk ho hl hE
  generalize vaE K RR Ln m = E at *
  go_enter Try.func29, Try.ntmps29
  go_wp2_with (first
    | (go_at_call 49; refine HH.out.mono ?_; rintro e w' ⟨rfl, rfl⟩)
    | (go_at_call 50; refine HV.out.mono ?_; rintro e w5 ⟨q1, c1, rfl, hb⟩; have HB := Lib.hid hb; clear hb))
  exact bodyPost_ret (v := .tuple #[.slice none 0 0, .slice none 0 0, .slice none 0 0, .int .i64 E]) (by simp [results, Try.results29, go_sem]) rfl (cop_bad HB.out)
end Go.Proofs.Ytkflgiopkopeeaa.Ql

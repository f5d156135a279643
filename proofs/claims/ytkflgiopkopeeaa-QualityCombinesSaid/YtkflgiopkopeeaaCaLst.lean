/-
  Lists of days; what Days and Both return, of package calendar and of its reference; Same of the reference.
-/
import Derived.Test.YtkflgiopkopeeaaCaIn
import Derived.SizedLaws
namespace Go.Proofs.Ytkflgiopkopeeaa.Ca
open Go.ChangeShapes Go.WideShapes Go.ChangeAt Go.RowKit
set_option linter.unusedVariables false

/-- A slice of n integers z 0, .., z (n - 1) can be read at this address. -/
def Rd (w : World) (a : Option Addr) (n : Nat) (z : Nat → Int) : Prop :=
  0 < n → ∃ b off, a = some ⟨b, off, none⟩ ∧ b < w.heap.size ∧ ∀ i, i < n → w.cell? ⟨b, off + i, none⟩ = some (.int .i64 (z i))
theorem Rd.below {w w' : World} {B : Nat} {a : Option Addr} {n : Nat} {z : Nat → Int} (h : Rd w a n z) (hb : Below B w w') (hB : w.heap.size ≤ B) : Rd w' a n z := by
  intro hn
  obtain ⟨b, off, rfl, hlt, hc⟩ := h hn
  exact ⟨b, off, rfl, Nat.lt_of_lt_of_le hlt hb.size, fun i hi => (hb.cell (p := ⟨b, off + i, none⟩) (Nat.lt_of_lt_of_le hlt hB)).trans (hc i hi)⟩

/-- The first k numbers that are chosen. -/
def bL (P : Nat → Bool) : Nat → List Int
  | 0 => []
  | k + 1 => if P k then bL P k ++ [(k : Int)] else bL P k
theorem bL_yes {P : Nat → Bool} {k : Nat} (h : P k = true) : bL P (k + 1) = bL P k ++ [(k : Int)] := by
  show (if P k then _ else _) = _
  rw [if_pos h]
theorem bL_no {P : Nat → Bool} {k : Nat} (h : P k = false) : bL P (k + 1) = bL P k := by
  show (if P k then _ else _) = _
  rw [if_neg (by rw [h]; simp)]
theorem bL_len (P : Nat → Bool) : ∀ k, (bL P k).length ≤ k
  | 0 => Nat.le_refl _
  | k + 1 => by
    have ih := bL_len P k
    cases h : P k
    · rw [bL_no h]; omega
    · rw [bL_yes h, List.length_append]; simp; omega
theorem bL_congr {P Q : Nat → Bool} : ∀ k, (∀ i, i < k → P i = Q i) → bL P k = bL Q k
  | 0, _ => rfl
  | k + 1, h => by
    have ih := bL_congr k (fun i hi => h i (by omega))
    have e := h k (by omega)
    cases hP : P k
    · rw [bL_no hP, bL_no (e.symm.trans hP), ih]
    · rw [bL_yes hP, bL_yes (e.symm.trans hP), ih]
/-- .. and its beginnings. -/
theorem bL_pre (P : Nat → Bool) (k : Nat) : ∀ j, ∃ R, bL P (k + j) = bL P k ++ R
  | 0 => ⟨[], by simp⟩
  | j + 1 => by
    obtain ⟨R, h⟩ := bL_pre P k j
    show ∃ R, bL P (k + j + 1) = _
    cases e : P (k + j)
    · exact ⟨R, by rw [bL_no e, h]⟩
    · exact ⟨R ++ [((k + j : Nat) : Int)], by rw [bL_yes e, h, List.append_assoc]⟩
theorem bL_at {P : Nat → Bool} {k n : Nat} (h : P k = true) (hk : k < n) : (bL P k).length < (bL P n).length ∧ (bL P n).getD (bL P k).length 0 = (k : Int) := by
  obtain ⟨R, e⟩ := bL_pre P (k + 1) (n - (k + 1))
  rw [show k + 1 + (n - (k + 1)) = n by omega, bL_yes h] at e
  rw [e]
  constructor
  · simp
  · simp [List.getD]
theorem bL_full {P : Nat → Bool} : ∀ k, (bL P k).length = k → ∀ i, i < k → P i = true
  | 0, _, i, hi => absurd hi (Nat.not_lt_zero _)
  | k + 1, h, i, hi => by
    have hl := bL_len P k
    cases e : P k
    · rw [bL_no e] at h; omega
    · rw [bL_yes e, List.length_append] at h
      by_cases e2 : i = k
      · subst e2; exact e
      · exact bL_full k (by simp at h; omega) i (by omega)
theorem bL_all {P : Nat → Bool} : ∀ k, (∀ i, i < k → P i = true) → (bL P k).length = k
  | 0, _ => rfl
  | k + 1, h => by rw [bL_yes (h k (by omega)), List.length_append, bL_all k (fun i hi => h i (by omega))]; rfl
theorem bL_none {P : Nat → Bool} : ∀ k, (∀ i, i < k → P i = false) → bL P k = []
  | 0, _ => rfl
  | k + 1, h => by rw [bL_no (h k (by omega)), bL_none k (fun i hi => h i (by omega))]
theorem bL_two {P Q : Nat → Bool} : ∀ k, (∀ i, i < k → P i = !Q i) → (bL P k).length + (bL Q k).length = k
  | 0, _ => rfl
  | k + 1, h => by
    have ih := bL_two k (fun i hi => h i (by omega))
    have e := h k (by omega)
    cases hQ : Q k
    · rw [hQ] at e; rw [bL_no hQ, bL_yes e, List.length_append]; simp; omega
    · rw [hQ] at e; rw [bL_no e, bL_yes hQ, List.length_append]; simp; omega

def lx (L : List Int) (t : Nat) : Int := L.getD t 0
/-- v is a list of the call's own with the integers of L. -/
def Got (w : World) (base : Nat) (v : Value) (L : List Int) : Prop := w.ownsRow base 3 1 v L.length (L.map (Value.int .i64))
theorem got_nil (w : World) (base : Nat) : Got w base (.slice none 0 0) [] := World.ownsRow_nil w base 3 1
theorem got_rd {w : World} {base : Nat} {v : Value} {L : List Int} (h : Got w base v L) : ∃ p cap, v = .slice p L.length cap ∧ Rd w p L.length (lx L) := by
  unfold Got at h
  generalize hn : L.length = n at *
  rcases h.2 with ⟨rfl, rfl⟩ | ⟨g, cap, cur, rfl, hb, hg, _, _, _, _⟩
  · exact ⟨none, 0, rfl, fun h => absurd h (Nat.lt_irrefl _)⟩
  · refine ⟨some ⟨g, 0, none⟩, cap, rfl, fun _ => ⟨g, 0, rfl, ?_, fun i hi => ?_⟩⟩
    · exact (h.lt g rfl).2
    · rw [Nat.zero_add, h.cellAt i (by omega)]
      have : i < L.length := by omega
      simp [lx, List.getD, this]
theorem got_next {w : World} {base : Nat} {v : Value} {L : List Int} {x : Int} (h : w.ownsRow base 3 1 v (L.length + 1) (L.map (Value.int .i64) ++ [.int .i64 x])) : Got w base v (L ++ [x]) := by
  unfold Got
  rw [List.length_append, List.map_append]
  exact h
theorem got_block {w : World} {base : Nat} {v : Value} {L : List Int} (h : Got w base v L) : ∀ k, v.ownBlock = some k → base ≤ k := fun k hk => (h.lt k hk).1
theorem grown_below {w w' : World} {B : Nat} (h : Below B w w') (hB : w.heap.size ≤ B) (r : Option Nat) : w.grownBy w' r := ⟨h.os, h.tape, h.output, h.size, fun k hk _ => h.block k (by omega)⟩
theorem Got.up {w w' : World} {base : Nat} {v : Value} {L : List Int} (h : Got w base v L) (hb : Below w.heap.size w w') : Got w' base v L := h.kept (grown_below hb (Nat.le_refl _) none) (by cases hv : v.ownBlock <;> simp)
theorem Try.info3 : (Try.prog.info? 3).map (fun i => (i.zero, i.size, i.bytes)) = some (some (.int .i64 0), 1, 8) := by kernel_rfl
theorem cell_one (w : World) (u : Value) (t : TypeId) : ∀ j x, [u][j]? = some x → (w.alloc (.cells #[u] t)).cell? ((⟨w.heap.size, 0, none⟩ : Addr).add j) = some x := by
  intro j x hj
  match j, hj with
  | 0, hj => simp at hj; subst hj; simp [Addr.add]

/-- The first n numbers are equal. -/
def eqB (z y : Nat → Int) : Nat → Bool
  | 0 => true
  | k + 1 => eqB z y k && (z k == y k)
theorem eqB_no {z y : Nat → Int} {k : Nat} (h : (z k == y k) = false) : ∀ {n : Nat}, k < n → eqB z y n = false
  | 0, hk => absurd hk (Nat.not_lt_zero _)
  | n + 1, hk => by
    unfold eqB
    by_cases e : k = n
    · subst e; rw [h]; simp
    · rw [eqB_no h (by omega)]; rfl
theorem eqB_of {z y : Nat → Int} : ∀ {n : Nat}, (∀ i, i < n → z i = y i) → eqB z y n = true
  | 0, _ => rfl
  | n + 1, h => by unfold eqB; rw [eqB_of (fun i hi => h i (by omega)), h n (by omega)]; simp

set_option maxHeartbeats 400000 in
theorem same_eq (a a' : Option Addr) (n c c' : Nat) (z y : Nat → Int) (w : World) (hn : n ≤ 9223372036854775807) (hr : Rd w a n z) (hr' : Rd w a' n y) :
    Calls Try.prog 17 #[.slice a n c, .slice a' n c'] w fun e w' => e = .returned (.bool (eqB z y n)) ∧ ∃ q, w' = w.drewN q := by
  have HR := Lib.hid hr
  have HR' := Lib.hid hr'
  clear hr hr'
  go_enter Try.func17, Try.ntmps17
  go_wp2
  go_loopw [13] (fun i wr => ∃ k q : Nat, k ≤ n ∧ i = .int .i64 k ∧ Hid (eqB z y k = true) ∧ Hid (wr = w.drewN q)) (fun i _ => n - (intOf i).toNat)
  case atStart => exact ⟨0, 0, Nat.zero_le _, rfl, rfl, rfl⟩
  case round =>
    obtain ⟨k, q, hk, rfl, ha, hw⟩ := hrel
    by_cases hlt : k < n
    · obtain ⟨b, off, rfl, _, hc⟩ := HR.out (by omega)
      obtain ⟨b', off', rfl, _, hc'⟩ := HR'.out (by omega)
      have h5 : wr.cell? ⟨b, off + k, none⟩ = some (.int .i64 (z k)) := by rw [hw.out]; exact hc k hlt
      have h6 : wr.cell? ⟨b', off' + k, none⟩ = some (.int .i64 (y k)) := by rw [hw.out]; exact hc' k hlt
      clear hc hc'
      have hki : (k : Int) < (n : Int) := by omega
      by_cases hi : z k = y k
      · have e1 : (z k != y k) = false := by simp [hi]
        have HI := Lib.hid hi
        clear hi
        go_wp2
        go_quiet (fail)
        go_wp2
        go_roundw
        case rel => exact ⟨k + 1, _, by omega, by go_num, by show eqB z y (k + 1) = true; unfold eqB; rw [ha.out, HI.out]; simp, by show _ = _; rw [hw.out, World.drewN_drewN]⟩
        case measure => simp [intOf]; omega
      · have e1 : (z k != y k) = true := by simp [hi]
        have HF := Lib.hid (eqB_no (show (z k == y k) = false by simpa using hi) hlt)
        clear hi
        go_wp2
        go_quiet (fail)
        go_wp2
        go_ret
        exact ⟨by rw [HF.out]; rfl, _, by rw [hw.out, World.drewN_drewN]⟩
    · obtain rfl : k = n := by omega
      go_wp2
      go_ret
      exact ⟨by rw [ha.out]; rfl, q, hw.out⟩

theorem same_ne (a a' : Option Addr) (n m c c' : Nat) (w : World) (hn : n ≤ 9223372036854775807) (hm : m ≤ 9223372036854775807) (h : n ≠ m) :
    Calls Try.prog 17 #[.slice a n c, .slice a' m c'] w fun e w' => e = .returned (.bool false) ∧ w = w' := by
  have e : ((n : Int) != (m : Int)) = true := by simp; omega
  go_enter Try.func17, Try.ntmps17
  go_wp2
  go_ret
  exact ⟨rfl, rfl⟩

/-- P4.2: the days of a span, of two spans. -/
def insF (f t : Int) (k : Nat) : Bool := insB f t (k : Int)
def both (a b c d : Int) (k : Nat) : Bool := insF a b k && insF c d k
def dyN (f t : Int) : Nat := (bL (insF f t) 365).length
theorem dyN_le (f t : Int) : dyN f t ≤ 365 := bL_len _ _
theorem both_self (f t : Int) : bL (both f t f t) 365 = bL (insF f t) 365 := bL_congr 365 (fun i _ => by unfold both; cases insF f t i <;> rfl)
theorem both_comm (a b c d : Int) : bL (both a b c d) 365 = bL (both c d a b) 365 := bL_congr 365 (fun i _ => by unfold both; cases insF a b i <;> cases insF c d i <;> rfl)
def RetI (n : Int) (w : World) (e : Ending) (w' : World) : Prop := e = .returned (.int .i64 n) ∧ Below w.heap.size w w'
def RetL (L : List Int) (w : World) (e : Ending) (w' : World) : Prop := ∃ v, e = .returned v ∧ Got w' w.heap.size v L ∧ Below w.heap.size w w'

end Go.Proofs.Ytkflgiopkopeeaa.Ca

/-
  awake (the example of chapter 8); Same and SameBools of equal lists; contracts at any later world.
-/
import Derived.Test.YtkflgiopkopeeaaQlVot
import Derived.Test.YtkflgiopkopeeaaQlFlp
namespace Go.Proofs.Ytkflgiopkopeeaa.Ql
open Go.ChangeShapes Go.WideShapes Go.ChangeAt Go.RowKit
open Go.Proofs.Ytkflgiopkopeeaa.Ca (inB inB_yes inB_no Rd eqB eqB_of same_eq)
set_option linter.unusedVariables false

theorem same_t (a a' : Option Addr) (n c c' : Nat) (z : Nat → Int) (w : World) (hn : n ≤ 9223372036854775807) (hr : Rd w a n z) (hr' : Rd w a' n z) :
    Calls Try.prog 17 #[.slice a n c, .slice a' n c'] w (Et true w) := by
  refine (same_eq a a' n c c' z z w hn hr hr').mono ?_
  rintro e w' ⟨rfl, q, rfl⟩
  exact ⟨by rw [eqB_of (fun i _ => rfl)], Gg.below_drewN (Below.refl _ _) _⟩
set_option maxHeartbeats 400000 in
theorem sameb_t (a a' : Option Addr) (n c c' : Nat) (z : Nat → Bool) (w : World) (hn : n ≤ 9223372036854775807) (hr : RdL w a n z) (hr' : RdL w a' n z) :
    Calls Try.prog 31 #[.slice a n c, .slice a' n c'] w (Et true w) := by
  have HR := Lib.hid hr
  have HR' := Lib.hid hr'
  clear hr hr'
  go_enter Try.func31, Try.ntmps31
  go_wp2
  go_loopw [13] (fun i wr => ∃ k q : Nat, k ≤ n ∧ i = .int .i64 k ∧ Hid (wr = w.drewN q)) (fun i _ => n - (intOf i).toNat)
  case atStart => exact ⟨0, 0, Nat.zero_le _, rfl, rfl⟩
  case round =>
    obtain ⟨k, q, hk, rfl, hw⟩ := hrel
    by_cases hlt : k < n
    · obtain ⟨b, off, rfl, _, hc⟩ := HR.out (by omega)
      obtain ⟨b', off', rfl, _, hc'⟩ := HR'.out (by omega)
      have h5 : wr.cell? ⟨b, off + k, none⟩ = some (.bool (z k)) := by rw [hw.out]; exact hc k hlt
      have h6 : wr.cell? ⟨b', off' + k, none⟩ = some (.bool (z k)) := by rw [hw.out]; exact hc' k hlt
      clear hc hc'
      have hki : (k : Int) < (n : Int) := by omega
      cases hz : z k
      all_goals
        rw [hz] at h5 h6
        clear hz
        go_wp2
        go_quiet (fail)
        go_wp2
        go_roundw
        case rel => exact ⟨k + 1, _, by omega, by go_num, by show _ = _; rw [hw.out, World.drewN_drewN]⟩
        case measure => simp [intOf]; omega
    · obtain rfl : k = n := by omega
      go_wp2
      go_ret
      exact ⟨rfl, by rw [hw.out]; exact Gg.below_drewN (Below.refl _ _) _⟩

def exV (i : Nat) : Int := if i = 0 then 5 else if i = 1 then 9 else if i = 2 then 7 else 100
def exG (i : Nat) : Bool := true
def exW (i : Nat) : Int := if i = 0 then 10 else if i = 1 then 0 else 20
def exH (i : Nat) : Bool := if i = 1 then false else true
def exF (i : Nat) : Int := if i = 0 then 10 else if i = 1 then 15 else 20
theorem ex_vote : vtI exV exG 4 = 7 ∧ vtB exV exG 4 = true := by
  have e : gdL exV exG 4 = [5, 9, 7, 100] := by decide
  have e2 : srt [5, 9, 7, 100] = [5, 7, 9, 100] := (srt_eq (by decide) (by decide)).symm
  unfold vtI vtB
  rw [e, e2]
  exact ⟨by decide, by decide⟩
theorem ex_fill (i : Nat) (hi : i < 3) : fil exW exH 3 3 i = exF i := by
  have : i = 0 ∨ i = 1 ∨ i = 2 := by omega
  rcases this with rfl | rfl | rfl <;> decide
set_option maxRecDepth 100000 in
set_option maxHeartbeats 2000000 in
theorem awake_any (w : World) : Calls Try.prog 20 #[] w (Et true w) := by
  have HV := Lib.hid (fun W p q h1 h2 => pvt_ok p q 4 4 4 exV exG W (by omega) h1 h2)
  rw [ex_vote.1, ex_vote.2] at HV
  have HF := Lib.hid (fun W p q h1 h2 => pfi_any p q 3 3 3 3 exW exH 3 W (by omega) (by omega) h1 h2)
  rw [show flE exW 3 3 3 = 0 by decide, show flN exW 3 3 3 = 3 by decide] at HF
  have HP1 : Hid (Rd ((w.alloc (.cells #[.int .i64 5, .int .i64 9, .int .i64 7, .int .i64 100] 3)).alloc (.cells #[.bool true, .bool true, .bool true, .bool true] 4)) (some ⟨w.heap.size, 0, none⟩) 4 exV) := fun _ => ⟨_, _, rfl, by simp; omega, fun i hi => by
    match i, hi with
    | 0, _ => simp [exV]
    | 1, _ => simp [exV]
    | 2, _ => simp [exV]
    | 3, _ => simp [exV]⟩
  have HP2 : Hid (RdL ((w.alloc (.cells #[.int .i64 5, .int .i64 9, .int .i64 7, .int .i64 100] 3)).alloc (.cells #[.bool true, .bool true, .bool true, .bool true] 4)) (some ⟨w.heap.size + 1, 0, none⟩) 4 exG) := fun _ => ⟨_, _, rfl, by simp, fun i hi => by
    match i, hi with
    | 0, _ => simp [exG]
    | 1, _ => simp [exG]
    | 2, _ => simp [exG]
    | 3, _ => simp [exG]⟩
  have HQ1 : Hid (∀ w1 : World, Rd ((w1.alloc (.cells #[.int .i64 10, .int .i64 0, .int .i64 20] 3)).alloc (.cells #[.bool true, .bool false, .bool true] 4)) (some ⟨w1.heap.size, 0, none⟩) 3 exW) := fun w1 _ => ⟨_, _, rfl, by simp; omega, fun i hi => by
    match i, hi with
    | 0, _ => simp [exW]
    | 1, _ => simp [exW]
    | 2, _ => simp [exW]⟩
  have HQ2 : Hid (∀ w1 : World, RdL ((w1.alloc (.cells #[.int .i64 10, .int .i64 0, .int .i64 20] 3)).alloc (.cells #[.bool true, .bool false, .bool true] 4)) (some ⟨w1.heap.size + 1, 0, none⟩) 3 exH) := fun w1 _ => ⟨_, _, rfl, by simp, fun i hi => by
    match i, hi with
    | 0, _ => simp [exH]
    | 1, _ => simp [exH]
    | 2, _ => simp [exH]⟩
  have HQ3 : Hid (∀ w2 : World, Rd (w2.alloc (.cells #[.int .i64 10, .int .i64 15, .int .i64 20] 3)) (some ⟨w2.heap.size, 0, none⟩) 3 exF) := fun w2 _ => ⟨_, _, rfl, by simp, fun i hi => by
    match i, hi with
    | 0, _ => simp [exF]
    | 1, _ => simp [exF]
    | 2, _ => simp [exF]⟩
  have HB0 := Lib.hid (((Below.refl w.heap.size w).alloc (Nat.le_refl _) (.cells #[.int .i64 5, .int .i64 9, .int .i64 7, .int .i64 100] 3)).alloc (by simp) (.cells #[.bool true, .bool true, .bool true, .bool true] 4))
  have HE := Lib.hid ex_fill
  go_enter Try.func20, Try.ntmps20
  go_wp2_with (first
    | (go_at_call 22; refine (HV.out _ _ _ HP1.out HP2.out).mono ?_; rintro e w1 ⟨rfl, hb1⟩; have HB1 : Hid (Below w.heap.size w w1) := HB0.out.trans (hb1.mono (by simp; omega)); have hs1 := HB1.out.size; clear hb1)
    | (go_at_call 24; refine (HF.out _ _ _ (HQ1.out w1) (HQ2.out w1)).mono ?_; rintro e w2 ⟨p2, c2, rfl, hr2, _, hb2⟩; have HB2 : Hid (Below w.heap.size w w2) := (((HB1.out.alloc hs1 (.cells #[.int .i64 10, .int .i64 0, .int .i64 20] 3)).alloc (by simp; omega) (.cells #[.bool true, .bool false, .bool true] 4)).trans (hb2.mono (by simp; omega))); have hs2 := HB2.out.size; have HR2 : Hid (Rd w2 p2 3 exF) := (RdV.congr hr2 (fun i hi => by unfold iC; rw [HE.out i hi])); clear hb2 hr2)
    | (go_at_call 17; refine (same_t _ _ 3 _ _ exF _ (by omega) (RdV.alloc HR2.out _) (HQ3.out w2)).mono ?_; rintro e w3 ⟨rfl, hb3⟩; have HB3 : Hid (Below w.heap.size w w3) := (HB2.out.alloc hs2 (.cells #[.int .i64 10, .int .i64 15, .int .i64 20] 3)).trans (hb3.mono (by simp; omega)); clear hb3))
  go_ret
  exact ⟨rfl, HB3.out⟩

/-! ### at any later world -/
theorem awk_later {w4 : World} (W : World) (hb : Hid (Below w4.heap.size w4 W)) : Calls Try.prog 20 #[] W fun e w' => e = .returned (.bool true) ∧ Hid (Below w4.heap.size w4 w') :=
  (awake_any W).mono fun _ _ ⟨he, h⟩ => ⟨he, hb.out.trans (h.mono hb.out.size)⟩
theorem pvt_later {w4 : World} {p q : Option Addr} {n : Nat} {V : Nat → Int} {G : Nat → Bool} (hn : n ≤ 1000000) (hr : Rd w4 p n V) (hg : RdL w4 q n G) (c d : Nat) (W : World) (hb : Hid (Below w4.heap.size w4 W)) :
    Calls Try.prog 22 #[.slice p n c, .slice q n d] W fun e w' => e = .returned (.tuple #[.int .i64 (vtI V G n), .bool (vtB V G n)]) ∧ Hid (Below w4.heap.size w4 w') :=
  (pvt_ok p q n c d V G W hn (RdV.below (C := iC V) hr hb.out (Nat.le_refl _)) (hg.below hb.out (Nat.le_refl _))).mono fun _ _ ⟨he, h⟩ => ⟨he, hb.out.trans (h.mono hb.out.size)⟩
end Go.Proofs.Ytkflgiopkopeeaa.Ql

/-
  The contract of Add of package curve.
-/
import Derived.Test.YtilejadeknaleaaCuAdw
namespace Go.Proofs.Ytilejadeknaleaa.Cu
open Go.ChangeShapes Go.WideShapes Go.ChangeAt Go.RowKit
open Go.Shelf Go.Lib
set_option linter.unusedVariables false

theorem rdP_alloc {w : World} {p : Option Addr} {n : Nat} {X Y : Nat → Int} (h : RdP w p n X Y) (o : Obj) : RdP (w.alloc o) p n X Y := h.below ((Below.refl _ _).alloc (Nat.le_refl _) o) (Nat.le_refl _)

theorem gotP_mono {w : World} {base base' : Nat} {v : Value} {n : Nat} {X Y : Nat → Int} (h : GotP w base v n X Y) (hb : base' ≤ base) : GotP w base' v n X Y := by
  refine ⟨h.1, ?_⟩
  rcases h.2 with h2 | ⟨g, cap, cur, e, hg, r⟩
  · exact .inl h2
  · exact .inr ⟨g, cap, cur, e, Nat.le_trans hb hg, r⟩
/-- Add without a result. -/
def AdN (cd : Int) (w : World) (e : Ending) (w' : World) : Prop := e = .returned (.tuple #[.slice none 0 0, .int .i64 cd]) ∧ Below w.heap.size w w'

set_option maxHeartbeats 1600000 in
theorem add_bad1 (pa : Option Addr) (na ca : Nat) (Xa Ya : Nat → Int) (b : Value) (w : World) (hb : ∃ pb nb cb, b = .slice pb nb cb) (ha : RdP w pa na Xa Ya) (cd : Int) (hc : chkC Xa Ya na = cd) (h0 : cd ≠ 0) :
    Calls Try.prog 10 #[.slice pa na ca, b] w (AdN cd w) := by
  obtain ⟨pb, nb, cb, rfl⟩ := hb
  have HC := Lib.hid (fun W (h : Below w.heap.size w W) => check_any pa na ca Xa Ya W (ha.below h (Nat.le_refl _)))
  rw [hc] at HC
  have hne : (cd != 0) = true := by simpa using h0
  clear ha hc h0
  go_enter Try.func10, Try.ntmps10
  go_wp2
  refine wp_loop_rounds 1 ?_
  rw [rounds_succ]
  have hb0 : Below w.heap.size w (w.alloc (.cells #[.slice pa na ca, .slice pb nb cb] 22)) := (Below.refl _ _).alloc (Nat.le_refl _) _
  have HB0 := Lib.hid hb0
  clear hb0
  go_wp2_with (go_at_call 20; refine (HC.out _ HB0.out).mono ?_; rintro e w1 ⟨rfl, hb1⟩)
  go_ret2
  exact ⟨rfl, HB0.out.trans (hb1.mono (by simp))⟩

set_option maxHeartbeats 1600000 in
theorem add_bad2 (pa : Option Addr) (na ca : Nat) (Xa Ya : Nat → Int) (pb : Option Addr) (nb cb : Nat) (Xb Yb : Nat → Int) (w : World) (ha : RdP w pa na Xa Ya) (hb : RdP w pb nb Xb Yb) (cd : Int) (hc : chkC Xa Ya na = 0) (hc2 : chkC Xb Yb nb = cd) (h0 : cd ≠ 0) :
    Calls Try.prog 10 #[.slice pa na ca, .slice pb nb cb] w (AdN cd w) := by
  have HC := Lib.hid (fun W (h : Below w.heap.size w W) => check_any pa na ca Xa Ya W (ha.below h (Nat.le_refl _)))
  have HC2 := Lib.hid (fun W (h : Below w.heap.size w W) => check_any pb nb cb Xb Yb W (hb.below h (Nat.le_refl _)))
  rw [hc] at HC
  rw [hc2] at HC2
  have hne : (cd != 0) = true := by simpa using h0
  clear ha hb hc hc2 h0
  go_enter Try.func10, Try.ntmps10
  go_wp2
  refine wp_loop_rounds 2 ?_
  rw [rounds_succ]
  have hb0 : Below w.heap.size w (w.alloc (.cells #[.slice pa na ca, .slice pb nb cb] 22)) := (Below.refl _ _).alloc (Nat.le_refl _) _
  have HB0 := Lib.hid hb0
  clear hb0
  go_wp2_with (go_at_call 20; refine (HC.out _ HB0.out).mono ?_; rintro e w1 ⟨rfl, hb1⟩; have c1 : w1.cell? ⟨w.heap.size, 1, none⟩ = some (.slice pb nb cb) := (hb1.cell (p := ⟨w.heap.size, 1, none⟩) (by simp)).trans (by simp); have HB1 := Lib.hid (HB0.out.trans (hb1.mono (by simp))); clear hb1)
  rw [rounds_succ]
  go_wp2_with (go_at_call 20; refine (HC2.out _ HB1.out).mono ?_; rintro e w2 ⟨rfl, hb2⟩)
  go_ret2
  exact ⟨rfl, HB1.out.trans (hb2.mono HB1.out.size)⟩

/-- Add of two valid curves. -/
def AdP (L : List Int) (S : Int → Int) (w : World) (e : Ending) (w' : World) : Prop :=
  (chkC (lx L) (ly S L) L.length = 0 ∧ ∃ v, e = .returned (.tuple #[v, .int .i64 0]) ∧ GotP w' w.heap.size v L.length (lx L) (ly S L) ∧ Below w.heap.size w w') ∨
  (chkC (lx L) (ly S L) L.length ≠ 0 ∧ AdN (chkC (lx L) (ly S L) L.length) w e w')

set_option maxHeartbeats 1600000 in
theorem add_ok (ba oa na ca ma bb ob nb cb mb : Nat) (Xa Ya Xb Yb : Nat → Int) (w : World) (H : Two2 w ba oa na ca ma bb ob nb cb mb Xa Ya Xb Yb) :
    Calls Try.prog 10 #[.slice (some ⟨ba, oa, none⟩) na ca, .slice (some ⟨bb, ob, none⟩) nb cb] w (AdP (sumL Xa Xb na nb) (smF Xa Ya ma Xb Yb mb) w) := by
  have HC := Lib.hid (fun W (h : Below w.heap.size w W) => check_ok ba oa na ma ca Xa Ya W H.ea (H.pa.up h (Nat.le_refl _)) H.va)
  have HC2 := Lib.hid (fun W (h : Below w.heap.size w W) => check_ok bb ob nb mb cb Xb Yb W H.eb (H.pb.up h (Nat.le_refl _)) H.vb)
  have HV := Lib.hid (fun W (h : Below w.heap.size w W) => adv_walk ba oa na ca ma bb ob nb cb mb Xa Ya Xb Yb W (H.below h))
  unfold AvP at HV
  have HK := Lib.hid (fun p c W h => check_any p (sumL Xa Xb na nb).length c (lx (sumL Xa Xb na nb)) (ly (smF Xa Ya ma Xb Yb mb) (sumL Xa Xb na nb)) W h)
  unfold AdP
  clear H
  generalize sumL Xa Xb na nb = L at *
  generalize smF Xa Ya ma Xb Yb mb = S at *
  by_cases h0 : chkC (lx L) (ly S L) L.length = 0
  · have H0 := Lib.hid h0
    rw [h0] at HK
    clear h0
    generalize hcd : chkC (lx L) (ly S L) L.length = cd at *
    have HCD := Lib.hid hcd
    clear hcd
    go_enter Try.func10, Try.ntmps10
    go_wp2
    refine wp_loop_rounds 3 ?_
    rw [rounds_succ]
    have hb0 : Below w.heap.size w (w.alloc (.cells #[.slice (some ⟨ba, oa, none⟩) na ca, .slice (some ⟨bb, ob, none⟩) nb cb] 22)) := (Below.refl _ _).alloc (Nat.le_refl _) _
    have HB0 := Lib.hid hb0
    clear hb0
    go_wp2_with (go_at_call 20; refine (HC.out _ HB0.out).mono ?_; rintro e w1 ⟨rfl, hb1⟩; have c1 : w1.cell? ⟨w.heap.size, 1, none⟩ = some (.slice (some ⟨bb, ob, none⟩) nb cb) := (hb1.cell (p := ⟨w.heap.size, 1, none⟩) (by simp)).trans (by simp); have HB1 := Lib.hid (HB0.out.trans (hb1.mono (by simp))); clear hb1)
    rw [rounds_succ]
    go_wp2_with (go_at_call 20; refine (HC2.out _ HB1.out).mono ?_; rintro e w2 ⟨rfl, hb2⟩; have HB2 := Lib.hid (HB1.out.trans (hb2.mono HB1.out.size)); clear hb2)
    rw [rounds_succ]
    go_wp2_with (first
      | (go_at_call 21; refine (HV.out _ HB2.out).mono ?_; rintro e w3 ⟨v, rfl, hg3, hb3⟩; obtain ⟨p, c, rfl, hr⟩ := gotP_rd hg3; have HR := Lib.hid hr; have HG3 := Lib.hid hg3; have HB3 := Lib.hid hb3; clear hr hg3 hb3)
      | (go_at_call 20; refine (HK.out _ _ _ HR.out).mono ?_; rintro e w4 ⟨rfl, hb4⟩))
    go_ret2
    exact .inl ⟨H0.out, _, rfl, by
      have h1 := World.ownsRow.kept HG3.out (grown_below hb4 (Nat.le_refl _) none) (by cases hv : (Value.slice p L.length c).ownBlock <;> simp)
      exact gotP_mono h1 HB2.out.size, (HB2.out.trans (HB3.out.mono HB2.out.size)).trans (hb4.mono (Nat.le_trans HB2.out.size HB3.out.size))⟩
  · generalize hcd : chkC (lx L) (ly S L) L.length = cd at *
    have hne : (cd != 0) = true := by simpa using h0
    have H0 := Lib.hid h0
    clear h0 hcd
    go_enter Try.func10, Try.ntmps10
    go_wp2
    refine wp_loop_rounds 3 ?_
    rw [rounds_succ]
    have hb0 : Below w.heap.size w (w.alloc (.cells #[.slice (some ⟨ba, oa, none⟩) na ca, .slice (some ⟨bb, ob, none⟩) nb cb] 22)) := (Below.refl _ _).alloc (Nat.le_refl _) _
    have HB0 := Lib.hid hb0
    clear hb0
    go_wp2_with (go_at_call 20; refine (HC.out _ HB0.out).mono ?_; rintro e w1 ⟨rfl, hb1⟩; have c1 : w1.cell? ⟨w.heap.size, 1, none⟩ = some (.slice (some ⟨bb, ob, none⟩) nb cb) := (hb1.cell (p := ⟨w.heap.size, 1, none⟩) (by simp)).trans (by simp); have HB1 := Lib.hid (HB0.out.trans (hb1.mono (by simp))); clear hb1)
    rw [rounds_succ]
    go_wp2_with (go_at_call 20; refine (HC2.out _ HB1.out).mono ?_; rintro e w2 ⟨rfl, hb2⟩; have HB2 := Lib.hid (HB1.out.trans (hb2.mono HB1.out.size)); clear hb2)
    rw [rounds_succ]
    go_wp2_with (first
      | (go_at_call 21; refine (HV.out _ HB2.out).mono ?_; rintro e w3 ⟨v, rfl, hg3, hb3⟩; obtain ⟨p, c, rfl, hr⟩ := gotP_rd hg3; have HR := Lib.hid hr; have HG3 := Lib.hid hg3; have HB3 := Lib.hid hb3; clear hr hg3 hb3)
      | (go_at_call 20; refine (HK.out _ _ _ HR.out).mono ?_; rintro e w4 ⟨rfl, hb4⟩))
    go_ret2
    exact .inr ⟨H0.out, rfl, (HB2.out.trans (HB3.out.mono HB2.out.size)).trans (hb4.mono (Nat.le_trans HB2.out.size HB3.out.size))⟩

/-! ### Same of the reference -/
/-- The first n points of both lists agree. -/
def eqP (X Y X' Y' : Nat → Int) : Nat → Bool
  | 0 => true
  | n + 1 => eqP X Y X' Y' n && (X n == X' n && Y n == Y' n)
def SmP (t : Bool) (w : World) (e : Ending) (w' : World) : Prop := e = .returned (.bool t) ∧ Below w.heap.size w w'

set_option maxHeartbeats 1600000 in
theorem same_yes (p q : Option Addr) (n c d : Nat) (X Y : Nat → Int) (w : World) (hn : n ≤ 4096) (hp : RdP w p n X Y) (hq : RdP w q n X Y) :
    Calls Try.prog 12 #[.slice p n c, .slice q n d] w (SmP true w) := by
  have HP := Lib.hid hp
  have HQ := Lib.hid hq
  have hxx : ((n : Int) != (n : Int)) = false := by simp
  clear hp hq
  go_enter Try.func12, Try.ntmps12
  go_wp2
  go_loopw [13] (fun i wr => ∃ k : Nat, k ≤ n ∧ i = .int .i64 k ∧ Hid (Below w.heap.size w wr)) (fun i _ => n - (intOf i).toNat)
  case atStart => exact ⟨0, Nat.zero_le _, rfl, Below.refl _ _⟩
  case round =>
    obtain ⟨k, hk, rfl, hb⟩ := hrel
    by_cases hkn : k < n
    · obtain ⟨b, off, rfl, hpt⟩ := HP.out (by omega)
      obtain ⟨b', off', rfl, hpt'⟩ := HQ.out (by omega)
      obtain ⟨c1, c2⟩ := (hpt.up hb.out (Nat.le_refl _)).2 k hkn
      obtain ⟨c3, c4⟩ := (hpt'.up hb.out (Nat.le_refl _)).2 k hkn
      have hki : (k : Int) < (n : Int) := by omega
      have hpp : Try.prog.stoodInHeld 43 = false := by kernel_rfl
      have hgt : Try.prog.eqGuardType Try.prog.depth 43 = false := by kernel_rfl
      clear hpt hpt'
      generalize X k = x at *
      generalize Y k = y at *
      go_wp2
      go_quiet (fail)
      clear c1 c2 c3 c4
      go_wp2
      go_roundw
      case rel => exact ⟨k + 1, by omega, by go_num, bel_drewN hb.out _⟩
      case measure => simp [intOf]; omega
    · obtain rfl : k = n := by omega
      go_wp2
      go_ret
      exact ⟨rfl, hb.out⟩
end Go.Proofs.Ytilejadeknaleaa.Cu

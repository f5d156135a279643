/-
  The contract of Uncertain of the reference, and of its Same.
-/
import Derived.Test.YtbcjigociliflaaIfUnk
import Derived.ChangeKeysEq
namespace Go.Proofs.Ytbcjigociliflaa.If
open Go.ChangeShapes Go.WideShapes Go.ChangeAt Go.RowKit
open Go.Proofs.Ytbcjigociliflaa.Qu (sumZ sumZ_congr Rd)
open Go.Proofs.Ytbcjigociliflaa.Cu (Pts RdP ptL ptL_len ptL_get ptL_congr updF updF_same updF_other cell_two)
set_option linter.unusedVariables false

/-- v is a list of the call's own with the n bounds (X 0, Y 0), .. -/
def GotB (w : World) (base : Nat) (v : Value) (n : Nat) (X Y : Nat → Int) : Prop := w.ownsRow base 47 2 v n (ptL X Y n)
theorem gotB_nil (w : World) (base : Nat) (X Y : Nat → Int) : GotB w base (.slice none 0 0) 0 X Y := World.ownsRow_nil w base _ 2
theorem gotB_block {w : World} {base : Nat} {v : Value} {n : Nat} {X Y : Nat → Int} (h : GotB w base v n X Y) : ∀ k, v.ownBlock = some k → base ≤ k := fun k hk => (h.lt k hk).1
theorem gotB_rd {w : World} {base : Nat} {v : Value} {n : Nat} {X Y : Nat → Int} (h : GotB w base v n X Y) : ∃ p cap, v = .slice p n cap ∧ RdP w p n X Y ∧ ∀ b off, p = some ⟨b, off, none⟩ → base ≤ b := by
  rcases h.2 with ⟨rfl, rfl⟩ | ⟨g, cap, cur, rfl, hb, hg, hc, _, _, _⟩
  · exact ⟨none, 0, rfl, fun h => absurd h (Nat.lt_irrefl _), fun b off e => by cases e⟩
  · refine ⟨some ⟨g, 0, none⟩, cap, rfl, fun hn => ⟨g, 0, rfl, (h.lt g rfl).2, fun i hi => ?_⟩, fun b off e => by cases e; exact hb⟩
    have hi2 := ptL_get X Y n i hi
    rw [Nat.zero_add, h.cellAt _ (by omega), h.cellAt _ (by omega)]
    exact hi2
theorem gotB_next {w : World} {base : Nat} {v : Value} {k : Nat} {X Y : Nat → Int} {x y : Int} (h : w.ownsRow base 47 2 v (k + 1) (ptL X Y k ++ [.int .i64 x, .int .i64 y])) (hx : x = X k) (hy : y = Y k) : GotB w base v (k + 1) X Y := by
  unfold GotB ptL
  rw [← hx, ← hy]
  exact h

set_option maxHeartbeats 1000000 in
theorem runc_ok (p q : Option Addr) (n m c d : Nat) (z y : Nat → Int) (o : Int) (w : World) (hn : n ≤ 4096) (hm : m ≤ 4096) (hr : Rd w p n z) (hq : Rd w q m y) (h : cB n m z y = 0) (h2 : btB 0 o 274877906944 = true) :
    Calls Try.prog 18 #[.slice p n c, .slice q m d, .int .i64 o] w (UcP n m z y o w) := by
  have HC := Lib.hid (rck_any p q n m c d z y w hn hm hr hq)
  have HO := Lib.hid (fun W => rin_any o 274877906944 W)
  obtain ⟨o1, o2⟩ := btB_iff.1 h2
  unfold UcP
  rw [(uc_ok h h2).1, (uc_ok h h2).2]
  obtain ⟨hnm, hz, hy⟩ := cB_zero h
  rw [h] at HC
  rw [h2] at HO
  have HZ := Lib.hid hz
  have HY := Lib.hid hy
  have HR := Lib.hid hr
  have HQ := Lib.hid hq
  have HN := Lib.hid hnm
  have HG0 := Lib.hid (gotB_nil w w.heap.size (unL z y o) (unM z y o))
  have HB0 := Lib.hid (Below.refl w.heap.size w)
  clear hr hq h hz hy hnm h2
  obtain ⟨i0, hi, hz0, hz1, hz2⟩ := info_parts Try.infoB
  go_enter Try.func18, Try.ntmps18
  go_wp2_with (first
    | (go_at_call 12; refine HC.out.mono ?_; rintro e w' ⟨rfl, rfl⟩)
    | (go_at_call 27; refine (HO.out _).mono ?_; rintro e w' ⟨rfl, rfl⟩))
  go_loopw [9, 25] (fun v i wr => ∃ (k : Nat) (V : Value), V = v ∧ k ≤ m ∧ i = .int .i64 k ∧ Hid (GotB wr w.heap.size v k (unL z y o) (unM z y o)) ∧ Hid (Below w.heap.size w wr)) (fun _ i _ => m - (intOf i).toNat)
  case atStart => exact ⟨0, _, rfl, Nat.zero_le _, rfl, HG0, HB0⟩
  case round =>
    clear HG0 HB0
    obtain ⟨k, V, rfl, hk, rfl, hgot, hbel⟩ := hrel
    by_cases hlt : k < m
    · have hnm : (k : Int) + 1 < (n : Int) := by have := HN.out; omega
      have hnm2 : (k : Int) < (n : Int) := by omega
      have hnm3 : (k : Int) < (m : Int) := by omega
      obtain ⟨bp, op, rfl, hbp, hcp⟩ := HR.out (by omega)
      obtain ⟨bq, oq, rfl, hbq, hcq⟩ := HQ.out (by omega)
      have h3 : wr.cell? ⟨bp, op + k, none⟩ = some (.int .i64 (z k)) := (hbel.out.cell (p := ⟨bp, op + k, none⟩) hbp).trans (hcp k (by omega))
      have h4 : wr.cell? ⟨bp, op + (k + 1), none⟩ = some (.int .i64 (z (k + 1))) := (hbel.out.cell (p := ⟨bp, op + (k + 1), none⟩) hbp).trans (hcp (k + 1) (by omega))
      have h5 : wr.cell? ⟨bq, oq + k, none⟩ = some (.int .i64 (y k)) := (hbel.out.cell (p := ⟨bq, oq + k, none⟩) hbq).trans (hcq k hlt)
      obtain ⟨z1, z2⟩ := HZ.out k (by omega)
      obtain ⟨z3, z4⟩ := HZ.out (k + 1) (by omega)
      obtain ⟨y1, y2⟩ := HY.out k hlt
      have HV1 := Lib.hid (show unL z y o k = max 0 (z (k + 1) - o) - (z k + o) + y k from rfl)
      have HV2 := Lib.hid (show unM z y o k = z (k + 1) + o - max 0 (z k - o) + y k from rfl)
      generalize z (k + 1) = zb at *
      generalize z k = za at *
      generalize y k = ya at *
      have n1 : (0 : Int) ≤ (k : Int) + 1 := by omega
      have n3 : ((k : Int) + 1).toNat = k + 1 := by omega
      have e1 : IntKind.i64.wrap ((k : Int) + 1) = (k : Int) + 1 := by rw [IntKind.wrap_i64]; omega
      have m1 : 0 ≤ max 0 (za - o) ∧ max 0 (za - o) ≤ 274877906944 := by omega
      have m2 : 0 ≤ max 0 (zb - o) ∧ max 0 (zb - o) ≤ 274877906944 := by omega
      obtain ⟨m1, m3⟩ := m1
      obtain ⟨m2, m4⟩ := m2
      obtain ⟨M1, hM1⟩ : ∃ M, max 0 (za - o) = M := ⟨_, rfl⟩
      obtain ⟨M2, hM2⟩ : ∃ M, max 0 (zb - o) = M := ⟨_, rfl⟩
      rw [hM2] at HV1
      rw [hM1] at HV2
      rw [hM1] at m1 m3
      rw [hM2] at m2 m4
      have HG2 : Hid (∀ q, GotB (wr.drewN q) w.heap.size V k (unL z y o) (unM z y o)) := fun q => hgot.out
      have HB2 : Hid (∀ q, Below w.heap.size w (wr.drewN q)) := fun q => Qu.Below.drewN hbel.out q
      have hsz := hbel.out.size
      clear hcp hcq
      go_wp2
      go_quiet (fail)
      go_wp2_with (at_builtin; refine wpList_append_own _ rfl _ _ 36 rfl w.heap.size 47 i0 (.agg #[.int .i64 0, .int .i64 0]) 2 16 Try.underlying36 hi hz0 hz1 hz2 rfl (by decide) _ k _ rfl ((HG2.out _).alloc _) ⟨wr.heap.size, 0, none⟩ 1 1 [.int .i64 (M2 - (za + o) + ya), .int .i64 (zb + o - M1 + ya)] rfl rfl (cell_two _ _ _ _) (fun u hu => by simp at hu; rcases hu with rfl | rfl <;> rfl) (by unfold maxLen; omega) (by omega) (by simp; omega) ?_; intro v' w4 hown' hgrow hnil)
      have HG' : Hid (GotB w4 w.heap.size v' (k + 1) (unL z y o) (unM z y o)) := gotB_next hown' HV1.out.symm HV2.out.symm
      have HB' : Hid (Below w.heap.size w w4) := below_own ((HB2.out _).alloc (by simpa using hsz) _) (Nat.le_refl _) hgrow (fun k hk => gotB_block hgot.out k hk)
      clear hown' hgrow hnil hgot hbel HG2 HB2
      go_wp2
      go_roundw
      case rel => exact ⟨k + 1, _, rfl, by omega, by go_num, HG', HB'⟩
      case measure => simp [intOf]; omega
    · obtain rfl : k = m := by omega
      obtain ⟨pp, cc, rfl, hrd, hnew⟩ := gotB_rd hgot.out
      go_wp2
      go_ret2
      exact ⟨_, _, rfl, hrd, hbel.out, hnew⟩

set_option maxHeartbeats 400000 in
theorem runc_err (p q : Option Addr) (n m c d : Nat) (z y : Nat → Int) (o : Int) (w : World) (hn : n ≤ 4096) (hm : m ≤ 4096) (hr : Rd w p n z) (hq : Rd w q m y) (h : cB n m z y ≠ 0 ∨ btB 0 o 274877906944 = false) :
    Calls Try.prog 18 #[.slice p n c, .slice q m d, .int .i64 o] w (UcP n m z y o w) := by
  have HC := Lib.hid (rck_any p q n m c d z y w hn hm hr hq)
  have HO := Lib.hid (fun W => rin_any o 274877906944 W)
  unfold UcP
  clear hr hq
  by_cases h0 : cB n m z y = 0
  · have h2 : btB 0 o 274877906944 = false := by rcases h with h | h; · exact absurd h0 h
                                                 · exact h
    rw [(uc_off h0 h2).1, (uc_off h0 h2).2]
    rw [h0] at HC
    rw [h2] at HO
    clear h h0 h2
    go_enter Try.func18, Try.ntmps18
    go_wp2_with (first
      | (go_at_call 12; refine HC.out.mono ?_; rintro e w' ⟨rfl, rfl⟩)
      | (go_at_call 27; refine (HO.out _).mono ?_; rintro e w' ⟨rfl, rfl⟩))
    go_ret2
    exact ⟨_, _, rfl, rdp_zero _ _ _ _, Below.refl _ _, fun b off e => by cases e⟩
  · rw [(uc_no h0).1, (uc_no h0).2]
    have hc : (cB n m z y != 0) = true := by simp; exact h0
    generalize cB n m z y = cc at *
    clear h h0 HO
    go_enter Try.func18, Try.ntmps18
    go_wp2_with (go_at_call 12; refine HC.out.mono ?_; rintro e w' ⟨rfl, rfl⟩)
    go_ret2
    exact ⟨_, _, rfl, rdp_zero _ _ _ _, Below.refl _ _, fun b off e => by cases e⟩
theorem runc_any (p q : Option Addr) (n m c d : Nat) (z y : Nat → Int) (o : Int) (w : World) (hn : n ≤ 4096) (hm : m ≤ 4096) (hr : Rd w p n z) (hq : Rd w q m y) :
    Calls Try.prog 18 #[.slice p n c, .slice q m d, .int .i64 o] w (UcP n m z y o w) := by
  by_cases h : cB n m z y = 0
  · cases h2 : btB 0 o 274877906944 with
    | false => exact runc_err p q n m c d z y o w hn hm hr hq (.inr h2)
    | true => exact runc_ok p q n m c d z y o w hn hm hr hq h h2
  · exact runc_err p q n m c d z y o w hn hm hr hq (.inl h)

/-- A truth, and new memory at most. -/
def Et (t : Bool) (w : World) (e : Ending) (w' : World) : Prop := e = .returned (.bool t) ∧ Below w.heap.size w w'
set_option maxHeartbeats 1600000 in
theorem sameb_yes (p q : Option Addr) (n c d : Nat) (X Y : Nat → Int) (w : World) (hn : n ≤ 4096) (hp : RdP w p n X Y) (hq : RdP w q n X Y) :
    Calls Try.prog 19 #[.slice p n c, .slice q n d] w (Et true w) := by
  have HP := Lib.hid hp
  have HQ := Lib.hid hq
  have hxx : ((n : Int) != (n : Int)) = false := by simp
  clear hp hq
  go_enter Try.func19, Try.ntmps19
  go_wp2
  go_loopw [13] (fun i wr => ∃ k : Nat, k ≤ n ∧ i = .int .i64 k ∧ Hid (Below w.heap.size w wr)) (fun i _ => n - (intOf i).toNat)
  case atStart => exact ⟨0, Nat.zero_le _, rfl, Below.refl _ _⟩
  case round =>
    obtain ⟨k, hk, rfl, hb⟩ := hrel
    by_cases hkn : k < n
    · obtain ⟨b, off, rfl, hpt⟩ := HP.out (by omega)
      obtain ⟨b', off', rfl, hpt'⟩ := HQ.out (by omega)
      obtain ⟨c1, c2⟩ := (hpt.up hb.out (Nat.le_refl _)).2 k hkn
      obtain ⟨c3, c4⟩ := (hpt'.up hb.out (Nat.le_refl _)).2 k hkn
      have hki : (k : Int) < (n : Int) := by omega
      have hpp : Try.prog.stoodInHeld 47 = false := by kernel_rfl
      have hgt : Try.prog.eqGuardType Try.prog.depth 47 = false := by kernel_rfl
      clear hpt hpt'
      generalize X k = x at *
      generalize Y k = y at *
      go_wp2
      go_quiet (fail)
      clear c1 c2 c3 c4
      go_wp2
      go_roundw
      case rel => exact ⟨k + 1, by omega, by go_num, Qu.Below.drewN hb.out _⟩
      case measure => simp [intOf]; omega
    · obtain rfl : k = n := by omega
      go_wp2
      go_ret
      exact ⟨rfl, hb.out⟩
theorem same_t (a a' : Option Addr) (n c c' : Nat) (z : Nat → Int) (w : World) (hn : n ≤ 4096) (hr : Rd w a n z) (hr' : Rd w a' n z) :
    Calls Try.prog 15 #[.slice a n c, .slice a' n c'] w (Et true w) := by
  refine (Qu.same_eq a a' n c c' z z w (by omega) hr hr').mono ?_
  rintro e w' ⟨rfl, q, rfl⟩
  exact ⟨by rw [Qu.eqB_of (fun _ _ => rfl)], Qu.Below.drewN (Below.refl _ _) q⟩
end Go.Proofs.Ytbcjigociliflaa.If

/-
  The contract of Balance of package inflow and of the reference.
-/
import Derived.Test.YtbcjigociliflaaIfSmo
import Derived.Test.YtbcjigociliflaaQuShm
import Derived.Test.YtbcjigociliflaaCuDeck
namespace Go.Proofs.Ytbcjigociliflaa.If
open Go.ChangeShapes Go.WideShapes Go.ChangeAt Go.RowKit
open Go.Proofs.Ytbcjigociliflaa.Qu (sumZ sumZ_congr Rd Got got_nil got_rd got_next got_news upTo upTo_zero upTo_all own_made)
set_option linter.unusedVariables false

/-- What Balance returns. -/
def baN (n m : Nat) (z y : Nat → Int) : Nat := if cB n m z y = 0 then m else 0
/-- .. in new memory. -/
def LcN (c : Int) (N : Nat) (f : Nat → Int) (w : World) (e : Ending) (w' : World) : Prop :=
  ∃ p cap, e = .returned (.tuple #[.slice p N cap, .int .i64 c]) ∧ Rd w' p N f ∧ Below w.heap.size w w' ∧ ∀ b off, p = some ⟨b, off, none⟩ → w.heap.size ≤ b
def BaP (n m : Nat) (z y : Nat → Int) (w : World) (e : Ending) (w' : World) : Prop := LcN (cB n m z y) (baN n m z y) (bal z y) w e w'
theorem baN_no {n m : Nat} {z y : Nat → Int} (h : cB n m z y ≠ 0) : baN n m z y = 0 := if_neg h
theorem baN_ok {n m : Nat} {z y : Nat → Int} (h : cB n m z y = 0) : baN n m z y = m := if_pos h
theorem cB_zero {n m : Nat} {z y : Nat → Int} (h : cB n m z y = 0) : n = m + 1 ∧ (∀ i, i < n → 0 ≤ z i ∧ z i ≤ 274877906944) ∧ ∀ i, i < m → 0 ≤ y i ∧ y i ≤ 1073741824 := by
  rcases cB_cases n m z y with ⟨_, e⟩ | ⟨_, _, e⟩ | ⟨_, _, _, e⟩ | ⟨h1, h2, h3, _⟩
  · omega
  · omega
  · omega
  · exact ⟨h1, allW_all h2, allW_all h3⟩
theorem cB_of {n m : Nat} {z y : Nat → Int} (h : n = m + 1) (hz : ∀ i, i < n → 0 ≤ z i ∧ z i ≤ 274877906944) (hy : ∀ i, i < m → 0 ≤ y i ∧ y i ≤ 1073741824) : cB n m z y = 0 := cB_ok h (allW_of hz) (allW_of hy)

set_option maxHeartbeats 400000 in
theorem bal_err (p q : Option Addr) (n m c d : Nat) (z y : Nat → Int) (w : World) (hn : n ≤ 4096) (hm : m ≤ 4096) (hr : Rd w p n z) (hq : Rd w q m y) (h : cB n m z y ≠ 0) :
    Calls Try.prog 13 #[.slice p n c, .slice q m d] w (BaP n m z y w) := by
  have HC := Lib.hid (ck_any p q n m c d z y w hn hm hr hq)
  unfold BaP
  rw [baN_no h]
  have hc : (cB n m z y != 0) = true := by simp; exact h
  generalize cB n m z y = cc at *
  clear hr hq h
  go_enter Try.func13, Try.ntmps13
  go_wp2_with (go_at_call 11; refine HC.out.mono ?_; rintro e w' ⟨rfl, rfl⟩)
  go_ret2
  exact ⟨_, _, rfl, rd_zero _ _ _, Below.refl _ _, fun b off e => by cases e⟩

set_option maxHeartbeats 400000 in
theorem rbal_err (p q : Option Addr) (n m c d : Nat) (z y : Nat → Int) (w : World) (hn : n ≤ 4096) (hm : m ≤ 4096) (hr : Rd w p n z) (hq : Rd w q m y) (h : cB n m z y ≠ 0) :
    Calls Try.prog 14 #[.slice p n c, .slice q m d] w (BaP n m z y w) := by
  have HC := Lib.hid (rck_any p q n m c d z y w hn hm hr hq)
  unfold BaP
  rw [baN_no h]
  have hc : (cB n m z y != 0) = true := by simp; exact h
  generalize cB n m z y = cc at *
  clear hr hq h
  go_enter Try.func14, Try.ntmps14
  go_wp2_with (go_at_call 12; refine HC.out.mono ?_; rintro e w' ⟨rfl, rfl⟩)
  go_ret2
  exact ⟨_, _, rfl, rd_zero _ _ _, Below.refl _ _, fun b off e => by cases e⟩

set_option maxHeartbeats 1000000 in
theorem bal_ok (p q : Option Addr) (n m c d : Nat) (z y : Nat → Int) (w : World) (hn : n ≤ 4096) (hm : m ≤ 4096) (hr : Rd w p n z) (hq : Rd w q m y) (h : cB n m z y = 0) :
    Calls Try.prog 13 #[.slice p n c, .slice q m d] w (BaP n m z y w) := by
  have HC := Lib.hid (ck_any p q n m c d z y w hn hm hr hq)
  unfold BaP
  rw [baN_ok h]
  obtain ⟨hnm, hz, hy⟩ := cB_zero h
  rw [h] at HC ⊢
  have HZ := Lib.hid hz
  have HY := Lib.hid hy
  have HR := Lib.hid hr
  have HQ := Lib.hid hq
  have HN := Lib.hid hnm
  clear hr hq h hz hy hnm
  obtain ⟨i0, hi, hz0, hz1, hz2⟩ := info_parts Qu.Try.info3
  go_enter Try.func13, Try.ntmps13
  go_wp2_with (first
    | (go_at_call 11; refine HC.out.mono ?_; rintro e w' ⟨rfl, rfl⟩)
    | (at_make; refine wpList_make_full _ rfl (.tmp 17) (.tmp 17) 22 rfl w.heap.size 3 i0 (.int .i64 0) 1 Try.underlying22 hi hz0 hz1 .i64 .i64 _ _ m rfl rfl rfl rfl (by rw [hz2]; omega) (by unfold maxLen; omega) (by simp) ?_; intro w1 hown hgrow))
  have hS1 : w.heap.size < w1.heap.size := (hown.lt _ rfl).2
  have hbel1 : Below w.heap.size w w1 := (Below.refl w.heap.size w).grown hgrow (Nat.le_refl _) (by intro k hk; cases hk)
  have HO1 := Lib.hid ((own_made hown hS1).congr fun i _ => (upTo_zero (bal z y) i).symm)
  have HB1 := Lib.hid hbel1
  clear hown hgrow hbel1 hi hz0 hz1 hz2
  go_loopw [21] (fun i wr => ∃ k : Nat, k ≤ m ∧ i = .int .i64 k ∧ Hid (Qu.Own wr w.heap.size m (upTo (bal z y) k)) ∧ Hid (Below w.heap.size w wr)) (fun i _ => m - (intOf i).toNat)
  case atStart => exact ⟨0, Nat.zero_le _, rfl, HO1, HB1⟩
  case round =>
    clear HO1 HB1 hS1
    obtain ⟨k, hk, rfl, ho1, hbel⟩ := hrel
    by_cases hlt : k < m
    · have hnm : (k : Int) + 1 < (n : Int) := by have := HN.out; omega
      have hnm2 : (k : Int) < (n : Int) := by omega
      have hnm3 : (k : Int) < (m : Int) := by omega
      obtain ⟨bp, op, rfl, hbp, hcp⟩ := HR.out (by omega)
      obtain ⟨bq, oq, rfl, hbq, hcq⟩ := HQ.out (by omega)
      have h1 := ho1.out.cell hlt
      have h2 := ho1.out.free hlt
      have h3 : wr.cell? ⟨bp, op + k, none⟩ = some (.int .i64 (z k)) := (hbel.out.cell (p := ⟨bp, op + k, none⟩) hbp).trans (hcp k (by omega))
      have h4 : wr.cell? ⟨bp, op + (k + 1), none⟩ = some (.int .i64 (z (k + 1))) := (hbel.out.cell (p := ⟨bp, op + (k + 1), none⟩) hbp).trans (hcp (k + 1) (by omega))
      have h5 : wr.cell? ⟨bq, oq + k, none⟩ = some (.int .i64 (y k)) := (hbel.out.cell (p := ⟨bq, oq + k, none⟩) hbq).trans (hcq k hlt)
      obtain ⟨z1, z2⟩ := HZ.out k (by omega)
      obtain ⟨z3, z4⟩ := HZ.out (k + 1) (by omega)
      obtain ⟨y1, y2⟩ := HY.out k hlt
      have HV := Lib.hid (show bal z y k = z (k + 1) - z k + y k from rfl)
      generalize z (k + 1) = zb at *
      generalize z k = za at *
      generalize y k = ya at *
      clear hcp hcq
      go_wp2
      go_region
      go_wp2
      go_roundw
      case rel => exact ⟨k + 1, by omega, by go_num, (ho1.out.next hlt HV.out.symm).drew, (hbel.out.setCell (Nat.le_refl _) _).drew⟩
      case measure => simp [intOf]; omega
    · obtain rfl : k = m := by omega
      go_wp2
      go_ret2
      exact ⟨_, _, rfl, (ho1.out.congr fun i hi => upTo_all _ hi).rd, hbel.out, fun b off e => by cases e; exact Nat.le_refl _⟩
end Go.Proofs.Ytbcjigociliflaa.If

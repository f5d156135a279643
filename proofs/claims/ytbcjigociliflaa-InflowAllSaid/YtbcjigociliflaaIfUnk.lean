/-
  The contract of Uncertain of package inflow: its loop.
-/
import Derived.Test.YtbcjigociliflaaIfUnc
import Derived.Deep.DeepCutAuto
import Derived.Deep.CutRange
import Derived.Handy
namespace Go.Proofs.Ytbcjigociliflaa.If
open Go.ChangeShapes Go.WideShapes Go.ChangeAt Go.RowKit
open Go.Proofs.Ytbcjigociliflaa.Qu (sumZ sumZ_congr Rd upTo upTo_zero upTo_all)
open Go.Proofs.Ytbcjigociliflaa.Cu (Pts RdP ptL ptL_len ptL_get ptL_congr updF updF_same updF_other cell_two)
set_option linter.unusedVariables false
attribute [local go_sem ↓] Go.wp_at_zero Go.wp_at_succ

/-- The error of Uncertain. -/
def ucE (n m : Nat) (z y : Nat → Int) (o : Int) : Int := if cB n m z y = 0 then (if btB 0 o 274877906944 = true then 0 else 1) else cB n m z y
def ucN (n m : Nat) (z y : Nat → Int) (o : Int) : Nat := if ucE n m z y o = 0 then m else 0
theorem uc_no {n m : Nat} {z y : Nat → Int} {o : Int} (h : cB n m z y ≠ 0) : ucE n m z y o = cB n m z y ∧ ucN n m z y o = 0 := by
  have e : ucE n m z y o = cB n m z y := if_neg h
  exact ⟨e, by unfold ucN; rw [e, if_neg h]⟩
theorem uc_off {n m : Nat} {z y : Nat → Int} {o : Int} (h : cB n m z y = 0) (h2 : btB 0 o 274877906944 = false) : ucE n m z y o = 1 ∧ ucN n m z y o = 0 := by
  have e : ucE n m z y o = 1 := by unfold ucE; rw [if_pos h, h2]; simp
  exact ⟨e, by unfold ucN; rw [e]; rfl⟩
theorem uc_ok {n m : Nat} {z y : Nat → Int} {o : Int} (h : cB n m z y = 0) (h2 : btB 0 o 274877906944 = true) : ucE n m z y o = 0 ∧ ucN n m z y o = m := by
  have e : ucE n m z y o = 0 := by unfold ucE; rw [if_pos h, h2]; simp
  exact ⟨e, by unfold ucN; rw [e]; rfl⟩
/-- What Uncertain returns: a list of bounds, and an error. -/
def UcP (n m : Nat) (z y : Nat → Int) (o : Int) (w : World) (e : Ending) (w' : World) : Prop :=
  ∃ p cap, e = .returned (.tuple #[.slice p (ucN n m z y o) cap, .int .i64 (ucE n m z y o)]) ∧ RdP w' p (ucN n m z y o) (unL z y o) (unM z y o) ∧ Below w.heap.size w w' ∧ ∀ b off, p = some ⟨b, off, none⟩ → w.heap.size ≤ b
theorem rdp_zero (w : World) (a : Option Addr) (X Y : Nat → Int) : RdP w a 0 X Y := fun h => absurd h (Nat.lt_irrefl _)

theorem cell_n0 {w : World} {B : Nat} {a b : Value} {t : TypeId} (h : B = w.heap.size) : (w.alloc (.cells #[a, b] t)).cell? ⟨B, 0, none⟩ = some a := by rw [h]; simp
theorem cell_n1 {w : World} {B : Nat} {a b : Value} {t : TypeId} (h : B = w.heap.size) : (w.alloc (.cells #[a, b] t)).cell? ⟨B, 1, none⟩ = some b := by rw [h]; simp
set_option maxHeartbeats 400000 in
theorem unc_err (p q : Option Addr) (n m c d : Nat) (z y : Nat → Int) (o : Int) (w : World) (hn : n ≤ 4096) (hm : m ≤ 4096) (hr : Rd w p n z) (hq : Rd w q m y) (h : cB n m z y ≠ 0 ∨ btB 0 o 274877906944 = false) :
    Calls Try.prog 17 #[.slice p n c, .slice q m d, .int .i64 o] w (UcP n m z y o w) := by
  have HC := Lib.hid (ck_any p q n m c d z y w hn hm hr hq)
  have HO := Lib.hid (fun W => bt_any 0 o 274877906944 W)
  unfold UcP
  clear hr hq
  by_cases h0 : cB n m z y = 0
  · have h2 : btB 0 o 274877906944 = false := by rcases h with h | h; · exact absurd h0 h
                                                 · exact h
    rw [(uc_off h0 h2).1, (uc_off h0 h2).2]
    rw [h0] at HC
    rw [h2] at HO
    clear h h0 h2
    go_enter Try.func17, Try.ntmps17
    go_wp2_with (first
      | (go_at_call 11; refine HC.out.mono ?_; rintro e w' ⟨rfl, rfl⟩)
      | (go_at_call 28; refine (HO.out _).mono ?_; rintro e w' ⟨rfl, rfl⟩))
    go_ret2
    exact ⟨_, _, rfl, rdp_zero _ _ _ _, Below.refl _ _, fun b off e => by cases e⟩
  · rw [(uc_no h0).1, (uc_no h0).2]
    have hc : (cB n m z y != 0) = true := by simp; exact h0
    generalize cB n m z y = cc at *
    clear h h0 HO
    go_enter Try.func17, Try.ntmps17
    go_wp2_with (go_at_call 11; refine HC.out.mono ?_; rintro e w' ⟨rfl, rfl⟩)
    go_ret2
    exact ⟨_, _, rfl, rdp_zero _ _ _ _, Below.refl _ _, fun b off e => by cases e⟩

/-- Two bounds in blocks that have been made since wr. -/
structure Ub (wr : World) (B1 B2 : Nat) (a b c d : Int) (wx : World) : Prop where
  c1 : wx.cell? ⟨B1, 0, none⟩ = some (.int .i64 a)
  c2 : wx.cell? ⟨B1, 1, none⟩ = some (.int .i64 b)
  c3 : wx.cell? ⟨B2, 0, none⟩ = some (.int .i64 c)
  c4 : wx.cell? ⟨B2, 1, none⟩ = some (.int .i64 d)
  bel : Below wr.heap.size wr wx

set_option maxHeartbeats 4000000 in
theorem unc_ok (p q : Option Addr) (n m c d : Nat) (z y : Nat → Int) (o : Int) (w : World) (hn : n ≤ 4096) (hm : m ≤ 4096) (hr : Rd w p n z) (hq : Rd w q m y) (h : cB n m z y = 0) (h2 : btB 0 o 274877906944 = true) :
    Calls Try.prog 17 #[.slice p n c, .slice q m d, .int .i64 o] w (UcP n m z y o w) := by
  have HC := Lib.hid (ck_any p q n m c d z y w hn hm hr hq)
  have HO := Lib.hid (fun W => bt_any 0 o 274877906944 W)
  obtain ⟨o1, o2⟩ := btB_iff.1 h2
  unfold UcP
  rw [(uc_ok h h2).1, (uc_ok h h2).2]
  obtain ⟨hnm, hz, hy⟩ := cB_zero h
  rw [h] at HC
  rw [h2] at HO
  have HZ := Lib.hid hz
  have HY := Lib.hid hy
  have HR := Lib.hid hr
  have HQ := Lib.hid hq
  have HN := Lib.hid hnm
  clear hr hq h hz hy hnm h2
  obtain ⟨i0, hi, hz0, hz1, hz2⟩ := info_parts Try.infoB
  go_enter Try.func17, Try.ntmps17
  go_wp2_with (first
    | (go_at_call 11; refine HC.out.mono ?_; rintro e w' ⟨rfl, rfl⟩)
    | (go_at_call 28; refine (HO.out _).mono ?_; rintro e w' ⟨rfl, rfl⟩)
    | (at_make; refine wpList_make_full _ rfl (.tmp 24) (.tmp 24) 36 rfl w.heap.size 47 i0 (.agg #[.int .i64 0, .int .i64 0]) 2 Try.underlying36 hi hz0 hz1 .i64 .i64 _ _ m rfl rfl rfl rfl (by rw [hz2]; omega) (by unfold maxLen; omega) (by simp) ?_; intro w1 hown hgrow))
  have hS1 : w.heap.size < w1.heap.size := (hown.lt _ rfl).2
  have hbel1 : Below w.heap.size w w1 := (Below.refl w.heap.size w).grown hgrow (Nat.le_refl _) (by intro k hk; cases hk)
  have HO1 := Lib.hid ((ownP_made hown hS1).congr fun i _ => ⟨(upTo_zero (unL z y o) i).symm, (upTo_zero (unM z y o) i).symm⟩)
  have HB1 := Lib.hid hbel1
  clear hown hgrow hbel1 hi hz0 hz1 hz2
  go_loopw [28] (fun i wr => ∃ k : Nat, k ≤ m ∧ i = .int .i64 k ∧ Hid (OwnP wr w.heap.size m (upTo (unL z y o) k) (upTo (unM z y o) k)) ∧ Hid (Below w.heap.size w wr)) (fun i _ => m - (intOf i).toNat)
  case atStart => exact ⟨0, Nat.zero_le _, rfl, HO1, HB1⟩
  case round =>
    clear HO1 HB1 hS1
    obtain ⟨k, hk, rfl, ho1, hbel⟩ := hrel
    by_cases hlt : k < m
    · have hnm : (k : Int) + 1 < (n : Int) := by have := HN.out; omega
      have hnm2 : (k : Int) < (n : Int) := by omega
      have hnm3 : (k : Int) < (m : Int) := by omega
      obtain ⟨bp, op, rfl, hbp, hcp⟩ := HR.out (by omega)
      obtain ⟨bq, oq, rfl, hbq, hcq⟩ := HQ.out (by omega)
      have h3 : wr.cell? ⟨bp, op + k, none⟩ = some (.int .i64 (z k)) := (hbel.out.cell (p := ⟨bp, op + k, none⟩) hbp).trans (hcp k (by omega))
      have h4 : wr.cell? ⟨bp, op + (k + 1), none⟩ = some (.int .i64 (z (k + 1))) := (hbel.out.cell (p := ⟨bp, op + (k + 1), none⟩) hbp).trans (hcp (k + 1) (by omega))
      have h5 : wr.cell? ⟨bq, oq + k, none⟩ = some (.int .i64 (y k)) := (hbel.out.cell (p := ⟨bq, oq + k, none⟩) hbq).trans (hcq k hlt)
      obtain ⟨z1, z2⟩ := HZ.out k (by omega)
      obtain ⟨z3, z4⟩ := HZ.out (k + 1) (by omega)
      obtain ⟨y1, y2⟩ := HY.out k hlt
      have HV1 := Lib.hid (show unL z y o k = max 0 (z (k + 1) - o) - (z k + o) + y k from rfl)
      have HV2 := Lib.hid (show unM z y o k = z (k + 1) + o - max 0 (z k - o) + y k from rfl)
      generalize z (k + 1) = zb at *
      generalize z k = za at *
      generalize y k = ya at *
      have HA1 := Lib.hid (fun W => ar_any za o W ⟨z1, z2⟩ ⟨o1, o2⟩)
      have HA2 := Lib.hid (fun W => ar_any zb o W ⟨z3, z4⟩ ⟨o1, o2⟩)
      clear hcp hcq
      go_upto_region 10 with (fail)
      go_cut [12, 13] from 33 to 45 (fun s12 s13 wx => ∃ B1 B2 : Nat, s12 = .pointer (some ⟨B1, 0, none⟩) ∧ s13 = .pointer (some ⟨B2, 0, none⟩) ∧ Hid (Ub wr B1 B2 (max 0 (za - o)) (za + o) (max 0 (zb - o)) (zb + o) wx))
      case first =>
       have n1 : (0 : Int) ≤ (k : Int) := by omega
       have n2 : (0 : Int) ≤ (k : Int) + 1 := by omega
       have n3 : ((k : Int) + 1).toNat = k + 1 := by omega
       have n4 : ¬ (n : Int) ≤ (k : Int) + 1 := by omega
       have e1 : IntKind.i64.wrap ((k : Int) + 1) = (k : Int) + 1 := by rw [IntKind.wrap_i64]; omega
       clear h5
       go_region_held3 (fun W => W.cell? ⟨bp, op + k, none⟩ = some (.int .i64 za) ∧ W.cell? ⟨bp, op + (k + 1), none⟩ = some (.int .i64 zb)) (first | exact ⟨h3, h4⟩ | assumption | (refine ⟨?_, ?_⟩ <;> (repeat (first | assumption | exact h3 | exact h4 | apply cell_up | (refine cell_st ?_ _ (by have := hbel.out.size; simp; omega)))) <;> done) | go_keep)
         (first
           | (go_at_call_has 29 (Value.int .i64 za); refine (HA1.out _).mono ?_; rintro e w5 ⟨rfl, rfl⟩)
           | (go_at_call_has 29 (Value.int .i64 zb); refine (HA2.out _).mono ?_; rintro e w6 ⟨rfl, rfl⟩)
           | fail)
       all_goals
        go_wp2_with fail
        go_meet
        refine ⟨_, _, rfl, rfl, ⟨?_, ?_, ?_, ?_, ?_⟩⟩
        · change ((((wr.alloc _).alloc _).alloc _).alloc _).cell? _ = _
          repeat (first | (refine cell_n0 ?_; simp; done) | apply cell_up)
        · change ((((wr.alloc _).alloc _).alloc _).alloc _).cell? _ = _
          repeat (first | (refine cell_n1 ?_; simp; done) | apply cell_up)
        · change ((((wr.alloc _).alloc _).alloc _).alloc _).cell? _ = _
          repeat (first | (refine cell_n0 ?_; simp; done) | apply cell_up)
        · change ((((wr.alloc _).alloc _).alloc _).alloc _).cell? _ = _
          repeat (first | (refine cell_n1 ?_; simp; done) | apply cell_up)
        · exact below_drew (((((Below.refl _ wr).alloc (Nat.le_refl _) _).alloc (by simp) _).alloc (by simp; omega) _).alloc (by simp; omega) _)
      case rest =>
       obtain ⟨B1, B2, rfl, rfl, hub⟩ := hcut
       obtain ⟨d1, d2, d3, d4, hbc⟩ := hub.out
       have HO2 : Hid (OwnP wc w.heap.size m (upTo (unL z y o) k) (upTo (unM z y o) k)) := ho1.out.below hbc ho1.out.1
       have HB2 : Hid (Below w.heap.size w wc) := hbel.out.trans (hbc.mono hbel.out.size)
       obtain ⟨⟨f1, f2⟩, f3, f4⟩ := HO2.out.2 k hlt
       have m1 : 0 ≤ max 0 (za - o) ∧ max 0 (za - o) ≤ 274877906944 := by omega
       have m2 : 0 ≤ max 0 (zb - o) ∧ max 0 (zb - o) ≤ 274877906944 := by omega
       obtain ⟨m1, m3⟩ := m1
       obtain ⟨m2, m4⟩ := m2
       generalize max 0 (za - o) = M1 at *
       generalize max 0 (zb - o) = M2 at *
       clear hub ho1 hbel hbc h3 h4 h5 HA1 HA2
       go_wp2
       exact ⟨⟨k + 1, by omega, by go_num, HO2.out.next hlt HV1.out.symm HV2.out.symm, (HB2.out.setCell (Nat.le_refl _) _).setCell (Nat.le_refl _) _⟩, by simp [intOf]; omega⟩
    · obtain rfl : k = m := by omega
      go_wp2
      go_ret2
      exact ⟨_, _, rfl, (ho1.out.congr fun i hi => ⟨upTo_all _ hi, upTo_all _ hi⟩).rd, hbel.out, fun b off e => by cases e; exact Nat.le_refl _⟩

/-- Uncertain, whatever the volumes, the flows (at most 4096 of each) and the error. -/
theorem unc_any (p q : Option Addr) (n m c d : Nat) (z y : Nat → Int) (o : Int) (w : World) (hn : n ≤ 4096) (hm : m ≤ 4096) (hr : Rd w p n z) (hq : Rd w q m y) :
    Calls Try.prog 17 #[.slice p n c, .slice q m d, .int .i64 o] w (UcP n m z y o w) := by
  by_cases h : cB n m z y = 0
  · cases h2 : btB 0 o 274877906944 with
    | false => exact unc_err p q n m c d z y o w hn hm hr hq (.inr h2)
    | true => exact unc_ok p q n m c d z y o w hn hm hr hq h h2
  · exact unc_err p q n m c d z y o w hn hm hr hq (.inl h)
end Go.Proofs.Ytbcjigociliflaa.If

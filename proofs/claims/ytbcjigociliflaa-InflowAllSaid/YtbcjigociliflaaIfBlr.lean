/-
  The contract of Balance of the reference; Balance for any input.
-/
import Derived.Test.YtbcjigociliflaaIfBal
import Derived.Deep.RegionHeld3
import Derived.Deep.AppendLies
import Derived.Deep.DrawnRows
namespace Go.Proofs.Ytbcjigociliflaa.If
open Go.ChangeShapes Go.WideShapes Go.ChangeAt Go.RowKit
open Go.Proofs.Ytbcjigociliflaa.Qu (sumZ sumZ_congr Rd Got got_nil got_rd got_next got_news got_block)
set_option linter.unusedVariables false
attribute [local go_sem ↓] Go.wp_at_zero Go.wp_at_succ

theorem cell_one (w : World) (u : Value) (t : TypeId) : ∀ j x, [u][j]? = some x → (w.alloc (.cells #[u] t)).cell? ((⟨w.heap.size, 0, none⟩ : Addr).add j) = some x := by
  intro j x hj
  match j, hj with
  | 0, hj => simp at hj; subst hj; simp [Addr.add]
theorem below_drew {B : Nat} {a w : World} (h : Below B a w) : Below B a w.drew := ⟨h.os, h.tape, h.output, h.size, h.block⟩
theorem got_drew {w : World} {base : Nat} {v : Value} {n : Nat} {f : Nat → Int} (h : Got w base v n f) : Got w.drew base v n f := h
theorem got_next' {w : World} {base : Nat} {v : Value} {k : Nat} {f : Nat → Int} {x : Int} (h : w.ownsRow base 3 1 v (k + 1) (((List.range k).map fun i => Value.int .i64 (f i)) ++ [.int .i64 x])) (hx : x = f k) : Got w base v (k + 1) f := by
  rw [got_news f k x hx] at h
  exact h
theorem got_new {w : World} {base : Nat} {v : Value} {n : Nat} {f : Nat → Int} (h : Got w base v n f) : ∃ p cap, v = .slice p n cap ∧ Rd w p n f ∧ ∀ b off, p = some ⟨b, off, none⟩ → base ≤ b := by
  obtain ⟨p, cap, rfl, hr⟩ := got_rd h
  refine ⟨p, cap, rfl, hr, fun b off e => ?_⟩
  subst e
  rcases h.2 with ⟨e, _⟩ | ⟨g, cap, cur, e, hb, _⟩
  · cases e
  · cases e; exact hb
theorem below_own {B : Nat} {a w w' : World} {r : Option Nat} (h : Below B a w) (hB : B ≤ a.heap.size) (hg : w.grownBy w' r) (hr : ∀ k, r = some k → B ≤ k) : Below B a w' := h.grown hg (Nat.le_trans hB h.size) hr

theorem cell_up {w : World} {a : Addr} {v : Value} (h : w.cell? a = some v) (o : Obj) : (w.alloc o).cell? a = some v :=
  (((Below.refl w.heap.size w).alloc (Nat.le_refl _) o).cell (p := a) (World.block_lt_of_cell? _ _ h)).trans h

set_option maxHeartbeats 1000000 in
theorem rbal_ok (p q : Option Addr) (n m c d : Nat) (z y : Nat → Int) (w : World) (hn : n ≤ 4096) (hm : m ≤ 4096) (hr : Rd w p n z) (hq : Rd w q m y) (h : cB n m z y = 0) :
    Calls Try.prog 14 #[.slice p n c, .slice q m d] w (BaP n m z y w) := by
  have HC := Lib.hid (rck_any p q n m c d z y w hn hm hr hq)
  unfold BaP
  rw [baN_ok h]
  obtain ⟨hnm, hz, hy⟩ := cB_zero h
  rw [h] at HC ⊢
  have HZ := Lib.hid hz
  have HY := Lib.hid hy
  have HR := Lib.hid hr
  have HQ := Lib.hid hq
  have HN := Lib.hid hnm
  have HG0 := Lib.hid (got_nil w w.heap.size (bal z y))
  have HB0 := Lib.hid (Below.refl w.heap.size w)
  clear hr hq h hz hy hnm
  obtain ⟨i0, hi, hz0, hz1, hz2⟩ := info_parts Qu.Try.info3
  go_enter Try.func14, Try.ntmps14
  go_wp2_with (go_at_call 12; refine HC.out.mono ?_; rintro e w' ⟨rfl, rfl⟩)
  go_loopw [7, 18] (fun v i wr => ∃ (k : Nat) (V : Value), V = v ∧ k ≤ m ∧ i = .int .i64 k ∧ Hid (Got wr w.heap.size v k (bal z y)) ∧ Hid (Below w.heap.size w wr)) (fun _ i _ => m - (intOf i).toNat)
  case atStart => exact ⟨0, _, rfl, Nat.zero_le _, rfl, HG0, HB0⟩
  case round =>
    clear HG0 HB0
    obtain ⟨k, V, rfl, hk, rfl, hgot, hbel⟩ := hrel
    by_cases hlt : k < m
    · have hnm : (k : Int) + 1 < (n : Int) := by have := HN.out; omega
      have hnm2 : (k : Int) < (n : Int) := by omega
      have hnm3 : (k : Int) < (m : Int) := by omega
      obtain ⟨bp, op, rfl, hbp, hcp⟩ := HR.out (by omega)
      obtain ⟨bq, oq, rfl, hbq, hcq⟩ := HQ.out (by omega)
      have h3 : wr.cell? ⟨bp, op + k, none⟩ = some (.int .i64 (z k)) := (hbel.out.cell (p := ⟨bp, op + k, none⟩) hbp).trans (hcp k (by omega))
      have h4 : wr.cell? ⟨bp, op + (k + 1), none⟩ = some (.int .i64 (z (k + 1))) := (hbel.out.cell (p := ⟨bp, op + (k + 1), none⟩) hbp).trans (hcp (k + 1) (by omega))
      have h5 : wr.cell? ⟨bq, oq + k, none⟩ = some (.int .i64 (y k)) := (hbel.out.cell (p := ⟨bq, oq + k, none⟩) hbq).trans (hcq k hlt)
      obtain ⟨z1, z2⟩ := HZ.out k (by omega)
      obtain ⟨z3, z4⟩ := HZ.out (k + 1) (by omega)
      obtain ⟨y1, y2⟩ := HY.out k hlt
      have HV := Lib.hid (show bal z y k = z (k + 1) - z k + y k from rfl)
      generalize z (k + 1) = zb at *
      generalize z k = za at *
      generalize y k = ya at *
      clear hcp hcq
      go_wp2
      have n1 : (0 : Int) ≤ (k : Int) := by omega
      have n2 : (0 : Int) ≤ (k : Int) + 1 := by omega
      have n3 : ((k : Int) + 1).toNat = k + 1 := by omega
      have n4 : ¬ (n : Int) ≤ (k : Int) + 1 := by omega
      have e1 : IntKind.i64.wrap ((k : Int) + 1) = (k : Int) + 1 := by rw [IntKind.wrap_i64]; omega
      have e2 : IntKind.i64.wrap (zb - za) = zb - za := by rw [IntKind.wrap_i64]; omega
      have e3 : IntKind.i64.wrap (zb - za + ya) = zb - za + ya := by rw [IntKind.wrap_i64]; omega
      have HVne : Hid (V.ownBlock ≠ some bp) := fun e => by have := got_block hgot.out bp e; omega
      clear h5
      go_region_held3 (fun W => W.cell? ⟨bp, op + k, none⟩ = some (.int .i64 za) ∧ W.cell? ⟨bp, op + (k + 1), none⟩ = some (.int .i64 zb)) (first | exact ⟨h3, h4⟩ | exact ⟨cell_up h3 _, cell_up h4 _⟩ | exact ⟨hgrow.cell (cell_up h3 _) (Ne.symm HVne.out), hgrow.cell (cell_up h4 _) (Ne.symm HVne.out)⟩ | assumption | go_keep)
        (first
          | (refine step_append_lies _ (by rfl) _ _ _ (by rfl) w.heap.size 3 i0 _ 1 8 Try.underlying22 hi hz0 hz1 hz2 rfl (by omega) V k ((List.range k).map fun i => Value.int .i64 (bal z y i)) (by rfl) (World.ownsRow.alloc hgot.out _) ⟨wr.heap.size, 0, none⟩ 1 1 [.int .i64 (zb - za + ya)] (by rfl) (by rfl) (World.news_of_block (cs := #[.int .i64 (zb - za + ya)]) (t := 3) (fr := (0, 0)) (heap_alloc_new wr _)) (by simp [Value.oneCell']) (by omega) (by unfold maxLen; omega) (by omega) (by have := hbel.out.size; first | omega | (simp; omega)) _ (by rfl) ?_; intro gg cap w4 hown4 hgrow hat hlt)
          | (refine step_append_lies _ (by rfl) _ _ _ (by rfl) w.heap.size 3 i0 _ 1 8 Try.underlying22 hi hz0 hz1 hz2 rfl (by omega) V k ((List.range k).map fun i => Value.int .i64 (bal z y i)) (by rfl) (World.ownsRow.alloc (World.ownsRow.drew hgot.out) _) ⟨wr.heap.size, 0, none⟩ 1 1 [.int .i64 (zb - za + ya)] (by rfl) (by rfl) (World.news_of_block (cs := #[.int .i64 (zb - za + ya)]) (t := 3) (fr := (0, 0)) (heap_alloc_new wr.drew _)) (by simp [Value.oneCell']) (by omega) (by unfold maxLen; omega) (by omega) (by have := hbel.out.size; first | omega | (simp; omega)) _ (by rfl) ?_; intro gg cap w4 hown4 hgrow hat hlt)
          | fail)
      have HG' : Hid (Got w4 w.heap.size (.slice (some ⟨gg, 0, none⟩) (k + 1) cap) (k + 1) (bal z y)) := got_next' hown4 HV.out.symm
      have HB' : Hid (Below w.heap.size w w4) := below_own (below_drew (hbel.out.alloc hbel.out.size _)) (Nat.le_refl _) hgrow (fun k hk => got_block hgot.out k hk)
      clear hown4 hgrow hat hgot hbel
      go_wp2
      go_roundw
      case rel => exact ⟨k + 1, _, rfl, by omega, by go_num, HG', HB'⟩
      case measure => simp [intOf]; omega
    · obtain rfl : k = m := by omega
      obtain ⟨pp, cc, rfl, hrd, hnew⟩ := got_new hgot.out
      go_wp2
      go_ret2
      exact ⟨_, _, rfl, hrd, hbel.out, hnew⟩

/-- Balance, whatever the volumes and the flows (at most 4096 of each). -/
theorem bal_any (p q : Option Addr) (n m c d : Nat) (z y : Nat → Int) (w : World) (hn : n ≤ 4096) (hm : m ≤ 4096) (hr : Rd w p n z) (hq : Rd w q m y) :
    Calls Try.prog 13 #[.slice p n c, .slice q m d] w (BaP n m z y w) := by
  by_cases h : cB n m z y = 0
  · exact bal_ok p q n m c d z y w hn hm hr hq h
  · exact bal_err p q n m c d z y w hn hm hr hq h
theorem rbal_any (p q : Option Addr) (n m c d : Nat) (z y : Nat → Int) (w : World) (hn : n ≤ 4096) (hm : m ≤ 4096) (hr : Rd w p n z) (hq : Rd w q m y) :
    Calls Try.prog 14 #[.slice p n c, .slice q m d] w (BaP n m z y w) := by
  by_cases h : cB n m z y = 0
  · exact rbal_ok p q n m c d z y w hn hm hr hq h
  · exact rbal_err p q n m c d z y w hn hm hr hq h
end Go.Proofs.Ytbcjigociliflaa.If

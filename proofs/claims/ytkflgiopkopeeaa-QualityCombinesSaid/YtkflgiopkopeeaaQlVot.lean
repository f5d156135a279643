/-
  The contract of Vote of package quality.
-/
import Derived.Test.YtkflgiopkopeeaaQlBase
import Derived.Test.YtkflgiopkopeeaaQlLay
import Derived.Sort.OwnSortedInts
import Derived.Lib.OwnBridge
import Derived.Sort.AtCall
namespace Go.Proofs.Ytkflgiopkopeeaa.Ql
open Go.ChangeShapes Go.WideShapes Go.ChangeAt Go.RowKit Go.Shelf Go.Sort
open Go.Proofs.Ytkflgiopkopeeaa.Ca (Rd Got got_nil got_next got_rd got_block)
open Go.Proofs.Ytkflgiopkopeeaa.Cu (grown_trans grown_refl)
set_option linter.unusedVariables false

theorem cell_holds {w : World} {g : Nat} {S : List Int} (h : Holds (Value.int .i64) w g 0 S.toArray) (j : Nat) (hj : j < S.length) : w.cell? ⟨g, j, none⟩ = some (.int .i64 (S.getD j 0)) := by
  have e := (h j (by simpa using hj)).1
  rw [Nat.zero_add] at e
  rw [e]
  simp [List.getD, hj]
theorem sort_any (g cap : Nat) (L : List Int) (w : World) (hH : Holds (Value.int .i64) w g 0 L.toArray) (hg : g < w.heap.size) (hn : L.length ≤ 1000000) :
    Calls Try.prog 41 #[.slice (some ⟨g, 0, none⟩) L.length cap] w fun e w' => e = .returned (.tuple #[]) ∧ Holds (Value.int .i64) w' g 0 (srt L).toArray ∧ w.grownBy w' (some g) :=
  Calls.mono (Any.slices_Sort_int Try.sortL g 0 cap L w hH hg (by omega)) (fun e w' h => by
    obtain ⟨h1, nn, os, h2⟩ := h
    subst h2
    exact ⟨h1, holds_grow _ _ os g 0 _ (by simpa [putRow, mapBlock, Sort.ahead] using hg) (holds_putRow _ _ g 0 _ _ (holds_ahead _ w nn g 0 _ hH) (by simp)), grownBy_sortedI _⟩)
theorem pvt_len (p q : Option Addr) (n m c d : Nat) (V : Nat → Int) (G : Nat → Bool) (w : World) (h : n ≠ m) (hn : n ≤ 1000000) (hm : m ≤ 9223372036854775807) :
    Calls Try.prog 22 #[.slice p n c, .slice q m d] w (Ekt 0 false w) := by
  have e : ((n : Int) != (m : Int)) = true := by simp; omega
  go_enter Try.func22, Try.ntmps22
  go_wp2
  go_ret2
  exact ⟨rfl, Below.refl _ _⟩
set_option maxRecDepth 100000 in
set_option maxHeartbeats 2000000 in
theorem pvt_ok (p q : Option Addr) (n c d : Nat) (V : Nat → Int) (G : Nat → Bool) (w : World) (hn : n ≤ 1000000) (hr : Rd w p n V) (hg : RdL w q n G) :
    Calls Try.prog 22 #[.slice p n c, .slice q n d] w (Ekt (vtI V G n) (vtB V G n) w) := by
  have HR := Lib.hid hr
  have HG := Lib.hid hg
  clear hr hg
  have hni : (n : Int) ≤ 1000000 := by omega
  obtain ⟨i0, hi, hz0, hz1, hz2⟩ := info_parts Try.infoI
  go_enter Try.func22, Try.ntmps22
  go_wp2
  go_loopw [6, 16] (fun v i wr => ∃ (k : Nat) (v0 : Value), v0 = v ∧ k ≤ n ∧ i = .int .i64 k ∧ Hid (Got wr w.heap.size v0 (gdL V G k)) ∧ Hid (Below w.heap.size w wr)) (fun _ i _ => n - (intOf i).toNat)
  case atStart => exact ⟨0, _, rfl, Nat.zero_le _, rfl, got_nil _ _, Below.refl _ _⟩
  case round =>
    obtain ⟨k, v, rfl, hk, rfl, hv, hb⟩ := hrel
    by_cases hlt : k < n
    · obtain ⟨b1, o1, rfl, l1, d1⟩ := (HR.out.below hb.out (Nat.le_refl _)) (by omega)
      obtain ⟨b2, o2, rfl, l2, d2⟩ := (HG.out.below hb.out (Nat.le_refl _)) (by omega)
      have e1 := d1 k hlt
      have e2 := d2 k hlt
      have hws := hb.out.size
      have hkn : (k : Int) < (n : Int) := by omega
      have hgl := gd_len V G k
      clear d1 d2
      cases hg : G k with
      | false =>
        rw [hg] at e2
        have HE := Lib.hid (gd_no (V := V) hg)
        clear hg
        go_wp2
        go_roundw
        case rel => exact ⟨k + 1, _, rfl, by omega, by go_num, by rw [HE.out]; exact hv, hb⟩
        case measure => simp [intOf]; omega
      | true =>
        rw [hg] at e2
        have HE := Lib.hid (gd_yes (V := V) hg)
        clear hg
        generalize V k = vk at *
        go_wp2_with (at_builtin; refine wpList_append_own _ rfl _ _ 26 rfl w.heap.size 3 i0 (.int .i64 0) 1 8 Try.underlying26 hi hz0 hz1 hz2 rfl (by decide) _ _ _ rfl (World.ownsRow.kept hv.out (World.grownBy_alloc _ _ none) (by cases hv2 : (Value.ownBlock _) <;> simp)) ⟨wr.heap.size, 0, none⟩ 1 1 [.int .i64 vk] rfl rfl (cell_one _ _ _) (by intro u hu; simp at hu; subst hu; rfl) (by unfold maxLen; omega) (by omega) (by simp; omega) ?_; intro v' w9 hown' hgrow hnil)
        refine ⟨⟨k + 1, _, rfl, by omega, by go_num, by rw [HE.out]; exact got_next hown', Gg.below_own (hb.out.alloc hws _) (Nat.le_refl _) hgrow (got_block hv.out)⟩, ?_⟩
        simp [intOf]
        omega
    · obtain rfl : k = n := by omega
      by_cases hL : (gdL V G k).length = 0
      · obtain ⟨e1, e2⟩ := vt_none hL
        have E1 := Lib.hid e1
        have E2 := Lib.hid e2
        clear e1 e2
        obtain ⟨p2, cap, rfl, _⟩ := got_rd hv.out
        rw [hL]
        go_wp2
        go_ret2
        rw [E1.out, E2.out]
        exact ⟨rfl, hb.out⟩
      · have hnn : v ≠ .slice none 0 0 := by
          intro e
          obtain ⟨p2, cap, e2, _⟩ := got_rd hv.out
          rw [e] at e2
          simp only [Value.slice.injEq] at e2
          exact hL e2.2.1.symm
        obtain ⟨g, cap, rfl, hbg, hgl, hncap, hcm, hlen, hH⟩ := Lib.holds_of_ownsRow hv.out hnn
        have hT : vtB V G k = true := decide_eq_true (by omega)
        have HT := Lib.hid hT
        clear hv hnn hT
        have hll := gd_len V G k
        generalize vtB V G k = T at *
        have HM : Hid (vtI V G k = (srt (gdL V G k)).getD (((gdL V G k).length - 1) / 2) 0) := rfl
        generalize vtI V G k = M at *
        generalize gdL V G k = L at *
        have hsl := srt_len L
        have HS := Lib.hid (sort_any g cap L wr hH hgl (by omega))
        clear hH
        have hm2 : (L.length - 1) / 2 < (srt L).length := by omega
        generalize L.length = N at *
        have hN : (1 : Int) ≤ (N : Int) := by omega
        have hz : ((N : Int) == 0) = false := by simp; omega
        have hNi : (N : Int) ≤ 1000000 := by omega
        have hmi : (((N - 1) / 2 : Nat) : Int) < (N : Int) := by omega
        go_wp2_with (go_at_call 41; refine HS.out.mono ?_; rintro e w2 ⟨rfl, hh2, hg2⟩; have HB3 : Hid (Below w.heap.size w w2) := below_grown hb.out (Nat.le_refl _) hg2 hbg; have chi : w2.cell? ⟨g, (N - 1) / 2, none⟩ = some (.int .i64 M) := (cell_holds hh2 _ hm2).trans (by rw [HM.out]); clear hh2 hg2)
        go_ret2
        rw [HT.out]
        exact ⟨rfl, HB3.out⟩
theorem pvt_any (p q : Option Addr) (n m c d : Nat) (V : Nat → Int) (G : Nat → Bool) (w : World) (hn : n ≤ 1000000) (hm : m ≤ 9223372036854775807) (hr : Rd w p n V) (hg : RdL w q m G) :
    Calls Try.prog 22 #[.slice p n c, .slice q m d] w (Ekt (if n = m then vtI V G n else 0) (if n = m then vtB V G n else false) w) := by
  by_cases h : n = m
  · subst h
    rw [if_pos rfl, if_pos rfl]
    exact pvt_ok p q n c d V G w hn hr hg
  · rw [if_neg h, if_neg h]
    exact pvt_len p q n m c d V G w h hn hm
end Go.Proofs.Ytkflgiopkopeeaa.Ql

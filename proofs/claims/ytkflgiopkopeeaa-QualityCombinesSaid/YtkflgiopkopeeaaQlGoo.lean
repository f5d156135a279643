/-
  The contract of goods, the statements' own maker of values and marks.
-/
import Derived.Test.YtkflgiopkopeeaaQlBase
import Derived.Test.YtkflgiopkopeeaaCuDeck
import Derived.Lib.OwnKind
import Derived.Sort.AtCall
namespace Go.Proofs.Ytkflgiopkopeeaa.Ql
open Go.ChangeShapes Go.WideShapes Go.ChangeAt Go.RowKit
open Go.Proofs.Ytkflgiopkopeeaa.Cu (grown_below grown_own grown_trans grown_refl updF updF_same updF_other Dk next_any)
set_option linter.unusedVariables false

/-- What the maker holds: the deck, its two lists. -/
structure Gw (w : World) (g : Nat) (p : Option Addr) (dn dc : Nat) (z : Nat → Int) (v1 v2 : Value) (j1 j2 : Nat) (V : Nat → Int) (G : Nat → Bool) (W : World) : Prop where
  gl : g < w.heap.size
  dk : Dk W g p dn dc z
  o1 : Own 3 W w.heap.size v1 j1 (iC V)
  o2 : Own 4 W w.heap.size v2 j2 (bC G)
  gr : w.grownBy W (some g)
  bd : ∀ i, i < j1 → 0 ≤ V i ∧ V i ≤ 59
theorem Gw.turn {w : World} {g : Nat} {p : Option Addr} {dn dc : Nat} {z : Nat → Int} {v1 v2 : Value} {j1 j2 : Nat} {V : Nat → Int} {G : Nat → Bool} {W W' : World} (h : Gw w g p dn dc z v1 v2 j1 j2 V G W) (hd : Dk W' g p dn dc z) (hg : W.grownBy W' (some g)) : Gw w g p dn dc z v1 v2 j1 j2 V G W' where
  gl := h.gl
  dk := hd
  o1 := own_grown h.o1 hg (by
    rcases e : v1.ownBlock with _ | k
    · exact .inl rfl
    · exact .inr (by intro e2; have := own_block h.o1 k e; have := h.gl; have := Option.some.inj e2; omega))
  o2 := own_grown h.o2 hg (by
    rcases e : v2.ownBlock with _ | k
    · exact .inl rfl
    · exact .inr (by intro e2; have := own_block h.o2 k e; have := h.gl; have := Option.some.inj e2; omega))
  gr := grown_trans h.gr hg
  bd := h.bd
theorem Gw.alloc {w : World} {g : Nat} {p : Option Addr} {dn dc : Nat} {z : Nat → Int} {v1 v2 : Value} {j1 j2 : Nat} {V : Nat → Int} {G : Nat → Bool} {W : World} (h : Gw w g p dn dc z v1 v2 j1 j2 V G W) (o : Obj) : Gw w g p dn dc z v1 v2 j1 j2 V G (W.alloc o) := h.turn (h.dk.alloc o) (World.grownBy_alloc W o (some g))
theorem kind_ne {w : World} {B : Nat} {e e' : TypeId} {v v' : Value} {n n' : Nat} {xs xs' : List Value} (h : w.ownsRow B e 1 v n xs) (h' : w.ownsRow B e' 1 v' n' xs') (he : e ≠ e') : v'.ownBlock = none ∨ v'.ownBlock ≠ v.ownBlock := by
  rcases e1 : v'.ownBlock with _ | k
  · exact .inl rfl
  · refine .inr (fun e2 => ?_)
    obtain ⟨c1, f1, h1⟩ := Lib.ownsRow_kind h k e2.symm
    obtain ⟨c2, f2, h2⟩ := Lib.ownsRow_kind h' k e1
    rw [h1] at h2
    simp only [Option.some.injEq, Obj.cells.injEq] at h2
    exact he h2.2.1
theorem Gw.one {w : World} {g : Nat} {p : Option Addr} {dn dc : Nat} {z : Nat → Int} {v1 v2 v' : Value} {j1 j2 : Nat} {V : Nat → Int} {G : Nat → Bool} {W W' : World} {x : Int} (h : Gw w g p dn dc z v1 v2 j1 j2 V G W) (ho : W'.ownsRow w.heap.size 3 1 v' (j1 + 1) (vL (iC V) j1 ++ [.int .i64 x])) (hg : W.grownBy W' v1.ownBlock) (hx : 0 ≤ x ∧ x ≤ 59) : Gw w g p dn dc z v' v2 (j1 + 1) j2 (updF V j1 x) G W' where
  gl := h.gl
  dk := h.dk.grown hg (by intro e; have := own_block h.o1 g e.symm; have := h.gl; omega) (fun k hk => by have := own_block h.o1 k hk; have := h.gl; omega)
  o1 := own_next ho (fun i hi => by unfold iC; rw [updF_other _ _ (by omega)]) (by unfold iC; rw [updF_same])
  o2 := own_grown h.o2 hg (kind_ne h.o1 h.o2 (by decide))
  gr := grown_own h.gr hg (own_block h.o1)
  bd := fun i hi => by
    by_cases e : i = j1
    · subst e; rw [updF_same]; exact hx
    · rw [updF_other _ _ e]; exact h.bd i (by omega)
theorem Gw.two {w : World} {g : Nat} {p : Option Addr} {dn dc : Nat} {z : Nat → Int} {v1 v2 v' : Value} {j1 j2 : Nat} {V : Nat → Int} {G : Nat → Bool} {W W' : World} {x : Bool} (h : Gw w g p dn dc z v1 v2 j1 j2 V G W) (ho : W'.ownsRow w.heap.size 4 1 v' (j2 + 1) (vL (bC G) j2 ++ [.bool x])) (hg : W.grownBy W' v2.ownBlock) : Gw w g p dn dc z v1 v' j1 (j2 + 1) V (updB G j2 x) W' where
  gl := h.gl
  dk := h.dk.grown hg (by intro e; have := own_block h.o2 g e.symm; have := h.gl; omega) (fun k hk => by have := own_block h.o2 k hk; have := h.gl; omega)
  o2 := own_next ho (fun i hi => by unfold bC; rw [updB_other _ _ (by omega)]) (by unfold bC; rw [updB_same])
  o1 := own_grown h.o1 hg (kind_ne h.o2 h.o1 (by decide))
  gr := grown_own h.gr hg (own_block h.o2)
  bd := h.bd
/-- What goods returns. -/
def GoP (w : World) (g : Nat) (p : Option Addr) (dn dc : Nat) (z : Nat → Int) (most : Nat) (e : Ending) (w' : World) : Prop :=
  ∃ v1 v2 j V G, e = .returned (.tuple #[v1, v2]) ∧ j ≤ most ∧ Gw w g p dn dc z v1 v2 j j V G w'
set_option maxRecDepth 100000 in
set_option maxHeartbeats 2000000 in
theorem goods_any (g : Nat) (p : Option Addr) (dn dc : Nat) (z : Nat → Int) (most : Nat) (w : World) (hd : Dk w g p dn dc z) (hm : most ≤ 100) : Calls Try.prog 21 #[.pointer (some ⟨g, 0, none⟩), .int .i64 most] w (GoP w g p dn dc z most) := by
  obtain ⟨i0, hi, hz0, hz1, hz2⟩ := info_parts Try.infoI
  obtain ⟨i1, hj, hw0, hw1, hw2⟩ := info_parts Try.infoL
  have HG0 : Hid (Gw w g p dn dc z (.slice none 0 0) (.slice none 0 0) 0 0 (fun _ => 0) (fun _ => false) w) := ⟨hd.lt, hd, own_nil _ _ _ _, own_nil _ _ _ _, grown_refl _ _, fun i hi => absurd hi (Nat.not_lt_zero _)⟩
  have HD := Lib.hid hd
  have hmi : (most : Int) ≤ 100 := by omega
  clear hd
  go_enter Try.func21, Try.ntmps21
  go_wp2_with (go_at_call 14; refine (next_any g p dn dc z _ _ HD.out (by omega)).mono ?_; rintro e w1 ⟨x, rfl, hx0, hx1, hd1, hg1⟩; have HG1 := Lib.hid (HG0.out.turn hd1 hg1); obtain ⟨kk, rfl⟩ : ∃ kk : Nat, x = (kk : Int) := ⟨x.toNat, by omega⟩; clear hd1 hg1)
  clear HG0 HD
  go_loopw [6, 7, 8] (fun s6 s7 s8 wr => ∃ (k j : Nat) (v1 v2 : Value) (V : Nat → Int) (G : Nat → Bool), v1 = s6 ∧ v2 = s7 ∧ s8 = .int .i64 k ∧ j + k ≤ most ∧ Hid (Gw w g p dn dc z v1 v2 j j V G wr)) (fun _ _ s8 _ => (intOf s8).toNat)
  case atStart => exact ⟨kk, 0, _, _, _, _, rfl, rfl, rfl, by omega, HG1⟩
  case round =>
    clear HG1
    obtain ⟨k, j, v1, v2, V, G, rfl, rfl, rfl, hjk, hgw⟩ := hrel
    by_cases hk : 0 < k
    · have hki : (0 : Int) < (k : Int) := by omega
      have hki2 : (k : Int) ≤ 100 := by omega
      have hws := hgw.out.gr.size
      go_wp2_with (first
        | (go_at_call_has 14 (Value.int .i64 60); refine (next_any g p dn dc z _ _ hgw.out.dk (by omega)).mono ?_; rintro e w2 ⟨x, rfl, hx0, hx1, hd2, hg2⟩; have H2 := Lib.hid ((hgw.out.turn hd2 hg2).alloc (.cells #[.int .i64 x] 3)); have hs2 : w.heap.size ≤ w2.heap.size := Nat.le_trans hws hg2.size; clear hd2 hg2)
        | (go_at_call_has 14 (Value.int .i64 3); refine (next_any g p dn dc z _ _ H3.out.dk (by omega)).mono ?_; rintro e w4 ⟨y, rfl, hy0, hy1, hd4, hg4⟩; have H4 := Lib.hid ((H3.out.turn hd4 hg4).alloc (.cells #[.bool (decide (0 < y))] 4)); have hs4 : w.heap.size ≤ w4.heap.size := Nat.le_trans hs3 hg4.size; clear hd4 hg4)
        | (at_builtin; first
          | (refine wpList_append_own _ rfl _ _ 26 rfl w.heap.size 3 i0 (.int .i64 0) 1 8 Try.underlying26 hi hz0 hz1 hz2 rfl (by decide) _ _ _ rfl H2.out.o1 ⟨w2.heap.size, 0, none⟩ 1 1 [.int .i64 x] rfl rfl (cell_one _ _ _) (by intro u hu; simp at hu; subst hu; rfl) (by unfold maxLen; omega) (by omega) (by simp; omega) ?_; intro v' w3 hown' hgrow hnil; have H3 := Lib.hid (H2.out.one hown' hgrow (by omega)); have hs3 : w.heap.size ≤ w3.heap.size := Nat.le_trans hs2 (by have := hgrow.size; simp at this; omega); clear hown' hgrow hnil)
          | (refine wpList_append_own _ rfl _ _ 42 rfl w.heap.size 4 i1 (.bool false) 1 1 Try.underlying42 hj hw0 hw1 hw2 rfl (by decide) _ _ _ rfl H4.out.o2 ⟨w4.heap.size, 0, none⟩ 1 1 [.bool (decide (0 < y))] rfl rfl (cell_one _ _ _) (by intro u hu; simp at hu; subst hu; rfl) (by unfold maxLen; omega) (by omega) (by simp; omega) ?_; intro v'' w5 hown' hgrow hnil; have H5 := Lib.hid (H4.out.two hown' hgrow); clear hown' hgrow hnil)))
      refine ⟨⟨k - 1, j + 1, _, _, _, _, rfl, rfl, by rw [show (k : Int) - 1 = ((k - 1 : Nat) : Int) by omega], by omega, H5⟩, ?_⟩
      simp [intOf]
      omega
    · obtain rfl : k = 0 := by omega
      go_wp2
      go_ret2
      exact ⟨_, _, j, V, G, rfl, by omega, hgw.out⟩
end Go.Proofs.Ytkflgiopkopeeaa.Ql

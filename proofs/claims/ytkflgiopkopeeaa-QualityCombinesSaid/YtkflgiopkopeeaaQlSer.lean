/-
  The contract of the deck's Series.
-/
import Derived.Test.YtkflgiopkopeeaaQlDck
namespace Go.Proofs.Ytkflgiopkopeeaa.Ql
open Go.ChangeShapes Go.WideShapes Go.ChangeAt Go.RowKit
open Go.Proofs.Ytkflgiopkopeeaa.Cu (grown_below grown_own grown_trans grown_refl updF updF_same updF_other Dk next_any)
open Go.Proofs.Ytkflgiopkopeeaa.Gg (GotR gotR_nil gotR_block gotR_next gotR_rd rsL rsL_one rsL_len updR updR_same updR_other mkR cell_four Vr)
set_option linter.unusedVariables false

/-- A series of k readings. -/
def Sr (R : Nat → Nat → Int) (k : Nat) : Prop := ∀ i, i < k → R i 0 = 0 ∧ R i 1 = (i : Int) ∧ (0 ≤ R i 2 ∧ R i 2 ≤ 1000) ∧ (R i 3 = 0 ∨ R i 3 = 2)
theorem Sr.next {R : Nat → Nat → Int} {k : Nat} (h : Sr R k) {v f : Int} (hv : 0 ≤ v ∧ v ≤ 1000) (hf : f = 0 ∨ f = 2) : Sr (updR R k (mkR 0 (k : Int) v f)) (k + 1) := fun i hi => by
  by_cases e : i = k
  · subst e; rw [updR_same]; exact ⟨rfl, rfl, hv, hf⟩
  · rw [updR_other _ _ e]; exact h i (by omega)
theorem Sr.al {R : Nat → Nat → Int} {k : Nat} (h : Sr R k) (hk : k ≤ 1000) : Gg.alG R k = 0 := (Gg.alG_zero R k).2 (fun i hi => by
  obtain ⟨h0, h1, h2, h3⟩ := h i hi
  refine ⟨by omega, by omega, by omega, by omega, by omega, by omega, ?_, ?_⟩ <;> rcases h3 with h3 | h3 <;> rw [h3] <;> omega)
structure Sw (w : World) (g : Nat) (p : Option Addr) (dn dc : Nat) (z : Nat → Int) (v : Value) (j : Nat) (R : Nat → Nat → Int) (W : World) : Prop where
  gl : g < w.heap.size
  dk : Dk W g p dn dc z
  o : GotR W w.heap.size v j R
  gr : w.grownBy W (some g)
theorem Sw.lt {w : World} {g : Nat} {p : Option Addr} {dn dc : Nat} {z : Nat → Int} {v : Value} {j : Nat} {R : Nat → Nat → Int} {W : World} (h : Sw w g p dn dc z v j R W) : g < W.heap.size := h.dk.lt
theorem Sw.turn {w : World} {g : Nat} {p : Option Addr} {dn dc : Nat} {z : Nat → Int} {v : Value} {j : Nat} {R : Nat → Nat → Int} {W W' : World} (h : Sw w g p dn dc z v j R W) (hd : Dk W' g p dn dc z) (hg : W.grownBy W' (some g)) : Sw w g p dn dc z v j R W' where
  gl := h.gl
  dk := hd
  o := World.ownsRow.kept h.o hg (by
    rcases e : v.ownBlock with _ | k
    · exact .inl rfl
    · exact .inr (by intro e2; have := gotR_block h.o k e; have := h.gl; have := Option.some.inj e2; omega))
  gr := grown_trans h.gr hg
theorem Sw.alloc {w : World} {g : Nat} {p : Option Addr} {dn dc : Nat} {z : Nat → Int} {v : Value} {j : Nat} {R : Nat → Nat → Int} {W : World} (h : Sw w g p dn dc z v j R W) (o : Obj) : Sw w g p dn dc z v j R (W.alloc o) := h.turn (h.dk.alloc o) (World.grownBy_alloc W o (some g))
theorem Sw.set {w : World} {g : Nat} {p : Option Addr} {dn dc : Nat} {z : Nat → Int} {v : Value} {j : Nat} {R : Nat → Nat → Int} {W : World} (h : Sw w g p dn dc z v j R W) (b i : Nat) (u : Value) (hb : w.heap.size ≤ b) (hv : v.ownBlock ≠ some b) : Sw w g p dn dc z v j R (W.setCell ⟨b, i, none⟩ u) := by
  have gr : W.grownBy (W.setCell ⟨b, i, none⟩ u) (some b) := ⟨rfl, rfl, rfl, by simp [World.setCell], fun j hj hne => (Below.heap_setCell _ _ _ _ (by intro e; apply hne; rw [e]))⟩
  have hgl := h.gl
  exact ⟨h.gl, h.dk.grown gr (by intro e; have e2 : g = b := Option.some.inj e; omega) (by intro k hk; cases hk; omega), World.ownsRow.kept h.o gr (.inr hv), grown_own h.gr gr (by intro k hk; cases hk; exact hb)⟩
theorem Sw.app {w : World} {g : Nat} {p : Option Addr} {dn dc : Nat} {z : Nat → Int} {v v' : Value} {j : Nat} {R : Nat → Nat → Int} {W W' : World} {a b c d : Int} (h : Sw w g p dn dc z v j R W) (ho : W'.ownsRow w.heap.size 25 4 v' (j + 1) (rsL R j ++ [.int .i64 a, .int .i64 b, .int .i64 c, .int .i64 d])) (hg : W.grownBy W' v.ownBlock) : Sw w g p dn dc z v' (j + 1) (updR R j (mkR a b c d)) W' := by
  have hgl := h.gl
  exact ⟨h.gl, h.dk.grown hg (by intro e; have := gotR_block h.o g e.symm; omega) (fun k hk => by have := gotR_block h.o k hk; omega), gotR_next ho, grown_own h.gr hg (gotR_block h.o)⟩
/-- What Series returns. -/
def SeP (w : World) (g : Nat) (p : Option Addr) (dn dc : Nat) (z : Nat → Int) (n : Nat) (e : Ending) (w' : World) : Prop :=
  ∃ v R, e = .returned v ∧ Sr R n ∧ Sw w g p dn dc z v n R w'
set_option maxRecDepth 100000 in
set_option maxHeartbeats 4000000 in
theorem series_any (g : Nat) (p : Option Addr) (dn dc : Nat) (z : Nat → Int) (n : Nat) (w : World) (hd : Dk w g p dn dc z) (hn : n ≤ 20) : Calls Try.prog 13 #[.pointer (some ⟨g, 0, none⟩), .int .i64 n] w (SeP w g p dn dc z n) := by
  obtain ⟨i0, hi, hz0, hz1, hz2⟩ := info_parts Gg.Try.infoR
  have HS0 : Hid (Sw w g p dn dc z (.slice none 0 0) 0 (fun _ _ => 0) w) := ⟨hd.lt, hd, gotR_nil _ _ _, grown_refl _ _⟩
  have HSR0 : Hid (Sr (fun _ _ => 0) 0) := fun i hi => absurd hi (Nat.not_lt_zero _)
  have hni : (n : Int) ≤ 20 := by omega
  clear hd
  go_enter Try.func13, Try.ntmps13
  go_wp2
  go_loopw [5, 6, 7] (fun s5 s6 s7 wr => ∃ (k : Nat) (v : Value) (x : Int) (R : Nat → Nat → Int), v = s5 ∧ s6 = .int .i64 x ∧ s7 = .int .i64 k ∧ k ≤ n ∧ (0 ≤ x ∧ x ≤ 120 + 5 * (k : Int)) ∧ Hid (Sr R k) ∧ Hid (Sw w g p dn dc z v k R wr)) (fun _ _ s7 _ => n - (intOf s7).toNat)
  case atStart => exact ⟨0, _, 50, _, rfl, rfl, rfl, Nat.zero_le _, by omega, HSR0, HS0⟩
  case round =>
    clear HS0 HSR0
    obtain ⟨k, v, x, R, rfl, rfl, rfl, hk, ⟨hx0, hx1⟩, hsr, hsw⟩ := hrel
    by_cases hlt : k < n
    · have hkn : (k : Int) < (n : Int) := by omega
      have hws := hsw.out.gr.size
      go_wp2_with (first
        | (go_at_call_has 14 (Value.int .i64 6); refine (next_any g p dn dc z _ _ hsw.out.dk (by omega)).mono ?_; rintro e w2 ⟨a, rfl, ha0, ha1, hd2, hg2⟩; have H2 := Lib.hid (hsw.out.turn hd2 hg2); have hs2 := Nat.le_trans hws hg2.size; clear hd2 hg2)
        | (go_at_call_has 14 (Value.int .i64 120); refine (next_any g p dn dc z _ _ H2.out.dk (by omega)).mono ?_; rintro e w3 ⟨b, rfl, hb0, hb1, hd3, hg3⟩; have H3 := Lib.hid (H2.out.turn hd3 hg3); have hs3 := Nat.le_trans hs2 hg3.size; clear hd3 hg3)
        | (go_at_call_has 14 (Value.int .i64 5); refine (next_any g p dn dc z _ _ H2.out.dk (by omega)).mono ?_; rintro e w3 ⟨b, rfl, hb0, hb1, hd3, hg3⟩; have H3 := Lib.hid (H2.out.turn hd3 hg3); have hs3 := Nat.le_trans hs2 hg3.size; clear hd3 hg3)
        | (go_at_call_has 14 (Value.int .i64 9); first
          | (refine (next_any g p dn dc z _ _ (H3.out.alloc _).dk (by omega)).mono ?_; rintro e w4 ⟨y, rfl, hy0, hy1, hd4, hg4⟩; have HP4 := Lib.hid (H3.out.o.lt); have H4 := Lib.hid ((H3.out.alloc _).turn hd4 hg4); obtain ⟨q0, q1, q2, q3, qf⟩ := four_kept hg4 H3.out.lt; have qf3 := qf 3; have HB : Hid (w.heap.size ≤ w3.heap.size ∧ v.ownBlock ≠ some w3.heap.size) := ⟨hs3, fun e => by have := (HP4.out _ e).2; omega⟩; have hs4 : w3.heap.size + 1 ≤ w4.heap.size := (by have := hg4.size; simp at this; omega); clear hd4 hg4 qf)
          | (refine (next_any g p dn dc z _ _ (H2.out.alloc _).dk (by omega)).mono ?_; rintro e w4 ⟨y, rfl, hy0, hy1, hd4, hg4⟩; have HP4 := Lib.hid (H2.out.o.lt); have H4 := Lib.hid ((H2.out.alloc _).turn hd4 hg4); obtain ⟨q0, q1, q2, q3, qf⟩ := four_kept hg4 H2.out.lt; have qf3 := qf 3; have HB : Hid (w.heap.size ≤ w2.heap.size ∧ v.ownBlock ≠ some w2.heap.size) := ⟨hs2, fun e => by have := (HP4.out _ e).2; omega⟩; have hs4 : w2.heap.size + 1 ≤ w4.heap.size := (by have := hg4.size; simp at this; omega); clear hd4 hg4 qf))
        | (at_builtin; first
          | (have HT := Lib.hid ((H4.out.set _ 3 (.int .i64 2) HB.out.1 HB.out.2).alloc (.cells #[.int .i64 0, .int .i64 k, .int .i64 b, .int .i64 2] 25)); refine wpList_append_own _ rfl _ _ 30 rfl w.heap.size 25 i0 (.agg #[.int .i64 0, .int .i64 0, .int .i64 0, .int .i64 0]) 4 32 Try.underlying30 hi hz0 hz1 hz2 rfl (by decide) v k _ rfl HT.out.o ⟨w4.heap.size, 0, none⟩ 1 1 [.int .i64 0, .int .i64 k, .int .i64 b, .int .i64 2] rfl rfl (Gg.cell_fourN _ _ (by simp) _ _ _ _ _) (by intro u hu; simp at hu; rcases hu with rfl | rfl | rfl | rfl <;> rfl) (by unfold maxLen; omega) (by omega) (by simp; omega) ?_; intro v' w9 hown' hgrow hnil; have H9 := Lib.hid (HT.out.app hown' hgrow); have HN9 := Lib.hid (hsr.out.next (v := b) (f := 2) (by omega) (by omega)); clear hown' hgrow hnil HT)
          | (have HT := Lib.hid (H4.out.alloc (.cells #[.int .i64 0, .int .i64 k, .int .i64 b, .int .i64 0] 25)); refine wpList_append_own _ rfl _ _ 30 rfl w.heap.size 25 i0 (.agg #[.int .i64 0, .int .i64 0, .int .i64 0, .int .i64 0]) 4 32 Try.underlying30 hi hz0 hz1 hz2 rfl (by decide) v k _ rfl HT.out.o ⟨w4.heap.size, 0, none⟩ 1 1 [.int .i64 0, .int .i64 k, .int .i64 b, .int .i64 0] rfl rfl (Gg.cell_fourN _ _ (by simp) _ _ _ _ _) (by intro u hu; simp at hu; rcases hu with rfl | rfl | rfl | rfl <;> rfl) (by unfold maxLen; omega) (by omega) (by simp; omega) ?_; intro v' w9 hown' hgrow hnil; have H9 := Lib.hid (HT.out.app hown' hgrow); have HN9 := Lib.hid (hsr.out.next (v := b) (f := 0) (by omega) (by omega)); clear hown' hgrow hnil HT)
          | (have HT := Lib.hid ((H4.out.set _ 3 (.int .i64 2) HB.out.1 HB.out.2).alloc (.cells #[.int .i64 0, .int .i64 k, .int .i64 (x + b), .int .i64 2] 25)); refine wpList_append_own _ rfl _ _ 30 rfl w.heap.size 25 i0 (.agg #[.int .i64 0, .int .i64 0, .int .i64 0, .int .i64 0]) 4 32 Try.underlying30 hi hz0 hz1 hz2 rfl (by decide) v k _ rfl HT.out.o ⟨w4.heap.size, 0, none⟩ 1 1 [.int .i64 0, .int .i64 k, .int .i64 (x + b), .int .i64 2] rfl rfl (Gg.cell_fourN _ _ (by simp) _ _ _ _ _) (by intro u hu; simp at hu; rcases hu with rfl | rfl | rfl | rfl <;> rfl) (by unfold maxLen; omega) (by omega) (by simp; omega) ?_; intro v' w9 hown' hgrow hnil; have H9 := Lib.hid (HT.out.app hown' hgrow); have HN9 := Lib.hid (hsr.out.next (v := (x + b)) (f := 2) (by omega) (by omega)); clear hown' hgrow hnil HT)
          | (have HT := Lib.hid (H4.out.alloc (.cells #[.int .i64 0, .int .i64 k, .int .i64 (x + b), .int .i64 0] 25)); refine wpList_append_own _ rfl _ _ 30 rfl w.heap.size 25 i0 (.agg #[.int .i64 0, .int .i64 0, .int .i64 0, .int .i64 0]) 4 32 Try.underlying30 hi hz0 hz1 hz2 rfl (by decide) v k _ rfl HT.out.o ⟨w4.heap.size, 0, none⟩ 1 1 [.int .i64 0, .int .i64 k, .int .i64 (x + b), .int .i64 0] rfl rfl (Gg.cell_fourN _ _ (by simp) _ _ _ _ _) (by intro u hu; simp at hu; rcases hu with rfl | rfl | rfl | rfl <;> rfl) (by unfold maxLen; omega) (by omega) (by simp; omega) ?_; intro v' w9 hown' hgrow hnil; have H9 := Lib.hid (HT.out.app hown' hgrow); have HN9 := Lib.hid (hsr.out.next (v := (x + b)) (f := 0) (by omega) (by omega)); clear hown' hgrow hnil HT)
          | (have HT := Lib.hid ((H4.out.set _ 3 (.int .i64 2) HB.out.1 HB.out.2).alloc (.cells #[.int .i64 0, .int .i64 k, .int .i64 x, .int .i64 2] 25)); refine wpList_append_own _ rfl _ _ 30 rfl w.heap.size 25 i0 (.agg #[.int .i64 0, .int .i64 0, .int .i64 0, .int .i64 0]) 4 32 Try.underlying30 hi hz0 hz1 hz2 rfl (by decide) v k _ rfl HT.out.o ⟨w4.heap.size, 0, none⟩ 1 1 [.int .i64 0, .int .i64 k, .int .i64 x, .int .i64 2] rfl rfl (Gg.cell_fourN _ _ (by simp) _ _ _ _ _) (by intro u hu; simp at hu; rcases hu with rfl | rfl | rfl | rfl <;> rfl) (by unfold maxLen; omega) (by omega) (by simp; omega) ?_; intro v' w9 hown' hgrow hnil; have H9 := Lib.hid (HT.out.app hown' hgrow); have HN9 := Lib.hid (hsr.out.next (v := x) (f := 2) (by omega) (by omega)); clear hown' hgrow hnil HT)
          | (have HT := Lib.hid (H4.out.alloc (.cells #[.int .i64 0, .int .i64 k, .int .i64 x, .int .i64 0] 25)); refine wpList_append_own _ rfl _ _ 30 rfl w.heap.size 25 i0 (.agg #[.int .i64 0, .int .i64 0, .int .i64 0, .int .i64 0]) 4 32 Try.underlying30 hi hz0 hz1 hz2 rfl (by decide) v k _ rfl HT.out.o ⟨w4.heap.size, 0, none⟩ 1 1 [.int .i64 0, .int .i64 k, .int .i64 x, .int .i64 0] rfl rfl (Gg.cell_fourN _ _ (by simp) _ _ _ _ _) (by intro u hu; simp at hu; rcases hu with rfl | rfl | rfl | rfl <;> rfl) (by unfold maxLen; omega) (by omega) (by simp; omega) ?_; intro v' w9 hown' hgrow hnil; have H9 := Lib.hid (HT.out.app hown' hgrow); have HN9 := Lib.hid (hsr.out.next (v := x) (f := 0) (by omega) (by omega)); clear hown' hgrow hnil HT)))
      all_goals
        refine ⟨⟨k + 1, _, _, _, rfl, rfl, by go_num, by omega, ⟨by omega, by push_cast; omega⟩, HN9, H9⟩, ?_⟩
        simp [intOf]
        omega
    · obtain rfl : k = n := by omega
      go_wp2
      go_ret
      exact ⟨_, R, rfl, hsr.out, hsw.out⟩
end Go.Proofs.Ytkflgiopkopeeaa.Ql

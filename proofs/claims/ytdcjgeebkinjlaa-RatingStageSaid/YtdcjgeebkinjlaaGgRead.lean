/-
  The contract of Readings: a deck makes a list of valid readings.
-/
import Derived.Test.YtdcjgeebkinjlaaGgFns
import Derived.Test.YtdcjgeebkinjlaaCuDeck
namespace Go.Proofs.Ytdcjgeebkinjlaa.Gg
open Go.ChangeShapes Go.WideShapes Go.ChangeAt Go.RowKit
open Go.Proofs.Ytdcjgeebkinjlaa.Cu (Dk Dk.grown Dk.alloc next_any grown_own grown_trans)
set_option linter.unusedVariables false

/-- What Readings holds: its list, the deck. -/
structure Gi (w : World) (g : Nat) (p : Option Addr) (n c : Nat) (z : Nat → Int) (v : Value) (j : Nat) (R : Nat → Nat → Int) (W : World) : Prop where
  got : GotR W w.heap.size v j R
  dk : Dk W g p n c z
  gr : w.grownBy W (some g)
  lt : g < w.heap.size
theorem setG (w : World) (a : Addr) (u : Value) : w.grownBy (w.setCell a u) (some a.block) :=
  ⟨rfl, rfl, rfl, by simp [World.setCell], fun j hj hne => Below.heap_setCell _ _ _ _ (by intro e; apply hne; rw [e])⟩
theorem Gi.ne {w : World} {g : Nat} {p : Option Addr} {n c : Nat} {z : Nat → Int} {v : Value} {j : Nat} {R : Nat → Nat → Int} {W : World} (h : Gi w g p n c z v j R W) : v.ownBlock ≠ some g := fun e => by
  have := gotR_block h.got g e
  have := h.lt
  omega
theorem Gi.next {w : World} {g : Nat} {p : Option Addr} {n c : Nat} {z : Nat → Int} {v : Value} {j : Nat} {R : Nat → Nat → Int} {W W' : World} (h : Gi w g p n c z v j R W) (hd : Dk W' g p n c z) (hg : W.grownBy W' (some g)) : Gi w g p n c z v j R W' :=
  ⟨h.got.kept hg (.inr h.ne), hd, grown_trans h.gr hg, h.lt⟩
theorem Gi.alloc {w : World} {g : Nat} {p : Option Addr} {n c : Nat} {z : Nat → Int} {v : Value} {j : Nat} {R : Nat → Nat → Int} {W : World} (h : Gi w g p n c z v j R W) (o : Obj) : Gi w g p n c z v j R (W.alloc o) :=
  ⟨World.ownsRow.alloc h.got o, h.dk.alloc o, grown_trans h.gr (World.grownBy_alloc W o (some g)), h.lt⟩
theorem Gi.set {w : World} {g : Nat} {p : Option Addr} {n c : Nat} {z : Nat → Int} {v : Value} {j : Nat} {R : Nat → Nat → Int} {W : World} (h : Gi w g p n c z v j R W) (kb i : Nat) (u : Value) (h1 : w.heap.size ≤ kb) (h2 : v.ownBlock ≠ some kb) : Gi w g p n c z v j R (W.setCell ⟨kb, i, none⟩ u) :=
  have hg : W.grownBy (W.setCell ⟨kb, i, none⟩ u) (some kb) := setG W ⟨kb, i, none⟩ u
  have hl := h.lt
  ⟨h.got.kept hg (.inr h2), h.dk.grown hg (by simp; omega) (by intro k hk; cases hk; omega), grown_own h.gr hg (by intro k hk; cases hk; exact h1), h.lt⟩
theorem Gi.app {w : World} {g : Nat} {p : Option Addr} {n c : Nat} {z : Nat → Int} {v : Value} {j : Nat} {R : Nat → Nat → Int} {W W' : World} (h : Gi w g p n c z v j R W) {v' : Value} {a b c' d : Int} (ho : W'.ownsRow w.heap.size 31 4 v' (j + 1) (rsL R j ++ [.int .i64 a, .int .i64 b, .int .i64 c', .int .i64 d])) (hg : W.grownBy W' v.ownBlock) : Gi w g p n c z v' (j + 1) (updR R j (mkR a b c' d)) W' :=
  ⟨gotR_next ho, h.dk.grown hg (fun e => h.ne e.symm) (fun k hk => by have := gotR_block h.got k hk; have := h.lt; omega), grown_own h.gr hg (fun k hk => gotR_block h.got k hk), h.lt⟩
/-- Readings as the deck makes them. -/
def MkR (R : Nat → Nat → Int) (j : Nat) : Prop := ∀ i, i < j → (0 ≤ R i 0 ∧ R i 0 ≤ 2) ∧ (0 ≤ R i 1 ∧ R i 1 ≤ 9 + 2 * i) ∧ (0 ≤ R i 2 ∧ R i 2 ≤ 299) ∧ (0 ≤ R i 3 ∧ R i 3 ≤ 2)
theorem MkR.next {R : Nat → Nat → Int} {j : Nat} (h : MkR R j) (a b c d : Int) (ha : 0 ≤ a ∧ a ≤ 2) (hb : 0 ≤ b ∧ b ≤ 9 + 2 * j) (hc : 0 ≤ c ∧ c ≤ 299) (hd : 0 ≤ d ∧ d ≤ 2) : MkR (updR R j (mkR a b c d)) (j + 1) := fun i hi => by
  by_cases e : i = j
  · subst e
    rw [updR_same]
    exact ⟨ha, hb, hc, hd⟩
  · rw [updR_other _ _ e]
    exact h i (by omega)
theorem MkR.ok {R : Nat → Nat → Int} {j : Nat} (h : MkR R j) (hj : j ≤ 1000) : alG R j = 0 := by
  rw [alG_zero]
  intro i hi
  obtain ⟨h0, h1, h2, h3⟩ := h i hi
  unfold Vr
  omega
theorem cell_fourN (w : World) (N : Nat) (hN : w.heap.size = N) (u0 u1 u2 u3 : Value) (t : TypeId) : ∀ j x, [u0, u1, u2, u3][j]? = some x → (w.alloc (.cells #[u0, u1, u2, u3] t)).cell? ((⟨N, 0, none⟩ : Addr).add j) = some x := by
  subst hN; exact cell_four w u0 u1 u2 u3 t
def GrP (w : World) (g : Nat) (p : Option Addr) (n c : Nat) (z : Nat → Int) (most : Nat) (e : Ending) (w' : World) : Prop :=
  ∃ (v : Value) (j : Nat) (R : Nat → Nat → Int), e = .returned v ∧ j ≤ most ∧ MkR R j ∧ Gi w g p n c z v j R w'

set_option maxRecDepth 100000 in
set_option maxHeartbeats 4000000 in
theorem readings_any (g : Nat) (p : Option Addr) (n c : Nat) (z : Nat → Int) (most : Nat) (w : World) (hd : Dk w g p n c z) (hm : most ≤ 100) :
    Calls Try.prog 14 #[.pointer (some ⟨g, 0, none⟩), .int .i64 most] w (GrP w g p n c z most) := by
  obtain ⟨i0, hi, hz0, hz1, hz2⟩ := info_parts Try.infoR
  have H0 : Hid (Gi w g p n c z (.slice none 0 0) 0 (fun _ _ => 0) w) := ⟨gotR_nil _ _ _, hd, Cu.grown_refl w _, hd.lt⟩
  have hgl := hd.lt
  have hmi : (most : Int) ≤ 100 := by omega
  clear hd
  go_enter Try.func14, Try.ntmps14
  go_wp2_with (go_at_call 18; first | (refine (next_any g p n c z _ _ H0.out.dk (by omega)).mono ?_; rintro e w1 ⟨t0, rfl, t01, t02, hd1, hg1⟩; have H1 := Lib.hid (H0.out.next hd1 hg1); clear hd1 hg1) | (refine (next_any g p n c z _ _ H1.out.dk (by omega)).mono ?_; rintro e w2 ⟨k0, rfl, k01, k02, hd2, hg2⟩; have H2 := Lib.hid (H1.out.next hd2 hg2); clear hd2 hg2))
  obtain ⟨kn, rfl⟩ : ∃ kn : Nat, k0 = kn := ⟨k0.toNat, by omega⟩
  clear H0 H1
  go_loopw [5, 6, 7] (fun v t k wr => ∃ (j kk : Nat) (tt : Int) (R : Nat → Nat → Int) (V : Value), V = v ∧ j + kk ≤ most ∧ t = .int .i64 tt ∧ k = .int .i64 kk ∧ 0 ≤ tt ∧ tt ≤ 9 + 2 * j ∧ Hid (Gi w g p n c z v j R wr) ∧ Hid (MkR R j)) (fun _ _ k _ => (intOf k).toNat)
  case atStart => exact ⟨0, kn, t0, _, _, rfl, by omega, rfl, rfl, by omega, by omega, H2, fun i hi => absurd hi (Nat.not_lt_zero _)⟩
  case round =>
    clear H2 t01 t02 k01 k02
    obtain ⟨j, kk, tt, R, v, rfl, hjk, rfl, rfl, tt0, tt1, hgi, hmk⟩ := hrel
    have hj9 : (j : Int) ≤ 100 := by omega
    by_cases hk : 0 < kk
    · have hk' : (0 : Int) < (kk : Int) := by omega
      have HX := Lib.hid (fun a b c d h1 h2 h3 h4 => hmk.out.next a b c d h1 h2 h3 h4)
      clear hmk
      go_wp2_with (first
        | (go_at_call 18; first
          | (refine (next_any g p n c z _ _ hgi.out.dk (by omega)).mono ?_; rintro e w3 ⟨r1, rfl, r11, r12, hd1, hg1⟩; have H3 := Lib.hid (hgi.out.next hd1 hg1); clear hd1 hg1 hgi)
          | (refine (next_any g p n c z _ _ H3.out.dk (by omega)).mono ?_; rintro e w4 ⟨r2, rfl, r21, r22, hd1, hg1⟩; have H4 := Lib.hid (H3.out.next hd1 hg1); have hs4 := H4.out.gr.size; have hn4 : Hid (v.ownBlock ≠ some w4.heap.size) := (fun e => by have := (World.ownsRow.lt H4.out.got _ e).2; omega); clear hd1 hg1 H3)
          | (refine (next_any g p n c z _ _ (H4.out.alloc _).dk (by omega)).mono ?_; rintro e w5 ⟨q, rfl, q1, q2, hd1, hg1⟩; have H5 := Lib.hid ((H4.out.alloc _).next hd1 hg1); have c0 : w5.cell? ⟨w4.heap.size, 0, none⟩ = some (.int .i64 r1) := hg1.cell (a := ⟨w4.heap.size, 0, none⟩) (by simp) (by simp; omega); have c1 : w5.cell? ⟨w4.heap.size, 1, none⟩ = some (.int .i64 tt) := hg1.cell (a := ⟨w4.heap.size, 1, none⟩) (by simp) (by simp; omega); have c2 : w5.cell? ⟨w4.heap.size, 2, none⟩ = some (.int .i64 (50 + r2)) := hg1.cell (a := ⟨w4.heap.size, 2, none⟩) (by simp) (by simp; omega); have c3 : w5.cell? ⟨w4.heap.size, 3, none⟩ = some (.int .i64 0) := hg1.cell (a := ⟨w4.heap.size, 3, none⟩) (by simp) (by simp; omega); have f2 : w5.frozen? ⟨w4.heap.size, 2, none⟩ = false := (World.frozen?_of_block (w := w4.alloc _) (a := ⟨w4.heap.size, 2, none⟩) (hg1.block w4.heap.size (by simp) (by simp; omega))).trans (by simp); have f3 : w5.frozen? ⟨w4.heap.size, 3, none⟩ = false := (World.frozen?_of_block (w := w4.alloc _) (a := ⟨w4.heap.size, 3, none⟩) (hg1.block w4.heap.size (by simp) (by simp; omega))).trans (by simp); have hs5 := H5.out.gr.size; have hlt5 := World.block_lt_of_cell? _ _ c0; clear hd1 hg1)
          | (refine (next_any g p n c z _ _ H9.out.dk (by omega)).mono ?_; rintro e w10 ⟨y, rfl, y1, y2, hd1, hg1⟩; have H10 := Lib.hid (H9.out.next hd1 hg1); clear hd1 hg1 H9)
          | (refine (next_any g p n c z _ _ H5.out.dk (by omega)).mono ?_; rintro e w6 ⟨x, rfl, x1, x2, hd1, hg1⟩; have H6 := Lib.hid (H5.out.next hd1 hg1); have d0 : w6.cell? ⟨w4.heap.size, 0, none⟩ = some (.int .i64 r1) := hg1.cell (a := ⟨w4.heap.size, 0, none⟩) c0 (by simp; omega); have d1 : w6.cell? ⟨w4.heap.size, 1, none⟩ = some (.int .i64 tt) := hg1.cell (a := ⟨w4.heap.size, 1, none⟩) c1 (by simp; omega); have d2 : w6.cell? ⟨w4.heap.size, 2, none⟩ = some (.int .i64 (50 + r2)) := hg1.cell (a := ⟨w4.heap.size, 2, none⟩) c2 (by simp; omega); have d3 : w6.cell? ⟨w4.heap.size, 3, none⟩ = some (.int .i64 0) := hg1.cell (a := ⟨w4.heap.size, 3, none⟩) c3 (by simp; omega); have g2 : w6.frozen? ⟨w4.heap.size, 2, none⟩ = false := (World.frozen?_of_block (w := w5) (a := ⟨w4.heap.size, 2, none⟩) (hg1.block w4.heap.size hlt5 (by simp; omega))).trans f2; have g3 : w6.frozen? ⟨w4.heap.size, 3, none⟩ = false := (World.frozen?_of_block (w := w5) (a := ⟨w4.heap.size, 3, none⟩) (hg1.block w4.heap.size hlt5 (by simp; omega))).trans f3; have hs6 := H6.out.gr.size; clear hd1 hg1))
        | (at_builtin; first
          | (have HA := Lib.hid (((H6.out.set w4.heap.size 3 (.int .i64 1) hs4 hn4.out).set w4.heap.size 2 (.int .i64 x) hs4 hn4.out).alloc (.cells #[.int .i64 r1, .int .i64 tt, .int .i64 x, .int .i64 1] 31)); refine wpList_append_own _ rfl _ _ 45 rfl w.heap.size 31 i0 (.agg #[.int .i64 0, .int .i64 0, .int .i64 0, .int .i64 0]) 4 32 Try.underlying45 hi hz0 hz1 hz2 rfl (by decide) v j _ rfl HA.out.got ⟨w6.heap.size, 0, none⟩ 1 1 [.int .i64 r1, .int .i64 tt, .int .i64 x, .int .i64 1] rfl rfl (cell_fourN _ _ (by simp) _ _ _ _ _) (by intro u hu; simp at hu; rcases hu with rfl | rfl | rfl | rfl <;> rfl) (by unfold maxLen; omega) (by omega) (by simp; omega) ?_; intro v' w9 hown' hgrow hnil; have H9 := Lib.hid (HA.out.app hown' hgrow); have HX9 := Lib.hid (HX.out (r1) (tt) (x) (1) (by omega) (by omega) (by omega) (by omega)); clear hown' hgrow hnil HA HX)
          | (have HA := Lib.hid ((H5.out.set w4.heap.size 3 (.int .i64 2) hs4 hn4.out).alloc (.cells #[.int .i64 r1, .int .i64 tt, .int .i64 (50 + r2), .int .i64 2] 31)); refine wpList_append_own _ rfl _ _ 45 rfl w.heap.size 31 i0 (.agg #[.int .i64 0, .int .i64 0, .int .i64 0, .int .i64 0]) 4 32 Try.underlying45 hi hz0 hz1 hz2 rfl (by decide) v j _ rfl HA.out.got ⟨w5.heap.size, 0, none⟩ 1 1 [.int .i64 r1, .int .i64 tt, .int .i64 (50 + r2), .int .i64 2] rfl rfl (cell_fourN _ _ (by simp) _ _ _ _ _) (by intro u hu; simp at hu; rcases hu with rfl | rfl | rfl | rfl <;> rfl) (by unfold maxLen; omega) (by omega) (by simp; omega) ?_; intro v' w9 hown' hgrow hnil; have H9 := Lib.hid (HA.out.app hown' hgrow); have HX9 := Lib.hid (HX.out (r1) (tt) ((50 + r2)) (2) (by omega) (by omega) (by omega) (by omega)); clear hown' hgrow hnil HA HX)
          | (have HA := Lib.hid (H5.out.alloc (.cells #[.int .i64 r1, .int .i64 tt, .int .i64 (50 + r2), .int .i64 0] 31)); refine wpList_append_own _ rfl _ _ 45 rfl w.heap.size 31 i0 (.agg #[.int .i64 0, .int .i64 0, .int .i64 0, .int .i64 0]) 4 32 Try.underlying45 hi hz0 hz1 hz2 rfl (by decide) v j _ rfl HA.out.got ⟨w5.heap.size, 0, none⟩ 1 1 [.int .i64 r1, .int .i64 tt, .int .i64 (50 + r2), .int .i64 0] rfl rfl (cell_fourN _ _ (by simp) _ _ _ _ _) (by intro u hu; simp at hu; rcases hu with rfl | rfl | rfl | rfl <;> rfl) (by unfold maxLen; omega) (by omega) (by simp; omega) ?_; intro v' w9 hown' hgrow hnil; have H9 := Lib.hid (HA.out.app hown' hgrow); have HX9 := Lib.hid (HX.out (r1) (tt) ((50 + r2)) (0) (by omega) (by omega) (by omega) (by omega)); clear hown' hgrow hnil HA HX)))
      all_goals
        go_roundw
        case rel => exact ⟨j + 1, kk - 1, tt + y, _, _, rfl, by omega, by go_num, by rw [show (kk : Int) - 1 = ((kk - 1 : Nat) : Int) by omega], by omega, by push_cast; omega, H10, HX9⟩
        case measure => simp [intOf]; omega
    · obtain rfl : kk = 0 := by omega
      go_wp2
      go_ret
      exact ⟨_, j, R, rfl, by omega, hmk.out, hgi.out⟩
end Go.Proofs.Ytdcjgeebkinjlaa.Gg

/-
  The contract of the program's appendRecord.
-/
import Derived.Test.YtlelcooomfcbaaaDoorGpPan
namespace Go.Proofs.YtlelcooomfcbaaaDoor.Gg
open Go.ChangeShapes Go.WideShapes Go.ChangeAt Go.RowKit
set_option linter.unusedVariables false

/-- What appendRecord holds: its bytes, the reading's box. -/
structure Pr (w : World) (v0 : Value) (base : Nat) (r0 r1 r2 r3 : Int) (m : Nat) (F : Nat → Int) (u : Value) (W : World) : Prop where
  got : GotB W base u m F
  bel : Below base w W
  gr : w.grownBy W v0.ownBlock
  ob : u.ownBlock = v0.ownBlock ∨ ∀ j, u.ownBlock = some j → w.heap.size < j
  ov : ∀ j, v0.ownBlock = some j → j < w.heap.size
  c0 : W.cell? ⟨w.heap.size, 0, none⟩ = some (.int .i64 r0)
  c1 : W.cell? ⟨w.heap.size, 1, none⟩ = some (.int .i64 r1)
  c2 : W.cell? ⟨w.heap.size, 2, none⟩ = some (.int .i64 r2)
  c3 : W.cell? ⟨w.heap.size, 3, none⟩ = some (.int .i64 r3)
  lt : w.heap.size < W.heap.size
  bs : base ≤ w.heap.size
section
variable {w : World} {v0 : Value} {base : Nat} {r0 r1 r2 r3 : Int} {m : Nat} {F : Nat → Int} {u : Value} {W : World}
theorem Pr.step {W' : World} {u' : Value} {m' : Nat} {F' : Nat → Int} (h : Pr w v0 base r0 r1 r2 r3 m F u W) (hgot : GotB W' base u' m' F') (hg : W.grownBy W' u.ownBlock) (hob : u'.ownBlock = u.ownBlock ∨ ∀ j, u'.ownBlock = some j → W.heap.size ≤ j) : Pr w v0 base r0 r1 r2 r3 m' F' u' W' := by
  have hne : some w.heap.size ≠ u.ownBlock := fun e => by
    rcases h.ob with h1 | h1
    · rw [h1] at e
      have := h.ov _ e.symm
      omega
    · have := h1 _ e.symm
      omega
  have hlt := h.lt
  have hsz := hg.size
  refine ⟨hgot, h.bel.grown hg (Nat.le_trans h.bs (Nat.le_of_lt hlt)) (fun j hj => gotB_block h.got j hj), ?_, ?_, h.ov, hg.cell (a := ⟨w.heap.size, 0, none⟩) h.c0 hne, hg.cell (a := ⟨w.heap.size, 1, none⟩) h.c1 hne, hg.cell (a := ⟨w.heap.size, 2, none⟩) h.c2 hne, hg.cell (a := ⟨w.heap.size, 3, none⟩) h.c3 hne, by omega, h.bs⟩
  · rcases h.ob with h1 | h1
    · rw [h1] at hg
      exact Cu.grown_trans h.gr hg
    · exact Cu.grown_own h.gr hg (fun j hj => Nat.le_of_lt (h1 j hj))
  · rcases hob with h1 | h1
    · rw [h1]; exact h.ob
    · exact .inr (fun j hj => by have := h1 j hj; omega)
theorem Pr.alloc (h : Pr w v0 base r0 r1 r2 r3 m F u W) (o : Obj) : Pr w v0 base r0 r1 r2 r3 m F u (W.alloc o) :=
  have hlt := h.lt
  have hb : Below W.heap.size W (W.alloc o) := (Below.refl _ _).alloc (Nat.le_refl _) o
  ⟨World.ownsRow.alloc h.got o, h.bel.alloc (Nat.le_trans h.bs (Nat.le_of_lt hlt)) o, Cu.grown_trans h.gr (World.grownBy_alloc W o v0.ownBlock), h.ob, h.ov, (hb.cell (p := ⟨_, 0, none⟩) hlt).trans h.c0, (hb.cell (p := ⟨_, 1, none⟩) hlt).trans h.c1, (hb.cell (p := ⟨_, 2, none⟩) hlt).trans h.c2, (hb.cell (p := ⟨_, 3, none⟩) hlt).trans h.c3, by simp; omega, h.bs⟩
theorem Pr.start (hg : GotB w base v0 m F) (hb : base ≤ w.heap.size) (t : TypeId) : Pr w v0 base r0 r1 r2 r3 m F v0 (w.alloc (.cells #[.int .i64 r0, .int .i64 r1, .int .i64 r2, .int .i64 r3] t)) :=
  ⟨World.ownsRow.alloc hg _, (Below.refl _ _).alloc hb _, World.grownBy_alloc w _ _, .inl rfl, fun j hj => (World.ownsRow.lt hg j hj).2, by simp, by simp, by simp, by simp, by simp, hb⟩
theorem Pr.congr {F' : Nat → Int} (h : Pr w v0 base r0 r1 r2 r3 m F u W) (e : ∀ i, i < m → F i = F' i) : Pr w v0 base r0 r1 r2 r3 m F' u W :=
  { h with got := gotB_congr h.got e }
end
theorem gotB_one {w : World} {base : Nat} {v : Value} {n : Nat} {B f : Nat → Int} {x : Int} (h : w.ownsRow base 5 1 v (n + 1) (byL B n ++ [.int .u8 x])) (e : f 0 = x) : GotB w base v (n + 1) (catB B f n) := by
  have e2 : byL B n ++ [.int .u8 x] = byL (catB B f n) (n + 1) := by rw [← byL_app, ← e]; rfl
  unfold GotB
  rw [← e2]
  exact h
theorem cat_fun (A T f : Nat → Int) (p q : Nat) : catB (catB A T p) f (p + q) = catB A (catB T f q) p := funext fun i => catB_assoc A T f p q i
def T1 (r : Nat → Int) : Nat → Int := fun _ => r 0
def T2 (r : Nat → Int) : Nat → Int := catB (T1 r) (pbG (r 1)) 1
def T3 (r : Nat → Int) : Nat → Int := catB (T2 r) (pbG (r 2)) 5
theorem enT_is (r : Nat → Int) : enT r = catB (T3 r) (fun _ => r 3) 9 := rfl
theorem enW_is (r : Nat → Int) : enW r = catB (enT r) (twG (smG (enT r) 10)) 10 := rfl

set_option maxRecDepth 100000 in
set_option maxHeartbeats 4000000 in
theorem par_any (v : Value) (n base : Nat) (B : Nat → Int) (r : Nat → Int) (w : World) (hv : Vr r) (hg : GotB w base v n B) (hn : n ≤ 1000000) (hb : base ≤ w.heap.size) :
    Calls Tryd.prog 31 #[v, .agg #[.int .i64 (r 0), .int .i64 (r 1), .int .i64 (r 2), .int .i64 (r 3)]] w (PbP w v base (n + 12) (catB B (enW r) n)) := by
  obtain ⟨i0, hi, hz0, hz1, hz2⟩ := info_parts Tryd.infoB
  obtain ⟨g0, g1, t0, t1, f0, f1, k0, k1⟩ := hv
  obtain ⟨p, cap, rfl, _⟩ := gotB_rd hg
  have P0 := Lib.hid (Pr.start (r0 := r 0) (r1 := r 1) (r2 := r 2) (r3 := r 3) hg hb 23)
  have HE1 : Hid (catB B (T1 r) n = catB B (fun _ => r 0) n) := rfl
  have HE2 : Hid (catB (catB B (T1 r) n) (pbG (r 1)) (n + 1) = catB B (T2 r) n) := cat_fun _ _ _ _ _
  have HE3 : Hid (catB (catB B (T2 r) n) (pbG (r 2)) (n + 5) = catB B (T3 r) n) := cat_fun _ _ _ _ _
  have HE4 : Hid (catB (catB B (T3 r) n) (fun _ => r 3) (n + 9) = catB B (enT r) n) := cat_fun _ _ _ _ _
  have HE5 : Hid (catB (catB B (enT r) n) (twG (smG (enT r) 10)) (n + 10) = catB B (enW r) n) := cat_fun _ _ _ _ _
  have HE3' : Hid (catB B (T3 r) n = catB B (T3 r) n) := rfl
  have hsm := smG_bd (enT r) 10
  have hbt : Bt (enT r) 10 := by
    have h1 : Bt (T1 r) 1 := fun i hi => ⟨g0, g1⟩
    have h2 : Bt (T2 r) (1 + 4) := catB_bt h1 (pbG_bt _ t0 (by omega))
    have h3 : Bt (T3 r) (5 + 4) := catB_bt h2 (pbG_bt _ f0 (by omega))
    exact catB_bt (q := 1) h3 (fun i hi => ⟨k0, by omega⟩)
  have HBT := Lib.hid hbt
  have HX4 : Hid (∀ i, catB B (enT r) n (n + i) = enT r i) := fun i => catB_at B (enT r) n i
  have HT1 : Hid (T1 r 0 = r 0) := rfl
  clear hg hbt
  generalize r 0 = r0 at *
  generalize r 1 = r1 at *
  generalize r 2 = r2 at *
  generalize r 3 = r3 at *
  obtain ⟨sm, hsme⟩ : ∃ sm, smG (enT r) 10 = sm := ⟨_, rfl⟩
  rw [hsme] at hsm HE5
  have HSM := Lib.hid hsme
  clear hsme
  obtain ⟨s0, s1⟩ := hsm
  go_enter Tryd.func31, Tryd.ntmps31
  go_wp2_with (first
    | (at_builtin; first
      | (refine wpList_append_own_at _ rfl _ _ 24 rfl base 5 i0 (.int .u8 0) 1 1 Tryd.underlying24 hi hz0 hz1 hz2 rfl (by decide) (.slice p n cap) n _ rfl (P0.out.alloc _).got ⟨w.heap.size + 1, 0, none⟩ 1 1 [.int .u8 r0] rfl rfl (one_news (by simp)) (by intro u hu; simp at hu; subst hu; rfl) (by unfold maxLen; omega) (by omega) (Nat.le_trans (P0.out.alloc (.cells #[] 0)).bs (by have := P0.out.lt; simp; omega)) ?_; intro v1 w1 hown hgrow hnil hloc; have P1 := Lib.hid ((P0.out.alloc _).step (m' := n + 1) (gotB_one hown HT1.out) hgrow (hloc.imp id (fun h j hj => by rw [h] at hj; cases hj; exact Nat.le_refl _))); have q1 := P1.out.c1; have q2 := P1.out.c2; have q3 := P1.out.c3; have hs := P1.out.lt; clear hown hgrow hnil hloc P0)
      | (refine wpList_append_own_at _ rfl _ _ 24 rfl base 5 i0 (.int .u8 0) 1 1 Tryd.underlying24 hi hz0 hz1 hz2 rfl (by decide) v3 (n + 9) _ rfl (P3.out.alloc _).got ⟨w3.heap.size, 0, none⟩ 1 1 [.int .u8 r3] rfl rfl (one_news (by simp)) (by intro u hu; simp at hu; subst hu; rfl) (by unfold maxLen; omega) (by omega) (Nat.le_trans (P3.out.alloc (.cells #[] 0)).bs (by have := P3.out.lt; simp; omega)) ?_; intro v4 w4 hown hgrow hnil hloc; have P4' := Lib.hid ((P3.out.alloc _).step (m' := n + 10) ((by have h := gotB_one (f := fun _ => r3) hown rfl; rw [HE4.out] at h; exact h)) hgrow (hloc.imp id (fun h j hj => by rw [h] at hj; cases hj; exact Nat.le_refl _))); obtain ⟨g4, cap4, rfl, _, hby4, hcap4, _⟩ := gotB_by P4'.out.got (by omega); have P4 := P4'; have HBY := Lib.hid hby4; clear hown hgrow hnil hloc P3 P4' hby4))
    | (go_at_call 54; first
      | (refine (pan4 v1 (n + 1) base (catB B (T1 r) n) r1 _ t0 (by omega) P1.out.got (by omega) (Nat.le_trans P1.out.bs (Nat.le_of_lt P1.out.lt))).mono ?_; rintro e w2 ⟨v2, rfl, hg2, _, hgr2, hob2⟩; rw [HE2.out] at hg2; have P2 := Lib.hid (P1.out.step (m' := n + 5) hg2 hgr2 hob2); have q1 := P2.out.c1; have q2 := P2.out.c2; have q3 := P2.out.c3; have hs := P2.out.lt; clear hg2 hgr2 hob2 P1)
      | (refine (pan4 v2 (n + 5) base (catB B (T2 r) n) r2 _ f0 (by omega) P2.out.got (by omega) (Nat.le_trans P2.out.bs (Nat.le_of_lt P2.out.lt))).mono ?_; rintro e w3 ⟨v3, rfl, hg2, _, hgr2, hob2⟩; rw [HE3.out] at hg2; have P3 := Lib.hid (P2.out.step (m' := n + 9) hg2 hgr2 hob2); have q1 := P3.out.c1; have q2 := P3.out.c2; have q3 := P3.out.c3; have hs := P3.out.lt; clear hg2 hgr2 hob2 P2)
      | (refine (pan2 (.slice (some ⟨g4, 0, none⟩) (n + 10) cap4) (n + 10) base (catB B (enT r) n) sm _ s0 (by omega) P4.out.got (by omega) (Nat.le_trans P4.out.bs (Nat.le_of_lt P4.out.lt))).mono ?_; rintro e w5 ⟨v5, rfl, hg2, _, hgr2, hob2⟩; rw [HE5.out] at hg2; have P5 := Lib.hid (P4.out.step (m' := n + 12) hg2 hgr2 hob2);  clear hg2 hgr2 hob2 P4))
    | (go_at_call 20; refine (psum_any (some ⟨g4, n, none⟩) 10 _ (enT r) _ (fun _ => ⟨g4, n, rfl, HBY.out.1, fun i hi => by rw [← HX4.out i]; have h := HBY.out.2 (n + i) (by omega); rw [Nat.zero_add] at h; exact h⟩) HBT.out (by omega)).mono ?_; rintro e w' ⟨rfl, rfl⟩; rw [HSM.out]))
  go_ret
  exact ⟨v5, rfl, P5.out.got, P5.out.bel, P5.out.gr, P5.out.ob.imp id (fun h j hj => Nat.le_of_lt (h j hj))⟩
end Go.Proofs.YtlelcooomfcbaaaDoor.Gg

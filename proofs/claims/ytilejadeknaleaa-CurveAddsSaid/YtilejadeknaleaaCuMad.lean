/-
  The contract of made of the law: some curve of at most six points, valid or not.
-/
import Derived.Test.YtilejadeknaleaaCuRad
namespace Go.Proofs.Ytilejadeknaleaa.Cu
open Go.ChangeShapes Go.WideShapes Go.ChangeAt Go.RowKit
open Go.Shelf Go.Lib
set_option linter.unusedVariables false

theorem set_app_l {α : Type} (l r : List α) (i : Nat) (x : α) (h : i < l.length) : (l ++ r).set i x = l.set i x ++ r := by rw [List.set_append, if_pos h]
theorem ptL_setX (X Y : Nat → Int) (u : Int) : ∀ n i, i < n → (ptL X Y n).set (i * 2) (.int .i64 u) = ptL (updF X i u) Y n
  | 0, i, hi => absurd hi (Nat.not_lt_zero _)
  | n + 1, i, hi => by
    unfold ptL
    by_cases e : i = n
    · subst e
      rw [List.set_append, if_neg (by rw [ptL_len]; omega), ptL_len, Nat.sub_self, updF_same, ptL_congr (updF X i u) Y X Y i (fun j hj => ⟨updF_other _ _ (by omega), rfl⟩)]
      rfl
    · rw [set_app_l _ _ _ _ (by rw [ptL_len]; omega), ptL_setX X Y u n i (by omega), updF_other X u (show n ≠ i by omega)]
theorem ptL_setY (X Y : Nat → Int) (u : Int) : ∀ n i, i < n → (ptL X Y n).set (i * 2 + 1) (.int .i64 u) = ptL X (updF Y i u) n
  | 0, i, hi => absurd hi (Nat.not_lt_zero _)
  | n + 1, i, hi => by
    unfold ptL
    by_cases e : i = n
    · subst e
      rw [List.set_append, if_neg (by rw [ptL_len]; omega), ptL_len, show i * 2 + 1 - i * 2 = 1 by omega, updF_same, ptL_congr X (updF Y i u) X Y i (fun j hj => ⟨rfl, updF_other _ _ (by omega)⟩)]
      rfl
    · rw [set_app_l _ _ _ _ (by rw [ptL_len]; omega), ptL_setY X Y u n i (by omega), updF_other Y u (show n ≠ i by omega)]

/-- The deck, and the curve that has been made behind it. -/
structure Ms (w : World) (g : Nat) (p : Option Addr) (n c : Nat) (z : Nat → Int) (v : Value) (k : Nat) (X Y : Nat → Int) (W : World) : Prop where
  dk : Dk W g p n c z
  gr : w.grownBy W (some g)
  got : GotP W w.heap.size v k X Y
theorem Ms.grown {w : World} {g : Nat} {p : Option Addr} {n c : Nat} {z : Nat → Int} {v : Value} {k : Nat} {X Y : Nat → Int} {W W' : World} (h : Ms w g p n c z v k X Y W) (hlt : g < w.heap.size) (hd : Dk W' g p n c z) (hg : W.grownBy W' (some g)) : Ms w g p n c z v k X Y W' :=
  ⟨hd, grown_trans h.gr hg, World.ownsRow.kept h.got hg (.inr (by intro e; have := (h.got.lt g e).1; omega))⟩
theorem Ms.alloc {w : World} {g : Nat} {p : Option Addr} {n c : Nat} {z : Nat → Int} {v : Value} {k : Nat} {X Y : Nat → Int} {W : World} (h : Ms w g p n c z v k X Y W) (hlt : g < w.heap.size) (o : Obj) : Ms w g p n c z v k X Y (W.alloc o) :=
  h.grown hlt (h.dk.alloc o) (World.grownBy_alloc W o _)
theorem next_ms {w : World} {g : Nat} {p : Option Addr} {n c : Nat} {z : Nat → Int} {v : Value} {k : Nat} {X Y : Nat → Int} (hlt : g < w.heap.size) (nn : Int) (hnn : nn ≤ 4611686018427387904) (W : World) (h : Hid (Ms w g p n c z v k X Y W)) :
    Calls Try.prog 15 #[.pointer (some ⟨g, 0, none⟩), .int .i64 nn] W fun e w' => ∃ r : Nat, e = .returned (.int .i64 r) ∧ ((r : Int) < nn ∨ r = 0) ∧ Hid (Ms w g p n c z v k X Y w') ∧ Hid (W.grownBy w' (some g)) :=
  (next_any g p n c z nn W h.out.dk hnn).mono fun e w' ⟨r, he, h1, h2, hd, hg⟩ => ⟨r.toNat, by rw [Int.toNat_of_nonneg h1]; exact he, by omega, h.out.grown hlt hd hg, hg⟩

/-- What made returns. -/
def MdP (w : World) (g : Nat) (p : Option Addr) (n c : Nat) (z : Nat → Int) (e : Ending) (w' : World) : Prop :=
  ∃ (b cap k : Nat) (X Y : Nat → Int), e = .returned (.slice (some ⟨b, 0, none⟩) k cap) ∧ 1 ≤ k ∧ k ≤ 6 ∧ w.heap.size ≤ b ∧ Pts w' b 0 k X Y ∧ Dk w' g p n c z ∧ w.grownBy w' (some g)
theorem md_of {w : World} {g : Nat} {p : Option Addr} {n c : Nat} {z : Nat → Int} {v : Value} {k : Nat} {X Y : Nat → Int} {W : World} (h : Ms w g p n c z v k X Y W) (h1 : 1 ≤ k) (h6 : k ≤ 6) : MdP w g p n c z (.returned v) W := by
  obtain ⟨b, cap, rfl, hb, hp, _, _⟩ := gotP_pts h.got (by omega)
  exact ⟨b, cap, k, X, Y, rfl, h1, h6, hb, hp, h.dk, h.gr⟩
def tb4 (a b c d : Int) (k : Nat) : Int := if k = 0 then a else if k = 1 then b else if k = 2 then c else d
theorem tb_cell (w : World) (a b c d : Int) (k : Nat) (hk : k < 4) : (w.alloc (.cells #[.int .i64 a, .int .i64 b, .int .i64 c, .int .i64 d] 3)).cell? ⟨w.heap.size, k, none⟩ = some (.int .i64 (tb4 a b c d k)) := by
  match k, hk with
  | 0, _ => simp [tb4]
  | 1, _ => simp [tb4]
  | 2, _ => simp [tb4]
  | 3, _ => simp [tb4]
theorem Ms.storeX {w : World} {g : Nat} {p : Option Addr} {n c : Nat} {z : Nat → Int} {bC cap k : Nat} {X Y : Nat → Int} {W : World} (h : Ms w g p n c z (.slice (some ⟨bC, 0, none⟩) k cap) k X Y W) (hlt : g < w.heap.size) (i : Nat) (hi : i < k) (u : Int) : Ms w g p n c z (.slice (some ⟨bC, 0, none⟩) k cap) k (updF X i u) Y (W.setCell ⟨bC, i * 2, none⟩ (.int .i64 u)) := by
  have hb := (h.got.lt bC rfl).1
  have hs := World.ownsRow.stored h.got (i * 2) (.int .i64 u)
  exact ⟨h.dk.grown hs.2 (by intro e; cases e; omega) (by intro j hj; cases hj; omega), grown_own h.gr hs.2 (by intro j hj; cases hj; omega), by unfold GotP; rw [← ptL_setX X Y u k i hi]; exact hs.1⟩
theorem Ms.storeY {w : World} {g : Nat} {p : Option Addr} {n c : Nat} {z : Nat → Int} {bC cap k : Nat} {X Y : Nat → Int} {W : World} (h : Ms w g p n c z (.slice (some ⟨bC, 0, none⟩) k cap) k X Y W) (hlt : g < w.heap.size) (i : Nat) (hi : i < k) (u : Int) : Ms w g p n c z (.slice (some ⟨bC, 0, none⟩) k cap) k X (updF Y i u) (W.setCell ⟨bC, i * 2 + 1, none⟩ (.int .i64 u)) := by
  have hb := (h.got.lt bC rfl).1
  have hs := World.ownsRow.stored h.got (i * 2 + 1) (.int .i64 u)
  exact ⟨h.dk.grown hs.2 (by intro e; cases e; omega) (by intro j hj; cases hj; omega), grown_own h.gr hs.2 (by intro j hj; cases hj; omega), by unfold GotP; rw [← ptL_setY X Y u k i hi]; exact hs.1⟩
theorem Ms.cells {w : World} {g : Nat} {p : Option Addr} {n c : Nat} {z : Nat → Int} {bC cap k : Nat} {X Y : Nat → Int} {W : World} (h : Ms w g p n c z (.slice (some ⟨bC, 0, none⟩) k cap) k X Y W) (i : Nat) (hi : i < k) :
    (W.cell? ⟨bC, i * 2, none⟩ = some (.int .i64 (X i)) ∧ W.frozen? ⟨bC, i * 2, none⟩ = false) ∧ W.cell? ⟨bC, i * 2 + 1, none⟩ = some (.int .i64 (Y i)) ∧ W.frozen? ⟨bC, i * 2 + 1, none⟩ = false := by
  obtain ⟨b', cap', e, _, hp, _, hf⟩ := gotP_pts h.got (by omega)
  simp only [Value.slice.injEq, Option.some.injEq, Addr.mk.injEq] at e
  obtain ⟨⟨rfl, _⟩, _⟩ := e
  have := hp.2 i hi
  rw [Nat.zero_add] at this
  exact ⟨⟨this.1, hf _⟩, this.2, hf _⟩

set_option maxRecDepth 100000 in
set_option maxHeartbeats 16000000 in
theorem made_any (g : Nat) (p : Option Addr) (n c : Nat) (z : Nat → Int) (w : World) (hd : Dk w g p n c z) :
    Calls Try.prog 9 #[.pointer (some ⟨g, 0, none⟩)] w (MdP w g p n c z) := by
  obtain ⟨i0, hi0, hz0, hz1, hz2⟩ := info_parts Try.infoP
  have hgl := hd.lt
  go_enter Try.func9, Try.ntmps9
  go_wp2_with (first
    | (go_at_call 15; first
      | (refine (next_any g p n c z _ _ hd (by omega)).mono ?_; rintro e w2 ⟨r1, rfl, r11, r12, hd2, hg2⟩; clear hd)
      | (refine (next_any g p n c z _ _ hd2 (by omega)).mono ?_; rintro e w3 ⟨r2, rfl, r21, r22, hd3, hg3⟩; clear hd2)
      | (refine (next_any g p n c z _ _ hd3 (by omega)).mono ?_; rintro e w4 ⟨r3, rfl, r31, r32, hd4, hg4⟩; clear hd3)
      | (refine (next_ms hgl _ (by omega) _ HMS).mono ?_; rintro e w6 ⟨r4, rfl, r41, HM6, HG6⟩; clear HMS; obtain ⟨⟨d1, d2⟩, d3, d4⟩ := HM6.out.cells m k4)
      | (refine (next_ms hgl _ (by omega) _ HM6).mono ?_; rintro e w7 ⟨r5, rfl, r51, HM7, HG7⟩; clear HM6 d1 d2 d3 d4; have r52 : r5 < kk := (by omega); have r53 : (r5 : Int) < (kk : Int) := (by omega))
      | (refine (next_ms hgl _ (by omega) _ (HM7.out.alloc hgl _)).mono ?_; rintro e w8 ⟨r6, rfl, r61, HM8, HG8⟩; have hg7 := HM7.out.dk.lt; clear HM7; have r62 : r6 < 4 := (by omega); have r63 : (r6 : Int) < 4 := (by omega); have hcell := HG8.out.cell (tb_cell w7 _ _ _ _ r6 r62) (by intro e; simp only [Option.some.injEq] at e; omega); obtain ⟨⟨f1, f2⟩, f3, f4⟩ := HM8.out.cells r5 r52))
    | (at_builtin; refine wpList_append_own _ rfl _ _ 22 rfl w.heap.size 43 i0 (.agg #[.int .i64 0, .int .i64 0]) 2 16 Try.underlying22 hi0 hz0 hz1 hz2 rfl (by decide) _ kk _ rfl (World.ownsRow.alloc HM6.out.got _) ⟨w6.heap.size, 0, none⟩ 1 1 [.int .i64 (X m), .int .i64 (Y m)] rfl rfl (cell_two _ _ _ _) (by intro u hu; simp at hu; rcases hu with rfl | rfl <;> rfl) (by unfold maxLen; omega) (by omega) (by have := HM6.out.gr.size; simp; omega) ?_; intro v' w9 hown9 hgrow9 hnil9)
    | (go_at_call 14; refine (curve_any g p n c z r1 r2 30 40 _ _ hd4 (by omega) (by omega) (by omega) (by omega)).mono ?_; rintro e w5 ⟨v, m, X, Y, rfl, m1, m4, hgot, _, hd5, hg5⟩; obtain ⟨bC, capC, rfl, hbC, _, _, _⟩ := gotP_pts hgot (by omega); have hws5 := Nat.le_trans hg2.size (Nat.le_trans hg3.size hg4.size); have HMS : Hid (Ms w g p n c z (.slice (some ⟨bC, 0, none⟩) (m + 1) capC) (m + 1) X Y w5) := ⟨hd5, grown_trans (grown_trans (grown_trans hg2 hg3) hg4) hg5, gotP_mono hgot hws5⟩; have k1 : m + 1 ≤ 5 := (by omega); have k2 : 2 ≤ m + 1 := (by omega); have k3 : ((m + 1 : Nat) : Int) - 1 = (m : Int) := (by omega); have k4 : m < m + 1 := (by omega); have hbg : g < bC := (by omega); clear hgot hd4 hd5 hg2 hg3 hg4 hg5; generalize m + 1 = kk at *))
  · go_ret
    exact md_of (HM8.out.storeX hgl r5 r52 _) (by omega) (by omega)
  · go_ret
    exact md_of (HM8.out.storeY hgl r5 r52 _) (by omega) (by omega)
  · go_ret
    have hbC := (HM6.out.got.lt bC rfl).1
    have hM9 : Ms w g p n c z v' (kk + 1) (updF X kk (X m)) (updF Y kk (Y m)) w9 :=
      ⟨(HM6.out.dk.alloc (.cells #[.int .i64 (X m), .int .i64 (Y m)] 43)).grown hgrow9 (fun e => by have := Option.some.inj (show some g = some bC from e); omega) (fun j hj => by have := Option.some.inj (show some bC = some j from hj); omega),
       grown_own (grown_trans HM6.out.gr (World.grownBy_alloc w6 _ _)) hgrow9 (fun j hj => by have := Option.some.inj (show some bC = some j from hj); omega), gotP_next hown9⟩
    exact md_of hM9 (by omega) (by omega)
  · go_ret
    exact md_of HM6.out (by omega) (by omega)
end Go.Proofs.Ytilejadeknaleaa.Cu

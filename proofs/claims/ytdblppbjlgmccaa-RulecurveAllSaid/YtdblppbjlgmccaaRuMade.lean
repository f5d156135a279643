/-
  The contract of made: a list of points, of the call's own.
-/
import Derived.Test.YtdblppbjlgmccaaRuRef
import Derived.Test.YtdblppbjlgmccaaStRes
import Derived.Deep.DeepCutAuto
import Derived.Deep.CutBlock
namespace Go.Proofs.Ytdblppbjlgmccaa.Ru
open Go.ChangeShapes Go.WideShapes Go.ChangeAt Go.RowKit
open Go.Proofs.Ytdblppbjlgmccaa.Cu
set_option linter.unusedVariables false

theorem ptm_setY {W : World} {b k : Nat} {X Y : Nat → Int} (h : Pts W b 0 k X Y) (i : Nat) (hi : i < k) (u : Int) : Pts (W.setCell ⟨b, i * 2 + 1, none⟩ (.int .i64 u)) b 0 k X (updF Y i u) := by
  refine ⟨by simpa using h.1, fun j hj => ?_⟩
  obtain ⟨h1, h2⟩ := h.2 j hj
  obtain ⟨_, h4⟩ := h.2 i hi
  rw [Nat.zero_add] at h1 h2 h4 ⊢
  refine ⟨(World.cell?_setCell_other _ _ _ _ (by intro e2; simp only [Addr.mk.injEq] at e2; omega)).trans h1, ?_⟩
  by_cases e : j = i
  · subst e; rw [updF_same]; exact World.cell?_setCell_same _ _ _ h4
  · rw [updF_other _ _ e]; exact (World.cell?_setCell_other _ _ _ _ (by intro e2; simp only [Addr.mk.injEq] at e2; omega)).trans h2
theorem ptm_setX {W : World} {b k : Nat} {X Y : Nat → Int} (h : Pts W b 0 k X Y) (i : Nat) (hi : i < k) (u : Int) : Pts (W.setCell ⟨b, i * 2, none⟩ (.int .i64 u)) b 0 k (updF X i u) Y := by
  refine ⟨by simpa using h.1, fun j hj => ?_⟩
  obtain ⟨h1, h2⟩ := h.2 j hj
  obtain ⟨h3, _⟩ := h.2 i hi
  rw [Nat.zero_add] at h1 h2 h3 ⊢
  refine ⟨?_, (World.cell?_setCell_other _ _ _ _ (by intro e2; simp only [Addr.mk.injEq] at e2; omega)).trans h2⟩
  by_cases e : j = i
  · subst e; rw [updF_same]; exact World.cell?_setCell_same _ _ _ h3
  · rw [updF_other _ _ e]; exact (World.cell?_setCell_other _ _ _ _ (by intro e2; simp only [Addr.mk.injEq] at e2; omega)).trans h1

theorem lit_three {w5 w6 : World} {a b c : Int} {t : TypeId} {g : Nat} (hg : g < w5.heap.size) (h : (w5.alloc (.cells #[.int .i64 a, .int .i64 b, .int .i64 c] t)).grownBy w6 (some g)) (q : Nat) (hq : q < 3) : ∃ u, w6.cell? ⟨w5.heap.size, q, none⟩ = some (.int .i64 u) := by
  have hne : (some w5.heap.size : Option Nat) ≠ some g := by simp; omega
  have l0 : (w5.alloc (.cells #[.int .i64 a, .int .i64 b, .int .i64 c] t)).cell? ⟨w5.heap.size, 0, none⟩ = some (.int .i64 a) := by simp
  have l1 : (w5.alloc (.cells #[.int .i64 a, .int .i64 b, .int .i64 c] t)).cell? ⟨w5.heap.size, 1, none⟩ = some (.int .i64 b) := by simp
  have l2 : (w5.alloc (.cells #[.int .i64 a, .int .i64 b, .int .i64 c] t)).cell? ⟨w5.heap.size, 2, none⟩ = some (.int .i64 c) := by simp
  have hc : q = 0 ∨ q = 1 ∨ q = 2 := by omega
  rcases hc with rfl | rfl | rfl
  · exact ⟨_, h.cell l0 hne⟩
  · exact ⟨_, h.cell l1 hne⟩
  · exact ⟨_, h.cell l2 hne⟩
theorem fz_keep {w5 w6 : World} {o : Obj} {g g2 : Nat} (hg : g2 < w5.heap.size) (hne : ¬ g2 = g) (hf : ∀ k, w5.frozen? ⟨g2, k, none⟩ = false) (h : (w5.alloc o).grownBy w6 (some g)) : ∀ k, w6.frozen? ⟨g2, k, none⟩ = false := fun k =>
  (World.frozen?_of_block (w := w5) (a := ⟨g2, k, none⟩) ((h.block g2 (by simp; omega) (by simpa using hne)).trans (Below.heap_alloc w5 o g2 hg))).trans (hf k)

/-- What made returns. -/
def MaP (w : World) (g : Nat) (p : Option Addr) (n c : Nat) (z : Nat → Int) (e : Ending) (w' : World) : Prop :=
  ∃ (g2 n2 c2 : Nat) (X Y : Nat → Int), e = .returned (.slice (some ⟨g2, 0, none⟩) n2 c2) ∧ Pts w' g2 0 n2 X Y ∧ n2 ≤ c2 ∧ w.heap.size ≤ g2 ∧ 1 ≤ n2 ∧ n2 ≤ 6 ∧ Dk w' g p n c z ∧ w.grownBy w' (some g)

set_option maxHeartbeats 4000000 in
theorem made_any (g : Nat) (p : Option Addr) (n c : Nat) (z : Nat → Int) (w : World) (hd : Dk w g p n c z) :
    Calls Try.prog 11 #[.pointer (some ⟨g, 0, none⟩)] w (MaP w g p n c z) := by
  obtain ⟨i0, hi, hz0, hz1, hz2⟩ := info_parts Try.infoP
  have HD := Lib.hid hd
  have hgl := hd.lt
  clear hd
  go_enter Try.func11, Try.ntmps11
  go_upto_block 0 with (go_at_call 17; first | (refine (next_any g p n c z _ _ HD.out (by omega)).mono ?_; rintro e w1 ⟨x, rfl, hx1, hx2, hd1, hg1⟩; have HD1 := Lib.hid hd1; have HG1 := Lib.hid hg1; clear HD hd1 hg1) | (refine (next_any g p n c z _ _ HD1.out (by omega)).mono ?_; rintro e w2 ⟨q, rfl, hq1, hq2, hd2, hg2⟩; have HD2 := Lib.hid hd2; have HG2 := Lib.hid (grown_trans HG1.out hg2); clear HD1 HG1 hd2 hg2))
  go_cut [3] (fun s3 wx => ∃ (j : Nat) (X Y : Nat → Int), 1 ≤ j ∧ j ≤ 5 ∧ Hid (GotP wx w.heap.size s3 j X Y) ∧ Hid (Dk wx g p n c z) ∧ Hid (w.grownBy wx (some g)))
  case first =>
    go_wp2_with fail
    go_loopw [3, 4, 5] (fun v s4 s5 wr => ∃ (j : Nat) (X Y : Nat → Int) (xv kv : Int) (V : Value), V = v ∧ (j : Int) + kv ≤ 4 ∧ -1 ≤ kv ∧ (1 ≤ j ∨ (0 ≤ kv ∧ xv < 365)) ∧ 0 ≤ xv ∧ xv ≤ 60 + 120 * (j : Int) ∧ s4 = .int .i64 xv ∧ s5 = .int .i64 kv ∧ Hid (GotP wr w.heap.size v j X Y) ∧ Hid (Dk wr g p n c z) ∧ Hid (w.grownBy wr (some g))) (fun _ _ s5 _ => (intOf s5 + 1).toNat)
    case atStart => exact ⟨0, fun _ => 0, fun _ => 0, x, q, _, rfl, by omega, by omega, .inr ⟨by omega, by omega⟩, by omega, by omega, rfl, rfl, gotP_nil _ _ _ _, HD2, HG2⟩
    case round =>
      obtain ⟨j, X, Y, xv, kv, v, rfl, h1, h2, h3, h4, h5, rfl, rfl, hgot, hdk, hgr⟩ := hrel
      clear HD2 HG2 hx1 hx2 hq1 hq2
      have hj : (j : Int) ≤ 5 := by omega
      by_cases hk : 0 ≤ kv ∧ xv < 365
      · obtain ⟨hk1, hk2⟩ := hk
        have dk1 : decide (0 ≤ kv) = true := by rw [decide_eq_true_eq]; exact hk1
        have dk2 : decide (xv < 365) = true := by rw [decide_eq_true_eq]; exact hk2
        have HGL : Hid (∀ k, Value.ownBlock v = some k → k ≠ g) := fun k hk => by have := gotP_block hgot.out k hk; omega
        have hne : Hid (v.ownBlock = none ∨ v.ownBlock ≠ some g) := .inr fun e => HGL.out g e rfl
        have hws := hgr.out.size
        go_wp2_with (first | (go_at_call 17; first | (refine (next_any g p n c z _ _ hdk.out (by omega)).mono ?_; rintro e w1 ⟨r1, rfl, r11, r12, hd1, hg1⟩; have HD1 := Lib.hid hd1; have HG1 := Lib.hid (grown_trans hgr.out hg1); have HO1 := Lib.hid (hgot.out.kept hg1 hne.out); have hs1 := hg1.size; clear hdk hgr hgot hd1 hg1) | (refine (next_any g p n c z _ _ HD3.out (by omega)).mono ?_; rintro e w4 ⟨r4, rfl, r41, r42, hd4, hg4⟩)) | (at_builtin; refine wpList_append_own _ rfl _ _ 22 rfl w.heap.size 45 i0 (.agg #[.int .i64 0, .int .i64 0]) 2 16 Try.underlying22 hi hz0 hz1 hz2 rfl (by decide) _ j _ rfl (HO1.out.alloc _) ⟨w1.heap.size, 0, none⟩ 1 1 [.int .i64 xv, .int .i64 _] rfl rfl (cell_two _ _ _ _) (by intro u hu; simp at hu; rcases hu with rfl | rfl <;> rfl) (by unfold maxLen; omega) (by omega) (by simp; omega) ?_; intro v' w3 hown' hgrow hnil; have HO3 := Lib.hid (gotP_next hown'); have HD3 := Lib.hid ((HD1.out.alloc _).grown hgrow (fun e => HGL.out g e.symm rfl) (fun k hk => by have := gotP_block HO1.out k hk; omega)); have HG3 := Lib.hid (grown_own (grown_trans HG1.out (World.grownBy_alloc w1 _ (some g))) hgrow (fun k hk => gotP_block HO1.out k hk)); clear hown' hgrow hnil HD1 HG1 HO1))
        have HGL' : Hid (∀ k, Value.ownBlock v' = some k → k ≠ g) := fun k hk => by have := gotP_block HO3.out k hk; omega
        have HO4 := Lib.hid (HO3.out.kept hg4 (.inr fun e => HGL'.out g e rfl))
        have HG4 := Lib.hid (grown_trans HG3.out hg4)
        have HD4 := Lib.hid hd4
        clear hd4 hg4 HO3 HG3 HD3
        go_roundw
        case rel => exact ⟨j + 1, _, _, xv + (1 + r4), kv - 1, _, rfl, by omega, by omega, .inl (by omega), by omega, by omega, by go_num, by go_num, HO4, HD4, HG4⟩
        case measure => simp [intOf]; omega
      · have hj1 : 1 ≤ j := by omega
        by_cases hk1 : 0 ≤ kv
        · have hk2 : ¬ xv < 365 := by omega
          have dk1 : decide (0 ≤ kv) = true := by rw [decide_eq_true_eq]; exact hk1
          have dk2 : decide (xv < 365) = false := by rw [decide_eq_false_iff_not]; exact hk2
          clear hk
          go_wp2_with fail
          go_meet
          exact ⟨j, X, Y, hj1, by omega, hgot, hdk, hgr⟩
        · have dk1 : decide (0 ≤ kv) = false := by rw [decide_eq_false_iff_not]; exact hk1
          clear hk
          go_wp2_with fail
          go_meet
          exact ⟨j, X, Y, hj1, by omega, hgot, hdk, hgr⟩
  case rest =>
    obtain ⟨j, X, Y, hj1, hj5, HG, HDc, HGr⟩ := hcut
    clear HD2 HG2 hx1 hx2 hq1 hq2
    obtain ⟨g2, c2, rfl, hg2, hpt, hjc, hfz⟩ := gotP_pts HG.out (by omega)
    clear hpt hfz
    have hws := HGr.out.size
    go_upto_block 2 with (go_at_call 17; refine (next_any g p n c z _ _ HDc.out (by omega)).mono ?_; rintro e w4 ⟨r, rfl, r1, r2, hd4, hg4⟩; have HD4 := Lib.hid hd4; have HR4 := Lib.hid (grown_trans HGr.out hg4); have HO4 := Lib.hid (HG.out.kept hg4 (.inr (by intro e; simp only [Value.ownBlock, Option.some.injEq] at e; omega))); have hs4 := hg4.size; clear hd4 hg4 HDc HGr HG)
    have HPF : Hid (Pts w4 g2 0 j X Y ∧ ∀ k, w4.frozen? ⟨g2, k, none⟩ = false) := by
      obtain ⟨g', c', e, _, h1, _, h2⟩ := gotP_pts HO4.out (by omega)
      simp only [Value.slice.injEq, Option.some.injEq, Addr.mk.injEq] at e
      obtain ⟨⟨rfl, _⟩, _⟩ := e
      exact ⟨h1, h2⟩
    have HP4 := Lib.hid HPF.out.1
    have HF4 := Lib.hid HPF.out.2
    clear HPF
    have hji : (1 : Int) ≤ (j : Int) := by omega
    have hji5 : (j : Int) ≤ 5 := by omega
    by_cases e9 : r = 9
    · subst e9
      go_wp2_with (go_at_call 17; first | (refine (next_any g p n c z _ _ HD4.out (by omega)).mono ?_; rintro e w5 ⟨i, rfl, i1, i2, hd5, hg5⟩; have HD5 := Lib.hid hd5; have HR5 := Lib.hid (grown_trans HR4.out hg5); have HP5 := Lib.hid (HP4.out.grown hg5 (by simp; omega)); have HF5 : Hid (∀ k, w5.frozen? ⟨g2, k, none⟩ = false) := fun k => (World.frozen?_of_block (w := w4) (a := ⟨g2, k, none⟩) (hg5.block g2 HP4.out.1 (by simp; omega))).trans (HF4.out k); have hs5 := hg5.size; clear HD4 HR4 HP4 HF4 hd5 hg5; obtain ⟨ri, hri⟩ : ∃ ri : Nat, i = ri := ⟨i.toNat, by omega⟩; subst hri; have hrj : ri < j := (by omega); have hrji : (ri : Int) < (j : Int) := (by omega)) | (refine (next_any g p n c z _ _ (HD5.out.alloc _) (by omega)).mono ?_; rintro e w6 ⟨q, rfl, q1, q2, hd6, hg6⟩; have HD6 := Lib.hid hd6; have HR6 := Lib.hid (grown_trans (grown_trans HR5.out (World.grownBy_alloc w5 _ (some g))) hg6); have HP6 := Lib.hid ((HP5.out.alloc _).grown hg6 (by simp; omega)); have hz6 := fz_keep HP5.out.1 (by omega) HF5.out hg6; obtain ⟨qi, hqi⟩ : ∃ qi : Nat, q = qi := ⟨q.toNat, by omega⟩; subst hqi; have hq3 : qi < 3 := (by omega); have hqi3 : (qi : Int) < 3 := (by omega); obtain ⟨u, hu⟩ := lit_three (by omega) hg6 qi hq3; clear hd6 hg6; have xi := (HP6.out.2 ri hrj).1; have xf := hz6 (ri * 2); simp only [Nat.zero_add] at xi; have HSET := Lib.hid (ptm_setX HP6.out ri hrj u); clear hz6 hq3))
      go_ret
      exact ⟨g2, j, c2, _, Y, rfl, HSET.out, hjc, hg2, hj1, by omega, HD6.out.grown (set_grown _ _ _) (by simp; omega) (by intro k hk; cases hk; show g ≤ g2; omega), grown_own HR6.out (set_grown _ _ _) (by intro k hk; cases hk; exact hg2)⟩
    by_cases e10 : r = 10
    · subst e10
      clear e9
      go_wp2_with (go_at_call 17; first | (refine (next_any g p n c z _ _ HD4.out (by omega)).mono ?_; rintro e w5 ⟨i, rfl, i1, i2, hd5, hg5⟩; have HD5 := Lib.hid hd5; have HR5 := Lib.hid (grown_trans HR4.out hg5); have HP5 := Lib.hid (HP4.out.grown hg5 (by simp; omega)); have HF5 : Hid (∀ k, w5.frozen? ⟨g2, k, none⟩ = false) := fun k => (World.frozen?_of_block (w := w4) (a := ⟨g2, k, none⟩) (hg5.block g2 HP4.out.1 (by simp; omega))).trans (HF4.out k); have hs5 := hg5.size; clear HD4 HR4 HP4 HF4 hd5 hg5; obtain ⟨ri, hri⟩ : ∃ ri : Nat, i = ri := ⟨i.toNat, by omega⟩; subst hri; have hrj : ri < j := (by omega); have hrji : (ri : Int) < (j : Int) := (by omega)) | (refine (next_any g p n c z _ _ (HD5.out.alloc _) (by omega)).mono ?_; rintro e w6 ⟨q, rfl, q1, q2, hd6, hg6⟩; have HD6 := Lib.hid hd6; have HR6 := Lib.hid (grown_trans (grown_trans HR5.out (World.grownBy_alloc w5 _ (some g))) hg6); have HP6 := Lib.hid ((HP5.out.alloc _).grown hg6 (by simp; omega)); have hz6 := fz_keep HP5.out.1 (by omega) HF5.out hg6; obtain ⟨qi, hqi⟩ : ∃ qi : Nat, q = qi := ⟨q.toNat, by omega⟩; subst hqi; have hq3 : qi < 3 := (by omega); have hqi3 : (qi : Int) < 3 := (by omega); obtain ⟨u, hu⟩ := lit_three (by omega) hg6 qi hq3; clear hd6 hg6; have xi := (HP6.out.2 ri hrj).2; have xf := hz6 (ri * 2 + 1); simp only [Nat.zero_add] at xi; have HSET := Lib.hid (ptm_setY HP6.out ri hrj u); clear hz6 hq3))
      go_ret
      exact ⟨g2, j, c2, X, _, rfl, HSET.out, hjc, hg2, hj1, by omega, HD6.out.grown (set_grown _ _ _) (by simp; omega) (by intro k hk; cases hk; show g ≤ g2; omega), grown_own HR6.out (set_grown _ _ _) (by intro k hk; cases hk; exact hg2)⟩
    have b9 : (r == 9) = false := by rw [beq_eq_false_iff_ne]; exact e9
    have b10 : (r == 10) = false := by rw [beq_eq_false_iff_ne]; exact e10
    by_cases e11 : r = 11
    · subst e11
      clear e9 e10
      obtain ⟨x0, y0⟩ := HP4.out.2 0 (by omega)
      rw [Nat.zero_mul, Nat.add_zero] at x0 y0
      have hlt := HP4.out.1
      go_wp2_with (at_builtin; refine wpList_append_own _ rfl _ _ 22 rfl w.heap.size 45 i0 (.agg #[.int .i64 0, .int .i64 0]) 2 16 Try.underlying22 hi hz0 hz1 hz2 rfl (by decide) _ j _ rfl (HO4.out.alloc _) ⟨w4.heap.size, 0, none⟩ 1 1 [.int .i64 (X 0), .int .i64 (Y 0)] rfl rfl (cell_two _ _ _ _) (by intro u hu; simp at hu; rcases hu with rfl | rfl <;> rfl) (by unfold maxLen; omega) (by omega) (by simp; omega) ?_; intro v' w6 hown' hgrow hnil)
      have HO6 := Lib.hid (gotP_next hown')
      have HD6 := Lib.hid ((HD4.out.alloc _).grown hgrow (fun e => by have := gotP_block HO4.out g e.symm; omega) (fun k hk => by have := gotP_block HO4.out k hk; omega))
      have HR6 := Lib.hid (grown_own (grown_trans HR4.out (World.grownBy_alloc w4 _ (some g))) hgrow (fun k hk => gotP_block HO4.out k hk))
      clear hown' hgrow hnil HD4 HR4 HO4 HP4 HF4
      obtain ⟨g6, c6, rfl, hg6, hp6, hc6, _⟩ := gotP_pts HO6.out (by omega)
      have HP6 := Lib.hid hp6
      clear hp6 HO6
      go_wp2_with fail
      go_ret
      exact ⟨g6, j + 1, c6, _, _, rfl, HP6.out, hc6, hg6, by omega, by omega, HD6.out, HR6.out⟩
    · have b11 : (r == 11) = false := by rw [beq_eq_false_iff_ne]; exact e11
      clear e9 e10 e11
      go_wp2_with fail
      go_ret
      exact ⟨g2, j, c2, X, Y, rfl, HP4.out, hjc, hg2, hj1, by omega, HD4.out, HR4.out⟩
end Go.Proofs.Ytdblppbjlgmccaa.Ru

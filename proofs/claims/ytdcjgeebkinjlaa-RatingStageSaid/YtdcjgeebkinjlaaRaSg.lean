/-
  What the law RatingStage looks at, by names; Flow at a stage of -1.
-/
import Derived.Test.YtdcjgeebkinjlaaRaFl
namespace Go.Proofs.Ytdcjgeebkinjlaa.Ra
open Go.ChangeShapes Go.WideShapes Go.ChangeAt Go.RowKit
open Go.Proofs.Ytdcjgeebkinjlaa.Cu hiding inB inB_yes inB_no exX exY exC exP
open Go.Proofs.Ytdcjgeebkinjlaa.Gg (ckG ckG_zero pck_any Ek Vr Rs RdR)
set_option linter.unusedVariables false

theorem fof_neg (b off n c : Nat) (ice : Int) (w : World) : Calls Try.prog 20 #[.agg #[.slice (some ⟨b, off, none⟩) n c, .int .i64 ice], .agg #[.int .i64 0, .int .i64 0, .int .i64 (-1), .int .i64 0]] w fun e w' => e = .returned (.tuple #[.int .i64 0, .bool false, .int .i64 1]) ∧ Below w.heap.size w w' := by
  have HG := Lib.hid (fun W => pck_any 0 0 (-1) 0 W)
  rw [show ckG 0 0 (-1) 0 = 1 by decide] at HG
  go_enter Try.func20, Try.ntmps20
  go_wp2_with (go_at_call 28; refine (HG.out _).mono ?_; rintro e w1 ⟨rfl, hb1⟩; have HB1 := Lib.hid (two_boxes hb1).2.2; clear hb1)
  go_ret3
  exact ⟨rfl, HB1.out⟩
theorem flow_neg (b off n c m : Nat) (X Y : Nat → Int) (ice : Int) (w : World) (hc : CvOk b off n c X Y m) (hp : Pts w b off n X Y) (hi : 0 ≤ ice ∧ ice ≤ 16777216) : Calls Try.prog 10 #[.agg #[.slice (some ⟨b, off, none⟩) n c, .int .i64 ice], .agg #[.int .i64 0, .int .i64 0, .int .i64 (-1), .int .i64 0]] w fun e w' => e = .returned (.tuple #[.int .i64 0, .bool false, .int .i64 1]) ∧ Below w.heap.size w w' := by
  have HT := Lib.hid (fun W hp => tab_ok b off n c m X Y ice W hc hp hi)
  have HF := Lib.hid (fun W => fof_neg b off n c ice W)
  have HP0 := Lib.hid ((hp.alloc (.cells #[.slice (some ⟨b, off, none⟩) n c, .int .i64 ice] 25)).alloc (.cells #[.int .i64 0, .int .i64 0, .int .i64 (-1), .int .i64 0] 31))
  clear hc hp
  go_enter Try.func10, Try.ntmps10
  go_wp2_with (first
    | (go_at_call 19; refine (HT.out _ HP0.out).mono ?_; rintro e w1 ⟨rfl, hb1⟩; obtain ⟨⟨c0, c1⟩, ⟨d0, d1, d2, d3⟩, hbw⟩ := two_boxes hb1; have HB1 := Lib.hid (hbw.alloc hbw.size (.cells #[.slice (some ⟨b, off, none⟩) n c, .int .i64 ice] 58)); have hsz := World.block_lt_of_cell? _ _ d0; clear hb1 hbw)
    | (go_at_call 20; refine (HF.out _).mono ?_; rintro e w2 ⟨rfl, hb2⟩; have HB2 := Lib.hid (HB1.out.trans (hb2.mono HB1.out.size)); clear hb2))
  go_ret3
  exact ⟨rfl, HB2.out⟩

theorem fi_facts {X Y : Nat → Int} {m : Nat} (h : Cur X Y m) (y : Int) :
    (fiB Y m y = true ∧ y ≤ Y m ∧ X 0 < fiV X Y m y ∧ fiV X Y m y ≤ X m ∧ y ≤ val X Y m (fiV X Y m y) ∧ val X Y m (fiV X Y m y - 1) < y) ∨
    (fiB Y m y = true ∧ y ≤ Y m ∧ fiV X Y m y = X 0 ∧ fiV X Y m y ≤ X m ∧ y ≤ val X Y m (fiV X Y m y)) ∨ (fiB Y m y = false ∧ Y m < y ∧ fiV X Y m y = 0) := by
  unfold fiB fiV
  by_cases hy : Y m < y
  · rw [if_pos hy, decide_eq_true hy]; exact .inr (.inr ⟨rfl, hy, rfl⟩)
  · rw [if_neg hy, decide_eq_false hy]
    obtain ⟨f1, f2, f3, f4⟩ := fst_spec X Y m h.asc y (by omega)
    by_cases hx : X 0 < fst X Y m y
    · exact .inl ⟨rfl, by omega, hx, f2, f3, f4 _ hx (by omega)⟩
    · exact .inr (.inl ⟨rfl, by omega, by omega, f2, f3⟩)

structure SgC (w2 : World) (b k cap : Nat) (ice nn s fx ym a bv ev : Int) (ok tv : Bool) : Prop where
  S : ∀ W, Hid (Below w2.heap.size w2 W) → Calls Try.prog 13 #[.agg #[.slice (some ⟨b, 0, none⟩) k cap, .int .i64 ice], .int .i64 nn] W fun e w' => e = .returned (.tuple #[.int .i64 s, .bool ok, .int .i64 0]) ∧ Below W.heap.size W w'
  F : ∀ W, Hid (Below w2.heap.size w2 W) → Calls Try.prog 10 #[.agg #[.slice (some ⟨b, 0, none⟩) k cap, .int .i64 ice], .agg #[.int .i64 0, .int .i64 0, .int .i64 s, .int .i64 0]] W fun e w' => e = .returned (.tuple #[.int .i64 a, .bool true, .int .i64 0]) ∧ Below W.heap.size W w'
  G : ∀ W, Hid (Below w2.heap.size w2 W) → Calls Try.prog 10 #[.agg #[.slice (some ⟨b, 0, none⟩) k cap, .int .i64 ice], .agg #[.int .i64 0, .int .i64 0, .int .i64 (s - 1), .int .i64 0]] W fun e w' => e = .returned (.tuple #[.int .i64 bv, .bool tv, .int .i64 ev]) ∧ Below W.heap.size W w'
  cells : ∀ (m : Nat), k = m + 1 → ∀ W, Hid (Below w2.heap.size w2 W) → W.cell? ⟨b, 0, none⟩ = some (.int .i64 fx) ∧ W.cell? ⟨b, m * 2 + 1, none⟩ = some (.int .i64 ym)
theorem sg_pack {w2 : World} {b k m cap : Nat} {X Y : Nat → Int} {ice nn : Int} (hk : k = m + 1) (hp : Pts w2 b 0 k X Y) (hr : Ra X Y m ice) (hn : 0 ≤ nn ∧ nn < 400) :
    ∃ s fx ym a bv ev ok tv, Hid (SgC w2 b k cap ice nn s fx ym a bv ev ok tv) ∧ (0 ≤ s ∧ s ≤ 4019) ∧
      ((ok = true ∧ nn ≤ ym ∧ fx < s ∧ nn ≤ a ∧ bv < nn ∧ ev = 0) ∨ (ok = true ∧ nn ≤ ym ∧ s = fx ∧ nn ≤ a) ∨ (ok = false ∧ ym < nn)) := by
  have h0 := hr.ice0
  have h1 := hr.ice1
  have x0 := hr.x0
  have xm := hr.xm
  have ho := cv_ok b 0 k m cap X Y hk hr.cur
  have hs : 0 ≤ fiV X Y m nn ∧ fiV X Y m nn ≤ 4019 := by
    have x2 := hr.cur.asc.xle m 0 (Nat.zero_le _) (Nat.le_refl _)
    rcases fi_facts hr.cur nn with h | h | h <;> omega
  have hS : ∀ W, Hid (Below w2.heap.size w2 W) → Calls Try.prog 13 #[.agg #[.slice (some ⟨b, 0, none⟩) k cap, .int .i64 ice], .int .i64 nn] W fun e w' => e = .returned (.tuple #[.int .i64 (fiV X Y m nn), .bool (fiB Y m nn), .int .i64 0]) ∧ Below W.heap.size W w' :=
    fun W hb => stage_ok b 0 k m cap X Y ice nn W hk hr.cur (hp.up hb.out (Nat.le_refl _)) (by omega) (by omega)
  have hF : ∀ W, Hid (Below w2.heap.size w2 W) → Calls Try.prog 10 #[.agg #[.slice (some ⟨b, 0, none⟩) k cap, .int .i64 ice], .agg #[.int .i64 0, .int .i64 0, .int .i64 (fiV X Y m nn), .int .i64 0]] W fun e w' => e = .returned (.tuple #[.int .i64 (val X Y m (fiV X Y m nn)), .bool true, .int .i64 0]) ∧ Below W.heap.size W w' :=
    fun W hb => flow_ok b 0 k cap m X Y ice 0 0 _ 0 W ho (hp.up hb.out (Nat.le_refl _)) (by omega) (ck0 _ 0 (by omega) (by omega))
  have hC : ∀ (m' : Nat), k = m' + 1 → ∀ W, Hid (Below w2.heap.size w2 W) → W.cell? ⟨b, 0, none⟩ = some (.int .i64 (X 0)) ∧ W.cell? ⟨b, m' * 2 + 1, none⟩ = some (.int .i64 (Y m)) := fun m' hm' W hb => by
    obtain rfl : m' = m := by omega
    have h0 := (hp.up hb.out (Nat.le_refl _)).2 0 (by omega)
    have h1 := (hp.up hb.out (Nat.le_refl _)).2 m' (by omega)
    simp only [Nat.zero_add, Nat.zero_mul] at h0 h1
    exact ⟨h0.1, h1.2⟩
  by_cases hz : 1 ≤ fiV X Y m nn
  · refine ⟨_, _, _, _, val X Y m (fiV X Y m nn - 1), 0, _, true, ⟨hS, hF, fun W hb => ?_, hC⟩, hs, ?_⟩
    · exact flow_ok b 0 k cap m X Y ice 0 0 _ 0 W ho (hp.up hb.out (Nat.le_refl _)) (by omega) (ck0 _ 0 (by omega) (by omega))
    · rcases fi_facts hr.cur nn with h | h | h
      · exact .inl ⟨h.1, h.2.1, h.2.2.1, h.2.2.2.2.1, h.2.2.2.2.2, rfl⟩
      · exact .inr (.inl ⟨h.1, h.2.1, h.2.2.1, h.2.2.2.2⟩)
      · exact .inr (.inr ⟨h.1, h.2.1⟩)
  · refine ⟨_, _, _, _, 0, 1, _, false, ⟨hS, hF, fun W hb => ?_, hC⟩, hs, ?_⟩
    · have h := flow_neg b 0 k cap m X Y ice W ho (hp.up hb.out (Nat.le_refl _)) (by omega)
      rw [show (-1 : Int) = fiV X Y m nn - 1 by omega] at h
      exact h
    · rcases fi_facts hr.cur nn with h | h | h
      · omega
      · exact .inr (.inl ⟨h.1, h.2.1, h.2.2.1, h.2.2.2.2⟩)
      · exact .inr (.inr ⟨h.1, h.2.1⟩)
end Go.Proofs.Ytdcjgeebkinjlaa.Ra

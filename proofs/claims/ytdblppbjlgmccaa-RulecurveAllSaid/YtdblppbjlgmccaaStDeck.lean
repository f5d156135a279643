/-
  Contract of the deck's Curve where it rises strictly.
-/
import Derived.Test.YtdblppbjlgmccaaCuDeck
namespace Go.Proofs.Ytdblppbjlgmccaa.Cu
open Go.ChangeShapes Go.WideShapes Go.ChangeAt Go.RowKit
set_option linter.unusedVariables false

/-- The points 0, .., m as Curve makes them, rising strictly. -/
structure Mks (X Y : Nat → Int) (m : Nat) (x y dx dy : Int) : Prop where
  base : Mk X Y m x y dx dy
  ris : ∀ i, i < m → Y i < Y (i + 1)
theorem Mks.next {X Y : Nat → Int} {m : Nat} {x y dx dy x' y' : Int} (h : Mks X Y m x y dx dy) (h1 : X m < x') (h2 : x' ≤ X m + dx) (h3 : Y m < y') (h4 : y' ≤ Y m + dy) : Mks (updF X (m + 1) x') (updF Y (m + 1) y') (m + 1) x y dx dy where
  base := h.base.next h1 h2 (by omega) h4
  ris := fun i hi => by
    rw [updF_other Y _ (show i ≠ m + 1 by omega)]
    by_cases e : i = m
    · subst e; rw [updF_same]; exact h3
    · rw [updF_other Y _ (show i + 1 ≠ m + 1 by omega)]
      exact h.ris i (by omega)

/-- What Curve returns where it rises strictly. -/
def CvS (w : World) (g : Nat) (p : Option Addr) (n c : Nat) (z : Nat → Int) (x y dx dy : Int) (e : Ending) (w' : World) : Prop :=
  ∃ (v : Value) (m : Nat) (X Y : Nat → Int), e = .returned v ∧ 1 ≤ m ∧ m ≤ 4 ∧ GotP w' w.heap.size v (m + 1) X Y ∧ Mks X Y m x y dx dy ∧ Dk w' g p n c z ∧ w.grownBy w' (some g)

set_option maxHeartbeats 4000000 in
theorem curve_strict (g : Nat) (p : Option Addr) (n c : Nat) (z : Nat → Int) (x y dx dy : Int) (w : World) (hd : Dk w g p n c z) (hx : 0 ≤ x ∧ x ≤ 1000) (hy : 0 ≤ y ∧ y ≤ 1000) (hdx : 1 ≤ dx ∧ dx ≤ 50) (hdy : 1 ≤ dy ∧ dy ≤ 250) :
    Calls Try.prog 25 #[.pointer (some ⟨g, 0, none⟩), .int .i64 x, .int .i64 y, .int .i64 dx, .int .i64 dy, .bool true] w (CvS w g p n c z x y dx dy) := by
  obtain ⟨i0, hi, hz0, hz1, hz2⟩ := info_parts Try.infoP
  have HD := Lib.hid hd
  have hgl := hd.lt
  clear hd
  go_enter Try.func25, Try.ntmps25
  go_wp2_with (go_at_call 17; refine (next_any g p n c z _ _ (HD.out.alloc _) (by omega)).mono ?_; rintro e w1 ⟨r, rfl, hr1, hr2, hd1, hg1⟩)
  have hsz := hg1.size
  rw [World.size_alloc] at hsz
  have hG0 : GotP w1 w.heap.size (.slice (some ⟨w.heap.size, 0, none⟩) 1 1) 1 (fun _ => x) (fun _ => y) :=
    (World.ownsRow_lit w #[Value.int .i64 x, Value.int .i64 y] 1 (Nat.le_refl _) (by unfold maxLen; omega) rfl).kept hg1 (.inr (by intro e; simp only [Value.ownBlock, Option.some.injEq] at e; omega))
  have HG := Lib.hid hG0
  have HD1 := Lib.hid hd1
  have HB := Lib.hid (grown_trans (World.grownBy_alloc w _ (some g)) hg1)
  have HM := Lib.hid (show Mks (fun _ => x) (fun _ => y) 0 x y dx dy from ⟨⟨rfl, rfl, fun i hi => absurd hi (Nat.not_lt_zero _)⟩, fun i hi => absurd hi (Nat.not_lt_zero _)⟩)
  clear hG0 hd1 hg1
  go_loopw [1, 2, 14, 15] (fun s1 s2 v k wr => ∃ (j kk : Nat) (X Y : Nat → Int) (V : Value), V = v ∧ 1 ≤ j + kk ∧ j + kk ≤ 4 ∧ k = .int .i64 kk ∧ s1 = .int .i64 (X j) ∧ s2 = .int .i64 (Y j) ∧ Hid (GotP wr w.heap.size v (j + 1) X Y) ∧ Hid (Mks X Y j x y dx dy) ∧ Hid (Dk wr g p n c z) ∧ Hid (w.grownBy wr (some g))) (fun _ _ _ k _ => (intOf k).toNat)
  case atStart => exact ⟨0, (1 + r).toNat, fun _ => x, fun _ => y, _, rfl, by omega, by omega, by rw [Int.toNat_of_nonneg (by omega)], rfl, rfl, HG, HM, HD1, HB⟩
  case round =>
    clear hsz HG HM HD1 HB HD hr1 hr2
    obtain ⟨j, kk, X, Y, v, rfl, h1, h4, rfl, rfl, rfl, hgot, hmk, hdk, hgr⟩ := hrel
    obtain ⟨bx1, bx2, by1, by2⟩ := hmk.out.base.hi (by omega) (by omega) j (Nat.le_refl _)
    have hj4 : (j : Int) ≤ 4 := by omega
    by_cases hk : 0 < kk
    · have hk' : (0 : Int) < (kk : Int) := by omega
      have HX := Lib.hid (fun x' y' a1 a2 a3 a4 => hmk.out.next (x' := x') (y' := y') a1 a2 a3 a4)
      clear hmk
      generalize hXj : X j = xj at *
      generalize hYj : Y j = yj at *
      have HXJ := Lib.hid hXj
      have HYJ := Lib.hid hYj
      clear hXj hYj
      have HGL : Hid (∀ k, Value.ownBlock v = some k → k ≠ g) := fun k hk => by have := gotP_block hgot.out k hk; omega
      have hne : Hid (v.ownBlock = none ∨ v.ownBlock ≠ some g) := .inr fun e => HGL.out g e rfl
      have hws := hgr.out.size
      go_wp2_with (first | (go_at_call 17; first | (refine (next_any g p n c z _ _ hdk.out (by omega)).mono ?_; rintro e w1 ⟨r1, rfl, r11, r12, hd1, hg1⟩) | (refine (next_any g p n c z _ _ hd1 (by omega)).mono ?_; rintro e w2 ⟨r2, rfl, r21, r22, hd2, hg2⟩)) | (at_builtin; refine wpList_append_own _ rfl _ _ 22 rfl w.heap.size 45 i0 (.agg #[.int .i64 0, .int .i64 0]) 2 16 Try.underlying22 hi hz0 hz1 hz2 rfl (by decide) _ (j + 1) _ rfl (((hgot.out.kept hg1 hne.out).kept hg2 hne.out).alloc _) ⟨w2.heap.size, 0, none⟩ 1 1 [.int .i64 (xj + 1 + r1), .int .i64 _] rfl rfl (cell_two _ _ _ _) ?c2 ?c3 ?c4 ?c5 ?_))
      case c2 => intro u hu; simp at hu; rcases hu with rfl | rfl <;> rfl
      case c3 => unfold maxLen; omega
      case c4 => omega
      case c5 => have h1 := hg1.size; have h2 := hg2.size; simp; omega
      intro v' w3 hown' hgrow hnil
      have HG' := Lib.hid (gotP_next hown')
      have HD' := Lib.hid ((hd2.alloc _).grown hgrow (fun e => HGL.out g e.symm rfl) (fun k hk => by have := gotP_block hgot.out k hk; omega))
      have HGR' := Lib.hid (grown_own (grown_trans (grown_trans (grown_trans hgr.out hg1) hg2) (World.grownBy_alloc w2 _ (some g))) hgrow (fun k hk => gotP_block hgot.out k hk))
      clear hown' hgrow hnil hd1 hd2 hg1 hg2 hgot hdk hgr
      go_wp2
      go_roundw
      case rel => exact ⟨j + 1, kk - 1, _, _, _, rfl, by omega, by omega, by rw [show (kk : Int) - 1 = ((kk - 1 : Nat) : Int) by omega], by rw [updF_same], by rw [updF_same], HG', HX.out _ _ (by omega) (by omega) (by omega) (by omega), HD', HGR'⟩
      case measure => simp [intOf]; omega
    · obtain rfl : kk = 0 := by omega
      go_wp2
      go_ret
      exact ⟨_, j, X, Y, rfl, by omega, by omega, hgot.out, hmk.out, hdk.out, hgr.out⟩
end Go.Proofs.Ytdblppbjlgmccaa.Cu

/-
  The contract of odd: a reservoir with something changed.
-/
import Derived.Test.YtglimagkfapcaaaStRes
import Derived.Test.YtglimagkfapcaaaStRow
import Derived.Deep.DeepCutAuto
import Derived.Deep.CutBlock
namespace Go.Proofs.Ytglimagkfapcaaa.Cu
open Go.ChangeShapes Go.WideShapes Go.ChangeAt Go.RowKit
set_option linter.unusedVariables false

/-- What odd holds: its box, its result, its own points. -/
structure Od (w : World) (kb ra g : Nat) (p : Option Addr) (n c : Nat) (z : Nat → Int) (g2 n2 c2 k : Nat) (f X Y : Nat → Int) (W : World) : Prop where
  box : Cls W kb 6 (six (.slice (some ⟨g2, 0, none⟩) n2 c2) f)
  res : Cls W ra 6 (six (.slice none 0 0) (fun _ => 0))
  pts : Pts W g2 0 k X Y
  free : ∀ j, W.frozen? ⟨g2, j, none⟩ = false
  dk : Dk W g p n c z
  gr : w.grownBy W (some g)
  le : n2 ≤ k
  ne : g < kb ∧ kb < ra ∧ ra < g2 ∧ w.heap.size ≤ kb
theorem Od.next {w W W' : World} {kb ra g : Nat} {p : Option Addr} {n c : Nat} {z : Nat → Int} {g2 n2 c2 k : Nat} {f X Y : Nat → Int} (h : Od w kb ra g p n c z g2 n2 c2 k f X Y W) (hd : Dk W' g p n c z) (hg : W.grownBy W' (some g)) : Od w kb ra g p n c z g2 n2 c2 k f X Y W' := by
  obtain ⟨h1, h2, h3, h4⟩ := h.ne
  exact ⟨h.box.grown hg (by simp; omega), h.res.grown hg (by simp; omega), h.pts.grown hg (by simp; omega), fun j => (World.frozen?_of_block (w := W) (a := ⟨g2, j, none⟩) (hg.block g2 h.pts.1 (by simp; omega))).trans (h.free j), hd, grown_trans h.gr hg, h.le, h.ne⟩
theorem Od.drewN {w W : World} {kb ra g : Nat} {p : Option Addr} {n c : Nat} {z : Nat → Int} {g2 n2 c2 k : Nat} {f X Y : Nat → Int} (h : Od w kb ra g p n c z g2 n2 c2 k f X Y W) (q : Nat) : Od w kb ra g p n c z g2 n2 c2 k f X Y (W.drewN q) :=
  h.next (h.dk.grown (grown_drewN W q none) (by simp) (by intro k hk; cases hk)) (grown_drewN W q _)
theorem Od.setBox {w W : World} {kb ra g : Nat} {p : Option Addr} {n c : Nat} {z : Nat → Int} {g2 n2 c2 k : Nat} {f X Y : Nat → Int} (h : Od w kb ra g p n c z g2 n2 c2 k f X Y W) (i : Nat) (hi : i < 6) (h0 : 1 ≤ i) (u : Int) : Od w kb ra g p n c z g2 n2 c2 k (updF f i u) X Y (W.setCell ⟨kb, i, none⟩ (.int .i64 u)) := by
  obtain ⟨h1, h2, h3, h4⟩ := h.ne
  have hg : W.grownBy (W.setCell ⟨kb, i, none⟩ (.int .i64 u)) (some kb) := set_grown W ⟨kb, i, none⟩ (.int .i64 u)
  refine ⟨fun j hj => ?_, h.res.grown hg (by simp; omega), h.pts.grown hg (by simp; omega), fun j => (World.frozen?_of_block (w := W) (a := ⟨g2, j, none⟩) (hg.block g2 h.pts.1 (by simp; omega))).trans (h.free j), h.dk.grown hg (by simp; omega) (by intro k hk; cases hk; omega), grown_own h.gr hg (by intro k hk; cases hk; exact h4), h.le, h.ne⟩
  have hs := h.box.set hi (.int .i64 u) j hj
  refine ⟨hs.1.trans ?_, hs.2⟩
  by_cases e : j = i
  · subst e; simp [six, updF]; omega
  · by_cases e0 : j = 0
    · subst e0; simp [six, e]
    · simp [six, updF, e, e0]
theorem Od.setSlice {w W : World} {kb ra g : Nat} {p : Option Addr} {n c : Nat} {z : Nat → Int} {g2 n2 c2 k : Nat} {f X Y : Nat → Int} (h : Od w kb ra g p n c z g2 n2 c2 k f X Y W) (n3 c3 : Nat) (hl : n3 ≤ k) : Od w kb ra g p n c z g2 n3 c3 k f X Y (W.setCell ⟨kb, 0, none⟩ (.slice (some ⟨g2, 0, none⟩) n3 c3)) := by
  obtain ⟨h1, h2, h3, h4⟩ := h.ne
  have hg : W.grownBy (W.setCell ⟨kb, 0, none⟩ (.slice (some ⟨g2, 0, none⟩) n3 c3)) (some kb) := set_grown W ⟨kb, 0, none⟩ (.slice (some ⟨g2, 0, none⟩) n3 c3)
  refine ⟨fun j hj => ?_, h.res.grown hg (by simp; omega), h.pts.grown hg (by simp; omega), fun j => (World.frozen?_of_block (w := W) (a := ⟨g2, j, none⟩) (hg.block g2 h.pts.1 (by simp; omega))).trans (h.free j), h.dk.grown hg (by simp; omega) (by intro k hk; cases hk; omega), grown_own h.gr hg (by intro k hk; cases hk; exact h4), hl, h.ne⟩
  have hs := h.box.set (i := 0) (by omega) (.slice (some ⟨g2, 0, none⟩) n3 c3) j hj
  refine ⟨hs.1.trans ?_, hs.2⟩
  by_cases e : j = 0
  · subst e; simp [six]
  · simp [six, e]
theorem Od.setPt {w W : World} {kb ra g : Nat} {p : Option Addr} {n c : Nat} {z : Nat → Int} {g2 n2 c2 k : Nat} {f X Y X' Y' : Nat → Int} (h : Od w kb ra g p n c z g2 n2 c2 k f X Y W) (o : Nat) (u : Value) (hp : Pts (W.setCell ⟨g2, o, none⟩ u) g2 0 k X' Y') : Od w kb ra g p n c z g2 n2 c2 k f X' Y' (W.setCell ⟨g2, o, none⟩ u) := by
  obtain ⟨h1, h2, h3, h4⟩ := h.ne
  have hg : W.grownBy (W.setCell ⟨g2, o, none⟩ u) (some g2) := set_grown W ⟨g2, o, none⟩ u
  exact ⟨h.box.grown hg (by simp; omega), h.res.grown hg (by simp; omega), hp, fun j => by simpa using h.free j, h.dk.grown hg (by simp; omega) (by intro k hk; cases hk; omega), grown_own h.gr hg (by intro k hk; cases hk; omega), h.le, h.ne⟩
theorem pts_setY {W : World} {b k : Nat} {X Y : Nat → Int} (h : Pts W b 0 k X Y) (i : Nat) (hi : i < k) (u : Int) : Pts (W.setCell ⟨b, i * 2 + 1, none⟩ (.int .i64 u)) b 0 k X (updF Y i u) := by
  refine ⟨by simpa using h.1, fun j hj => ?_⟩
  obtain ⟨h1, h2⟩ := h.2 j hj
  obtain ⟨_, h4⟩ := h.2 i hi
  rw [Nat.zero_add] at h1 h2 h4 ⊢
  refine ⟨(World.cell?_setCell_other _ _ _ _ (by intro e2; simp only [Addr.mk.injEq] at e2; omega)).trans h1, ?_⟩
  by_cases e : j = i
  · subst e; rw [updF_same]; exact World.cell?_setCell_same _ _ _ h4
  · rw [updF_other _ _ e]; exact (World.cell?_setCell_other _ _ _ _ (by intro e2; simp only [Addr.mk.injEq] at e2; omega)).trans h2
theorem pts_setX {W : World} {b k : Nat} {X Y : Nat → Int} (h : Pts W b 0 k X Y) (i : Nat) (hi : i < k) (u : Int) : Pts (W.setCell ⟨b, i * 2, none⟩ (.int .i64 u)) b 0 k (updF X i u) Y := by
  refine ⟨by simpa using h.1, fun j hj => ?_⟩
  obtain ⟨h1, h2⟩ := h.2 j hj
  obtain ⟨h3, _⟩ := h.2 i hi
  rw [Nat.zero_add] at h1 h2 h3 ⊢
  refine ⟨?_, (World.cell?_setCell_other _ _ _ _ (by intro e2; simp only [Addr.mk.injEq] at e2; omega)).trans h2⟩
  by_cases e : j = i
  · subst e; rw [updF_same]; exact World.cell?_setCell_same _ _ _ h3
  · rw [updF_other _ _ e]; exact (World.cell?_setCell_other _ _ _ _ (by intro e2; simp only [Addr.mk.injEq] at e2; omega)).trans h1
/-- The cells of points, as a list reads them. -/
theorem pts_news {W : World} {b k : Nat} {X Y : Nat → Int} (h : Pts W b 0 k X Y) : ∀ j u, (ptL X Y k)[j]? = some u → W.cell? ((⟨b, 0, none⟩ : Addr).add j) = some u := by
  intro j u hj
  have hlt : j < k * 2 := by
    have h1 := List.getElem?_eq_some_iff.1 hj
    obtain ⟨h2, _⟩ := h1
    rwa [ptL_len] at h2
  obtain ⟨i, hi⟩ : ∃ i, j = i * 2 ∨ j = i * 2 + 1 := ⟨j / 2, by omega⟩
  have hik : i < k := by omega
  obtain ⟨h1, h2⟩ := h.2 i hik
  obtain ⟨e1, e2⟩ := ptL_get X Y k i hik
  rw [add_plain]
  rcases hi with rfl | rfl
  · rw [hj] at e1; rw [e1]; exact h1
  · rw [hj] at e2; rw [e2, ← Nat.add_assoc]; exact h2
theorem ptL_one (X Y : Nat → Int) : ∀ k, ∀ u ∈ ptL X Y k, u.oneCell' = true
  | 0, u, hu => by simp [ptL] at hu
  | k + 1, u, hu => by
    unfold ptL at hu
    rw [List.mem_append] at hu
    rcases hu with hu | hu
    · exact ptL_one X Y k u hu
    · simp at hu; rcases hu with rfl | rfl <;> rfl

/-- What odd returns. -/
def OdP (w : World) (g : Nat) (p : Option Addr) (n c : Nat) (z : Nat → Int) (e : Ending) (w' : World) : Prop :=
  ∃ (g2 n2 c2 : Nat) (X Y : Nat → Int) (D L F S C : Int), e = .returned (.agg #[.slice (some ⟨g2, 0, none⟩) n2 c2, .int .i64 D, .int .i64 L, .int .i64 F, .int .i64 S, .int .i64 C]) ∧ Pts w' g2 0 n2 X Y ∧ w.heap.size ≤ g2 ∧ Dk w' g p n c z ∧ w.grownBy w' (some g)
/-- The world behind the store of odd's result. -/
theorem od_out {w W W' : World} {kb ra g : Nat} {p : Option Addr} {n c : Nat} {z : Nat → Int} {g2 n2 c2 k : Nat} {f X Y : Nat → Int} (h : Od w kb ra g p n c z g2 n2 c2 k f X Y W) (v0 v1 v2 v3 v4 : Int)
    (hW : W' = (((((W.setCell ⟨ra, 0, none⟩ (.slice (some ⟨g2, 0, none⟩) n2 c2)).setCell ⟨ra, 1, none⟩ (.int .i64 v0)).setCell ⟨ra, 2, none⟩ (.int .i64 v1)).setCell ⟨ra, 3, none⟩ (.int .i64 v2)).setCell ⟨ra, 4, none⟩ (.int .i64 v3)).setCell ⟨ra, 5, none⟩ (.int .i64 v4)) :
    (Pts W' g2 0 k X Y ∧ Dk W' g p n c z ∧ w.grownBy W' (some g)) ∧
      (W'.cell? ⟨ra, 0, none⟩ = some (.slice (some ⟨g2, 0, none⟩) n2 c2) ∧ W'.cell? ⟨ra, 1, none⟩ = some (.int .i64 v0) ∧ W'.cell? ⟨ra, 2, none⟩ = some (.int .i64 v1) ∧ W'.cell? ⟨ra, 3, none⟩ = some (.int .i64 v2) ∧ W'.cell? ⟨ra, 4, none⟩ = some (.int .i64 v3) ∧ W'.cell? ⟨ra, 5, none⟩ = some (.int .i64 v4)) := by
  obtain ⟨h1, h2, h3, h4⟩ := h.ne
  have hk : Kp w g2 k g p n c z X Y W := ⟨h.pts, h.dk, h.gr⟩
  subst hW
  have a1 : g2 ≠ ra := by omega
  have a2 : g < ra := by omega
  have a3 : w.heap.size ≤ ra := by omega
  have hk2 := ((((((hk.set ⟨ra, 0, none⟩ (.slice (some ⟨g2, 0, none⟩) n2 c2) a1 a2 a3).set ⟨ra, 1, none⟩ (.int .i64 v0) a1 a2 a3).set ⟨ra, 2, none⟩ (.int .i64 v1) a1 a2 a3).set ⟨ra, 3, none⟩ (.int .i64 v2) a1 a2 a3).set ⟨ra, 4, none⟩ (.int .i64 v3) a1 a2 a3).set ⟨ra, 5, none⟩ (.int .i64 v4) a1 a2 a3)
  refine ⟨⟨hk2.pts, hk2.dk, hk2.gr⟩, ?_⟩
  have h := ((((((h.res.set (i := 0) (by omega) (.slice (some ⟨g2, 0, none⟩) n2 c2)).set (i := 1) (by omega) (.int .i64 v0)).set (i := 2) (by omega) (.int .i64 v1)).set (i := 3) (by omega) (.int .i64 v2)).set (i := 4) (by omega) (.int .i64 v3)).set (i := 5) (by omega) (.int .i64 v4))
  exact ⟨(h 0 (by omega)).1, (h 1 (by omega)).1, (h 2 (by omega)).1, (h 3 (by omega)).1, (h 4 (by omega)).1, (h 5 (by omega)).1⟩

set_option maxRecDepth 100000 in
set_option maxHeartbeats 8000000 in
theorem odd_any (b k cap g : Nat) (p : Option Addr) (n c : Nat) (z X Y : Nat → Int) (D L F S C : Int) (w : World) (hk : 2 ≤ k) (hk2 : k ≤ 100) (hp : Pts w b 0 k X Y) (hd : Dk w g p n c z) :
    Calls Try.prog 10 #[.pointer (some ⟨g, 0, none⟩), .agg #[.slice (some ⟨b, 0, none⟩) k cap, .int .i64 D, .int .i64 L, .int .i64 F, .int .i64 S, .int .i64 C]] w (OdP w g p n c z) := by
  obtain ⟨i0, hi, hz0, hz1, hz2⟩ := info_parts Try.infoP
  have hgl := hd.lt
  have HD := Lib.hid hd
  have HP := Lib.hid hp
  have k1 : (1 : Int) ≤ (k : Int) := by omega
  have k2 : (k : Int) ≤ 100 := by omega
  clear hd hp
  go_enter Try.func10, Try.ntmps10
  go_wp2_with (at_builtin; refine wpList_append_own _ rfl _ _ 22 rfl (w.heap.size + 2) 42 i0 (.agg #[.int .i64 0, .int .i64 0]) 2 16 Try.underlying22 hi hz0 hz1 hz2 rfl (by decide) (.slice none 0 0) 0 [] rfl (gotP_nil _ _ X Y) ⟨b, 0, none⟩ k cap (ptL X Y k) rfl (ptL_len X Y k) (pts_news ((HP.out.alloc _).alloc _)) (ptL_one X Y k) ?c3 ?c4 ?c5 ?_)
  case c3 => unfold maxLen; omega
  case c4 => omega
  case c5 => simp
  intro v' w3 hown' hgrow hnil
  have hG : GotP w3 (w.heap.size + 2) v' k X Y := hown'
  obtain ⟨g2, c2, rfl, hg2, hpt, hkc, hfz⟩ := gotP_pts hG (by omega)
  have hbox : Cls w3 w.heap.size 6 (six (.slice (some ⟨b, 0, none⟩) k cap) (fun j => if j = 1 then D else if j = 2 then L else if j = 3 then F else if j = 4 then S else C)) :=
    ((cls_six w (.slice (some ⟨b, 0, none⟩) k cap) D L F S C 24 _ rfl rfl rfl rfl rfl).grown (World.grownBy_alloc _ _ none) (by simp)).grown hgrow (by simp [Value.ownBlock])
  have hres : Cls w3 (w.heap.size + 1) 6 (six (.slice none 0 0) (fun _ => 0)) := by
    have h := cls_six (w.alloc (.cells #[.slice (some ⟨b, 0, none⟩) k cap, .int .i64 D, .int .i64 L, .int .i64 F, .int .i64 S, .int .i64 C] 24)) (.slice none 0 0) 0 0 0 0 0 24 (fun _ => 0) rfl rfl rfl rfl rfl
    rw [World.size_alloc] at h
    exact h.grown hgrow (by simp [Value.ownBlock])
  have hgr : w.grownBy w3 (some g) := grown_own (grown_trans (World.grownBy_alloc w _ _) (World.grownBy_alloc _ _ _)) hgrow (by intro k hk; simp [Value.ownBlock] at hk)
  have hdk : Dk w3 g p n c z := ((HD.out.alloc _).alloc _).grown hgrow (by simp [Value.ownBlock]) (by intro k hk; simp [Value.ownBlock] at hk)
  have cb := hbox 0 (by omega)
  have cb0 := cb.1
  have cbf := cb.2
  have hst : w3.grownBy (w3.setCell ⟨w.heap.size, 0, none⟩ (.slice (some ⟨g2, 0, none⟩) k c2)) (some w.heap.size) := set_grown w3 ⟨w.heap.size, 0, none⟩ _
  have HO : Hid (Od w w.heap.size (w.heap.size + 1) g p n c z g2 k c2 k (fun j => if j = 1 then D else if j = 2 then L else if j = 3 then F else if j = 4 then S else C) X Y (w3.setCell ⟨w.heap.size, 0, none⟩ (.slice (some ⟨g2, 0, none⟩) k c2))) := {
    box := fun j hj => by
      have hs := hbox.set (i := 0) (by omega) (.slice (some ⟨g2, 0, none⟩) k c2) j hj
      refine ⟨hs.1.trans ?_, hs.2⟩
      by_cases e : j = 0
      · subst e; simp [six]
      · simp [six, e]
    res := hres.grown hst (by simp)
    pts := hpt.grown hst (by simp; omega)
    free := fun j => by simpa using hfz j
    dk := hdk.grown hst (by simp; omega) (by intro k hk; cases hk; omega)
    gr := grown_own hgr hst (by intro k hk; cases hk; exact Nat.le_refl _)
    le := Nat.le_refl _
    ne := ⟨hgl, by omega, by omega, Nat.le_refl _⟩ }
  clear hown' hG hpt hfz hbox hres hgr hdk cb hst hgrow hnil HD HP
  have c21 : (1 : Int) ≤ (c2 : Int) := by omega
  have hk1 : (k : Int) - 1 = ((k - 1 : Nat) : Int) := by omega
  have hwk : IntKind.i64.wrap ((k : Int) - 1) = (k : Int) - 1 := by rw [IntKind.wrap_i64]; omega
  go_upto_block 0 with (go_at_call 13; refine (next_any g p n c z _ _ HO.out.dk (by omega)).mono ?_; rintro e w4 ⟨r, rfl, r1, r2, hd4, hg4⟩; have HO4 := Lib.hid (HO.out.next hd4 hg4); clear hd4 hg4 HO)
  clear cb0 cbf
  go_cut [11] (fun s11 wx => ∃ (n2 c3 : Nat) (f X2 Y2 : Nat → Int), Hid (Od w w.heap.size (w.heap.size + 1) g p n c z g2 n2 c3 k f X2 Y2 wx))
  case first =>
    have hr7 : r = 0 ∨ r = 1 ∨ r = 2 ∨ r = 3 ∨ r = 4 ∨ r = 5 ∨ r = 6 := by omega
    clear r1 r2
    rcases hr7 with rfl | rfl | rfl | rfl | rfl | rfl | rfl
    · go_wp2_with (go_at_call 13; refine (next_any g p n c z _ _ HO4.out.dk (by omega)).mono ?_; rintro e w5 ⟨q, rfl, q1, q2, hd5, hg5⟩; have HO5 := Lib.hid (HO4.out.next hd5 hg5); clear hd5 hg5; have stx := (HO5.out.box 1 (by omega)).1; have sfx := (HO5.out.box 1 (by omega)).2)
      go_meet
      exact ⟨k, c2, _, X, Y, HO5.out.setBox 1 (by omega) (by omega) q⟩
    · go_wp2_with (go_at_call 13; refine (next_any g p n c z _ _ HO4.out.dk (by omega)).mono ?_; rintro e w5 ⟨q, rfl, q1, q2, hd5, hg5⟩; have HO5 := Lib.hid (HO4.out.next hd5 hg5); clear hd5 hg5; have stx := (HO5.out.box 5 (by omega)).1; have sfx := (HO5.out.box 5 (by omega)).2)
      go_meet
      exact ⟨k, c2, _, X, Y, HO5.out.setBox 5 (by omega) (by omega) q⟩
    · go_wp2_with (go_at_call 13; refine (next_any g p n c z _ _ HO4.out.dk (by omega)).mono ?_; rintro e w5 ⟨q, rfl, q1, q2, hd5, hg5⟩; have HO5 := Lib.hid (HO4.out.next hd5 hg5); clear hd5 hg5; have stx := (HO5.out.box 3 (by omega)).1; have sfx := (HO5.out.box 3 (by omega)).2)
      go_meet
      exact ⟨k, c2, _, X, Y, HO5.out.setBox 3 (by omega) (by omega) q⟩
    · have cc0 : w4.cell? ⟨w.heap.size, 0, none⟩ = some (.slice (some ⟨g2, 0, none⟩) k c2) := (HO4.out.box 0 (by omega)).1
      have cf0 := (HO4.out.box 0 (by omega)).2
      go_wp2_with fail
      go_meet
      exact ⟨1, c2, _, X, Y, HO4.out.setSlice 1 c2 (by omega)⟩
    · have cc0 : w4.cell? ⟨w.heap.size, 0, none⟩ = some (.slice (some ⟨g2, 0, none⟩) k c2) := (HO4.out.box 0 (by omega)).1
      go_wp2_with (go_at_call 13; refine (next_any g p n c z _ _ HO4.out.dk (by omega)).mono ?_; rintro e w5 ⟨q, rfl, q1, q2, hd5, hg5⟩; have HO5 := Lib.hid (HO4.out.next hd5 hg5); clear hd5 hg5; have dc0 : w5.cell? ⟨w.heap.size, 0, none⟩ = some (.slice (some ⟨g2, 0, none⟩) k c2) := (HO5.out.box 0 (by omega)).1; obtain ⟨i, hi⟩ : ∃ i : Nat, q = i := ⟨q.toNat, by omega⟩; subst hi; have hik : (i : Int) < (k : Int) := (by omega); have hikn : i < k := (by omega); have hi0 : (0 : Int) < (k : Int) := (by omega); have hi0n : 0 < k := (by omega); have y0 := (HO5.out.pts.2 0 hi0n).2; have yi := (HO5.out.pts.2 i hikn).2; have yf := HO5.out.free (i * 2 + 1); simp only [Nat.zero_add, Nat.zero_mul] at y0 yi; have HPT := Lib.hid (fun u => HO5.out.setPt (i * 2 + 1) (.int .i64 u) (pts_setY HO5.out.pts i hikn u)))
      generalize Y 0 = ya at *
      go_region
      go_wp2_with fail
      go_meet
      exact ⟨k, c2, _, X, _, (HPT.out ya).drewN 1⟩
    · have cc0 : w4.cell? ⟨w.heap.size, 0, none⟩ = some (.slice (some ⟨g2, 0, none⟩) k c2) := (HO4.out.box 0 (by omega)).1
      obtain ⟨m, hm⟩ : ∃ m, m = k - 1 := ⟨_, rfl⟩
      rw [← hm] at hk1
      have hmk : m < k := by omega
      have hmki : (m : Int) < (k : Int) := by omega
      have hwm : IntKind.i64.wrap (m : Int) = (m : Int) := by rw [IntKind.wrap_i64]; omega
      clear hm
      go_wp2_with fail
      go_region_with (go_at_call 13; refine (next_any g p n c z _ _ (HO4.out.drewN 1).dk (by omega)).mono ?_; rintro e w5 ⟨q, rfl, q1, q2, hd5, hg5⟩; have HO5 := Lib.hid ((HO4.out.drewN 1).next hd5 hg5); clear hd5 hg5; have dc0 : w5.cell? ⟨w.heap.size, 0, none⟩ = some (.slice (some ⟨g2, 0, none⟩) k c2) := (HO5.out.box 0 (by omega)).1; have xi := (HO5.out.pts.2 m hmk).1; have xf := HO5.out.free (m * 2); simp only [Nat.zero_add] at xi; have HPT := Lib.hid (fun u => HO5.out.setPt (m * 2) (.int .i64 u) (pts_setX HO5.out.pts m hmk u)))
      all_goals (go_wp2_with fail; go_meet; exact ⟨k, c2, _, _, Y, HPT.out _⟩)
    · go_wp2_with fail
      go_meet
      exact ⟨k, c2, _, X, Y, HO4⟩
  case rest =>
    obtain ⟨n2, c3, f, X2, Y2, HO⟩ := hcut
    clear HO4
    have cc0 : wc.cell? ⟨w.heap.size, 0, none⟩ = some (.slice (some ⟨g2, 0, none⟩) n2 c3) := (HO.out.box 0 (by omega)).1
    have ccf0 := (HO.out.box 0 (by omega)).2
    have cc1 : wc.cell? ⟨w.heap.size, 1, none⟩ = some (.int .i64 (f 1)) := (HO.out.box 1 (by omega)).1
    have ccf1 := (HO.out.box 1 (by omega)).2
    have cc2 : wc.cell? ⟨w.heap.size, 2, none⟩ = some (.int .i64 (f 2)) := (HO.out.box 2 (by omega)).1
    have ccf2 := (HO.out.box 2 (by omega)).2
    have cc3 : wc.cell? ⟨w.heap.size, 3, none⟩ = some (.int .i64 (f 3)) := (HO.out.box 3 (by omega)).1
    have ccf3 := (HO.out.box 3 (by omega)).2
    have cc4 : wc.cell? ⟨w.heap.size, 4, none⟩ = some (.int .i64 (f 4)) := (HO.out.box 4 (by omega)).1
    have ccf4 := (HO.out.box 4 (by omega)).2
    have cc5 : wc.cell? ⟨w.heap.size, 5, none⟩ = some (.int .i64 (f 5)) := (HO.out.box 5 (by omega)).1
    have ccf5 := (HO.out.box 5 (by omega)).2
    have dd0 : wc.cell? ⟨w.heap.size + 1, 0, none⟩ = some (.slice none 0 0) := (HO.out.res 0 (by omega)).1
    have df0 := (HO.out.res 0 (by omega)).2
    have dd1 : wc.cell? ⟨w.heap.size + 1, 1, none⟩ = some (.int .i64 0) := (HO.out.res 1 (by omega)).1
    have df1 := (HO.out.res 1 (by omega)).2
    have dd2 : wc.cell? ⟨w.heap.size + 1, 2, none⟩ = some (.int .i64 0) := (HO.out.res 2 (by omega)).1
    have df2 := (HO.out.res 2 (by omega)).2
    have dd3 : wc.cell? ⟨w.heap.size + 1, 3, none⟩ = some (.int .i64 0) := (HO.out.res 3 (by omega)).1
    have df3 := (HO.out.res 3 (by omega)).2
    have dd4 : wc.cell? ⟨w.heap.size + 1, 4, none⟩ = some (.int .i64 0) := (HO.out.res 4 (by omega)).1
    have df4 := (HO.out.res 4 (by omega)).2
    have dd5 : wc.cell? ⟨w.heap.size + 1, 5, none⟩ = some (.int .i64 0) := (HO.out.res 5 (by omega)).1
    have df5 := (HO.out.res 5 (by omega)).2
    generalize f 1 = v0 at *
    generalize f 2 = v1 at *
    generalize f 3 = v2 at *
    generalize f 4 = v3 at *
    generalize f 5 = v4 at *
    go_wp2_with fail
    obtain ⟨W', hW'⟩ : ∃ W', W' = (((((wc.setCell ⟨w.heap.size + 1, 0, none⟩ (.slice (some ⟨g2, 0, none⟩) n2 c3)).setCell ⟨w.heap.size + 1, 1, none⟩ (.int .i64 v0)).setCell ⟨w.heap.size + 1, 2, none⟩ (.int .i64 v1)).setCell ⟨w.heap.size + 1, 3, none⟩ (.int .i64 v2)).setCell ⟨w.heap.size + 1, 4, none⟩ (.int .i64 v3)).setCell ⟨w.heap.size + 1, 5, none⟩ (.int .i64 v4) := ⟨_, rfl⟩
    rw [← hW']
    obtain ⟨⟨hp2, hd2, hg3⟩, q0, q1, q2, q3, q4, q5⟩ := od_out HO.out v0 v1 v2 v3 v4 hW'
    clear hW' cc0 cc1 cc2 cc3 cc4 cc5 ccf0 ccf1 ccf2 ccf3 ccf4 ccf5 dd0 dd1 dd2 dd3 dd4 dd5 df0 df1 df2 df3 df4 df5
    exact bodyPost_ret (v := .agg #[.slice (some ⟨g2, 0, none⟩) n2 c3, .int .i64 v0, .int .i64 v1, .int .i64 v2, .int .i64 v3, .int .i64 v4]) (by simp [results, Try.results10, go_sem, q0, q1, q2, q3, q4, q5]) rfl
      ⟨g2, n2, c3, X2, Y2, v0, v1, v2, v3, v4, rfl, ⟨hp2.1, fun i hi => hp2.2 i (Nat.lt_of_lt_of_le hi HO.out.le)⟩, by omega, hd2, hg3⟩
end Go.Proofs.Ytglimagkfapcaaa.Cu

/-
  Contract of the deck's Reservoir.
-/
import Derived.Test.YtdblppbjlgmccaaStDeck
import Derived.Test.YtdblppbjlgmccaaStMath
import Derived.BigRegion
namespace Go.Proofs.Ytdblppbjlgmccaa.Cu
open Go.ChangeShapes Go.WideShapes Go.ChangeAt Go.RowKit
set_option linter.unusedVariables false

theorem cell_al {W : World} {a : Addr} {v : Value} (o : Obj) (h : W.cell? a = some v) : (W.alloc o).cell? a = some v :=
  (((Below.refl W.heap.size W).alloc (Nat.le_refl _) o).cell (World.block_lt_of_cell? _ _ h)).trans h

/-- What Reservoir returns. -/
def RvP (w : World) (g : Nat) (p : Option Addr) (n c : Nat) (z : Nat → Int) (e : Ending) (w' : World) : Prop :=
  ∃ (b cap k m : Nat) (X Y : Nat → Int) (D L F S C : Int), e = .returned (.agg #[.slice (some ⟨b, 0, none⟩) k cap, .int .i64 D, .int .i64 L, .int .i64 F, .int .i64 S, .int .i64 C]) ∧ k = m + 1 ∧ m ≤ 4 ∧ w.heap.size ≤ b ∧ Pts w' b 0 k X Y ∧ Res X Y m D L F S C ∧ (100 ≤ X 0 ∧ X 0 ≤ 109 ∧ X m ≤ 309 ∧ 0 ≤ Y 0 ∧ Y 0 ≤ 19 ∧ Y m ≤ 1019) ∧ Dk w' g p n c z ∧ w.grownBy w' (some g)
/-- The first n cells of block k hold f and can be written. -/
def Cls (w : World) (k n : Nat) (f : Nat → Value) : Prop := ∀ j, j < n → w.cell? ⟨k, j, none⟩ = some (f j) ∧ w.frozen? ⟨k, j, none⟩ = false
theorem Cls.grown {w w' : World} {k n : Nat} {f : Nat → Value} {r : Option Nat} (h : Cls w k n f) (hg : w.grownBy w' r) (hr : some k ≠ r) : Cls w' k n f := fun j hj =>
  ⟨hg.cell (h j hj).1 hr, (World.frozen?_of_block (w := w) (a := ⟨k, j, none⟩) (hg.block k (World.block_lt_of_cell? _ _ (h j hj).1) hr)).trans (h j hj).2⟩
theorem set_grown (w : World) (a : Addr) (u : Value) : w.grownBy (w.setCell a u) (some a.block) :=
  ⟨rfl, rfl, rfl, by simp [World.setCell], fun j hj hne => Below.heap_setCell _ _ _ _ (by intro e; apply hne; rw [e])⟩
theorem Cls.set {w : World} {k n i : Nat} {f : Nat → Value} (h : Cls w k n f) (hi : i < n) (u : Value) : Cls (w.setCell ⟨k, i, none⟩ u) k n (fun j => if j = i then u else f j) := fun j hj => by
  by_cases e : j = i
  · subst e
    exact ⟨by show _ = some (if j = j then u else f j); rw [if_pos rfl]; exact World.cell?_setCell_same _ _ _ (h j hj).1, by simpa using (h j hj).2⟩
  · exact ⟨by show _ = some (if j = i then u else f j); rw [if_neg e]; exact (World.cell?_setCell_other _ _ _ _ (by intro e2; simp only [Addr.mk.injEq] at e2; omega)).trans (h j hj).1, by simpa using (h j hj).2⟩
/-- What Reservoir keeps behind its first lines. -/
structure Kp (w : World) (b k g : Nat) (p : Option Addr) (n c : Nat) (z X Y : Nat → Int) (wr : World) : Prop where
  pts : Pts wr b 0 k X Y
  dk : Dk wr g p n c z
  gr : w.grownBy wr (some g)
theorem Kp.next {w wr w' : World} {b k g : Nat} {p : Option Addr} {n c : Nat} {z X Y : Nat → Int} (h : Kp w b k g p n c z X Y wr) (hd : Dk w' g p n c z) (hg : wr.grownBy w' (some g)) (hb : b ≠ g) : Kp w b k g p n c z X Y w' :=
  ⟨h.pts.grown hg (by simpa using hb), hd, grown_trans h.gr hg⟩
theorem Kp.set {w wr : World} {b k g : Nat} {p : Option Addr} {n c : Nat} {z X Y : Nat → Int} (h : Kp w b k g p n c z X Y wr) (a : Addr) (u : Value) (h1 : b ≠ a.block) (h2 : g < a.block) (h3 : w.heap.size ≤ a.block) : Kp w b k g p n c z X Y (wr.setCell a u) :=
  ⟨h.pts.grown (set_grown wr a u) (by simpa using h1), h.dk.grown (set_grown wr a u) (by simp; omega) (by intro k hk; cases hk; omega), grown_own h.gr (set_grown wr a u) (by intro k hk; cases hk; exact h3)⟩
theorem Kp.drewN {w wr : World} {b k g : Nat} {p : Option Addr} {n c : Nat} {z X Y : Nat → Int} (h : Kp w b k g p n c z X Y wr) (q : Nat) : Kp w b k g p n c z X Y (wr.drewN q) :=
  ⟨h.pts.drewN q, h.dk.grown (grown_drewN wr q none) (by simp) (by intro k hk; cases hk), grown_trans h.gr (grown_drewN wr q _)⟩
/-- The cells of a struct of a slice and five integers. -/
def six (v : Value) (f : Nat → Int) (j : Nat) : Value := if j = 0 then v else .int .i64 (f j)
theorem cls_six (w : World) (v : Value) (a b c d e : Int) (t : TypeId) (f : Nat → Int) (h1 : f 1 = a) (h2 : f 2 = b) (h3 : f 3 = c) (h4 : f 4 = d) (h5 : f 5 = e) : Cls (w.alloc (.cells #[v, .int .i64 a, .int .i64 b, .int .i64 c, .int .i64 d, .int .i64 e] t)) w.heap.size 6 (six v f) := fun j hj => by
  have hc : j = 0 ∨ j = 1 ∨ j = 2 ∨ j = 3 ∨ j = 4 ∨ j = 5 := by omega
  rcases hc with rfl | rfl | rfl | rfl | rfl | rfl <;> exact ⟨by simp [six, *], by simp⟩
theorem cls_five (w : World) (t : TypeId) : Cls (w.alloc (.cells #[.int .i64 0, .int .i64 0, .int .i64 0, .int .i64 0, .int .i64 0] t)) w.heap.size 5 (fun _ => .int .i64 0) := fun j hj => by
  have hc : j = 0 ∨ j = 1 ∨ j = 2 ∨ j = 3 ∨ j = 4 := by omega
  rcases hc with rfl | rfl | rfl | rfl | rfl <;> exact ⟨by simp, by simp⟩
/-- What holds behind i of the five levels. -/
structure Rw (w : World) (ra rr rl b k cap g : Nat) (p : Option Addr) (n c : Nat) (z X Y : Nat → Int) (x0 lv : Int) (i : Nat) (V : Nat → Int) (wr : World) : Prop where
  kp : Kp w b k g p n c z X Y wr
  res : Cls wr ra 6 (six (.slice none 0 0) (fun _ => 0))
  row : Cls wr rr 6 (six (.slice (some ⟨b, 0, none⟩) k cap) (fun _ => 0))
  arr : Cls wr rl 5 (fun j => .int .i64 (V j))
  low : ∀ j, j < i → x0 ≤ V j ∧ V j ≤ lv
  up : ∀ j, j + 1 < i → V j ≤ V (j + 1)
theorem Rw.step {w : World} {ra rr rl b k cap g : Nat} {p : Option Addr} {n c : Nat} {z X Y : Nat → Int} {x0 lv : Int} {i : Nat} {V : Nat → Int} {wr w' : World} (h : Rw w ra rr rl b k cap g p n c z X Y x0 lv i V wr) (lv' : Int) (hl : lv ≤ lv') (h0 : x0 ≤ lv) (hi : i < 5)
    (hd : Dk w' g p n c z) (hg : wr.grownBy w' (some g)) (n1 : b ≠ g) (n2 : ra ≠ g) (n3 : rr ≠ g) (n4 : g < rl) (n5 : w.heap.size ≤ rl) (n6 : b ≠ rl) (n7 : ra ≠ rl) (n8 : rr ≠ rl) :
    Rw w ra rr rl b k cap g p n c z X Y x0 lv' (i + 1) (updF V i lv') (w'.setCell ⟨rl, i, none⟩ (.int .i64 lv')) where
  kp := (h.kp.next hd hg n1).set _ _ n6 n4 n5
  res := (h.res.grown hg (by simpa using n2)).grown (set_grown w' ⟨rl, i, none⟩ _) (by simpa using n7)
  row := (h.row.grown hg (by simpa using n3)).grown (set_grown w' ⟨rl, i, none⟩ _) (by simpa using n8)
  arr := fun j hj => by
    have h1 := (h.arr.grown hg (by simp; omega)).set hi (.int .i64 lv') j hj
    refine ⟨h1.1.trans ?_, h1.2⟩
    by_cases e : j = i
    · subst e; simp [updF]
    · simp [updF, e]
  low := fun j hj => by
    by_cases e : j = i
    · subst e; rw [updF_same]; omega
    · rw [updF_other _ _ e]; have := h.low j (by omega); omega
  up := fun j hj => by
    rw [updF_other _ _ (show j ≠ i by omega)]
    by_cases e : j + 1 = i
    · subst e; rw [updF_same]; have := h.low j (by omega); omega
    · rw [updF_other _ _ e]; exact h.up j (by omega)
theorem Kp.drew {w wr : World} {b k g : Nat} {p : Option Addr} {n c : Nat} {z X Y : Nat → Int} (h : Kp w b k g p n c z X Y wr) : Kp w b k g p n c z X Y wr.drew := h.drewN 1
theorem Cls.drew {w : World} {k n : Nat} {f : Nat → Value} (h : Cls w k n f) : Cls w.drew k n f := h
/-- The world behind the five stores of the levels. -/
theorem fill_facts {w wr W : World} {ra rr b k cap g : Nat} {p : Option Addr} {n c : Nat} {z X Y : Nat → Int} (hk : Kp w b k g p n c z X Y wr) (ho : Cls wr rr 6 (six (.slice (some ⟨b, 0, none⟩) k cap) (fun _ => 0))) (he : Cls wr ra 6 (six (.slice none 0 0) (fun _ => 0))) (v0 v1 v2 v3 v4 : Int)
    (h1 : b ≠ rr) (h2 : g < rr) (h3 : w.heap.size ≤ rr) (h4 : ra ≠ rr) (hW : W = (((((wr.setCell ⟨rr, 1, none⟩ (.int .i64 v0)).setCell ⟨rr, 2, none⟩ (.int .i64 v1)).setCell ⟨rr, 3, none⟩ (.int .i64 v2)).setCell ⟨rr, 4, none⟩ (.int .i64 v3)).setCell ⟨rr, 5, none⟩ (.int .i64 v4)).drew) :
    Kp w b k g p n c z X Y W ∧ Cls W ra 6 (six (.slice none 0 0) (fun _ => 0)) ∧
      (W.cell? ⟨rr, 0, none⟩ = some (.slice (some ⟨b, 0, none⟩) k cap) ∧ W.cell? ⟨rr, 1, none⟩ = some (.int .i64 v0) ∧ W.cell? ⟨rr, 2, none⟩ = some (.int .i64 v1) ∧ W.cell? ⟨rr, 3, none⟩ = some (.int .i64 v2) ∧ W.cell? ⟨rr, 4, none⟩ = some (.int .i64 v3) ∧ W.cell? ⟨rr, 5, none⟩ = some (.int .i64 v4)) := by
  subst hW
  refine ⟨?_, ?_, ?_⟩
  · exact ((((((hk.set ⟨rr, 1, none⟩ (.int .i64 v0) h1 h2 h3).set ⟨rr, 2, none⟩ (.int .i64 v1) h1 h2 h3).set ⟨rr, 3, none⟩ (.int .i64 v2) h1 h2 h3).set ⟨rr, 4, none⟩ (.int .i64 v3) h1 h2 h3).set ⟨rr, 5, none⟩ (.int .i64 v4) h1 h2 h3).drew)
  · have hn : ∀ i u, (some ra : Option Nat) ≠ some ((⟨rr, i, u⟩ : Addr).block) := fun i u => by simpa using h4
    exact ((((((he.grown (set_grown _ ⟨rr, 1, none⟩ (.int .i64 v0)) (hn _ _)).grown (set_grown _ ⟨rr, 2, none⟩ (.int .i64 v1)) (hn _ _)).grown (set_grown _ ⟨rr, 3, none⟩ (.int .i64 v2)) (hn _ _)).grown (set_grown _ ⟨rr, 4, none⟩ (.int .i64 v3)) (hn _ _)).grown (set_grown _ ⟨rr, 5, none⟩ (.int .i64 v4)) (hn _ _)).drew)
  · have h := ((((((ho.set (i := 1) (by omega) (.int .i64 v0)).set (i := 2) (by omega) (.int .i64 v1)).set (i := 3) (by omega) (.int .i64 v2)).set (i := 4) (by omega) (.int .i64 v3)).set (i := 5) (by omega) (.int .i64 v4)).drew)
    exact ⟨(h 0 (by omega)).1, (h 1 (by omega)).1, (h 2 (by omega)).1, (h 3 (by omega)).1, (h 4 (by omega)).1, (h 5 (by omega)).1⟩
/-- The world behind the store of the result. -/
theorem out_facts {w W W' : World} {ra b k cap g : Nat} {p : Option Addr} {n c : Nat} {z X Y : Nat → Int} (hk : Kp w b k g p n c z X Y W) (he : Cls W ra 6 (six (.slice none 0 0) (fun _ => 0))) (v0 v1 v2 v3 v4 : Int)
    (h1 : b ≠ ra) (h2 : g < ra) (h3 : w.heap.size ≤ ra) (hW : W' = (((((W.setCell ⟨ra, 0, none⟩ (.slice (some ⟨b, 0, none⟩) k cap)).setCell ⟨ra, 1, none⟩ (.int .i64 v0)).setCell ⟨ra, 2, none⟩ (.int .i64 v1)).setCell ⟨ra, 3, none⟩ (.int .i64 v2)).setCell ⟨ra, 4, none⟩ (.int .i64 v3)).setCell ⟨ra, 5, none⟩ (.int .i64 v4)) :
    Kp w b k g p n c z X Y W' ∧
      (W'.cell? ⟨ra, 0, none⟩ = some (.slice (some ⟨b, 0, none⟩) k cap) ∧ W'.cell? ⟨ra, 1, none⟩ = some (.int .i64 v0) ∧ W'.cell? ⟨ra, 2, none⟩ = some (.int .i64 v1) ∧ W'.cell? ⟨ra, 3, none⟩ = some (.int .i64 v2) ∧ W'.cell? ⟨ra, 4, none⟩ = some (.int .i64 v3) ∧ W'.cell? ⟨ra, 5, none⟩ = some (.int .i64 v4)) := by
  subst hW
  refine ⟨?_, ?_⟩
  · exact ((((((hk.set ⟨ra, 0, none⟩ (.slice (some ⟨b, 0, none⟩) k cap) h1 h2 h3).set ⟨ra, 1, none⟩ (.int .i64 v0) h1 h2 h3).set ⟨ra, 2, none⟩ (.int .i64 v1) h1 h2 h3).set ⟨ra, 3, none⟩ (.int .i64 v2) h1 h2 h3).set ⟨ra, 4, none⟩ (.int .i64 v3) h1 h2 h3).set ⟨ra, 5, none⟩ (.int .i64 v4) h1 h2 h3)
  · have h := ((((((he.set (i := 0) (by omega) (.slice (some ⟨b, 0, none⟩) k cap)).set (i := 1) (by omega) (.int .i64 v0)).set (i := 2) (by omega) (.int .i64 v1)).set (i := 3) (by omega) (.int .i64 v2)).set (i := 4) (by omega) (.int .i64 v3)).set (i := 5) (by omega) (.int .i64 v4))
    exact ⟨(h 0 (by omega)).1, (h 1 (by omega)).1, (h 2 (by omega)).1, (h 3 (by omega)).1, (h 4 (by omega)).1, (h 5 (by omega)).1⟩
theorem mks_facts {X Y : Nat → Int} {m : Nat} {x y : Int} (h : Mks X Y m x y 40 200) (hm : m ≤ 4) (hx : 100 ≤ x ∧ x ≤ 109) (hy : 0 ≤ y ∧ y ≤ 19) : 100 ≤ X 0 ∧ X 0 ≤ 109 ∧ X m ≤ 309 ∧ 0 ≤ Y 0 ∧ Y 0 ≤ 19 ∧ Y m ≤ 1019 := by
  have h0 := h.base.hi (by omega) (by omega) 0 (Nat.zero_le _)
  have h1 := h.base.hi (by omega) (by omega) m (Nat.le_refl _)
  have := h.base.x0
  have := h.base.y0
  omega

set_option maxRecDepth 100000 in
set_option maxHeartbeats 4000000 in
theorem reservoir_any (g : Nat) (p : Option Addr) (n c : Nat) (z : Nat → Int) (w : World) (hd : Dk w g p n c z) :
    Calls Try.prog 10 #[.pointer (some ⟨g, 0, none⟩)] w (RvP w g p n c z) := by
  have HD := Lib.hid hd
  have hgl := hd.lt
  clear hd
  go_enter Try.func10, Try.ntmps10
  go_wp2_with (first
    | (go_at_call 17; first | (refine (next_any g p n c z _ _ (HD.out.alloc _) (by omega)).mono ?_; rintro e w1 ⟨r1, rfl, r11, r12, hd1, hg1⟩; clear HD) | (refine (next_any g p n c z _ _ hd1 (by omega)).mono ?_; rintro e w2 ⟨r2, rfl, r21, r22, hd2, hg2⟩))
    | (go_at_call 25; refine (curve_strict g p n c z (100 + r1) r2 40 200 _ hd2 (by omega) (by omega) (by omega) (by omega)).mono ?_; rintro e w3 ⟨v, m, X, Y, rfl, m1, m4, hgot, hmks, hd3, hg3⟩; obtain ⟨b, cap, rfl, hb, hp, _, _⟩ := gotP_pts hgot (by omega); clear hgot; have hk : ∃ k, k = m + 1 := ⟨_, rfl⟩; obtain ⟨k, hk⟩ := hk; rw [← hk] at hp ⊢; have HK := Lib.hid hk; have hkm : (m : Int) < (k : Int) := (by omega); have hk0 : (0 : Int) < (k : Int) := (by omega); have hk1 : (k : Int) - 1 = (m : Int) := (by omega); have HP := Lib.hid hp; have hc0 := (hp.2 0 (by omega)).1; have hcm := (hp.2 m (by omega)).1; have hfm := mks_facts hmks m4 ⟨by omega, by omega⟩ ⟨by omega, by omega⟩; obtain ⟨f1, f2, f3, f4, f5, f6⟩ := hfm; have hx0m := (hmks.base.cur (by omega) (by omega) m4 ⟨by omega, by omega⟩ ⟨by omega, by omega⟩).asc.xle m 0 (Nat.zero_le _) (Nat.le_refl _); have HM := Lib.hid hmks; have HD3 := Lib.hid hd3; have HRA : Hid (Cls w3 w.heap.size 6 (six (.slice none 0 0) (fun _ => 0))) := (((cls_six w (.slice none 0 0) 0 0 0 0 0 24 (fun _ => 0) rfl rfl rfl rfl rfl).grown hg1 (by simp; omega)).grown hg2 (by simp; omega)).grown hg3 (by simp; omega); have HSA : w.heap.size < w3.heap.size := World.block_lt_of_cell? _ _ (HRA.out 0 (by omega)).1; have hsz2 : w.heap.size < w2.heap.size := (Nat.lt_of_lt_of_le (by simp) (Nat.le_trans hg1.size hg2.size)); have HB1 : Hid (w.grownBy w3 (some g)) := grown_trans (grown_trans (grown_trans (World.grownBy_alloc w _ (some g)) hg1) hg2) hg3; have hsz := HB1.out.size; clear hk hp hmks hd3 hd1 hd2 hg1 hg2 hg3; generalize hX0 : X 0 = x0 at *; generalize hXm : X m = xm at *; have HX0 := Lib.hid hX0; have HXM := Lib.hid hXm; clear hX0 hXm; simp only [Nat.zero_add, Nat.zero_mul] at hc0 hcm; have hc0 := cell_al (.cells #[.slice (some ⟨b, 0, none⟩) k cap, .int .i64 0, .int .i64 0, .int .i64 0, .int .i64 0, .int .i64 0] 24) hc0; have hcm := cell_al (.cells #[.slice (some ⟨b, 0, none⟩) k cap, .int .i64 0, .int .i64 0, .int .i64 0, .int .i64 0, .int .i64 0] 24) hcm))
  have hb3 := HP.out.1
  have HRW : Hid (Rw w w.heap.size w3.heap.size (w3.heap.size + 1) b k cap g p n c z X Y x0 x0 0 (fun _ => 0) ((w3.alloc (.cells #[.slice (some ⟨b, 0, none⟩) k cap, .int .i64 0, .int .i64 0, .int .i64 0, .int .i64 0, .int .i64 0] 24)).alloc (.cells #[.int .i64 0, .int .i64 0, .int .i64 0, .int .i64 0, .int .i64 0] 52))) := {
    kp := ⟨(HP.out.alloc _).alloc _, (HD3.out.alloc _).alloc _, grown_trans (grown_trans HB1.out (World.grownBy_alloc w3 _ _)) (World.grownBy_alloc _ _ _)⟩
    res := (HRA.out.grown (World.grownBy_alloc w3 _ none) (by simp)).grown (World.grownBy_alloc _ _ none) (by simp)
    row := (cls_six w3 _ 0 0 0 0 0 24 (fun _ => 0) rfl rfl rfl rfl rfl).grown (World.grownBy_alloc _ _ none) (by simp)
    arr := by have h := cls_five (w3.alloc (.cells #[.slice (some ⟨b, 0, none⟩) k cap, .int .i64 0, .int .i64 0, .int .i64 0, .int .i64 0, .int .i64 0] 24)) 52; rw [World.size_alloc] at h; exact h
    low := fun j hj => absurd hj (Nat.not_lt_zero _)
    up := fun j hj => absurd hj (Nat.not_lt_zero _) }
  clear hc0 hcm
  go_loopw [4, 30] (fun s4 s30 wr => ∃ (i : Nat) (lv : Int) (V : Nat → Int), i ≤ 5 ∧ s4 = .int .i64 lv ∧ s30 = .int .i64 i ∧ x0 ≤ lv ∧ lv ≤ xm ∧ Hid (Rw w w.heap.size w3.heap.size (w3.heap.size + 1) b k cap g p n c z X Y x0 lv i V wr)) (fun _ s _ => 5 - (intOf s).toNat)
  case atStart => exact ⟨0, x0, fun _ => 0, by omega, rfl, rfl, Int.le_refl _, hx0m, HRW⟩
  case round =>
    obtain ⟨i, lv, V, hi, rfl, rfl, hlv, hlv2, hrw⟩ := hrel
    clear HRW HRA HD3 HP HB1
    by_cases hi5 : i < 5
    · have hi' : (i : Int) < 5 := by omega
      have hq : ((5 : Int) - (i : Int) == 0) = false := by simp; omega
      have hdv := div_bd (x := xm - lv) (d := 5 - (i : Int)) (by omega) (by omega)
      have hin : ¬ (5 : Int) - (i : Int) = 0 := by omega
      go_wp2_with (go_at_call 17; refine (next_any g p n c z _ _ hrw.out.kp.dk (by omega)).mono ?_; rintro e w4 ⟨r5, rfl, r51, r52, hd4, hg4⟩; have hcf := hrw.out.arr.grown hg4 (by simp; omega) i hi5; have hc4 := hcf.1; have hf4 := hcf.2; clear hcf; have HRS := Lib.hid (hrw.out.step (lv + r5) (by omega) (by omega) hi5 hd4 hg4 (by omega) (by omega) (by omega) (by omega) (by omega) (by omega) (by omega) (by omega)); clear hrw hd4 hg4)
      go_roundw
      case rel => exact ⟨i + 1, lv + r5, _, by omega, rfl, by go_num, by omega, by omega, HRS⟩
      case measure => simp [intOf]; omega
    · obtain rfl : i = 5 := by omega
      have hx := hrw.out
      have a0 : wr.cell? ⟨w3.heap.size + 1, 0, none⟩ = some (.int .i64 (V 0)) := (hx.arr 0 (by omega)).1
      have a1 : wr.cell? ⟨w3.heap.size + 1, 1, none⟩ = some (.int .i64 (V 1)) := (hx.arr 1 (by omega)).1
      have a2 : wr.cell? ⟨w3.heap.size + 1, 2, none⟩ = some (.int .i64 (V 2)) := (hx.arr 2 (by omega)).1
      have a3 : wr.cell? ⟨w3.heap.size + 1, 3, none⟩ = some (.int .i64 (V 3)) := (hx.arr 3 (by omega)).1
      have a4 : wr.cell? ⟨w3.heap.size + 1, 4, none⟩ = some (.int .i64 (V 4)) := (hx.arr 4 (by omega)).1
      have c0 : wr.cell? ⟨w3.heap.size, 0, none⟩ = some (.slice (some ⟨b, 0, none⟩) k cap) := (hx.row 0 (by omega)).1
      have c1 : wr.cell? ⟨w3.heap.size, 1, none⟩ = some (.int .i64 0) := (hx.row 1 (by omega)).1
      have e1 := (hx.row 1 (by omega)).2
      have c2 : wr.cell? ⟨w3.heap.size, 2, none⟩ = some (.int .i64 0) := (hx.row 2 (by omega)).1
      have e2 := (hx.row 2 (by omega)).2
      have c3 : wr.cell? ⟨w3.heap.size, 3, none⟩ = some (.int .i64 0) := (hx.row 3 (by omega)).1
      have e3 := (hx.row 3 (by omega)).2
      have c4 : wr.cell? ⟨w3.heap.size, 4, none⟩ = some (.int .i64 0) := (hx.row 4 (by omega)).1
      have e4 := (hx.row 4 (by omega)).2
      have c5 : wr.cell? ⟨w3.heap.size, 5, none⟩ = some (.int .i64 0) := (hx.row 5 (by omega)).1
      have e5 := (hx.row 5 (by omega)).2
      have HRO := Lib.hid hx.row
      have HRE := Lib.hid hx.res
      have hra : w.heap.size < w3.heap.size := HSA
      have HKP := Lib.hid hx.kp
      have HLV : Hid (x0 ≤ V 0 ∧ V 0 ≤ V 1 ∧ V 1 ≤ V 2 ∧ V 2 ≤ V 3 ∧ V 3 ≤ V 4 ∧ V 4 ≤ xm) := ⟨(hx.low 0 (by omega)).1, hx.up 0 (by omega), hx.up 1 (by omega), hx.up 2 (by omega), hx.up 3 (by omega), by have := (hx.low 4 (by omega)).2; omega⟩
      clear hx hrw
      generalize V 0 = v0 at *
      generalize V 1 = v1 at *
      generalize V 2 = v2 at *
      generalize V 3 = v3 at *
      generalize V 4 = v4 at *
      go_wp2_with fail
      go_region
      obtain ⟨W, hW⟩ : ∃ W, W = (((((wr.setCell ⟨w3.heap.size, 1, none⟩ (.int .i64 v0)).setCell ⟨w3.heap.size, 2, none⟩ (.int .i64 v1)).setCell ⟨w3.heap.size, 3, none⟩ (.int .i64 v2)).setCell ⟨w3.heap.size, 4, none⟩ (.int .i64 v3)).setCell ⟨w3.heap.size, 5, none⟩ (.int .i64 v4)).drew := ⟨_, rfl⟩
      rw [← hW]
      obtain ⟨hkw, hre, c0', c1', c2', c3', c4', c5'⟩ := fill_facts HKP.out HRO.out HRE.out v0 v1 v2 v3 v4 (by omega) (by omega) (by omega) (by omega) hW
      have HKW := Lib.hid hkw
      have d0 : W.cell? ⟨w.heap.size, 0, none⟩ = some (.slice none 0 0) := (hre 0 (by omega)).1
      have d1 : W.cell? ⟨w.heap.size, 1, none⟩ = some (.int .i64 0) := (hre 1 (by omega)).1
      have d2 : W.cell? ⟨w.heap.size, 2, none⟩ = some (.int .i64 0) := (hre 2 (by omega)).1
      have d3 : W.cell? ⟨w.heap.size, 3, none⟩ = some (.int .i64 0) := (hre 3 (by omega)).1
      have d4 : W.cell? ⟨w.heap.size, 4, none⟩ = some (.int .i64 0) := (hre 4 (by omega)).1
      have d5 : W.cell? ⟨w.heap.size, 5, none⟩ = some (.int .i64 0) := (hre 5 (by omega)).1
      have g0 := (hre 0 (by omega)).2
      have g1 := (hre 1 (by omega)).2
      have g2 := (hre 2 (by omega)).2
      have g3 := (hre 3 (by omega)).2
      have g4 := (hre 4 (by omega)).2
      have g5 := (hre 5 (by omega)).2
      clear a0 a1 a2 a3 a4 c0 c1 c2 c3 c4 c5 e1 e2 e3 e4 e5 HKP HRO HRE hW hkw
      clear hc0 hcm
      have HRE2 := Lib.hid hre
      clear hre
      go_wp2
      obtain ⟨W', hW'⟩ : ∃ W', W' = (((((W.setCell ⟨w.heap.size, 0, none⟩ (.slice (some ⟨b, 0, none⟩) k cap)).setCell ⟨w.heap.size, 1, none⟩ (.int .i64 v0)).setCell ⟨w.heap.size, 2, none⟩ (.int .i64 v1)).setCell ⟨w.heap.size, 3, none⟩ (.int .i64 v2)).setCell ⟨w.heap.size, 4, none⟩ (.int .i64 v3)).setCell ⟨w.heap.size, 5, none⟩ (.int .i64 v4) := ⟨_, rfl⟩
      rw [← hW']
      obtain ⟨hkw, q0, q1, q2, q3, q4, q5⟩ := out_facts HKW.out HRE2.out v0 v1 v2 v3 v4 (by omega) (by omega) (by omega) hW'
      clear hW' HKW HRE2 c0' c1' c2' c3' c4' c5' d0 d1 d2 d3 d4 d5 g0 g1 g2 g3 g4 g5
      have hm := HM.out
      have hX0 := HX0.out
      have hXm := HXM.out
      have hlv := HLV.out
      have hkk := HK.out
      exact bodyPost_ret (v := .agg #[.slice (some ⟨b, 0, none⟩) k cap, .int .i64 v0, .int .i64 v1, .int .i64 v2, .int .i64 v3, .int .i64 v4]) (by simp [results, Try.results10, go_sem, q0, q1, q2, q3, q4, q5]) rfl
        ⟨b, cap, k, m, X, Y, v0, v1, v2, v3, v4, rfl, hkk, m4, by omega, hkw.pts, ⟨hm.base.cur (by omega) (by omega) m4 ⟨by omega, by omega⟩ ⟨by omega, by omega⟩, m1, by omega, hm.ris, by omega⟩, ⟨by omega, by omega, by omega, f4, f5, f6⟩, hkw.dk, hkw.gr⟩
end Go.Proofs.Ytdblppbjlgmccaa.Cu

/-
  The contract of turnedBehind: the points in the order in which they come behind a day.
-/
import Derived.Test.YtdblppbjlgmccaaRuChk
import Derived.Test.YtdblppbjlgmccaaCuCnt
import Derived.ArgAppend
import Derived.StillTailTactics
namespace Go.Proofs.Ytdblppbjlgmccaa.Ru
open Go.ChangeShapes Go.WideShapes Go.ChangeAt Go.RowKit
open Go.Proofs.Ytdblppbjlgmccaa.Cu
open Go.Shelf Go.Lib Go.Sort
set_option linter.unusedVariables false

theorem tclo_any (i B1 B2 b off n c : Nat) (X : Nat → Int) (x : Int) (w : World) (h1 : w.cell? ⟨B1, 0, none⟩ = some (.slice (some ⟨b, off, none⟩) n c)) (h2 : w.cell? ⟨B2, 0, none⟩ = some (.int .i64 x))
    (hi : w.cell? ⟨b, off + i * 2, none⟩ = some (.int .i64 (X i))) (li : i < n) :
    Calls Try.prog 53 #[.int .i64 i, .pointer (some ⟨B1, 0, none⟩), .pointer (some ⟨B2, 0, none⟩)] w fun e w' => e = .returned (.bool (decide (x < X i))) ∧ ∃ q, w' = w.drewN q := by
  have li' : (i : Int) < (n : Int) := by omega
  go_enter Try.func53, Try.ntmps53
  go_wp2
  go_quiet (fail)
  go_wp2
  go_ret
  exact ⟨rfl, _, rfl⟩

/-- How many of the n points are at or before day x. -/
def cnR (X : Nat → Int) (n : Nat) (x : Int) : Nat := cntX X n x
theorem cnR_facts {X Y : Nat → Int} {n : Nat} (h : Rc X Y n) (x : Int) : cnR X n x ≤ n ∧ (∀ t, t < cnR X n x → X t ≤ x) ∧ ∀ t, cnR X n x ≤ t → t < n → x < X t := by
  have f := cnt_facts (fun i => decide (x < X i)) n (fun a b hab hb => by
    simp only [decide_eq_true_eq]
    have := h.xle b a hab hb
    omega)
  refine ⟨f.1, fun t ht => ?_, fun t h1 h2 => ?_⟩
  · have := f.2.1 t ht; simp only [decide_eq_false_iff_not] at this; omega
  · have := f.2.2 t h1 h2; simpa using this

theorem srchR (B1 B2 b off n c : Nat) (X Y : Nat → Int) (x : Int) (W : World) (hr : Rc X Y n) (h1 : W.cell? ⟨B1, 0, none⟩ = some (.slice (some ⟨b, off, none⟩) n c)) (h2 : W.cell? ⟨B2, 0, none⟩ = some (.int .i64 x))
    (hi : ∀ i, i < n → W.cell? ⟨b, off + i * 2, none⟩ = some (.int .i64 (X i))) :
    Calls Try.prog 52 #[.int .i64 (n : Nat), .func (.func 53) #[] #[.pointer (some ⟨B1, 0, none⟩), .pointer (some ⟨B2, 0, none⟩)]] W fun e w' =>
      e = .returned (.int .i64 (cnR X n x : Nat)) ∧ Below W.heap.size W w' := by
  have eg : ∀ args w, (callFunc 53 args).run Try.prog w = .ok (.enter 53 args) w := enters_of Try.func53 (by kernel_rfl) rfl
  have l1 := World.block_lt_of_cell? _ _ h1
  have l2 := World.block_lt_of_cell? _ _ h2
  have hl := hr.len
  have hS := Any.sort_Search Try.searchL 53 #[.pointer (some ⟨B1, 0, none⟩), .pointer (some ⟨B2, 0, none⟩)] n (fun i => decide (x < X i)) W eg (by omega)
    (fun q os i hi' => (tclo_any i B1 B2 b off n c X x _ (cell_grown l1 h1 q os) (cell_grown l2 h2 q os) (cell_grown (World.block_lt_of_cell? _ _ (hi i hi')) (hi i hi') q os) hi').mono
      fun _ _ ⟨he, q', hq⟩ => ⟨he, q', #[], by rw [hq, grow_empty]⟩)
    (fun a b' hab hb hp => by
      simp only [decide_eq_true_eq] at hp ⊢
      have := hr.xle b' a hab hb
      omega)
  change Calls Try.prog 52 _ _ _ at hS
  exact hS.mono fun e w' ⟨he, q, os, hw⟩ => ⟨he, by rw [hw]; exact below_grown_sl _ W q os (Nat.le_refl _)⟩

/-- What the search leaves: the boxes, the points. -/
theorem srchRV (w : World) (b off n c : Nat) (X Y : Nat → Int) (x : Int) (hr : Rc X Y n) (hp : Pts w b off n X Y) :
    Calls Try.prog 52 #[.int .i64 (n : Nat), .func (.func 53) #[] #[.pointer (some ⟨w.heap.size, 0, none⟩), .pointer (some ⟨w.heap.size + 1, 0, none⟩)]] ((w.alloc (.cells #[.slice (some ⟨b, off, none⟩) n c] 22)).alloc (.cells #[.int .i64 x] 3)) fun e w' =>
      e = .returned (.int .i64 (cnR X n x : Nat)) ∧ w'.cell? ⟨w.heap.size, 0, none⟩ = some (.slice (some ⟨b, off, none⟩) n c) ∧ Hid (Pts w' b off n X Y) ∧ Hid (Below w.heap.size w w') := by
  refine (srchR w.heap.size (w.heap.size + 1) b off n c X Y x _ hr (by simp) (by simp) (fun i hi => (((hp.alloc _).alloc _).2 i hi).1)).mono ?_
  rintro e w' ⟨rfl, h⟩
  exact ⟨rfl, (h.cell (p := ⟨w.heap.size, 0, none⟩) (by simp; omega)).trans (by simp), ((hp.alloc _).alloc _).up h (Nat.le_refl _), (((Below.refl w.heap.size w).alloc (Nat.le_refl _) _).alloc (by simp) _).trans (h.mono (by simp; omega))⟩

/-- The cells of points, as a list reads them. -/
theorem pts_newsO {w : World} {b off k : Nat} {X Y : Nat → Int} (h : Pts w b off k X Y) : ∀ j u, (ptL X Y k)[j]? = some u → w.cell? ((⟨b, off, none⟩ : Addr).add j) = some u := by
  intro j u hj
  have hlt : j < k * 2 := by
    have h1 := List.getElem?_eq_some_iff.1 hj
    obtain ⟨h2, _⟩ := h1
    rwa [ptL_len] at h2
  obtain ⟨i, hi⟩ : ∃ i, j = i * 2 ∨ j = i * 2 + 1 := ⟨j / 2, by omega⟩
  have hik : i < k := by omega
  obtain ⟨h1, h2⟩ := h.2 i hik
  obtain ⟨e1, e2⟩ := ptL_get X Y k i hik
  rw [add_plain]
  rcases hi with rfl | rfl
  · rw [hj] at e1; rw [e1]; exact h1
  · rw [hj] at e2; rw [e2, ← Nat.add_assoc]; exact h2

/-- What turnedBehind returns: the points from the first behind the day on, and then those before. -/
def TuP (X Y : Nat → Int) (n k : Nat) (w : World) (e : Ending) (w' : World) : Prop :=
  ∃ (b2 o2 c2 : Nat) (X2 Y2 : Nat → Int), e = .returned (.slice (some ⟨b2, o2, none⟩) n c2) ∧ Pts w' b2 o2 n X2 Y2 ∧ (∀ i, i < n → X2 i = X ((k + i) % n) ∧ Y2 i = Y ((k + i) % n)) ∧ Below w.heap.size w w'

set_option maxHeartbeats 1000000 in
theorem tur_zero (b off n c : Nat) (X Y : Nat → Int) (x : Int) (w : World) (hr : Rc X Y n) (hp : Pts w b off n X Y) (hnc : n ≤ c) (hk : cnR X n x = 0) :
    Calls Try.prog 40 #[.slice (some ⟨b, off, none⟩) n c, .int .i64 x] w (TuP X Y n 0 w) := by
  obtain ⟨i0, hi, hz0, hz1, hz2⟩ := info_parts Try.infoP
  have HS := Lib.hid (srchRV w b off n c X Y x hr hp)
  rw [hk] at HS
  have hn1 := hr.pos
  have hn2 := hr.len
  have n1 : (1 : Int) ≤ (n : Int) := by omega
  have n2 : (n : Int) ≤ (c : Int) := by omega
  have n3 : (0 : Int) ≤ (c : Int) := by omega
  have n4 : ¬ n = 0 := by omega
  clear hp hr hk
  go_enter Try.func40, Try.ntmps40
  go_wp2_with (go_at_call 52; refine HS.out.mono ?_; rintro e w2 ⟨rfl, c1, HP, HB⟩)
  clear HS
  refine wp_region_still_tail 10 (by kernel_rfl) (by kernel_rfl) ?_
  change wpStill _ _ w2.drew (fun a' => wpList _ _ _ _ a' w2.drew) _ _
  have d1 : w2.drew.cell? ⟨w.heap.size, 0, none⟩ = some (.slice (some ⟨b, off, none⟩) n c) := c1
  have HP3 : Hid (Pts w2.drew b off n X Y) := HP
  have HB3 : Hid (Below w.heap.size w w2.drew) := below_drewN HB.out 1
  clear HP HB c1
  generalize w2.drew = w3 at *
  simp only [List.take_succ_cons, List.take_zero, List.drop_succ_cons, List.drop_zero]
  repeat still_step
  refine wpStill_nil ?_
  go_wp2_with (at_builtin; refine wpList_append_arg _ rfl _ _ 22 rfl 45 i0 (.agg #[.int .i64 0, .int .i64 0]) 2 16 Try.underlying22 hi hz0 hz1 hz2 rfl (by decide) b off n n (ptL X Y n) rfl (ptL_len X Y n) (fun j u hj => by have := pts_newsO HP3.out j u hj; rwa [add_plain] at this) ⟨b, off, none⟩ 0 c [] rfl rfl (fun j u hj => by simp at hj) (fun u hu => by cases hu) (fun _ j hj => absurd hj (Nat.not_lt_zero _)) (by unfold maxLen; omega) (by omega) ?c1 ?c2)
  go_ret
  exact ⟨b, off, n, X, Y, rfl, HP3.out, fun i hi => by rw [Nat.zero_add, Nat.mod_eq_of_lt hi]; exact ⟨rfl, rfl⟩, HB3.out⟩

theorem ptL_oneR (X Y : Nat → Int) : ∀ k, ∀ u ∈ ptL X Y k, u.oneCell' = true
  | 0, u, hu => by simp [ptL] at hu
  | k + 1, u, hu => by
    unfold ptL at hu
    rw [List.mem_append] at hu
    rcases hu with hu | hu
    · exact ptL_oneR X Y k u hu
    · simp at hu; rcases hu with rfl | rfl <;> rfl
theorem ptL_app (A B C D : Nat → Int) (p : Nat) : ∀ q, ptL A B p ++ ptL C D q = ptL (fun i => if i < p then A i else C (i - p)) (fun i => if i < p then B i else D (i - p)) (p + q)
  | 0 => by
    show ptL A B p ++ [] = _
    rw [List.append_nil]
    exact ptL_congr _ _ _ _ p (fun i hi => ⟨(if_pos hi).symm, (if_pos hi).symm⟩)
  | q + 1 => by
    show ptL A B p ++ (ptL C D q ++ [.int .i64 (C q), .int .i64 (D q)]) = _
    rw [← List.append_assoc, ptL_app A B C D p q]
    show _ = ptL _ _ (p + q) ++ [.int .i64 (if p + q < p then A (p + q) else C (p + q - p)), .int .i64 (if p + q < p then B (p + q) else D (p + q - p))]
    rw [if_neg (by omega), if_neg (by omega), show p + q - p = q by omega]
/-- What append laid, as turned points. -/
theorem tur_own {X Y : Nat → Int} {n k : Nat} {w w3 w4 : World} {v' : Value} (hk : k ≤ n) (hn : 1 ≤ n) (hown : w4.ownsRow w3.heap.size 45 2 v' (n - k + k) (ptL (fun i => X (k + i)) (fun i => Y (k + i)) (n - k) ++ ptL X Y k)) (hg : w3.grownBy w4 none) (hb : Below w.heap.size w w3) : TuP X Y n k w (.returned v') w4 := by
  rw [ptL_app, show n - k + k = n by omega] at hown
  have hG : GotP w4 w3.heap.size v' n _ _ := hown
  obtain ⟨g, cap, rfl, h1, h2, h3, _⟩ := gotP_pts hG (by omega)
  refine ⟨g, 0, cap, _, _, rfl, h2, fun i hi => ?_, hb.grown hg hb.size (by intro j hj; cases hj)⟩
  by_cases c : i < n - k
  · rw [if_pos c, if_pos c, Nat.mod_eq_of_lt (by omega)]; exact ⟨rfl, rfl⟩
  · rw [if_neg c, if_neg c, show k + i = i - (n - k) + n by omega, Nat.add_mod_right, Nat.mod_eq_of_lt (by omega)]; exact ⟨rfl, rfl⟩

set_option maxHeartbeats 1000000 in
theorem tur_all (b off n c : Nat) (X Y : Nat → Int) (x : Int) (w : World) (hr : Rc X Y n) (hp : Pts w b off n X Y) (hnc : n ≤ c) (hk : cnR X n x = n) :
    Calls Try.prog 40 #[.slice (some ⟨b, off, none⟩) n c, .int .i64 x] w (TuP X Y n n w) := by
  obtain ⟨i0, hi, hz0, hz1, hz2⟩ := info_parts Try.infoP
  have HS := Lib.hid (srchRV w b off n c X Y x hr hp)
  rw [hk] at HS
  have hn1 := hr.pos
  have hn2 := hr.len
  have n1 : (1 : Int) ≤ (n : Int) := by omega
  have n2 : (n : Int) ≤ (c : Int) := by omega
  have n3 : (0 : Int) ≤ (c : Int) := by omega
  have n4 : ¬ n = 0 := by omega
  clear hp hr hk
  go_enter Try.func40, Try.ntmps40
  go_wp2_with (go_at_call 52; refine HS.out.mono ?_; rintro e w2 ⟨rfl, c1, HP, HB⟩)
  clear HS
  refine wp_region_still_tail 10 (by kernel_rfl) (by kernel_rfl) ?_
  change wpStill _ _ w2.drew (fun a' => wpList _ _ _ _ a' w2.drew) _ _
  have d1 : w2.drew.cell? ⟨w.heap.size, 0, none⟩ = some (.slice (some ⟨b, off, none⟩) n c) := c1
  have HP3 : Hid (Pts w2.drew b off n X Y) := HP
  have HB3 : Hid (Below w.heap.size w w2.drew) := below_drewN HB.out 1
  clear HP HB c1
  generalize w2.drew = w3 at *
  simp only [List.take_succ_cons, List.take_zero, List.drop_succ_cons, List.drop_zero]
  repeat still_step
  refine wpStill_nil ?_
  go_wp2_with (at_builtin; refine wpList_append_arg _ rfl _ _ 22 rfl 45 i0 (.agg #[.int .i64 0, .int .i64 0]) 2 16 Try.underlying22 hi hz0 hz1 hz2 rfl (by decide) b off 0 0 [] rfl rfl (fun j u hj => by simp at hj) ⟨b, off, none⟩ n c (ptL X Y n) rfl (ptL_len X Y n) (pts_newsO HP3.out) (ptL_oneR X Y n) (fun h => absurd h (by omega)) (by unfold maxLen; omega) (by omega) (fun h => absurd h (by omega)) ?c2)
  intro _ v' w4 hown hgrow
  have HT := Lib.hid (tur_own (X := X) (Y := Y) (k := n) (w := w) (v' := v') (w3 := w3) (w4 := w4) (Nat.le_refl n) hn1 (by rw [Nat.sub_self, Nat.zero_add]; exact hown) hgrow HB3.out)
  clear hown hgrow HB3 HP3
  go_wp2
  go_ret
  exact HT.out

set_option maxHeartbeats 1000000 in
theorem tur_mid (b off n c k : Nat) (X Y : Nat → Int) (x : Int) (w : World) (hr : Rc X Y n) (hp : Pts w b off n X Y) (hnc : n ≤ c) (hk : cnR X n x = k) (hk0 : 1 ≤ k) (hkn : k < n) :
    Calls Try.prog 40 #[.slice (some ⟨b, off, none⟩) n c, .int .i64 x] w (TuP X Y n k w) := by
  obtain ⟨i0, hi, hz0, hz1, hz2⟩ := info_parts Try.infoP
  have HS := Lib.hid (srchRV w b off n c X Y x hr hp)
  rw [hk] at HS
  have hn1 := hr.pos
  have hn2 := hr.len
  have n1 : (1 : Int) ≤ (n : Int) := by omega
  have n2 : (n : Int) ≤ (c : Int) := by omega
  have n3 : (0 : Int) ≤ (c : Int) := by omega
  have n4 : ¬ n = 0 := by omega
  have n5 : ¬ n = k := by omega
  have n6 : (k : Int) ≤ (n : Int) := by omega
  have n7 : (k : Int) ≤ (c : Int) := by omega
  have n8 : ¬ c = 0 := by omega
  clear hp hr hk
  go_enter Try.func40, Try.ntmps40
  go_wp2_with (go_at_call 52; refine HS.out.mono ?_; rintro e w2 ⟨rfl, c1, HP, HB⟩)
  clear HS
  refine wp_region_still_tail 10 (by kernel_rfl) (by kernel_rfl) ?_
  change wpStill _ _ w2.drew (fun a' => wpList _ _ _ _ a' w2.drew) _ _
  have d1 : w2.drew.cell? ⟨w.heap.size, 0, none⟩ = some (.slice (some ⟨b, off, none⟩) n c) := c1
  have HP3 : Hid (Pts w2.drew b off n X Y) := HP
  have HB3 : Hid (Below w.heap.size w w2.drew) := below_drewN HB.out 1
  clear HP HB c1
  generalize w2.drew = w3 at *
  simp only [List.take_succ_cons, List.take_zero, List.drop_succ_cons, List.drop_zero]
  repeat still_step
  refine wpStill_nil ?_
  have HPk : Hid (Pts w3 b (off + k * 2) (n - k) (fun i => X (k + i)) (fun i => Y (k + i))) := ⟨HP3.out.1, fun i hi => by
    have h := HP3.out.2 (k + i) (by omega)
    rw [show off + k * 2 + i * 2 = off + (k + i) * 2 by omega]
    exact h⟩
  go_wp2_with (at_builtin; refine wpList_append_arg _ rfl _ _ 22 rfl 45 i0 (.agg #[.int .i64 0, .int .i64 0]) 2 16 Try.underlying22 hi hz0 hz1 hz2 rfl (by decide) b (off + k * 2) (n - k) (n - k) (ptL (fun i => X (k + i)) (fun i => Y (k + i)) (n - k)) rfl (ptL_len _ _ _) (fun j u hj => by have := pts_newsO HPk.out j u hj; rwa [add_plain] at this) ⟨b, off, none⟩ k c (ptL X Y k) rfl (ptL_len X Y k) (pts_newsO (k := k) ⟨HP3.out.1, fun i hi => HP3.out.2 i (by omega)⟩) (ptL_oneR X Y k) (fun h => absurd h (by omega)) (by unfold maxLen; omega) (by omega) (fun h => absurd h (by omega)) ?c2)
  intro _ v' w4 hown hgrow
  have HT := Lib.hid (tur_own (X := X) (Y := Y) (k := k) (w := w) (v' := v') (w3 := w3) (w4 := w4) (by omega) hn1 hown hgrow HB3.out)
  clear hown hgrow HB3 HP3
  go_wp2
  go_ret
  exact HT.out

theorem tur_any (b off n c : Nat) (X Y : Nat → Int) (x : Int) (w : World) (hr : Rc X Y n) (hp : Pts w b off n X Y) (hnc : n ≤ c) :
    Calls Try.prog 40 #[.slice (some ⟨b, off, none⟩) n c, .int .i64 x] w (TuP X Y n (cnR X n x) w) := by
  have h := (cnR_facts hr x).1
  by_cases h0 : cnR X n x = 0
  · rw [h0]; exact tur_zero b off n c X Y x w hr hp hnc h0
  by_cases h1 : cnR X n x = n
  · rw [h1]; exact tur_all b off n c X Y x w hr hp hnc h1
  exact tur_mid b off n c _ X Y x w hr hp hnc rfl (by omega) (by omega)
end Go.Proofs.Ytdblppbjlgmccaa.Ru

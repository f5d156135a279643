/-
  The contract of Smooth of package inflow: its range over the groups.
-/
import Derived.Test.YtbcjigociliflaaIfSmo
namespace Go.Proofs.Ytbcjigociliflaa.If
open Go.ChangeShapes Go.WideShapes Go.ChangeAt Go.RowKit Go.Shelf
open Go.Proofs.Ytbcjigociliflaa.Qu (sumZ sumZ_congr Rd)
set_option linter.unusedVariables false
attribute [local go_sem] Oper.semAt_some

set_option maxRecDepth 100000 in
set_option maxHeartbeats 1000000 in
theorem smo_ok (p : Option Addr) (n c w : Nat) (z : Nat → Int) (W : World) (hw : 1 ≤ w ∧ w ≤ 4096) (hn : n ≤ 4096) (hz : ∀ i, i < n → -274877906944 ≤ z i ∧ z i ≤ 274877906944) (hr : Rd W p n z) :
    Calls Try.prog 20 #[.slice p n c, .int .i64 (w : Int)] W (LcP 0 n (sm z n w) W) := by
  have H1 := Lib.hid (fun X => bt_any 1 (w : Int) 4096 X)
  rw [btB_yes (by omega)] at H1
  have H2 := Lib.hid (fun X (hX : X = W) => (show X = W from hX) ▸ ab_any (-274877906944) 274877906944 p n c z W (by omega) hr)
  rw [allW_of hz] at H2
  have H3 := Lib.hid (fun X (hX : X = W) => (show X = W from hX) ▸ clone_any p n c z W hn hr)
  have HZ := Lib.hid hz
  clear hr hz
  refine (callsIn_wide (n := 6)).1 ?_
  refine callsIn_of_wp_marks Try.func20 rfl trivial ?_ rfl
  simp only [Try.ntmps20, List.size_toArray, List.length_cons, List.length_nil, Nat.reduceAdd, Nat.reduceSub, Array.replicate_succ, Array.replicate_zero, List.push_toArray, List.append_toArray, List.nil_append, List.cons_append]
  gi_wp2_with (first
    | (refine ⟨trivial, ?_⟩; gi_at_call 28; refine (callsIn_wide.2 (H1.out _)).mono ?_; rintro e w' ⟨rfl, rfl⟩)
    | (refine ⟨trivial, ?_⟩; gi_at_call 26; refine (callsIn_wide.2 (H2.out _ rfl)).mono ?_; rintro e w' ⟨rfl, rfl⟩)
    | (refine ⟨trivial, ?_⟩; gi_at_call 30; refine (callsIn_wide.2 (H3.out _ rfl)).mono ?_; rintro e w1 ⟨p1, cap, rfl, hp1, hc1, hc2, hb1⟩; have HP1 := Lib.hid hp1; have HB1 := Lib.hid hb1; clear hp1 hb1)
    | (refine ⟨trivial, ?_⟩; gi_at_call 31; refine (callsIn_wide.2 (groups_any _ _ _ _ _)).mono ?_; rintro e w2 ⟨rfl, hw2⟩))
  have hsz1 : W.heap.size ≤ w1.heap.size := HB1.out.size
  have c1 : w2.cell? ⟨w1.heap.size, 0, none⟩ = some (.slice p1 n cap) := by rw [hw2]; exact ((Below.refl (w1.heap.size + 1) (w1.alloc (.cells #[.slice p1 n cap] 22))).alloc (by simp) _ |>.cell (p := ⟨w1.heap.size, 0, none⟩) (Nat.lt_succ_self _)).trans (by simp)
  have c2 : w2.cell? ⟨w1.heap.size + 1, 0, none⟩ = some (.int .i64 (w : Int)) := by rw [hw2, ← World.size_alloc w1 (.cells #[.slice p1 n cap] 22)]; simp
  have hb2 : Below w1.heap.size w1 w2 := by rw [hw2]; exact ((Below.refl _ w1).alloc (Nat.le_refl _) _).alloc (by simp) _
  have hsz2 : w2.heap.size = w1.heap.size + 1 + 1 := by rw [hw2]; simp
  have hB2 : Below W.heap.size W w2 := HB1.out.trans (hb2.mono hsz1)
  obtain ⟨g, hg⟩ : ∃ g, 0 < n → p1 = some ⟨g, 0, none⟩ ∧ W.heap.size ≤ g ∧ g < w1.heap.size ∧ Qu.Own w2 g n z := by
    by_cases h : 0 < n
    · obtain ⟨g, e, hg, ho⟩ := HP1.out h
      exact ⟨g, fun _ => ⟨e, hg, ho.1, ho.below hb2 ho.1⟩⟩
    · exact ⟨0, fun h' => absurd h' h⟩
  rw [← hw2]
  clear HP1 HB1 H1 H2 H3 hw2
  refine wpIn_rangeFunc_ownF rfl (by omega) (gf := 37) (lb := #[.pointer (some ⟨w1.heap.size, 0, none⟩), .pointer (some ⟨w1.heap.size + 1, 0, none⟩)]) rfl trivial (enters_of Try.func37 (by kernel_rfl) rfl)
    (grp_stops Fence.wide _ trivial rfl (by omega) w1.heap.size (w1.heap.size + 1) g n cap w p1 (fun h => (hg h).1) hw hn hc1 hc2 w2 (by omega) (by omega) c1 c2) (fun h k => h.trans k)
    (fun X l o o' hl ho hc _ => ⟨fun v hv => cell_kept hv (grownBy_putObj' X l o') (fun r e => by cases e; exact ⟨o, ho, hc⟩), fun v hv => cell_kept hv (grownBy_putObj' X l o') (fun r e => by cases e; exact ⟨o, ho, hc⟩)⟩)
    (Below.refl _ _) (fun _ => rfl)
    (fun pre X => (0 < n → ∃ s, Qu.Own X g n s ∧ (∀ i, i < n → -274877906944 ≤ s i ∧ s i ≤ 274877906944) ∧ (pre.map (fun x => x.1) = List.range pre.length → ∀ i, i < n → s i = part z n w pre.length i)) ∧ Below W.heap.size W X)
    (fun _ _ _ => False)
    (OwnFrom.and (fun pre X X' row hs hgr hr h => by
      obtain ⟨s, ho, hbd, hv⟩ := hs h
      have hne : some g ≠ row := fun e => by have := (hr g e.symm).1; have := (hg h).2.2.1; omega
      exact ⟨s, ⟨Nat.lt_of_lt_of_le ho.1 hgr.size, fun i hi => ⟨hgr.cell (ho.cell hi) hne, (World.frozen?_of_block (w := X) (a := ⟨g, i, none⟩) (hgr.block g ho.1 hne)).trans (ho.free hi)⟩⟩, hbd, hv⟩) (ownFrom_below (Nat.le_refl _) (by omega)))
    (fun _ _ _ _ _ hs _ _ => hs)
    ⟨fun h => ⟨z, (hg h).2.2.2, HZ.out, fun _ i _ => (part_zero z n w i).symm⟩, hB2⟩
    (fun x => { tmps := #[.slice p n c, .int .i64 (w : Int), undef, undef, .slice none 0 0, .int .i64 0,
          .slice p1 n cap, grpS g n cap w (x.1 * w), .int .i64 (w : Int), .bool true, .bool false, .bool false,
          .slice p n c, .bool true, .bool false, .bool false, .slice p n c,
          .int .i64 (n : Int), .bool (decide (4096 < (n : Int))), .slice p n c, .slice p1 n cap,
          .slice p1 n cap, .int .i64 (w : Int),
          .func (.func 37) #[] #[.pointer (some ⟨w1.heap.size, 0, none⟩), .pointer (some ⟨w1.heap.size + 1, 0, none⟩)],
          grpS g n cap w (x.1 * w), undef, undef, undef], defers := [] }) ?assign ?body ?done ?stop
  case assign =>
    intro l x X K hK
    gi_wp2
    exact hK
  case body =>
    rintro l pre x X ⟨hi, hB⟩ _
    have hx := x.2
    have h0 : 0 < n := by omega
    obtain ⟨s, ho, hbd, hv⟩ := hi h0
    obtain ⟨_, hg1, hg2, _⟩ := hg h0
    have hgl1 : 1 ≤ gl w n (x.1 * w) := by unfold gl; omega
    have hgl2 : x.1 * w + gl w n (x.1 * w) ≤ n := by unfold gl; omega
    have HL := Lib.hid (lo_any g n (x.1 * w) (gl w n (x.1 * w)) (cap - x.1 * w) s X hn hgl1 hgl2 hbd ho)
    unfold grpS
    gi_wp2_with (refine ⟨trivial, ?_⟩; gi_at_call 32; refine (CallsIn.inRound l (callsIn_wide.2 HL.out)).mono ?_; rintro e w' ⟨⟨v, rfl⟩, ho', ht⟩)
    have hne1 : some w1.heap.size ≠ some g := fun e => by cases e; omega
    have hne2 : some (w1.heap.size + 1) ≠ some g := fun e => by cases e; omega
    refine ⟨ht.others, ⟨fun v hv => ht.grown.cell hv hne1, fun v hv => ht.grown.cell hv hne2⟩, fun _ => ⟨_, ho', fun i hi => lvl_bd s _ _ n i hgl1 hgl2 hi hbd, fun hr i hi => ?_⟩, hB.grown ht.grown (by have := hB.size; omega) (fun k e => by cases e; omega)⟩
    rw [List.map_append, List.length_append, List.length_singleton, List.range_succ] at hr
    obtain ⟨h1, h2⟩ := List.append_inj hr (by simp)
    have h3 : x.1 = pre.length := by simpa using h2
    rw [List.length_append, List.length_singleton]
    rw [h3] at hx ⊢
    exact part_next z s n w pre.length i hw.1 hx hi (hv h1)
  case done =>
    rintro D ys X hD ⟨G, hys, hG⟩ ⟨hi, hB⟩ hK
    gi_wp2
    refine ⟨by simp, .inl ⟨_, _, rfl, run_takeDeferred hK, ?_⟩⟩
    have hlen : ys.length = G := by rw [← List.length_map (f := fun x : Grp n w => x.1), hys, List.length_range]
    refine ⟨_, results_tmp2 rfl _ _ _, _, _, rfl, fun h => ?_, hB.trans (belowK_b (w := W) (Nat.le_refl _) X D _ _ (by omega) hK rfl rfl)⟩
    obtain ⟨e, hg1, hg2, _⟩ := hg h
    obtain ⟨s, ho, _, hv⟩ := hi h
    rw [hlen] at hv
    have hv2 := hv hys
    subst e
    refine ⟨g, 0, rfl, ?_, fun i hi => ?_⟩
    · exact Nat.lt_of_lt_of_le ho.1 (grownBy_putObj' X D (.deferred none)).size
    · rw [Nat.zero_add, ← part_all z n w G i hi hG, ← hv2 i hi]
      exact cell_kept (ho.cell hi) (grownBy_putObj' X D (.deferred none)) (fun r e => by cases e; exact ⟨_, hK, rfl⟩)
  case stop =>
    rintro D c pre W _ _ h _
    exact h.elim

/-- Smooth, whatever the list (at most 4096 numbers) and the width. -/
theorem smo_any (p : Option Addr) (n c : Nat) (z : Nat → Int) (w : Int) (W : World) (hn : n ≤ 4096) (hr : Rd W p n z) :
    Calls Try.prog 20 #[.slice p n c, .int .i64 w] W (SmP z n w W) := by
  cases h1 : btB 1 w 4096 with
  | false => exact smo_err p n c z w W hn hr (.inl h1)
  | true =>
    cases h2 : allW (-274877906944) 274877906944 z n with
    | false => exact smo_err p n c z w W hn hr (.inr h2)
    | true =>
      have hw := btB_iff.1 h1
      obtain ⟨k, rfl⟩ : ∃ k : Nat, w = (k : Int) := ⟨w.toNat, by omega⟩
      unfold SmP
      rw [(smC_ok h1 h2).1, (smC_ok h1 h2).2, Int.toNat_natCast]
      exact smo_ok p n c k z W (by omega) hn (allW_all h2) hr
end Go.Proofs.Ytbcjigociliflaa.If

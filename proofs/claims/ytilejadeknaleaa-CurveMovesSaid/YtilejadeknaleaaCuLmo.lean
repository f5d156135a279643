/-
  The walk of the law CurveMoves.
-/
import Derived.Test.YtilejadeknaleaaCuLri
namespace Go.Proofs.Ytilejadeknaleaa.Cu
open Go.ChangeShapes Go.WideShapes Go.ChangeAt Go.RowKit
set_option linter.unusedVariables false

def mvF (X : Nat → Int) (r : Int) (i : Nat) : Int := X i + r
theorem mv_cur {X Y : Nat → Int} {m : Nat} {r u : Int} (h : Cur X Y m) (hx : ∀ i, i ≤ m → X i ≤ 10000 ∧ Y i ≤ 10000) (hr : 0 ≤ r ∧ r ≤ 50) (hu : 0 ≤ u ∧ u ≤ 50) : Cur (mvF X r) (mvF Y u) m where
  len := h.len
  xlo := fun i hi => by have := h.xlo i hi; unfold mvF; omega
  xhi := fun i hi => by have := hx i hi; unfold mvF; omega
  ylo := fun i hi => by have := h.ylo i hi; unfold mvF; omega
  yhi := fun i hi => by have := hx i hi; unfold mvF; omega
  asc := fun i hi => by have := h.asc i hi; unfold mvF; omega
  prod := fun i hi => by
    have := h.prod i hi
    unfold mvF
    rw [show X (i + 1) + r - (X i + r) = X (i + 1) - X i by omega, show Y (i + 1) + u - (Y i + u) = Y (i + 1) - Y i by omega]
    exact this
theorem mv_fiB (Y : Nat → Int) (m : Nat) (u y : Int) : fiB (mvF Y u) m (y + u) = fiB Y m y := by
  unfold fiB mvF
  by_cases h : Y m < y
  · rw [decide_eq_true h, decide_eq_true (show Y m + u < y + u by omega)]
  · rw [decide_eq_false h, decide_eq_false (show ¬ Y m + u < y + u by omega)]
theorem mv_fiV (X Y : Nat → Int) (m : Nat) (r u y : Int) (h : fiB Y m y = true) : fiV (mvF X r) (mvF Y u) m (y + u) = fiV X Y m y + r := by
  unfold fiB at h
  have hy : ¬ Y m < y := by simpa using h
  unfold fiV
  rw [if_neg (show ¬ mvF Y u m < y + u by unfold mvF; omega), if_neg hy]
  exact fst_moved X Y r u m y
theorem mv_val (X Y : Nat → Int) (m : Nat) (r u x : Int) : val (mvF X r) (mvF Y u) m (x + r) = val X Y m x + u := val_moved X Y r u m x

/-- What the law looks at behind the loop, by names. -/
structure Mo (w4 : World) (b cap g capm k : Nat) (v r u a p q : Int) (ok : Bool) : Prop where
  A : ∀ W, Hid (Below w4.heap.size w4 W) → Calls Try.prog 17 #[.slice (some ⟨b, 0, none⟩) k cap, .int .i64 v] W fun e w' => e = .returned (.tuple #[.int .i64 a, .int .i64 0]) ∧ Hid (Below w4.heap.size w4 w')
  B : ∀ W, Hid (Below w4.heap.size w4 W) → Calls Try.prog 17 #[.slice (some ⟨g, 0, none⟩) k capm, .int .i64 (v + r)] W fun e w' => e = .returned (.tuple #[.int .i64 (a + u), .int .i64 0]) ∧ Hid (Below w4.heap.size w4 w')
  F : ∀ W, Hid (Below w4.heap.size w4 W) → Calls Try.prog 18 #[.slice (some ⟨b, 0, none⟩) k cap, .int .i64 v] W fun e w' => e = .returned (.tuple #[.int .i64 p, .bool ok, .int .i64 0]) ∧ Hid (Below w4.heap.size w4 w')
  G : ∀ W, Hid (Below w4.heap.size w4 W) → Calls Try.prog 18 #[.slice (some ⟨g, 0, none⟩) k capm, .int .i64 (v + u)] W fun e w' => e = .returned (.tuple #[.int .i64 q, .bool ok, .int .i64 0]) ∧ Hid (Below w4.heap.size w4 w')
theorem mo_pack {w4 : World} {b k m cap g capm : Nat} {X Y : Nat → Int} {r u : Int} (hk : k = m + 1) (hp : Pts w4 b 0 k X Y) (hc : Cur X Y m) (hp2 : Pts w4 g 0 k (mvF X r) (mvF Y u)) (hc2 : Cur (mvF X r) (mvF Y u) m) (v : Int) (hy : ∀ i, i ≤ m → Y i ≤ 10000) :
    ∃ a p q ok, Hid (Mo w4 b cap g capm k v r u a p q ok) ∧ (0 ≤ a ∧ a ≤ 10000) ∧ (0 ≤ p ∧ p ≤ 1073741824) ∧ ((ok = true ∧ q = p + r) ∨ ok = false) := by
  refine ⟨val X Y m v, fiV X Y m v, fiV (mvF X r) (mvF Y u) m (v + u), fiB Y m v, ⟨at_later hk hp hc v, ?_, first_later hk hp hc v, ?_⟩, ?_, ?_, ?_⟩
  · have h := at_later (c := capm) hk hp2 hc2 (v + r)
    rwa [mv_val] at h
  · have h := first_later (c := capm) hk hp2 hc2 (v + u)
    rwa [mv_fiB] at h
  · have h1 := val_bd X Y m hc.asc v
    have h2 := hc.ylo 0 (Nat.zero_le _)
    have h3 := hy m (Nat.le_refl _)
    omega
  · have hf := fi_facts hc v
    have a1 := hc.xlo 0 (Nat.zero_le _)
    have a2 := hc.xhi m (Nat.le_refl _)
    omega
  · cases h : fiB Y m v with
    | true => exact .inl ⟨rfl, mv_fiV X Y m r u v h⟩
    | false => exact .inr rfl

set_option maxRecDepth 100000 in
set_option maxHeartbeats 16000000 in
theorem lmo_walk (p : Option Addr) (n c : Nat) (z : Nat → Int) (x rt up : Int) (w : World) (hr : RdI w p n z) (hn : n ≤ 9223372036854775807) (hz : ∀ i, -9223372036854775808 ≤ z i ∧ z i ≤ 9223372036854775807)
    (h1 : -9223372036854775808 ≤ x ∧ x ≤ 9223372036854775807) (h2 : -9223372036854775808 ≤ rt ∧ rt ≤ 9223372036854775807) (h3 : -9223372036854775808 ≤ up ∧ up ≤ 9223372036854775807) :
    Calls Try.prog 7 #[.slice p n c, .int .i64 x, .int .i64 rt, .int .i64 up] w fun e w' => e = .returned (.bool true) ∧ Below w.heap.size w w' := by
  obtain ⟨i0, hi, hz0, hz1, hz2⟩ := info_parts Try.infoP
  have HN := Lib.hid (new_any p n c z w hn hz hr)
  have HM1 := Lib.hid (fun W => mod_any rt 50 W h2 (by omega) (by omega))
  have HM2 := Lib.hid (fun W => mod_any up 50 W h3 (by omega) (by omega))
  have HM3 := Lib.hid (fun W => mod_any x 150 W h1 (by omega) (by omega))
  have v1 := md_lo x 150 (by omega)
  have v2 := md_hi x 150 (by omega)
  have s1 := md_lo rt 50 (by omega)
  have s2 := md_hi rt 50 (by omega)
  have t1 := md_lo up 50 (by omega)
  have t2 := md_hi up 50 (by omega)
  clear hr hz hn h1 h2 h3
  generalize md x 150 = v at *
  generalize md rt 50 = r at *
  generalize md up 50 = u at *
  go_enter Try.func7, Try.ntmps7
  go_wp2_with (first
    | (go_at_call 8; refine HN.out.mono ?_; rintro e w1 ⟨rfl, hd1, hb1⟩)
    | (go_at_call 15; first | (refine (next_any w.heap.size p n c z _ _ hd1 (by omega)).mono ?_; rintro e w2 ⟨r1, rfl, r11, r12, hd2, hg2⟩) | (refine (next_any w.heap.size p n c z _ _ hd2 (by omega)).mono ?_; rintro e w3 ⟨r2, rfl, r21, r22, hd3, hg3⟩))
    | (go_at_call 14; refine (curve_any w.heap.size p n c z r1 r2 30 40 false _ hd3 (by omega) (by omega) (by omega) (by omega)).mono ?_; intro e w4 hcv; obtain ⟨b, cap, k, m, X, Y, rfl, m1, m4, hk, hwb, hpt, hcur, hbd, hd4, hg4⟩ := cv_open hcv (by omega) (by omega) (by omega) (by omega); have HK := Lib.hid hk; have hk1 : (k : Int) - 1 = (m : Int) := (by omega); have HPT := Lib.hid hpt; have HCU := Lib.hid hcur; have HBD := Lib.hid hbd; have HBL : Hid (Below w.heap.size w w4) := (hb1.grown (grown_trans (grown_trans hg2 hg3) hg4) hb1.size (by intro k hk; cases hk; exact Nat.le_refl _)); clear hcv hk hpt hcur hbd hd4 hg4 hg2 hg3 hd1 hd2 hd3)
    | (go_at_call 16; first | (go_at_call_has 16 (Value.int .i64 rt); refine (HM1.out _).mono ?_; rintro e w' ⟨rfl, rfl⟩) | (go_at_call_has 16 (Value.int .i64 up); refine (HM2.out _).mono ?_; rintro e w' ⟨rfl, rfl⟩) | (go_at_call_has 16 (Value.int .i64 x); refine (HM3.out _).mono ?_; rintro e w' ⟨rfl, rfl⟩)))
  clear HN HM1 HM2 HM3 hb1
  have HXB : Hid (∀ i, i ≤ m → (0 ≤ X i ∧ X i ≤ 10000) ∧ 0 ≤ Y i ∧ Y i ≤ 10000) := fun i hi => by have := HBD.out i hi; omega
  clear HBD
  have hkl : k ≤ 5 := by omega
  go_loopw [14, 43] (fun v i wr => ∃ (j : Nat) (V : Value), V = v ∧ j ≤ k ∧ i = .int .i64 j ∧ Hid (GotP wr w4.heap.size V j (mvF X r) (mvF Y u)) ∧ Hid (Below w4.heap.size w4 wr)) (fun _ i _ => k - (intOf i).toNat)
  case atStart => exact ⟨0, _, rfl, Nat.zero_le _, rfl, gotP_nil _ _ _ _, Below.refl _ _⟩
  case round =>
    obtain ⟨j, V, rfl, hjk, rfl, hgot, hbel⟩ := hrel
    have hws := hbel.out.size
    by_cases hj : j < k
    · have hxb := HXB.out j (by omega)
      obtain ⟨c1, c2⟩ := (HPT.out.up hbel.out (Nat.le_refl _)).2 j hj
      rw [Nat.zero_add] at c1 c2
      have HX : Hid (X j = X j) := rfl
      have hjk' : (j : Int) < (k : Int) := by omega
      generalize hxj : X j = xj at *
      generalize hyj : Y j = yj at *
      have HXJ := Lib.hid hxj
      have HYJ := Lib.hid hyj
      obtain ⟨⟨x1, x2⟩, y1, y2⟩ := hxb
      clear hxj hyj HX
      go_wp2_with (at_builtin; refine wpList_append_own _ rfl _ _ 22 rfl w4.heap.size 43 i0 (.agg #[.int .i64 0, .int .i64 0]) 2 16 Try.underlying22 hi hz0 hz1 hz2 rfl (by decide) _ j _ rfl ((hgot.out.alloc _).alloc _) ⟨wr.heap.size + 1, 0, none⟩ 1 1 [.int .i64 (xj + r), .int .i64 (yj + u)] rfl rfl ?c1 ?c2 ?c3 ?c4 ?c5 ?_)
      case c1 =>
        have h := cell_two (wr.alloc (.cells #[.int .i64 xj, .int .i64 yj] 43)) (.int .i64 (xj + r)) (.int .i64 (yj + u)) 43
        rw [World.size_alloc] at h
        exact h
      case c2 => intro u hu; simp at hu; rcases hu with rfl | rfl <;> rfl
      case c3 => unfold maxLen; omega
      case c4 => omega
      case c5 => simp; omega
      intro v' w3 hown' hgrow hnil
      have HG' : Hid (GotP w3 w4.heap.size v' (j + 1) (mvF X r) (mvF Y u)) := by
        unfold GotP ptL mvF
        rw [HXJ.out, HYJ.out]
        exact hown'
      have HB' := Lib.hid (((hbel.out.alloc hws _).alloc (by simp; omega) _).grown hgrow (by simp; omega) (fun k hk => gotP_block hgot.out k hk))
      clear hown' hgrow hnil hgot hbel c1 c2
      go_wp2
      go_roundw
      case rel => exact ⟨j + 1, _, rfl, by omega, by go_num, HG', HB'⟩
      case measure => simp [intOf]; omega
    · have hjk2 : k = j := by omega
      have HK2 := Lib.hid (hjk2 ▸ HK.out : j = m + 1)
      have HPT2 := Lib.hid ((hjk2 ▸ HPT.out : Pts w4 b 0 j X Y).up hbel.out (Nat.le_refl _))
      obtain ⟨g, capm, rfl, hg, hpm, _, _⟩ := gotP_pts hgot.out (by omega)
      obtain ⟨a, pp, q, ok, HMO, ⟨ha1, ha2⟩, ⟨hp1, hp2⟩, hcase⟩ := mo_pack (cap := cap) (capm := capm) HK2.out HPT2.out HCU.out hpm (mv_cur HCU.out (fun i hi => by have := HXB.out i hi; omega) ⟨s1, by omega⟩ ⟨t1, by omega⟩) v (fun i hi => (HXB.out i hi).2.2)
      have HFin : Hid (∀ W, Hid (Below wr.heap.size wr W) → Below w.heap.size w W) := fun W h => (HBL.out.trans (hbel.out.mono HBL.out.size)).trans (h.out.mono (Nat.le_trans HBL.out.size hbel.out.size))
      have hb5 : Hid (Below wr.heap.size wr wr) := Below.refl _ _
      clear HK HPT HXB HCU HK2 HPT2 hpm hgot hbel HBL
      subst hjk2
      have k1 : (a + u == a + u) = true := by simp
      rcases hcase with ⟨rfl, rfl⟩ | rfl
      all_goals
        go_wp2_with (first
          | (go_at_call 17; first
            | (go_at_call_has 17 (Value.int .i64 v); refine (HMO.out.A _ (by assumption)).mono ?_; rintro e w5 ⟨rfl, hb5⟩)
            | (go_at_call_has 17 (Value.int .i64 (v + r)); refine (HMO.out.B _ (by assumption)).mono ?_; rintro e w5 ⟨rfl, hb5⟩))
          | (go_at_call 18; first
            | (go_at_call_has 18 (Value.int .i64 v); refine (HMO.out.F _ (by assumption)).mono ?_; rintro e w5 ⟨rfl, hb5⟩)
            | (go_at_call_has 18 (Value.int .i64 (v + u)); refine (HMO.out.G _ (by assumption)).mono ?_; rintro e w5 ⟨rfl, hb5⟩))
          | (go_at_call 13; refine (awake_later _ (by assumption)).mono ?_; rintro e w5 ⟨rfl, hb5⟩))
        go_ret
        exact ⟨rfl, HFin.out _ hb5⟩
end Go.Proofs.Ytilejadeknaleaa.Cu

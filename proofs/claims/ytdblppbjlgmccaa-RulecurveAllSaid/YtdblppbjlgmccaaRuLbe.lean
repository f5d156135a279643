/-
  The walk of the law RulecurveBetween.
-/
import Derived.Test.YtdblppbjlgmccaaRuLhe
import Derived.Deep.RegionHeld3
namespace Go.Proofs.Ytdblppbjlgmccaa.Ru
open Go.ChangeShapes Go.WideShapes Go.ChangeAt Go.RowKit
open Go.Proofs.Ytdblppbjlgmccaa.Cu
open Go.Proofs.Ytdblppbjlgmccaa.Ca (dayB)
set_option linter.unusedVariables false

/-- The least and the greatest level of the first k points, or of the first one. -/
structure Mm (Y : Nat → Int) (n k : Nat) (lv mv : Int) : Prop where
  lo : ∀ i, i < k → lv ≤ Y i
  hi : ∀ i, i < k → Y i ≤ mv
  at_ : ∃ i, i < n ∧ mv = Y i
  al : ∃ i, i < n ∧ lv = Y i
theorem Mm.next {Y : Nat → Int} {n k : Nat} {lv mv : Int} (h : Mm Y n k lv mv) (hk : k < n) : Mm Y n (k + 1) (min lv (Y k)) (max mv (Y k)) where
  lo := fun i hi => by
    by_cases e : i = k
    · subst e; omega
    · have := h.lo i (by omega); omega
  hi := fun i hi => by
    by_cases e : i = k
    · subst e; omega
    · have := h.hi i (by omega); omega
  at_ := by
    by_cases c : mv ≤ Y k
    · exact ⟨k, hk, by omega⟩
    · obtain ⟨i, h1, h2⟩ := h.at_
      exact ⟨i, h1, by omega⟩
  al := by
    by_cases c : Y k ≤ lv
    · exact ⟨k, hk, by omega⟩
    · obtain ⟨i, h1, h2⟩ := h.al
      exact ⟨i, h1, by omega⟩
theorem Mm.top {X Y : Nat → Int} {n : Nat} {lv mv f h : Int} (hr : Rc X Y n) (m : Mm Y n n lv mv) (t : Top X Y n f h) : h = mv := by
  obtain ⟨i, h1, h2⟩ := m.at_
  have a := t.ge (X i) (hr.xlo i h1) (hr.xhi i h1)
  rw [rl_pt hr i h1] at a
  have b := rl_le hr mv m.hi f t.lo t.hi
  rw [t.eq] at b
  omega
/-- At of a valid curve at any later world: what is there stays. -/
theorem at_now {w5 : World} {b n : Nat} {X Y : Nat → Int} (hp : Pts w5 b 0 n X Y) (c : Nat) (hnc : n ≤ c) (hr : Rc X Y n) (d : Int) (h0 : 0 ≤ d) (h1 : d ≤ 364) :
    ∀ W, Hid (Below w5.heap.size w5 W) → Calls Try.prog 18 #[.slice (some ⟨b, 0, none⟩) n c, .int .i64 d] W fun e w' => e = .returned (.tuple #[.int .i64 (rl X Y n d), .int .i64 0]) ∧ Below W.heap.size W w' := by
  intro W hb
  have h := rat_pkg (some ⟨b, 0, none⟩) n c X Y d W (fun _ => ⟨b, 0, rfl, hp.up hb.out (Nat.le_refl _)⟩) hnc
  rw [(at_valid hr d h0 h1).1, (at_valid hr d h0 h1).2] at h
  exact h
/-- Highest of a valid curve at any later world. -/
theorem high_later {w5 : World} {b n : Nat} {X Y : Nat → Int} (hp : Pts w5 b 0 n X Y) (c : Nat) (hnc : n ≤ c) (hr : Rc X Y n) :
    ∀ W, Hid (Below w5.heap.size w5 W) → Calls Try.prog 14 #[.slice (some ⟨b, 0, none⟩) n c] W fun e w' => (∃ f h : Int, e = .returned (.tuple #[.int .i64 f, .int .i64 h, .int .i64 0]) ∧ Hid (Top X Y n f h)) ∧ Hid (Below w5.heap.size w5 w') := by
  intro W hb
  refine (high_pkg (some ⟨b, 0, none⟩) n c X Y W (fun _ => ⟨b, 0, rfl, hp.up hb.out (Nat.le_refl _)⟩) hnc).mono ?_
  rintro e w' ⟨f, h, rfl, ht, hb'⟩
  have h0 := (rc_iff X Y n).2 hr
  rcases ht with ⟨_, ht⟩ | ⟨h1, _⟩
  · exact ⟨⟨f, h, by rw [h0], ht⟩, hb.out.trans (hb'.mono hb.out.size)⟩
  · exact absurd h0 h1

set_option maxRecDepth 100000 in
set_option maxHeartbeats 16000000 in
theorem lbe_walk (p : Option Addr) (n c : Nat) (z : Nat → Int) (x : Int) (w : World) (hr : RdI w p n z) (hn : n ≤ 9223372036854775807) (hz : ∀ i, -9223372036854775808 ≤ z i ∧ z i ≤ 9223372036854775807)
    (hx : -9223372036854775808 ≤ x ∧ x ≤ 9223372036854775807) :
    Calls Try.prog 4 #[.slice p n c, .int .i64 x] w fun e w' => e = .returned (.bool true) ∧ Below w.heap.size w w' := by
  have HN := Lib.hid (new_any p n c z w hn hz hr)
  have HM1 := Lib.hid (fun W => mod_any x 365 W hx (by omega) (by omega))
  have v1 := md_lo x 365 (by omega)
  have v2 := md_hi x 365 (by omega)
  clear hr hz hn hx
  generalize md x 365 = s at *
  go_enter Try.func4, Try.ntmps4
  go_upto_region 3 with (first
    | (go_at_call 9; refine HN.out.mono ?_; rintro e w1 ⟨rfl, hd1, hb1⟩; have HB1 := Lib.hid hb1; clear HN hb1)
    | (go_at_call 11; refine (made_any w.heap.size p n c z _ hd1).mono ?_; rintro e w3 ⟨g2, q2, c2, X, Y, rfl, hp3, hqc, hg2w, q1, q6, hd3, hg3⟩; have HP3 := Lib.hid hp3; have HW3 : Hid (Below w.heap.size w w3) := (HB1.out.grown hg3 HB1.out.size (by intro k hk; cases hk; exact Nat.le_refl _)); clear hp3 hg3 hd3 HB1 hd1))
  have hb3 : Hid (Below w3.heap.size w3 w3) := Below.refl _ _
  have HFin : Hid (∀ W, Hid (Below w3.heap.size w3 W) → Below w.heap.size w W) := fun W h => HW3.out.trans (h.out.mono HW3.out.size)
  have HCK := Lib.hid (rck_later HP3.out c2)
  by_cases hck : ckR X Y q2 = 0
  · have HR := Lib.hid ((rc_iff X Y q2).1 hck)
    rw [hck] at HCK
    clear hck HW3
    have hq0 : (0 : Int) < (q2 : Int) := by omega
    have hq1 : (1 : Int) ≤ (c2 : Int) := by omega
    have HC0 : Hid (∀ W, Hid (Below w3.heap.size w3 W) → W.cell? ⟨g2, 1, none⟩ = some (.int .i64 (Y 0))) := fun W hW => by
      have := ((HP3.out.up hW.out (Nat.le_refl _)).2 0 (by omega)).2
      simpa using this
    have HMM : Hid (Mm Y q2 0 (Y 0) (Y 0)) := ⟨fun i hi => absurd hi (Nat.not_lt_zero _), fun i hi => absurd hi (Nat.not_lt_zero _), ⟨0, by omega, rfl⟩, ⟨0, by omega, rfl⟩⟩
    generalize hy0 : Y 0 = y0 at HC0 HMM
    have HY0 := Lib.hid hy0
    clear hy0
    go_upto_region 5 with (go_at_call 13; refine (HCK.out _ (by assumption)).mono ?_; rintro e w6 ⟨rfl, hb6⟩; have c0 := HC0.out _ hb6)
    clear HCK hb3
    go_quiet (fail)
    go_wp2_with fail
    clear c0
    go_loopw [7, 8, 40] (fun a b i wr => ∃ (k : Nat) (lv mv : Int), k ≤ q2 ∧ a = .int .i64 lv ∧ b = .int .i64 mv ∧ i = .int .i64 k ∧ Hid (Mm Y q2 k lv mv) ∧ Hid (Below w3.heap.size w3 wr)) (fun _ _ i _ => q2 - (intOf i).toNat)
    case atStart => exact ⟨0, y0, y0, Nat.zero_le _, rfl, rfl, rfl, HMM, below_drewN hb6.out _⟩
    case round =>
      obtain ⟨k, lv, mv, hk, rfl, rfl, rfl, hmm, hb⟩ := hrel
      clear hb6 HMM
      by_cases hkn : k < q2
      · have HPr := Lib.hid (HP3.out.up hb.out (Nat.le_refl _))
        obtain ⟨c1, c2'⟩ := HPr.out.2 k hkn
        rw [Nat.zero_add] at c1 c2'
        have hbl := HPr.out.1
        have x0 := HR.out.xlo k hkn
        have x1 := HR.out.xhi k hkn
        have hws := hb.out.size
        have HNX := Lib.hid (hmm.out.next hkn)
        have HAT := at_now HP3.out c2 hqc HR.out (X k) x0 x1
        rw [rl_pt HR.out k hkn] at HAT
        have HA := Lib.hid HAT
        have HB2 : Hid (∀ o, Hid (Below w3.heap.size w3 ((wr.alloc o).drew))) := fun o => below_drewN (hb.out.alloc hws o) 1
        clear HPr HAT
        generalize X k = xk at *
        generalize Y k = yk at *
        go_wp2_with fail
        go_region
        have bb : (yk != yk) = false := by simp
        generalize min lv yk = lv' at *
        generalize max mv yk = mv' at *
        go_wp2_with (go_at_call 18; refine (HA.out _ (HB2.out _)).mono ?_; rintro e w7 ⟨rfl, hb7⟩; have c5 : w7.cell? ⟨wr.heap.size, 1, none⟩ = some (.int .i64 yk) := (hb7.cell (p := ⟨wr.heap.size, 1, none⟩) (by simp)).trans (by simp); have HB7 : Hid (Below w3.heap.size w3 w7) := (HB2.out _).out.trans (hb7.mono (HB2.out _).out.size); clear hb7)
        go_roundw
        case rel => exact ⟨k + 1, lv', mv', by omega, rfl, rfl, by go_num, HNX, HB7⟩
        case measure => simp [intOf]; omega
      · obtain rfl : q2 = k := by omega
        have HA := Lib.hid (at_later HP3.out c2 hqc HR.out s v1 (by omega))
        have HO := Lib.hid (at_later (w5 := w3) (b := g2) (n := 1) ⟨HP3.out.1, fun i hi => HP3.out.2 i (by omega)⟩ c2 (by omega) HR.out.one s v1 (by omega))
        rw [rl_one X Y HR.out.one s v1 (by omega), HY0.out] at HO
        have HH := Lib.hid (high_later HP3.out c2 hqc HR.out)
        have HAT : Hid (∀ f, 0 ≤ f → f ≤ 364 → ∀ W, Hid (Below w3.heap.size w3 W) → Calls Try.prog 18 #[.slice (some ⟨g2, 0, none⟩) q2 c2, .int .i64 f] W fun e w' => e = .returned (.tuple #[.int .i64 (rl X Y q2 f), .int .i64 0]) ∧ Hid (Below w3.heap.size w3 w')) := fun f f0 f1 => at_later HP3.out c2 hqc HR.out f f0 f1
        have l0 := rl_ge HR.out lv hmm.out.lo s v1 (by omega)
        have l1 := rl_le HR.out mv hmm.out.hi s v1 (by omega)
        have HTP := Lib.hid (fun f h (ht : Top X Y q2 f h) => hmm.out.top HR.out ht)
        generalize rl X Y q2 s = yv at *
        have d1 : decide (lv ≤ yv) = true := by rw [decide_eq_true_eq]; exact l0
        have d2 : decide (yv ≤ mv) = true := by rw [decide_eq_true_eq]; exact l1
        have d3 : (y0 == y0) = true := by rw [beq_iff_eq]
        have d4 : (mv == mv) = true := by rw [beq_iff_eq]
        have HMM2 := hmm
        clear hmm
        go_upto_region 15 with (first
          | (go_at_call 16; refine (HM1.out _).mono ?_; rintro e w' ⟨rfl, rfl⟩)
          | (go_at_call 18; refine (HA.out _ hb).mono ?_; rintro e w7 ⟨rfl, hb7⟩; clear HA))
        clear hb
        go_region_held3 (fun W => Hid (Below w3.heap.size w3 W)) (first | assumption | exact below_drewN hb7.out 1)
          (first
            | (go_at_call 16; refine (HM1.out _).mono ?_; rintro e w' ⟨rfl, rfl⟩)
            | (go_at_call 18; refine (HO.out _ (by first | assumption | exact below_drewN hb7.out 1)).mono ?_; rintro e w8 ⟨rfl, hb8⟩))
        go_wp2_with (first
          | (go_at_call 14; refine (HH.out _ hb8).mono ?_; rintro e w9 ⟨⟨f, h, rfl, ht⟩, hb9⟩; have hh := (HTP.out f h ht.out).symm; subst hh; have f0 := ht.out.lo; have f1 := ht.out.hi; have HAf := HAT.out f f0 f1; rw [ht.out.eq] at HAf; have HAF := Lib.hid HAf; clear HAf HAT HTP ht)
          | (go_at_call 18; refine (HAF.out _ hb9).mono ?_; rintro e w10 ⟨rfl, hb10⟩; have c0 := HC0.out _ hb10)
          | (go_at_call 8; refine (awk5_later _ hb10).mono ?_; rintro e w11 ⟨rfl, hb11⟩))
        go_ret
        exact ⟨rfl, HFin.out _ hb11⟩
  · have hcn : (ckR X Y q2 != 0) = true := by simpa using hck
    generalize ckR X Y q2 = cd at *
    clear hck
    go_wp2_with (first
      | (go_at_call 13; refine (HCK.out _ (by assumption)).mono ?_; rintro e w6 ⟨rfl, hb6⟩)
      | (go_at_call 8; refine (awk5_later _ (by assumption)).mono ?_; rintro e w6 ⟨rfl, hb5⟩))
    go_ret
    exact ⟨rfl, HFin.out _ hb5⟩
end Go.Proofs.Ytdblppbjlgmccaa.Ru

/-
  The contract of Series of the reference of chapter 6.
-/
import Derived.Test.YtlelcooomfcbaaaDoorGpLst
import Derived.Test.YtlelcooomfcbaaaDoorGgRead
import Derived.Test.YtlelcooomfcbaaaDoorGgDec
namespace Go.Proofs.YtlelcooomfcbaaaDoor.Gg
open Go.ChangeShapes Go.WideShapes Go.ChangeAt Go.RowKit
open Go.Proofs.YtlelcooomfcbaaaDoor.Ca (inB inB_yes inB_no rin_any)
set_option linter.unusedVariables false

theorem inB_out {x m : Int} (h : inB x m = false) : ¬ (0 ≤ x ∧ x ≤ m) := fun h2 => by rw [inB_yes h2] at h; cases h
set_option maxRecDepth 100000 in
set_option maxHeartbeats 4000000 in
theorem rser_bad (p : Option Addr) (n cap : Nat) (R : Nat → Nat → Int) (g f c : Int) (w : World) (hp : RdR w p n R) (hn : n ≤ 1000000000) (hbad : seE R n g f c ≠ 0) :
    Calls Tryd.prog 29 #[.slice p n cap, .int .i64 g, .int .i64 f, .int .i64 c] w (SeP w R n g f c) := by
  obtain ⟨x, hx⟩ : ∃ x, seE R n g f c = x := ⟨_, rfl⟩
  rw [hx] at hbad
  have HX := Lib.hid hx
  have HXn := Lib.hid hbad
  have HG := Lib.hid (fun W => rin_any g 255 W)
  have HC := Lib.hid (fun W => rin_any c 4096 W)
  have HF := Lib.hid (fun W => rin_any f 16777216 W)
  have HA := Lib.hid (gall_any p n cap R w hp (by omega))
  have HE : Hid (x = if inB g 255 = false ∨ inB c 4096 = false then 1 else if inB f 16777216 = false ∨ inB (f + c) 16777216 = false then 6 else alG R n) := hx.symm
  clear hx hp
  cases h1 : inB g 255 with
  | false =>
    rw [h1] at HG HE
    rw [if_pos (.inl rfl)] at HE
    clear h1
    go_enter Tryd.func29, Tryd.ntmps29
    go_wp2_with (first | (go_at_call_has 42 (Value.int .i64 255); refine (HG.out _).mono ?_; rintro e w' ⟨rfl, rfl⟩))
    go_ret2
    exact SeP.bad (by rw [HX.out, HE.out]) (by omega) (Below.refl _ _)
  | true =>
    rw [h1] at HG HE
    clear h1
    cases h2 : inB c 4096 with
    | false =>
      rw [h2] at HC HE
      rw [if_pos (.inr rfl)] at HE
      clear h2
      go_enter Tryd.func29, Tryd.ntmps29
      go_wp2_with (first | (go_at_call_has 42 (Value.int .i64 255); refine (HG.out _).mono ?_; rintro e w' ⟨rfl, rfl⟩) | (go_at_call_has 42 (Value.int .i64 4096); refine (HC.out _).mono ?_; rintro e w' ⟨rfl, rfl⟩))
      go_ret2
      exact SeP.bad (by rw [HX.out, HE.out]) (by omega) (Below.refl _ _)
    | true =>
      have c01 : 0 ≤ c ∧ c ≤ 4096 := inB_iff.1 h2
      rw [h2] at HC HE
      rw [if_neg (by simp)] at HE
      clear h2
      obtain ⟨c0, c1⟩ := c01
      cases h3 : inB f 16777216 with
      | false =>
        rw [h3] at HF HE
        rw [if_pos (.inl rfl)] at HE
        clear h3
        go_enter Tryd.func29, Tryd.ntmps29
        go_wp2_with (first | (go_at_call_has 42 (Value.int .i64 255); refine (HG.out _).mono ?_; rintro e w' ⟨rfl, rfl⟩) | (go_at_call_has 42 (Value.int .i64 4096); refine (HC.out _).mono ?_; rintro e w' ⟨rfl, rfl⟩) | (go_at_call_has 42 (Value.int .i64 16777216); refine (HF.out _).mono ?_; rintro e w' ⟨rfl, rfl⟩))
        go_ret2
        exact SeP.bad (by rw [HX.out, HE.out]) (by omega) (Below.refl _ _)
      | true =>
        have f01 : 0 ≤ f ∧ f ≤ 16777216 := inB_iff.1 h3
        rw [h3] at HF HE
        clear h3
        obtain ⟨f0, f1⟩ := f01
        cases h4 : inB (f + c) 16777216 with
        | false =>
          have hfc : 16777216 < f + c := by have := inB_out h4; omega
          rw [h4] at HE
          rw [if_pos (.inr rfl)] at HE
          clear h4
          go_enter Tryd.func29, Tryd.ntmps29
          go_wp2_with (first | (go_at_call_has 42 (Value.int .i64 255); refine (HG.out _).mono ?_; rintro e w' ⟨rfl, rfl⟩) | (go_at_call_has 42 (Value.int .i64 4096); refine (HC.out _).mono ?_; rintro e w' ⟨rfl, rfl⟩) | (go_at_call_has 42 (Value.int .i64 16777216); refine (HF.out _).mono ?_; rintro e w' ⟨rfl, rfl⟩))
          go_ret2
          exact SeP.bad (by rw [HX.out, HE.out]) (by omega) (Below.refl _ _)
        | true =>
          have hfc : ¬ 16777216 < f + c := by have := inB_iff.1 h4; omega
          rw [h4] at HE
          rw [if_neg (by simp)] at HE
          clear h4
          have HN : Hid (alG R n ≠ 0) := by show alG R n ≠ 0; rw [← HE.out]; exact HXn.out
          obtain ⟨cd, hcd⟩ : ∃ cd, alG R n = cd := ⟨_, rfl⟩
          rw [hcd] at HA HE HN
          have hcn : (cd != 0) = true := by simpa using HN.out
          clear hcd
          go_enter Tryd.func29, Tryd.ntmps29
          go_wp2_with (first | (go_at_call_has 42 (Value.int .i64 255); refine (HG.out _).mono ?_; rintro e w' ⟨rfl, rfl⟩) | (go_at_call_has 42 (Value.int .i64 4096); refine (HC.out _).mono ?_; rintro e w' ⟨rfl, rfl⟩) | (go_at_call_has 42 (Value.int .i64 16777216); refine (HF.out _).mono ?_; rintro e w' ⟨rfl, rfl⟩) | (go_at_call 32; refine HA.out.mono ?_; rintro e w1 ⟨rfl, hb1⟩))
          go_ret2
          exact SeP.bad (by rw [HX.out, HE.out]) HN.out (hb1)

theorem serG_next (R : Nat → Nat → Int) (q : Nat) (g u : Int) : serG R (q + 1) g u = if R q 0 = g ∧ R q 1 = u then R q else serG R q g u := by
  rw [serG_va, serG_va]
  show ((if R q 0 = g ∧ R q 1 = u then some (R q) else vaL R g u q)).getD _ = _
  by_cases h : R q 0 = g ∧ R q 1 = u
  · rw [if_pos h, if_pos h]; rfl
  · rw [if_neg h, if_neg h]
/-- The reading that is built: block kb of a world behind wa. -/
structure Xb (wa : World) (kb : Nat) (y0 y1 y2 y3 : Int) (W : World) : Prop where
  c0 : W.cell? ⟨kb, 0, none⟩ = some (.int .i64 y0)
  c1 : W.cell? ⟨kb, 1, none⟩ = some (.int .i64 y1)
  c2 : W.cell? ⟨kb, 2, none⟩ = some (.int .i64 y2)
  c3 : W.cell? ⟨kb, 3, none⟩ = some (.int .i64 y3)
  fz : ∀ j, W.frozen? ⟨kb, j, none⟩ = false
  bel : Below kb wa W
  lt : kb < W.heap.size
theorem xb_oth {W : World} {b i j : Nat} {u v : Value} (hne : i ≠ j) (h : W.cell? ⟨b, j, none⟩ = some v) : (W.setCell ⟨b, i, none⟩ u).cell? ⟨b, j, none⟩ = some v :=
  (World.cell?_setCell_other _ _ _ _ (by intro e; simp only [Addr.mk.injEq] at e; exact hne e.2.1)).trans h
theorem Xb.up {wa : World} {kb : Nat} {y0 y1 y2 y3 : Int} {W W' : World} (h : Xb wa kb y0 y1 y2 y3 W) (hb : Below W.heap.size W W') : Xb wa kb y0 y1 y2 y3 W' :=
  have hl := h.lt
  { c0 := (hb.cell (p := ⟨_, 0, none⟩) hl).trans h.c0, c1 := (hb.cell (p := ⟨_, 1, none⟩) hl).trans h.c1, c2 := (hb.cell (p := ⟨_, 2, none⟩) hl).trans h.c2, c3 := (hb.cell (p := ⟨_, 3, none⟩) hl).trans h.c3
    fz := fun j => (hb.frozen (p := ⟨_, j, none⟩) hl).trans (h.fz j)
    bel := h.bel.trans (hb.mono (Nat.le_of_lt hl)), lt := Nat.lt_of_lt_of_le hl hb.size }
theorem Xb.alloc {wa : World} {kb : Nat} {y0 y1 y2 y3 : Int} {W : World} (h : Xb wa kb y0 y1 y2 y3 W) (o : Obj) : Xb wa kb y0 y1 y2 y3 (W.alloc o) := h.up ((Below.refl _ _).alloc (Nat.le_refl _) o)
theorem Xb.set {wa : World} {kb : Nat} {y0 y1 y2 y3 : Int} {W : World} (h : Xb wa kb y0 y1 y2 y3 W) (x0 x1 x2 x3 : Int) :
    Xb wa kb x0 x1 x2 x3 ((((W.setCell ⟨kb, 0, none⟩ (.int .i64 x0)).setCell ⟨kb, 1, none⟩ (.int .i64 x1)).setCell ⟨kb, 2, none⟩ (.int .i64 x2)).setCell ⟨kb, 3, none⟩ (.int .i64 x3)) :=
  { c0 := xb_oth (by omega) (xb_oth (by omega) (xb_oth (by omega) (World.cell?_setCell_same _ _ _ h.c0)))
    c1 := xb_oth (by omega) (xb_oth (by omega) (World.cell?_setCell_same _ _ _ (xb_oth (by omega) h.c1)))
    c2 := xb_oth (by omega) (World.cell?_setCell_same _ _ _ (xb_oth (by omega) (xb_oth (by omega) h.c2)))
    c3 := World.cell?_setCell_same _ _ _ (xb_oth (by omega) (xb_oth (by omega) (xb_oth (by omega) h.c3)))
    fz := fun j => by simpa using h.fz j
    bel := (((h.bel.setCell (p := ⟨kb, 0, none⟩) (Nat.le_refl _) _).setCell (p := ⟨kb, 1, none⟩) (Nat.le_refl _) _).setCell (p := ⟨kb, 2, none⟩) (Nat.le_refl _) _).setCell (p := ⟨kb, 3, none⟩) (Nat.le_refl _) _
    lt := by simpa using h.lt }
theorem Xb.start (wa : World) (y0 y1 y2 y3 : Int) (t : TypeId) : Xb wa wa.heap.size y0 y1 y2 y3 (wa.alloc (.cells #[.int .i64 y0, .int .i64 y1, .int .i64 y2, .int .i64 y3] t)) :=
  { c0 := by simp, c1 := by simp, c2 := by simp, c3 := by simp, fz := fun j => by simp, bel := (Below.refl _ _).alloc (Nat.le_refl _) _, lt := by simp }

set_option maxRecDepth 100000 in
set_option maxHeartbeats 4000000 in
theorem rser_good (p : Option Addr) (n cap : Nat) (R : Nat → Nat → Int) (g f : Int) (cn : Nat) (w : World) (hp : RdR w p n R) (hn : n ≤ 1000000000) (h1 : inB g 255 = true) (h2 : inB (cn : Int) 4096 = true) (h3 : inB f 16777216 = true) (h4 : inB (f + cn) 16777216 = true) (h5 : alG R n = 0) :
    Calls Tryd.prog 29 #[.slice p n cap, .int .i64 g, .int .i64 f, .int .i64 cn] w (SeP w R n g f cn) := by
  obtain ⟨i0, hi, hz0, hz1, hz2⟩ := info_parts Tryd.infoR
  have HE : Hid (seE R n g f cn = 0) := by
    show seE R n g f cn = 0
    unfold seE
    rw [h1, h2, h3, h4, h5]
    rfl
  have HNN : Hid (seN R n g f cn = cn) := by
    show seN R n g f cn = cn
    unfold seN
    rw [HE.out]
    simp
  have HG := Lib.hid (fun W => rin_any g 255 W)
  have HC := Lib.hid (fun W => rin_any (cn : Int) 4096 W)
  have HF := Lib.hid (fun W => rin_any f 16777216 W)
  have HA := Lib.hid (gall_any p n cap R w hp (by omega))
  rw [h1] at HG
  rw [h2] at HC
  rw [h3] at HF
  rw [h5] at HA
  have HP := Lib.hid hp
  obtain ⟨g0, g1⟩ := inB_iff.1 h1
  obtain ⟨c0, c1⟩ := inB_iff.1 h2
  obtain ⟨f0, f1⟩ := inB_iff.1 h3
  obtain ⟨fc0, fc1⟩ := inB_iff.1 h4
  have hfc : ¬ 16777216 < f + (cn : Int) := by omega
  clear h1 h2 h3 h4 h5 hp
  go_enter Tryd.func29, Tryd.ntmps29
  go_wp2_with (first | (go_at_call_has 42 (Value.int .i64 255); refine (HG.out _).mono ?_; rintro e w' ⟨rfl, rfl⟩) | (go_at_call_has 42 (Value.int .i64 4096); refine (HC.out _).mono ?_; rintro e w' ⟨rfl, rfl⟩) | (go_at_call_has 42 (Value.int .i64 16777216); refine (HF.out _).mono ?_; rintro e w' ⟨rfl, rfl⟩) | (go_at_call 32; refine HA.out.mono ?_; rintro e w1 ⟨rfl, hb1⟩; have HB1 := Lib.hid hb1; clear hb1 HA))
  go_loopw [11, 39] (fun v i wr => ∃ (k : Nat) (V : Value), V = v ∧ k ≤ cn ∧ i = .int .i64 k ∧ Hid (GotR wr w.heap.size v k (seR R n g f)) ∧ Hid (Below w.heap.size w wr)) (fun _ i _ => cn - (intOf i).toNat)
  case atStart => exact ⟨0, _, rfl, Nat.zero_le _, rfl, gotR_nil _ _ _, HB1.out⟩
  case round =>
    obtain ⟨k, v, rfl, hk, rfl, hgot, hb⟩ := hrel
    obtain ⟨wa, rfl⟩ : ∃ wa, wa = wr := ⟨_, rfl⟩
    by_cases hkn : k < cn
    · have hki : (k : Int) < (cn : Int) := by omega
      have hki2 : (k : Int) ≤ 4096 := by omega
      have hwk : IntKind.i64.wrap (f + k) = f + k := by rw [IntKind.wrap_i64]; omega
      have hbs := hb.out.size
      have hgk : ∀ j, v.ownBlock = some j → j < wa.heap.size := fun j hj => (World.ownsRow.lt hgot.out j hj).2
      have HGK := Lib.hid hgk
      clear hgk
      go_wp2
      go_loopw [49] (fun i wq => ∃ (q : Nat) (y0 y1 y2 y3 : Int), q ≤ n ∧ i = .int .i64 q ∧ Hid (∀ j, j < 4 → serG R q g (f + k) j = mkR y0 y1 y2 y3 j) ∧ Hid (Xb wa wa.heap.size y0 y1 y2 y3 wq)) (fun i _ => n - (intOf i).toNat)
      case atStart => exact ⟨0, g, f + k, 0, 2, Nat.zero_le _, rfl, fun j hj => rfl, Xb.start wa _ _ _ _ _⟩
      case round =>
        obtain ⟨q, y0, y1, y2, y3, hq, rfl, hse, hxb⟩ := hrel
        have hlt := hxb.out.lt
        by_cases hqn : q < n
        · have hqi : (q : Int) < (n : Int) := by omega
          have hqi2 : (q : Int) ≤ 1000000000 := by omega
          obtain ⟨b, off, rfl, hrs⟩ := HP.out (by omega)
          obtain ⟨s0, s1, s2, s3⟩ := (hrs.up (hb.out.trans (hxb.out.bel.mono hbs)) (Nat.le_refl _)).cells q hqn
          have HSN := Lib.hid (serG_next R q g (f + k))
          have HMR := Lib.hid (mkR_of (R q))
          clear hrs
          generalize R q 0 = x0 at *
          generalize R q 1 = x1 at *
          generalize R q 2 = x2 at *
          generalize R q 3 = x3 at *
          by_cases h0 : x0 = g
          · have e0 : (x0 == g) = true := by rw [beq_iff_eq]; exact h0
            by_cases h1 : x1 = f + k
            · have e1 : (x1 == f + (k : Int)) = true := by rw [beq_iff_eq]; exact h1
              have HN : Hid (∀ j, j < 4 → serG R (q + 1) g (f + k) j = mkR x0 x1 x2 x3 j) := fun j hj => by rw [HSN.out, if_pos ⟨h0, h1⟩]; exact HMR.out j hj
              have p0 := hxb.out.c0
              have p1 := hxb.out.c1
              have p2 := hxb.out.c2
              have p3 := hxb.out.c3
              have z0 := hxb.out.fz 0
              have z1 := hxb.out.fz 1
              have z2 := hxb.out.fz 2
              have z3 := hxb.out.fz 3
              have ne1 : ¬ wa.heap.size = wr.heap.size := by omega
              have ne2 : ¬ wr.heap.size = wa.heap.size := by omega
              clear h0 h1 HSN HMR hse
              go_wp2
              go_roundw
              case rel => exact ⟨q + 1, x0, x1, x2, x3, by omega, by go_num, HN, (hxb.out.set x0 x1 x2 x3).alloc _⟩
              case measure => simp [intOf]; omega
            · have e1 : (x1 == f + (k : Int)) = false := by rw [beq_eq_false_iff_ne]; exact h1
              have HN : Hid (∀ j, j < 4 → serG R (q + 1) g (f + k) j = mkR y0 y1 y2 y3 j) := fun j hj => by rw [HSN.out, if_neg (fun h => h1 h.2)]; exact hse.out j hj
              clear h0 h1 HSN HMR hse
              go_wp2
              go_roundw
              case rel => exact ⟨q + 1, y0, y1, y2, y3, by omega, by go_num, HN, hxb.out.alloc _⟩
              case measure => simp [intOf]; omega
          · have e0 : (x0 == g) = false := by rw [beq_eq_false_iff_ne]; exact h0
            have HN : Hid (∀ j, j < 4 → serG R (q + 1) g (f + k) j = mkR y0 y1 y2 y3 j) := fun j hj => by rw [HSN.out, if_neg (fun h => h0 h.1)]; exact hse.out j hj
            clear h0 HSN HMR hse
            go_wp2
            go_roundw
            case rel => exact ⟨q + 1, y0, y1, y2, y3, by omega, by go_num, HN, hxb.out.alloc _⟩
            case measure => simp [intOf]; omega
        · obtain rfl : q = n := by omega
          have p0 := hxb.out.c0
          have p1 := hxb.out.c1
          have p2 := hxb.out.c2
          have p3 := hxb.out.c3
          have HBA : Hid (Below wa.heap.size wa wr) := hxb.out.bel
          have HG1 := Lib.hid (gotR_kept hgot.out HBA.out)
          have HB2 := Lib.hid (hb.out.trans (HBA.out.mono hbs))
          have hs2 := HB2.out.size
          have HSE : Hid (∀ j, j < 4 → seR R q g f k j = mkR y0 y1 y2 y3 j) := hse.out
          go_wp2_with (at_builtin; have HA2 := Lib.hid (World.ownsRow.alloc HG1.out (.cells #[.int .i64 y0, .int .i64 y1, .int .i64 y2, .int .i64 y3] 23)); refine wpList_append_own _ rfl _ _ 29 rfl w.heap.size 23 i0 (.agg #[.int .i64 0, .int .i64 0, .int .i64 0, .int .i64 0]) 4 32 Tryd.underlying29 hi hz0 hz1 hz2 rfl (by decide) v k _ rfl HA2.out ⟨wr.heap.size, 0, none⟩ 1 1 [.int .i64 y0, .int .i64 y1, .int .i64 y2, .int .i64 y3] rfl rfl (cell_fourN _ _ (by simp) _ _ _ _ _) (by intro u hu; simp at hu; rcases hu with rfl | rfl | rfl | rfl <;> rfl) (by unfold maxLen; omega) (by omega) (by simp; omega) ?_; intro v' w9 hown' hgrow hnil; have H9 := Lib.hid (gotR_next hown'); have hb9 := Lib.hid (below_own (HB2.out.alloc hs2 _) (Nat.le_refl _) hgrow (fun j hj => gotR_block HG1.out j hj)); clear hown' hgrow hnil HA2)
          go_roundw
          case rel => exact ⟨k + 1, _, rfl, by omega, by go_num, gotR_congr H9.out (fun i hi j hj => by
            by_cases e : i = k
            · subst e; rw [updR_same]; exact (HSE.out j hj).symm
            · rw [updR_other _ _ e]), hb9⟩
          case measure => simp [intOf]; omega
    · obtain rfl : k = cn := by omega
      go_wp2
      go_ret2
      exact ⟨v, by rw [HE.out]; rfl, by rw [HNN.out]; exact hgot.out, hb.out⟩
theorem rser_any (p : Option Addr) (n cap : Nat) (R : Nat → Nat → Int) (g f c : Int) (w : World) (hp : RdR w p n R) (hn : n ≤ 1000000000) :
    Calls Tryd.prog 29 #[.slice p n cap, .int .i64 g, .int .i64 f, .int .i64 c] w (SeP w R n g f c) := by
  by_cases h : seE R n g f c = 0
  · obtain ⟨h1, h2, h3, h4, h5⟩ := seE_zero h
    obtain ⟨c0, _⟩ := inB_iff.1 h2
    obtain ⟨cn, rfl⟩ : ∃ cn : Nat, c = cn := ⟨c.toNat, by omega⟩
    exact rser_good p n cap R g f cn w hp hn h1 h2 h3 h4 h5
  · exact rser_bad p n cap R g f c w hp hn h
end Go.Proofs.YtlelcooomfcbaaaDoor.Gg

/-
  The contract of addValid of package curve.
-/
import Derived.Test.YtilejadeknaleaaCuLst
import Derived.ChangeKeysEq
namespace Go.Proofs.Ytilejadeknaleaa.Cu
open Go.ChangeShapes Go.WideShapes Go.ChangeAt Go.RowKit
open Go.Shelf Go.Lib
set_option linter.unusedVariables false

/-- What holds while one of each is taken: V owns those of the first k points; the points, in order, lie in block g. -/
structure Tv (w : World) (g n : Nat) (D : Nat → Int) (S : Int → Int) (V : Value) (k : Nat) (W : World) : Prop where
  got : GotP W w.heap.size V (ddL D k).length (lx (ddL D k)) (ly S (ddL D k))
  bel : Below w.heap.size w W
  pts : Pts W g 0 n D (fun i => S (D i))
  ne : V.ownBlock ≠ some g
theorem Tv.up {w : World} {g n : Nat} {D : Nat → Int} {S : Int → Int} {V : Value} {k : Nat} {W W' : World} (h : Tv w g n D S V k W) (hb : Below W.heap.size W W') : Tv w g n D S V k W' where
  got := h.got.kept (grown_below hb (Nat.le_refl _) none) (by cases hv : V.ownBlock <;> simp)
  bel := h.bel.trans (hb.mono h.bel.size)
  pts := h.pts.up hb (Nat.le_refl _)
  ne := h.ne
theorem Tv.alloc {w : World} {g n : Nat} {D : Nat → Int} {S : Int → Int} {V : Value} {k : Nat} {W : World} (h : Tv w g n D S V k W) (o : Obj) : Tv w g n D S V k (W.alloc o) := h.up ((Below.refl _ _).alloc (Nat.le_refl _) o)
theorem Tv.drewN {w : World} {g n : Nat} {D : Nat → Int} {S : Int → Int} {V : Value} {k : Nat} {W : World} (h : Tv w g n D S V k W) (q : Nat) : Tv w g n D S V k (W.drewN q) := h.up ⟨rfl, rfl, rfl, Nat.le_refl _, fun _ _ => rfl⟩
theorem Tv.skip {w : World} {g n : Nat} {D : Nat → Int} {S : Int → Int} {V : Value} {k : Nat} {W : World} (h : Tv w g n D S V (k + 1) W) (e : D (k + 1) = D k) : Tv w g n D S V (k + 1 + 1) W where
  got := by rw [ddL_skip D k e]; exact h.got
  bel := h.bel
  pts := h.pts
  ne := h.ne
theorem Tv.next {w : World} {g n : Nat} {D : Nat → Int} {S : Int → Int} {V V' : Value} {k gg cap : Nat} {W W' : World} {x s : Int} (h : Tv w g n D S V k W) (hk : ¬ (0 < k ∧ D k = D (k - 1))) (hx : D k = x) (hs : s = S x)
    (hown : W'.ownsRow w.heap.size 43 2 V' ((ddL D k).length + 1) (ptL (lx (ddL D k)) (ly S (ddL D k)) (ddL D k).length ++ [.int .i64 x, .int .i64 s])) (hV : V' = .slice (some ⟨gg, 0, none⟩) ((ddL D k).length + 1) cap) (hg : W.grownBy W' V.ownBlock) (hat : V.ownBlock = some gg ∨ gg = W.heap.size) : Tv w g n D S V' (k + 1) W' where
  got := by
    rw [ddL_take D k hk, hx]
    exact gotP_snoc hown hs
  bel := h.bel.grown hg h.bel.size (fun k hk => (h.got.lt k hk).1)
  pts := h.pts.grown hg (fun e => h.ne e.symm)
  ne := by
    subst hV
    intro e
    simp only [Value.ownBlock, Option.some.injEq] at e
    rcases hat with h1 | h1
    · exact h.ne (by rw [h1, e])
    · have := h.pts.1; omega

/-- The X of a sum: one of each of both. -/
def sumL (Xa Xb : Nat → Int) (na nb : Nat) : List Int := ddL (srtD (zF Xa Xb na) (na + nb)) (na + nb)
/-- What addValid returns. -/
def AvP (w : World) (Xa Ya : Nat → Int) (na ma : Nat) (Xb Yb : Nat → Int) (nb mb : Nat) (e : Ending) (w' : World) : Prop :=
  ∃ v, e = .returned v ∧ GotP w' w.heap.size v (sumL Xa Xb na nb).length (lx (sumL Xa Xb na nb)) (ly (smF Xa Ya ma Xb Yb mb) (sumL Xa Xb na nb)) ∧ Below w.heap.size w w'
theorem eq_arr (x s y r : Int) (w : World) : (Op.equalIn 10000 56 (.agg #[.int .i64 x, .int .i64 s]) (.agg #[.int .i64 y, .int .i64 r])).run Try.prog w = .ok (x == y && s == r) w := by
  obtain ⟨i, hi⟩ : ∃ i, Try.prog.info? 3 = some i := by
    have h : (Try.prog.info? 3).isSome = true := by kernel_rfl
    exact Option.isSome_iff_exists.1 h
  have hc : Try.prog.cellsOf 3 = 1 := by kernel_rfl
  rw [run_equalIn_array w 9999 _ _ Try.underlying56 hi, hc]
  have p : ∀ (a b : Int) (k : Nat) (v : Int), #[Value.int .i64 a, Value.int .i64 b][k]? = some (.int .i64 v) → (part 3 #[.int .i64 a, .int .i64 b] k).run Try.prog w = .ok (.int .i64 v) w := by
    intro a b k v h
    unfold part
    simp [Sem.run_bind, Try.isAgg3 w, h]
  have q : ∀ (a b : Int), (Op.equalIn 9999 3 (.int .i64 a) (.int .i64 b)).run Try.prog w = .ok (a == b) w := fun a b => run_equalIn_int w 9998 3 .i64 .i64 a b Try.underlying3
  have p0 := p x s 0 x rfl
  have p1 := p x s 1 s rfl
  have r0 := p y r 0 y rfl
  have r1 := p y r 1 r rfl
  by_cases h1 : x = y
  · by_cases h2 : s = r
    · subst h1; subst h2; simp [List.range, List.range.loop, Op.eqItems, p0, p1, q]
    · subst h1; simp [List.range, List.range.loop, Op.eqItems, p0, p1, r0, r1, q, h2]
  · simp [List.range, List.range.loop, Op.eqItems, p0, r0, q, h1]
attribute [local go_sem] eq_arr
attribute [local go_sem ↓] Go.wp_at_zero Go.wp_at_succ

set_option maxRecDepth 100000 in
set_option maxHeartbeats 16000000 in
theorem adv_walk (ba oa na ca ma bb ob nb cb mb : Nat) (Xa Ya Xb Yb : Nat → Int) (w : World) (H : Two2 w ba oa na ca ma bb ob nb cb mb Xa Ya Xb Yb) :
    Calls Try.prog 21 #[.slice (some ⟨ba, oa, none⟩) na ca, .slice (some ⟨bb, ob, none⟩) nb cb] w (AvP w Xa Ya na ma Xb Yb nb mb) := by
  obtain ⟨i1, hji, hw0, hw1, hw2⟩ := info_parts Try.infoA
  obtain ⟨i0, hi0, hz0, hz1, hz2⟩ := info_parts Try.infoP
  have HH := Lib.hid H
  have la : na ≤ 100 := by have := H.va.len; have := H.ea; omega
  have lb : nb ≤ 100 := by have := H.vb.len; have := H.eb; omega
  clear H
  go_enter Try.func21, Try.ntmps21
  go_wp2_with (at_make; refine wpList_make_own _ rfl _ _ 55 rfl w.heap.size 56 i1 (.agg #[.int .i64 0, .int .i64 0]) 2 Try.underlying55 hji hw0 hw1 .i64 .i64 _ (na + nb) rfl rfl (by first | rfl | simp) (by rw [hw2]; omega) (by unfold maxLen; omega) (Nat.le_refl _) ?_; intro w1 hown hgrow)
  have hws := hgrow.size
  have hlw : w.heap.size < w1.heap.size := (hown.lt w.heap.size rfl).2
  have HA0 : Hid (Av w w1.heap.size (.slice (some ⟨ba, oa, none⟩) na ca) (.slice (some ⟨bb, ob, none⟩) nb cb) (zF Xa Xb na) (fun t => smF Xa Ya ma Xb Yb mb (zF Xa Xb na t)) (.slice (some ⟨w.heap.size, 0, none⟩) 0 (na + nb)) 0
      (w1.alloc (.cells #[.slice (some ⟨ba, oa, none⟩) na ca, .slice (some ⟨bb, ob, none⟩) nb cb] 22))) :=
    { got := World.ownsRow.alloc hown _, bel := ((Below.refl w.heap.size w).grown hgrow (Nat.le_refl _) (by intro k hk; cases hk)).alloc hws _, c0 := by simp, c1 := by simp, ne := by simp [Value.ownBlock]; omega, lt := by simp }
  clear hown hgrow
  go_loopw [5, 23] (fun v i wr => ∃ (j : Nat) (V : Value), V = v ∧ j ≤ 2 ∧ i = .int .i64 j ∧ Hid (Av w w1.heap.size (.slice (some ⟨ba, oa, none⟩) na ca) (.slice (some ⟨bb, ob, none⟩) nb cb) (zF Xa Xb na) (fun t => smF Xa Ya ma Xb Yb mb (zF Xa Xb na t)) V (ofN na nb j) wr)) (fun _ i _ => 2 - (intOf i).toNat)
  case atStart => exact ⟨0, _, rfl, by omega, rfl, HA0⟩
  case round =>
    clear HA0
    obtain ⟨j, V, rfl, hj2, rfl, hav⟩ := hrel
    by_cases hj : j < 2
    · obtain ⟨bj, oj, nj, cj, Xj, Yj, hrow, hpj, hzj, hnj, hoj, hoj2⟩ := row_ex HH.out j hj
      have c0 := rowV_cell hav.out j hj
      rw [hrow] at c0
      have HPJ := Lib.hid hpj
      have HZJ := Lib.hid hzj
      have HOJ := Lib.hid hoj
      clear hrow hpj hzj hoj
      have hj' : (j : Int) < 2 := by omega
      go_wp2
      generalize hof : ofN na nb j = of at *
      clear hof c0
      go_loopw [5, 29] (fun v i wr => ∃ (i' : Nat) (V : Value), V = v ∧ i' ≤ nj ∧ i = .int .i64 i' ∧ Hid (Av w w1.heap.size (.slice (some ⟨ba, oa, none⟩) na ca) (.slice (some ⟨bb, ob, none⟩) nb cb) (zF Xa Xb na) (fun t => smF Xa Ya ma Xb Yb mb (zF Xa Xb na t)) V (of + i') wr)) (fun _ i _ => nj - (intOf i).toNat)
      case atStart => exact ⟨0, _, rfl, by omega, rfl, hav⟩
      case round =>
        clear hav
        obtain ⟨i, V, rfl, hi, rfl, hav⟩ := hrel
        by_cases hin : i < nj
        · obtain ⟨c1, c2⟩ := (HPJ.out.up hav.out.bel (Nat.le_refl _)).2 i hin
          obtain ⟨z1, z2, z3⟩ := HZJ.out i hin
          have HSB := Lib.hid (smF_bd HH.out (Xj i))
          have HZ1 := Lib.hid z1
          clear z1
          have hin' : (i : Int) < (nj : Int) := by omega
          generalize hx : Xj i = x at *
          generalize hy : Yj i = y at *
          clear hx hy
          have HVne : Hid (V.ownBlock ≠ some wr.heap.size) := fun e => by have := (hav.out.got.lt _ e).2; omega
          have hS : (wr.alloc (.cells #[.int .i64 x, .int .i64 y] 43)).drew.cell? ⟨wr.heap.size, 0, none⟩ = some (.int .i64 x) := by simp
          have hA := Lib.hid (hav.out.alloc (.cells #[.int .i64 x, .int .i64 y] 43)).drew
          have HTz : Hid (smF Xa Ya ma Xb Yb mb (zF Xa Xb na (of + i)) = val Xa Ya ma x + val Xb Yb mb x) := by rw [HZ1.out]; rfl
          have HVA := Lib.hid (fun W (h1 : W.cell? ⟨wr.heap.size, 0, none⟩ = some (.int .i64 x)) (h2 : Hid (Av w w1.heap.size (.slice (some ⟨ba, oa, none⟩) na ca) (.slice (some ⟨bb, ob, none⟩) nb cb) (zF Xa Xb na) (fun t => smF Xa Ya ma Xb Yb mb (zF Xa Xb na t)) V (of + i) W)) => va_av HH.out x _ W h1 h2)
          have HVB := Lib.hid (fun W (h1 : W.cell? ⟨wr.heap.size, 0, none⟩ = some (.int .i64 x)) (h2 : Hid (Av w w1.heap.size (.slice (some ⟨ba, oa, none⟩) na ca) (.slice (some ⟨bb, ob, none⟩) nb cb) (zF Xa Xb na) (fun t => smF Xa Ya ma Xb Yb mb (zF Xa Xb na t)) V (of + i) W)) => vb_av HH.out x _ W h1 h2)
          obtain ⟨⟨q1, q2⟩, q3, q4⟩ := HSB.out
          have hnew : of + i + 1 ≤ 200 := by omega
          clear hav HSB
          go_wp2_with fail
          clear c1 c2
          generalize wr.alloc (Obj.cells #[Value.int .i64 x, Value.int .i64 y] 43) = wA at *
          generalize wr.heap.size = tt at *
          generalize val Xa Ya ma x = va at *
          generalize val Xb Yb mb x = vb at *
          have hwr : IntKind.i64.wrap (va + vb) = va + vb := by rw [IntKind.wrap_i64]; omega
          go_region_held3 (fun W => W.cell? ⟨tt, 0, none⟩ = some (.int .i64 x)) (first | assumption | go_keep | (rw [hgrow.cell_far _ (by have h0 : tt < w3.heap.size := World.block_lt_of_cell? _ _ hS3; simp; omega) (Ne.symm HVne.out)]; first | assumption | go_keep))
            (first
              | (go_at_call_has 24 (Value.slice (some ⟨ba, oa, none⟩) na ca); refine (HVA.out _ (by assumption) (by assumption)).mono ?_; rintro e w2 ⟨rfl, hS2, hA2⟩)
              | (go_at_call_has 24 (Value.slice (some ⟨bb, ob, none⟩) nb cb); refine (HVB.out _ (by assumption) (by assumption)).mono ?_; rintro e w3 ⟨rfl, hS3, hA3⟩)
              | (refine step_append_lies _ (by rfl) _ _ _ (by rfl) w.heap.size 56 i1 _ 2 16 Try.underlying55 hji hw0 hw1 hw2 rfl (by omega) V (of + i) (ptL (zF Xa Xb na) (fun t => smF Xa Ya ma Xb Yb mb (zF Xa Xb na t)) (of + i)) (by rfl) (World.ownsRow.alloc hA3.out.got _) ⟨w3.heap.size, 0, none⟩ 1 1 [.int .i64 x, .int .i64 (va + vb)] (by rfl) (by rfl) (World.news_of_block (cs := #[.int .i64 x, .int .i64 (va + vb)]) (t := 56) (fr := (0, 0)) (heap_alloc_new w3 _)) (by simp [Value.oneCell']) (by omega) (by unfold maxLen; omega) (by omega) (by have := hA3.out.bel.size; simp; omega) (w3.heap.size + 1) (by simp) ?_; intro gg cap w4 hown4 hgrow hat hlt))
          have hown5 : w4.ownsRow w.heap.size 56 2 (.slice (some ⟨gg, 0, none⟩) (of + i + 1) cap) (of + i + 1) (ptL (zF Xa Xb na) (fun t => smF Xa Ya ma Xb Yb mb (zF Xa Xb na t)) (of + i + 1)) := by
            rw [← ptL_snoc (Z := zF Xa Xb na) (T := fun t => smF Xa Ya ma Xb Yb mb (zF Xa Xb na t)) (k := of + i) HZ1.out HTz.out]; exact hown4
          have HAV' := Lib.hid ((hA3.out.alloc (.cells #[.int .i64 x, .int .i64 (va + vb)] 56)).next hown5 rfl hgrow (by simpa using hat))
          clear hown4 hown5 hgrow hat hlt hA3 hA2 hA HVA HVB HZ1 HTz
          go_wp2
          go_roundw
          case rel => exact ⟨i + 1, _, rfl, by omega, by go_num, HAV'⟩
          case measure => simp [intOf]; omega
        · have hin2 : i = nj := by omega
          have HAV' : Hid (Av w w1.heap.size (.slice (some ⟨ba, oa, none⟩) na ca) (.slice (some ⟨bb, ob, none⟩) nb cb) (zF Xa Xb na) (fun t => smF Xa Ya ma Xb Yb mb (zF Xa Xb na t)) V (ofN na nb (j + 1)) wr) := by rw [HOJ.out, ← hin2]; exact hav.out
          clear hav
          subst hin2
          go_wp2
          go_roundw
          case rel => exact ⟨j + 1, _, rfl, by omega, by go_num, HAV'⟩
          case measure => simp [intOf]; omega
    · have hj3 : j = 2 := by omega
      subst hj3
      have hcnt : ofN na nb 2 = na + nb := by simp [ofN]
      rw [hcnt] at hav
      clear hcnt
      obtain ⟨g, cap, rfl, hg1, hg2⟩ := World.ownsRow.form hav.out.got (by have := HH.out.ea; omega)
      have HSR := Lib.hid (srt_any wr w.heap.size g cap (na + nb) (zF Xa Xb na) (smF Xa Ya ma Xb Yb mb) (by omega) hav.out.got hg2)
      have HBV := Lib.hid hav.out.bel
      have hws := hav.out.bel.size
      have hDm := Lib.hid (fun i j => srtD_mono (zF Xa Xb na) (na + nb) i j)
      have hSb : Hid (∀ x, 0 ≤ smF Xa Ya ma Xb Yb mb x ∧ smF Xa Ya ma Xb Yb mb x ≤ 549755813888) := fun x => by have := smF_bd HH.out x; unfold smF; omega
      have hDb : Hid (∀ i, i < na + nb → 0 ≤ srtD (zF Xa Xb na) (na + nb) i ∧ srtD (zF Xa Xb na) (na + nb) i ≤ 1073741824) := fun i hi => by
        obtain ⟨t, ht, e⟩ := (srtD_mem (zF Xa Xb na) (na + nb) _).1 ⟨i, hi, rfl⟩
        rw [← e]
        unfold zF
        have ea := HH.out.ea; have eb := HH.out.eb
        split
        · exact ⟨HH.out.va.xlo t (by omega), HH.out.va.xhi t (by omega)⟩
        · exact ⟨HH.out.vb.xlo (t - na) (by omega), HH.out.vb.xhi (t - na) (by omega)⟩
      have HSL : Hid (ddL (srtD (zF Xa Xb na) (na + nb)) (na + nb) = sumL Xa Xb na nb) := rfl
      clear hav HH
      generalize hD : srtD (zF Xa Xb na) (na + nb) = D at *
      generalize hSS : smF Xa Ya ma Xb Yb mb = S at *
      have HSS := Lib.hid hSS
      clear hSS
      clear hD
      have hn200 : na + nb ≤ 200 := by omega
      generalize na + nb = n at *
      go_wp2_with (go_at_call 28; refine HSR.out.mono ?_; rintro e w2 ⟨rfl, hcl, hbl⟩)
      have hbl0 : Hid (Below w.heap.size wr w2) := hbl w.heap.size hg1 hws
      have HT0 : Hid (Tv w g n D S (.slice none 0 0) 0 w2) := { got := gotP_nil _ _ _ _, bel := HBV.out.trans hbl0.out, pts := ⟨Nat.lt_of_lt_of_le hg2 hbl0.out.size, fun i hi => by rw [Nat.zero_add]; exact hcl i hi⟩, ne := by simp [Value.ownBlock] }
      clear HSR HBV hcl hbl hbl0 hws hg1 hg2
      go_loopw [10, 54] (fun v i wr => ∃ (k : Nat) (V : Value), V = v ∧ k ≤ n ∧ i = .int .i64 k ∧ Hid (Tv w g n D S V k wr)) (fun _ i _ => n - (intOf i).toNat)
      case atStart => exact ⟨0, _, rfl, Nat.zero_le _, rfl, HT0⟩
      case round =>
        clear HT0
        obtain ⟨k, V, rfl, hkn, rfl, htv⟩ := hrel
        by_cases hk : k < n
        · have hki : (k : Int) < (n : Int) := by omega
          obtain ⟨c1, c2⟩ := htv.out.pts.2 k hk
          rw [Nat.zero_add] at c1 c2
          dsimp only at c2
          obtain ⟨d1, d2⟩ := hDb.out k hk
          have hgt : Try.prog.eqGuardType Try.prog.depth 56 = false := by kernel_rfl
          obtain ⟨s1, s2⟩ := hSb.out (D k)
          have hlen := ddL_len D k
          have hws := htv.out.bel.size
          have hbs := gotP_block htv.out.got
          have HBS := Lib.hid hbs
          clear hbs
          cases k with
          | zero =>
            rw [Nat.zero_mul] at c1 c2
            have hg0 : decide ((0 : Int) < 0) = false := by decide
            generalize hx : D 0 = x at *
            generalize hs : S x = s at *
            have HX := Lib.hid hx
            have HS := Lib.hid hs
            clear hx hs
            go_wp2
            go_quiet (fail)
            have HT2 := Lib.hid ((htv.out.alloc (.cells #[.int .i64 x, .int .i64 s] 56)).drewN nq)
            have e1 : ((wr.alloc (.cells #[.int .i64 x, .int .i64 s] 56)).drewN nq).cell? ⟨wr.heap.size, 0, none⟩ = some (.int .i64 x) := by simp
            have e2 : ((wr.alloc (.cells #[.int .i64 x, .int .i64 s] 56)).drewN nq).cell? ⟨wr.heap.size, 1, none⟩ = some (.int .i64 s) := by simp
            clear htv c1 c2
            generalize (wr.alloc (.cells #[.int .i64 x, .int .i64 s] 56)).drewN nq = wB at *
            go_wp2_with (at_builtin; refine wpList_append_lies _ rfl _ _ 22 rfl w.heap.size 43 i0 (.agg #[.int .i64 0, .int .i64 0]) 2 16 Try.underlying22 hi0 hz0 hz1 hz2 rfl (by decide) V (ddL D 0).length (ptL (lx (ddL D 0)) (ly S (ddL D 0)) (ddL D 0).length) rfl (World.ownsRow.alloc HT2.out.got _) ⟨wB.heap.size, 0, none⟩ 1 1 [.int .i64 x, .int .i64 s] rfl rfl (cell_two _ _ _ _) (by intro u hu; simp at hu; rcases hu with rfl | rfl <;> rfl) (by omega) (by unfold maxLen; omega) (by omega) (by have := HT2.out.bel.size; simp; omega) (wB.heap.size + 1) (by simp) ?_; intro gg cap2 w5 hown5 hgrow hat hlt)
            have HT3 := Lib.hid ((HT2.out.alloc (.cells #[.int .i64 x, .int .i64 s] 43)).next (by omega) HX.out HS.out.symm hown5 rfl hgrow (by simpa using hat))
            clear hown5 hgrow hat hlt HT2 e1 e2
            go_wp2
            go_roundw
            case rel => exact ⟨1, _, rfl, by omega, by go_num, HT3⟩
            case measure => simp [intOf]; omega
          | succ j =>
            obtain ⟨c3, c4⟩ := htv.out.pts.2 j (by omega)
            rw [Nat.zero_add] at c3 c4
            dsimp only at c4
            have hwj : IntKind.i64.wrap (j : Int) = (j : Int) := by rw [IntKind.wrap_i64]; omega
            have hgd : decide ((0 : Int) < ((j : Int) + 1)) = true := by rw [decide_eq_true_eq]; omega
            have hjn : (j : Int) < (n : Int) := by omega
            by_cases he : D (j + 1) = D j
            · have hxx : ∀ a : Int, (a == a) = true := fun a => by simp
              have HE := Lib.hid he
              rw [← he] at c3 c4
              clear he
              generalize hx : D (j + 1) = x at *
              generalize hs : S x = s at *
              have HX := Lib.hid hx
              clear hx hs
              have c5 := cell_alloc_sl (.cells #[.int .i64 x, .int .i64 s] 56) c3
              have c6 := cell_alloc_sl (.cells #[.int .i64 x, .int .i64 s] 56) c4
              clear c3 c4
              go_wp2
              go_quiet (fail)
              have HT2 := Lib.hid (((htv.out.alloc (.cells #[.int .i64 x, .int .i64 s] 56)).drewN nq).skip (HX.out.trans HE.out))
              clear htv c1 c2 c5 c6
              go_wp2
              go_roundw
              case rel => exact ⟨j + 1 + 1, _, rfl, by omega, by go_num, HT2⟩
              case measure => simp [intOf]; omega
            · have hne : (D (j + 1) == D j) = false := by simpa using he
              have HE := Lib.hid he
              clear he
              generalize hx : D (j + 1) = x at *
              generalize hs : S x = s at *
              have HX := Lib.hid hx
              have HS := Lib.hid hs
              clear hx hs
              have c5 := cell_alloc_sl (.cells #[.int .i64 x, .int .i64 s] 56) c3
              have c6 := cell_alloc_sl (.cells #[.int .i64 x, .int .i64 s] 56) c4
              clear c3 c4
              go_wp2
              go_quiet (fail)
              have HT2 := Lib.hid ((htv.out.alloc (.cells #[.int .i64 x, .int .i64 s] 56)).drewN nq)
              have e1 : ((wr.alloc (.cells #[.int .i64 x, .int .i64 s] 56)).drewN nq).cell? ⟨wr.heap.size, 0, none⟩ = some (.int .i64 x) := by simp
              have e2 : ((wr.alloc (.cells #[.int .i64 x, .int .i64 s] 56)).drewN nq).cell? ⟨wr.heap.size, 1, none⟩ = some (.int .i64 s) := by simp
              clear htv c1 c2 c5 c6
              generalize (wr.alloc (.cells #[.int .i64 x, .int .i64 s] 56)).drewN nq = wB at *
              go_wp2_with (at_builtin; refine wpList_append_lies _ rfl _ _ 22 rfl w.heap.size 43 i0 (.agg #[.int .i64 0, .int .i64 0]) 2 16 Try.underlying22 hi0 hz0 hz1 hz2 rfl (by decide) V (ddL D (j + 1)).length (ptL (lx (ddL D (j + 1))) (ly S (ddL D (j + 1))) (ddL D (j + 1)).length) rfl (World.ownsRow.alloc HT2.out.got _) ⟨wB.heap.size, 0, none⟩ 1 1 [.int .i64 x, .int .i64 s] rfl rfl (cell_two _ _ _ _) (by intro u hu; simp at hu; rcases hu with rfl | rfl <;> rfl) (by omega) (by unfold maxLen; omega) (by omega) (by have := HT2.out.bel.size; simp; omega) (wB.heap.size + 1) (by simp) ?_; intro gg cap2 w5 hown5 hgrow hat hlt)
              have HT3 := Lib.hid ((HT2.out.alloc (.cells #[.int .i64 x, .int .i64 s] 43)).next (fun h => HE.out (HX.out.symm.trans h.2)) HX.out HS.out.symm hown5 rfl hgrow (by simpa using hat))
              clear hown5 hgrow hat hlt HT2 e1 e2
              go_wp2
              go_roundw
              case rel => exact ⟨j + 1 + 1, _, rfl, by omega, by go_num, HT3⟩
              case measure => simp [intOf]; omega
        · obtain rfl : k = n := by omega
          go_wp2
          go_ret
          exact ⟨V, rfl, by rw [← HSL.out, HSS.out]; exact htv.out.got, htv.out.bel⟩
end Go.Proofs.Ytilejadeknaleaa.Cu

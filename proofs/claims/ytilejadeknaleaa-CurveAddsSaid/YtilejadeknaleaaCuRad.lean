/-
  The contract of Add of the reference.
-/
import Derived.Test.YtilejadeknaleaaCuRat
import Derived.Test.YtilejadeknaleaaCuLsu
namespace Go.Proofs.Ytilejadeknaleaa.Cu
open Go.ChangeShapes Go.WideShapes Go.ChangeAt Go.RowKit
open Go.Shelf Go.Lib
set_option linter.unusedVariables false

theorem gotP_below {w w' : World} {base : Nat} {v : Value} {n : Nat} {X Y : Nat → Int} (h : GotP w base v n X Y) (hb : Below w.heap.size w w') : GotP w' base v n X Y :=
  World.ownsRow.kept h (grown_below hb (Nat.le_refl _) none) (by cases hv : v.ownBlock <;> simp)

set_option maxHeartbeats 1600000 in
theorem radd_bad1 (pa : Option Addr) (na ca : Nat) (Xa Ya : Nat → Int) (b : Value) (w : World) (hb : ∃ pb nb cb, b = .slice pb nb cb) (ha : RdP w pa na Xa Ya) (cd : Int) (hc : chkC Xa Ya na = cd) (h0 : cd ≠ 0) :
    Calls Try.prog 11 #[.slice pa na ca, b] w (AdN cd w) := by
  obtain ⟨pb, nb, cb, rfl⟩ := hb
  have HC := Lib.hid (rcheck_any pa na ca Xa Ya w ha)
  rw [hc] at HC
  have hne : (cd != 0) = true := by simpa using h0
  clear ha hc h0
  go_enter Try.func11, Try.ntmps11
  go_wp2_with (go_at_call 22; refine HC.out.mono ?_; rintro e w1 ⟨rfl, hb1⟩)
  go_ret2
  exact ⟨rfl, hb1⟩

set_option maxHeartbeats 1600000 in
theorem radd_bad2 (pa : Option Addr) (na ca : Nat) (Xa Ya : Nat → Int) (pb : Option Addr) (nb cb : Nat) (Xb Yb : Nat → Int) (w : World) (ha : RdP w pa na Xa Ya) (hb : RdP w pb nb Xb Yb) (cd : Int) (hc : chkC Xa Ya na = 0) (hc2 : chkC Xb Yb nb = cd) (h0 : cd ≠ 0) :
    Calls Try.prog 11 #[.slice pa na ca, .slice pb nb cb] w (AdN cd w) := by
  have HC := Lib.hid (rcheck_any pa na ca Xa Ya w ha)
  have HC2 := Lib.hid (fun W (h : Below w.heap.size w W) => rcheck_any pb nb cb Xb Yb W (hb.below h (Nat.le_refl _)))
  rw [hc] at HC
  rw [hc2] at HC2
  have hne : (cd != 0) = true := by simpa using h0
  clear ha hb hc hc2 h0
  go_enter Try.func11, Try.ntmps11
  go_wp2_with (go_at_call 22; first | (refine HC.out.mono ?_; rintro e w1 ⟨rfl, hb1⟩; clear HC) | (refine (HC2.out _ hb1).mono ?_; rintro e w2 ⟨rfl, hb2⟩))
  go_ret2
  exact ⟨rfl, hb1.trans (hb2.mono hb1.size)⟩

/-- M is the first i and the first k numbers of both, in order. -/
structure Mg (Xa Xb : Nat → Int) (na nb : Nat) (M : List Int) (i k : Nat) : Prop where
  sa : SA M
  mem : ∀ x, x ∈ M ↔ (∃ t, t < i ∧ Xa t = x) ∨ ∃ t, t < k ∧ Xb t = x
  a : i < na → ∀ y, y ∈ M → y < Xa i
  b : k < nb → ∀ y, y ∈ M → y < Xb k
theorem Mg.nil (Xa Xb : Nat → Int) (na nb : Nat) : Mg Xa Xb na nb [] 0 0 := ⟨List.Pairwise.nil, fun x => by simp, fun _ y hy => by simp at hy, fun _ y hy => by simp at hy⟩
theorem Mg.takeA {Xa Xb : Nat → Int} {na nb : Nat} {M : List Int} {i k : Nat} (h : Mg Xa Xb na nb M i k) (ha : ∀ i, i + 1 < na → Xa i < Xa (i + 1)) (hi : i < na) (hx : k < nb → Xa i < Xb k) : Mg Xa Xb na nb (M ++ [Xa i]) (i + 1) k where
  sa := sa_snoc h.sa (h.a hi)
  mem := fun x => by
    rw [List.mem_append, h.mem, List.mem_singleton]
    constructor
    · rintro ((⟨t, ht, e⟩ | h2) | rfl)
      · exact .inl ⟨t, by omega, e⟩
      · exact .inr h2
      · exact .inl ⟨i, by omega, rfl⟩
    · rintro (⟨t, ht, e⟩ | h2)
      · by_cases e2 : t = i
        · subst e2; exact .inr e.symm
        · exact .inl (.inl ⟨t, by omega, e⟩)
      · exact .inl (.inr h2)
  a := fun h1 y hy => by
    have := ha i h1
    rcases List.mem_append.1 hy with hy | hy
    · have := h.a hi y hy; omega
    · rw [List.mem_singleton.1 hy]; exact this
  b := fun h1 y hy => by
    rcases List.mem_append.1 hy with hy | hy
    · exact h.b h1 y hy
    · rw [List.mem_singleton.1 hy]; exact hx h1
theorem Mg.swap {Xa Xb : Nat → Int} {na nb : Nat} {M : List Int} {i k : Nat} (h : Mg Xa Xb na nb M i k) : Mg Xb Xa nb na M k i := ⟨h.sa, fun x => by rw [h.mem]; exact Or.comm, h.b, h.a⟩
theorem Mg.takeB {Xa Xb : Nat → Int} {na nb : Nat} {M : List Int} {i k : Nat} (h : Mg Xa Xb na nb M i k) (hb : ∀ i, i + 1 < nb → Xb i < Xb (i + 1)) (hk : k < nb) (hx : i < na → Xb k < Xa i) : Mg Xa Xb na nb (M ++ [Xb k]) i (k + 1) := (h.swap.takeA hb hk hx).swap
theorem Mg.takeBoth {Xa Xb : Nat → Int} {na nb : Nat} {M : List Int} {i k : Nat} (h : Mg Xa Xb na nb M i k) (ha : ∀ i, i + 1 < na → Xa i < Xa (i + 1)) (hb : ∀ i, i + 1 < nb → Xb i < Xb (i + 1)) (hi : i < na) (hk : k < nb) (e : Xa i = Xb k) : Mg Xa Xb na nb (M ++ [Xb k]) (i + 1) (k + 1) where
  sa := sa_snoc h.sa (h.b hk)
  mem := fun x => by
    rw [List.mem_append, h.mem, List.mem_singleton]
    constructor
    · rintro ((⟨t, ht, e⟩ | ⟨t, ht, e⟩) | rfl)
      · exact .inl ⟨t, by omega, e⟩
      · exact .inr ⟨t, by omega, e⟩
      · exact .inr ⟨k, by omega, rfl⟩
    · rintro (⟨t, ht, e1⟩ | ⟨t, ht, e1⟩)
      · by_cases e2 : t = i
        · subst e2; exact .inr (by rw [← e1, e])
        · exact .inl (.inl ⟨t, by omega, e1⟩)
      · by_cases e2 : t = k
        · subst e2; exact .inr e1.symm
        · exact .inl (.inr ⟨t, by omega, e1⟩)
  a := fun h1 y hy => by
    have := ha i h1
    rcases List.mem_append.1 hy with hy | hy
    · have := h.a hi y hy; omega
    · rw [List.mem_singleton.1 hy, ← e]; exact this
  b := fun h1 y hy => by
    have := hb k h1
    rcases List.mem_append.1 hy with hy | hy
    · have := h.b hk y hy; omega
    · rw [List.mem_singleton.1 hy]; exact this
theorem Mg.len {Xa Xb : Nat → Int} {na nb : Nat} {M : List Int} {i k : Nat} (h : Mg Xa Xb na nb M i k) (hM : M.length ≤ i + k) (x : Int) : (M ++ [x]).length ≤ i + k + 1 := by simp; omega
theorem Mg.done {Xa Xb : Nat → Int} {ma mb : Nat} {M : List Int} (h : Mg Xa Xb (ma + 1) (mb + 1) M (ma + 1) (mb + 1)) : M = sumL Xa Xb (ma + 1) (mb + 1) :=
  sa_unique _ _ h.sa (sumL_sa _ _ _ _) fun x => by
    rw [sumL_mem, h.mem]; unfold Both
    constructor
    · rintro (⟨t, ht, e⟩ | ⟨t, ht, e⟩)
      · exact .inl ⟨t, by omega, e⟩
      · exact .inr ⟨t, by omega, e⟩
    · rintro (⟨t, ht, e⟩ | ⟨t, ht, e⟩)
      · exact .inl ⟨t, by omega, e⟩
      · exact .inr ⟨t, by omega, e⟩

set_option maxRecDepth 100000 in
set_option maxHeartbeats 32000000 in
theorem radd_ok (ba oa na ca ma bb ob nb cb mb : Nat) (Xa Ya Xb Yb : Nat → Int) (w : World) (H : Two2 w ba oa na ca ma bb ob nb cb mb Xa Ya Xb Yb) :
    Calls Try.prog 11 #[.slice (some ⟨ba, oa, none⟩) na ca, .slice (some ⟨bb, ob, none⟩) nb cb] w (AdP (sumL Xa Xb na nb) (smF Xa Ya ma Xb Yb mb) w) := by
  obtain ⟨i0, hi0, hz0, hz1, hz2⟩ := info_parts Try.infoP
  have HC := Lib.hid (rcheck_any (some ⟨ba, oa, none⟩) na ca Xa Ya w (fun _ => ⟨ba, oa, rfl, H.pa⟩))
  have HC2 := Lib.hid (fun W (h : Below w.heap.size w W) => rcheck_any (some ⟨bb, ob, none⟩) nb cb Xb Yb W (fun _ => ⟨bb, ob, rfl, H.pb.up h (Nat.le_refl _)⟩))
  rw [H.ea, (cur_iff Xa Ya ma).2 H.va] at HC
  rw [H.eb, (cur_iff Xb Yb mb).2 H.vb] at HC2
  rw [← H.ea] at HC
  rw [← H.eb] at HC2
  have HH := Lib.hid H
  have HAa : Hid (∀ i, i + 1 < na → Xa i < Xa (i + 1)) := fun i hi => (H.va.asc i (by have := H.ea; omega)).1
  have HAb : Hid (∀ i, i + 1 < nb → Xb i < Xb (i + 1)) := fun i hi => (H.vb.asc i (by have := H.eb; omega)).1
  have HVA := Lib.hid (fun x W (h : Hid (Below w.heap.size w W)) => rat_any ba oa na ma ca Xa Ya x W H.ea (H.pa.up h.out (Nat.le_refl _)) H.va)
  have HVB := Lib.hid (fun x W (h : Hid (Below w.heap.size w W)) => rat_any bb ob nb mb cb Xb Yb x W H.eb (H.pb.up h.out (Nat.le_refl _)) H.vb)
  have la : na ≤ 100 := by have := H.va.len; have := H.ea; omega
  have lb : nb ≤ 100 := by have := H.vb.len; have := H.eb; omega
  clear H
  go_enter Try.func11, Try.ntmps11
  go_wp2_with (go_at_call 22; first | (refine HC.out.mono ?_; rintro e w1 ⟨rfl, hb1⟩; clear HC) | (refine (HC2.out _ hb1).mono ?_; rintro e w2 ⟨rfl, hb2⟩))
  have HB2 := Lib.hid (hb1.trans (hb2.mono hb1.size))
  clear hb1 hb2 HC2
  go_loopw [8, 9, 10] (fun v i k wr => ∃ (j l : Nat) (M : List Int) (V : Value), V = v ∧ j ≤ na ∧ l ≤ nb ∧ i = .int .i64 j ∧ k = .int .i64 l ∧ M.length ≤ j + l ∧ Hid (GotP wr w.heap.size V M.length (lx M) (ly (smF Xa Ya ma Xb Yb mb) M)) ∧ Hid (Below w.heap.size w wr) ∧ Hid (Mg Xa Xb na nb M j l)) (fun _ i k _ => (na - (intOf i).toNat) + (nb - (intOf k).toNat))
  case atStart => exact ⟨0, 0, [], _, rfl, by omega, by omega, rfl, rfl, by simp, gotP_nil _ _ _ _, HB2, Mg.nil _ _ _ _⟩
  case round =>
    clear HB2
    obtain ⟨j, l, M, V, rfl, hj, hl, rfl, rfl, hML, hgot, hbel, hmg⟩ := hrel
    have hws := hbel.out.size
    have HBk := Lib.hid (gotP_block hgot.out)
    by_cases hjn : j < na
    · have hji : (j : Int) < (na : Int) := by omega
      have ga : decide ((j : Int) < (na : Int)) = true := by rw [decide_eq_true_eq]; omega
      obtain ⟨c1, _⟩ := (HH.out.pa.up hbel.out (Nat.le_refl _)).2 j hjn
      by_cases hln : l < nb
      · have hli : (l : Int) < (nb : Int) := by omega
        have gb : decide ((l : Int) < (nb : Int)) = true := by rw [decide_eq_true_eq]; omega
        have gk : ((l : Int) == (nb : Int)) = false := by simp; omega
        obtain ⟨c2, _⟩ := (HH.out.pb.up hbel.out (Nat.le_refl _)).2 l hln
        by_cases hlt : Xa j < Xb l
        · have HM := Lib.hid (hmg.out.takeA HAa.out hjn (fun _ => hlt))
          have HSB := Lib.hid (smF_bd HH.out (Xa j))
          have g1 : decide (Xa j < Xb l) = true := by rw [decide_eq_true_eq]; exact hlt
          have g2 : (Xa j == Xa j) = true := by simp
          have g3 : (Xb l == Xa j) = false := by simp; omega
          have hsm : Hid (smF Xa Ya ma Xb Yb mb (Xa j) = val Xa Ya ma (Xa j) + val Xb Yb mb (Xa j)) := rfl
          clear hmg
          generalize hx : Xa j = x at *
          generalize Xb l = y at *
          clear hx
          obtain ⟨⟨q1, q2⟩, q3, q4⟩ := HSB.out
          have HVA1 := Lib.hid (HVA.out x)
          have HVB1 := Lib.hid (HVB.out x)
          clear HSB HVA HVB
          generalize val Xa Ya ma x = va at *
          generalize val Xb Yb mb x = vb at *
          go_wp2
          go_quiet (fail)
          have HBq : Hid (Below w.heap.size w (wr.drewN nq)) := bel_drewN hbel.out nq
          have HGq : Hid (GotP (wr.drewN nq) w.heap.size V M.length (lx M) (ly (smF Xa Ya ma Xb Yb mb) M)) := hgot.out
          have hwsq : w.heap.size ≤ (wr.drewN nq).heap.size := hws
          have c1q : (wr.drewN nq).cell? ⟨ba, oa + j * 2, none⟩ = some (.int .i64 x) := c1
          have c2q : (wr.drewN nq).cell? ⟨bb, ob + l * 2, none⟩ = some (.int .i64 y) := c2
          clear c1 c2
          clear hbel hgot hws
          generalize wr.drewN nq = wq at *
          go_wp2_with (first
            | (go_at_call_has 23 (Value.slice (some ⟨ba, oa, none⟩) na ca); refine (HVA1.out _ HBq).mono ?_; rintro e w3 ⟨rfl, hb3⟩; have HB3 := Lib.hid (HBq.out.trans (hb3.mono hwsq)))
            | (go_at_call_has 23 (Value.slice (some ⟨bb, ob, none⟩) nb cb); refine (HVB1.out _ HB3).mono ?_; rintro e w4 ⟨rfl, hb4⟩; have HB4 := Lib.hid (HB3.out.trans (hb4.mono HB3.out.size)); have HG4 : Hid (GotP w4 w.heap.size V M.length (lx M) (ly (smF Xa Ya ma Xb Yb mb) M)) := World.ownsRow.kept (World.ownsRow.kept HGq.out (grown_below hb3 (Nat.le_refl _) none) (by cases hv : V.ownBlock <;> simp)) (grown_below hb4 (Nat.le_refl _) none) (by cases hv : V.ownBlock <;> simp))
            | (at_builtin; refine wpList_append_own _ rfl _ _ 22 rfl w.heap.size 43 i0 (.agg #[.int .i64 0, .int .i64 0]) 2 16 Try.underlying22 hi0 hz0 hz1 hz2 rfl (by decide) _ M.length _ rfl (World.ownsRow.alloc HG4.out _) ⟨w4.heap.size, 0, none⟩ 1 1 [.int .i64 x, .int .i64 (va + vb)] rfl rfl (cell_two _ _ _ _) (by intro u hu; simp at hu; rcases hu with rfl | rfl <;> rfl) (by unfold maxLen; omega) (by omega) (by have := HB4.out.size; simp; omega) ?_; intro v' w5 hown5 hgrow hnil))
          have HG5 := Lib.hid (gotP_snoc hown5 hsm.out.symm)
          have HB5 := Lib.hid ((HB4.out.alloc HB4.out.size (.cells #[.int .i64 x, .int .i64 (va + vb)] 43)).grown hgrow (by have := HB4.out.size; simp; omega) (fun k hk => HBk.out k hk))
          clear hown5 hgrow hnil HGq HBq HB3 HB4 HG4 hb3 hb4 hwsq c1q c2q
          go_wp2
          go_roundw
          case rel => exact ⟨j + 1, l, M ++ [x], _, rfl, by omega, by omega, by go_num, by go_num, by rw [List.length_append]; simp; omega, HG5, HB5, HM⟩
          case measure => simp [intOf]; omega
        · by_cases heq : Xa j = Xb l
          · have HM := Lib.hid (hmg.out.takeBoth HAa.out HAb.out hjn hln heq)
            have HSB := Lib.hid (smF_bd HH.out (Xb l))
            have hsm : Hid (smF Xa Ya ma Xb Yb mb (Xb l) = val Xa Ya ma (Xb l) + val Xb Yb mb (Xb l)) := rfl
            rw [heq] at c1
            clear hmg hlt heq
            generalize hx : Xb l = x at *
            clear hx
            have g1 : decide (x < x) = false := by rw [decide_eq_false_iff_not]; omega
            have g2 : (x == x) = true := by simp
            obtain ⟨⟨q1, q2⟩, q3, q4⟩ := HSB.out
            have HVA1 := Lib.hid (HVA.out x)
            have HVB1 := Lib.hid (HVB.out x)
            clear HSB HVA HVB
            generalize val Xa Ya ma x = va at *
            generalize val Xb Yb mb x = vb at *
            go_wp2
            go_quiet (fail)
            have HBq : Hid (Below w.heap.size w (wr.drewN nq)) := bel_drewN hbel.out nq
            have HGq : Hid (GotP (wr.drewN nq) w.heap.size V M.length (lx M) (ly (smF Xa Ya ma Xb Yb mb) M)) := hgot.out
            have hwsq : w.heap.size ≤ (wr.drewN nq).heap.size := hws
            have c1q : (wr.drewN nq).cell? ⟨ba, oa + j * 2, none⟩ = some (.int .i64 x) := c1
            have c2q : (wr.drewN nq).cell? ⟨bb, ob + l * 2, none⟩ = some (.int .i64 x) := c2
            clear c1 c2
            clear hbel hgot hws
            generalize wr.drewN nq = wq at *
            go_wp2_with (first
              | (go_at_call_has 23 (Value.slice (some ⟨ba, oa, none⟩) na ca); refine (HVA1.out _ HBq).mono ?_; rintro e w3 ⟨rfl, hb3⟩; have HB3 := Lib.hid (HBq.out.trans (hb3.mono hwsq)))
              | (go_at_call_has 23 (Value.slice (some ⟨bb, ob, none⟩) nb cb); refine (HVB1.out _ HB3).mono ?_; rintro e w4 ⟨rfl, hb4⟩; have HB4 := Lib.hid (HB3.out.trans (hb4.mono HB3.out.size)); have HG4 : Hid (GotP w4 w.heap.size V M.length (lx M) (ly (smF Xa Ya ma Xb Yb mb) M)) := World.ownsRow.kept (World.ownsRow.kept HGq.out (grown_below hb3 (Nat.le_refl _) none) (by cases hv : V.ownBlock <;> simp)) (grown_below hb4 (Nat.le_refl _) none) (by cases hv : V.ownBlock <;> simp))
              | (at_builtin; refine wpList_append_own _ rfl _ _ 22 rfl w.heap.size 43 i0 (.agg #[.int .i64 0, .int .i64 0]) 2 16 Try.underlying22 hi0 hz0 hz1 hz2 rfl (by decide) _ M.length _ rfl (World.ownsRow.alloc HG4.out _) ⟨w4.heap.size, 0, none⟩ 1 1 [.int .i64 x, .int .i64 (va + vb)] rfl rfl (cell_two _ _ _ _) (by intro u hu; simp at hu; rcases hu with rfl | rfl <;> rfl) (by unfold maxLen; omega) (by omega) (by have := HB4.out.size; simp; omega) ?_; intro v' w5 hown5 hgrow hnil))
            have HG5 := Lib.hid (gotP_snoc hown5 hsm.out.symm)
            have HB5 := Lib.hid ((HB4.out.alloc HB4.out.size (.cells #[.int .i64 x, .int .i64 (va + vb)] 43)).grown hgrow (by have := HB4.out.size; simp; omega) (fun k hk => HBk.out k hk))
            clear hown5 hgrow hnil HGq HBq HB3 HB4 HG4 hb3 hb4 hwsq c1q c2q
            go_wp2
            go_roundw
            case rel => exact ⟨j + 1, l + 1, M ++ [x], _, rfl, by omega, by omega, by go_num, by go_num, by rw [List.length_append]; simp; omega, HG5, HB5, HM⟩
            case measure => simp [intOf]; omega
          · have hgt : Xb l < Xa j := by omega
            have HM := Lib.hid (hmg.out.takeB HAb.out hln (fun _ => hgt))
            have HSB := Lib.hid (smF_bd HH.out (Xb l))
            have g1 : decide (Xa j < Xb l) = false := by rw [decide_eq_false_iff_not]; omega
            have g2 : (Xb l == Xb l) = true := by simp
            have g3 : (Xa j == Xb l) = false := by simp; omega
            have hsm : Hid (smF Xa Ya ma Xb Yb mb (Xb l) = val Xa Ya ma (Xb l) + val Xb Yb mb (Xb l)) := rfl
            clear hmg hlt heq
            generalize hx : Xb l = x at *
            generalize Xa j = y at *
            clear hx
            obtain ⟨⟨q1, q2⟩, q3, q4⟩ := HSB.out
            have HVA1 := Lib.hid (HVA.out x)
            have HVB1 := Lib.hid (HVB.out x)
            clear HSB HVA HVB
            generalize val Xa Ya ma x = va at *
            generalize val Xb Yb mb x = vb at *
            go_wp2
            go_quiet (fail)
            have HBq : Hid (Below w.heap.size w (wr.drewN nq)) := bel_drewN hbel.out nq
            have HGq : Hid (GotP (wr.drewN nq) w.heap.size V M.length (lx M) (ly (smF Xa Ya ma Xb Yb mb) M)) := hgot.out
            have hwsq : w.heap.size ≤ (wr.drewN nq).heap.size := hws
            have c1q : (wr.drewN nq).cell? ⟨ba, oa + j * 2, none⟩ = some (.int .i64 y) := c1
            have c2q : (wr.drewN nq).cell? ⟨bb, ob + l * 2, none⟩ = some (.int .i64 x) := c2
            clear c1 c2
            clear hbel hgot hws
            generalize wr.drewN nq = wq at *
            go_wp2_with (first
              | (go_at_call_has 23 (Value.slice (some ⟨ba, oa, none⟩) na ca); refine (HVA1.out _ HBq).mono ?_; rintro e w3 ⟨rfl, hb3⟩; have HB3 := Lib.hid (HBq.out.trans (hb3.mono hwsq)))
              | (go_at_call_has 23 (Value.slice (some ⟨bb, ob, none⟩) nb cb); refine (HVB1.out _ HB3).mono ?_; rintro e w4 ⟨rfl, hb4⟩; have HB4 := Lib.hid (HB3.out.trans (hb4.mono HB3.out.size)); have HG4 : Hid (GotP w4 w.heap.size V M.length (lx M) (ly (smF Xa Ya ma Xb Yb mb) M)) := World.ownsRow.kept (World.ownsRow.kept HGq.out (grown_below hb3 (Nat.le_refl _) none) (by cases hv : V.ownBlock <;> simp)) (grown_below hb4 (Nat.le_refl _) none) (by cases hv : V.ownBlock <;> simp))
              | (at_builtin; refine wpList_append_own _ rfl _ _ 22 rfl w.heap.size 43 i0 (.agg #[.int .i64 0, .int .i64 0]) 2 16 Try.underlying22 hi0 hz0 hz1 hz2 rfl (by decide) _ M.length _ rfl (World.ownsRow.alloc HG4.out _) ⟨w4.heap.size, 0, none⟩ 1 1 [.int .i64 x, .int .i64 (va + vb)] rfl rfl (cell_two _ _ _ _) (by intro u hu; simp at hu; rcases hu with rfl | rfl <;> rfl) (by unfold maxLen; omega) (by omega) (by have := HB4.out.size; simp; omega) ?_; intro v' w5 hown5 hgrow hnil))
            have HG5 := Lib.hid (gotP_snoc hown5 hsm.out.symm)
            have HB5 := Lib.hid ((HB4.out.alloc HB4.out.size (.cells #[.int .i64 x, .int .i64 (va + vb)] 43)).grown hgrow (by have := HB4.out.size; simp; omega) (fun k hk => HBk.out k hk))
            clear hown5 hgrow hnil HGq HBq HB3 HB4 HG4 hb3 hb4 hwsq c1q c2q
            go_wp2
            go_roundw
            case rel => exact ⟨j, l + 1, M ++ [x], _, rfl, by omega, by omega, by go_num, by go_num, by rw [List.length_append]; simp; omega, HG5, HB5, HM⟩
            case measure => simp [intOf]; omega
      · have gb : decide ((l : Int) < (nb : Int)) = false := by rw [decide_eq_false_iff_not]; omega
        have gk : ((l : Int) == (nb : Int)) = true := by simp; omega
        have HM := Lib.hid (hmg.out.takeA HAa.out hjn (fun h => absurd h hln))
        have HSB := Lib.hid (smF_bd HH.out (Xa j))
        have g2 : (Xa j == Xa j) = true := by simp
        have hsm : Hid (smF Xa Ya ma Xb Yb mb (Xa j) = val Xa Ya ma (Xa j) + val Xb Yb mb (Xa j)) := rfl
        clear hmg
        generalize hx : Xa j = x at *
        clear hx
        obtain ⟨⟨q1, q2⟩, q3, q4⟩ := HSB.out
        have HVA1 := Lib.hid (HVA.out x)
        have HVB1 := Lib.hid (HVB.out x)
        clear HSB HVA HVB
        generalize val Xa Ya ma x = va at *
        generalize val Xb Yb mb x = vb at *
        go_wp2
        go_quiet (fail)
        have HBq : Hid (Below w.heap.size w (wr.drewN nq)) := bel_drewN hbel.out nq
        have HGq : Hid (GotP (wr.drewN nq) w.heap.size V M.length (lx M) (ly (smF Xa Ya ma Xb Yb mb) M)) := hgot.out
        have hwsq : w.heap.size ≤ (wr.drewN nq).heap.size := hws
        have c1q : (wr.drewN nq).cell? ⟨ba, oa + j * 2, none⟩ = some (.int .i64 x) := c1
        clear c1
        clear hbel hgot hws
        generalize wr.drewN nq = wq at *
        go_wp2_with (first
          | (go_at_call_has 23 (Value.slice (some ⟨ba, oa, none⟩) na ca); refine (HVA1.out _ HBq).mono ?_; rintro e w3 ⟨rfl, hb3⟩; have HB3 := Lib.hid (HBq.out.trans (hb3.mono hwsq)))
          | (go_at_call_has 23 (Value.slice (some ⟨bb, ob, none⟩) nb cb); refine (HVB1.out _ HB3).mono ?_; rintro e w4 ⟨rfl, hb4⟩; have HB4 := Lib.hid (HB3.out.trans (hb4.mono HB3.out.size)); have HG4 : Hid (GotP w4 w.heap.size V M.length (lx M) (ly (smF Xa Ya ma Xb Yb mb) M)) := World.ownsRow.kept (World.ownsRow.kept HGq.out (grown_below hb3 (Nat.le_refl _) none) (by cases hv : V.ownBlock <;> simp)) (grown_below hb4 (Nat.le_refl _) none) (by cases hv : V.ownBlock <;> simp))
          | (at_builtin; refine wpList_append_own _ rfl _ _ 22 rfl w.heap.size 43 i0 (.agg #[.int .i64 0, .int .i64 0]) 2 16 Try.underlying22 hi0 hz0 hz1 hz2 rfl (by decide) _ M.length _ rfl (World.ownsRow.alloc HG4.out _) ⟨w4.heap.size, 0, none⟩ 1 1 [.int .i64 x, .int .i64 (va + vb)] rfl rfl (cell_two _ _ _ _) (by intro u hu; simp at hu; rcases hu with rfl | rfl <;> rfl) (by unfold maxLen; omega) (by omega) (by have := HB4.out.size; simp; omega) ?_; intro v' w5 hown5 hgrow hnil))
        have HG5 := Lib.hid (gotP_snoc hown5 hsm.out.symm)
        have HB5 := Lib.hid ((HB4.out.alloc HB4.out.size (.cells #[.int .i64 x, .int .i64 (va + vb)] 43)).grown hgrow (by have := HB4.out.size; simp; omega) (fun k hk => HBk.out k hk))
        clear hown5 hgrow hnil HGq HBq HB3 HB4 HG4 hb3 hb4 hwsq c1q
        go_wp2
        go_roundw
        case rel => exact ⟨j + 1, l, M ++ [x], _, rfl, by omega, by omega, by go_num, by go_num, by rw [List.length_append]; simp; omega, HG5, HB5, HM⟩
        case measure => simp [intOf]; omega
    · have ga : decide ((j : Int) < (na : Int)) = false := by rw [decide_eq_false_iff_not]; omega
      by_cases hln : l < nb
      · have hli : (l : Int) < (nb : Int) := by omega
        have gb : decide ((l : Int) < (nb : Int)) = true := by rw [decide_eq_true_eq]; omega
        have gk : ((l : Int) == (nb : Int)) = false := by simp; omega
        obtain ⟨c2, _⟩ := (HH.out.pb.up hbel.out (Nat.le_refl _)).2 l hln
        have HM := Lib.hid (hmg.out.takeB HAb.out hln (fun h => absurd h hjn))
        have HSB := Lib.hid (smF_bd HH.out (Xb l))
        have g2 : (Xb l == Xb l) = true := by simp
        have hsm : Hid (smF Xa Ya ma Xb Yb mb (Xb l) = val Xa Ya ma (Xb l) + val Xb Yb mb (Xb l)) := rfl
        clear hmg
        generalize hx : Xb l = x at *
        clear hx
        obtain ⟨⟨q1, q2⟩, q3, q4⟩ := HSB.out
        have HVA1 := Lib.hid (HVA.out x)
        have HVB1 := Lib.hid (HVB.out x)
        clear HSB HVA HVB
        generalize val Xa Ya ma x = va at *
        generalize val Xb Yb mb x = vb at *
        go_wp2
        go_quiet (fail)
        have HBq : Hid (Below w.heap.size w (wr.drewN nq)) := bel_drewN hbel.out nq
        have HGq : Hid (GotP (wr.drewN nq) w.heap.size V M.length (lx M) (ly (smF Xa Ya ma Xb Yb mb) M)) := hgot.out
        have hwsq : w.heap.size ≤ (wr.drewN nq).heap.size := hws
        have c2q : (wr.drewN nq).cell? ⟨bb, ob + l * 2, none⟩ = some (.int .i64 x) := c2
        clear c2
        clear hbel hgot hws
        generalize wr.drewN nq = wq at *
        go_wp2_with (first
          | (go_at_call_has 23 (Value.slice (some ⟨ba, oa, none⟩) na ca); refine (HVA1.out _ HBq).mono ?_; rintro e w3 ⟨rfl, hb3⟩; have HB3 := Lib.hid (HBq.out.trans (hb3.mono hwsq)))
          | (go_at_call_has 23 (Value.slice (some ⟨bb, ob, none⟩) nb cb); refine (HVB1.out _ HB3).mono ?_; rintro e w4 ⟨rfl, hb4⟩; have HB4 := Lib.hid (HB3.out.trans (hb4.mono HB3.out.size)); have HG4 : Hid (GotP w4 w.heap.size V M.length (lx M) (ly (smF Xa Ya ma Xb Yb mb) M)) := World.ownsRow.kept (World.ownsRow.kept HGq.out (grown_below hb3 (Nat.le_refl _) none) (by cases hv : V.ownBlock <;> simp)) (grown_below hb4 (Nat.le_refl _) none) (by cases hv : V.ownBlock <;> simp))
          | (at_builtin; refine wpList_append_own _ rfl _ _ 22 rfl w.heap.size 43 i0 (.agg #[.int .i64 0, .int .i64 0]) 2 16 Try.underlying22 hi0 hz0 hz1 hz2 rfl (by decide) _ M.length _ rfl (World.ownsRow.alloc HG4.out _) ⟨w4.heap.size, 0, none⟩ 1 1 [.int .i64 x, .int .i64 (va + vb)] rfl rfl (cell_two _ _ _ _) (by intro u hu; simp at hu; rcases hu with rfl | rfl <;> rfl) (by unfold maxLen; omega) (by omega) (by have := HB4.out.size; simp; omega) ?_; intro v' w5 hown5 hgrow hnil))
        have HG5 := Lib.hid (gotP_snoc hown5 hsm.out.symm)
        have HB5 := Lib.hid ((HB4.out.alloc HB4.out.size (.cells #[.int .i64 x, .int .i64 (va + vb)] 43)).grown hgrow (by have := HB4.out.size; simp; omega) (fun k hk => HBk.out k hk))
        clear hown5 hgrow hnil HGq HBq HB3 HB4 HG4 hb3 hb4 hwsq c2q
        go_wp2
        go_roundw
        case rel => exact ⟨j, l + 1, M ++ [x], _, rfl, by omega, by omega, by go_num, by go_num, by rw [List.length_append]; simp; omega, HG5, HB5, HM⟩
        case measure => simp [intOf]; omega
      · have gb : decide ((l : Int) < (nb : Int)) = false := by rw [decide_eq_false_iff_not]; omega
        have ej : j = na := by omega
        have el : l = nb := by omega
        subst ej
        subst el
        have HMd : Hid (M = sumL Xa Xb j l) := by
          have h := hmg.out
          have e1 := HH.out.ea
          have e2 := HH.out.eb
          subst e1
          subst e2
          exact h.done
        obtain ⟨p, c, rfl, hr⟩ := gotP_rd hgot.out
        have HK := Lib.hid (rcheck_any p M.length c (lx M) (ly (smF Xa Ya ma Xb Yb mb) M) wr hr)
        clear hr hmg HH HAa HAb HVA HVB
        generalize smF Xa Ya ma Xb Yb mb = S at *
        by_cases h0 : chkC (lx M) (ly S M) M.length = 0
        · have H0 := Lib.hid h0
          rw [h0] at HK
          clear h0
          generalize hcd : chkC (lx M) (ly S M) M.length = cd at *
          have HCD := Lib.hid hcd
          clear hcd
          go_wp2_with (go_at_call 22; refine HK.out.mono ?_; rintro e w6 ⟨rfl, hb6⟩)
          go_ret2
          rw [← HMd.out]
          exact .inl ⟨HCD.out.trans H0.out, _, rfl, gotP_below hgot.out hb6, hbel.out.trans (hb6.mono hws)⟩
        · generalize hcd : chkC (lx M) (ly S M) M.length = cd at *
          have hne : (cd != 0) = true := by simpa using h0
          have H0 := Lib.hid h0
          have HCD := Lib.hid hcd
          clear h0 hcd
          go_wp2_with (go_at_call 22; refine HK.out.mono ?_; rintro e w6 ⟨rfl, hb6⟩)
          go_ret2
          rw [← HMd.out]
          exact .inr ⟨fun h => H0.out (HCD.out.symm.trans h), by rw [HCD.out]; rfl, hbel.out.trans (hb6.mono hws)⟩
end Go.Proofs.Ytilejadeknaleaa.Cu

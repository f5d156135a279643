/-
  The law InflowSums.
-/
import Derived.Test.YtbcjigociliflaaIfAwk
import Derived.Test.YtbcjigociliflaaQuRow
namespace Go.Proofs.Ytbcjigociliflaa.If
open Go.ChangeShapes Go.WideShapes Go.ChangeAt Go.RowKit
open Go.Proofs.Ytbcjigociliflaa.Qu (sumZ sumZ_congr sumZ_bd Rd md md_lo md_hi mod_any upd)
open Go.Proofs.Ytbcjigociliflaa.Cu (Dk new_any grown_trans)
set_option linter.unusedVariables false

/-- The sum while inflows are added, and while flows out are taken away. -/
def sA (V O : Nat → Int) (m k : Nat) : Int := V 0 - V m + sumZ (bal V O) k
theorem sA_zero (V O : Nat → Int) (m : Nat) : sA V O m 0 = V 0 - V m := by unfold sA; rw [sumZ]; omega
theorem sA_succ (V O : Nat → Int) (m k : Nat) : sA V O m (k + 1) = sA V O m k + bal V O k := by
  unfold sA
  rw [sumZ]
  omega
theorem sA_bd (V O : Nat → Int) (m k : Nat) (hm : m ≤ 13) (hk : k ≤ m) (hV : ∀ i, i < m + 1 → 0 ≤ V i ∧ V i < 200) (hO : ∀ i, i < m → 0 ≤ O i ∧ O i < 40) : -1000 ≤ sA V O m k ∧ sA V O m k ≤ 1000 := by
  have h1 := sumZ_bd O m 39 (fun i hi => by have := hO i hi; omega) k hk
  have h2 := hV k (by omega)
  have h3 := hV m (by omega)
  unfold sA
  rw [bal_sum]
  omega
theorem sA_end (V O : Nat → Int) (m : Nat) : sA V O m m = sumZ O m := by
  unfold sA
  rw [bal_sum]
  omega
theorem sO_bd (O : Nat → Int) (m k : Nat) (hm : m ≤ 13) (hk : k ≤ m) (hO : ∀ i, i < m → 0 ≤ O i ∧ O i < 40) : 0 ≤ sumZ O k ∧ sumZ O k ≤ 1000 := by
  have h1 := sumZ_bd O m 39 (fun i hi => by have := hO i hi; omega) k hk
  omega
theorem bal_up (V O : Nat → Int) (i : Nat) (x : Int) (hi : 1 ≤ i) : bal (upd V i (V i + x)) O (i - 1) = bal V O (i - 1) + x ∧ bal (upd V i (V i + x)) O i = bal V O i - x := by
  unfold bal
  rw [show i - 1 + 1 = i by omega, Qu.upd_same, Qu.upd_other _ _ (show i - 1 ≠ i by omega), Qu.upd_other _ _ (show i + 1 ≠ i by omega)]
  omega

theorem rd_set {w : World} {p : Option Addr} {n : Nat} {f : Nat → Int} {g : Nat} (h : Rd w p n f) (hp : ∀ b off, p = some ⟨b, off, none⟩ → b ≠ g) (j : Nat) (u : Value) : Rd (w.setCell ⟨g, j, none⟩ u) p n f := by
  intro hn
  obtain ⟨b, off, rfl, hb, hc⟩ := h hn
  exact ⟨b, off, rfl, by simpa using hb, fun i hi => cell_st (hc i hi) u (hp b off rfl)⟩
/-- Balance of volumes and flows that are small. -/
theorem bal_small (pv po : Option Addr) (M m cv co : Nat) (V O : Nat → Int) (w : World) (hM : M = m + 1) (hm : m ≤ 13) (hV : ∀ i, i < m + 1 → 0 ≤ V i ∧ V i < 1000) (hO : ∀ i, i < m → 0 ≤ O i ∧ O i < 40) (hr : Rd w pv M V) (hq : Rd w po m O) :
    Calls Try.prog 13 #[.slice pv M cv, .slice po m co] w (LcN 0 m (bal V O) w) := by
  have h := bal_any pv po M m cv co V O w (by omega) (by omega) hr hq
  have e := cB_of (n := M) (m := m) (z := V) (y := O) hM (fun i hi => by have := hV i (by omega); omega) (fun i hi => by have := hO i hi; omega)
  unfold BaP at h
  rw [e, baN_ok e] at h
  exact h

set_option maxRecDepth 100000 in
set_option maxHeartbeats 4000000 in
theorem lsu_walk (p : Option Addr) (n c : Nat) (z : Nat → Int) (at_ by_ : Int) (w : World) (hr : Rd w p n z) (hn : n ≤ 9223372036854775807) (hz : ∀ i, -9223372036854775808 ≤ z i ∧ z i ≤ 9223372036854775807)
    (ha : -9223372036854775808 ≤ at_ ∧ at_ ≤ 9223372036854775807) (hb : -9223372036854775808 ≤ by_ ∧ by_ ≤ 9223372036854775807) :
    Calls Try.prog 5 #[.slice p n c, .int .i64 at_, .int .i64 by_] w fun e w' => e = .returned (.bool true) ∧ Below w.heap.size w w' := by
  have HN := Lib.hid (fun W (hW : W = w) => (show W = w from hW) ▸ new_any p n c z w hn hz hr)
  have HAW := Lib.hid (fun W => awake_any W)
  clear hr hz
  go_enter Try.func5, Try.ntmps5
  go_wp2_with (first
    | (go_at_call 9; refine (HN.out _ rfl).mono ?_; rintro e w1 ⟨rfl, hd1, hb1⟩; have HD1 := Lib.hid hd1; have HB1 := Lib.hid hb1; clear hd1 hb1 HN)
    | (go_at_call 10; refine (run_any _ _ _ _ _ _ HD1.out).mono ?_; rintro e w2 ⟨m, pv, po, cv, co, gv, V, O, rfl, hrn, _, hg2⟩; obtain rfl := hrn.pve; have HRN := Lib.hid hrn; have HB2 : Hid (Below w.heap.size w w2) := below_own HB1.out (Nat.le_refl _) hg2 (fun k hk => by cases hk; exact Nat.le_refl _); obtain ⟨M, hM⟩ : ∃ M, m + 1 = M := ⟨_, rfl⟩; rw [hM]; have HM := Lib.hid hM; clear hrn hg2 hM HD1)
    | (go_at_call 13; refine (bal_small _ _ M m cv co V O w2 HM.out.symm HRN.out.len (fun i hi => by have := HRN.out.vol i hi; omega) HRN.out.out (by have h := HRN.out.own.rd; rw [HM.out] at h; exact h) HRN.out.rd).mono ?_; rintro e w3 ⟨pa, ca, rfl, hra, hb3, hpa⟩; have HRA := Lib.hid hra; have HB3 := Lib.hid hb3; have HPA := Lib.hid hpa; clear hra hb3 hpa))
  have hM := HM.out
  have hm := HRN.out.len
  have hM1 : (1 : Int) ≤ (M : Int) := by omega
  have e1 : (M : Int) - 1 = (m : Int) := by omega
  have e2 : (m : Int) < (M : Int) := by omega
  have e3 : IntKind.i64.wrap ((M : Int) - 1) = (M : Int) - 1 := by rw [IntKind.wrap_i64]; omega
  have HOW : Hid (Qu.Own w3 gv (m + 1) V) := HRN.out.own.below HB3.out HRN.out.own.1
  have c1 : w3.cell? ⟨gv, 0, none⟩ = some (.int .i64 (V 0)) := HOW.out.cell (by omega)
  have c2 : w3.cell? ⟨gv, m, none⟩ = some (.int .i64 (V m)) := HOW.out.cell (by omega)
  obtain ⟨v1, v2⟩ := HRN.out.vol 0 (by omega)
  obtain ⟨v3, v4⟩ := HRN.out.vol m (by omega)
  have e4 : IntKind.i64.wrap (V 0 - V m) = V 0 - V m := by rw [IntKind.wrap_i64]; omega
  clear hM
  go_quiet (fail)
  rw [← sA_zero V O m]
  have HO4 : Hid (Qu.Own (w3.drewN nq) gv (m + 1) V) := HOW.out
  have HR4 : Hid (Rd (w3.drewN nq) pa m (bal V O)) := HRA.out
  have HQ4 : Hid (Rd (w3.drewN nq) po m O) := HRN.out.rd.below (Qu.Below.drewN HB3.out nq) (Nat.le_refl _)
  have HB4 : Hid (Below w.heap.size w (w3.drewN nq)) := Qu.Below.drewN (HB2.out.trans (HB3.out.mono HB2.out.size)) nq
  clear c1 c2 v1 v2 v3 v4 HOW HRA HB3 e1 e2 e3 e4
  generalize w3.drewN nq = w4 at *
  go_wp2
  go_loop [12, 45] (fun s i => ∃ k : Nat, k ≤ m ∧ i = .int .i64 k ∧ s = .int .i64 (sA V O m k)) (fun _ i => m - (intOf i).toNat)
  case atStart => exact ⟨0, Nat.zero_le _, rfl, rfl⟩
  case round =>
    obtain ⟨k, hk, rfl, rfl⟩ := hrel
    obtain ⟨s1, s2⟩ := sA_bd V O m k hm hk HRN.out.vol HRN.out.out
    by_cases hlt : k < m
    · obtain ⟨b, off, rfl, _, hc⟩ := HR4.out (by omega)
      have h5 := hc k hlt
      obtain ⟨s3, s4⟩ := sA_bd V O m (k + 1) hm hlt HRN.out.vol HRN.out.out
      have hs := sA_succ V O m k
      rw [hs] at s3 s4
      have HS := Lib.hid hs
      have hki : (k : Int) < (m : Int) := by omega
      clear hc hs
      generalize bal V O k = bk at *
      generalize sA V O m k = sk at *
      go_wp2
      go_round
      case rel => exact ⟨k + 1, by omega, by go_num, by rw [HS.out]⟩
      case measure => simp [intOf]; omega
    · have hkn : ¬ (k : Int) < (m : Int) := by omega
      have hkm : k = m := by omega
      have hso : sA V O m k = sumZ O m - sumZ O 0 := by rw [hkm, sA_end, sumZ]; omega
      rw [hso]
      clear hso s1 s2 hlt hk
      rw [hkm] at *
      clear hkm
      go_wp2
      clear hkn
      go_loop [12, 57] (fun s i => ∃ k : Nat, k ≤ m ∧ i = .int .i64 k ∧ s = .int .i64 (sumZ O m - sumZ O k)) (fun _ i => m - (intOf i).toNat)
      case atStart => exact ⟨0, Nat.zero_le _, rfl, rfl⟩
      case round =>
        obtain ⟨k, hk, rfl, rfl⟩ := hrel
        obtain ⟨s1, s2⟩ := sO_bd O m m hm (Nat.le_refl _) HRN.out.out
        obtain ⟨s3, s4⟩ := sO_bd O m k hm hk HRN.out.out
        by_cases hlt : k < m
        · obtain ⟨b, off, rfl, _, hc⟩ := HQ4.out (by omega)
          have h5 := hc k hlt
          obtain ⟨o1, o2⟩ := HRN.out.out k hlt
          have hs : sumZ O (k + 1) = sumZ O k + O k := rfl
          have HS := Lib.hid hs
          have hki : (k : Int) < (m : Int) := by omega
          clear hc hs
          generalize O k = ok at *
          generalize sumZ O k = sk at *
          generalize sumZ O m = sm at *
          go_wp2
          go_round
          case rel => exact ⟨k + 1, by omega, by go_num, by rw [HS.out, Int.sub_sub]⟩
          case measure => simp [intOf]; omega
        · have hkn : ¬ (k : Int) < (m : Int) := by omega
          have hkm : k = m := by omega
          have hso : sumZ O m - sumZ O k = 0 := by rw [hkm]; omega
          rw [hso]
          clear hso s1 s2 s3 s4 hlt hk
          rw [hkm] at *
          clear hkm
          have hM2 : M = m + 1 := HM.out.symm
          by_cases hM3 : M < 3
          · have x3 : (M : Int) < 3 := by omega
            clear hM2
            go_wp2_with (go_at_call 8; refine (HAW.out _).mono ?_; rintro e w5 ⟨rfl, hb5⟩)
            go_ret
            exact ⟨rfl, HB4.out.trans (hb5.mono HB4.out.size)⟩
          · have x3 : ¬ (M : Int) < 3 := by omega
            have x4 : IntKind.i64.wrap ((M : Int) - 2) = (M : Int) - 2 := by rw [IntKind.wrap_i64]; omega
            have HX1 := Lib.hid (fun W => mod_any at_ ((M : Int) - 2) W ha (by omega) (by omega))
            have HX2 := Lib.hid (fun W => mod_any by_ 30 W hb (by omega) (by omega))
            obtain ⟨r, hr⟩ : ∃ r : Nat, md at_ ((M : Int) - 2) = (r : Int) := ⟨(md at_ ((M : Int) - 2)).toNat, by have := md_lo at_ ((M : Int) - 2) (by omega); omega⟩
            have hr2 := md_hi at_ ((M : Int) - 2) (by omega)
            have b1 := md_lo by_ 30 (by omega)
            have b2 := md_hi by_ 30 (by omega)
            rw [hr] at HX1 hr2
            obtain ⟨i, hi⟩ : ∃ i : Nat, r + 1 = i := ⟨_, rfl⟩
            have hi1 : 1 + (r : Int) = (i : Int) := by omega
            have i1 : 1 ≤ i := by omega
            have i2 : i < m := by omega
            generalize md by_ 30 = x at *
            clear hr hr2 hM2
            have d1 := HO4.out.cell (i := i) (by omega)
            have d2 := HO4.out.free (i := i) (by omega)
            obtain ⟨v1, v2⟩ := HRN.out.vol i (by omega)
            have i3 : (i : Int) < (M : Int) := by have := HM.out; omega
            obtain ⟨w5, hw5⟩ : ∃ w5, w4.setCell ⟨gv, i, none⟩ (.int .i64 (V i + x)) = w5 := ⟨_, rfl⟩
            have HO5 : Hid (Qu.Own w5 gv (m + 1) (upd V i (V i + x))) := by rw [← hw5]; exact HO4.out.store (by omega) _
            have HQ5 : Hid (Rd w5 po m O) := by rw [← hw5]; exact rd_set HQ4.out (fun b off e => (HRN.out.apart b off e).1) i _
            have HR5 : Hid (Rd w5 pa m (bal V O)) := by rw [← hw5]; exact rd_set HR4.out (fun b off e => by have h1 := HPA.out b off e; have h2 := HRN.out.own.1; omega) i _
            have HB5 : Hid (Below w.heap.size w w5) := by rw [← hw5]; exact HB4.out.setCell (show w.heap.size ≤ gv from Nat.le_trans HB1.out.size HRN.out.gvl) _
            have HBA : Hid (Calls Try.prog 13 #[.slice (some ⟨gv, 0, none⟩) M cv, .slice po m co] w5 (LcN 0 m (bal (upd V i (V i + x)) O) w5)) :=
              bal_small _ _ M m cv co _ O w5 HM.out.symm hm (fun j hj => by
                by_cases e : j = i
                · subst e; rw [Qu.upd_same]; omega
                · rw [Qu.upd_other _ _ e]; have := HRN.out.vol j hj; omega) HRN.out.out (by have h := HO5.out.rd; rw [HM.out] at h; exact h) HQ5.out
            have HW5 := Lib.hid hw5
            clear HO4 HQ4 HR4 HB4 hw5
            go_upto_region 22 with (first
              | (go_at_call_has 16 (Value.int .i64 30); refine (HX2.out _).mono ?_; rintro e w' ⟨rfl, rfl⟩)
              | (go_at_call 16; refine (HX1.out _).mono ?_; rintro e w' ⟨rfl, rfl⟩))
            rw [HW5.out]
            go_wp2_with (go_at_call 13; refine HBA.out.mono ?_; rintro e w6 ⟨pb, cb, rfl, hrb, hb6, _⟩; have HRB := Lib.hid hrb; have HB6 := Lib.hid hb6; clear hrb hb6)
            obtain ⟨ba, oa, rfl, hba, hca⟩ := (HR5.out.below HB6.out (Nat.le_refl _)) (by omega)
            obtain ⟨bb, ob, rfl, hbb, hcb⟩ := HRB.out (by omega)
            obtain ⟨j, hj⟩ : ∃ j : Nat, i - 1 = j := ⟨_, rfl⟩
            obtain ⟨u1, u2⟩ := bal_up V O i x i1
            have l1 := hcb (i - 1) (by omega)
            have l2 := hca (i - 1) (by omega)
            have l3 := hcb i i2
            have l4 := hca i i2
            rw [u1] at l1
            rw [u2] at l3
            have g1 : -1000 ≤ bal V O (i - 1) ∧ bal V O (i - 1) ≤ 1000 := by
              have h1 := HRN.out.vol (i - 1) (by omega)
              have h2 := HRN.out.vol (i - 1 + 1) (by omega)
              have h3 := HRN.out.out (i - 1) (by omega)
              unfold bal
              omega
            have g2 : -1000 ≤ bal V O i ∧ bal V O i ≤ 1000 := by
              have h1 := HRN.out.vol i (by omega)
              have h2 := HRN.out.vol (i + 1) (by omega)
              have h3 := HRN.out.out i (by omega)
              unfold bal
              omega
            rw [hj] at l1 l2 g1
            clear u1 u2 hca hcb HR5 HRB HQ5 HO5 HW5 HBA HX1 HX2
            generalize bal V O j = A1 at *
            generalize bal V O i = A2 at *
            obtain ⟨g1, g3⟩ := g1
            obtain ⟨g2, g4⟩ := g2
            have e5 : IntKind.i64.wrap ((i : Int) - 1) = (j : Int) := by rw [IntKind.wrap_i64]; omega
            have e7 : IntKind.i64.wrap (A1 + x) = A1 + x := by rw [IntKind.wrap_i64]; omega
            have e8 : IntKind.i64.wrap (A2 - x) = A2 - x := by rw [IntKind.wrap_i64]; omega
            have e9 : (j : Int) < (m : Int) := by omega
            have e10 : (i : Int) < (m : Int) := by omega
            have e11 : (0 : Int) ≤ (j : Int) := by omega
            have HS0 : Hid (Below w.heap.size w w6) := HB5.out.trans (HB6.out.mono HB5.out.size)
            have HST : Hid (∀ W, (W.cell? ⟨bb, ob + j, none⟩ = some (.int .i64 (A1 + x)) ∧ W.cell? ⟨ba, oa + j, none⟩ = some (.int .i64 A1) ∧ W.cell? ⟨bb, ob + i, none⟩ = some (.int .i64 (A2 - x)) ∧ W.cell? ⟨ba, oa + i, none⟩ = some (.int .i64 A2) ∧ Hid (Below w.heap.size w W)) → Calls Try.prog 8 #[] W fun e w' => e = .returned (.bool true) ∧ (w'.cell? ⟨bb, ob + j, none⟩ = some (.int .i64 (A1 + x)) ∧ w'.cell? ⟨ba, oa + j, none⟩ = some (.int .i64 A1) ∧ w'.cell? ⟨bb, ob + i, none⟩ = some (.int .i64 (A2 - x)) ∧ w'.cell? ⟨ba, oa + i, none⟩ = some (.int .i64 A2) ∧ Hid (Below w.heap.size w w'))) := fun W ⟨s1, s2, s3, s4, s5⟩ => (HAW.out W).mono fun e w' ⟨he, hb⟩ =>
              ⟨he, (hb.cell (p := ⟨bb, ob + j, none⟩) (World.block_lt_of_cell? _ _ s1)).trans s1, (hb.cell (p := ⟨ba, oa + j, none⟩) (World.block_lt_of_cell? _ _ s2)).trans s2, (hb.cell (p := ⟨bb, ob + i, none⟩) (World.block_lt_of_cell? _ _ s3)).trans s3, (hb.cell (p := ⟨ba, oa + i, none⟩) (World.block_lt_of_cell? _ _ s4)).trans s4, s5.out.trans (hb.mono s5.out.size)⟩
            clear hj HB5 HB6 d1 d2
            go_region_held3 (fun W => W.cell? ⟨bb, ob + j, none⟩ = some (.int .i64 (A1 + x)) ∧ W.cell? ⟨ba, oa + j, none⟩ = some (.int .i64 A1) ∧ W.cell? ⟨bb, ob + i, none⟩ = some (.int .i64 (A2 - x)) ∧ W.cell? ⟨ba, oa + i, none⟩ = some (.int .i64 A2) ∧ Hid (Below w.heap.size w W)) (first | exact ⟨l1, l2, l3, l4, HS0⟩ | exact ⟨l1, l2, l3, l4, below_drew HS0.out⟩ | assumption | go_keep)
              (first
                | (go_at_call 8; refine (HST.out _ (by assumption)).mono ?_; rintro e w7 ⟨rfl, hS⟩)
                | fail)
            go_wp2_with fail
            go_ret
            exact ⟨rfl, hS.2.2.2.2.out⟩
end Go.Proofs.Ytbcjigociliflaa.If

/-
  The law InflowUncertain.
-/
import Derived.Test.YtbcjigociliflaaIfLsu
namespace Go.Proofs.Ytbcjigociliflaa.If
open Go.ChangeShapes Go.WideShapes Go.ChangeAt Go.RowKit
open Go.Proofs.Ytbcjigociliflaa.Qu (sumZ sumZ_congr sumZ_bd Rd md md_lo md_hi mod_any upd Got got_nil got_block)
open Go.Proofs.Ytbcjigociliflaa.Cu (Dk NxP next_any new_any grown_trans grown_refl grown_own RdP Pts)
set_option linter.unusedVariables false

/-- Uncertain of volumes and flows that are small. -/
theorem unc_small (pv po : Option Addr) (M m cv co : Nat) (V O : Nat → Int) (x : Int) (w : World) (hM : M = m + 1) (hm : m ≤ 13) (hV : ∀ i, i < m + 1 → 0 ≤ V i ∧ V i < 1000) (hO : ∀ i, i < m → 0 ≤ O i ∧ O i < 40) (hx : 0 ≤ x ∧ x ≤ 1000) (hr : Rd w pv M V) (hq : Rd w po m O) :
    Calls Try.prog 17 #[.slice pv M cv, .slice po m co, .int .i64 x] w fun e w' => ∃ p cap, e = .returned (.tuple #[.slice p m cap, .int .i64 0]) ∧ RdP w' p m (unL V O x) (unM V O x) ∧ Below w.heap.size w w' ∧ ∀ b off, p = some ⟨b, off, none⟩ → w.heap.size ≤ b := by
  have h := unc_any pv po M m cv co V O x w (by omega) (by omega) hr hq
  have e := cB_of (n := M) (m := m) (z := V) (y := O) hM (fun i hi => by have := hV i (by omega); omega) (fun i hi => by have := hO i hi; omega)
  have e2 : btB 0 x 274877906944 = true := btB_yes (by omega)
  unfold UcP at h
  rw [(uc_ok e e2).1, (uc_ok e e2).2] at h
  exact h
theorem rd_grown {w w' : World} {p : Option Addr} {n : Nat} {f : Nat → Int} {r : Option Nat} (h : Rd w p n f) (hg : w.grownBy w' r) (hp : ∀ b off, p = some ⟨b, off, none⟩ → some b ≠ r) : Rd w' p n f := by
  intro hn
  obtain ⟨b, off, rfl, hb, hc⟩ := h hn
  exact ⟨b, off, rfl, Nat.lt_of_lt_of_le hb hg.size, fun i hi => hg.cell (hc i hi) (hp b off rfl)⟩
theorem rdp_grown {w w' : World} {p : Option Addr} {n : Nat} {X Y : Nat → Int} {r : Option Nat} (h : RdP w p n X Y) (hg : w.grownBy w' r) (hp : ∀ b off, p = some ⟨b, off, none⟩ → some b ≠ r) : RdP w' p n X Y := by
  intro hn
  obtain ⟨b, off, rfl, hpt⟩ := h hn
  exact ⟨b, off, rfl, hpt.grown hg (hp b off rfl)⟩
/-- A volume that was measured wrong by up to x. -/
def Nr (V F : Nat → Int) (x : Int) (k : Nat) : Prop := ∀ i, i < k → max 0 (V i - x) ≤ F i ∧ F i ≤ V i + x
theorem nr_next {V F : Nat → Int} {x r : Int} {k : Nat} (h : Nr V F x k) (hx : 0 ≤ x) (hv : 0 ≤ V k) (h0 : 0 ≤ r) (h1 : r ≤ 2 * x) : Nr V (upd F k (max 0 (V k + r - x))) x (k + 1) := fun i hi => by
  by_cases e : i = k
  · subst e; rw [Qu.upd_same]; omega
  · rw [Qu.upd_other _ _ e]; exact h i (by omega)
theorem un_in {V F O : Nat → Int} {x : Int} {M m k : Nat} (h : Nr V F x M) (hM : M = m + 1) (hk : k < m) (hx : 0 ≤ x) (hv : 0 ≤ V k) : ¬ bal F O k < unL V O x k ∧ ¬ unM V O x k < bal F O k ∧ ¬ unL V O x k < unL V O (x + 3) k ∧ ¬ unM V O (x + 3) k < unM V O x k := by
  have h1 := h k (by omega)
  have h2 := h (k + 1) (by omega)
  unfold bal unL unM
  omega

set_option maxRecDepth 100000 in
set_option maxHeartbeats 4000000 in
theorem lun_walk (p : Option Addr) (n c : Nat) (z : Nat → Int) (off_ : Int) (w : World) (hr : Rd w p n z) (hn : n ≤ 9223372036854775807) (hz : ∀ i, -9223372036854775808 ≤ z i ∧ z i ≤ 9223372036854775807)
    (ha : -9223372036854775808 ≤ off_ ∧ off_ ≤ 9223372036854775807) :
    Calls Try.prog 6 #[.slice p n c, .int .i64 off_] w fun e w' => e = .returned (.bool true) ∧ Below w.heap.size w w' := by
  have HN := Lib.hid (fun W (hW : W = w) => (show W = w from hW) ▸ new_any p n c z w hn hz hr)
  have HAW := Lib.hid (fun W => awake_any W)
  have HX := Lib.hid (fun W => mod_any off_ 30 W ha (by omega) (by omega))
  have b1 := md_lo off_ 30 (by omega)
  have b2 := md_hi off_ 30 (by omega)
  generalize md off_ 30 = x at *
  obtain ⟨i0, hi, hz0, hz1, hz2⟩ := info_parts Qu.Try.info3
  clear hr hz
  go_enter Try.func6, Try.ntmps6
  go_wp2_with (first
    | (go_at_call 9; refine (HN.out _ rfl).mono ?_; rintro e w1 ⟨rfl, hd1, hb1⟩; have HD1 := Lib.hid hd1; have HB1 := Lib.hid hb1; clear hd1 hb1 HN)
    | (go_at_call 10; refine (run_any _ _ _ _ _ _ HD1.out).mono ?_; rintro e w2 ⟨m, pv, po, cv, co, gv, V, O, rfl, hrn, hd2, hg2⟩; obtain rfl := hrn.pve; have HRN := Lib.hid hrn; have HD2 := Lib.hid hd2; have HB2 : Hid (Below w.heap.size w w2) := below_own HB1.out (Nat.le_refl _) hg2 (fun k hk => by cases hk; exact Nat.le_refl _); obtain ⟨M, hM⟩ : ∃ M, m + 1 = M := ⟨_, rfl⟩; rw [hM]; have HM := Lib.hid hM; clear hrn hg2 hM hd2)
    | (go_at_call 16; refine (HX.out _).mono ?_; rintro e w' ⟨rfl, rfl⟩)
    | (go_at_call 17; refine (unc_small _ _ M m cv co V O x w2 HM.out.symm HRN.out.len (fun i hi => by have := HRN.out.vol i hi; omega) HRN.out.out (by omega) (by have h := HRN.out.own.rd; rw [HM.out] at h; exact h) HRN.out.rd).mono ?_; rintro e w3 ⟨pb, cb, rfl, hrb, hb3, hpb⟩; have HRB := Lib.hid hrb; have HB3 := Lib.hid hb3; have HPB := Lib.hid hpb; clear hrb hb3 hpb))
  have hm := HRN.out.len
  have hM2 : M ≤ 14 := by have := HM.out; omega
  have hgl : w.heap.size < w2.heap.size := HD2.out.lt
  have hs3 : w2.heap.size ≤ w3.heap.size := HB3.out.size
  have HV3 : Hid (Rd w3 (some ⟨gv, 0, none⟩) M V) := by
    have h := (HRN.out.own.below HB3.out HRN.out.own.1).rd
    rw [HM.out] at h
    exact h
  have HQ3 : Hid (Rd w3 po m O) := HRN.out.rd.below HB3.out (Nat.le_refl _)
  have HD3 : Hid (Dk w3 w.heap.size p n c z) := HD2.out.below HB3.out hgl
  have HG0 := Lib.hid (got_nil w3 w3.heap.size V)
  have HN0 : Hid (Nr V V x 0) := fun i hi => absurd hi (Nat.not_lt_zero _)
  have HGR0 := Lib.hid (grown_refl w3 (some w.heap.size))
  have HBW : Hid (Below w.heap.size w w3) := HB2.out.trans (HB3.out.mono HB2.out.size)
  have hgvl : w.heap.size < gv := by have h1 := HRN.out.gvl; have h2 := HB1.out.size; have h3 := World.block_lt_of_cell? _ _ (show w1.cell? ⟨w.heap.size, 0, none⟩ = _ from HD1.out.list); simp at h3; omega
  have HPO : Hid (∀ b off, po = some ⟨b, off, none⟩ → w.heap.size < b) := fun b off e => by have h1 := (HRN.out.apart b off e).2; have h3 := HD1.out.lt; omega
  have HPB2 : Hid (∀ b off, pb = some ⟨b, off, none⟩ → w.heap.size < b) := fun b off e => by have h1 := HPB.out b off e; omega
  clear HD1 HD2 HB2 HB3 HX HPB
  go_loopw [11, 37] (fun v i wr => ∃ (k : Nat) (Vv : Value) (F : Nat → Int), Vv = v ∧ k ≤ M ∧ i = .int .i64 k ∧ Hid (Got wr w3.heap.size v k F) ∧ Hid (Nr V F x k) ∧ Hid (Dk wr w.heap.size p n c z) ∧ Hid (w3.grownBy wr (some w.heap.size))) (fun _ i _ => M - (intOf i).toNat)
  case atStart => exact ⟨0, _, V, rfl, Nat.zero_le _, rfl, HG0, HN0, HD3, HGR0⟩
  case round =>
    clear HG0 HN0 HGR0 HD3
    obtain ⟨k, Vv, F, rfl, hk, rfl, hgot, hnr, hdk, hgr⟩ := hrel
    have HV4 : Hid (Rd wr (some ⟨gv, 0, none⟩) M V) := rd_grown HV3.out hgr.out (fun b off e => by cases e; intro e2; have := Option.some.inj e2; omega)
    by_cases hlt : k < M
    · obtain ⟨_, _, e0, _, hc⟩ := HV4.out (by omega)
      cases e0
      have h5 := hc k hlt
      rw [Nat.zero_add] at h5
      obtain ⟨v1, v2⟩ := HRN.out.vol k (by have := HM.out; omega)
      have hki : (k : Int) < (M : Int) := by omega
      have HNX := Lib.hid (fun r h0 h1 => nr_next (r := r) hnr.out (by omega) v1 h0 h1)
      have HGL : Hid (∀ k, Value.ownBlock Vv = some k → k ≠ w.heap.size) := fun k hk => by have := got_block hgot.out k hk; omega
      have hne : Hid (Vv.ownBlock = none ∨ Vv.ownBlock ≠ some w.heap.size) := .inr fun e => HGL.out _ e rfl
      have hws := hgr.out.size
      clear hc
      generalize V k = vk at *
      go_wp2_with (first
        | (go_at_call 24; refine (next_any _ p n c z _ _ hdk.out (by omega)).mono ?_; rintro e w5 ⟨r, rfl, hr1, hr2, hd5, hg5⟩)
        | (at_builtin; refine wpList_append_own _ rfl _ _ 22 rfl w3.heap.size 3 i0 (.int .i64 0) 1 8 Try.underlying22 hi hz0 hz1 hz2 rfl (by decide) _ k _ rfl ((hgot.out.kept hg5 hne.out).alloc _) ⟨w5.heap.size, 0, none⟩ 1 1 [.int .i64 (max 0 (vk + r - x))] rfl rfl (cell_one _ _ _) (fun u hu => by simp at hu; subst hu; rfl) (by unfold maxLen; omega) (by omega) (by have := hg5.size; simp; omega) ?_; intro v' w6 hown' hgrow hnil))
      have HG' : Hid (Got w6 w3.heap.size v' (k + 1) (upd F k (max 0 (vk + r - x)))) := got_extend hown'
      have HNR' : Hid (Nr V (upd F k (max 0 (vk + r - x))) x (k + 1)) := HNX.out r hr1 (by omega)
      have HD' : Hid (Dk w6 w.heap.size p n c z) := (hd5.alloc _).grown hgrow (fun e => HGL.out _ e.symm rfl) (fun k hk => by have := got_block hgot.out k hk; omega)
      have HR' : Hid (w3.grownBy w6 (some w.heap.size)) := grown_own (grown_trans (grown_trans hgr.out hg5) (World.grownBy_alloc w5 _ (some w.heap.size))) hgrow (fun k hk => got_block hgot.out k hk)
      clear hown' hgrow hnil hd5 hg5 hgot hdk hgr hnr HNX HV4
      go_wp2
      go_roundw
      case rel => exact ⟨k + 1, _, _, rfl, by omega, by go_num, HG', HNR', HD', HR'⟩
      case measure => simp [intOf]; omega
    · have hkn : ¬ (k : Int) < (M : Int) := by omega
      have hkM : k = M := by omega
      rw [hkM] at hgot hnr
      obtain ⟨pw, cw, rfl, hrw, hpw⟩ := got_new hgot.out
      have HRW := Lib.hid hrw
      have HQ4 : Hid (Rd wr po m O) := rd_grown HQ3.out hgr.out (fun b off e => by intro e2; have := Option.some.inj e2; have := HPO.out b off e; omega)
      have HP4 : Hid (RdP wr pb m (unL V O x) (unM V O x)) := rdp_grown HRB.out hgr.out (fun b off e => by intro e2; have := Option.some.inj e2; have := HPB2.out b off e; omega)
      have HB4 : Hid (Below w.heap.size w wr) := below_own HBW.out (Nat.le_refl _) hgr.out (fun k hk => by cases hk; exact Nat.le_refl _)
      have HF : Hid (∀ i, i < m + 1 → 0 ≤ F i ∧ F i < 1000) := fun i hi => by
        have h1 := hnr.out i (by have := HM.out; omega)
        have h2 := HRN.out.vol i hi
        omega
      have HVV : Hid (∀ i, i < m + 1 → 0 ≤ V i ∧ V i < 1000) := fun i hi => by have := HRN.out.vol i hi; omega
      have HBA := Lib.hid (bal_small pw po M m cw co F O wr HM.out.symm hm HF.out HRN.out.out HRW.out HQ4.out)
      have HUN : Hid (∀ W, Below wr.heap.size wr W → Calls Try.prog 17 #[.slice (some ⟨gv, 0, none⟩) M cv, .slice po m co, .int .i64 (x + 3)] W fun e w' => ∃ p cap, e = .returned (.tuple #[.slice p m cap, .int .i64 0]) ∧ RdP w' p m (unL V O (x + 3)) (unM V O (x + 3)) ∧ Below W.heap.size W w' ∧ ∀ b off, p = some ⟨b, off, none⟩ → W.heap.size ≤ b) := fun W hW =>
        unc_small _ po M m cv co V O (x + 3) W HM.out.symm hm HVV.out HRN.out.out (by omega) (HV4.out.below hW (Nat.le_refl _)) (HQ4.out.below hW (Nat.le_refl _))
      have e1 : IntKind.i64.wrap (x + 3) = x + 3 := by rw [IntKind.wrap_i64]; omega
      clear hrw hgot hdk hgr HQ3 HV3 HBW hlt hk hpw HF hkM hi hz0 hz1 hz2
      go_wp2_with (first
        | (go_at_call 13; refine HBA.out.mono ?_; rintro e w7 ⟨pa, ca, rfl, hra, hb7, _⟩; have HRA := Lib.hid hra; have HB7 := Lib.hid hb7; clear hra hb7 HBA)
        | (go_at_call 17; refine (HUN.out _ HB7.out).mono ?_; rintro e w8 ⟨pc, cc, rfl, hrc, hb8, _⟩; have HRC := Lib.hid hrc; have HB8 := Lib.hid hb8; clear hrc hb8 HUN))
      have HRA8 : Hid (Rd w8 pa m (bal F O)) := HRA.out.below HB8.out (Nat.le_refl _)
      have HP8 : Hid (RdP w8 pb m (unL V O x) (unM V O x)) := (HP4.out.below HB7.out (Nat.le_refl _)).below HB8.out (Nat.le_refl _)
      have HB9 : Hid (Below w.heap.size w w8) := (HB4.out.trans (HB7.out.mono HB4.out.size)).trans (HB8.out.mono (Nat.le_trans HB4.out.size HB7.out.size))
      clear HRA HP4 HB4 HB7 HB8 HQ4 HV4
      go_loopw [91] (fun i wq => ∃ (j q : Nat), j ≤ m ∧ i = .int .i64 j ∧ Hid (wq = w8.drewN q)) (fun i _ => m - (intOf i).toNat)
      case atStart => exact ⟨0, 0, Nat.zero_le _, rfl, rfl⟩
      case round =>
        obtain ⟨j, q, hj, rfl, hwq⟩ := hrel
        by_cases hlt : j < m
        · obtain ⟨x1, x2, x3, x4⟩ := un_in (O := O) hnr.out HM.out.symm hlt b1 (HRN.out.vol j (by omega)).1
          obtain ⟨ba, oa, rfl, _, hca⟩ := HRA8.out (by omega)
          obtain ⟨bb, ob, rfl, hpb⟩ := HP8.out (by omega)
          obtain ⟨bc, oc, rfl, hpc⟩ := HRC.out (by omega)
          obtain ⟨g1, g2⟩ := hpb.2 j hlt
          obtain ⟨g3, g4⟩ := hpc.2 j hlt
          have l1 : wr.cell? ⟨ba, oa + j, none⟩ = some (.int .i64 (bal F O j)) := by rw [hwq.out]; exact hca j hlt
          have l2 : wr.cell? ⟨bb, ob + j * 2, none⟩ = some (.int .i64 (unL V O x j)) := by rw [hwq.out]; exact g1
          have l3 : wr.cell? ⟨bb, ob + j * 2 + 1, none⟩ = some (.int .i64 (unM V O x j)) := by rw [hwq.out]; exact g2
          have l4 : wr.cell? ⟨bc, oc + j * 2, none⟩ = some (.int .i64 (unL V O (x + 3) j)) := by rw [hwq.out]; exact g3
          have l5 : wr.cell? ⟨bc, oc + j * 2 + 1, none⟩ = some (.int .i64 (unM V O (x + 3) j)) := by rw [hwq.out]; exact g4
          have d1 := df x1
          have d2 := df x2
          have d3 := df x3
          have d4 := df x4
          have hji : (j : Int) < (m : Int) := by omega
          clear hca hpb hpc g1 g2 g3 g4
          generalize bal F O j = A at *
          generalize unL V O x j = L1 at *
          generalize unM V O x j = M1 at *
          generalize unL V O (x + 3) j = L3 at *
          generalize unM V O (x + 3) j = M3 at *
          go_wp2
          go_quiet (fail)
          clear l1 l2 l3 l4 l5
          go_wp2
          go_roundw
          case rel => exact ⟨j + 1, _, by omega, by go_num, by show _ = _; rw [hwq.out, World.drewN_drewN]⟩
          case measure => simp [intOf]; omega
        · have hjm : ¬ (j : Int) < (m : Int) := by omega
          have HBE : Hid (Below w.heap.size w wr) := by rw [hwq.out]; exact Qu.Below.drewN HB9.out q
          clear hlt hj
          go_wp2_with (go_at_call 8; refine (HAW.out _).mono ?_; rintro e w9 ⟨rfl, hb9⟩)
          go_ret
          exact ⟨rfl, HBE.out.trans (hb9.mono HBE.out.size)⟩
end Go.Proofs.Ytbcjigociliflaa.If

/-
  The law InflowSmooth.
-/
import Derived.Test.YtbcjigociliflaaIfLun
namespace Go.Proofs.Ytbcjigociliflaa.If
open Go.ChangeShapes Go.WideShapes Go.ChangeAt Go.RowKit
open Go.Proofs.Ytbcjigociliflaa.Qu (sumZ sumZ_congr sumZ_bd Rd md md_lo md_hi mod_any upd Got got_nil got_block)
open Go.Proofs.Ytbcjigociliflaa.Cu (Dk NxP next_any new_any grown_trans grown_refl grown_own)
set_option linter.unusedVariables false

/-- Smooth of a list whose values are in range. -/
theorem smo_small (p : Option Addr) (n c wd : Nat) (z : Nat → Int) (w : World) (hn : n ≤ 4096) (hw : 1 ≤ wd ∧ wd ≤ 4096) (hz : ∀ i, i < n → -274877906944 ≤ z i ∧ z i ≤ 274877906944) (hr : Rd w p n z) :
    Calls Try.prog 20 #[.slice p n c, .int .i64 (wd : Int)] w (LcP 0 n (sm z n wd) w) := smo_ok p n c wd z w hw hn hz hr
theorem sum_bd (z : Nat → Int) (n k : Nat) (hk : k ≤ n) (hn : n ≤ 4096) (hz : ∀ i, i < n → -274877906944 ≤ z i ∧ z i ≤ 274877906944) : -1200000000000000 ≤ sumZ z k ∧ sumZ z k ≤ 1200000000000000 := by
  have h := gsum_bd z 0 k (fun j hj => by rw [Nat.zero_add]; exact hz j (by omega))
  rw [gs_zero] at h
  omega

set_option maxRecDepth 100000 in
set_option maxHeartbeats 4000000 in
theorem lsm_walk (p : Option Addr) (n c : Nat) (z : Nat → Int) (width : Int) (w : World) (hr : Rd w p n z) (hn : n ≤ 9223372036854775807) (hz : ∀ i, -9223372036854775808 ≤ z i ∧ z i ≤ 9223372036854775807)
    (ha : -9223372036854775808 ≤ width ∧ width ≤ 9223372036854775807) :
    Calls Try.prog 4 #[.slice p n c, .int .i64 width] w fun e w' => e = .returned (.bool true) ∧ Below w.heap.size w w' := by
  have HN := Lib.hid (fun W (hW : W = w) => (show W = w from hW) ▸ new_any p n c z w hn hz hr)
  have HAW := Lib.hid (fun W => awake_any W)
  have HX := Lib.hid (fun W => mod_any width 8 W ha (by omega) (by omega))
  obtain ⟨x0, hx0⟩ : ∃ x0 : Nat, md width 8 = (x0 : Int) := ⟨(md width 8).toNat, by have := md_lo width 8 (by omega); omega⟩
  have hx1 := md_hi width 8 (by omega)
  rw [hx0] at HX hx1
  obtain ⟨wd, hwd⟩ : ∃ wd, x0 + 1 = wd := ⟨_, rfl⟩
  have hw0 : 1 + (x0 : Int) = (wd : Int) := by omega
  have hw1 : 1 ≤ wd := by omega
  have hw2 : wd ≤ 8 := by omega
  obtain ⟨i0, hi, hz0, hz1, hz2⟩ := info_parts Qu.Try.info3
  clear hr hz hx0 hwd
  go_enter Try.func4, Try.ntmps4
  go_wp2_with (first
    | (go_at_call 9; refine (HN.out _ rfl).mono ?_; rintro e w1 ⟨rfl, hd1, hb1⟩; have HD1 := Lib.hid hd1; have HB1 := Lib.hid hb1; clear hd1 hb1 HN)
    | (go_at_call 24; refine (next_any _ p n c z _ _ HD1.out (by omega)).mono ?_; rintro e w2 ⟨r, rfl, hr1, hr2, hd2, hg2⟩; have HD2 := Lib.hid hd2; have HB2 : Hid (Below w.heap.size w w2) := below_own HB1.out (Nat.le_refl _) hg2 (fun k hk => by cases hk; exact Nat.le_refl _); clear hd2 hg2; obtain ⟨kk, rfl⟩ : ∃ kk : Nat, r = (kk : Int) := ⟨r.toNat, (by omega)⟩))
  have hgl := HD2.out.lt
  have HG0 := Lib.hid (got_nil w2 w2.heap.size (fun _ => 0))
  have hkk : kk ≤ 29 := by omega
  clear HD1 hr1 hr2
  go_loopw [6, 7] (fun v i wr => ∃ (j k : Nat) (V : Value) (F : Nat → Int), V = v ∧ j + k ≤ 29 ∧ i = .int .i64 k ∧ Hid (Got wr w2.heap.size v j F) ∧ Hid (∀ i, i < j → -20 ≤ F i ∧ F i ≤ 40) ∧ Hid (Dk wr w.heap.size p n c z) ∧ Hid (Below w.heap.size w wr) ∧ w2.heap.size ≤ wr.heap.size) (fun _ i _ => (intOf i).toNat)
  case atStart => exact ⟨0, kk, _, fun _ => 0, rfl, by omega, rfl, HG0, fun i hi => absurd hi (Nat.not_lt_zero _), HD2, HB2, Nat.le_refl _⟩
  case round =>
    clear HG0 HB2 HD2 hkk
    obtain ⟨j, k, V, F, rfl, hjk, rfl, hgot, hf, hdk, hbel, hws⟩ := hrel
    by_cases hk : 0 < k
    · have hk' : (0 : Int) < (k : Int) := by omega
      have HGL : Hid (∀ k, Value.ownBlock V = some k → k ≠ w.heap.size) := fun k hk => by have := got_block hgot.out k hk; omega
      have hne : Hid (V.ownBlock = none ∨ V.ownBlock ≠ some w.heap.size) := .inr fun e => HGL.out _ e rfl
      go_wp2_with (first
        | (go_at_call 24; refine (next_any _ p n c z _ _ hdk.out (by omega)).mono ?_; rintro e w5 ⟨r, rfl, hr1, hr2, hd5, hg5⟩)
        | (at_builtin; refine wpList_append_own _ rfl _ _ 22 rfl w2.heap.size 3 i0 (.int .i64 0) 1 8 Try.underlying22 hi hz0 hz1 hz2 rfl (by decide) _ j _ rfl ((hgot.out.kept hg5 hne.out).alloc _) ⟨w5.heap.size, 0, none⟩ 1 1 [.int .i64 (r - 20)] rfl rfl (cell_one _ _ _) (fun u hu => by simp at hu; subst hu; rfl) (by unfold maxLen; omega) (by omega) (by have := hg5.size; simp; omega) ?_; intro v' w6 hown' hgrow hnil))
      have HG' : Hid (Got w6 w2.heap.size v' (j + 1) (upd F j (r - 20))) := got_extend hown'
      have HF' : Hid (∀ i, i < j + 1 → -20 ≤ upd F j (r - 20) i ∧ upd F j (r - 20) i ≤ 40) := fun i hi => by
        by_cases e : i = j
        · subst e; rw [Qu.upd_same]; omega
        · rw [Qu.upd_other _ _ e]; exact hf.out i (by omega)
      have HD' : Hid (Dk w6 w.heap.size p n c z) := (hd5.alloc _).grown hgrow (fun e => HGL.out _ e.symm rfl) (fun k hk => by have := got_block hgot.out k hk; omega)
      have HB' : Hid (Below w.heap.size w w6) := below_own ((below_own hbel.out (Nat.le_refl _) hg5 (fun k hk => by cases hk; exact Nat.le_refl _)).alloc (by have h1 := hg5.size; have h2 := hbel.out.size; omega) _) (Nat.le_refl _) hgrow (fun k hk => by have := got_block hgot.out k hk; omega)
      have hws' : w2.heap.size ≤ w6.heap.size := by have h1 := hg5.size; have h2 := hgrow.size; simp at h2; omega
      clear hown' hgrow hnil hd5 hg5 hgot hdk hf hbel
      go_wp2
      go_roundw
      case rel => exact ⟨j + 1, k - 1, _, _, rfl, by omega, by rw [show (k : Int) - 1 = ((k - 1 : Nat) : Int) by omega], HG', HF', HD', HB', hws'⟩
      case measure => simp [intOf]; omega
    · have hk' : ¬ (0 : Int) < (k : Int) := by omega
      obtain ⟨pv, cv, rfl, hrv, _⟩ := got_new hgot.out
      have HRV := Lib.hid hrv
      have hj : j ≤ 29 := by omega
      have HFB : Hid (∀ i, i < j → -274877906944 ≤ F i ∧ F i ≤ 274877906944) := fun i hi => by have := hf.out i hi; omega
      have HSB : Hid (∀ i, i < j → -274877906944 ≤ sm F j wd i ∧ sm F j wd i ≤ 274877906944) := fun i hi => sm_bd F j wd i hw1 hi HFB.out
      clear hrv hgot hdk hi hz0 hz1 hz2 hjk
      have HS1 := Lib.hid (smo_small pv j cv wd F wr (by omega) (by omega) HFB.out HRV.out)
      have HS2 : Hid (∀ W q cc, Rd W q j (sm F j wd) → Calls Try.prog 20 #[.slice q j cc, .int .i64 (wd : Int)] W (LcP 0 j (sm (sm F j wd) j wd) W)) := fun W q cc h => smo_small q j cc wd _ W (by omega) (by omega) HSB.out h
      obtain ⟨wA, hwA⟩ : ∃ wA, wA = wr := ⟨_, rfl⟩
      subst hwA
      go_wp2_with (first
        | (go_at_call 16; refine (HX.out _).mono ?_; rintro e w' ⟨rfl, rfl⟩)
        | (go_at_call 20; first
          | (refine HS1.out.mono ?_; rintro e w3 ⟨pa, ca, rfl, hra, hb3⟩; have HRA := Lib.hid hra; have HB3 := Lib.hid hb3; clear hra hb3 HS1)
          | (refine (HS2.out _ _ _ HRA.out).mono ?_; rintro e w4 ⟨pb, cb, rfl, hrb, hb4⟩; have HRB := Lib.hid hrb; have HB4 := Lib.hid hb4; clear hrb hb4))
        | (go_at_call 15; refine (same_t pa pb j ca cb (sm F j wd) _ (by omega) (HRA.out.below HB4.out (Nat.le_refl _)) (HRB.out.congr (fun i hi => sm_idem F j wd i hw1 hi))).mono ?_; rintro e w5 ⟨rfl, hb5⟩; have HB5 := Lib.hid hb5; clear hb5))
      have HRA5 : Hid (Rd w5 pa j (sm F j wd)) := (HRA.out.below HB4.out (Nat.le_refl _)).below HB5.out (Nat.le_refl _)
      have HRV5 : Hid (Rd w5 pv j F) := ((HRV.out.below HB3.out (Nat.le_refl _)).below HB4.out (Nat.le_refl _)).below HB5.out (Nat.le_refl _)
      have HB6 : Hid (Below w.heap.size w w5) := ((hbel.out.trans (HB3.out.mono hbel.out.size)).trans (HB4.out.mono (Nat.le_trans hbel.out.size HB3.out.size))).trans (HB5.out.mono (Nat.le_trans (Nat.le_trans hbel.out.size HB3.out.size) HB4.out.size))
      clear HRA HRB HRV HB3 HB4 HB5 hbel HS2 hf HX
      go_loopw [13, 14, 66] (fun x y i wr => ∃ (t q : Nat), t ≤ j ∧ i = .int .i64 t ∧ x = .int .i64 (sumZ F t) ∧ y = .int .i64 (sumZ (sm F j wd) t) ∧ Hid (wr = w5.drewN q)) (fun _ _ i _ => j - (intOf i).toNat)
      case atStart => exact ⟨0, 0, Nat.zero_le _, rfl, rfl, rfl, rfl⟩
      case round =>
        obtain ⟨t, q, ht, rfl, rfl, rfl, hwq⟩ := hrel
        by_cases hlt : t < j
        · have hti : (t : Int) < (j : Int) := by omega
          obtain ⟨bv, ov, rfl, _, hcv⟩ := HRV5.out (by omega)
          obtain ⟨ba, oa, rfl, _, hca⟩ := HRA5.out (by omega)
          have l1 : wr.cell? ⟨bv, ov + t, none⟩ = some (.int .i64 (F t)) := by rw [hwq.out]; exact hcv t hlt
          have l2 : wr.cell? ⟨ba, oa + t, none⟩ = some (.int .i64 (sm F j wd t)) := by rw [hwq.out]; exact hca t hlt
          have hA := HSB.out t hlt
          obtain ⟨s1, s2⟩ := sum_bd F j t ht (by omega) HFB.out
          obtain ⟨s3, s4⟩ := sum_bd F j (t + 1) hlt (by omega) HFB.out
          obtain ⟨s5, s6⟩ := sum_bd (sm F j wd) j t ht (by omega) HSB.out
          obtain ⟨s7, s8⟩ := sum_bd (sm F j wd) j (t + 1) hlt (by omega) HSB.out
          have hs1 : sumZ F (t + 1) = sumZ F t + F t := rfl
          have hs2 : sumZ (sm F j wd) (t + 1) = sumZ (sm F j wd) t + sm F j wd t := rfl
          have HEND := Lib.hid (fun h => sm_ends F j wd t hw1 hlt h)
          rw [hs1] at s3 s4
          rw [hs2] at s7 s8
          rw [hs1, hs2] at HEND
          have HS1 := Lib.hid hs1
          have HS2 := Lib.hid hs2
          have u1 : IntKind.i64.wrap (sumZ F t + F t) = sumZ F t + F t := by rw [IntKind.wrap_i64]; omega
          have u2 : IntKind.i64.wrap (sumZ (sm F j wd) t + sm F j wd t) = sumZ (sm F j wd) t + sm F j wd t := by rw [IntKind.wrap_i64]; omega
          have wd0 : ((wd : Int) == 0) = false := by simp; omega
          have wd1 : ¬ (wd : Int) = 0 := by omega
          have wd2 : ¬ wd = 0 := by omega
          obtain ⟨rm, hrm⟩ : ∃ rm, t % wd = rm := ⟨_, rfl⟩
          obtain ⟨r2, hr2⟩ : ∃ r2, (t + 1) % wd = r2 := ⟨_, rfl⟩
          have m1 : (t : Int) % (wd : Int) = (rm : Int) := by rw [← hrm]; simp
          have m2 : (t : Int).tmod (wd : Int) = (rm : Int) := by rw [Int.tmod_eq_emod_of_nonneg (by omega)]; exact m1
          have m3 : ((t : Int) + 1) % (wd : Int) = (r2 : Int) := by rw [← hr2]; simp
          have m4 : ((t : Int) + 1).tmod (wd : Int) = (r2 : Int) := by rw [Int.tmod_eq_emod_of_nonneg (by omega)]; exact m3
          have HR2 := Lib.hid hr2
          clear hs1 hs2 hcv hr2
          by_cases h0 : 0 < rm
          · have h0' : (0 : Int) < (rm : Int) := by omega
            have d1 : decide ((0 : Int) < (rm : Int)) = true := dt h0'
            obtain ⟨y1, y2⟩ := sm_steps F j wd t hw1 (by rw [hrm]; exact h0)
            have ht0 : 0 < t := by
              apply Classical.byContradiction
              intro hc
              have : t = 0 := by omega
              rw [this, Nat.zero_mod] at hrm
              omega
            obtain ⟨q2, hq2⟩ : ∃ q2, t / wd = q2 := ⟨_, rfl⟩
            obtain ⟨bs, hbs⟩ : ∃ bs, q2 * wd = bs := ⟨_, rfl⟩
            have hbt : bs ≤ t := by rw [← hbs, ← hq2]; exact div_le wd t
            rw [hq2, hbs] at y2
            have l3 : wr.cell? ⟨ba, oa + (t - 1), none⟩ = some (.int .i64 (sm F j wd (t - 1))) := by rw [hwq.out]; exact hca (t - 1) (by omega)
            have l4 : wr.cell? ⟨ba, oa + bs, none⟩ = some (.int .i64 (sm F j wd bs)) := by rw [hwq.out]; exact hca bs (by omega)
            have m5 : (t : Int) / (wd : Int) = (q2 : Int) := by rw [← hq2]; simp
            have m6 : (t : Int).tdiv (wd : Int) = (q2 : Int) := by rw [Int.tdiv_eq_ediv_of_nonneg (by omega)]; exact m5
            have m12 : (q2 : Int) * (wd : Int) = (bs : Int) := by rw [← hbs]; simp
            have m14 : IntKind.i64.wrap (q2 : Int) = (q2 : Int) := by
              have := Nat.div_le_self t wd
              rw [IntKind.wrap_i64]; omega
            have m7 : IntKind.i64.wrap (bs : Int) = (bs : Int) := by rw [IntKind.wrap_i64]; omega
            obtain ⟨t1, ht1⟩ : ∃ t1, t - 1 = t1 := ⟨_, rfl⟩
            have m8 : IntKind.i64.wrap ((t : Int) - 1) = (t1 : Int) := by rw [IntKind.wrap_i64]; omega
            have m9 : (t1 : Int) < (j : Int) := by omega
            have m10 : (bs : Int) < (j : Int) := by omega
            rw [ht1] at l3 y1
            have d2 := df (show ¬ sm F j wd t1 < sm F j wd t by omega)
            have d3 := df (show ¬ sm F j wd t + 1 < sm F j wd bs by omega)
            have m11 : IntKind.i64.wrap (sm F j wd t + 1) = sm F j wd t + 1 := by rw [IntKind.wrap_i64]; omega
            clear hca hrm hq2 hbs ht1
            generalize sm F j wd t = A at *
            generalize sm F j wd t1 = A1 at *
            generalize sm F j wd bs = A0 at *
            generalize sumZ (sm F j wd) t = sy at *
            generalize sumZ F t = sx at *
            generalize F t = ft at *
            go_wp2
            go_quiet (fail)
            go_wp2
            go_quiet (fail)
            clear l1 l2 l3 l4
            have hfin : (r2 = 0 ∨ t + 1 = j) → ((sx + ft) != (sy + A)) = false := fun h => by
              have h9 := HEND.out (by rw [HR2.out]; exact h)
              rw [h9]; simp
            have HFI := Lib.hid hfin
            clear hfin HEND
            by_cases e1 : r2 = 0
            · have b1 : ((r2 : Int) == 0) = true := by rw [e1]; rfl
              have b3 := HFI.out (.inl e1)
              clear e1
              go_wp2
              exact ⟨⟨t + 1, _, by omega, by go_num, by rw [HS1.out], by rw [HS2.out], by show _ = _; rw [hwq.out, World.drewN_drewN]⟩, by simp [intOf]; omega⟩
            · have b1 : ((r2 : Int) == 0) = false := by simp; exact e1
              have b4 : IntKind.i64.wrap ((j : Int) - 1) = (j : Int) - 1 := by rw [IntKind.wrap_i64]; omega
              by_cases e2 : t + 1 = j
              · have b2 : ((t : Int) == (j : Int) - 1) = true := by simp; omega
                have b3 := HFI.out (.inr e2)
                clear e1 e2
                go_wp2
                exact ⟨⟨t + 1, _, by omega, by go_num, by rw [HS1.out], by rw [HS2.out], by show _ = _; rw [hwq.out, World.drewN_drewN]⟩, by simp [intOf]; omega⟩
              · have b2 : ((t : Int) == (j : Int) - 1) = false := by simp; omega
                clear e1 e2
                go_wp2
                exact ⟨⟨t + 1, _, by omega, by go_num, by rw [HS1.out], by rw [HS2.out], by show _ = _; rw [hwq.out, World.drewN_drewN]⟩, by simp [intOf]; omega⟩
          · have h0' : (rm : Int) = 0 := by omega
            have d1 : decide ((0 : Int) < (rm : Int)) = false := df (by omega)
            clear hca hrm
            generalize sm F j wd t = A at *
            generalize sumZ (sm F j wd) t = sy at *
            generalize sumZ F t = sx at *
            generalize F t = ft at *
            clear h0'
            go_wp2
            go_quiet (fail)
            go_wp2
            go_quiet (fail)
            clear l1 l2
            have hfin : (r2 = 0 ∨ t + 1 = j) → ((sx + ft) != (sy + A)) = false := fun h => by
              have h9 := HEND.out (by rw [HR2.out]; exact h)
              rw [h9]; simp
            have HFI := Lib.hid hfin
            clear hfin HEND
            by_cases e1 : r2 = 0
            · have b1 : ((r2 : Int) == 0) = true := by rw [e1]; rfl
              have b3 := HFI.out (.inl e1)
              clear e1
              go_wp2
              exact ⟨⟨t + 1, _, by omega, by go_num, by rw [HS1.out], by rw [HS2.out], by show _ = _; rw [hwq.out, World.drewN_drewN]⟩, by simp [intOf]; omega⟩
            · have b1 : ((r2 : Int) == 0) = false := by simp; exact e1
              have b4 : IntKind.i64.wrap ((j : Int) - 1) = (j : Int) - 1 := by rw [IntKind.wrap_i64]; omega
              by_cases e2 : t + 1 = j
              · have b2 : ((t : Int) == (j : Int) - 1) = true := by simp; omega
                have b3 := HFI.out (.inr e2)
                clear e1 e2
                go_wp2
                exact ⟨⟨t + 1, _, by omega, by go_num, by rw [HS1.out], by rw [HS2.out], by show _ = _; rw [hwq.out, World.drewN_drewN]⟩, by simp [intOf]; omega⟩
              · have b2 : ((t : Int) == (j : Int) - 1) = false := by simp; omega
                clear e1 e2
                go_wp2
                exact ⟨⟨t + 1, _, by omega, by go_num, by rw [HS1.out], by rw [HS2.out], by show _ = _; rw [hwq.out, World.drewN_drewN]⟩, by simp [intOf]; omega⟩
        · have hjm : ¬ (t : Int) < (j : Int) := by omega
          have HBE : Hid (Below w.heap.size w wr) := by rw [hwq.out]; exact Qu.Below.drewN HB6.out q
          clear hlt ht
          go_wp2_with (go_at_call 8; refine (HAW.out _).mono ?_; rintro e w9 ⟨rfl, hb9⟩)
          go_ret
          exact ⟨rfl, HBE.out.trans (hb9.mono HBE.out.size)⟩
end Go.Proofs.Ytbcjigociliflaa.If

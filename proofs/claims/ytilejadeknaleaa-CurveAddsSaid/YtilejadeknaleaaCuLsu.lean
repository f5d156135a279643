/-
  The walk of the law CurveSums.
-/
import Derived.Test.YtilejadeknaleaaCuLri
import Derived.Test.YtilejadeknaleaaCuAdd
import Derived.Test.YtilejadeknaleaaCuSum
namespace Go.Proofs.Ytilejadeknaleaa.Cu
open Go.ChangeShapes Go.WideShapes Go.ChangeAt Go.RowKit
set_option linter.unusedVariables false

theorem sumL_sa (Xa Xb : Nat → Int) (na nb : Nat) : SA (sumL Xa Xb na nb) := ddL_sa _ (na + nb) (fun i j hij hj => srtD_mono _ _ i j hij hj) (na + nb) (Nat.le_refl _)
theorem sumL_mem (Xa Xb : Nat → Int) (ma mb : Nat) (x : Int) : x ∈ sumL Xa Xb (ma + 1) (mb + 1) ↔ Both Xa Xb ma mb x := by
  unfold sumL Both
  rw [ddL_mem, srtD_mem]
  constructor
  · rintro ⟨i, hi, hx⟩
    unfold zF at hx
    by_cases h : i < ma + 1
    · rw [if_pos h] at hx; exact .inl ⟨i, by omega, hx⟩
    · rw [if_neg h] at hx; exact .inr ⟨i - (ma + 1), by omega, hx⟩
  · rintro (⟨i, hi, hx⟩ | ⟨i, hi, hx⟩)
    · exact ⟨i, by omega, by unfold zF; rw [if_pos (by omega)]; exact hx⟩
    · exact ⟨ma + 1 + i, by omega, by unfold zF; rw [if_neg (by omega), Nat.add_sub_cancel_left]; exact hx⟩
theorem sumL_len (Xa Xb : Nat → Int) (na nb : Nat) : (sumL Xa Xb na nb).length ≤ na + nb := ddL_len _ _
theorem sumL_pos (Xa Xb : Nat → Int) (ma mb : Nat) : ∃ k, (sumL Xa Xb (ma + 1) (mb + 1)).length = k + 1 := by
  have h := (sumL_mem Xa Xb ma mb (Xa 0)).2 (.inl ⟨0, Nat.zero_le _, rfl⟩)
  exact ⟨_, (Nat.succ_pred_eq_of_pos (List.length_pos_of_mem h)).symm⟩
theorem sumL_comm (Xa Xb : Nat → Int) (ma mb : Nat) : sumL Xb Xa (mb + 1) (ma + 1) = sumL Xa Xb (ma + 1) (mb + 1) :=
  sa_unique _ _ (sumL_sa _ _ _ _) (sumL_sa _ _ _ _) fun x => by
    rw [sumL_mem, sumL_mem]; unfold Both; exact Or.comm
theorem smF_comm (Xa Ya : Nat → Int) (ma : Nat) (Xb Yb : Nat → Int) (mb : Nat) : smF Xb Yb mb Xa Ya ma = smF Xa Ya ma Xb Yb mb := by
  funext x; unfold smF; omega

/-- A sum of two small curves is a valid curve. -/
theorem sum_cur {Xa Ya Xb Yb : Nat → Int} {ma mb : Nat} (ha : Cur Xa Ya ma) (hb : Cur Xb Yb mb) (la : ma ≤ 4) (lb : mb ≤ 4) (xa : ∀ i, i ≤ ma → Xa i ≤ 5000 ∧ Ya i ≤ 5000) (xb : ∀ i, i ≤ mb → Xb i ≤ 5000 ∧ Yb i ≤ 5000) (k : Nat) (hk : (sumL Xa Xb (ma + 1) (mb + 1)).length = k + 1) :
    Cur (lx (sumL Xa Xb (ma + 1) (mb + 1))) (ly (smF Xa Ya ma Xb Yb mb) (sumL Xa Xb (ma + 1) (mb + 1))) k := by
  have hlen := sumL_len Xa Xb (ma + 1) (mb + 1)
  have hsa := sumL_sa Xa Xb (ma + 1) (mb + 1)
  have hxb : ∀ i, i ≤ k → 0 ≤ lx (sumL Xa Xb (ma + 1) (mb + 1)) i ∧ lx (sumL Xa Xb (ma + 1) (mb + 1)) i ≤ 5000 := fun i hi => by
    rcases (sumL_mem Xa Xb ma mb _).1 (lx_mem (L := sumL Xa Xb (ma + 1) (mb + 1)) (t := i) (by omega)) with ⟨j, hj, e⟩ | ⟨j, hj, e⟩
    · have := xa j hj; have := ha.xlo j hj; omega
    · have := xb j hj; have := hb.xlo j hj; omega
  have hyb : ∀ x, 0 ≤ smF Xa Ya ma Xb Yb mb x ∧ smF Xa Ya ma Xb Yb mb x ≤ 10000 := fun x => by
    unfold smF
    have h1 := val_bd Xa Ya ma ha.asc x
    have h2 := val_bd Xb Yb mb hb.asc x
    have := ha.ylo 0 (Nat.zero_le _); have := xa ma (Nat.le_refl _)
    have := hb.ylo 0 (Nat.zero_le _); have := xb mb (Nat.le_refl _)
    omega
  have hasc : Asc (lx (sumL Xa Xb (ma + 1) (mb + 1))) (ly (smF Xa Ya ma Xb Yb mb) (sumL Xa Xb (ma + 1) (mb + 1))) k := fun i hi => by
    have h1 := lx_lt hsa (show i < i + 1 by omega) (by omega)
    refine ⟨h1, ?_⟩
    show val Xa Ya ma (lx _ i) + val Xb Yb mb (lx _ i) ≤ val Xa Ya ma (lx _ (i + 1)) + val Xb Yb mb (lx _ (i + 1))
    have := val_mono Xa Ya ma ha.asc _ _ (Int.le_of_lt h1)
    have := val_mono Xb Yb mb hb.asc _ _ (Int.le_of_lt h1)
    omega
  exact {
    len := by omega
    xlo := fun i hi => (hxb i hi).1
    xhi := fun i hi => by have := hxb i hi; omega
    ylo := fun i hi => (hyb _).1
    yhi := fun i hi => by have := hyb ((sumL Xa Xb (ma + 1) (mb + 1)).getD i 0); unfold ly; omega
    asc := hasc
    prod := fun i hi => by
      have h1 := hasc i hi
      have h2 := hxb i (by omega)
      have h3 := hxb (i + 1) (by omega)
      have h4 := hyb ((sumL Xa Xb (ma + 1) (mb + 1)).getD i 0)
      have h5 := hyb ((sumL Xa Xb (ma + 1) (mb + 1)).getD (i + 1) 0)
      have h6 := mul_bd (a := lx (sumL Xa Xb (ma + 1) (mb + 1)) (i + 1) - lx (sumL Xa Xb (ma + 1) (mb + 1)) i) (num := ly (smF Xa Ya ma Xb Yb mb) (sumL Xa Xb (ma + 1) (mb + 1)) (i + 1) - ly (smF Xa Ya ma Xb Yb mb) (sumL Xa Xb (ma + 1) (mb + 1)) i) (A := 5000) (B := 10000) (by omega) (by omega) (by omega) (by unfold ly; omega)
      omega }

/-- Add of two small curves, at any later world. -/
theorem add_later {w0 : World} {ba na ca ma bb nb cb mb : Nat} {Xa Ya Xb Yb : Nat → Int} (H : Two2 w0 ba 0 na ca ma bb 0 nb cb mb Xa Ya Xb Yb) (la : ma ≤ 4) (lb : mb ≤ 4) (xa : ∀ i, i ≤ ma → Xa i ≤ 5000 ∧ Ya i ≤ 5000) (xb : ∀ i, i ≤ mb → Xb i ≤ 5000 ∧ Yb i ≤ 5000) (W : World) (hW : Hid (Below w0.heap.size w0 W)) :
    Calls Try.prog 10 #[.slice (some ⟨ba, 0, none⟩) na ca, .slice (some ⟨bb, 0, none⟩) nb cb] W fun e w' => ∃ g cap, e = .returned (.tuple #[.slice (some ⟨g, 0, none⟩) (sumL Xa Xb (ma + 1) (mb + 1)).length cap, .int .i64 0]) ∧
      Hid (Pts w' g 0 (sumL Xa Xb (ma + 1) (mb + 1)).length (lx (sumL Xa Xb (ma + 1) (mb + 1))) (ly (smF Xa Ya ma Xb Yb mb) (sumL Xa Xb (ma + 1) (mb + 1)))) ∧ Hid (Below w0.heap.size w0 w') := by
  obtain ⟨k, hk⟩ := sumL_pos Xa Xb ma mb
  have hcur := sum_cur H.va H.vb la lb xa xb k hk
  have ea := H.ea
  have eb := H.eb
  subst ea
  subst eb
  refine (add_ok ba 0 _ ca ma bb 0 _ cb mb Xa Ya Xb Yb W (H.below hW.out)).mono ?_
  have h0 : chkC (lx (sumL Xa Xb (ma + 1) (mb + 1))) (ly (smF Xa Ya ma Xb Yb mb) (sumL Xa Xb (ma + 1) (mb + 1))) (sumL Xa Xb (ma + 1) (mb + 1)).length = 0 := by
    rw [hk]; exact (cur_iff _ _ k).2 hcur
  rintro e w' (⟨_, v, rfl, hg, hb⟩ | ⟨h1, _⟩)
  · obtain ⟨g, cap, rfl, _, hp, _⟩ := gotP_pts hg (by omega)
    exact ⟨g, cap, rfl, hp, hW.out.trans (hb.mono hW.out.size)⟩
  · exact absurd h0 h1

/-- What the law looks at behind the first sum, by names. -/
structure Su (w8 : World) (ba na ca bb nb cb g n cg : Nat) (LX LY : Nat → Int) (v a b c : Int) : Prop where
  A : ∀ W, Hid (Below w8.heap.size w8 W) → Calls Try.prog 17 #[.slice (some ⟨ba, 0, none⟩) na ca, .int .i64 v] W fun e w' => e = .returned (.tuple #[.int .i64 a, .int .i64 0]) ∧ Hid (Below w8.heap.size w8 w')
  B : ∀ W, Hid (Below w8.heap.size w8 W) → Calls Try.prog 17 #[.slice (some ⟨bb, 0, none⟩) nb cb, .int .i64 v] W fun e w' => e = .returned (.tuple #[.int .i64 b, .int .i64 0]) ∧ Hid (Below w8.heap.size w8 w')
  C : ∀ W, Hid (Below w8.heap.size w8 W) → Calls Try.prog 17 #[.slice (some ⟨g, 0, none⟩) n cg, .int .i64 v] W fun e w' => e = .returned (.tuple #[.int .i64 c, .int .i64 0]) ∧ Hid (Below w8.heap.size w8 w')
  D : ∀ W, Hid (Below w8.heap.size w8 W) → Calls Try.prog 10 #[.slice (some ⟨bb, 0, none⟩) nb cb, .slice (some ⟨ba, 0, none⟩) na ca] W fun e w' => ∃ g2 cap2, e = .returned (.tuple #[.slice (some ⟨g2, 0, none⟩) n cap2, .int .i64 0]) ∧ Hid (Pts w' g2 0 n LX LY) ∧ Hid (Below w8.heap.size w8 w')
  E : ∀ W g2 cap2, Hid (Below w8.heap.size w8 W) → Hid (Pts W g2 0 n LX LY) → Calls Try.prog 12 #[.slice (some ⟨g, 0, none⟩) n cg, .slice (some ⟨g2, 0, none⟩) n cap2] W fun e w' => e = .returned (.bool true) ∧ Hid (Below w8.heap.size w8 w')
  F : ∀ W, Hid (Below w8.heap.size w8 W) → Calls Try.prog 20 #[.slice (some ⟨g, 0, none⟩) n cg] W fun e w' => e = .returned (.int .i64 0) ∧ Hid (Below w8.heap.size w8 w')

theorem su_pack {w7 w8 : World} {ba na ca ma bb nb cb mb g cg : Nat} {Xa Ya Xb Yb : Nat → Int} (H : Two2 w7 ba 0 na ca ma bb 0 nb cb mb Xa Ya Xb Yb) (la : ma ≤ 4) (lb : mb ≤ 4) (xa : ∀ i, i ≤ ma → Xa i ≤ 5000 ∧ Ya i ≤ 5000) (xb : ∀ i, i ≤ mb → Xb i ≤ 5000 ∧ Yb i ≤ 5000) (h8 : Below w7.heap.size w7 w8)
    (hg : Pts w8 g 0 (sumL Xa Xb (ma + 1) (mb + 1)).length (lx (sumL Xa Xb (ma + 1) (mb + 1))) (ly (smF Xa Ya ma Xb Yb mb) (sumL Xa Xb (ma + 1) (mb + 1)))) (v : Int) :
    ∃ LX LY a b c, Hid (Su w8 ba na ca bb nb cb g (sumL Xa Xb (ma + 1) (mb + 1)).length cg LX LY v a b c) ∧ (0 ≤ a ∧ a ≤ 5000) ∧ (0 ≤ b ∧ b ≤ 5000) ∧ a + b - 1 ≤ c ∧ c ≤ a + b + 1 := by
  obtain ⟨k, hk⟩ := sumL_pos Xa Xb ma mb
  have hcur := sum_cur H.va H.vb la lb xa xb k hk
  have hn := sum_near H.va.asc H.vb.asc (sumL_sa Xa Xb (ma + 1) (mb + 1)) (sumL_mem Xa Xb ma mb) k hk v
  have H8 := H.below h8
  have hlen := sumL_len Xa Xb (ma + 1) (mb + 1)
  refine ⟨lx (sumL Xa Xb (ma + 1) (mb + 1)), ly (smF Xa Ya ma Xb Yb mb) (sumL Xa Xb (ma + 1) (mb + 1)), val Xa Ya ma v, val Xb Yb mb v, val (lx (sumL Xa Xb (ma + 1) (mb + 1))) (ly (smF Xa Ya ma Xb Yb mb) (sumL Xa Xb (ma + 1) (mb + 1))) k v,
    { A := at_later H8.ea H8.pa H8.va v
      B := at_later H8.eb H8.pb H8.vb v
      C := at_later hk hg hcur v
      D := fun W hW => by
        have h := add_later (ca := cb) (cb := ca) (show Two2 w8 bb 0 nb cb mb ba 0 na ca ma Xb Yb Xa Ya from ⟨H8.eb, H8.ea, H8.pb, H8.pa, H8.vb, H8.va⟩) lb la xb xa W hW
        rwa [sumL_comm Xa Xb ma mb, smF_comm Xa Ya ma Xb Yb mb] at h
      E := fun W g2 cap2 hW hp => (same_yes _ _ _ cg cap2 _ _ W (by omega) (fun _ => ⟨g, 0, rfl, hg.up hW.out (Nat.le_refl _)⟩) (fun _ => ⟨g2, 0, rfl, hp.out⟩)).mono fun _ _ ⟨he, h⟩ => ⟨he, hW.out.trans (h.mono hW.out.size)⟩
      F := fun W hW => by
        have h := check_ok g 0 _ k cg _ _ W hk (hg.up hW.out (Nat.le_refl _)) hcur
        exact h.mono fun _ _ ⟨he, h⟩ => ⟨he, hW.out.trans (h.mono hW.out.size)⟩ }, ?_, ?_, hn⟩
  · have h1 := val_bd Xa Ya ma H.va.asc v
    have := H.va.ylo 0 (Nat.zero_le _); have := xa ma (Nat.le_refl _)
    omega
  · have h1 := val_bd Xb Yb mb H.vb.asc v
    have := H.vb.ylo 0 (Nat.zero_le _); have := xb mb (Nat.le_refl _)
    omega
end Go.Proofs.Ytilejadeknaleaa.Cu

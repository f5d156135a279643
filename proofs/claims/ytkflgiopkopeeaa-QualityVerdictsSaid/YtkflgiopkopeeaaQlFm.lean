/-
  Readings that go in small steps: all are good, and one that is far from all others is refused alone.
-/
import Derived.Test.YtkflgiopkopeeaaQlSer
import Derived.Test.YtkflgiopkopeeaaQlRvd
namespace Go.Proofs.Ytkflgiopkopeeaa.Ql
open Go.ChangeShapes Go.WideShapes Go.ChangeAt Go.RowKit
open Go.Proofs.Ytkflgiopkopeeaa.Gg (GotR gotR_rs rsL rsL_len rsL_get RdR Rs updR updR_same updR_other mkR alG alG_zero Vr)
set_option linter.unusedVariables false

/-- k readings in steps of at most 5, from 100. -/
structure Fr (R : Nat → Nat → Int) (k : Nat) (x : Int) : Prop where
  g : ∀ i, i < k → R i 0 = 0 ∧ R i 1 = (i : Int) ∧ R i 3 = 0 ∧ 100 - 5 * ((i : Int) + 1) ≤ R i 2 ∧ R i 2 ≤ 100 + 5 * ((i : Int) + 1)
  s : ∀ i, i + 1 < k → R (i + 1) 2 - R i 2 ≤ 5 ∧ R i 2 - R (i + 1) 2 ≤ 5
  z : k = 0 → x = 100
  l : ∀ i, i + 1 = k → R i 2 = x
theorem Fr.next {R : Nat → Nat → Int} {k : Nat} {x y : Int} (h : Fr R k x) (h1 : y - x ≤ 5) (h2 : x - y ≤ 5) : Fr (updR R k (mkR 0 (k : Int) y 0)) (k + 1) y where
  g := fun i hi => by
    by_cases e : i = k
    · subst e
      rw [updR_same]
      refine ⟨rfl, rfl, rfl, ?_, ?_⟩
      all_goals
        show (_ : Int) ≤ _
        cases i with
        | zero => have := h.z rfl; simp [mkR]; omega
        | succ q => have a := h.g q (by omega); have b := h.l q rfl; simp [mkR]; omega
    · rw [updR_other _ _ e]; exact h.g i (by omega)
  s := fun i hi => by
    by_cases e : i + 1 = k
    · rw [e, updR_same, updR_other _ _ (by omega)]
      have b := h.l i e
      simp only [mkR]
      simp
      omega
    · rw [updR_other _ _ e, updR_other _ _ (by omega)]
      exact h.s i (by omega)
  z := fun e => absurd e (Nat.succ_ne_zero k)
  l := fun i e => by obtain rfl : i = k := by omega
                     rw [updR_same]; rfl
/-- One value changed to 9. -/
def bdR (R : Nat → Nat → Int) (t i j : Nat) : Int := if i = t ∧ j = 2 then 9 else R i j
theorem bd_at (R : Nat → Nat → Int) (t : Nat) : bdR R t t 2 = 9 := if_pos ⟨rfl, rfl⟩
theorem bd_no (R : Nat → Nat → Int) {t i : Nat} (j : Nat) (h : i ≠ t) : bdR R t i j = R i j := if_neg (fun e => h e.1)
theorem bd_fl (R : Nat → Nat → Int) (t i j : Nat) (h : j ≠ 2) : bdR R t i j = R i j := if_neg (fun e => h e.2)
theorem w5 (d : Int) (h0 : 0 ≤ d) (h1 : d ≤ 20) : wrap64 (5 * d) = 5 * d := by
  unfold wrap64
  omega
theorem fr_good {R : Nat → Nat → Int} {k : Nat} {x : Int} (h : Fr R k x) (hk : k ≤ 16) : ∀ i, i < k → vrI 10 200 5 0 R i = 1 ∧ lgN 10 200 5 0 R (i + 1) = (i : Int)
  | 0, hi => by
    obtain ⟨g0, g1, g2, g3, g4⟩ := h.g 0 hi
    have e : vrI 10 200 5 0 R 0 = 1 := vd_good (by rw [g2]; omega) (by simp at g3 g4; omega) (fun e => e.1 rfl) (by omega)
    exact ⟨e, lg_yes e⟩
  | i + 1, hi => by
    obtain ⟨g0, g1, g2, g3, g4⟩ := h.g (i + 1) hi
    have ih := fr_good h hk i (by omega)
    have st := h.s i hi
    have e : vrI 10 200 5 0 R (i + 1) = 1 := vd_good (by rw [g2]; omega) (by push_cast at g3 g4; omega) (fun e => by
      have e2 := e.2
      rw [ih.2, show ((i + 1 : Nat) : Int) - (i : Int) = 1 by push_cast; omega, w5 1 (by omega) (by omega)] at e2
      simp only [Int.toNat_natCast] at e2
      unfold dst at e2
      omega) (by omega)
    exact ⟨e, lg_yes e⟩
theorem fr_bad {R : Nat → Nat → Int} {k t : Nat} {x : Int} (h : Fr R k x) (hk : k ≤ 16) (ht : 1 ≤ t) (htk : t < k) : ∀ i, i < k → (i ≠ t → vrI 10 200 5 0 (bdR R t) i = 1) ∧ (i = t → vrI 10 200 5 0 (bdR R t) i = 3) ∧ lgN 10 200 5 0 (bdR R t) (i + 1) = if i = t then (i : Int) - 1 else (i : Int)
  | 0, hi => by
    obtain ⟨g0, g1, g2, g3, g4⟩ := h.g 0 hi
    have hne : (0 : Nat) ≠ t := by omega
    have e : vrI 10 200 5 0 (bdR R t) 0 = 1 := vd_good (by rw [bd_no _ _ hne, g2]; omega) (by rw [bd_no _ _ hne]; simp at g3 g4; omega) (fun e => e.1 rfl) (by omega)
    exact ⟨fun _ => e, fun e2 => absurd e2 hne, by rw [if_neg hne]; exact lg_yes e⟩
  | i + 1, hi => by
    obtain ⟨g0, g1, g2, g3, g4⟩ := h.g (i + 1) hi
    obtain ⟨ih1, ih2, ih3⟩ := fr_bad h hk ht htk i (by omega)
    by_cases e0 : i + 1 = t
    · have hv : vrI 10 200 5 0 (bdR R t) (i + 1) = 3 := vd_range (by rw [bd_fl _ _ _ _ (by omega), g2]; omega) (by rw [e0, bd_at]; omega)
      refine ⟨fun e2 => absurd e0 e2, fun _ => hv, ?_⟩
      rw [if_pos e0, lg_no (by rw [hv]; omega), ih3, if_neg (by omega)]
      push_cast
      omega
    · have hv : vrI 10 200 5 0 (bdR R t) (i + 1) = 1 := vd_good (by rw [bd_no _ _ e0, g2]; omega) (by rw [bd_no _ _ e0]; push_cast at g3 g4; omega) (fun e => by
        have e2 := e.2
        rw [ih3, bd_no _ _ e0] at e2
        by_cases e3 : i = t
        · obtain ⟨q, rfl⟩ : ∃ q, i = q + 1 := ⟨i - 1, by omega⟩
          have s1 := h.s q (by omega)
          have s2 := h.s (q + 1) hi
          rw [if_pos e3, show ((q + 1 + 1 : Nat) : Int) - (((q + 1 : Nat) : Int) - 1) = 2 by push_cast; omega, w5 2 (by omega) (by omega), show (((q + 1 : Nat) : Int) - 1).toNat = q by omega, bd_no _ _ (by omega)] at e2
          unfold dst at e2
          omega
        · have s2 := h.s i hi
          rw [if_neg e3, show ((i + 1 : Nat) : Int) - (i : Int) = 1 by push_cast; omega, w5 1 (by omega) (by omega)] at e2
          simp only [Int.toNat_natCast] at e2
          rw [bd_no _ _ e3] at e2
          unfold dst at e2
          omega) (by omega)
      exact ⟨fun _ => hv, fun e2 => absurd e2 e0, by rw [if_neg e0]; exact lg_yes hv⟩
theorem fr_al {R : Nat → Nat → Int} {k : Nat} {x : Int} (h : Fr R k x) (hk : k ≤ 16) : alG R k = 0 := (alG_zero R k).2 (fun i hi => by
  obtain ⟨g0, g1, g2, g3, g4⟩ := h.g i hi
  exact ⟨by omega, by omega, by omega, by omega, by omega, by omega, by omega, by omega⟩)
theorem bd_al {R : Nat → Nat → Int} {k t : Nat} {x : Int} (h : Fr R k x) (hk : k ≤ 16) : alG (bdR R t) k = 0 := (alG_zero _ k).2 (fun i hi => by
  obtain ⟨g0, g1, g2, g3, g4⟩ := h.g i hi
  refine ⟨?_, ?_, ?_, ?_, ?_, ?_, ?_, ?_⟩
  all_goals first | (rw [bd_fl _ _ _ _ (by omega)]; omega) | skip
  all_goals
    by_cases e : i = t
    · subst e; rw [bd_at]; omega
    · rw [bd_no _ _ e]; omega)
theorem chk0 : chC 10 200 5 0 = 0 := by decide
theorem fr_E {R : Nat → Nat → Int} {k : Nat} {x : Int} (h : Fr R k x) (hk : k ≤ 16) : vdE 10 200 5 0 R k = 0 ∧ vdN 10 200 5 0 R k = k := ⟨(vdE_ok chk0).trans (fr_al h hk), vdN_ok ((vdE_ok chk0).trans (fr_al h hk))⟩
theorem bd_E {R : Nat → Nat → Int} {k t : Nat} {x : Int} (h : Fr R k x) (hk : k ≤ 16) : vdE 10 200 5 0 (bdR R t) k = 0 ∧ vdN 10 200 5 0 (bdR R t) k = k := ⟨(vdE_ok chk0).trans (bd_al h hk), vdN_ok ((vdE_ok chk0).trans (bd_al h hk))⟩
theorem rs_news {w : World} {b off k : Nat} {R : Nat → Nat → Int} (h : Rs w b off k R) : ∀ j u, (rsL R k)[j]? = some u → w.cell? ((⟨b, off, none⟩ : Addr).add j) = some u := by
  intro j u hj
  have hlt : j < k * 4 := by
    obtain ⟨h2, _⟩ := List.getElem?_eq_some_iff.1 hj
    rwa [rsL_len] at h2
  have e := rsL_get R k (j / 4) (by omega) (j % 4) (by omega)
  rw [show j / 4 * 4 + j % 4 = j by omega, hj] at e
  rw [add_plain, e, ← h.2 (j / 4) (by omega) (j % 4) (by omega)]
  congr 2
  omega
end Go.Proofs.Ytkflgiopkopeeaa.Ql

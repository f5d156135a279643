/-
  QualityAlone: gauges that all say the same agree.
-/
import Derived.Test.YtkflgiopkopeeaaQlCoa
import Derived.Test.YtkflgiopkopeeaaQlSer
namespace Go.Proofs.Ytkflgiopkopeeaa.Ql
open Go.ChangeShapes Go.WideShapes Go.ChangeAt Go.RowKit
set_option linter.unusedVariables false

theorem gd_const {V : Nat → Int} {G : Nat → Bool} {x : Int} {g : Bool} : ∀ {m : Nat}, (∀ i, i < m → V i = x ∧ G i = g) → (∀ y, y ∈ gdL V G m → y = x) ∧ (gdL V G m).length = if g = true then m else 0
  | 0, _ => by simp [gdL]
  | k + 1, h => by
    have ih := gd_const (fun i hi => h i (by omega) : ∀ i, i < k → V i = x ∧ G i = g)
    obtain ⟨hv, hg⟩ := h k (by omega)
    cases g with
    | false => rw [gd_no hg]; exact ⟨ih.1, by rw [ih.2]; simp⟩
    | true =>
      rw [gd_yes hg]
      refine ⟨fun y hy => ?_, by rw [List.length_append, ih.2]; simp⟩
      rcases List.mem_append.1 hy with h1 | h1
      · exact ih.1 y h1
      · simp at h1; rw [h1, hv]
theorem vt_const {V : Nat → Int} {G : Nat → Bool} {x : Int} {g : Bool} {m : Nat} (hm : 0 < m) (h : ∀ i, i < m → V i = x ∧ G i = g) : vtI V G m = (if g = true then x else 0) ∧ vtB V G m = g := by
  have hc := gd_const h
  cases g with
  | false =>
    have := vt_none (V := V) (G := G) (n := m) (by rw [hc.2]; simp)
    exact ⟨by rw [this.1]; simp, this.2⟩
  | true =>
    have hl : 0 < (gdL V G m).length := by rw [hc.2]; simpa using hm
    exact ⟨by rw [hc.1 _ (vt_mem hl)]; simp, by unfold vtB; simp [hl]⟩
theorem od_const {V : Nat → Int} {G : Nat → Bool} {x : Int} {g : Bool} : ∀ {m : Nat}, (∀ i, i < m → V i = x ∧ G i = g) → odN V G (if g = true then x else 0) 0 m = 0
  | 0, _ => rfl
  | k + 1, h => by
    have ih := od_const (fun i hi => h i (by omega) : ∀ i, i < k → V i = x ∧ G i = g)
    obtain ⟨hv, hg⟩ := h k (by omega)
    unfold odN
    rw [if_neg, ih]
    rintro ⟨h1, h2⟩
    rw [hg] at h1
    rw [if_pos h1, hv] at h2
    unfold dst at h2
    omega
theorem va_const {K : Nat → Nat → Int} {RR : Nat → Nat → Nat → Int} {Ln : Nat → Nat} {x0 x1 x2 x3 : Int} {R : Nat → Nat → Int} {n : Nat} (he : vdE x0 x1 x2 x3 R n = 0) : ∀ {m : Nat}, (∀ i, i < m → K i 0 = x0 ∧ K i 1 = x1 ∧ K i 2 = x2 ∧ K i 3 = x3 ∧ RR i = R ∧ Ln i = n) → vaE K RR Ln m = 0
  | 0, _ => rfl
  | k + 1, h => by
    have ih := va_const he (fun i hi => h i (by omega) : ∀ i, i < k → K i 0 = x0 ∧ K i 1 = x1 ∧ K i 2 = x2 ∧ K i 3 = x3 ∧ RR i = R ∧ Ln i = n)
    obtain ⟨h0, h1, h2, h3, h4, h5⟩ := h k (by omega)
    unfold vaE
    rw [if_pos ih, h0, h1, h2, h3, h4, h5]
    exact he
/-- Gauges that all say the same: the code, the steps, the votes. -/
theorem co_const {K : Nat → Nat → Int} {RR : Nat → Nat → Nat → Int} {Ln : Nat → Nat} {x0 x1 x2 x3 : Int} {R : Nat → Nat → Int} {n m : Nat} (he : vdE x0 x1 x2 x3 R n = 0) (hm : 0 < m) (h : ∀ i, i < m → K i 0 = x0 ∧ K i 1 = x1 ∧ K i 2 = x2 ∧ K i 3 = x3 ∧ RR i = R ∧ Ln i = n) :
    coE K RR Ln m m 0 = 0 ∧ coN K RR Ln m m 0 = n ∧ ∀ s, coA K RR m s = (if (vrI x0 x1 x2 x3 R s == 1) = true then R s 2 else 0) ∧ coB K RR m s = (vrI x0 x1 x2 x3 R s == 1) ∧ coO K RR m 0 s = 0 := by
  have hE : coE K RR Ln m m 0 = 0 := by
    unfold coE
    rw [if_neg, if_neg (by omega)]
    · exact va_const he h
    · rw [ol_of (fun i hi => by rw [(h i hi).2.2.2.2.2, (h 0 hm).2.2.2.2.2])]; simp
  refine ⟨hE, ?_, fun s => ?_⟩
  · unfold coN stN
    rw [if_pos hE, if_neg (by omega)]
    exact (h 0 hm).2.2.2.2.2
  · have hc : ∀ i, i < m → coV RR s i = R s 2 ∧ coG K RR s i = (vrI x0 x1 x2 x3 R s == 1) := fun i hi => by
      obtain ⟨h0, h1, h2, h3, h4, h5⟩ := h i hi
      unfold coV coG
      rw [h0, h1, h2, h3, h4]
      exact ⟨rfl, rfl⟩
    have hv := vt_const hm hc
    refine ⟨hv.1, hv.2, ?_⟩
    unfold coO
    rw [hv.1, od_const hc]
    rfl
end Go.Proofs.Ytkflgiopkopeeaa.Ql

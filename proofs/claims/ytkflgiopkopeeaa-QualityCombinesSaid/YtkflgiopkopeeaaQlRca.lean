/-
  The contract of the reference's Combine for any input.
-/
import Derived.Test.YtkflgiopkopeeaaQlRok
namespace Go.Proofs.Ytkflgiopkopeeaa.Ql
open Go.ChangeShapes Go.WideShapes Go.ChangeAt Go.RowKit
open Go.Proofs.Ytkflgiopkopeeaa.Ca (inB inB_yes inB_no Rd)
open Go.Proofs.Ytkflgiopkopeeaa.Gg (RdR Rs)
set_option linter.unusedVariables false

theorem rco_any (q p : Option Addr) (n m d c : Nat) (most : Int) (P : Nat → Option Addr) (Ln Cp : Nat → Nat) (RR : Nat → Nat → Nat → Int) (K : Nat → Nat → Int) (w : World) (h : LL w p m P Ln Cp RR) (hk : RdR w q n K) (hn : n ≤ 1000000) (hm : m ≤ 1000000) (hl : ∀ i, i < m → Ln i ≤ 17592186044416) :
    Calls Try.prog 30 #[.slice q n d, .slice p m c, .int .i64 most] w (CoP (coE K RR Ln n m most) (coN K RR Ln n m most) (coA K RR m) (coB K RR m) (coO K RR m most) w) := by
  by_cases h1 : n = m
  · subst h1
    cases ho : olB Ln n with
    | false =>
      have e : coE K RR Ln n n most = 3 := if_pos (.inr ho)
      have e2 : coN K RR Ln n n most = 0 := by unfold coN; rw [e]; rfl
      rw [e, e2]
      exact rco_form2 q p n d c most P Ln Cp RR _ _ _ w h ho hm
    | true =>
      have hne : ¬ (n ≠ n ∨ olB Ln n = false) := by rw [ho]; simp
      by_cases h2 : most < 0
      · have e : coE K RR Ln n n most = 1 := by unfold coE; rw [if_neg hne, if_pos h2]
        have e2 : coN K RR Ln n n most = 0 := by unfold coN; rw [e]; rfl
        rw [e, e2]
        exact rco_range q p n d c most P Ln Cp RR _ _ _ w h ho hm h2
      · have e : coE K RR Ln n n most = vaE K RR Ln n := by unfold coE; rw [if_neg hne, if_neg h2]
        by_cases h3 : vaE K RR Ln n = 0
        · have e2 : coN K RR Ln n n most = stN Ln n := by unfold coN; rw [e, if_pos h3]
          rw [e, e2, h3]
          exact rco_ok q p n d c most P Ln Cp RR K w h hk ho hm hl (by omega) h3
        · have e2 : coN K RR Ln n n most = 0 := by unfold coN; rw [e, if_neg h3]
          rw [e, e2]
          exact rco_code q p n d c most P Ln Cp RR K _ _ _ w h hk ho hm hl (by omega) h3
  · have e : coE K RR Ln n m most = 3 := if_pos (.inl h1)
    have e2 : coN K RR Ln n m most = 0 := by unfold coN; rw [e]; rfl
    rw [e, e2]
    exact rco_form1 q p n m d c most _ _ _ w h1 hn hm
end Go.Proofs.Ytkflgiopkopeeaa.Ql

/-
  Floor, Scale, Carry, Clamp and Meet give what the document says, or its error: the law QuantityDoes returns true for every four integers and every two bounds. No condition.
-/
import Derived.Test.YtndfgbnjidfaaaaRows
import Derived.Test.YtndfgbnjidfaaaaQuLdo
import Derived.WalkKit
import Derived.ProofKit
import Derived.OpenShut
import Derived.ShutString
import Derived.ChangeOld
import Derived.Below
import Derived.Lib.SmallJoins
namespace Go.Proofs.Ytndfgbnjidfaaaa.quantityDoes
open Go.ChangeShapes Go.WideShapes Go.ChangeAt Go.RowKit Go.Joins
set_option linter.unusedVariables false

theorem own : ownKnob Try.prog.godebug = none := by kernel_rfl
theorem cellsB : Try.prog.cellsOf 23 = 2 := by kernel_rfl
theorem walk (a0 : Int) (a1 : Int) (a2 : Int) (a3 : Int) (a4 b4 : Int) (a5 b5 : Int) (w : World) (w0 : (Lit.int .i64 a0).wf = true) (w1 : (Lit.int .i64 a1).wf = true) (w2 : (Lit.int .i64 a2).wf = true) (w3 : (Lit.int .i64 a3).wf = true) (w4 : (Lit.int .i64 a4).wf = true) (u4 : (Lit.int .i64 b4).wf = true) (w5 : (Lit.int .i64 a5).wf = true) (u5 : (Lit.int .i64 b5).wf = true) :
    Calls Try.prog 3 #[.int .i64 a0, .int .i64 a1, .int .i64 a2, .int .i64 a3, .agg #[.int .i64 a4, .int .i64 b4], .agg #[.int .i64 a5, .int .i64 b5]] w fun e w' => e = .returned (.bool true) ∧ Below w.heap.size w w' := Qu.ldo_walk a0 a1 a2 a3 a4 b4 a5 b5 w (Qu.wf_bd w0) (Qu.wf_bd w1) (Qu.wf_bd w2) (Qu.wf_bd w3)

set_option maxRecDepth 100000 in
theorem lifted (os : Os) (started : os.Started) (H : Type) (enc : TypeId × Value → H) :
    ReturnsInHanded {} Try.checked os 3 .any (Rows.quantityDoesSpec.pre6 enc Try.prog Try.f3 Rows.quantityDoesRow.domain false) (Rows.quantityDoesSpec.post enc Try.prog Try.f3 false true false false) := by
  refine returnsInHanded_of_change (C := Try.checked) own started (by kernel_rfl) Try.func3
    (ChangeSpec.witness6 (enc := enc) (C := Try.checked) false ⟨#[], #[.int .i64 0, .int .i64 0, .int .i64 0, .int .i64 0, .agg #[.int .i64 0, .int .i64 0], .agg #[.int .i64 0, .int .i64 0]], []⟩ 8 (by kernel_rfl) (by kernel_rfl) (by kernel_rfl) (by kernel_rfl)) ?_
  intro W base args ds gs before hval0 hW hcnd _
  have hval : ∀ (j : Nat) t v, Try.f3.params[j]? = some t → args[j]? = some v → Value.okWide Try.prog W .any base t v := hval0
  have hW' := hW
  obtain ⟨p, q, hA0, hV, rfl, hfz, hnd⟩ := hW
  have hA : DataW.TrodAll enc Try.prog W 0 (fun _ => true) true Try.f3.params.toList args.toList ds p := hA0
  rw [Try.params3] at hA hval
  obtain ⟨v0, vs0, d0, ds0, p0, q0, hargs, rfl, rfl, h0, r0⟩ := trodAll_cons hA
  obtain ⟨v1, vs1, d1, ds1, p1, q1, rfl, rfl, rfl, h1, r1⟩ := trodAll_cons r0
  obtain ⟨v2, vs2, d2, ds2, p2, q2, rfl, rfl, rfl, h2, r2⟩ := trodAll_cons r1
  obtain ⟨v3, vs3, d3, ds3, p3, q3, rfl, rfl, rfl, h3, r3⟩ := trodAll_cons r2
  obtain ⟨v4, vs4, d4, ds4, p4, q4, rfl, rfl, rfl, h4, r4⟩ := trodAll_cons r3
  obtain ⟨v5, vs5, d5, ds5, p5, q5, rfl, rfl, rfl, h5, r5⟩ := trodAll_cons r4
  obtain ⟨rfl, rfl, rfl⟩ := trodAll_nil r5
  obtain rfl : args = #[v0, v1, v2, v3, v4, v5] := by cases args; simp_all
  obtain ⟨rfl, rfl⟩ := trodVars_none hV
  obtain ⟨a0, rfl, rfl, rfl, w0⟩ := open_int Try.underlying3 (hval 0 3 v0 rfl rfl) h0
  obtain ⟨a1, rfl, rfl, rfl, w1⟩ := open_int Try.underlying3 (hval 1 3 v1 rfl rfl) h1
  obtain ⟨a2, rfl, rfl, rfl, w2⟩ := open_int Try.underlying3 (hval 2 3 v2 rfl rfl) h2
  obtain ⟨a3, rfl, rfl, rfl, w3⟩ := open_int Try.underlying3 (hval 3 3 v3 rfl rfl) h3
  obtain ⟨c4, g4, y4, x4, m4, rfl, rfl, rfl, hy4, hx4⟩ := open_agg2 Try.underlying23 (by kernel_rfl) cellsB (hval 4 23 v4 rfl rfl) h4
  obtain ⟨a4, ea4, rfl, w4⟩ := DataW.trod_int Try.underlying3 hy4
  obtain ⟨b4, eb4, rfl, u4⟩ := DataW.trod_int Try.underlying3 hx4
  simp at ea4 eb4
  subst ea4 eb4
  obtain ⟨c5, g5, y5, x5, m5, rfl, rfl, rfl, hy5, hx5⟩ := open_agg2 Try.underlying23 (by kernel_rfl) cellsB (hval 5 23 v5 rfl rfl) h5
  obtain ⟨a5, ea5, rfl, w5⟩ := DataW.trod_int Try.underlying3 hy5
  obtain ⟨b5, eb5, rfl, u5⟩ := DataW.trod_int Try.underlying3 hx5
  simp at ea5 eb5
  subst ea5 eb5
  clear hA0 hval0
  simp only [List.append_nil] at hW'
  have st4 : ∀ (W' : World) (sp : Nat → Bool), DataW.Trod enc Try.prog W' 0 sp true 23 (.agg #[.int .i64 a4, .int .i64 b4]) (.agg [.lit (.int .i64 a4), .lit (.int .i64 b4)]) [] := fun W' sp =>
    shut_agg2 (y0 := (.lit (.int .i64 a4), [])) (y1 := (.lit (.int .i64 b4), [])) Try.underlying23 (by kernel_rfl) cellsB ⟨1, by simp [DataW.trod, Try.underlying3, w4]⟩ ⟨1, by simp [DataW.trod, Try.underlying3, u4]⟩
  have st5 : ∀ (W' : World) (sp : Nat → Bool), DataW.Trod enc Try.prog W' 0 sp true 23 (.agg #[.int .i64 a5, .int .i64 b5]) (.agg [.lit (.int .i64 a5), .lit (.int .i64 b5)]) [] := fun W' sp =>
    shut_agg2 (y0 := (.lit (.int .i64 a5), [])) (y1 := (.lit (.int .i64 b5), [])) Try.underlying23 (by kernel_rfl) cellsB ⟨1, by simp [DataW.trod, Try.underlying3, w5]⟩ ⟨1, by simp [DataW.trod, Try.underlying3, u5]⟩
  refine (walk a0 a1 a2 a3 a4 b4 a5 b5 W w0 w1 w2 w3 w4 u4 w5 u5).mono fun e W' ⟨he, bel⟩ => ?_
  subst he
  exact ⟨_, rfl, _, _, _, [], _, [], hW', trodAll_mk1 (shut_bool Try.underlying4 _), (trodAll_cons_mk (shut_int Try.underlying3 w0) (trodAll_cons_mk (shut_int Try.underlying3 w1) (trodAll_cons_mk (shut_int Try.underlying3 w2) (trodAll_cons_mk (shut_int Try.underlying3 w3) (trodAll_cons_mk (st4 _ _) (trodAll_cons_mk (st5 _ _) trodAll_mk0)))))), rfl, bel.frame _, fun h => by cases h⟩

theorem over : Rows.quantityDoesRow.holds Try.pinned (OpenSpec.ofChange Rows.quantityDoesSpec) :=
  OpenClaim.holds_of_wide 3 Try.f3 rfl rfl rfl rfl rfl rfl rfl ⟨rfl, rfl, rfl, rfl, rfl⟩ rfl rfl rfl rfl rfl (by kernel_rfl) Try.func3 (by kernel_rfl)
    (of_decide_eq_true (by kernel_rfl)) (by unfold Func.isWrapper; first | (rw [if_pos (by decide +kernel)]; kernel_rfl) | (rw [if_neg (by decide +kernel)]; exact ⟨rfl, rfl⟩))
    (fun os started H enc _ => lifted os started H enc)

theorem proved : Rows.QuantityDoesSaid := over
end Go.Proofs.Ytndfgbnjidfaaaa.quantityDoes

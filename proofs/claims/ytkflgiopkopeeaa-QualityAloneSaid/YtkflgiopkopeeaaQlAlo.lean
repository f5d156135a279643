/-
  QualityAlone: Combine over gauges that all say the same; the walk.
-/
import Derived.Test.YtkflgiopkopeeaaQlAlm
namespace Go.Proofs.Ytkflgiopkopeeaa.Ql
open Go.ChangeShapes Go.WideShapes Go.ChangeAt Go.RowKit
open Go.Proofs.Ytkflgiopkopeeaa.Ca (inB inB_yes inB_no Rd)
open Go.Proofs.Ytkflgiopkopeeaa.Cu (grown_below grown_own grown_trans grown_refl updF updF_same updF_other Dk next_any new_any md md_lo md_hi mod_any)
open Go.Proofs.Ytkflgiopkopeeaa.Gg (GotR gotR_nil gotR_rs gotR_rd gotR_next gotR_block rsL rsL_len rsL_one RdR Rs updR mkR cell_four)
set_option linter.unusedVariables false

theorem com_same (q p : Option Addr) (n m d c : Nat) (P : Nat → Option Addr) (Ln Cp : Nat → Nat) (RR : Nat → Nat → Nat → Int) (K : Nat → Nat → Int) (x0 x1 x2 x3 : Int) (R : Nat → Nat → Int) (w : World) (h : LL w p m P Ln Cp RR) (hk : RdR w q m K) (hm0 : 0 < m) (hm : m ≤ 1000000) (hn : n ≤ 1000000) (he : vdE x0 x1 x2 x3 R n = 0) (hs : ∀ i, i < m → K i 0 = x0 ∧ K i 1 = x1 ∧ K i 2 = x2 ∧ K i 3 = x3 ∧ RR i = R ∧ Ln i = n) :
    Calls Try.prog 29 #[.slice q m d, .slice p m c, .int .i64 0] w (CoP 0 n (fun s => if (vrI x0 x1 x2 x3 R s == 1) = true then R s 2 else 0) (fun s => vrI x0 x1 x2 x3 R s == 1) (fun _ => 0) w) := by
  obtain ⟨e1, e2, e3⟩ := co_const he hm0 hs
  have hc := com_any q p m m d c 0 P Ln Cp RR K w h hk hm hm (fun i hi => by rw [(hs i hi).2.2.2.2.2]; omega)
  rw [e1, e2] at hc
  refine hc.mono ?_
  rintro e w' ⟨p1, c1, p2, c2, p3, c3, rfl, h1, h2, h3, hb⟩
  exact ⟨p1, c1, p2, c2, p3, c3, rfl, RdV.congr h1 (fun i _ => by rw [(e3 i).1]), RdV.congr (C := bC _) h2 (fun i _ => by unfold bC; rw [(e3 i).2.1]), RdV.congr h3 (fun i _ => by rw [(e3 i).2.2]), hb⟩
end Go.Proofs.Ytkflgiopkopeeaa.Ql

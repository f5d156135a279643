/-
  The contract of the iterator that hands out the groups of a list, for every loop body that leaves the iterator's own two cells.
-/
import Derived.RangeFuncNested
import Derived.RangeFuncBound
import Derived.RangeFuncCalls
import Derived.RangeFuncLeaves
import Derived.Shelf.Abstract
import Derived.WalkKit
import Derived.OwnWalkIn
import Derived.TacticsInMore
import Derived.LoopNIn
import Derived.LoopIn
import Derived.Test.YtbcjigociliflaaIfLev
namespace Go.Proofs.Ytbcjigociliflaa.If
open Go.RowKit Go.Shelf
set_option linter.unusedVariables false
attribute [local go_sem] Oper.semAt_some

/-- What a round must keep: the two cells that the iterator reads. -/
def KpB (B1 B2 : Nat) (W W' : World) : Prop :=
  (∀ v, W.cell? ⟨B1, 0, none⟩ = some v → W'.cell? ⟨B1, 0, none⟩ = some v) ∧ (∀ v, W.cell? ⟨B2, 0, none⟩ = some v → W'.cell? ⟨B2, 0, none⟩ = some v)
theorem KpB.trans {B1 B2 : Nat} {A B C : World} (h : KpB B1 B2 A B) (k : KpB B1 B2 B C) : KpB B1 B2 A C := ⟨fun v hv => k.1 v (h.1 v hv), fun v hv => k.2 v (h.2 v hv)⟩

/-- A group's number. -/
abbrev Grp (n w : Nat) : Type := { k : Nat // k * w < n }
/-- The group that begins at a. -/
def grpS (g n cap w a : Nat) : Value := .slice (some ⟨g, a, none⟩) (gl w n a) (cap - a)

set_option maxRecDepth 100000 in
set_option maxHeartbeats 2000000 in
theorem grp1_in (F : Fence) (nn : Nat) (hF : F.fn 37) (hro : F.round = none) (hnn : 1 ≤ nn) (l B1 B2 g n cap w : Nat) (p : Option Addr) (hp : 0 < n → p = some ⟨g, 0, none⟩) (hw : 1 ≤ w ∧ w ≤ 4096) (hn : n ≤ 4096) (hcap : n ≤ cap) (hcap2 : cap ≤ 9223372036854775807)
    (J Jx : List (Grp n w) → World → Prop)
    (hY : ∀ pre x W, J pre W → pre.length < n → YieldAt F (nn - 1) Try.prog l #[grpS g n cap w (x.1 * w)] W fun e W' =>
      (e = .returned (.bool true) ∧ J (pre ++ [x]) W' ∧ KpB B1 B2 W W') ∨ (e = .returned (.bool false) ∧ Jx (pre ++ [x]) W'))
    (W : World) (h1 : W.cell? ⟨B1, 0, none⟩ = some (.slice p n cap)) (h2 : W.cell? ⟨B2, 0, none⟩ = some (.int .i64 (w : Int))) (h0 : J [] W) :
    CallsIn F nn Try.prog 37 #[.func (.yield l) #[] #[], .pointer (some ⟨B1, 0, none⟩), .pointer (some ⟨B2, 0, none⟩)] W fun e W' => (∃ v, e = .returned v) ∧
      ((∃ ys : List (Grp n w), (∃ G, ys.map (fun x => x.1) = List.range G ∧ n ≤ G * w) ∧ J ys W') ∨ (∃ pre, True ∧ Jx pre W')) := by
  obtain ⟨w1, w2⟩ := hw
  have HP := Lib.hid hp
  have HY := Lib.hid hY
  clear hp hY
  refine callsIn_of_wp Try.func37 rfl hF ?_ hro
  simp only [Try.ntmps37, List.size_toArray, List.length_cons, List.length_nil, Nat.reduceAdd, Nat.reduceSub, Array.replicate_succ, Array.replicate_zero, List.push_toArray, List.append_toArray, List.nil_append, List.cons_append]
  gi_wp2
  gi_loopw [4] (fun i wr => ∃ (k a : Nat) (ys : List (Grp n w)), i = .int .i64 a ∧ a ≤ n + w ∧ Hid (a = k * w) ∧ Hid (ys.map (fun x => x.1) = List.range k) ∧ Hid (J ys wr) ∧ wr.cell? ⟨B1, 0, none⟩ = some (.slice p n cap) ∧ wr.cell? ⟨B2, 0, none⟩ = some (.int .i64 (w : Int)))
    (fun i _ => n - (intOf i).toNat)
  case atStart => exact ⟨0, 0, [], rfl, by omega, (Nat.zero_mul w).symm, rfl, h0, h1, h2⟩
  case round =>
    clear h1 h2
    obtain ⟨k, a, ys, rfl, han, hak, hys, hJ, h1, h2⟩ := hrel
    by_cases hlt : a < n
    · have hki : (a : Int) < (n : Int) := by omega
      obtain rfl := HP.out (by omega)
      have hk : k * w < n := by rw [← hak.out]; exact hlt
      have hlen : ys.length < n := by
        have h3 : ys.length = k := by rw [← List.length_map (f := fun x : Grp n w => x.1), hys.out, List.length_range]
        have h4 : k * 1 ≤ k * w := Nat.mul_le_mul_left k w1
        omega
      obtain ⟨fn, tmps, assign, body, hy, hR⟩ := HY.out ys ⟨k, hk⟩ wr hJ.out hlen
      have HR := Lib.hid hR
      clear hR
      unfold grpS gl at hy
      dsimp only at hy
      rw [← hak.out] at hy
      have hR0 := trivial
      clear hlen
      by_cases hcut : a + w ≤ n
      · have hci : (a : Int) + (w : Int) ≤ (n : Int) := by omega
        have hmin : min w (n - a) = w := by omega
        rw [hmin] at hy
        clear hmin
        gi_wp2
        refine HR.out.mono ?_
        rintro e W3 (⟨rfl, hJ3, hk3⟩ | ⟨rfl, hJx3⟩)
        · have h13 := hk3.1 _ h1
          have h23 := hk3.2 _ h2
          have hys2 : Hid ((ys ++ [(⟨k, hk⟩ : Grp n w)]).map (fun x : Grp n w => x.1) = List.range (k + 1)) := by
            show _ = _
            rw [List.map_append, hys.out, List.range_succ]; rfl
          have hJ4 := Lib.hid hJ3
          have hak2 : Hid (a + w = (k + 1) * w) := by
            show _ = _
            rw [hak.out, Nat.add_mul, Nat.one_mul]
          clear hJ3 hk3 hak HY hJ hR0 h1 h2
          gi_wp2
          go_roundw
          case rel => exact ⟨k + 1, a + w, _, by go_num, by omega, hak2, hys2, hJ4, h13, h23⟩
          case measure => simp [intOf]; omega
        · gi_wp2
          refine bodyPost_ret (results_none rfl _ _ _) rfl ?_
          exact ⟨⟨_, rfl⟩, .inr ⟨_, trivial, hJx3⟩⟩
      · have hci : ¬ (a : Int) + (w : Int) ≤ (n : Int) := by omega
        have hmin : min w (n - a) = n - a := by omega
        rw [hmin] at hy
        clear hmin
        gi_wp2
        refine HR.out.mono ?_
        rintro e W3 (⟨rfl, hJ3, hk3⟩ | ⟨rfl, hJx3⟩)
        · have h13 := hk3.1 _ h1
          have h23 := hk3.2 _ h2
          have hys2 : Hid ((ys ++ [(⟨k, hk⟩ : Grp n w)]).map (fun x : Grp n w => x.1) = List.range (k + 1)) := by
            show _ = _
            rw [List.map_append, hys.out, List.range_succ]; rfl
          have hJ4 := Lib.hid hJ3
          have hak2 : Hid (a + w = (k + 1) * w) := by
            show _ = _
            rw [hak.out, Nat.add_mul, Nat.one_mul]
          clear hJ3 hk3 hak HY hJ hR0 h1 h2
          gi_wp2
          go_roundw
          case rel => exact ⟨k + 1, a + w, _, by go_num, by omega, hak2, hys2, hJ4, h13, h23⟩
          case measure => simp [intOf]; omega
        · gi_wp2
          refine bodyPost_ret (results_none rfl _ _ _) rfl ?_
          exact ⟨⟨_, rfl⟩, .inr ⟨_, trivial, hJx3⟩⟩
    · have hki : ¬ (a : Int) < (n : Int) := by omega
      gi_wp2
      go_end0
      exact ⟨⟨_, rfl⟩, .inl ⟨ys, ⟨k, hys.out, by rw [← hak.out]; omega⟩, hJ.out⟩⟩
end Go.Proofs.Ytbcjigociliflaa.If

/-
  The contract of the program's lastByTime: a map from times to readings.
-/
import Derived.Test.YtlelcooomfcbaaaDoorGpFns
import Derived.Maps.OwnSet
namespace Go.Proofs.YtlelcooomfcbaaaDoor.Gg
open Go.ChangeShapes Go.WideShapes Go.ChangeAt Go.RowKit Go.Maps
set_option linter.unusedVariables false

/-- How a reading in a map reads. -/
def reElem : Value → Option (DataW Unit × List MemPlace)
  | .agg cs => match cs.toList with
    | [.int .i64 a, .int .i64 b, .int .i64 c, .int .i64 d] => some (.agg [.lit (.int .i64 a), .lit (.int .i64 b), .lit (.int .i64 c), .lit (.int .i64 d)], [])
    | _ => none
  | _ => none
def reD (r : Nat → Int) : DataW Unit := .agg [.lit (.int .i64 (r 0)), .lit (.int .i64 (r 1)), .lit (.int .i64 (r 2)), .lit (.int .i64 (r 3))]
theorem reElem_mk (a b c d : Int) : reElem (.agg #[.int .i64 a, .int .i64 b, .int .i64 c, .int .i64 d]) = some (.agg [.lit (.int .i64 a), .lit (.int .i64 b), .lit (.int .i64 c), .lit (.int .i64 d)], []) := rfl
theorem reElem_inv {v : Value} {a b c d : Int} {p : List MemPlace} (h : reElem v = some (.agg [.lit (.int .i64 a), .lit (.int .i64 b), .lit (.int .i64 c), .lit (.int .i64 d)], p)) : v = .agg #[.int .i64 a, .int .i64 b, .int .i64 c, .int .i64 d] := by
  cases v with
  | agg cs =>
    obtain ⟨l⟩ := cs
    unfold reElem at h
    dsimp only at h
    split at h
    · rename_i a' b' c' d' e
      simp only [Option.some.injEq, Prod.mk.injEq, DataW.agg.injEq, List.cons.injEq, DataW.lit.injEq, Lit.int.injEq, true_and, and_true] at h
      obtain ⟨⟨rfl, rfl, rfl, rfl⟩, _⟩ := h
      first | rfl | (subst e; rfl) | (dsimp only at e; rw [e])
    · cases h
  | _ => simp [reElem] at h
/-- The last of the first k readings of a gauge and a time. -/
def lastG (R : Nat → Nat → Int) (g t : Int) : Nat → Option Nat
  | 0 => none
  | k + 1 => if R k 0 = g ∧ R k 1 = t then some k else lastG R g t k
/-- What reading counts at a time: the last one, else a fault. -/
def serG (R : Nat → Nat → Int) (n : Nat) (g t : Int) : Nat → Int := match lastG R g t n with
  | some i => R i
  | none => mkR g t 0 2
theorem law3 : Keyed Tryd.prog 3 := int_keyed Tryd.underlying3
theorem zeroR (w : World) : (zeroValue 23).run Tryd.prog w = .ok (.agg #[.int .i64 0, .int .i64 0, .int .i64 0, .int .i64 0]) w := by kernel_rfl
/-- Block b is the map of the first k readings of gauge g. -/
def MapOk (w : World) (b m : Nat) (R : Nat → Nat → Int) (g : Int) (k : Nat) : Prop :=
  ∃ D : DataW Unit, w.ownsMap Tryd.prog 3 reElem b m D ∧ ∀ t : Int, (lastG R g t k = none → Maps.has D (.int .i64 t) = false) ∧ ∀ i, lastG R g t k = some i → Maps.has D (.int .i64 t) = true ∧ ∀ z, D.atKey (.int .i64 t) z = reD (R i)
theorem MapOk.kept {w w' : World} {b m : Nat} {R : Nat → Nat → Int} {g : Int} {k : Nat} {r : Option Nat} (h : MapOk w b m R g k) (hg : w.grownBy w' r) (hr : some b ≠ r) : MapOk w' b m R g k := by
  obtain ⟨D, h1, h2⟩ := h
  exact ⟨D, h1.kept hg hr, h2⟩
theorem MapOk.lt {w : World} {b m : Nat} {R : Nat → Nat → Int} {g : Int} {k : Nat} (h : MapOk w b m R g k) : b < w.heap.size := by
  obtain ⟨D, h1, _⟩ := h
  exact h1.lt
theorem MapOk.start (w : World) (R : Nat → Nat → Int) (g : Int) : MapOk (w.alloc (.map #[] 0)) w.heap.size 0 R g 0 :=
  ⟨.map [], World.ownsMap_made _ _ _ _, fun t => ⟨fun _ => rfl, fun i h => by simp [lastG] at h⟩⟩
theorem MapOk.skip {w : World} {b m : Nat} {R : Nat → Nat → Int} {g : Int} {k : Nat} (h : MapOk w b m R g k) (hne : R k 0 ≠ g) : MapOk w b (m + 1) R g (k + 1) := by
  obtain ⟨D, h1, h2⟩ := h
  refine ⟨D, h1.mono (by omega), fun t => ?_⟩
  have e : lastG R g t (k + 1) = lastG R g t k := if_neg (fun h => hne h.1)
  rw [e]
  exact h2 t
theorem MapOk.put {w : World} {b m : Nat} {D : DataW Unit} {R : Nat → Nat → Int} {g : Int} {k : Nat} (hD : IsMap D) (h2 : ∀ t : Int, (lastG R g t k = none → Maps.has D (.int .i64 t) = false) ∧ ∀ i, lastG R g t k = some i → Maps.has D (.int .i64 t) = true ∧ ∀ z, D.atKey (.int .i64 t) z = reD (R i)) (hg : R k 0 = g)
    (h1 : w.ownsMap Tryd.prog 3 reElem b (m + 1) (D.put (.int .i64 (R k 1)) (reD (R k)))) : MapOk w b (m + 1) R g (k + 1) := by
  refine ⟨_, h1, fun t => ?_⟩
  by_cases e : R k 1 = t
  · have e1 : lastG R g t (k + 1) = some k := if_pos ⟨hg, e⟩
    rw [e1]
    subst e
    refine ⟨(fun h => by cases h), fun i hi => ?_⟩
    cases hi
    exact ⟨has_put_same hD (show WideAt.IsKeyLit (Lit.int .i64 (R k 1)) from trivial) _, fun z => atKey_put_same hD (show WideAt.IsKeyLit (Lit.int .i64 (R k 1)) from trivial) _ z⟩
  · have e1 : lastG R g t (k + 1) = lastG R g t k := if_neg (fun h => e h.2)
    have e2 : Lit.int .i64 t ≠ Lit.int .i64 (R k 1) := fun h => by cases h; exact e rfl
    rw [e1, has_put_other e2]
    exact ⟨(h2 t).1, fun i hi => ⟨((h2 t).2 i hi).1, fun z => by rw [atKey_put_other e2]; exact ((h2 t).2 i hi).2 z⟩⟩
def LbP (w : World) (R : Nat → Nat → Int) (g : Int) (n : Nat) (e : Ending) (w' : World) : Prop := ∃ b, e = .returned (.map (some b)) ∧ w.heap.size ≤ b ∧ MapOk w' b n R g n ∧ Below w.heap.size w w'

set_option maxRecDepth 100000 in
set_option maxHeartbeats 4000000 in
theorem lbt_some (b off n c : Nat) (R : Nat → Nat → Int) (g : Int) (w : World) (hp : Rs w b off n R) (hv : ∀ i, i < n → Vr (R i)) (hn : n ≤ 1000000000) :
    Calls Tryd.prog 53 #[.slice (some ⟨b, off, none⟩) n c, .int .i64 g] w (LbP w R g n) := by
  have HP := Lib.hid hp
  have HV := Lib.hid hv
  have hmm := @run_makeMap Tryd.prog
  clear hp hv
  go_enter Tryd.func53, Tryd.ntmps53
  go_wp2
  go_loopw [11] (fun i wr => ∃ k : Nat, k ≤ n ∧ i = .int .i64 k ∧ Hid (MapOk wr w.heap.size k R g k) ∧ Hid (Below w.heap.size w wr)) (fun i _ => n - (intOf i).toNat)
  case atStart => exact ⟨0, Nat.zero_le _, rfl, MapOk.start w R g, (Below.refl _ _).alloc (Nat.le_refl _) _⟩
  case round =>
    obtain ⟨k, hk, rfl, hmo, hb⟩ := hrel
    by_cases hkn : k < n
    · have hki : (k : Int) < (n : Int) := by omega
      have hki2 : (k : Int) ≤ 1000000000 := by omega
      obtain ⟨c0, c1, c2, c3⟩ := (HP.out.up hb.out (Nat.le_refl _)).cells k hkn
      obtain ⟨D, hown, hD⟩ := hmo.out
      have HO := Lib.hid hown
      have HD := Lib.hid hD
      have hlt := hown.lt
      have hbs := hb.out.size
      have HVk := Lib.hid (HV.out k hkn)
      have HSK : Hid (R k 0 ≠ g → ∀ W, MapOk W w.heap.size k R g k → MapOk W w.heap.size (k + 1) R g (k + 1)) := fun h W hW => hW.skip h
      have HPT : Hid (R k 0 = g → ∀ W, W.ownsMap Tryd.prog 3 reElem w.heap.size (k + 1) (D.put (.int .i64 (R k 1)) (reD (R k))) → MapOk W w.heap.size (k + 1) R g (k + 1)) := fun h W hW => MapOk.put (hown.isMap) hD h hW
      have HRE : Hid (reD (R k) = .agg [.lit (.int .i64 (R k 0)), .lit (.int .i64 (R k 1)), .lit (.int .i64 (R k 2)), .lit (.int .i64 (R k 3))]) := rfl
      have HKY : Hid (keyOf Tryd.prog 3 (.int .i64 (R k 1)) = some (.int .i64 (R k 1))) := keyOf_int_mk Tryd.underlying3 (WalkArith.wf_i64 (by have := HVk.out; unfold Vr at this; omega))
      clear hown hD
      by_cases hg : R k 0 = g
      · have HPT2 : Hid (∀ W, W.ownsMap Tryd.prog 3 reElem w.heap.size (k + 1) (D.put (.int .i64 (R k 1)) (.agg [.lit (.int .i64 (R k 0)), .lit (.int .i64 (R k 1)), .lit (.int .i64 (R k 2)), .lit (.int .i64 (R k 3))])) → MapOk W w.heap.size (k + 1) R g (k + 1)) := fun W hW => HPT.out hg W (by rw [HRE.out]; exact hW)
        have hge : (R k 0 == g) = true := by rw [beq_iff_eq]; exact hg
        clear HPT HSK HRE HVk hg
        generalize R k 0 = r0 at *
        generalize R k 1 = r1 at *
        generalize R k 2 = r2 at *
        generalize R k 3 = r3 at *
        go_wp2_with (first
          | (at_mapUpdate; refine wpList_mapUpdate_own _ rfl _ _ _ 85 rfl 3 23 law3 Tryd.underlying85 _ w.heap.size k _ rfl (HO.out.alloc _) (by unfold maxLen; omega) _ _ _ rfl rfl HKY.out _ [] (reElem_mk _ _ _ _) ?_; intro w1 hown1 hgrow1; have H1 := Lib.hid (HPT2.out _ hown1); have HB1 : Hid (Below w.heap.size w w1) := (hb.out.alloc hbs _).grown hgrow1 (by simp; omega) (fun j hj => by cases hj; exact Nat.le_refl _); clear hown1 hgrow1)
          | go_in)
        go_roundw
        case rel => exact ⟨k + 1, by omega, by go_num, H1, HB1⟩
        case measure => simp [intOf]; omega
      · have hge : (R k 0 == g) = false := by rw [beq_eq_false_iff_ne]; exact hg
        have HS2 := Lib.hid (HSK.out hg)
        clear HPT HSK HRE HVk hg HKY
        generalize R k 0 = r0 at *
        generalize R k 1 = r1 at *
        generalize R k 2 = r2 at *
        generalize R k 3 = r3 at *
        go_wp2
        go_roundw
        case rel => exact ⟨k + 1, by omega, by go_num, HS2.out _ (hmo.out.kept (World.grownBy_alloc _ _ none) (by simp)), hb.out.alloc hbs _⟩
        case measure => simp [intOf]; omega
    · obtain rfl : k = n := by omega
      go_wp2
      go_ret
      exact ⟨_, rfl, Nat.le_refl _, hmo.out, hb.out⟩
end Go.Proofs.YtlelcooomfcbaaaDoor.Gg

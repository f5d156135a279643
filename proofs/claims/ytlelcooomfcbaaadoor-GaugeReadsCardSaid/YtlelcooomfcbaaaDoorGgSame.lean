/-
  The contract of Same of the reference of chapter 6: two lists of readings are equal.
-/
import Derived.Test.YtlelcooomfcbaaaDoorGgFns
import Derived.Deep.QuietTactic
import Derived.BigQuiet
import Derived.Laws.StructEq
namespace Go.Proofs.YtlelcooomfcbaaaDoor.Gg
open Go.ChangeShapes Go.WideShapes Go.ChangeAt Go.RowKit
set_option linter.unusedVariables false

/-- What '==' says of two readings. -/
@[go_sem] theorem Tryd.eqR (a b c d a' b' c' d' : Int) (w : World) : (Op.equalIn 10000 23 (.agg #[.int .i64 a, .int .i64 b, .int .i64 c, .int .i64 d]) (.agg #[.int .i64 a', .int .i64 b', .int .i64 c', .int .i64 d'])).run Tryd.prog w = .ok (a == a' && (b == b' && (c == c' && d == d'))) w := by
  have u3 := Tryd.underlying3
  have a3 := Tryd.isAgg3
  have z3 := Tryd.sizeOf3
  have hS : Tryd.prog.underlying 23 = some (.struct (Tryd.prog.fieldsOf 23)) := by kernel_rfl
  have hp : Tryd.prog.stoodInHeld 23 = false := by kernel_rfl
  rw [show (10000 : Nat) = 9999 + 1 from rfl, run_equalIn_agg w 9999 23 _ _ hS hp]
  simp only [Program.fieldsOf, Tryd.underlying23]
  go_simp
  by_cases h1 : a = a' <;> by_cases h2 : b = b' <;> by_cases h3 : c = c' <;> by_cases h4 : d = d' <;> simp [h1, h2, h3, h4]
@[go_sem] theorem Tryd.egR : Tryd.prog.eqGuardType Tryd.prog.depth 23 = false := by kernel_rfl

def SamR (A C : Nat → Nat → Int) (n : Nat) : Prop := ∀ i, i < n → ∀ j, j < 4 → A i j = C i j
instance (A C : Nat → Nat → Int) (n : Nat) : Decidable (SamR A C n) := by unfold SamR; infer_instance
def smB (A C : Nat → Nat → Int) (n m : Nat) : Bool := decide (n = m ∧ SamR A C n)
def RtB (b : Bool) (w : World) (e : Ending) (w' : World) : Prop := e = .returned (.bool b) ∧ Below w.heap.size w w'
set_option maxHeartbeats 2000000 in
theorem same_some (b1 o1 c1 b2 o2 c2 n : Nat) (A C : Nat → Nat → Int) (w : World) (hA : Rs w b1 o1 n A) (hC : Rs w b2 o2 n C) (hn : n ≤ 9223372036854775806) :
    Calls Tryd.prog 25 #[.slice (some ⟨b1, o1, none⟩) n c1, .slice (some ⟨b2, o2, none⟩) n c2] w (RtB (smB A C n n) w) := by
  have HA := Lib.hid hA
  have HC := Lib.hid hC
  clear hA hC
  go_enter Tryd.func25, Tryd.ntmps25
  go_wp2
  go_loopw [13] (fun i wr => ∃ (k : Nat), k ≤ n ∧ i = .int .i64 k ∧ Hid (SamR A C k) ∧ Hid (Below w.heap.size w wr)) (fun i _ => n - (intOf i).toNat)
  case atStart => exact ⟨0, Nat.zero_le _, rfl, fun i hi => absurd hi (Nat.not_lt_zero _), Below.refl _ _⟩
  case round =>
    obtain ⟨k, hk, rfl, hs, hb⟩ := hrel
    by_cases hkn : k < n
    · have hki : (k : Int) < (n : Int) := by omega
      have hki2 : (k : Int) ≤ 9223372036854775805 := by omega
      obtain ⟨x0, x1, x2, x3⟩ := (HA.out.up hb.out (Nat.le_refl _)).cells k hkn
      obtain ⟨y0, y1, y2, y3⟩ := (HC.out.up hb.out (Nat.le_refl _)).cells k hkn
      by_cases h0 : A k 0 = C k 0
      · skip
        by_cases h1 : A k 1 = C k 1
        · skip
          by_cases h2 : A k 2 = C k 2
          · skip
            by_cases h3 : A k 3 = C k 3
            · skip
              have HS2 : Hid (SamR A C (k + 1)) := fun i hi j hj => by
                by_cases e : i = k
                · subst e
                  have hc : j = 0 ∨ j = 1 ∨ j = 2 ∨ j = 3 := by omega
                  rcases hc with rfl | rfl | rfl | rfl <;> assumption
                · exact hs.out i (by omega) j hj
              rw [h0] at x0
              rw [h1] at x1
              rw [h2] at x2
              rw [h3] at x3
              clear hs h0 h1 h2 h3
              generalize C k 0 = r0 at *
              generalize C k 1 = r1 at *
              generalize C k 2 = r2 at *
              generalize C k 3 = r3 at *
              go_wp2
              go_quiet (fail)
              go_wp2
              go_roundw
              case rel => exact ⟨k + 1, by omega, by go_num, HS2, below_drewN hb.out _⟩
              case measure => simp [intOf]; omega
            · have HR : Hid (smB A C n n = false) := by
                show smB A C n n = false
                unfold smB; rw [decide_eq_false_iff_not]
                exact fun h => h3 (h.2 k hkn 3 (by omega))
              clear hs
              generalize A k 0 = p0 at *
              generalize A k 1 = p1 at *
              generalize A k 2 = p2 at *
              generalize A k 3 = p3 at *
              generalize C k 0 = r0 at *
              generalize C k 1 = r1 at *
              generalize C k 2 = r2 at *
              generalize C k 3 = r3 at *
              go_wp2
              go_quiet (fail)
              go_wp2
              go_ret
              exact ⟨by rw [HR.out]; rfl, below_drewN hb.out _⟩
          · have HR : Hid (smB A C n n = false) := by
              show smB A C n n = false
              unfold smB; rw [decide_eq_false_iff_not]
              exact fun h => h2 (h.2 k hkn 2 (by omega))
            clear hs
            generalize A k 0 = p0 at *
            generalize A k 1 = p1 at *
            generalize A k 2 = p2 at *
            generalize A k 3 = p3 at *
            generalize C k 0 = r0 at *
            generalize C k 1 = r1 at *
            generalize C k 2 = r2 at *
            generalize C k 3 = r3 at *
            go_wp2
            go_quiet (fail)
            go_wp2
            go_ret
            exact ⟨by rw [HR.out]; rfl, below_drewN hb.out _⟩
        · have HR : Hid (smB A C n n = false) := by
            show smB A C n n = false
            unfold smB; rw [decide_eq_false_iff_not]
            exact fun h => h1 (h.2 k hkn 1 (by omega))
          clear hs
          generalize A k 0 = p0 at *
          generalize A k 1 = p1 at *
          generalize A k 2 = p2 at *
          generalize A k 3 = p3 at *
          generalize C k 0 = r0 at *
          generalize C k 1 = r1 at *
          generalize C k 2 = r2 at *
          generalize C k 3 = r3 at *
          go_wp2
          go_quiet (fail)
          go_wp2
          go_ret
          exact ⟨by rw [HR.out]; rfl, below_drewN hb.out _⟩
      · have HR : Hid (smB A C n n = false) := by
          show smB A C n n = false
          unfold smB; rw [decide_eq_false_iff_not]
          exact fun h => h0 (h.2 k hkn 0 (by omega))
        clear hs
        generalize A k 0 = p0 at *
        generalize A k 1 = p1 at *
        generalize A k 2 = p2 at *
        generalize A k 3 = p3 at *
        generalize C k 0 = r0 at *
        generalize C k 1 = r1 at *
        generalize C k 2 = r2 at *
        generalize C k 3 = r3 at *
        go_wp2
        go_quiet (fail)
        go_wp2
        go_ret
        exact ⟨by rw [HR.out]; rfl, below_drewN hb.out _⟩
    · obtain rfl : k = n := by omega
      have HR : Hid (smB A C k k = true) := by show smB A C k k = true; unfold smB; rw [decide_eq_true_eq]; exact ⟨rfl, hs.out⟩
      go_wp2
      go_ret
      exact ⟨by rw [HR.out]; rfl, hb.out⟩
theorem same_any (p1 p2 : Option Addr) (n m c1 c2 : Nat) (A C : Nat → Nat → Int) (w : World) (hA : RdR w p1 n A) (hC : RdR w p2 m C) (hn : n ≤ 9223372036854775806) :
    Calls Tryd.prog 25 #[.slice p1 n c1, .slice p2 m c2] w (RtB (smB A C n m) w) := by
  by_cases e : n = m
  · subst e
    by_cases h0 : n = 0
    · subst h0
      have HR : Hid (smB A C 0 0 = true) := by show smB A C 0 0 = true; unfold smB; rw [decide_eq_true_eq]; exact ⟨rfl, fun i hi => absurd hi (Nat.not_lt_zero _)⟩
      go_enter Tryd.func25, Tryd.ntmps25
      go_wp2
      go_loop [13] (fun i => i = .int .i64 0) (fun _ => 0)
      case atStart => rfl
      case round =>
        obtain rfl := hrel
        go_wp2
        go_ret
        exact ⟨by rw [HR.out]; rfl, Below.refl _ _⟩
    · obtain ⟨b1, o1, rfl, h1⟩ := hA (by omega)
      obtain ⟨b2, o2, rfl, h2⟩ := hC (by omega)
      exact same_some b1 o1 c1 b2 o2 c2 n A C w h1 h2 hn
  · have HR : Hid (smB A C n m = false) := by show smB A C n m = false; unfold smB; rw [decide_eq_false_iff_not]; exact fun h => e h.1
    have en : ((n : Int) != (m : Int)) = true := by simp; omega
    have en2 : ¬ (n : Int) = (m : Int) := by omega
    go_enter Tryd.func25, Tryd.ntmps25
    go_wp2
    go_ret
    exact ⟨by rw [HR.out]; rfl, Below.refl _ _⟩
end Go.Proofs.YtlelcooomfcbaaaDoor.Gg

/-
  The contract of Encode of the reference of chapter 6, for any readings.
-/
import Derived.Test.YtlelcooomfcbaaaDoorGgEnc
namespace Go.Proofs.YtlelcooomfcbaaaDoor.Gg
open Go.ChangeShapes Go.WideShapes Go.ChangeAt Go.RowKit
set_option linter.unusedVariables false

def enX (R : Nat → Nat → Int) (n : Nat) : Int := if 4096 < n then 10 else alG R n
def enN (R : Nat → Nat → Int) (n : Nat) : Nat := if enX R n = 0 then n * 12 else 0
theorem genc_none (p : Option Addr) (c : Nat) (R : Nat → Nat → Int) (w : World) : Calls Tryd.prog 15 #[.slice p 0 c] w (EnP w 0 0 (enL R 0)) := by
  have HA := Lib.hid (gall_any p 0 c R w (fun h => absurd h (Nat.lt_irrefl 0)) (by omega))
  go_enter Tryd.func15, Tryd.ntmps15
  go_wp2_with (go_at_call 32; refine HA.out.mono ?_; rintro e w1 ⟨rfl, hb1⟩; have HB1 := Lib.hid hb1; clear hb1)
  go_loopw [5, 20] (fun v i wr => v = .slice none 0 0 ∧ i = .int .i64 0 ∧ Hid (Below w.heap.size w wr)) (fun _ _ _ => 0)
  case atStart => exact ⟨rfl, rfl, HB1⟩
  case round =>
    obtain ⟨rfl, rfl, hb⟩ := hrel
    go_wp2
    go_ret2
    exact ⟨.slice none 0 0, rfl, gotB_nil _ _ _, hb.out⟩
theorem genc_long (p : Option Addr) (n c : Nat) (R : Nat → Nat → Int) (w : World) (hn : 4096 < n) : Calls Tryd.prog 15 #[.slice p n c] w (EnP w 10 0 (enL R n)) := by
  have hni : (4096 : Int) < (n : Int) := by omega
  clear hn
  go_enter Tryd.func15, Tryd.ntmps15
  go_wp2
  go_ret2
  exact ⟨.slice none 0 0, rfl, gotB_nil _ _ _, Below.refl _ _⟩
theorem genc_bad (p : Option Addr) (n c : Nat) (R : Nat → Nat → Int) (w : World) (hp : RdR w p n R) (hn : n ≤ 4096) (hx : alG R n ≠ 0) : Calls Tryd.prog 15 #[.slice p n c] w (EnP w (alG R n) 0 (enL R n)) := by
  have hni : (n : Int) ≤ 4096 := by omega
  have HA := Lib.hid (gall_any p n c R w hp (by omega))
  have hcn : (alG R n != 0) = true := by simpa using hx
  clear hp hx
  generalize alG R n = cd at *
  go_enter Tryd.func15, Tryd.ntmps15
  go_wp2_with (go_at_call 32; refine HA.out.mono ?_; rintro e w1 ⟨rfl, hb1⟩; have HB1 := Lib.hid hb1; clear hb1)
  go_ret2
  exact ⟨.slice none 0 0, rfl, gotB_nil _ _ _, HB1.out⟩
theorem genc_any (p : Option Addr) (n c : Nat) (R : Nat → Nat → Int) (w : World) (hp : RdR w p n R) : Calls Tryd.prog 15 #[.slice p n c] w (EnP w (enX R n) (enN R n) (enL R n)) := by
  by_cases hn : n ≤ 4096
  · have e : enX R n = alG R n := if_neg (by omega)
    by_cases hx : alG R n = 0
    · have e2 : enN R n = n * 12 := by unfold enN; rw [e, if_pos hx]
      rw [e2, e, hx]
      by_cases h0 : n = 0
      · subst h0; exact genc_none p c R w
      · obtain ⟨b, off, rfl, hpt⟩ := hp (by omega)
        exact genc_some b off n c R w hpt hn hx
    · have e2 : enN R n = 0 := by unfold enN; rw [e, if_neg hx]
      rw [e2, e]
      exact genc_bad p n c R w hp hn hx
  · have e : enX R n = 10 := if_pos (by omega)
    have e2 : enN R n = 0 := by unfold enN; rw [e]; rfl
    rw [e2, e]
    exact genc_long p n c R w (by omega)
end Go.Proofs.YtlelcooomfcbaaaDoor.Gg

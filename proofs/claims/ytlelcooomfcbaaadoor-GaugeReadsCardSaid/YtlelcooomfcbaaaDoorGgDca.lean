/-
  The contract of Decode of the reference of chapter 6, for any bytes; that of flags.
-/
import Derived.Test.YtlelcooomfcbaaaDoorGgDec
namespace Go.Proofs.YtlelcooomfcbaaaDoor.Gg
open Go.ChangeShapes Go.WideShapes Go.ChangeAt Go.RowKit
set_option linter.unusedVariables false

theorem gdec_none (p : Option Addr) (c : Nat) (B : Nat → Int) (w : World) : Calls Tryd.prog 24 #[.slice p 0 c] w (DeP w (deX B 0) (deN B 0) (deR B)) := by
  go_enter Tryd.func24, Tryd.ntmps24
  go_wp2
  go_loop [5, 6] (fun v i => v = .slice none 0 0 ∧ i = .int .i64 0) (fun _ _ => 0)
  case atStart => exact ⟨rfl, rfl⟩
  case round =>
    obtain ⟨rfl, rfl⟩ := hrel
    go_wp2
    go_ret3
    exact ⟨.slice none 0 0, rfl, gotR_nil _ _ _, Below.refl _ _⟩
theorem gdec_long (p : Option Addr) (n c : Nat) (B : Nat → Int) (w : World) (hn : 49152 < n) : Calls Tryd.prog 24 #[.slice p n c] w (DeP w (deX B n) (deN B n) (deR B)) := by
  have HX : Hid (deX B n = (10, 0)) := if_pos hn
  have hni : (49152 : Int) < (n : Int) := by omega
  clear hn
  go_enter Tryd.func24, Tryd.ntmps24
  go_wp2
  go_ret3
  refine ⟨.slice none 0 0, by rw [HX.out]; rfl, ?_, Below.refl _ _⟩
  unfold deN
  rw [HX.out]
  exact gotR_nil _ _ _
theorem gdec_any (p : Option Addr) (n c : Nat) (B : Nat → Int) (w : World) (hp : RdB w p n B) (hB : Bt B n) (hc : n ≤ c) : Calls Tryd.prog 24 #[.slice p n c] w (DeP w (deX B n) (deN B n) (deR B)) := by
  by_cases h0 : n = 0
  · subst h0; exact gdec_none p c B w
  by_cases hn : n ≤ 49152
  · obtain ⟨b, off, rfl, hpt⟩ := hp (by omega)
    exact gdec_some b off n c B w hpt hB hn hc
  · exact gdec_long p n c B w (by omega)

/-- The words of the flags. -/
def fl0 : ByteArray := ⟨#[111, 107]⟩
def fl1 : ByteArray := ⟨#[105, 99, 101]⟩
def fl2 : ByteArray := ⟨#[102, 97, 117, 108, 116]⟩
theorem flags_any (w : World) : Calls Tryd.prog 38 #[] w fun e w' => e = .returned (.slice (some ⟨w.heap.size, 0, none⟩) 3 3) ∧ w' = w.alloc (.cells #[.string fl0, .string fl1, .string fl2] 9) := by
  go_enter Tryd.func38, Tryd.ntmps38
  go_wp2
  go_ret
  exact ⟨rfl, rfl⟩
end Go.Proofs.YtlelcooomfcbaaaDoor.Gg

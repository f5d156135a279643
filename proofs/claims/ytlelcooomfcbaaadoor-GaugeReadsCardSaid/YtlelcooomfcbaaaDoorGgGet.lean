/-
  The contract of get of the reference of chapter 6: a number in four bytes.
-/
import Derived.Test.YtlelcooomfcbaaaDoorGgFns
import Derived.Deep.QuietTactic
import Derived.BigQuiet
import Derived.Laws.BitsAllLaws
namespace Go.Proofs.YtlelcooomfcbaaaDoor.Gg
open Go.ChangeShapes Go.WideShapes Go.ChangeAt Go.RowKit
set_option linter.unusedVariables false

theorem or_high (a b i m : Nat) (hm : m = 2 ^ i) (h : a < m) : (b * m) ||| a = b * m + a := by
  subst hm
  rw [← Nat.shiftLeft_eq, Nat.shiftLeft_add_eq_or_of_lt h]
theorem i64_orN (a b : Nat) (ha : a < 4611686018427387904) (hb : b < 4611686018427387904) : bits BinOp.or .i64 (a : Int) (b : Int) = ((a ||| b : Nat) : Int) := by
  have hx : a ||| b < 2 ^ 62 := Nat.or_lt_two_pow (by omega) (by omega)
  show IntKind.i64.wrap ((BitVec.ofInt 64 (a : Int) ||| BitVec.ofInt 64 (b : Int)).toNat : Int) = _
  rw [BitVec.toNat_or, ofInt_u64 a (by omega), ofInt_u64 b (by omega), IntKind.wrap_i64]
  omega
/-- A number whose low bits are free, and what goes there. -/
theorem or_sum (a b : Int) (i m : Nat) (hm : m = 2 ^ i) (ha : 0 ≤ a) (ha2 : a * m < 4611686018427387904) (hb : 0 ≤ b) (hbm : b < m) (hb2 : b < 4611686018427387904) : bits BinOp.or .i64 (a * m) b = a * m + b := by
  obtain ⟨A, rfl⟩ := Int.eq_ofNat_of_zero_le ha
  obtain ⟨B, rfl⟩ := Int.eq_ofNat_of_zero_le hb
  rw [← Int.natCast_mul, i64_orN _ _ (by omega) (by omega), or_high B A i m hm (by omega)]
  push_cast
  rfl

theorem or24 (a b : Int) (ha : 0 ≤ a) (ha2 : a ≤ 255) (hb : 0 ≤ b) (hbm : b < 16777216) : bits BinOp.or .i64 (a * 16777216) b = a * 16777216 + b :=
  or_sum a b 24 16777216 (by decide) ha (by omega) hb (by omega) (by omega)
theorem or16 (a b : Int) (ha : 0 ≤ a) (ha2 : a ≤ 65535) (hb : 0 ≤ b) (hbm : b < 65536) : bits BinOp.or .i64 (a * 65536) b = a * 65536 + b :=
  or_sum a b 16 65536 (by decide) ha (by omega) hb (by omega) (by omega)
theorem or8 (a b : Int) (ha : 0 ≤ a) (ha2 : a ≤ 16777215) (hb : 0 ≤ b) (hbm : b < 256) : bits BinOp.or .i64 (a * 256) b = a * 256 + b :=
  or_sum a b 8 256 (by decide) ha (by omega) hb (by omega) (by omega)
theorem or_four (x0 x1 x2 x3 : Int) (x00 : 0 ≤ x0) (x01 : x0 ≤ 255) (x10 : 0 ≤ x1) (x11 : x1 ≤ 255) (x20 : 0 ≤ x2) (x21 : x2 ≤ 255) (x30 : 0 ≤ x3) (x31 : x3 ≤ 255) :
    bits BinOp.or IntKind.i64 (bits BinOp.or IntKind.i64 (bits BinOp.or IntKind.i64 (x0 * 16777216) (x1 * 65536)) (x2 * 256)) x3 = x0 * 16777216 + x1 * 65536 + x2 * 256 + x3 := by
  rw [or24 x0 (x1 * 65536) x00 x01 (by omega) (by omega)]
  rw [show x0 * 16777216 + x1 * 65536 = (x0 * 256 + x1) * 65536 by omega, or16 (x0 * 256 + x1) (x2 * 256) (by omega) (by omega) (by omega) (by omega)]
  rw [show (x0 * 256 + x1) * 65536 + x2 * 256 = (x0 * 65536 + x1 * 256 + x2) * 256 by omega, or8 (x0 * 65536 + x1 * 256 + x2) x3 (by omega) (by omega) (by omega) (by omega)]

set_option maxHeartbeats 2000000 in
theorem gget_any (b off n c : Nat) (B : Nat → Int) (w : World) (hp : By w b off n B) (hB : Bt B 4) (hn : 4 ≤ n) : Calls Tryd.prog 44 #[.slice (some ⟨b, off, none⟩) n c] w fun e w' => e = .returned (.int .i64 (B 0 * 16777216 + B 1 * 65536 + B 2 * 256 + B 3)) ∧ ∃ q, w' = w.drewN q := by
  have c0 := hp.2 0 (by omega)
  have c1 := hp.2 1 (by omega)
  have c2 := hp.2 2 (by omega)
  have c3 := hp.2 3 (by omega)
  rw [Nat.add_zero] at c0
  obtain ⟨x00, x01⟩ := hB 0 (by omega)
  obtain ⟨x10, x11⟩ := hB 1 (by omega)
  obtain ⟨x20, x21⟩ := hB 2 (by omega)
  obtain ⟨x30, x31⟩ := hB 3 (by omega)
  have hn4 : (4 : Int) ≤ (n : Int) := by omega
  clear hp hB hn
  generalize B 0 = x0 at *
  generalize B 1 = x1 at *
  generalize B 2 = x2 at *
  generalize B 3 = x3 at *
  go_enter Tryd.func44, Tryd.ntmps44
  go_wp2
  go_quiet (fail)
  go_wp2
  go_ret
  refine ⟨?_, _, rfl⟩
  show Ending.returned (Value.int IntKind.i64 (bits BinOp.or IntKind.i64 (bits BinOp.or IntKind.i64 (bits BinOp.or IntKind.i64 (x0 * 16777216) (x1 * 65536)) (x2 * 256)) x3)) = _
  rw [or_four x0 x1 x2 x3 x00 x01 x10 x11 x20 x21 x30 x31]
end Go.Proofs.YtlelcooomfcbaaaDoor.Gg

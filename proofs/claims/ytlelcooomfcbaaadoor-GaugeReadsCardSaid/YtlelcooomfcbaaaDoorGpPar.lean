/-
  Contracts of the program's decimal, flagOf, readingOf and Parse.
-/
import Derived.Test.YtlelcooomfcbaaaDoorGpSpl
import Derived.Test.YtlelcooomfcbaaaDoorGpFns
import Derived.Lib.SlicesS
import Derived.Lib.ConvBytes
namespace Go.Proofs.YtlelcooomfcbaaaDoor.Gg
open Go.ChangeShapes Go.WideShapes Go.ChangeAt Go.RowKit
set_option linter.unusedVariables false

def okS : ByteArray := ⟨#[111, 107]⟩
def iceS : ByteArray := ⟨#[105, 99, 101]⟩
def fauS : ByteArray := ⟨#[102, 97, 117, 108, 116]⟩
/-- The program's words of the flags are as they were laid. -/
def FlW (w : World) : Prop := 0 < w.heap.size ∧ w.cell? ⟨0, 0, none⟩ = some (.string okS) ∧ w.cell? ⟨0, 1, none⟩ = some (.string iceS) ∧ w.cell? ⟨0, 2, none⟩ = some (.string fauS)
theorem FlW.up {w w' : World} {B : Nat} (h : FlW w) (hb : Below B w w') (hB : w.heap.size ≤ B) : FlW w' :=
  ⟨Nat.lt_of_lt_of_le h.1 hb.size, (hb.cell (p := ⟨_, 0, none⟩) (Nat.lt_of_lt_of_le h.1 hB)).trans h.2.1, (hb.cell (p := ⟨_, 1, none⟩) (Nat.lt_of_lt_of_le h.1 hB)).trans h.2.2.1, (hb.cell (p := ⟨_, 2, none⟩) (Nat.lt_of_lt_of_le h.1 hB)).trans h.2.2.2⟩
/-- The flag of a word, or -1. -/
def flG (s : ByteArray) : Int := if s = okS then 0 else if s = iceS then 1 else if s = fauS then 2 else -1
theorem idx0 (a b c : Value) (w : World) : (Instr.index 72 (.agg #[a, b, c]) (.int .i64 0)).run Tryd.prog w = .ok a w := by kernel_rfl
theorem idx1 (a b c : Value) (w : World) : (Instr.index 72 (.agg #[a, b, c]) (.int .i64 1)).run Tryd.prog w = .ok b w := by kernel_rfl
theorem idx2 (a b c : Value) (w : World) : (Instr.index 72 (.agg #[a, b, c]) (.int .i64 2)).run Tryd.prog w = .ok c w := by kernel_rfl
attribute [local go_sem] idx0 idx1 idx2
theorem bq_yes {s t : ByteArray} (h : s = t) : (s.toList == t.toList) = true := (Lib.bytes_beq_iff s t).2 h
theorem bq_no {s t : ByteArray} (h : s ≠ t) : (s.toList == t.toList) = false := by
  cases e : (s.toList == t.toList) with
  | false => rfl
  | true => exact absurd ((Lib.bytes_beq_iff s t).1 e) h
set_option maxRecDepth 100000 in
set_option maxHeartbeats 1000000 in
theorem flag_pre (s : ByteArray) (w : World) (v : Int) (b : Bool) (hw : FlW w) (h0 : s = okS → v = 0 ∧ b = true) (h1 : s ≠ okS → s = iceS → v = 1 ∧ b = true) (h2 : s ≠ okS → s ≠ iceS → s = fauS → v = 2 ∧ b = true) (h3 : s ≠ okS → s ≠ iceS → s ≠ fauS → v = 0 ∧ b = false) :
    Calls Tryd.prog 62 #[.string s] w (RtN v b w) := by
  have H0 := Lib.hid h0
  have H1 := Lib.hid h1
  have H2 := Lib.hid h2
  have H3 := Lib.hid h3
  obtain ⟨hg, c0, c1, c2⟩ := hw
  clear h0 h1 h2 h3
  go_enter Tryd.func62, Tryd.ntmps62
  go_wp2
  go_loop [7] (fun i => ∃ k : Nat, k ≤ 3 ∧ i = .int .i64 k ∧ Hid (0 < k → s ≠ okS) ∧ Hid (1 < k → s ≠ iceS) ∧ Hid (2 < k → s ≠ fauS)) (fun i => 3 - (intOf i).toNat)
  case atStart => exact ⟨0, by omega, rfl, fun h => by omega, fun h => by omega, fun h => by omega⟩
  case round =>
    obtain ⟨k, hk, rfl, n0, n1, n2⟩ := hrel
    have hc : k = 0 ∨ k = 1 ∨ k = 2 ∨ k = 3 := by omega
    clear hk
    rcases hc with rfl | rfl | rfl | rfl
    · by_cases e : s = okS
      · have e2 := bq_yes e
        have HR := Lib.hid (H0.out  e)
        clear e n0 n1 n2
        go_wp2
        go_ret2
        exact ⟨by rw [HR.out.1, HR.out.2]; rfl, rfl⟩
      · have e2 := bq_no e
        have E := Lib.hid e
        clear e
        go_wp2
        go_round
        case rel => exact ⟨1, by omega, by go_num, fun _ => E.out, fun h => by omega, fun h => by omega⟩
        case measure => simp [intOf]
    · by_cases e : s = iceS
      · have e2 := bq_yes e
        have HR := Lib.hid (H1.out (n0.out (by omega)) e)
        clear e n0 n1 n2
        go_wp2
        go_ret2
        exact ⟨by rw [HR.out.1, HR.out.2]; rfl, rfl⟩
      · have e2 := bq_no e
        have E := Lib.hid e
        clear e
        go_wp2
        go_round
        case rel => exact ⟨2, by omega, by go_num, fun _ => n0.out (by omega), fun _ => E.out, fun h => by omega⟩
        case measure => simp [intOf]
    · by_cases e : s = fauS
      · have e2 := bq_yes e
        have HR := Lib.hid (H2.out (n0.out (by omega)) (n1.out (by omega)) e)
        clear e n0 n1 n2
        go_wp2
        go_ret2
        exact ⟨by rw [HR.out.1, HR.out.2]; rfl, rfl⟩
      · have e2 := bq_no e
        have E := Lib.hid e
        clear e
        go_wp2
        go_round
        case rel => exact ⟨3, by omega, by go_num, fun _ => n0.out (by omega), fun _ => n1.out (by omega), fun _ => E.out⟩
        case measure => simp [intOf]
    · have HR := Lib.hid (H3.out (n0.out (by omega)) (n1.out (by omega)) (n2.out (by omega)))
      clear n0 n1 n2
      go_wp2
      go_ret2
      exact ⟨by rw [HR.out.1, HR.out.2]; rfl, rfl⟩
theorem flag_any (s : ByteArray) (w : World) (hw : FlW w) : Calls Tryd.prog 62 #[.string s] w (RtN (if 0 ≤ flG s then flG s else 0) (decide (0 ≤ flG s)) w) := by
  refine flag_pre s w _ _ hw ?_ ?_ ?_ ?_
  · intro h; unfold flG; rw [if_pos h]; exact ⟨rfl, rfl⟩
  · intro h0 h; unfold flG; rw [if_neg h0, if_pos h]; exact ⟨rfl, rfl⟩
  · intro h0 h1 h; unfold flG; rw [if_neg h0, if_neg h1, if_pos h]; exact ⟨rfl, rfl⟩
  · intro h0 h1 h; unfold flG; rw [if_neg h0, if_neg h1, if_neg h]; exact ⟨rfl, rfl⟩

/-! ### decimal -/
theorem below_bytes (w : World) (e : TypeId) (s : ByteArray) : Below w.heap.size w (Lib.bytesWorld w e s) :=
  ⟨by simp [Lib.bytesWorld, World.freeze, World.alloc, World.drew, -World.alloc_eq, -World.drew_eq], by simp [Lib.bytesWorld, World.freeze, World.alloc, World.drew, -World.alloc_eq, -World.drew_eq], by simp [Lib.bytesWorld, World.freeze, World.alloc, World.drew, -World.alloc_eq, -World.drew_eq], by simp [Lib.bytesWorld, World.freeze, World.alloc, World.drew, -World.alloc_eq, -World.drew_eq], fun j hj => Lib.bytesWorld_at_old w e s j hj⟩
theorem sB_getD (s : ByteArray) (j : Nat) (hj : j < s.size) : ((s.data.toList.getD j 0).toNat : Int) = sB s j := by
  obtain ⟨x, h1, h2⟩ := sB_list s j hj
  rw [h2, List.getD_eq_getElem?_getD, h1]
  rfl
set_option maxRecDepth 100000 in
set_option maxHeartbeats 2000000 in
theorem decim_any (s : ByteArray) (w : World) (h1 : 1 ≤ s.size) (h9 : s.size ≤ 1000000000) : Calls Tryd.prog 63 #[.string s] w fun e w' => e = .returned (.tuple #[.int .i64 (nuN (sB s) s.size), .bool (nuB (sB s) s.size)]) ∧ Below w.heap.size w w' := by
  by_cases h2 : s.size ≤ 10
  · have n2 : ¬ (10 : Int) < (s.size : Int) := by omega
    have hcv := Lib.run_convert_string_bytes (P := Tryd.prog) w 9 24 5 s (u := .string) Tryd.underlying9 Tryd.underlying24 Tryd.underlying5
    have hB : ∀ j, j < s.size → (Lib.bytesWorld w 5 s).cell? ⟨w.heap.size, j, none⟩ = some (.int .u8 (sB s j)) := fun j hj => by
      rw [← sB_getD s j hj]; exact Lib.bytesWorld_cell w 5 s j hj
    have HBl := Lib.hid (below_bytes w 5 s)
    obtain ⟨W1, hW1⟩ : ∃ W1, W1 = Lib.bytesWorld w 5 s := ⟨_, rfl⟩
    rw [← hW1] at hcv hB HBl
    have HB := Lib.hid hB
    clear hW1 hB
    go_enter Tryd.func63, Tryd.ntmps63
    go_wp2
    go_loop [4, 13] (fun nv i => ∃ (k : Nat) (sv : Int), k ≤ s.size ∧ nv = .int .i64 sv ∧ i = .int .i64 k ∧ Hid (Dg (sB s) k) ∧ Hid (sv = nuV (sB s) k)) (fun _ i => s.size - (intOf i).toNat)
    case atStart => exact ⟨0, 0, Nat.zero_le _, rfl, rfl, fun i hi => absurd hi (Nat.not_lt_zero _), rfl⟩
    case round =>
      obtain ⟨k, sv, hk, rfl, rfl, hd, hs⟩ := hrel
      by_cases hkn : k < s.size
      · have hki : (k : Int) < (s.size : Int) := by omega
        obtain ⟨s0, s1⟩ := nuV_le (sB s) k (by omega) hd.out
        rw [← hs.out] at s0 s1
        have c0 := HB.out k hkn
        obtain ⟨x0, x1⟩ := sB_bt s (k + 1) k (by omega)
        have HD : Hid (48 ≤ sB s k → sB s k ≤ 57 → Dg (sB s) (k + 1)) := fun a b i hi => by
          by_cases e : i = k
          · subst e; exact ⟨a, b⟩
          · exact hd.out i (by omega)
        have HV : Hid (nuV (sB s) (k + 1) = 10 * sv + (sB s k - 48)) := by
          show 10 * nuV (sB s) k + (sB s k - 48) = _
          rw [← hs.out]
        have HX : Hid (¬ (48 ≤ sB s k ∧ sB s k ≤ 57) → nuB (sB s) s.size = false ∧ nuN (sB s) s.size = 0) := fun h => nuB_no (fun h3 => h (h3.2.2 k hkn))
        generalize sB s k = x at c0 x0 x1 HD HV HX
        by_cases hlo : x < 48
        · have HR := Lib.hid (HX.out (by omega))
          clear hd hs
          go_wp2
          go_ret2
          exact ⟨by rw [HR.out.1, HR.out.2]; rfl, HBl.out⟩
        · by_cases hhi : 57 < x
          · have HR := Lib.hid (HX.out (by omega))
            clear hd hs
            go_wp2
            go_ret2
            exact ⟨by rw [HR.out.1, HR.out.2]; rfl, HBl.out⟩
          · have HDn := Lib.hid (HD.out (by omega) (by omega))
            clear hd hs
            go_wp2
            go_round
            case rel => exact ⟨k + 1, _, by omega, rfl, by go_num, HDn, HV.out.symm⟩
            case measure => simp [intOf]; omega
      · obtain rfl : k = s.size := by omega
        have HR := Lib.hid (nuB_yes h1 h2 hd.out)
        go_wp2
        go_ret2
        exact ⟨by rw [HR.out.1, HR.out.2, ← hs.out]; rfl, HBl.out⟩
  · have HR := Lib.hid (nuB_no (B := sB s) (n := s.size) (fun h => h2 h.2.1))
    have n2 : (10 : Int) < (s.size : Int) := by omega
    go_enter Tryd.func63, Tryd.ntmps63
    go_wp2
    go_ret2
    exact ⟨by rw [HR.out.1, HR.out.2]; rfl, Below.refl _ _⟩
end Go.Proofs.YtlelcooomfcbaaaDoor.Gg

/-
  Contracts of strings.Builder's methods and of strconv.Itoa, as Print calls them; the text of readings.
-/
import Derived.Test.YtlelcooomfcbaaaDoorGpBld
import Derived.Test.YtlelcooomfcbaaaDoorGpPar
import Derived.Test.YtlelcooomfcbaaaDoorGgEnc
import Derived.Lib.AppendIntMem
import Derived.Lib.ItoaLen
import Derived.Lib.OthersKept
namespace Go.Proofs.YtlelcooomfcbaaaDoor.Gg
open Go.ChangeShapes Go.WideShapes Go.ChangeAt Go.RowKit
set_option linter.unusedVariables false

/-- The word of a flag. -/
def fwL (f : Int) : List UInt8 := if f = 0 then [111, 107] else if f = 1 then [105, 99, 101] else [102, 97, 117, 108, 116]
/-- The first i numbers of a line, each with a space behind it. -/
def pcL (r : Nat → Int) : Nat → List UInt8
  | 0 => []
  | i + 1 => pcL r i ++ (Lib.itoa (r i) ++ [32])
/-- P6.3: the line of a reading; the lines of readings. -/
def lnL (r : Nat → Int) : List UInt8 := pcL r 3 ++ (fwL (r 3) ++ [10])
def prL (R : Nat → Nat → Int) : Nat → List UInt8
  | 0 => []
  | k + 1 => prL R k ++ lnL (R k)
theorem itoa_le (x : Int) (h : -9223372036854775808 ≤ x ∧ x ≤ 9223372036854775807) : (Lib.itoa x).length ≤ 21 := Lib.itoa_length_le x h.1 h.2
theorem fw_le (f : Int) : (fwL f).length ≤ 5 := by
  unfold fwL
  split
  · simp
  · split <;> simp
theorem pc_le (r : Nat → Int) (h : ∀ i, i < 3 → -9223372036854775808 ≤ r i ∧ r i ≤ 9223372036854775807) : ∀ i, i ≤ 3 → (pcL r i).length ≤ 22 * i
  | 0, _ => by simp [pcL]
  | i + 1, hi => by
    have h1 := pc_le r h i (by omega)
    have h2 := itoa_le (r i) (h i (by omega))
    simp only [pcL, List.length_append, List.length_singleton]
    omega
theorem Vr.nums {r : Nat → Int} (h : Vr r) : ∀ i, i < 3 → -9223372036854775808 ≤ r i ∧ r i ≤ 9223372036854775807 := fun i hi => by
  unfold Vr at h
  have hc : i = 0 ∨ i = 1 ∨ i = 2 := by omega
  rcases hc with rfl | rfl | rfl <;> omega
theorem ln_le (r : Nat → Int) (h : Vr r) : (lnL r).length ≤ 72 := by
  have h1 := pc_le r h.nums 3 (by omega)
  have h2 := fw_le (r 3)
  simp only [lnL, List.length_append, List.length_singleton]
  omega
theorem pr_le (R : Nat → Nat → Int) : ∀ k, (∀ i, i < k → Vr (R i)) → (prL R k).length ≤ 72 * k
  | 0, _ => by simp [prL]
  | k + 1, h => by
    have h1 := pr_le R k (fun i hi => h i (by omega))
    have h2 := ln_le (R k) (h k (by omega))
    simp only [prL, List.length_append]
    omega

/-- A builder that lies in the first block behind wc. -/
def Bl (wc : World) (l : List UInt8) (W : World) : Prop := Lib.IsBuilderF 65 5 wc.heap.size wc.heap.size (Lib.byteCells l) W ∧ Below wc.heap.size wc W
theorem Bl.start (wc : World) : Bl wc [] (wc.alloc (.cells #[.pointer none, .slice none 0 0] 65)) :=
  ⟨Lib.IsBuilderF.of (Lib.fresh_isBuilder _ _ wc), (Below.refl _ _).alloc (Nat.le_refl _) _⟩
theorem heap_lt {W : World} {b : Nat} {o : Obj} (h : W.heap[b]? = some o) : b < W.heap.size := (Array.getElem?_eq_some_iff.1 h).1
theorem bat_kept {T e : TypeId} {B b : Nat} {p : Value} {bs : List Value} {W W' : World} (h : Lib.BuilderAtF T e B b p bs W) (hb : Below W.heap.size W W') : Lib.BuilderAtF T e B b p bs W' := by
  obtain ⟨hB, v, hk, hown, hne⟩ := h
  refine ⟨hB, v, (hb.block b (heap_lt hk)).trans hk, ⟨hown.1, ?_⟩, hne⟩
  rcases hown.2 with hn | ⟨g, cap, cur, fz, hv, hbg, hg, rest⟩
  · exact .inl hn
  · exact .inr ⟨g, cap, cur, fz, hv, hbg, (hb.block g (heap_lt hg)).trans hg, rest⟩
theorem Bl.up {wc : World} {l : List UInt8} {W W' : World} (h : Bl wc l W) (hb : Below W.heap.size W W') : Bl wc l W' :=
  ⟨h.1.elim (fun x => .inl (bat_kept x hb)) (fun x => .inr (bat_kept x hb)), h.2.trans (hb.mono h.2.size)⟩
theorem Bl.lt {wc : World} {l : List UInt8} {W : World} (h : Bl wc l W) : wc.heap.size < W.heap.size := by
  rcases h.1 with x | x
  · obtain ⟨_, v, hk, _⟩ := x; exact heap_lt hk
  · obtain ⟨_, v, hk, _⟩ := x; exact heap_lt hk
/-- The box of a reading. -/
def Bx4 (W : World) (b : Nat) (r0 r1 r2 r3 : Int) : Prop := W.heap[b]? = some (.cells #[.int .i64 r0, .int .i64 r1, .int .i64 r2, .int .i64 r3] 23 (0, 0))
theorem Bx4.new (w : World) (r0 r1 r2 r3 : Int) : Bx4 (w.alloc (.cells #[.int .i64 r0, .int .i64 r1, .int .i64 r2, .int .i64 r3] 23)) w.heap.size r0 r1 r2 r3 := new_heap w _
theorem Bx4.up {W W' : World} {b : Nat} {r0 r1 r2 r3 : Int} (h : Bx4 W b r0 r1 r2 r3) (hb : Below W.heap.size W W') : Bx4 W' b r0 r1 r2 r3 := (hb.block b (heap_lt h)).trans h
theorem Bx4.kept {W W' : World} {b B : Nat} {r0 r1 r2 r3 : Int} (h : Bx4 W b r0 r1 r2 r3) (hk : Lib.OthersKept 5 (some B) W W') (hne : b ≠ B) : Bx4 W' b r0 r1 r2 r3 :=
  hk b _ h (fun e => hne (Option.some.inj e)) (fun c fz e => by cases e)
theorem Bx4.cells {W : World} {b : Nat} {r0 r1 r2 r3 : Int} (h : Bx4 W b r0 r1 r2 r3) : W.cell? ⟨b, 0, none⟩ = some (.int .i64 r0) ∧ W.cell? ⟨b, 1, none⟩ = some (.int .i64 r1) ∧ W.cell? ⟨b, 2, none⟩ = some (.int .i64 r2) ∧ W.cell? ⟨b, 3, none⟩ = some (.int .i64 r3) := by
  refine ⟨?_, ?_, ?_, ?_⟩ <;> (rw [Lib.cell_of_heap h]; rfl)

/-- What the table of Itoa asks. -/
abbrev TbW (w : World) : Prop := Lib.TabIs Tryd.prog w "internal/strconv.uint64pow10" .u64 Lib.pow10Tab
theorem tb_up {w w' : World} (h : TbW w) (hb : Below w.heap.size w w') : TbW w' := Lib.tabBelow_of_tabIs h w' hb
theorem itoa_any (x : Int) (w : World) (hx : -9223372036854775808 ≤ x ∧ x ≤ 9223372036854775807) (ht : TbW w) : Calls Tryd.prog 35 #[.int .i64 x] w fun e w' => e = .returned (.string ⟨(Lib.itoa x).toArray⟩) ∧ Below w.heap.size w w' := by
  have h := Any.strconv_Itoa Tryd.itoaL x hx.1 hx.2 w ht
  refine Calls.mono h ?_
  rintro e w' ⟨rfl, k, os, rfl⟩
  exact ⟨rfl, Lib.below_grow _ w (Nat.le_refl _) k os⟩
/-- What a write leaves. -/
def WrP (wc : World) (l : List UInt8) (W W' : World) : Prop := Bl wc l W' ∧ Lib.OthersKept 5 (some wc.heap.size) W W'
theorem wstr_any (wc : World) (l s : List UInt8) (W : World) (h : Bl wc l W) (hl : l.length + s.length ≤ 1000000000) : Calls Tryd.prog 34 #[.pointer (some ⟨wc.heap.size, 0, none⟩), .string ⟨s.toArray⟩] W fun e W' => (∃ k, e = .returned (.tuple #[.int .i64 k, .nilIface])) ∧ WrP wc (l ++ s) W W' := by
  have hs : (⟨s.toArray⟩ : ByteArray).size = s.length := by simp [ByteArray.size]
  have h2 := Any.Builder_WriteString_k Tryd.wstrL Tryd.wstrL_X wc.heap.size wc.heap.size (Lib.byteCells l) ⟨s.toArray⟩ W h.1 (by rw [Lib.byteCells_length, hs]; omega) h.2.size
  refine Calls.mono h2 ?_
  rintro e w' ⟨rfl, h3, h4, h5⟩
  refine ⟨⟨_, rfl⟩, ⟨.inr ?_, h.2.trans h4⟩, h5⟩
  rw [Lib.byteCells_append]
  exact h3
theorem wbyt_any (wc : World) (l : List UInt8) (c : UInt8) (W : World) (h : Bl wc l W) (hl : l.length ≤ 1000000000) : Calls Tryd.prog 36 #[.pointer (some ⟨wc.heap.size, 0, none⟩), .int .u8 c.toNat] W fun e W' => e = .returned .nilIface ∧ WrP wc (l ++ [c]) W W' := by
  have h2 := Any.Builder_WriteByte_k Tryd.wbytL Tryd.wbytL_X wc.heap.size wc.heap.size (Lib.byteCells l) c.toNat W h.1 (by rw [Lib.byteCells_length]; omega) h.2.size
  refine Calls.mono h2 ?_
  rintro e w' ⟨rfl, h3, h4, h5⟩
  refine ⟨rfl, ⟨.inr ?_, h.2.trans h4⟩, h5⟩
  rw [Lib.byteCells_append]
  exact h3
theorem bstr_any (wc : World) (l : List UInt8) (W : World) (h : Bl wc l W) : Calls Tryd.prog 37 #[.pointer (some ⟨wc.heap.size, 0, none⟩)] W fun e W' => e = .returned (.string ⟨l.toArray⟩) ∧ Below wc.heap.size wc W' := by
  have h2 := Any.Builder_String_any_k Tryd.bstrL Tryd.bstrL_X wc.heap.size wc.heap.size l W h.1 h.2.size
  refine Calls.mono h2 ?_
  rintro e w' ⟨rfl, h3, h4, h5⟩
  exact ⟨rfl, h.2.trans h4⟩
end Go.Proofs.YtlelcooomfcbaaaDoor.Gg

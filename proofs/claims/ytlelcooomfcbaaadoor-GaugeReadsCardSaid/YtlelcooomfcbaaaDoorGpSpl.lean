/-
  Contracts of strings.Split at line feeds, of wordsOf and of countWithWords.
-/
import Derived.Test.YtlelcooomfcbaaaDoorGpLay
import Derived.Test.YtlelcooomfcbaaaDoorGgTx
import Derived.Lib.IndexBytes
namespace Go.Proofs.YtlelcooomfcbaaaDoor.Gg
open Go.ChangeShapes Go.WideShapes Go.ChangeAt Go.RowKit
set_option linter.unusedVariables false

set_option maxHeartbeats 1000000 in
theorem split_nl (s : ByteArray) (w : World) (hs : s.size < 4294967281) :
    Calls Tryd.prog 45 #[.string s, .string nlS] w fun e w' =>
      e = .returned (.slice (some ⟨w.heap.size, 0, none⟩) (linesG s).length (linesG s).length) ∧ w' = w.alloc (.cells ((linesG s).map Value.string).toArray 9) := by
  have hle := Lib.countB_le nlS (Nat.le_refl _) s.size s (Nat.le_refl _)
  have hlen := Lib.splitB_all nlS (Nat.le_refl _) 0 _ s rfl
  have hC : Calls Tryd.prog 68 #[.string s, .string nlS] w fun e w' => e = .returned (.int .i64 (Lib.countB s nlS)) ∧ w' = w := by
    refine (Any.strings_Count_one { Tryd.splitL with } s 10 w).mono fun e w' ⟨he, hw⟩ => ⟨?_, hw⟩
    rw [he]
    show _ = Ending.returned (Value.int .i64 ((Lib.count s.data.toList [10] : Nat) : Int))
    rw [Lib.count_one]
    rfl
  have hI : ∀ (x : ByteArray) (c : Array Value), x.size ≤ s.size → Calls Tryd.prog 69 #[.string x, .string nlS] (w.alloc (.cells c 9)) fun e w' => e = .returned (.int .i64 (Lib.indexB x nlS)) ∧ w' = w.alloc (.cells c 9) := by
    intro x c _
    refine (Any.strings_Index_one { Tryd.splitL with } x 10 _).mono fun e w' ⟨he, hw⟩ => ⟨?_, hw⟩
    rw [he, ← Lib.index_one]
    rfl
  have c : Calls Tryd.prog 59 #[.string s, .string nlS, .int .i64 0, .int .i64 (-1)] w _ := Any.strings_genSplit_core { Tryd.splitL with } (by kernel_rfl) s nlS 0 (-1) (Lib.countB s nlS + 1) w hs (Nat.le_refl _) (Nat.zero_le _) hI hC (by decide) (by decide) (by rw [if_pos (by decide)]; omega)
  rw [Nat.add_sub_cancel, hlen] at c
  have e2 : Lib.cellsOf (Lib.splitB nlS 0 (Lib.countB s nlS) s) (Lib.countB s nlS + 1) = ((Lib.splitB nlS 0 (Lib.countB s nlS) s).map Value.string).toArray := by rw [← hlen]; exact Lib.cellsOf_full _
  rw [e2] at c
  rw [lines_eq _ s rfl] at c hlen
  rw [hlen]
  have H := Lib.hid c
  clear c hC hI
  go_enter Tryd.func45, Tryd.ntmps45
  go_wp2_with (go_at_call 59; refine H.out.mono ?_; rintro e w' ⟨rfl, hw⟩; rw [hw])
  go_ret
  exact ⟨rfl, rfl⟩
theorem ts_split (s : ByteArray) (w : World) : Ts (w.alloc (.cells ((linesG s).map Value.string).toArray 9)) w.heap.size 0 (linesG s) :=
  ⟨by simp, fun i hi => by
    rw [Nat.zero_add, World.cell?_alloc_at _ _ _ _ rfl, List.getElem?_toArray, List.getElem?_map, List.getElem?_eq_getElem hi]
    rfl⟩

/-- A slice of texts can be read. -/
def RdS (w : World) (p : Option Addr) (l : List ByteArray) : Prop := 0 < l.length → ∃ g, p = some ⟨g, 0, none⟩ ∧ Ts w g 0 l
theorem RdS.up {w w' : World} {B : Nat} {p : Option Addr} {l : List ByteArray} (h : RdS w p l) (hb : Below B w w') (hB : w.heap.size ≤ B) : RdS w' p l := fun hn => by
  obtain ⟨g, e, ht⟩ := h hn
  exact ⟨g, e, ht.up hb hB⟩
theorem gotS_rd {w : World} {base : Nat} {v : Value} {l : List ByteArray} (h : GotS w base v l) : ∃ p cap, v = .slice p l.length cap ∧ RdS w p l := by
  rcases h.2 with ⟨rfl, h2⟩ | ⟨g, cap, cur, rfl, hb, hg, hc, _, _, _⟩
  · exact ⟨none, 0, by rw [h2], fun hn => by omega⟩
  · refine ⟨some ⟨g, 0, none⟩, cap, rfl, fun hn => ?_⟩
    obtain ⟨g', cap', e, _, ht⟩ := gotS_ts h hn
    simp only [Value.slice.injEq, Option.some.injEq, Addr.mk.injEq] at e
    obtain ⟨⟨rfl, _⟩, _⟩ := e
    exact ⟨g, rfl, ht⟩
/-- The closure of wordsOf: is this a space? -/
theorem clo_any (w : World) : PredAt Tryd.prog 61 #[] encR spB w := by
  intro W x hb
  show Calls Tryd.prog 61 #[.int .i32 (x : Int)] W _
  by_cases h : (x : Int) = 32
  · have e : spB x = true := by unfold spB; rw [beq_iff_eq]; exact h
    rw [e, h]
    go_enter Tryd.func61, Tryd.ntmps61
    go_wp2
    go_ret
    exact ⟨rfl, 0, rfl⟩
  · have e : spB x = false := by unfold spB; rw [beq_eq_false_iff_ne]; exact h
    have e2 : ((x : Int) == 32) = false := by rw [beq_eq_false_iff_ne]; exact h
    rw [e]
    go_enter Tryd.func61, Tryd.ntmps61
    go_wp2
    go_ret
    exact ⟨rfl, 0, rfl⟩
theorem pwords_any (s : ByteArray) (w : World) (hs : s.size ≤ 1000000000) (hn : NoNl s) : Calls Tryd.prog 47 #[.string s] w (GsP w (wordsG s)) := by
  have cF : Calls Tryd.prog 60 #[.string s, .func (.func 61) #[] #[]] w _ := Any.strings_FieldsFunc Tryd.fieldsL 61 #[] (enters_of Tryd.func61 (by kernel_rfl) rfl) spB s w (by omega) (clo_any w) (by kernel_rfl) (by kernel_rfl)
  rw [words_eq s hn] at cF
  have H := Lib.hid cF
  clear cF hn
  generalize wordsG s = FS at H ⊢
  go_enter Tryd.func47, Tryd.ntmps47
  go_wp2_with (go_at_call 60; refine H.out.mono ?_; rintro e w' ⟨A, rfl, hA, hown, hb⟩)
  go_ret
  exact ⟨_, rfl, hown, hb⟩

/-- The words of line k. -/
def lw (L : List ByteArray) (k : Nat) : List ByteArray := wordsG (L.getD k ByteArray.empty)
/-- How many of the first k lines have words. -/
def cwG (L : List ByteArray) : Nat → Nat
  | 0 => 0
  | k + 1 => if 0 < (lw L k).length then cwG L k + 1 else cwG L k
theorem cwG_le (L : List ByteArray) : ∀ k, cwG L k ≤ k
  | 0 => Nat.le_refl _
  | k + 1 => by
    have := cwG_le L k
    unfold cwG
    split <;> omega
theorem cwG_mono (L : List ByteArray) (k : Nat) : cwG L k ≤ cwG L (k + 1) := by
  show _ ≤ (if 0 < (lw L k).length then cwG L k + 1 else cwG L k)
  split <;> omega
/-- Lines: none has a line feed, none is long. -/
def LnOk (L : List ByteArray) : Prop := ∀ l ∈ L, NoNl l ∧ l.size ≤ 1000000000
theorem LnOk.at {L : List ByteArray} (h : LnOk L) (k : Nat) (hk : k < L.length) : NoNl L[k] ∧ L[k].size ≤ 1000000000 := h _ (List.getElem_mem hk)
theorem lw_at (L : List ByteArray) (k : Nat) (hk : k < L.length) : lw L k = wordsG L[k] := by
  unfold lw
  rw [List.getD_eq_getElem?_getD, List.getElem?_eq_getElem hk]
  rfl
set_option maxHeartbeats 2000000 in
theorem cww_some (g c : Nat) (L : List ByteArray) (w : World) (ht : Ts w g 0 L) (hL : LnOk L) (hn : L.length ≤ 1000000000) :
    Calls Tryd.prog 46 #[.slice (some ⟨g, 0, none⟩) L.length c] w fun e w' => e = .returned (.int .i64 (cwG L L.length)) ∧ Below w.heap.size w w' := by
  have HT := Lib.hid ht
  have HL := Lib.hid hL
  obtain ⟨n, hN⟩ : ∃ n, L.length = n := ⟨_, rfl⟩
  rw [hN] at hn ⊢
  have HN := Lib.hid hN
  clear ht hL hN
  go_enter Tryd.func46, Tryd.ntmps46
  go_wp2
  go_loopw [3, 8] (fun q i wr => ∃ (k m : Nat), k ≤ n ∧ q = .int .i64 m ∧ i = .int .i64 k ∧ m ≤ k ∧ Hid (cwG L k = m) ∧ Hid (Below w.heap.size w wr)) (fun _ i _ => n - (intOf i).toNat)
  case atStart => exact ⟨0, 0, Nat.zero_le _, rfl, rfl, Nat.le_refl _, rfl, Below.refl _ _⟩
  case round =>
    obtain ⟨k, m, hk, rfl, rfl, hmk, hcw, hb⟩ := hrel
    by_cases hkn : k < n
    · have hki : (k : Int) < (n : Int) := by omega
      have hki2 : (k : Int) ≤ 1000000000 := by omega
      have hmi : (m : Int) ≤ 1000000000 := by omega
      have hkL : k < L.length := by rw [HN.out]; exact hkn
      have c0 := (HT.out.up hb.out (Nat.le_refl _)).2 k hkL
      rw [Nat.zero_add] at c0
      have HW : Hid (∀ W, Calls Tryd.prog 47 #[.string L[k]] W (GsP W (lw L k))) := by
        show ∀ W, _
        intro W
        rw [lw_at L k hkL]
        exact pwords_any _ W (HL.out.at k hkL).2 (HL.out.at k hkL).1
      have HS : Hid (cwG L (k + 1) = if 0 < (lw L k).length then m + 1 else m) := by
        show (if 0 < (lw L k).length then cwG L k + 1 else cwG L k) = _
        rw [hcw.out]
      generalize lw L k = ws at HW HS
      generalize L[k] = ln at c0 HW
      have hcase : (0 < ws.length ∧ cwG L (k + 1) = m + 1) ∨ (ws.length = 0 ∧ cwG L (k + 1) = m) := by
        have h := HS.out
        by_cases e : 0 < ws.length
        · rw [if_pos e] at h; exact .inl ⟨e, h⟩
        · rw [if_neg e] at h; exact .inr ⟨by omega, h⟩
      have hb2 := hb.out.size
      clear HS hkL
      rcases hcase with ⟨e1, e2⟩ | ⟨e1, e2⟩
      · have E2 := Lib.hid e2
        have e3 : (0 : Int) < (ws.length : Int) := by omega
        clear e2 e1
        go_wp2_with (go_at_call 47; refine (HW.out _).mono ?_; rintro e w1 ⟨v, rfl, hg, hb1⟩; obtain ⟨p, cap, rfl, _⟩ := gotS_rd hg; have HB1 := Lib.hid (hb.out.trans (hb1.mono hb2)); clear hg hb1)
        go_roundw
        case rel => exact ⟨k + 1, m + 1, by omega, by go_num, by go_num, by omega, E2, HB1⟩
        case measure => simp [intOf]; omega
      · have E2 := Lib.hid e2
        have e3 : ¬ (0 : Int) < (ws.length : Int) := by omega
        clear e2 e1
        go_wp2_with (go_at_call 47; refine (HW.out _).mono ?_; rintro e w1 ⟨v, rfl, hg, hb1⟩; obtain ⟨p, cap, rfl, _⟩ := gotS_rd hg; have HB1 := Lib.hid (hb.out.trans (hb1.mono hb2)); clear hg hb1)
        go_roundw
        case rel => exact ⟨k + 1, m, by omega, by go_num, by go_num, by omega, E2, HB1⟩
        case measure => simp [intOf]; omega
    · obtain rfl : k = n := by omega
      have HR := Lib.hid hcw.out
      go_wp2
      go_ret
      exact ⟨by rw [HR.out]; rfl, hb.out⟩
end Go.Proofs.YtlelcooomfcbaaaDoor.Gg

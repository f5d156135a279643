/-
  Lists of texts; the contracts of Words and Lines of the reference of chapter 6.
-/
import Derived.Test.YtlelcooomfcbaaaDoorGgNum
namespace Go.Proofs.YtlelcooomfcbaaaDoor.Gg
open Go.ChangeShapes Go.WideShapes Go.ChangeAt Go.RowKit
set_option linter.unusedVariables false

/-- v is a list of the call's own with these texts. -/
def GotS (w : World) (base : Nat) (v : Value) (l : List ByteArray) : Prop := w.ownsRow base 9 1 v l.length (l.map Value.string)
theorem gotS_nil (w : World) (base : Nat) : GotS w base (.slice none 0 0) [] := World.ownsRow_nil w base _ 1
theorem gotS_block {w : World} {base : Nat} {v : Value} {l : List ByteArray} (h : GotS w base v l) : ∀ k, v.ownBlock = some k → base ≤ k := fun k hk => (h.lt k hk).1
theorem gotS_next {w : World} {base : Nat} {v : Value} {l : List ByteArray} {s : ByteArray} (h : w.ownsRow base 9 1 v (l.length + 1) (l.map Value.string ++ [.string s])) : GotS w base v (l ++ [s]) := by
  unfold GotS
  rw [List.length_append, List.map_append]
  exact h
/-- At offset off of block b stand these texts. -/
def Ts (w : World) (b off : Nat) (l : List ByteArray) : Prop := b < w.heap.size ∧ ∀ i (h : i < l.length), w.cell? ⟨b, off + i, none⟩ = some (.string l[i])
theorem Ts.up {w w' : World} {B b off : Nat} {l : List ByteArray} (h : Ts w b off l) (hb : Below B w w') (hB : w.heap.size ≤ B) : Ts w' b off l :=
  ⟨Nat.lt_of_lt_of_le h.1 hb.size, fun i hi => (hb.cell (p := ⟨b, off + i, none⟩) (Nat.lt_of_lt_of_le h.1 hB)).trans (h.2 i hi)⟩
theorem gotS_ts {w : World} {base : Nat} {v : Value} {l : List ByteArray} (h : GotS w base v l) (hn : 0 < l.length) : ∃ g cap, v = .slice (some ⟨g, 0, none⟩) l.length cap ∧ base ≤ g ∧ Ts w g 0 l := by
  rcases h.2 with ⟨_, h2⟩ | ⟨g, cap, cur, rfl, hb, hg, hc, _, _, _⟩
  · omega
  · refine ⟨g, cap, rfl, hb, ⟨(h.lt g rfl).2, fun i hi => ?_⟩⟩
    rw [Nat.zero_add, h.cellAt _ (by omega), List.getElem?_map, List.getElem?_eq_getElem hi]
    rfl
theorem cell_one (w : World) (u : Value) (t : TypeId) : ∀ j x, [u][j]? = some x → (w.alloc (.cells #[u] t)).cell? ((⟨w.heap.size, 0, none⟩ : Addr).add j) = some x := by
  intro j x hj
  match j, hj with
  | 0, hj => simp at hj; subst hj; simp [Addr.add]
theorem Tryd.infoS : (Tryd.prog.info? 9).map (fun i => (i.zero, i.size, i.bytes)) = some (some (.string ByteArray.empty), 1, 16) := by kernel_rfl

/-- Byte i parts words; is the end or a line's end. -/
def sepW (s : ByteArray) (i : Nat) : Bool := decide (i = s.size ∨ sB s i = 32 ∨ sB s i = 10)
def sepL (s : ByteArray) (i : Nat) : Bool := decide (i = s.size ∨ sB s i = 10)
/-- The words behind the first k places, and where the next one begins. -/
def wdG (s : ByteArray) : Nat → List ByteArray × Nat
  | 0 => ([], 0)
  | k + 1 => if sepW s k = true then ((if (wdG s k).2 < k then (wdG s k).1 ++ [s.extract (wdG s k).2 k] else (wdG s k).1), k + 1) else wdG s k
def wordsG (s : ByteArray) : List ByteArray := (wdG s (s.size + 1)).1
/-- The lines behind the first k places, and where the next one begins. -/
def lnG (s : ByteArray) : Nat → List ByteArray × Nat
  | 0 => ([], 0)
  | k + 1 => if sepL s k = true then ((lnG s k).1 ++ [s.extract (lnG s k).2 k], k + 1) else lnG s k
def linesG (s : ByteArray) : List ByteArray := (lnG s (s.size + 1)).1
theorem wdG_le (s : ByteArray) : ∀ k, (wdG s k).2 ≤ k ∧ (wdG s k).1.length ≤ k
  | 0 => ⟨Nat.le_refl _, Nat.le_refl _⟩
  | k + 1 => by
    have ih := wdG_le s k
    unfold wdG
    by_cases h : sepW s k = true
    · rw [if_pos h]
      refine ⟨Nat.le_refl _, ?_⟩
      show (if (wdG s k).2 < k then (wdG s k).1 ++ [s.extract (wdG s k).2 k] else (wdG s k).1).length ≤ k + 1
      split
      · rw [List.length_append]; simp; omega
      · omega
    · rw [if_neg h]; omega
theorem lnG_le (s : ByteArray) : ∀ k, (lnG s k).2 ≤ k ∧ (lnG s k).1.length ≤ k
  | 0 => ⟨Nat.le_refl _, Nat.le_refl _⟩
  | k + 1 => by
    have ih := lnG_le s k
    unfold lnG
    by_cases h : sepL s k = true
    · rw [if_pos h]
      refine ⟨Nat.le_refl _, ?_⟩
      show ((lnG s k).1 ++ [s.extract (lnG s k).2 k]).length ≤ k + 1
      rw [List.length_append]; simp; omega
    · rw [if_neg h]; omega
/-- What Words and Lines return. -/
def GsP (w : World) (l : List ByteArray) (e : Ending) (w' : World) : Prop := ∃ v, e = .returned v ∧ GotS w' w.heap.size v l ∧ Below w.heap.size w w'

set_option maxRecDepth 100000 in
set_option maxHeartbeats 4000000 in
theorem words_any (s : ByteArray) (w : World) (hs : s.size ≤ 1000000000) : Calls Tryd.prog 50 #[.string s] w (GsP w (wordsG s)) := by
  obtain ⟨i0, hi, hz0, hz1, hz2⟩ := info_parts Tryd.infoS
  go_enter Tryd.func50, Tryd.ntmps50
  go_wp2
  go_loopw [3, 4, 5] (fun v f i wr => ∃ (k fr : Nat) (l : List ByteArray) (V : Value), V = v ∧ k ≤ s.size + 1 ∧ f = .int .i64 fr ∧ i = .int .i64 k ∧ fr ≤ k ∧ l.length ≤ k ∧ Hid (wdG s k = (l, fr)) ∧ Hid (GotS wr w.heap.size v l) ∧ Hid (Below w.heap.size w wr)) (fun _ _ i _ => s.size + 1 - (intOf i).toNat)
  case atStart => exact ⟨0, 0, [], _, rfl, by omega, rfl, rfl, Nat.le_refl _, Nat.le_refl _, rfl, gotS_nil _ _, Below.refl _ _⟩
  case round =>
    obtain ⟨k, fr, l, v, rfl, hk, rfl, rfl, hfk, hlk, hwd, hgot, hb⟩ := hrel
    by_cases hkn : k ≤ s.size
    · have hki9 : (k : Int) ≤ 1000000000 := by omega
      have hki : (k : Int) ≤ (s.size : Int) := by omega
      have hfi : (fr : Int) ≤ (k : Int) := by omega
      by_cases hsep : sepW s k = true
      · have hor : (k = s.size) ∨ (k < s.size ∧ sB s k = 32) ∨ (k < s.size ∧ ¬ sB s k = 32 ∧ sB s k = 10) := by
          unfold sepW at hsep
          rw [decide_eq_true_eq] at hsep
          omega
        have HN : Hid (wdG s (k + 1) = ((if fr < k then l ++ [s.extract fr k] else l), k + 1)) := by
          show (if sepW s k = true then ((if (wdG s k).2 < k then (wdG s k).1 ++ [s.extract (wdG s k).2 k] else (wdG s k).1), k + 1) else wdG s k) = _
          rw [if_pos hsep, hwd.out]
        clear hsep hwd
        rcases hor with rfl | ⟨hlt, hc⟩ | ⟨hlt, hc, hc2⟩
        · skip
          by_cases hf : fr < s.size
          · have hfi2 : (fr : Int) < ((s.size : Nat) : Int) := by omega
            rw [if_pos hf] at HN
            clear hf
            have HOa := Lib.hid (World.ownsRow.alloc hgot.out (.cells #[.string (s.extract fr s.size)] 9))
            go_wp2_with (at_builtin; refine wpList_append_own _ rfl _ _ 47 rfl w.heap.size 9 i0 (.string ByteArray.empty) 1 16 Tryd.underlying47 hi hz0 hz1 hz2 rfl (by decide) v l.length _ rfl HOa.out ⟨wr.heap.size, 0, none⟩ 1 1 [.string (s.extract fr s.size)] rfl rfl (cell_one _ _ _) (by intro u hu; simp at hu; subst hu; rfl) (by unfold maxLen; omega) (by omega) (by have := hb.out.size; simp; omega) ?_; intro v' w3 hown' hgrow hnil)
            have HG2 := Lib.hid (gotS_next hown')
            have HB2 : Hid (Below w.heap.size w w3) := below_own (hb.out.alloc hb.out.size _) (Nat.le_refl _) hgrow (fun k hk => gotS_block hgot.out k hk)
            clear hown' hgrow hnil HOa hgot hb
            go_wp2_with fail
            go_roundw
            case rel => exact ⟨s.size + 1, s.size + 1, _, _, rfl, by omega, by go_num, by go_num, Nat.le_refl _, by rw [List.length_append]; simp; omega, HN, HG2, HB2⟩
            case measure => first | (simp [intOf]; done) | (simp [intOf]; omega)
          · have hfi2 : ¬ (fr : Int) < ((s.size : Nat) : Int) := by omega
            rw [if_neg hf] at HN
            clear hf
            go_wp2_with fail
            go_roundw
            case rel => exact ⟨s.size + 1, s.size + 1, l, _, rfl, by omega, by go_num, by go_num, Nat.le_refl _, by omega, HN, hgot, hb⟩
            case measure => first | (simp [intOf]; done) | (simp [intOf]; omega)
        · have hlti : (k : Int) < (s.size : Int) := by omega
          have hx := sB_eq s k hlt
          have e1 : ((k : Int) == (s.size : Int)) = false := by rw [beq_eq_false_iff_ne]; omega
          have e2 : ((s[k].toNat : Int) == 32) = true := by rw [beq_iff_eq]; omega
          clear hx hc
          by_cases hf : fr < k
          · have hfi2 : (fr : Int) < ((k : Nat) : Int) := by omega
            rw [if_pos hf] at HN
            clear hf
            have HOa := Lib.hid (World.ownsRow.alloc hgot.out (.cells #[.string (s.extract fr k)] 9))
            go_wp2_with (at_builtin; refine wpList_append_own _ rfl _ _ 47 rfl w.heap.size 9 i0 (.string ByteArray.empty) 1 16 Tryd.underlying47 hi hz0 hz1 hz2 rfl (by decide) v l.length _ rfl HOa.out ⟨wr.heap.size, 0, none⟩ 1 1 [.string (s.extract fr k)] rfl rfl (cell_one _ _ _) (by intro u hu; simp at hu; subst hu; rfl) (by unfold maxLen; omega) (by omega) (by have := hb.out.size; simp; omega) ?_; intro v' w3 hown' hgrow hnil)
            have HG2 := Lib.hid (gotS_next hown')
            have HB2 : Hid (Below w.heap.size w w3) := below_own (hb.out.alloc hb.out.size _) (Nat.le_refl _) hgrow (fun k hk => gotS_block hgot.out k hk)
            clear hown' hgrow hnil HOa hgot hb
            go_wp2_with fail
            go_roundw
            case rel => exact ⟨k + 1, k + 1, _, _, rfl, by omega, by go_num, by go_num, Nat.le_refl _, by rw [List.length_append]; simp; omega, HN, HG2, HB2⟩
            case measure => first | (simp [intOf]; done) | (simp [intOf]; omega)
          · have hfi2 : ¬ (fr : Int) < ((k : Nat) : Int) := by omega
            rw [if_neg hf] at HN
            clear hf
            go_wp2_with fail
            go_roundw
            case rel => exact ⟨k + 1, k + 1, l, _, rfl, by omega, by go_num, by go_num, Nat.le_refl _, by omega, HN, hgot, hb⟩
            case measure => first | (simp [intOf]; done) | (simp [intOf]; omega)
        · have hlti : (k : Int) < (s.size : Int) := by omega
          have hx := sB_eq s k hlt
          have e1 : ((k : Int) == (s.size : Int)) = false := by rw [beq_eq_false_iff_ne]; omega
          have e2 : ((s[k].toNat : Int) == 32) = false := by rw [beq_eq_false_iff_ne]; omega
          have e3 : ((s[k].toNat : Int) == 10) = true := by rw [beq_iff_eq]; omega
          clear hx hc hc2
          by_cases hf : fr < k
          · have hfi2 : (fr : Int) < ((k : Nat) : Int) := by omega
            rw [if_pos hf] at HN
            clear hf
            have HOa := Lib.hid (World.ownsRow.alloc hgot.out (.cells #[.string (s.extract fr k)] 9))
            go_wp2_with (at_builtin; refine wpList_append_own _ rfl _ _ 47 rfl w.heap.size 9 i0 (.string ByteArray.empty) 1 16 Tryd.underlying47 hi hz0 hz1 hz2 rfl (by decide) v l.length _ rfl HOa.out ⟨wr.heap.size, 0, none⟩ 1 1 [.string (s.extract fr k)] rfl rfl (cell_one _ _ _) (by intro u hu; simp at hu; subst hu; rfl) (by unfold maxLen; omega) (by omega) (by have := hb.out.size; simp; omega) ?_; intro v' w3 hown' hgrow hnil)
            have HG2 := Lib.hid (gotS_next hown')
            have HB2 : Hid (Below w.heap.size w w3) := below_own (hb.out.alloc hb.out.size _) (Nat.le_refl _) hgrow (fun k hk => gotS_block hgot.out k hk)
            clear hown' hgrow hnil HOa hgot hb
            go_wp2_with fail
            go_roundw
            case rel => exact ⟨k + 1, k + 1, _, _, rfl, by omega, by go_num, by go_num, Nat.le_refl _, by rw [List.length_append]; simp; omega, HN, HG2, HB2⟩
            case measure => first | (simp [intOf]; done) | (simp [intOf]; omega)
          · have hfi2 : ¬ (fr : Int) < ((k : Nat) : Int) := by omega
            rw [if_neg hf] at HN
            clear hf
            go_wp2_with fail
            go_roundw
            case rel => exact ⟨k + 1, k + 1, l, _, rfl, by omega, by go_num, by go_num, Nat.le_refl _, by omega, HN, hgot, hb⟩
            case measure => first | (simp [intOf]; done) | (simp [intOf]; omega)
      · have hno : k < s.size ∧ ¬ sB s k = 32 ∧ ¬ sB s k = 10 := by
          unfold sepW at hsep
          rw [decide_eq_true_eq] at hsep
          omega
        have HN : Hid (wdG s (k + 1) = (l, fr)) := by
          show (if sepW s k = true then ((if (wdG s k).2 < k then (wdG s k).1 ++ [s.extract (wdG s k).2 k] else (wdG s k).1), k + 1) else wdG s k) = _
          rw [if_neg hsep, hwd.out]
        obtain ⟨hlt, hc, hc2⟩ := hno
        have hlti : (k : Int) < (s.size : Int) := by omega
        have hx := sB_eq s k hlt
        have e1 : ((k : Int) == (s.size : Int)) = false := by rw [beq_eq_false_iff_ne]; omega
        have e2 : ((s[k].toNat : Int) == 32) = false := by rw [beq_eq_false_iff_ne]; omega
        have e3 : ((s[k].toNat : Int) == 10) = false := by rw [beq_eq_false_iff_ne]; omega
        clear hx hc hc2 hsep hwd
        go_wp2_with fail
        go_roundw
        case rel => exact ⟨k + 1, fr, l, _, rfl, by omega, rfl, by go_num, by omega, by omega, HN, hgot, hb⟩
        case measure => first | (simp [intOf]; done) | (simp [intOf]; omega)
    · obtain rfl : k = s.size + 1 := by omega
      have HR : Hid (wordsG s = l) := by show (wdG s (s.size + 1)).1 = l; rw [hwd.out]
      have hni : ¬ ((s.size + 1 : Nat) : Int) ≤ (s.size : Int) := by omega
      have HS := Lib.hid hs
      clear hs hk
      go_wp2
      go_ret
      exact ⟨_, rfl, by rw [HR.out]; exact hgot.out, hb.out⟩

set_option maxRecDepth 100000 in
set_option maxHeartbeats 4000000 in
theorem lines_any (s : ByteArray) (w : World) (hs : s.size ≤ 1000000000) : Calls Tryd.prog 49 #[.string s] w (GsP w (linesG s)) := by
  obtain ⟨i0, hi, hz0, hz1, hz2⟩ := info_parts Tryd.infoS
  go_enter Tryd.func49, Tryd.ntmps49
  go_wp2
  go_loopw [3, 4, 5] (fun v f i wr => ∃ (k fr : Nat) (l : List ByteArray) (V : Value), V = v ∧ k ≤ s.size + 1 ∧ f = .int .i64 fr ∧ i = .int .i64 k ∧ fr ≤ k ∧ l.length ≤ k ∧ Hid (lnG s k = (l, fr)) ∧ Hid (GotS wr w.heap.size v l) ∧ Hid (Below w.heap.size w wr)) (fun _ _ i _ => s.size + 1 - (intOf i).toNat)
  case atStart => exact ⟨0, 0, [], _, rfl, by omega, rfl, rfl, Nat.le_refl _, Nat.le_refl _, rfl, gotS_nil _ _, Below.refl _ _⟩
  case round =>
    obtain ⟨k, fr, l, v, rfl, hk, rfl, rfl, hfk, hlk, hwd, hgot, hb⟩ := hrel
    by_cases hkn : k ≤ s.size
    · have hki9 : (k : Int) ≤ 1000000000 := by omega
      have hki : (k : Int) ≤ (s.size : Int) := by omega
      have hfi : (fr : Int) ≤ (k : Int) := by omega
      by_cases hsep : sepL s k = true
      · have hor : (k = s.size) ∨ (k < s.size ∧ sB s k = 10) := by
          unfold sepL at hsep
          rw [decide_eq_true_eq] at hsep
          omega
        have HN : Hid (lnG s (k + 1) = (l ++ [s.extract fr k], k + 1)) := by
          show (if sepL s k = true then ((lnG s k).1 ++ [s.extract (lnG s k).2 k], k + 1) else lnG s k) = _
          rw [if_pos hsep, hwd.out]
        clear hsep hwd
        rcases hor with rfl | ⟨hlt, hc⟩
        · skip
          have HOa := Lib.hid (World.ownsRow.alloc hgot.out (.cells #[.string (s.extract fr s.size)] 9))
          go_wp2_with (at_builtin; refine wpList_append_own _ rfl _ _ 47 rfl w.heap.size 9 i0 (.string ByteArray.empty) 1 16 Tryd.underlying47 hi hz0 hz1 hz2 rfl (by decide) v l.length _ rfl HOa.out ⟨wr.heap.size, 0, none⟩ 1 1 [.string (s.extract fr s.size)] rfl rfl (cell_one _ _ _) (by intro u hu; simp at hu; subst hu; rfl) (by unfold maxLen; omega) (by omega) (by have := hb.out.size; simp; omega) ?_; intro v' w3 hown' hgrow hnil)
          have HG2 := Lib.hid (gotS_next hown')
          have HB2 : Hid (Below w.heap.size w w3) := below_own (hb.out.alloc hb.out.size _) (Nat.le_refl _) hgrow (fun k hk => gotS_block hgot.out k hk)
          clear hown' hgrow hnil HOa hgot hb
          go_wp2_with fail
          go_roundw
          case rel => exact ⟨s.size + 1, s.size + 1, _, _, rfl, by omega, by go_num, by go_num, Nat.le_refl _, by rw [List.length_append]; simp; omega, HN, HG2, HB2⟩
          case measure => first | (simp [intOf]; done) | (simp [intOf]; omega)
        · have hlti : (k : Int) < (s.size : Int) := by omega
          have hx := sB_eq s k hlt
          have e1 : ((k : Int) == (s.size : Int)) = false := by rw [beq_eq_false_iff_ne]; omega
          have e2 : ((s[k].toNat : Int) == 10) = true := by rw [beq_iff_eq]; omega
          clear hx hc
          have HOa := Lib.hid (World.ownsRow.alloc hgot.out (.cells #[.string (s.extract fr k)] 9))
          go_wp2_with (at_builtin; refine wpList_append_own _ rfl _ _ 47 rfl w.heap.size 9 i0 (.string ByteArray.empty) 1 16 Tryd.underlying47 hi hz0 hz1 hz2 rfl (by decide) v l.length _ rfl HOa.out ⟨wr.heap.size, 0, none⟩ 1 1 [.string (s.extract fr k)] rfl rfl (cell_one _ _ _) (by intro u hu; simp at hu; subst hu; rfl) (by unfold maxLen; omega) (by omega) (by have := hb.out.size; simp; omega) ?_; intro v' w3 hown' hgrow hnil)
          have HG2 := Lib.hid (gotS_next hown')
          have HB2 : Hid (Below w.heap.size w w3) := below_own (hb.out.alloc hb.out.size _) (Nat.le_refl _) hgrow (fun k hk => gotS_block hgot.out k hk)
          clear hown' hgrow hnil HOa hgot hb
          go_wp2_with fail
          go_roundw
          case rel => exact ⟨k + 1, k + 1, _, _, rfl, by omega, by go_num, by go_num, Nat.le_refl _, by rw [List.length_append]; simp; omega, HN, HG2, HB2⟩
          case measure => first | (simp [intOf]; done) | (simp [intOf]; omega)
      · have hno : k < s.size ∧ ¬ sB s k = 10 := by
          unfold sepL at hsep
          rw [decide_eq_true_eq] at hsep
          omega
        have HN : Hid (lnG s (k + 1) = (l, fr)) := by
          show (if sepL s k = true then ((lnG s k).1 ++ [s.extract (lnG s k).2 k], k + 1) else lnG s k) = _
          rw [if_neg hsep, hwd.out]
        obtain ⟨hlt, hc2⟩ := hno
        have hlti : (k : Int) < (s.size : Int) := by omega
        have hx := sB_eq s k hlt
        have e1 : ((k : Int) == (s.size : Int)) = false := by rw [beq_eq_false_iff_ne]; omega
        skip
        have e3 : ((s[k].toNat : Int) == 10) = false := by rw [beq_eq_false_iff_ne]; omega
        clear hx hc2 hsep hwd
        go_wp2_with fail
        go_roundw
        case rel => exact ⟨k + 1, fr, l, _, rfl, by omega, rfl, by go_num, by omega, by omega, HN, hgot, hb⟩
        case measure => first | (simp [intOf]; done) | (simp [intOf]; omega)
    · obtain rfl : k = s.size + 1 := by omega
      have HR : Hid (linesG s = l) := by show (lnG s (s.size + 1)).1 = l; rw [hwd.out]
      have hni : ¬ ((s.size + 1 : Nat) : Int) ≤ (s.size : Int) := by omega
      have HS := Lib.hid hs
      clear hs hk
      go_wp2
      go_ret
      exact ⟨_, rfl, by rw [HR.out]; exact hgot.out, hb.out⟩
end Go.Proofs.YtlelcooomfcbaaaDoor.Gg

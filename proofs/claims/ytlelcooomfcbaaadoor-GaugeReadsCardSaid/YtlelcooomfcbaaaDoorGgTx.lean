/-
  Words and lines: what strings.FieldsFunc and strings.Split return is what Words and Lines of the reference return.
-/
import Derived.Test.YtlelcooomfcbaaaDoorGgWds
import Derived.Lib.FieldsP
import Derived.Lib.SpaceUEq
import Derived.Laws.RangeAny
import Derived.Lib.SplitLaws
import Derived.Lib.TrimUEq
namespace Go.Proofs.YtlelcooomfcbaaaDoor.Gg
open Go
set_option linter.unusedVariables false

/-- A rune is a space. -/
def spB (r : Nat) : Bool := (r : Int) == 32
/-- A line: no line feed in it. -/
def NoNl (s : ByteArray) : Prop := ∀ i, i < s.size → sB s i ≠ 10
theorem sB_get (s : ByteArray) (i : Nat) (h : i < s.size) : sB s i = ((s.get! i).toNat : Int) := by
  rw [sB_eq s i h, ← get_at s i h]; rfl
theorem spB_no {r : Nat} (h : r ≠ 32) : spB r = false := by unfold spB; rw [beq_eq_false_iff_ne]; omega
theorem wd_skip (s : ByteArray) (pos : Nat) : ∀ K, (∀ j, j < K → sepW s (pos + j) = false) → wdG s (pos + K) = wdG s pos
  | 0, _ => rfl
  | K + 1, h => by
    rw [← Nat.add_assoc]
    show (if sepW s (pos + K) = true then _ else wdG s (pos + K)) = _
    rw [if_neg (by rw [h K (by omega)]; simp)]
    exact wd_skip s pos K (fun j hj => h j (by omega))
theorem dec_space (s : ByteArray) (pos : Nat) (h : pos < s.size) (hc : sB s pos = 32) : Utf8.decode s pos = (32, 1) := by
  rw [sB_eq s pos h] at hc
  rw [decode_ascii s pos h (by omega), show (s[pos]'h).toNat = 32 by omega]
theorem dec_other (s : ByteArray) (pos : Nat) (h : pos < s.size) (hc : sB s pos ≠ 32) :
    spB (Utf8.decode s pos).1 = false ∧ 1 ≤ (Utf8.decode s pos).2 ∧ pos + (Utf8.decode s pos).2 ≤ s.size ∧ ∀ j, j < (Utf8.decode s pos).2 → sB s (pos + j) ≠ 32 := by
  have hx := sB_eq s pos h
  by_cases ha : (s[pos]'h).toNat < 128
  · rw [decode_ascii s pos h ha]
    refine ⟨spB_no (by show (s[pos]'h).toNat ≠ 32; omega), Nat.le_refl _, h, fun j hj => ?_⟩
    obtain rfl : j = 0 := by
      have : j < 1 := hj
      omega
    exact hc
  · obtain ⟨h1, h2⟩ := decode_high s pos h (by omega)
    have hw := Lib.decodeN_le_n' (s.size - pos) (s.get! pos).toNat (s.get! (pos + 1)).toNat (s.get! (pos + 2)).toNat (s.get! (pos + 3)).toNat (by omega)
    have hcs := Lib.decodeN_conts (s.size - pos) (s.get! pos).toNat (s.get! (pos + 1)).toNat (s.get! (pos + 2)).toNat (s.get! (pos + 3)).toNat
    rw [← Lib.decode_at] at hw hcs
    obtain ⟨c1, c2, c3, c4⟩ := hcs
    refine ⟨spB_no (by omega), h2, by omega, fun j hj => ?_⟩
    have hjc : j = 0 ∨ j = 1 ∨ j = 2 ∨ j = 3 := by omega
    rcases hjc with rfl | rfl | rfl | rfl
    · exact hc
    · have := c1 (by omega)
      rw [sB_get s (pos + 1) (by omega)]
      omega
    · have := c2 (by omega)
      rw [sB_get s (pos + 2) (by omega)]
      omega
    · have := c3 (by omega)
      rw [sB_get s (pos + 3) (by omega)]
      omega
def cutX (s : ByteArray) (x : Nat × Nat) : ByteArray := s.extract x.1 x.2
theorem wordsG_end (s : ByteArray) : wordsG s = (if (wdG s s.size).2 < s.size then (wdG s s.size).1 ++ [s.extract (wdG s s.size).2 s.size] else (wdG s s.size).1) := by
  unfold wordsG
  show (if sepW s s.size = true then _ else wdG s s.size).1 = _
  rw [if_pos (by unfold sepW; rw [decide_eq_true_eq]; exact .inl rfl)]
theorem words_run (s : ByteArray) (hn : NoNl s) : ∀ (f pos : Nat) (st : Option Nat) (acc : List (Nat × Nat)), s.size ≤ pos + f → pos ≤ s.size → (∀ a, st = some a → a < pos) →
    acc.map (cutX s) = (wdG s pos).1 → (wdG s pos).2 = st.getD pos → (Lib.closeSpans s (Lib.spansFromP spB s f pos st acc)).map (cutX s) = wordsG s := by
  have hend : ∀ (st : Option Nat) (acc : List (Nat × Nat)), (∀ a, st = some a → a < s.size) → acc.map (cutX s) = (wdG s s.size).1 → (wdG s s.size).2 = st.getD s.size → (Lib.closeSpans s (acc, st)).map (cutX s) = wordsG s := by
    intro st acc ha h1 h2
    rw [wordsG_end, h2, ← h1]
    cases st with
    | none => rw [if_neg (by simp)]; rfl
    | some a =>
      have := ha a rfl
      rw [if_pos (by simpa using this)]
      show (acc ++ [(a, s.size)]).map (cutX s) = _
      rw [List.map_append]; rfl
  intro f
  induction f with
  | zero =>
    intro pos st acc hf hp ha h1 h2
    obtain rfl : pos = s.size := by omega
    exact hend st acc ha h1 h2
  | succ f ih =>
    intro pos st acc hf hp ha h1 h2
    by_cases hlt : pos < s.size
    · by_cases hc : sB s pos = 32
      · have hsep : sepW s pos = true := by unfold sepW; rw [decide_eq_true_eq]; exact .inr (.inl hc)
        have hw : wdG s (pos + 1) = ((if (wdG s pos).2 < pos then (wdG s pos).1 ++ [s.extract (wdG s pos).2 pos] else (wdG s pos).1), pos + 1) := by
          show (if sepW s pos = true then _ else _) = _
          rw [if_pos hsep]
        have hd := dec_space s pos hlt hc
        unfold Lib.spansFromP
        rw [if_pos hlt, hd]
        rw [if_pos (show spB 32 = true from rfl)]
        cases st with
        | none =>
          refine ih (pos + 1) none acc (by omega) (by omega) (fun a h => by cases h) ?_ ?_
          · rw [hw, h2, h1]
            show _ = (if pos < pos then _ else _)
            rw [if_neg (by omega)]
          · rw [hw]; rfl
        | some a =>
          have hap := ha a rfl
          refine ih (pos + 1) none (acc ++ [(a, pos)]) (by omega) (by omega) (fun a h => by cases h) ?_ ?_
          · rw [hw, h2, List.map_append, h1]
            show _ = (if a < pos then _ else _)
            rw [if_pos hap]; rfl
          · rw [hw]; rfl
      · obtain ⟨d1, d2, d3, d4⟩ := dec_other s pos hlt hc
        have hsk : wdG s (pos + (Utf8.decode s pos).2) = wdG s pos := wd_skip s pos _ (fun j hj => by
          unfold sepW
          rw [decide_eq_false_iff_not]
          have := d4 j hj
          have := hn (pos + j) (by omega)
          omega)
        unfold Lib.spansFromP
        rw [if_pos hlt, if_neg (by rw [d1]; simp)]
        cases st with
        | none =>
          refine ih _ (some pos) acc (by omega) d3 (fun a h => by cases h; omega) ?_ ?_
          · rw [hsk]; exact h1
          · rw [hsk]; exact h2
        | some a =>
          have hap := ha a rfl
          refine ih _ (some a) acc (by omega) d3 (fun b h => by cases h; omega) ?_ ?_
          · rw [hsk]; exact h1
          · rw [hsk]; exact h2
    · obtain rfl : pos = s.size := by omega
      rw [Lib.spansFromP_end _ _ _ _ _ _ hlt]
      exact hend st acc ha h1 h2
/-- What strings.FieldsFunc returns for a line is what Words returns. -/
theorem words_eq (s : ByteArray) (hn : NoNl s) : Lib.goFieldsP spB s = wordsG s :=
  words_run s hn s.size 0 none [] (by omega) (Nat.zero_le _) (fun a h => by cases h) rfl rfl

/-! ### lines -/
def nlS : ByteArray := ⟨#[10]⟩
theorem sB_list (s : ByteArray) (i : Nat) (h : i < s.size) : ∃ x, s.data.toList[i]? = some x ∧ sB s i = (x.toNat : Int) :=
  ⟨s[i], by rw [Array.getElem?_toList]; exact Array.getElem?_eq_getElem h, sB_eq s i h⟩
theorem occ_iff (s : ByteArray) (i : Nat) : Lib.occAt s.data.toList nlS.data.toList i = true ↔ i < s.size ∧ sB s i = 10 := by
  unfold Lib.occAt nlS
  by_cases h : i < s.size
  · obtain ⟨x, h1, h2⟩ := sB_list s i h
    have hl : i < s.data.toList.length := by rw [← Lib.size_eq]; exact h
    have hx : s.data.toList[i] = x := by
      rw [List.getElem?_eq_getElem hl] at h1
      exact Option.some.inj h1
    rw [List.drop_eq_getElem_cons hl, hx, h2]
    simp only [List.isPrefixOf, Bool.and_true, beq_iff_eq]
    constructor
    · intro e
      refine ⟨h, ?_⟩
      rw [← e]; rfl
    · rintro ⟨_, e⟩
      apply UInt8.toNat_inj.1
      show 10 = x.toNat
      omega
  · rw [List.drop_eq_nil_of_le (by rw [← Lib.size_eq]; omega)]
    simp [List.isPrefixOf, h]
theorem idx_cases (s : ByteArray) : (Lib.indexB s nlS = -1 ∧ NoNl s) ∨ ∃ i : Nat, Lib.indexB s nlS = i ∧ i < s.size ∧ sB s i = 10 ∧ ∀ j, j < i → sB s j ≠ 10 := by
  rcases Lib.index_spec s.data.toList nlS.data.toList with ⟨h1, h2⟩ | ⟨i, h1, h2, h3, h4⟩
  · refine .inl ⟨h1, fun i hi hc => ?_⟩
    have := h2 i (by rw [← Lib.size_eq]; omega)
    rw [(occ_iff s i).2 ⟨hi, hc⟩] at this
    cases this
  · obtain ⟨h5, h6⟩ := (occ_iff s i).1 h3
    refine .inr ⟨i, h1, h5, h6, fun j hj hc => ?_⟩
    have := h4 j hj
    rw [(occ_iff s j).2 ⟨by omega, hc⟩] at this
    cases this
theorem ln_none (s : ByteArray) (m : Nat) (hm : m ≤ s.size) (hn : ∀ j, j < m → sB s j ≠ 10) : ∀ k, k ≤ m → lnG s k = ([], 0)
  | 0, _ => rfl
  | k + 1, h => by
    show (if sepL s k = true then _ else lnG s k) = _
    rw [if_neg (by
      unfold sepL
      rw [decide_eq_true_eq]
      have := hn k (by omega)
      omega)]
    exact ln_none s m hm hn k (by omega)
theorem ext_whole (s : ByteArray) : s.extract 0 s.size = s := by simp
theorem ext_ext (s : ByteArray) (i a b : Nat) (hi : i ≤ s.size) (hb : b ≤ s.size - i) : (s.extract i s.size).extract a b = s.extract (i + a) (i + b) := by
  rw [ByteArray.extract_extract, Nat.min_eq_left (by omega)]
theorem ext_size (s : ByteArray) (i : Nat) (h : i ≤ s.size) : (s.extract i s.size).size = s.size - i := by simp
theorem sB_ext (s : ByteArray) (i j : Nat) (h : i + j < s.size) : sB (s.extract i s.size) j = sB s (i + j) := by
  have hs : j < (s.extract i s.size).size := by simp; omega
  rw [sB_eq _ _ hs, sB_eq _ _ h, ByteArray.getElem_extract]
theorem ln_shift (s : ByteArray) (i : Nat) (hi : i < s.size) (hc : sB s i = 10) (hn : ∀ j, j < i → sB s j ≠ 10) : ∀ k, k ≤ s.size - (i + 1) + 1 →
    lnG s (i + 1 + k) = (s.extract 0 i :: (lnG (s.extract (i + 1) s.size) k).1, i + 1 + (lnG (s.extract (i + 1) s.size) k).2)
  | 0, _ => by
    show (if sepL s i = true then ((lnG s i).1 ++ [s.extract (lnG s i).2 i], i + 1) else lnG s i) = _
    rw [if_pos (by unfold sepL; rw [decide_eq_true_eq]; exact .inr hc), ln_none s i (by omega) hn i (Nat.le_refl _)]
    rfl
  | k + 1, h => by
    have ih := ln_shift s i hi hc hn k (by omega)
    have hle := lnG_le (s.extract (i + 1) s.size) k
    have hsz := ext_size s (i + 1) (by omega)
    have hse : sepL s (i + 1 + k) = sepL (s.extract (i + 1) s.size) k := by
      unfold sepL
      by_cases hk : i + 1 + k < s.size
      · rw [sB_ext s (i + 1) k hk, hsz]
        congr 1
        apply propext
        omega
      · have h1 : i + 1 + k = s.size := by omega
        rw [decide_eq_true (.inl h1), decide_eq_true (.inl (by omega))]
    rw [← Nat.add_assoc]
    show (if sepL s (i + 1 + k) = true then ((lnG s (i + 1 + k)).1 ++ [s.extract (lnG s (i + 1 + k)).2 (i + 1 + k)], i + 1 + k + 1) else lnG s (i + 1 + k)) = _
    have e2 : lnG (s.extract (i + 1) s.size) (k + 1) = (if sepL (s.extract (i + 1) s.size) k = true then ((lnG (s.extract (i + 1) s.size) k).1 ++ [(s.extract (i + 1) s.size).extract (lnG (s.extract (i + 1) s.size) k).2 k], k + 1) else lnG (s.extract (i + 1) s.size) k) := rfl
    rw [e2, hse, ih]
    by_cases hs : sepL (s.extract (i + 1) s.size) k = true
    · rw [if_pos hs, if_pos hs, ext_ext s (i + 1) _ k (by omega) (by omega)]
      rfl
    · rw [if_neg hs, if_neg hs]
theorem lines_hit (s : ByteArray) (i : Nat) (hi : i < s.size) (hc : sB s i = 10) (hn : ∀ j, j < i → sB s j ≠ 10) : linesG s = s.extract 0 i :: linesG (s.extract (i + 1) s.size) := by
  unfold linesG
  rw [ext_size s (i + 1) (by omega), show s.size + 1 = i + 1 + (s.size - (i + 1) + 1) by omega, ln_shift s i hi hc hn _ (Nat.le_refl _)]
theorem lines_miss (s : ByteArray) (hn : NoNl s) : linesG s = [s] := by
  unfold linesG
  show (if sepL s s.size = true then ((lnG s s.size).1 ++ [s.extract (lnG s s.size).2 s.size], s.size + 1) else lnG s s.size).1 = _
  rw [if_pos (by unfold sepL; rw [decide_eq_true_eq]; exact .inl rfl), ln_none s s.size (Nat.le_refl _) hn s.size (Nat.le_refl _)]
  show [s.extract 0 s.size] = [s]
  rw [ext_whole]
/-- What strings.Split returns at line feeds is what Lines returns. -/
theorem lines_eq : ∀ (k : Nat) (s : ByteArray), Lib.countB s nlS = k → Lib.splitB nlS 0 k s = linesG s
  | 0, s, h => by
    rcases idx_cases s with ⟨h1, h2⟩ | ⟨i, h1, h2, h3, h4⟩
    · rw [lines_miss s h2]; rfl
    · rw [Lib.countB_hit s nlS i (Nat.le_refl _) h1] at h
      omega
  | k + 1, s, h => by
    rcases idx_cases s with ⟨h1, h2⟩ | ⟨i, h1, h2, h3, h4⟩
    · rw [Lib.countB_miss s nlS h1] at h
      omega
    · rw [Lib.countB_hit s nlS i (Nat.le_refl _) h1] at h
      rw [Lib.splitB_hit nlS 0 k s i h1, lines_hit s i h2 h3 h4, lines_eq k (s.extract (i + nlS.size) s.size) (by omega)]
      rfl
/-- A line has no line feed. -/
theorem ln_nonl (s : ByteArray) : ∀ k, k ≤ s.size + 1 → (∀ j, (lnG s k).2 ≤ j → j < k → j < s.size → sB s j ≠ 10) ∧ ∀ l ∈ (lnG s k).1, NoNl l ∧ l.size ≤ s.size
  | 0, _ => ⟨fun j _ h => absurd h (Nat.not_lt_zero _), fun l h => by simp [lnG] at h⟩
  | k + 1, hk => by
    obtain ⟨h1, h2⟩ := ln_nonl s k (by omega)
    have hle := lnG_le s k
    unfold lnG
    by_cases h : sepL s k = true
    · rw [if_pos h]
      refine ⟨fun j h3 h4 => absurd h3 (by show ¬ k + 1 ≤ j; omega), fun l hl => ?_⟩
      have hl' : l ∈ (lnG s k).1 ++ [s.extract (lnG s k).2 k] := hl
      rw [List.mem_append] at hl'
      rcases hl' with hl' | hl'
      · exact h2 l hl'
      · simp only [List.mem_singleton] at hl'
        subst hl'
        refine ⟨fun i hi => ?_, by simp; omega⟩
        have hi2 : (lnG s k).2 + i < k ∧ (lnG s k).2 + i < s.size := by simp at hi; omega
        have e : sB (s.extract (lnG s k).2 k) i = sB s ((lnG s k).2 + i) := by
          rw [sB_eq _ _ hi, sB_eq _ _ hi2.2, ByteArray.getElem_extract]
        rw [e]
        exact h1 _ (by omega) hi2.1 hi2.2
    · rw [if_neg h]
      refine ⟨fun j h3 h4 h5 => ?_, h2⟩
      by_cases e : j = k
      · subst e
        unfold sepL at h
        rw [decide_eq_true_eq] at h
        exact fun hc => h (.inr hc)
      · exact h1 j h3 (by omega) h5
theorem lines_nonl (s : ByteArray) : ∀ l ∈ linesG s, NoNl l ∧ l.size ≤ s.size := (ln_nonl s (s.size + 1) (Nat.le_refl _)).2
/-- Words are not empty. -/
theorem wd_ne (s : ByteArray) : ∀ k, k ≤ s.size + 1 → ∀ x ∈ (wdG s k).1, 1 ≤ x.size ∧ x.size ≤ s.size
  | 0, _ => fun l h => by simp [wdG] at h
  | k + 1, hk => by
    have ih := wd_ne s k (by omega)
    have hle := wdG_le s k
    unfold wdG
    by_cases h : sepW s k = true
    · rw [if_pos h]
      show ∀ x ∈ (if (wdG s k).2 < k then (wdG s k).1 ++ [s.extract (wdG s k).2 k] else (wdG s k).1), _
      split
      · rename_i hlt
        intro x hx
        rw [List.mem_append] at hx
        rcases hx with hx | hx
        · exact ih x hx
        · simp only [List.mem_singleton] at hx
          subst hx
          simp
          omega
      · exact ih
    · rw [if_neg h]; exact ih
theorem words_ne (s : ByteArray) : ∀ x ∈ wordsG s, 1 ≤ x.size ∧ x.size ≤ s.size := wd_ne s (s.size + 1) (Nat.le_refl _)
theorem words_len (s : ByteArray) : (wordsG s).length ≤ s.size + 1 := (wdG_le s (s.size + 1)).2
theorem lines_len (s : ByteArray) : (linesG s).length ≤ s.size + 1 := (lnG_le s (s.size + 1)).2
end Go.Proofs.YtlelcooomfcbaaaDoor.Gg

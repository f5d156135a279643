/-
  What sort.Search finds in the points of a curve: how many X are at most x; how many Y are less than y.
-/
import Derived.Test.YtdcjgeebkinjlaaCuCk
import Derived.Test.YtdcjgeebkinjlaaCuSea
namespace Go.Proofs.Ytdcjgeebkinjlaa.Cu
open Go.ChangeShapes Go.WideShapes Go.ChangeAt Go.RowKit
open Go.Shelf Go.Lib Go.Sort
set_option linter.unusedVariables false

theorem cnt_facts (p : Nat → Bool) : ∀ (n : Nat), (∀ a b, a ≤ b → b < n → p a = true → p b = true) →
    (List.range n).countP (fun i => !p i) ≤ n ∧ (∀ t, t < (List.range n).countP (fun i => !p i) → p t = false) ∧ ∀ t, (List.range n).countP (fun i => !p i) ≤ t → t < n → p t = true
  | 0, _ => ⟨by simp, fun t ht => by simp at ht, fun t _ ht => absurd ht (Nat.not_lt_zero _)⟩
  | n + 1, hm => by
    obtain ⟨h1, h2, h3⟩ := cnt_facts p n (fun a b hab hb => hm a b hab (by omega))
    rw [List.range_succ, List.countP_append]
    cases hp : p n with
    | true =>
      have e : List.countP (fun i => !p i) [n] = 0 := by simp [hp]
      rw [e, Nat.add_zero]
      refine ⟨by omega, h2, fun t ht htn => ?_⟩
      by_cases e2 : t = n
      · rw [e2]; exact hp
      · exact h3 t ht (by omega)
    | false =>
      have e : List.countP (fun i => !p i) [n] = 1 := by simp [hp]
      rw [e]
      have hk : (List.range n).countP (fun i => !p i) = n := by
        apply Classical.byContradiction
        intro hne
        have h4 := h3 _ (Nat.le_refl _) (by omega)
        have h5 := hm _ n (Nat.le_of_lt (by omega)) (by omega) h4
        rw [hp] at h5; cases h5
      rw [hk]
      refine ⟨Nat.le_refl _, fun t ht => ?_, fun t ht htn => by omega⟩
      by_cases e2 : t = n
      · rw [e2]; exact hp
      · exact h2 t (by rw [hk]; omega)

/-- How many of the first n X are at most x. -/
def cntX (X : Nat → Int) (n : Nat) (x : Int) : Nat := (List.range n).countP (fun i => !decide (x < X i))
/-- How many of the first n Y are less than y. -/
def cntY (Y : Nat → Int) (n : Nat) (y : Int) : Nat := (List.range n).countP (fun i => !decide (y ≤ Y i))
theorem cntX_facts {X Y : Nat → Int} {m : Nat} (h : Asc X Y m) (x : Int) : cntX X (m + 1) x ≤ m + 1 ∧ (∀ t, t < cntX X (m + 1) x → X t ≤ x) ∧ ∀ t, cntX X (m + 1) x ≤ t → t < m + 1 → x < X t := by
  have f := cnt_facts (fun i => decide (x < X i)) (m + 1) (fun a b hab hb => by
    simp only [decide_eq_true_eq]
    have := h.xle b a hab (by omega)
    omega)
  refine ⟨f.1, fun t ht => ?_, fun t h1 h2 => ?_⟩
  · have := f.2.1 t ht; simp only [decide_eq_false_iff_not] at this; omega
  · have := f.2.2 t h1 h2; simpa using this
theorem cntY_facts {X Y : Nat → Int} {m : Nat} (h : Asc X Y m) (y : Int) : cntY Y (m + 1) y ≤ m + 1 ∧ (∀ t, t < cntY Y (m + 1) y → Y t < y) ∧ ∀ t, cntY Y (m + 1) y ≤ t → t < m + 1 → y ≤ Y t := by
  have f := cnt_facts (fun i => decide (y ≤ Y i)) (m + 1) (fun a b hab hb => by
    simp only [decide_eq_true_eq]
    have := h.yle b a hab (by omega)
    omega)
  refine ⟨f.1, fun t ht => ?_, fun t h1 h2 => ?_⟩
  · have := f.2.1 t ht; simp only [decide_eq_false_iff_not] at this; omega
  · have := f.2.2 t h1 h2; simpa using this

theorem yclo_any (i B1 B2 b off n c : Nat) (Y : Nat → Int) (y : Int) (w : World) (h1 : w.cell? ⟨B1, 0, none⟩ = some (.slice (some ⟨b, off, none⟩) n c)) (h2 : w.cell? ⟨B2, 0, none⟩ = some (.int .i64 y))
    (hi : w.cell? ⟨b, off + i * 2 + 1, none⟩ = some (.int .i64 (Y i))) (li : i < n) :
    Calls Try.prog 39 #[.int .i64 i, .pointer (some ⟨B1, 0, none⟩), .pointer (some ⟨B2, 0, none⟩)] w fun e w' => e = .returned (.bool (decide (y ≤ Y i))) ∧ ∃ q, w' = w.drewN q := by
  have li' : (i : Int) < (n : Int) := by omega
  go_enter Try.func39, Try.ntmps39
  go_wp2
  go_quiet (fail)
  go_wp2
  go_ret
  exact ⟨rfl, _, rfl⟩

theorem srchX (B1 B2 b off m c : Nat) (X Y : Nat → Int) (x : Int) (W : World) (ha : Asc X Y m) (hm : m < 100) (h1 : W.cell? ⟨B1, 0, none⟩ = some (.slice (some ⟨b, off, none⟩) (m + 1) c)) (h2 : W.cell? ⟨B2, 0, none⟩ = some (.int .i64 x))
    (hi : ∀ i, i < m + 1 → W.cell? ⟨b, off + i * 2, none⟩ = some (.int .i64 (X i))) :
    Calls Try.prog 38 #[.int .i64 (m + 1 : Nat), .func (.func 43) #[] #[.pointer (some ⟨B1, 0, none⟩), .pointer (some ⟨B2, 0, none⟩)]] W fun e w' =>
      e = .returned (.int .i64 (cntX X (m + 1) x : Nat)) ∧ Below W.heap.size W w' := by
  have eg : ∀ args w, (callFunc 43 args).run Try.prog w = .ok (.enter 43 args) w := enters_of Try.func43 (by kernel_rfl) rfl
  have l1 := World.block_lt_of_cell? _ _ h1
  have l2 := World.block_lt_of_cell? _ _ h2
  have hS := Any.sort_Search Try.searchL 43 #[.pointer (some ⟨B1, 0, none⟩), .pointer (some ⟨B2, 0, none⟩)] (m + 1) (fun i => decide (x < X i)) W eg (by omega)
    (fun q os i hi' => (vclo_any i B1 B2 b off (m + 1) c X x _ (cell_grown l1 h1 q os) (cell_grown l2 h2 q os) (cell_grown (World.block_lt_of_cell? _ _ (hi i hi')) (hi i hi') q os) hi').mono
      fun _ _ ⟨he, q', hq⟩ => ⟨he, q', #[], by rw [hq, grow_empty]⟩)
    (fun a b' hab hb hp => by
      simp only [decide_eq_true_eq] at hp ⊢
      have := ha.xle b' a hab (by omega)
      omega)
  change Calls Try.prog 38 _ _ _ at hS
  exact hS.mono fun e w' ⟨he, q, os, hw⟩ => ⟨he, by rw [hw]; exact below_grown_sl _ W q os (Nat.le_refl _)⟩

theorem srchY (B1 B2 b off m c : Nat) (X Y : Nat → Int) (y : Int) (W : World) (ha : Asc X Y m) (hm : m < 100) (h1 : W.cell? ⟨B1, 0, none⟩ = some (.slice (some ⟨b, off, none⟩) (m + 1) c)) (h2 : W.cell? ⟨B2, 0, none⟩ = some (.int .i64 y))
    (hi : ∀ i, i < m + 1 → W.cell? ⟨b, off + i * 2 + 1, none⟩ = some (.int .i64 (Y i))) :
    Calls Try.prog 38 #[.int .i64 (m + 1 : Nat), .func (.func 39) #[] #[.pointer (some ⟨B1, 0, none⟩), .pointer (some ⟨B2, 0, none⟩)]] W fun e w' =>
      e = .returned (.int .i64 (cntY Y (m + 1) y : Nat)) ∧ Below W.heap.size W w' := by
  have eg : ∀ args w, (callFunc 39 args).run Try.prog w = .ok (.enter 39 args) w := enters_of Try.func39 (by kernel_rfl) rfl
  have l1 := World.block_lt_of_cell? _ _ h1
  have l2 := World.block_lt_of_cell? _ _ h2
  have hS := Any.sort_Search Try.searchL 39 #[.pointer (some ⟨B1, 0, none⟩), .pointer (some ⟨B2, 0, none⟩)] (m + 1) (fun i => decide (y ≤ Y i)) W eg (by omega)
    (fun q os i hi' => (yclo_any i B1 B2 b off (m + 1) c Y y _ (cell_grown l1 h1 q os) (cell_grown l2 h2 q os) (cell_grown (World.block_lt_of_cell? _ _ (hi i hi')) (hi i hi') q os) hi').mono
      fun _ _ ⟨he, q', hq⟩ => ⟨he, q', #[], by rw [hq, grow_empty]⟩)
    (fun a b' hab hb hp => by
      simp only [decide_eq_true_eq] at hp ⊢
      have := ha.yle b' a hab (by omega)
      omega)
  change Calls Try.prog 38 _ _ _ at hS
  exact hS.mono fun e w' ⟨he, q, os, hw⟩ => ⟨he, by rw [hw]; exact below_grown_sl _ W q os (Nat.le_refl _)⟩
end Go.Proofs.Ytdcjgeebkinjlaa.Cu

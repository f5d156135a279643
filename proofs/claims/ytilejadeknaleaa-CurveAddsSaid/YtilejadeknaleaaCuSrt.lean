/-
  The sort of the points of two curves by their X.
-/
import Derived.Test.YtilejadeknaleaaCuAdv
import Derived.Test.YtilejadeknaleaaCuSort
namespace Go.Proofs.Ytilejadeknaleaa.Cu
open Go.ChangeShapes Go.WideShapes Go.ChangeAt Go.RowKit
open Go.Shelf Go.Lib Go.Sort
set_option linter.unusedVariables false

def cmpI (x y : Int) : Int := if x < y then -1 else if y < x then 1 else 0
theorem cmp_any (x y : Int) (w : World) :
    Calls Try.prog 30 #[.int .i64 x, .int .i64 y] w fun e w' => e = .returned (.int .i64 (cmpI x y)) ∧ w = w' := by
  unfold cmpI
  have e1 : (x != x) = false := by simp
  have e2 : (y != y) = false := by simp
  by_cases h1 : x < y
  · rw [if_pos h1]
    go_enter Try.func30, Try.ntmps30
    go_wp2
    go_ret
    exact ⟨rfl, rfl⟩
  rw [if_neg h1]
  by_cases h2 : y < x
  · rw [if_pos h2]
    go_enter Try.func30, Try.ntmps30
    go_wp2
    go_ret
    exact ⟨rfl, rfl⟩
  · rw [if_neg h2]
    go_enter Try.func30, Try.ntmps30
    go_wp2
    go_ret
    exact ⟨rfl, rfl⟩

theorem aclo_any (x sx y sy : Int) (w : World) :
    Calls Try.prog 29 #[.agg #[.int .i64 x, .int .i64 sx], .agg #[.int .i64 y, .int .i64 sy]] w fun e w' => e = .returned (.int .i64 (cmpI x y)) ∧ ∃ q os, w' = grow (w.drewN q) os := by
  have HC := Lib.hid (fun W => cmp_any x y W)
  generalize cmpI x y = r at *
  go_enter Try.func29, Try.ntmps29
  go_wp2_with (go_at_call 30; refine (HC.out _).mono ?_; rintro e w' ⟨rfl, rfl⟩)
  go_ret
  refine ⟨rfl, 0, #[.cells #[.int .i64 x, .int .i64 sx] 56, .cells #[.int .i64 y, .int .i64 sy] 56], ?_⟩
  rw [alloc_eq_grow, alloc_eq_grow, grow_grow]
  rfl

/-- An array of two numbers, by its X. -/
def encA (S : Int → Int) (x : Int) : List Value := [.int .i64 x, .int .i64 (S x)]
theorem cm_lt (x y : Int) : ltOf cmpI x y = decide (x < y) := by
  unfold ltOf cmpI
  by_cases h1 : x < y
  · simp [h1]
  · by_cases h2 : y < x <;> simp [h1, h2]
theorem cm_swo : SWO (ltOf cmpI) where
  irrefl x := by rw [cm_lt]; simp
  trans x y z h1 h2 := by rw [cm_lt, decide_eq_true_eq] at *; omega
  ntrans x y z h1 h2 := by rw [cm_lt, decide_eq_false_iff_not] at *; omega
theorem cm_tot (x y : Int) (h1 : ltOf cmpI x y = false) (h2 : ltOf cmpI y x = false) : x = y := by
  rw [cm_lt, decide_eq_false_iff_not] at *; omega

def zA (Z : Nat → Int) (n : Nat) : Array Int := ((List.range n).map Z).toArray
theorem zA_size (Z : Nat → Int) (n : Nat) : (zA Z n).size = n := by simp [zA]
theorem zA_get (Z : Nat → Int) (n i : Nat) (hi : i < n) : (zA Z n)[i]! = Z i := by
  rw [getElem!_pos _ i (by rw [zA_size]; exact hi)]; simp [zA]
theorem got_holds {w : World} {base g cap n : Nat} {Z : Nat → Int} {S : Int → Int} (h : GotA w base (.slice (some ⟨g, 0, none⟩) n cap) n Z (fun t => S (Z t))) : HoldsK (encA S) 2 w g 0 (zA Z n) := by
  intro t ht
  rw [size_flatK, zA_size] at ht
  rw [get_flatK _ _ _ _ (by rw [zA_size]; exact ht), zA_get _ _ _ (by omega), Nat.zero_add]
  refine ⟨?_, h.frozenAt t⟩
  rw [h.cellAt t (by omega)]
  have hg := ptL_get Z (fun t => S (Z t)) n (t / 2) (by omega)
  by_cases e : t % 2 = 0
  · rw [e]
    have e2 : t = t / 2 * 2 := by omega
    rw [show (ptL Z (fun t => S (Z t)) n)[t]? = (ptL Z (fun t => S (Z t)) n)[t / 2 * 2]? by rw [← e2], hg.1]
    rfl
  · have e1 : t % 2 = 1 := by omega
    rw [e1]
    have e2 : t = t / 2 * 2 + 1 := by omega
    rw [show (ptL Z (fun t => S (Z t)) n)[t]? = (ptL Z (fun t => S (Z t)) n)[t / 2 * 2 + 1]? by rw [← e2], hg.2]
    rfl
theorem below_srt {w : World} {S : Int → Int} {B g m : Nat} {os : Array Obj} {dk : Array Int} (hg : B ≤ g) (hB : B ≤ w.heap.size) : Below B w (sortWorldK (encA S) 2 w g 0 m dk os) := by
  refine ⟨rfl, rfl, rfl, ?_, fun k hk => ?_⟩
  · exact size_sortWorldK_c _ _ _ _ _ _ _ _
  · unfold sortWorldK
    rw [heap_grow_old _ _ (by rw [size_putRowK]; exact Nat.lt_of_lt_of_le hk hB)]
    show (mapBlock (Go.Sort.ahead w m) g _).heap[k]? = _
    unfold mapBlock
    simp only [Array.getElem?_modify]
    rw [if_neg (by omega)]
    rfl

/-- The X of all points, in order. -/
def srtL (Z : Nat → Int) (n : Nat) : List Int := ((zA Z n).toList.mergeSort fun x y => !(ltOf cmpI) y x)
theorem srtL_len (Z : Nat → Int) (n : Nat) : (srtL Z n).length = n := by unfold srtL; rw [List.length_mergeSort]; simp [zA]
theorem srtL_mem (Z : Nat → Int) (n : Nat) (x : Int) : x ∈ srtL Z n ↔ ∃ i, i < n ∧ Z i = x := by
  unfold srtL
  rw [List.mem_mergeSort]
  simp [zA]
theorem srtL_sorted (Z : Nat → Int) (n : Nat) : (srtL Z n).Pairwise (fun a b => a ≤ b) := by
  have h := List.pairwise_mergeSort (le := fun x y => !(ltOf cmpI) y x) (by
    intro a b c h1 h2
    simp only [cm_lt, Bool.not_eq_true', decide_eq_false_iff_not] at *
    omega) (by
    intro a b
    simp only [cm_lt, Bool.or_eq_true, Bool.not_eq_true', decide_eq_false_iff_not]
    omega) (zA Z n).toList
  refine h.imp fun {a b} hab => ?_
  simp only [cm_lt, Bool.not_eq_true', decide_eq_false_iff_not] at hab
  omega
def srtD (Z : Nat → Int) (n i : Nat) : Int := (srtL Z n).getD i 0
theorem srtD_get (Z : Nat → Int) (n i : Nat) (hi : i < n) : srtD Z n i = (srtL Z n)[i]'(by rw [srtL_len]; exact hi) := by unfold srtD; simp [List.getD, srtL_len, hi]
theorem srtD_mem (Z : Nat → Int) (n : Nat) (x : Int) : (∃ i, i < n ∧ srtD Z n i = x) ↔ ∃ i, i < n ∧ Z i = x := by
  rw [← srtL_mem Z n x]
  constructor
  · rintro ⟨i, hi, rfl⟩
    rw [srtD_get Z n i hi]; exact List.getElem_mem _
  · intro h
    obtain ⟨i, hi, e⟩ := List.mem_iff_getElem.1 h
    rw [srtL_len] at hi
    exact ⟨i, hi, by rw [srtD_get Z n i hi]; exact e⟩
theorem srtD_mono (Z : Nat → Int) (n i j : Nat) (hij : i ≤ j) (hj : j < n) : srtD Z n i ≤ srtD Z n j := by
  by_cases e : i = j
  · subst e; exact Int.le_refl _
  · rw [srtD_get Z n i (by omega), srtD_get Z n j hj]
    exact List.pairwise_iff_getElem.1 (srtL_sorted Z n) i j _ _ (by omega)

theorem srt_any (w : World) (base g cap n : Nat) (Z : Nat → Int) (S : Int → Int) (hn : n ≤ 200) (h : GotA w base (.slice (some ⟨g, 0, none⟩) n cap) n Z (fun t => S (Z t))) (hg : g < w.heap.size) :
    Calls Try.prog 28 #[.slice (some ⟨g, 0, none⟩) n cap, .func (.func 29) #[] #[]] w fun e w' =>
      e = .returned (.tuple #[]) ∧ (∀ i, i < n → w'.cell? ⟨g, i * 2, none⟩ = some (.int .i64 (srtD Z n i)) ∧ w'.cell? ⟨g, i * 2 + 1, none⟩ = some (.int .i64 (S (srtD Z n i)))) ∧ (∀ B, B ≤ g → B ≤ w.heap.size → Below B w w') := by
  have eg : ∀ args w, (callFunc 29 args).run Try.prog w = .ok (.enter 29 args) w := enters_of Try.func29 (by kernel_rfl) rfl
  have hH := got_holds h
  have hS := AnyQ.slices_SortFunc_total Try.sortL 2 Try.isAgg56 Try.sizeOf56 (encA S) (fun _ => rfl) (fun x v hv => by simp [encA] at hv; rcases hv with rfl | rfl <;> rfl) cmpI cm_swo 29 #[] g 0 cap (zA Z n) w eg
    (fun m os dk _ x y => aclo_any x (S x) y (S y) _) hH hg (by rw [zA_size]; omega) cm_tot
  rw [zA_size] at hS
  change Calls Try.prog 28 _ _ _ at hS
  refine hS.mono fun e w' ⟨he, m, os, hw⟩ => ⟨he, fun i hi => ?_, fun B h1 h2 => by rw [hw]; exact below_srt h1 h2⟩
  have hsz : (srtL Z n).toArray.size = (zA Z n).size := by rw [zA_size, List.size_toArray, srtL_len]
  have hK := holdsK_sortWorldK_c (encA S) 2 w g 0 (zA Z n) (srtL Z n).toArray m os hH hg hsz
  have hK' : HoldsK (encA S) 2 w' g 0 (srtL Z n).toArray := by rw [hw]; exact hK
  have e : ((srtL Z n).toArray)[i]! = srtD Z n i := by
    rw [getElem!_pos _ i (by rw [hsz, zA_size]; exact hi), srtD_get Z n i hi]; simp
  have k0 := (hK'.cell (i := i) (c := 0) (by rw [hsz, zA_size]; exact hi) (by omega)).1
  have k1 := (hK'.cell (i := i) (c := 1) (by rw [hsz, zA_size]; exact hi) (by omega)).1
  rw [e, Nat.zero_add] at k0 k1
  exact ⟨k0, k1⟩
end Go.Proofs.Ytilejadeknaleaa.Cu

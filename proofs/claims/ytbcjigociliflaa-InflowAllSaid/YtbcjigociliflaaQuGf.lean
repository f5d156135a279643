/-
  The contract of greatestFirst: the indices by falling value, the least index first of equal ones.
-/
import Derived.Test.YtbcjigociliflaaQuCmp
import Derived.Test.YtbcjigociliflaaQuOwn
import Derived.Test.YtbcjigociliflaaQuSort
namespace Go.Proofs.Ytbcjigociliflaa.Qu
open Go.ChangeShapes Go.WideShapes Go.ChangeAt Go.RowKit
open Go.Shelf Go.Lib Go.Sort
set_option linter.unusedVariables false

/-! ### the comparison as an order -/
/-- The comparison of two indices below m + 1. -/
def cfF (r : Nat → Int) (m : Nat) (x y : Fin (m + 1)) : Int := orI (cmpI (r y.val) (r x.val)) (cmpI x.val y.val)
theorem cf_lt (r : Nat → Int) (m : Nat) (x y : Fin (m + 1)) : ltOf (cfF r m) x y = decide (r y.val < r x.val ∨ (r x.val = r y.val ∧ x.val < y.val)) := by
  have e : (cfF r m x y < 0) ↔ (r y.val < r x.val ∨ (r x.val = r y.val ∧ x.val < y.val)) := by
    unfold cfF orI cmpI
    by_cases h1 : r y.val < r x.val
    · simp [h1]
    by_cases h2 : r x.val < r y.val
    · have h3 : ¬ r x.val = r y.val := by omega
      simp [h1, h2, h3]
    have h3 : r x.val = r y.val := by omega
    by_cases h4 : (x.val : Int) < (y.val : Int)
    · have h5 : x.val < y.val := by omega
      simp [h3, h5]
    · by_cases h6 : (y.val : Int) < (x.val : Int)
      · have h7 : ¬ x.val < y.val := by omega
        have h8 : y.val < x.val := by omega
        simp [h3, h7, h8]
      · have h7 : ¬ x.val < y.val := by omega
        have h8 : ¬ y.val < x.val := by omega
        simp [h3, h7, h8]
  unfold ltOf
  exact decide_eq_decide.2 e
theorem cf_swo (r : Nat → Int) (m : Nat) : SWO (ltOf (cfF r m)) where
  irrefl x := by rw [cf_lt]; simp
  trans x y z h1 h2 := by rw [cf_lt, decide_eq_true_eq] at *; omega
  ntrans x y z h1 h2 := by rw [cf_lt, decide_eq_false_iff_not] at *; omega
theorem cf_tot (r : Nat → Int) (m : Nat) (x y : Fin (m + 1)) (h1 : ltOf (cfF r m) x y = false) (h2 : ltOf (cfF r m) y x = false) : x = y := by
  rw [cf_lt, decide_eq_false_iff_not] at *
  apply Fin.ext
  omega
theorem cf_le (r : Nat → Int) (m : Nat) (x y : Fin (m + 1)) : (!ltOf (cfF r m) y x) = bef r x.val y.val := by
  rw [cf_lt]
  unfold bef
  by_cases h : r x.val < r y.val ∨ (r y.val = r x.val ∧ y.val < x.val)
  · rw [decide_eq_true h, decide_eq_false (by omega)]; rfl
  · rw [decide_eq_false h, decide_eq_true (by omega)]; rfl

def encF (m : Nat) (x : Fin (m + 1)) : Value := .int .i64 (x.val : Int)
def allF (m : Nat) : Array (Fin (m + 1)) := Array.ofFn fun i => i
theorem allF_size (m : Nat) : (allF m).size = m + 1 := by simp [allF]
theorem sorted_vals (r : Nat → Int) (m : Nat) : ((allF m).toList.mergeSort fun x y => !(ltOf (cfF r m)) y x).map (fun x => x.val) = ordL r (m + 1) := by
  unfold ordL
  rw [List.map_mergeSort (s := bef r) (fun a _ b _ => cf_le r m a b)]
  congr 1
  simp only [allF, Array.toList_ofFn]
  apply List.ext_getElem
  · simp
  · intro i h1 h2; rw [List.getElem_map, List.getElem_ofFn, List.getElem_range]

theorem sorted_get (r : Nat → Int) (m j : Nat) (hj : j < m + 1) : (((allF m).toList.mergeSort fun x y => !(ltOf (cfF r m)) y x).toArray[j]!).val = ordA r (m + 1) j := by
  have h := sorted_vals r m
  have hl : ((allF m).toList.mergeSort fun x y => !(ltOf (cfF r m)) y x).length = m + 1 := by rw [List.length_mergeSort]; simp [allF]
  rw [ordA_get r (m + 1) j hj, getElem!_pos _ j (by simp [allF]; omega)]
  simp only [List.getElem_toArray]
  simp only [← h, List.getElem_map]

theorem cell_sort {w : World} {m g n : Nat} {os : Array Obj} {dk : Array (Fin (m + 1))} {a : Addr} {v : Value} (h : w.cell? a = some v) (hg : a.block ≠ g) (hb : a.block < w.heap.size) :
    (sortWorld (encF m) w g 0 n dk os).cell? a = some v := by
  unfold sortWorld
  rw [cell?_grow _ _ _ (by rw [size_putRow]; exact hb), cell?_putRow_other _ _ _ _ _ _ (.inl hg)]
  exact h

/-- The closure, wherever the sort stands. -/
theorem clo_lays (w : World) (B b off n c m g : Nat) (r : Nat → Int) (hn : n = m + 1) (hB : w.cell? ⟨B, 0, none⟩ = some (.slice (some ⟨b, off, none⟩) n c)) (hBg : B ≠ g) (hBl : B < w.heap.size) (hbg : b ≠ g) (hbl : b < w.heap.size)
    (hc : ∀ i, i < n → w.cell? ⟨b, off + i, none⟩ = some (.int .i64 (r i))) :
    CmpLays1 Try.prog 46 #[.pointer (some ⟨B, 0, none⟩)] (encF m) (cfF r m) g 0 (allF m).size w := by
  intro q os dk _ x y
  have h := clo_any x.val y.val B b off n c r (sortWorld (encF m) w g 0 q dk os) (cell_sort hB hBg hBl) (cell_sort (hc x.val (by omega)) hbg hbl) (cell_sort (hc y.val (by omega)) hbg hbl) (by omega) (by omega)
  exact h

theorem own_holds {w : World} {g m : Nat} (h : Own w g (m + 1) (fun i => i)) : Holds (encF m) w g 0 (allF m) := by
  intro j hj
  have hj' : j < m + 1 := by rw [allF_size] at hj; exact hj
  have e : (allF m)[j]! = ⟨j, hj'⟩ := by rw [getElem!_pos _ j hj]; simp [allF]
  rw [Nat.zero_add, e]
  exact h.2 j hj'

theorem own_sorted {w : World} {g m q : Nat} {r : Nat → Int} {os : Array Obj} (h : Own w g (m + 1) (fun i => i)) :
    Own (sortWorld (encF m) w g 0 q ((allF m).toList.mergeSort fun x y => !(ltOf (cfF r m)) y x).toArray os) g (m + 1) (fun i => ordA r (m + 1) i) := by
  have hs : ((allF m).toList.mergeSort fun x y => !(ltOf (cfF r m)) y x).toArray.size = (allF m).size := by
    simp only [List.size_toArray, List.length_mergeSort, Array.length_toList]
  have hH := holds_sortWorld (encF m) w g 0 q (allF m) _ os h.1 (own_holds h) hs
  refine ⟨lt_sortWorld _ _ _ _ _ _ _ h.1, fun i hi => ?_⟩
  have h2 := hH i (by rw [hs, allF_size]; exact hi)
  rw [Nat.zero_add] at h2
  unfold encF at h2
  rw [sorted_get r m i hi] at h2
  exact h2

theorem below_sorted {w w0 : World} {B g m q : Nat} {os : Array Obj} {dk : Array (Fin (m + 1))} (h : Below B w0 w) (hg : B ≤ g) (hB : B ≤ w.heap.size) : Below B w0 (sortWorld (encF m) w g 0 q dk os) := by
  refine h.trans ⟨rfl, rfl, rfl, ?_, fun k hk => ?_⟩
  · unfold sortWorld; rw [size_grow, size_putRow]; exact Nat.le_add_right _ _
  · unfold sortWorld
    rw [heap_grow_old _ _ (by rw [size_putRow]; exact Nat.lt_of_lt_of_le hk hB)]
    show (mapBlock (Go.Sort.ahead w q) g _).heap[k]? = _
    unfold mapBlock
    simp only [Array.getElem?_modify]
    rw [if_neg (by omega)]
    rfl

theorem Try.info3 : (Try.prog.info? 3).map (fun i => (i.zero, i.size, i.bytes)) = some (some (.int .i64 0), 1, 8) := by kernel_rfl

/-- greatestFirst of one value or more. -/
def GfP (r : Nat → Int) (n : Nat) (w : World) (e : Ending) (w' : World) : Prop :=
  ∃ g, e = .returned (.slice (some ⟨g, 0, none⟩) n n) ∧ w.heap.size ≤ g ∧ Own w' g n (fun i => ordA r n i) ∧ Below w.heap.size w w'

def idK (k i : Nat) : Int := if i < k then i else 0
theorem own_id {w : World} {g n k : Nat} (h : Own w g n (idK k)) (hk : k < n) : Own (w.setCell ⟨g, k, none⟩ (.int .i64 k)) g n (idK (k + 1)) := by
  refine (h.store hk (k : Int)).congr fun i hi => ?_
  unfold upd idK
  by_cases e : i = k
  · subst e; rw [if_pos rfl, if_pos (by omega)]
  · rw [if_neg e]
    by_cases e2 : i < k
    · rw [if_pos e2, if_pos (by omega)]
    · rw [if_neg e2, if_neg (by omega)]

theorem sort_any (w : World) (B b off c m g : Nat) (r : Nat → Int) (hm : m < 4096) (hB : w.cell? ⟨B, 0, none⟩ = some (.slice (some ⟨b, off, none⟩) (m + 1) c)) (hBg : B ≠ g) (hBl : B < w.heap.size) (hbg : b ≠ g) (hbl : b < w.heap.size)
    (hc : ∀ i, i < m + 1 → w.cell? ⟨b, off + i, none⟩ = some (.int .i64 (r i))) (ho : Own w g (m + 1) (fun i => i)) :
    Calls Try.prog 45 #[.slice (some ⟨g, 0, none⟩) (m + 1) (m + 1), .func (.func 46) #[] #[.pointer (some ⟨B, 0, none⟩)]] w fun e w' =>
      e = .returned (.tuple #[]) ∧ Own w' g (m + 1) (fun i => ordA r (m + 1) i) ∧ ∀ B0, B0 ≤ g → B0 ≤ w.heap.size → Below B0 w w' := by
  have eg : ∀ args w, (callFunc 46 args).run Try.prog w = .ok (.enter 46 args) w := enters_of Try.func46 (by kernel_rfl) rfl
  have hS := Any.slices_SortFunc_total Try.sortL (encF m) (fun _ => rfl) (cfF r m) (cf_swo r m) 46 #[.pointer (some ⟨B, 0, none⟩)] g 0 (m + 1) (allF m) w eg (clo_lays w B b off (m + 1) c m g r rfl hB hBg hBl hbg hbl hc) (own_holds ho) ho.1 (by rw [allF_size]; omega) (cf_tot r m)
  rw [allF_size] at hS
  change Calls Try.prog 45 _ _ _ at hS
  exact hS.mono fun e w' ⟨he, q, os, hw⟩ => ⟨he, by rw [hw]; exact own_sorted ho, fun B0 h1 h2 => by rw [hw]; exact below_sorted (Below.refl _ _) h1 h2⟩

set_option maxHeartbeats 1000000 in
theorem gf_any (b off m c : Nat) (r : Nat → Int) (w : World) (hm : m < 4096) (hb : b < w.heap.size) (hc : ∀ i, i < m + 1 → w.cell? ⟨b, off + i, none⟩ = some (.int .i64 (r i))) :
    Calls Try.prog 43 #[.slice (some ⟨b, off, none⟩) (m + 1) c] w (GfP r (m + 1) w) := by
  obtain ⟨i0, hi, hz0, hz1, hz2⟩ := info_parts Try.info3
  have HC := Lib.hid hc
  clear hc
  have hN : ∃ n, n = m + 1 := ⟨_, rfl⟩
  obtain ⟨n, hn⟩ := hN
  have HN := Lib.hid hn
  rw [← hn]
  have hn0 : 0 < n := by omega
  have hn1 : n ≤ 4096 := by omega
  clear hn
  go_enter Try.func43, Try.ntmps43
  go_wp2_with (at_make; refine wpList_make_full _ rfl _ _ 22 rfl (w.heap.size + 1) 3 i0 (.int .i64 0) 1 Try.underlying22 hi hz0 hz1 .i64 .i64 _ _ n rfl rfl rfl rfl (by rw [hz2]; omega) (by unfold maxLen; omega) (by simp) ?_; intro w1 hown hgrow)
  have hsz : (w.alloc (Obj.cells #[Value.slice (some ⟨b, off, none⟩) n c] 22)).heap.size = w.heap.size + 1 := by simp
  rw [hsz] at hown
  have hlt := (hown.lt (w.heap.size + 1) rfl).2
  have hO : Own w1 (w.heap.size + 1) n (idK 0) := (own_made hown hlt).congr fun i _ => by simp [idK]
  have hbel : Below w.heap.size w w1 := ((Below.refl w.heap.size w).alloc (Nat.le_refl _) _).grown hgrow (by rw [hsz]; omega) (by intro k hk; cases hk)
  have hBc : w1.cell? ⟨w.heap.size, 0, none⟩ = some (.slice (some ⟨b, off, none⟩) n c) := hgrow.cell (by simp) (by simp)
  clear hown hgrow hsz
  have HB := Lib.hid hbel
  have HO := Lib.hid hO
  have HBC := Lib.hid hBc
  clear hbel hO hBc
  go_loopw [4, 10] (fun _ i wr => ∃ k : Nat, k ≤ n ∧ i = .int .i64 k ∧ Hid (Own wr (w.heap.size + 1) n (idK k)) ∧ Hid (wr.cell? ⟨w.heap.size, 0, none⟩ = some (.slice (some ⟨b, off, none⟩) n c)) ∧ Hid (Below w.heap.size w wr)) (fun _ i _ => n - (intOf i).toNat)
  case atStart => exact ⟨0, Nat.zero_le _, rfl, HO, HBC, HB⟩
  case round =>
    clear hlt HB HO HBC
    obtain ⟨k, hk, rfl, ho, hbc, hbel⟩ := hrel
    by_cases hlt : k < n
    · have h5 := ho.out.cell hlt
      have h6 := ho.out.free hlt
      go_wp2
      go_roundw
      case rel =>
        refine ⟨k + 1, by omega, by go_num, own_id ho.out hlt, ?_, hbel.out.setCell (by simp) _⟩
        exact (World.cell?_setCell_other _ _ _ _ (by intro e'; simp only [Addr.mk.injEq] at e'; omega)).trans hbc.out
      case measure => simp [intOf]; omega
    · obtain rfl : k = n := by omega
      have hk1 := HN.out
      subst hk1
      have hO := ho.out
      have hS := sort_any wr w.heap.size b off c m (w.heap.size + 1) r hm hbc.out (by omega) (by have := hO.1; omega) (by omega) (Nat.lt_of_lt_of_le hb hbel.out.size)
        (fun i hi => (hbel.out.cell (p := ⟨b, off + i, none⟩) hb).trans (HC.out i hi)) (hO.congr fun i hi => by unfold idK; rw [if_pos hi])
      have HS := Lib.hid hS
      clear hS hO
      go_wp2_with (go_at_call 45; refine HS.out.mono ?_; rintro e w' ⟨rfl, hown', hbel'⟩)
      go_ret
      exact ⟨_, rfl, by omega, hown', hbel.out.trans (hbel' _ (by omega) hbel.out.size)⟩

theorem gf_n (g n : Nat) (r : Nat → Int) (w : World) (h0 : 0 < n) (hn : n ≤ 4096) (ho : Own w g n r) :
    Calls Try.prog 43 #[.slice (some ⟨g, 0, none⟩) n n] w (GfP r n w) := by
  obtain ⟨m, rfl⟩ : ∃ m, n = m + 1 := ⟨n - 1, by omega⟩
  exact gf_any g 0 m (m + 1) r w (by omega) ho.1 (fun i hi => by rw [Nat.zero_add]; exact ho.cell hi)
end Go.Proofs.Ytbcjigociliflaa.Qu

/-
  The contract of Check of the reference of layer 3.
-/
import Derived.Test.YtdblppbjlgmccaaStRla
import Derived.Test.YtdblppbjlgmccaaStVol
namespace Go.Proofs.Ytdblppbjlgmccaa.Cu
open Go.ChangeShapes Go.WideShapes Go.ChangeAt Go.RowKit
open Go.Shelf Go.Lib
set_option linter.unusedVariables false

/-- The seven levels in their order. -/
def l7 (x0 D L F S C xm : Int) (j : Nat) : Int := if j = 0 then x0 else if j = 1 then D else if j = 2 then L else if j = 3 then F else if j = 4 then S else if j = 5 then C else xm
theorem l7_iff (x0 D L F S C xm : Int) : lvlB x0 D L F S C xm = true ↔ ∀ j, j < 6 → l7 x0 D L F S C xm j ≤ l7 x0 D L F S C xm (j + 1) := by
  unfold lvlB
  rw [decide_eq_true_eq]
  constructor
  · rintro ⟨h0, h1, h2, h3, h4, h5⟩ j hj
    have hc : j = 0 ∨ j = 1 ∨ j = 2 ∨ j = 3 ∨ j = 4 ∨ j = 5 := by omega
    rcases hc with rfl | rfl | rfl | rfl | rfl | rfl
    · exact h0
    · exact h1
    · exact h2
    · exact h3
    · exact h4
    · exact h5
  · intro h
    exact ⟨h 0 (by omega), h 1 (by omega), h 2 (by omega), h 3 (by omega), h 4 (by omega), h 5 (by omega)⟩
theorem l7_cells (w : World) (x0 D L F S C xm : Int) (t : TypeId) : ∀ j, j < 7 → (w.alloc (.cells #[.int .i64 x0, .int .i64 D, .int .i64 L, .int .i64 F, .int .i64 S, .int .i64 C, .int .i64 xm] t)).cell? ⟨w.heap.size, j, none⟩ = some (.int .i64 (l7 x0 D L F S C xm j)) := fun j hj => by
  have hc : j = 0 ∨ j = 1 ∨ j = 2 ∨ j = 3 ∨ j = 4 ∨ j = 5 ∨ j = 6 := by omega
  rcases hc with rfl | rfl | rfl | rfl | rfl | rfl | rfl <;> simp [l7]

/-- The error of a reservoir, case by case. -/
theorem st_top {X Y : Nat → Int} {n m : Nat} {D L F S C : Int} (h0 : chkC X Y n = 0) (hn : n = m + 1) (hm : 1 ≤ m) (h : 16777216 < X m) : stC X Y n D L F S C = 1 := by
  unfold stC; rw [if_neg (by simp [h0]), if_neg (by omega), show n - 1 = m by omega, if_pos h]
theorem st_ris {X Y : Nat → Int} {n m : Nat} {D L F S C : Int} (h0 : chkC X Y n = 0) (hn : n = m + 1) (hm : 1 ≤ m) (h : X m ≤ 16777216) (j : Nat) (hj : j < m) (hy : Y (j + 1) ≤ Y j) : stC X Y n D L F S C = 4 := by
  unfold stC; rw [if_neg (by simp [h0]), if_neg (by omega), show n - 1 = m by omega, if_neg (by omega), if_pos]
  unfold risB; rw [decide_eq_false_iff_not]; intro hh; have := hh j (by omega); omega
theorem st_lvl {X Y : Nat → Int} {n m : Nat} {D L F S C : Int} (h0 : chkC X Y n = 0) (hn : n = m + 1) (hm : 1 ≤ m) (h : X m ≤ 16777216) (hy : ∀ j, j < m → Y j < Y (j + 1)) : stC X Y n D L F S C = if lvlB (X 0) D L F S C (X m) = false then 4 else 0 := by
  unfold stC; rw [if_neg (by simp [h0]), if_neg (by omega), show n - 1 = m by omega, if_neg (by omega), if_neg]
  unfold risB; rw [decide_eq_false_iff_not, Classical.not_not]; exact fun i hi => hy i (by omega)

set_option maxRecDepth 100000 in
set_option maxHeartbeats 4000000 in
theorem rck3_bad (p : Option Addr) (n c : Nat) (X Y : Nat → Int) (D L F S C : Int) (w : World) (hp : RdP w p n X Y) (h : chkC X Y n ≠ 0 ∨ n < 2) :
    Calls Try.prog 34 #[.agg #[.slice p n c, .int .i64 D, .int .i64 L, .int .i64 F, .int .i64 S, .int .i64 C]] w (RetE (stC X Y n D L F S C) w) := by
  have hal := (Below.refl w.heap.size w).alloc (Nat.le_refl _) (.cells #[.slice p n c, .int .i64 D, .int .i64 L, .int .i64 F, .int .i64 S, .int .i64 C] 24)
  have hbx := bx_alloc w p n c D L F S C 24
  have hrd := hp.below hal (Nat.le_refl _)
  have HK := Lib.hid (rcheck_any p n c X Y _ hrd)
  have HBX := Lib.hid hbx
  have HAL := Lib.hid hal
  unfold stC
  by_cases h1 : chkC X Y n ≠ 0
  · rw [if_pos h1]
    have hne2 : (chkC X Y n != 0) = true := by simpa using h1
    clear hal hbx hrd hp h
    generalize chkC X Y n = cd at *
    go_enter Try.func34, Try.ntmps34
    go_wp2_with (go_at_call 49; refine HK.out.mono ?_; rintro e w1 ⟨rfl, hb1⟩)
    go_ret
    exact ⟨rfl, HAL.out.trans (hb1.mono (by simp))⟩
  · rw [if_neg h1]
    have hz : chkC X Y n = 0 := Classical.not_not.1 h1
    rw [hz] at HK
    have h2 : n < 2 := by rcases h with h | h; exact absurd h h1; exact h
    rw [if_pos h2]
    have h2' : (n : Int) < 2 := by omega
    clear hal hbx hrd hp h1 hz h
    go_enter Try.func34, Try.ntmps34
    go_wp2_with (go_at_call 49; refine HK.out.mono ?_; rintro e w1 ⟨rfl, hb1⟩; have c0 := (bx_call HBX.out hb1).c0)
    go_ret
    exact ⟨rfl, HAL.out.trans (hb1.mono (by simp))⟩

set_option maxRecDepth 100000 in
set_option maxHeartbeats 8000000 in
theorem rck3_good (b off n m c : Nat) (X Y : Nat → Int) (D L F S C : Int) (w : World) (hn : n = m + 1) (hm : 1 ≤ m) (hz : chkC X Y n = 0) (hp : Pts w b off n X Y) :
    Calls Try.prog 34 #[.agg #[.slice (some ⟨b, off, none⟩) n c, .int .i64 D, .int .i64 L, .int .i64 F, .int .i64 S, .int .i64 C]] w (RetE (stC X Y n D L F S C) w) := by
  have hcur : Cur X Y m := (cur_iff X Y m).1 (by rw [← hn]; exact hz)
  have hm2 := hcur.len
  have HTOP := Lib.hid (fun h => st_top (D := D) (L := L) (F := F) (S := S) (C := C) hz hn hm h)
  have HRIS := Lib.hid (fun h j hj hy => st_ris (D := D) (L := L) (F := F) (S := S) (C := C) hz hn hm h j hj hy)
  have HLVL := Lib.hid (fun h hy => st_lvl (D := D) (L := L) (F := F) (S := S) (C := C) hz hn hm h hy)
  have HXL := Lib.hid (fun i hi => hcur.asc.xle m i hi (Nat.le_refl _))
  have HN := Lib.hid hn
  have n1 : ¬ (n : Int) < 2 := by omega
  have hnm : (n : Int) - 1 = (m : Int) := by omega
  have hkm : (m : Int) < (n : Int) := by omega
  have hk0 : (0 : Int) < (n : Int) := by omega
  have hk0n : 0 < n := by omega
  have hn100 : n ≤ 100 := by omega
  have hwn : IntKind.i64.wrap ((n : Int) - 1) = (m : Int) := by rw [IntKind.wrap_i64]; omega
  have hwm : IntKind.i64.wrap (m : Int) = (m : Int) := by rw [IntKind.wrap_i64]; omega
  have hal := (Below.refl w.heap.size w).alloc (Nat.le_refl _) (.cells #[.slice (some ⟨b, off, none⟩) n c, .int .i64 D, .int .i64 L, .int .i64 F, .int .i64 S, .int .i64 C] 24)
  have hkk := rcheck_any (some ⟨b, off, none⟩) n c X Y _ (fun _ => ⟨b, off, rfl, hp.up hal (Nat.le_refl _)⟩)
  rw [hz] at hkk
  have HK := Lib.hid hkk
  have HA0 := Lib.hid (ba_alloc w (some ⟨b, off, none⟩) n c D L F S C 24)
  have HP := Lib.hid (fun W (h : Below w.heap.size w W) => hp.up h (Nat.le_refl _))
  generalize stC X Y n D L F S C = r at *
  clear hal hp hz hn hcur hkk
  go_enter Try.func34, Try.ntmps34
  go_wp2_with (go_at_call 49; refine HK.out.mono ?_; rintro e w1 ⟨rfl, hb1⟩; have HA1 := Lib.hid (HA0.out.below hb1); obtain ⟨c0, c1, c2, c3, c4, c5, c6⟩ := HA1.out; clear hb1 c6)
  clear HA0 HK c0 c1 c2 c3 c4 c5
  go_loopw [24] (fun s wr => ∃ i : Nat, i ≤ n ∧ s = .int .i64 i ∧ Hid (∀ j, j < i → X j ≤ 16777216) ∧ Hid (BA w w.heap.size (some ⟨b, off, none⟩) n c D L F S C wr)) (fun s _ => n - (intOf s).toNat)
  case atStart => exact ⟨0, Nat.zero_le _, rfl, fun j hj => absurd hj (Nat.not_lt_zero _), HA1⟩
  case round =>
    clear HA1
    obtain ⟨i, hi, rfl, hlo, hba⟩ := hrel
    by_cases hin : i < n
    · have hin' : (i : Int) < (n : Int) := by omega
      obtain ⟨q1, q2⟩ := (HP.out _ hba.out.bel).2 i hin
      have HBA2 := Lib.hid (fun o => hba.out.below ((Below.refl wr.heap.size wr).alloc (Nat.le_refl _) o))
      by_cases hx : 16777216 < X i
      · have hr : 1 = r := (HTOP.out (by have := HXL.out i (by have := HN.out; omega); omega)).symm
        have HR := Lib.hid hr
        clear hr HTOP HRIS HLVL hlo HXL
        generalize X i = xi at *
        generalize Y i = yi at *
        go_wp2
        go_ret
        exact ⟨congrArg (fun v => Ending.returned (.int .i64 v)) HR.out, (HBA2.out _).bel⟩
      · have HLO : Hid (∀ j, j < i + 1 → X j ≤ 16777216) := fun j hj => by
          by_cases e : j = i
          · subst e; omega
          · exact hlo.out j (by omega)
        clear hlo HTOP HRIS HLVL HXL
        generalize X i = xi at q1 hx
        generalize Y i = yi at q2
        go_wp2
        go_roundw
        case rel => exact ⟨i + 1, by omega, by go_num, HLO, HBA2.out _⟩
        case measure => simp [intOf]; omega
    · obtain rfl : n = i := by omega
      have htop : X m ≤ 16777216 := hlo.out m (by have := HN.out; omega)
      have HTP := Lib.hid htop
      have HRIS2 := Lib.hid (fun j hj hy => HRIS.out htop j hj hy)
      have HLVL2 := Lib.hid (fun hy => HLVL.out htop hy)
      clear htop hlo HTOP HXL HRIS HLVL HTP
      obtain ⟨c0, c1, c2, c3, c4, c5, c6⟩ := hba.out
      clear c6
      go_wp2
      clear c0 c1 c2 c3 c4 c5
      go_loopw [7] (fun s wr => ∃ j : Nat, 1 ≤ j ∧ j ≤ n ∧ s = .int .i64 j ∧ Hid (∀ t, t + 1 < j → Y t < Y (t + 1)) ∧ Hid (BA w w.heap.size (some ⟨b, off, none⟩) n c D L F S C wr)) (fun s _ => n - (intOf s).toNat)
      case atStart => exact ⟨1, Nat.le_refl _, by omega, rfl, fun t ht => by omega, hba⟩
      case round =>
        clear hba
        obtain ⟨j, hj, hjn, rfl, hlo, hbv⟩ := hrel
        obtain ⟨c0, c1, c2, c3, c4, c5, c6⟩ := hbv.out
        clear c6
        by_cases hj2 : j < n
        · have hj' : (j : Int) < (n : Int) := by omega
          have hw1 : IntKind.i64.wrap ((j : Int) - 1) = (j : Int) - 1 := by rw [IntKind.wrap_i64]; omega
          obtain ⟨k, hk⟩ : ∃ k, j = k + 1 := ⟨j - 1, by omega⟩
          have e3 : (j : Int) - 1 = (k : Int) := by omega
          have e4 : (k : Int) < (n : Int) := by omega
          have p1 := ((HP.out _ hbv.out.bel).2 j hj2).2
          have p0 := ((HP.out _ hbv.out.bel).2 k (by omega)).2
          have HKK := Lib.hid hk
          have HBD := Lib.hid (fun q => hbv.out.below (W' := wr.drewN q) ⟨rfl, rfl, rfl, Nat.le_refl _, fun _ _ => rfl⟩)
          have hkm2 : k < m := by have := HN.out; omega
          by_cases hy : Y j ≤ Y k
          · have d1 : decide (Y j ≤ Y k) = true := by rw [decide_eq_true_eq]; exact hy
            have hr : 4 = r := (HRIS2.out k hkm2 (by rw [← hk]; exact hy)).symm
            have HR := Lib.hid hr
            clear hr hk hlo HRIS2 HLVL2 HP hj2 hkm2 hy
            generalize Y j = y1 at *
            generalize Y k = y0 at *
            go_wp2_with fail
            go_quiet (fail)
            go_wp2
            go_ret
            exact ⟨congrArg (fun v => Ending.returned (.int .i64 v)) HR.out, (HBD.out _).bel⟩
          · have d1 : decide (Y j ≤ Y k) = false := by rw [decide_eq_false_iff_not]; exact hy
            have HY := Lib.hid hy
            have HL : Hid (∀ t, t + 1 < j + 1 → Y t < Y (t + 1)) := fun t ht => by
              have h2 := HKK.out; have h3 := HY.out; subst h2
              by_cases e : t = k
              · subst e; omega
              · exact hlo.out t (by omega)
            clear hk hlo HRIS2 HLVL2 HP hj2 hkm2 hy HY
            generalize Y j = y1 at d1 p1
            generalize Y k = y0 at d1 p0
            go_wp2_with fail
            go_quiet (fail)
            go_wp2
            go_roundw
            case rel => exact ⟨j + 1, by omega, by omega, by go_num, HL, HBD.out _⟩
            case measure => simp [intOf]; omega
        · obtain rfl : n = j := by omega
          have hfin := HLVL2.out (fun t ht => hlo.out t (by have := HN.out; omega))
          have HFN := Lib.hid hfin
          have HLI := Lib.hid (l7_iff (X 0) D L F S C (X m))
          have hpp := HP.out _ hbv.out.bel
          have p0 := (hpp.2 0 hk0n).1
          have p1 := (hpp.2 m (by have := HN.out; omega)).1
          rw [Nat.zero_mul, Nat.add_zero] at p0
          clear hfin hpp hlo HRIS2 HLVL2 HP hj2
          generalize X 0 = x0 at *
          generalize X m = xm at *
          go_wp2_with fail
          have HA0 : Hid (wr.drew.cell? ⟨w.heap.size, 0, none⟩ = some (.slice (some ⟨b, off, none⟩) n c) ∧ wr.drew.cell? ⟨w.heap.size, 1, none⟩ = some (.int .i64 D) ∧ wr.drew.cell? ⟨w.heap.size, 2, none⟩ = some (.int .i64 L) ∧ wr.drew.cell? ⟨w.heap.size, 3, none⟩ = some (.int .i64 F) ∧ wr.drew.cell? ⟨w.heap.size, 4, none⟩ = some (.int .i64 S) ∧ wr.drew.cell? ⟨w.heap.size, 5, none⟩ = some (.int .i64 C) ∧ wr.drew.cell? ⟨b, off, none⟩ = some (.int .i64 x0) ∧ wr.drew.cell? ⟨b, off + m * 2, none⟩ = some (.int .i64 xm)) := ⟨c0, c1, c2, c3, c4, c5, p0, p1⟩
          go_region_held3 (fun W => W.cell? ⟨w.heap.size, 0, none⟩ = some (.slice (some ⟨b, off, none⟩) n c) ∧ W.cell? ⟨w.heap.size, 1, none⟩ = some (.int .i64 D) ∧ W.cell? ⟨w.heap.size, 2, none⟩ = some (.int .i64 L) ∧ W.cell? ⟨w.heap.size, 3, none⟩ = some (.int .i64 F) ∧ W.cell? ⟨w.heap.size, 4, none⟩ = some (.int .i64 S) ∧ W.cell? ⟨w.heap.size, 5, none⟩ = some (.int .i64 C) ∧ W.cell? ⟨b, off, none⟩ = some (.int .i64 x0) ∧ W.cell? ⟨b, off + m * 2, none⟩ = some (.int .i64 xm)) (first | exact HA0.out | assumption | go_keep) (first | fail)
          obtain ⟨w8, hw8⟩ : ∃ w8, w8 = (wr.alloc (.cells #[.int .i64 x0, .int .i64 D, .int .i64 L, .int .i64 F, .int .i64 S, .int .i64 C, .int .i64 xm] 3)).drew := ⟨_, rfl⟩
          rw [← hw8]
          have HL8 : Hid (Below w.heap.size w w8 ∧ ∀ j, j < 7 → w8.cell? ⟨wr.heap.size, j, none⟩ = some (.int .i64 (l7 x0 D L F S C xm j))) := by
            subst hw8
            exact ⟨((hbv.out.bel.alloc hbv.out.bel.size _)).trans ⟨rfl, rfl, rfl, Nat.le_refl _, fun _ _ => rfl⟩, l7_cells wr x0 D L F S C xm _⟩
          clear hw8 hbv HA0 c0 c1 c2 c3 c4 c5 p0 p1
          generalize wr.heap.size = lb at *
          generalize lvlB x0 D L F S C xm = ok at *
          go_wp2
          go_loopw [9] (fun s wr => ∃ j : Nat, 1 ≤ j ∧ j ≤ 7 ∧ s = .int .i64 j ∧ Hid (∀ u, u + 1 < j → l7 x0 D L F S C xm u ≤ l7 x0 D L F S C xm (u + 1)) ∧ Hid (Below w.heap.size w wr ∧ ∀ j, j < 7 → wr.cell? ⟨lb, j, none⟩ = some (.int .i64 (l7 x0 D L F S C xm j)))) (fun s _ => 7 - (intOf s).toNat)
          case atStart => exact ⟨1, Nat.le_refl _, by omega, rfl, fun u hu => by omega, HL8⟩
          case round =>
            clear HL8
            obtain ⟨i, hi1, hi7, rfl, hli, hl8⟩ := hrel
            generalize l7 x0 D L F S C xm = f at *
            by_cases hi2 : i < 7
            · have hi' : (i : Int) < 7 := by omega
              have hw1 : IntKind.i64.wrap ((i : Int) - 1) = (i : Int) - 1 := by rw [IntKind.wrap_i64]; omega
              obtain ⟨v, hv⟩ : ∃ v, i = v + 1 := ⟨i - 1, by omega⟩
              have e3 : (i : Int) - 1 = (v : Int) := by omega
              have e4 : (v : Int) < 7 := by omega
              have p1 := hl8.out.2 i hi2
              have p0 := hl8.out.2 v (by omega)
              have HVV := Lib.hid hv
              have HL9 := Lib.hid (fun q => (show Below w.heap.size w (wr.drewN q) ∧ ∀ j, j < 7 → (wr.drewN q).cell? ⟨lb, j, none⟩ = some (.int .i64 (f j)) from ⟨bel_drewN hl8.out.1 q, hl8.out.2⟩))
              have hv6 : v < 6 := by omega
              clear hv hl8 hi2
              by_cases hy : f i < f v
              · have d1 : decide (f i < f v) = true := by rw [decide_eq_true_eq]; exact hy
                have hr : 4 = r := by
                  rw [HFN.out, if_pos]
                  cases ok
                  · rfl
                  · exfalso
                    have := HLI.out.1 rfl v hv6
                    have h2 := HVV.out
                    subst h2
                    omega
                have HR := Lib.hid hr
                clear hr hli hy hv6 HFN HLI
                generalize f i = y1 at *
                generalize f v = y0 at *
                go_wp2_with fail
                go_quiet (fail)
                go_wp2
                go_ret
                exact ⟨congrArg (fun v => Ending.returned (.int .i64 v)) HR.out, (HL9.out _).1⟩
              · have d1 : decide (f i < f v) = false := by rw [decide_eq_false_iff_not]; exact hy
                have HY := Lib.hid hy
                have HL : Hid (∀ u, u + 1 < i + 1 → f u ≤ f (u + 1)) := fun u hu => by
                  have h2 := HVV.out; have h3 := HY.out; subst h2
                  by_cases e : u = v
                  · subst e; omega
                  · exact hli.out u (by omega)
                clear hli hy HY hv6
                generalize f i = y1 at d1 p1
                generalize f v = y0 at d1 p0
                go_wp2_with fail
                go_quiet (fail)
                go_wp2
                go_roundw
                case rel => exact ⟨i + 1, by omega, by omega, by go_num, HL, HL9.out _⟩
                case measure => simp [intOf]; omega
            · obtain rfl : i = 7 := by omega
              have hr : 0 = r := by
                rw [HFN.out, if_neg]
                cases ok
                · have := HLI.out.2 (fun u hu => hli.out u (by omega))
                  cases this
                · simp
              have HR := Lib.hid hr
              clear hr hli HFN HLI
              go_wp2
              go_ret
              exact ⟨congrArg (fun v => Ending.returned (.int .i64 v)) HR.out, hl8.out.1⟩

theorem rck3_any (p : Option Addr) (n c : Nat) (X Y : Nat → Int) (D L F S C : Int) (w : World) (hp : RdP w p n X Y) :
    Calls Try.prog 34 #[.agg #[.slice p n c, .int .i64 D, .int .i64 L, .int .i64 F, .int .i64 S, .int .i64 C]] w (RetE (stC X Y n D L F S C) w) := by
  by_cases h : chkC X Y n ≠ 0 ∨ n < 2
  · exact rck3_bad p n c X Y D L F S C w hp h
  · have h1 : chkC X Y n = 0 := Classical.byContradiction fun hh => h (.inl hh)
    have h2 : ¬ n < 2 := fun hh => h (.inr hh)
    obtain ⟨b, off, rfl, hpt⟩ := hp (by omega)
    exact rck3_good b off n (n - 1) c X Y D L F S C w (by omega) (by omega) h1 hpt
end Go.Proofs.Ytdblppbjlgmccaa.Cu

/-
  The contract of levelOut: the steps of a group become as equal as their sum permits.
-/
import Derived.Test.YtbcjigociliflaaIfRfn
import Derived.Test.YtbcjigociliflaaQuOwn
import Derived.Test.YtbcjigociliflaaCuPts
import Derived.RangeFuncCalls
namespace Go.Proofs.Ytbcjigociliflaa.If
open Go.ChangeShapes Go.WideShapes Go.ChangeAt Go.RowKit
open Go.Proofs.Ytbcjigociliflaa.Qu (sumZ sumZ_congr Rd upd)
set_option linter.unusedVariables false

/-- The first k steps of the group of L from off on are smoothed. -/
def lvl (s : Nat → Int) (off L k i : Nat) : Int := if off ≤ i ∧ i < off + k then lev s off L (i - off) else s i
theorem lvl_zero (s : Nat → Int) (off L i : Nat) : lvl s off L 0 i = s i := if_neg (by omega)
theorem lvl_next (s : Nat → Int) (off L k i : Nat) (x : Int) (hx : x = lev s off L k) : upd (lvl s off L k) (off + k) x i = lvl s off L (k + 1) i := by
  unfold upd
  by_cases e : i = off + k
  · subst e
    rw [if_pos rfl]
    unfold lvl
    rw [if_pos (by omega), hx, Nat.add_sub_cancel_left]
  · rw [if_neg e]
    unfold lvl
    by_cases h : off ≤ i ∧ i < off + k
    · rw [if_pos h, if_pos (by omega)]
    · rw [if_neg h, if_neg (by omega)]
theorem upd_upd (s : Nat → Int) (j : Nat) (x y : Int) (i : Nat) : upd (upd s j x) j y i = upd s j y i := by
  unfold upd
  by_cases e : i = j
  · rw [if_pos e, if_pos e]
  · rw [if_neg e, if_neg e, if_neg e]
theorem own_next {w : World} {g n off L k : Nat} {s : Nat → Int} (h : Qu.Own w g n (lvl s off L k)) (hk : off + k < n) {x : Int} (hx : x = lev s off L k) : Qu.Own (w.setCell ⟨g, off + k, none⟩ (.int .i64 x)) g n (lvl s off L (k + 1)) :=
  (h.store hk x).congr (fun i _ => lvl_next s off L k i x hx)
theorem own_next2 {w : World} {g n off L k : Nat} {s : Nat → Int} (h : Qu.Own w g n (lvl s off L k)) (hk : off + k < n) {x : Int} (u : Int) (hx : x = lev s off L k) :
    Qu.Own ((w.setCell ⟨g, off + k, none⟩ (.int .i64 u)).setCell ⟨g, off + k, none⟩ (.int .i64 x)) g n (lvl s off L (k + 1)) :=
  (((h.store hk u).store hk x).congr (fun i _ => upd_upd _ _ _ _ i)).congr (fun i _ => lvl_next s off L k i x hx)
theorem cells_grown (w : World) (a : Addr) (u : Value) : w.grownBy (w.setCell a u) (some a.block) :=
  ⟨rfl, rfl, rfl, by simp [World.setCell], fun j hj hne => (Below.heap_setCell _ _ _ _ (by intro e; apply hne; rw [e]))⟩
/-- What a call that turns the cells of block g alone leaves. -/
structure Tn (g : Nat) (w w' : World) : Prop where
  grown : w.grownBy w' (some g)
  others : KeepsOthers w w'
theorem Tn.refl (g : Nat) (w : World) : Tn g w w := ⟨Cu.grown_refl w _, KeepsOthers.refl w⟩
theorem Tn.set {g : Nat} {a w : World} (h : Tn g a w) (j : Nat) (u : Value) : Tn g a (w.setCell ⟨g, j, none⟩ u) :=
  ⟨Cu.grown_trans h.grown (cells_grown w ⟨g, j, none⟩ u), h.others.trans (KeepsOthers.setCell w _ u)⟩

/-- What levelOut leaves. -/
def LoP (g n off L : Nat) (s : Nat → Int) (w : World) (e : Ending) (w' : World) : Prop := (∃ v, e = .returned v) ∧ Qu.Own w' g n (lvl s off L L) ∧ Tn g w w'
set_option maxHeartbeats 1000000 in
theorem lo_any (g n off L c : Nat) (s : Nat → Int) (w : World) (hn : n ≤ 4096) (hL : 1 ≤ L) (hoL : off + L ≤ n) (hs : ∀ i, i < n → -274877906944 ≤ s i ∧ s i ≤ 274877906944) (ho : Qu.Own w g n s) :
    Calls Try.prog 32 #[.slice (some ⟨g, off, none⟩) L c] w (LoP g n off L s w) := by
  have hsL : ∀ j, j < L → -274877906944 ≤ s (off + j) ∧ s (off + j) ≤ 274877906944 := fun j hj => hs _ (by omega)
  obtain ⟨S1, S2⟩ := gsum_bd s off L hsL
  have h1 := avg_bd s off L hL hsL
  have h2 := rem_bd s off L hL
  have HS := Lib.hid (fun W (hW : W = w) => (show W = w from hW) ▸ isum_any g off L c (fun j => s (off + j)) w (by omega) hsL (fun i hi => ho.cell (by omega)))
  have HF := Lib.hid (fun W => pfl_any (gsum s off L) (L : Int) W (by omega) (by omega))
  have HO : Hid (Qu.Own w g n (lvl s off L 0)) := ho.congr (fun i _ => (lvl_zero s off L i).symm)
  have HT := Lib.hid (Tn.refl g w)
  have hR : gsum s off L - avg s off L * (L : Int) = rem s off L := rfl
  have hq : gsum s off L / (L : Int) = avg s off L := rfl
  have HV := Lib.hid (fun j => (show lev s off L j = avg s off L + if (j : Int) < rem s off L then 1 else 0 from rfl))
  have HG : Hid (sumZ (fun j => s (off + j)) L = gsum s off L) := rfl
  rw [hq] at HF
  have e1 := avg_eq s off L
  generalize avg s off L = q at *
  generalize rem s off L = r at *
  generalize gsum s off L = S at *
  have p1 : -1200000000000000 ≤ q * (L : Int) := by omega
  have p2 : q * (L : Int) ≤ 1200000000000000 := by omega
  obtain ⟨q1, q2, q3⟩ := h1
  obtain ⟨r1, r2⟩ := h2
  have HR := Lib.hid hR
  clear hs ho hsL hq hR e1
  go_enter Try.func32, Try.ntmps32
  go_wp2_with (first | (go_at_call 38; refine (HS.out _ rfl).mono ?_; rintro e w' ⟨rfl, rfl⟩; rw [HG.out]; clear HS) | (go_at_call 39; refine (HF.out _).mono ?_; rintro e w' ⟨rfl, rfl⟩))
  go_loopw [24] (fun i wr => ∃ k : Nat, k ≤ L ∧ i = .int .i64 k ∧ Hid (Qu.Own wr g n (lvl s off L k)) ∧ Hid (Tn g w wr)) (fun i _ => L - (intOf i).toNat)
  case atStart => exact ⟨0, Nat.zero_le _, rfl, HO, HT⟩
  case round =>
    clear HO HT
    obtain ⟨k, hk, rfl, hO, hT⟩ := hrel
    by_cases hlt : k < L
    · have hki : (k : Int) < (L : Int) := by omega
      have hc := hO.out.cell (i := off + k) (by omega)
      have hf := hO.out.free (i := off + k) (by omega)
      have hc2 : (wr.setCell ⟨g, off + k, none⟩ (.int .i64 q)).cell? ⟨g, off + k, none⟩ = some (.int .i64 q) := World.cell?_setCell_same _ _ _ hc
      have hf2 : (wr.setCell ⟨g, off + k, none⟩ (.int .i64 q)).frozen? ⟨g, off + k, none⟩ = false := by simpa using hf
      have hV := HV.out k
      by_cases hr : (k : Int) < r
      · rw [if_pos hr] at hV
        have hd : decide ((k : Int) < S - q * (L : Int)) = true := by rw [decide_eq_true_eq, HR.out]; exact hr
        have HO2 : Hid (Qu.Own _ g n (lvl s off L (k + 1))) := own_next2 hO.out (by omega) q hV.symm
        have HT2 : Hid (Tn g w _) := (hT.out.set (off + k) (.int .i64 q)).set (off + k) (.int .i64 (q + 1))
        have q4 := q3 (by omega)
        clear hV
        go_wp2
        go_roundw
        case rel => exact ⟨k + 1, by omega, by go_num, HO2, HT2⟩
        case measure => simp [intOf]; omega
      · rw [if_neg hr, Int.add_zero] at hV
        have hd : decide ((k : Int) < S - q * (L : Int)) = false := by rw [decide_eq_false_iff_not, HR.out]; exact hr
        have HO2 : Hid (Qu.Own _ g n (lvl s off L (k + 1))) := own_next hO.out (by omega) hV.symm
        have HT2 : Hid (Tn g w _) := hT.out.set (off + k) (.int .i64 q)
        clear hV
        go_wp2
        go_roundw
        case rel => exact ⟨k + 1, by omega, by go_num, HO2, HT2⟩
        case measure => simp [intOf]; omega
    · obtain rfl : k = L := by omega
      go_wp2
      go_end0
      exact ⟨⟨_, rfl⟩, hO.out, hT.out⟩
end Go.Proofs.Ytbcjigociliflaa.If

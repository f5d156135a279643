/-
  The contracts of the program's appendNumber, appendRecord.
-/
import Derived.Test.YtlelcooomfcbaaaDoorGpFns
import Derived.Test.YtlelcooomfcbaaaDoorGgEnc
namespace Go.Proofs.YtlelcooomfcbaaaDoor.Gg
open Go.ChangeShapes Go.WideShapes Go.ChangeAt Go.RowKit
set_option linter.unusedVariables false

theorem gotB_next {w : World} {base : Nat} {v : Value} {m : Nat} {F : Nat → Int} {x : Int} (h : w.ownsRow base 5 1 v (m + 1) (byL F m ++ [.int .u8 x])) (e : F m = x) : GotB w base v (m + 1) F := by
  unfold GotB byL
  rw [e]
  exact h
theorem catB_at (B f : Nat → Int) (n k : Nat) : catB B f n (n + k) = f k := by
  unfold catB
  rw [if_neg (by omega), show n + k - n = k by omega]
theorem catB_zero (B f : Nat → Int) (n : Nat) {w : World} {base : Nat} {v : Value} (h : GotB w base v n B) : GotB w base v (n + 0) (catB B f n) := gotB_congr h (fun i hi => by unfold catB; rw [if_pos (by omega)])
/-- A sum in two bytes. -/
def twG (x : Int) (j : Nat) : Int := if j = 0 then x / 256 else x % 256
def PbP (w : World) (v : Value) (base n : Nat) (B : Nat → Int) (e : Ending) (w' : World) : Prop := ∃ v', e = .returned v' ∧ GotB w' base v' n B ∧ Below base w w' ∧ w.grownBy w' v.ownBlock ∧ (v'.ownBlock = v.ownBlock ∨ ∀ j, v'.ownBlock = some j → w.heap.size ≤ j)
theorem pan_step {w wr w9 : World} {v u v' : Value} {base n k : Nat} {B f : Nat → Int} {x : Int} {o : Obj} (hgot : GotB wr base u (n + k) (catB B f n)) (hbl : Below base w wr) (hb : base ≤ w.heap.size) (hgr : w.grownBy wr v.ownBlock) (hsz : w.heap.size ≤ wr.heap.size) (hob : u.ownBlock = v.ownBlock ∨ ∀ j, u.ownBlock = some j → w.heap.size ≤ j)
    (hown : w9.ownsRow base 5 1 v' (n + k + 1) (byL (catB B f n) (n + k) ++ [.int .u8 x])) (hf : f k = x) (hgrow : (wr.alloc o).grownBy w9 u.ownBlock) (hloc : v'.ownBlock = u.ownBlock ∨ v'.ownBlock = some (wr.alloc o).heap.size) :
    Hid (GotB w9 base v' (n + (k + 1)) (catB B f n)) ∧ Hid (Below base w w9) ∧ Hid (w.grownBy w9 v.ownBlock) ∧ Hid (w.heap.size ≤ w9.heap.size) ∧ Hid (v'.ownBlock = v.ownBlock ∨ ∀ j, v'.ownBlock = some j → w.heap.size ≤ j) := by
  have hbl2 := hbl.alloc (Nat.le_trans hb hsz) o
  have hgr2 := Cu.grown_trans hgr (World.grownBy_alloc wr o v.ownBlock)
  have hs9 := hgrow.size
  have hsa : wr.heap.size + 1 = (wr.alloc o).heap.size := by simp
  refine ⟨gotB_next hown ((catB_at B f n k).trans hf), below_own hbl2 hb hgrow (fun j hj => gotB_block hgot j hj), ?_, (show w.heap.size ≤ w9.heap.size by omega), ?_⟩
  · rcases hob with h | h
    · rw [h] at hgrow
      exact Cu.grown_trans hgr2 hgrow
    · exact Cu.grown_own hgr2 hgrow h
  · rcases hloc with h | h
    · rw [h]; exact hob
    · exact .inr (fun j hj => by rw [h] at hj; cases hj; omega)
set_option maxRecDepth 100000 in
set_option maxHeartbeats 2000000 in
theorem pan2 (v : Value) (n base : Nat) (B : Nat → Int) (x : Int) (w : World) (hx : 0 ≤ x) (hx2 : x ≤ 65535) (hg : GotB w base v n B) (hn : n ≤ 1000000000) (hb : base ≤ w.heap.size) :
    Calls Tryd.prog 54 #[v, .int .i64 x, .int .i64 2] w (PbP w v base (n + 2) (catB B (twG x) n)) := by
  obtain ⟨i0, hi, hz0, hz1, hz2⟩ := info_parts Tryd.infoB
  have HG := Lib.hid hg
  clear hg
  go_enter Tryd.func54, Tryd.ntmps54
  go_wp2
  go_loopw [0, 7] (fun u i wr => ∃ (k : Nat) (V : Value), V = u ∧ k ≤ 2 ∧ i = .int .i64 (8 - 8 * (k : Int)) ∧ Hid (GotB wr base u (n + k) (catB B (twG x) n)) ∧ Hid (Below base w wr) ∧ Hid (w.grownBy wr v.ownBlock) ∧ Hid (w.heap.size ≤ wr.heap.size) ∧ Hid (u.ownBlock = v.ownBlock ∨ ∀ j, u.ownBlock = some j → w.heap.size ≤ j)) (fun _ i _ => ((intOf i) + 8).toNat)
  case atStart => exact ⟨0, _, rfl, by omega, rfl, catB_zero _ _ _ HG.out, (Below.refl _ _).mono hb, Cu.grown_refl w _, Nat.le_refl _, .inl rfl⟩
  case round =>
    obtain ⟨k, u, rfl, hk, rfl, hgot, hbl, hgr, hsz, hob⟩ := hrel
    have hc : k = 0 ∨ k = 1 ∨ k = 2 := by omega
    clear hk
    rcases hc with rfl | rfl | rfl
    · have hs := hsz.out
      go_wp2_with (at_builtin; refine wpList_append_own_at _ rfl _ _ 24 rfl base 5 i0 (.int .u8 0) 1 1 Tryd.underlying24 hi hz0 hz1 hz2 rfl (by decide) u (n + 0) _ rfl (World.ownsRow.alloc hgot.out _) ⟨wr.heap.size, 0, none⟩ 1 1 [.int .u8 (x / 256)] rfl rfl (one_news (by simp)) (by intro u hu; simp at hu; subst hu; rfl) (by unfold maxLen; omega) (by omega) (by simp; omega) ?_; intro v' w9 hown' hgrow hnil hloc)
      have HP := pan_step (k := 0) hgot.out hbl.out hb hgr.out hs hob.out hown' (show twG x 0 = _ from rfl) hgrow hloc
      clear hown' hgrow hnil hloc hgot hbl hgr hob
      go_roundw
      case rel => exact ⟨1, _, rfl, by omega, by go_num, HP⟩
      case measure => simp [intOf]
    · have hs := hsz.out
      go_wp2_with (at_builtin; refine wpList_append_own_at _ rfl _ _ 24 rfl base 5 i0 (.int .u8 0) 1 1 Tryd.underlying24 hi hz0 hz1 hz2 rfl (by decide) u (n + 1) _ rfl (World.ownsRow.alloc hgot.out _) ⟨wr.heap.size, 0, none⟩ 1 1 [.int .u8 (x % 256)] rfl rfl (one_news (by simp)) (by intro u hu; simp at hu; subst hu; rfl) (by unfold maxLen; omega) (by omega) (by simp; omega) ?_; intro v' w9 hown' hgrow hnil hloc)
      have HP := pan_step (k := 1) hgot.out hbl.out hb hgr.out hs hob.out hown' (show twG x 1 = _ from rfl) hgrow hloc
      clear hown' hgrow hnil hloc hgot hbl hgr hob
      go_roundw
      case rel => exact ⟨2, _, rfl, by omega, by go_num, HP⟩
      case measure => simp [intOf]
    · go_wp2
      go_ret
      exact ⟨u, rfl, hgot.out, hbl.out, hgr.out, hob.out⟩
set_option maxRecDepth 100000 in
set_option maxHeartbeats 2000000 in
theorem pan4 (v : Value) (n base : Nat) (B : Nat → Int) (x : Int) (w : World) (hx : 0 ≤ x) (hx2 : x ≤ 4294967295) (hg : GotB w base v n B) (hn : n ≤ 1000000000) (hb : base ≤ w.heap.size) :
    Calls Tryd.prog 54 #[v, .int .i64 x, .int .i64 4] w (PbP w v base (n + 4) (catB B (pbG x) n)) := by
  obtain ⟨i0, hi, hz0, hz1, hz2⟩ := info_parts Tryd.infoB
  have HG := Lib.hid hg
  clear hg
  go_enter Tryd.func54, Tryd.ntmps54
  go_wp2
  go_loopw [0, 7] (fun u i wr => ∃ (k : Nat) (V : Value), V = u ∧ k ≤ 4 ∧ i = .int .i64 (24 - 8 * (k : Int)) ∧ Hid (GotB wr base u (n + k) (catB B (pbG x) n)) ∧ Hid (Below base w wr) ∧ Hid (w.grownBy wr v.ownBlock) ∧ Hid (w.heap.size ≤ wr.heap.size) ∧ Hid (u.ownBlock = v.ownBlock ∨ ∀ j, u.ownBlock = some j → w.heap.size ≤ j)) (fun _ i _ => ((intOf i) + 8).toNat)
  case atStart => exact ⟨0, _, rfl, by omega, rfl, catB_zero _ _ _ HG.out, (Below.refl _ _).mono hb, Cu.grown_refl w _, Nat.le_refl _, .inl rfl⟩
  case round =>
    obtain ⟨k, u, rfl, hk, rfl, hgot, hbl, hgr, hsz, hob⟩ := hrel
    have hc : k = 0 ∨ k = 1 ∨ k = 2 ∨ k = 3 ∨ k = 4 := by omega
    clear hk
    rcases hc with rfl | rfl | rfl | rfl | rfl
    · have hs := hsz.out
      go_wp2_with (at_builtin; refine wpList_append_own_at _ rfl _ _ 24 rfl base 5 i0 (.int .u8 0) 1 1 Tryd.underlying24 hi hz0 hz1 hz2 rfl (by decide) u (n + 0) _ rfl (World.ownsRow.alloc hgot.out _) ⟨wr.heap.size, 0, none⟩ 1 1 [.int .u8 (x / 16777216)] rfl rfl (one_news (by simp)) (by intro u hu; simp at hu; subst hu; rfl) (by unfold maxLen; omega) (by omega) (by simp; omega) ?_; intro v' w9 hown' hgrow hnil hloc)
      have HP := pan_step (k := 0) hgot.out hbl.out hb hgr.out hs hob.out hown' (show pbG x 0 = _ from rfl) hgrow hloc
      clear hown' hgrow hnil hloc hgot hbl hgr hob
      go_roundw
      case rel => exact ⟨1, _, rfl, by omega, by go_num, HP⟩
      case measure => simp [intOf]
    · have hs := hsz.out
      go_wp2_with (at_builtin; refine wpList_append_own_at _ rfl _ _ 24 rfl base 5 i0 (.int .u8 0) 1 1 Tryd.underlying24 hi hz0 hz1 hz2 rfl (by decide) u (n + 1) _ rfl (World.ownsRow.alloc hgot.out _) ⟨wr.heap.size, 0, none⟩ 1 1 [.int .u8 (x / 65536 % 256)] rfl rfl (one_news (by simp)) (by intro u hu; simp at hu; subst hu; rfl) (by unfold maxLen; omega) (by omega) (by simp; omega) ?_; intro v' w9 hown' hgrow hnil hloc)
      have HP := pan_step (k := 1) hgot.out hbl.out hb hgr.out hs hob.out hown' (show pbG x 1 = _ from rfl) hgrow hloc
      clear hown' hgrow hnil hloc hgot hbl hgr hob
      go_roundw
      case rel => exact ⟨2, _, rfl, by omega, by go_num, HP⟩
      case measure => simp [intOf]
    · have hs := hsz.out
      go_wp2_with (at_builtin; refine wpList_append_own_at _ rfl _ _ 24 rfl base 5 i0 (.int .u8 0) 1 1 Tryd.underlying24 hi hz0 hz1 hz2 rfl (by decide) u (n + 2) _ rfl (World.ownsRow.alloc hgot.out _) ⟨wr.heap.size, 0, none⟩ 1 1 [.int .u8 (x / 256 % 256)] rfl rfl (one_news (by simp)) (by intro u hu; simp at hu; subst hu; rfl) (by unfold maxLen; omega) (by omega) (by simp; omega) ?_; intro v' w9 hown' hgrow hnil hloc)
      have HP := pan_step (k := 2) hgot.out hbl.out hb hgr.out hs hob.out hown' (show pbG x 2 = _ from rfl) hgrow hloc
      clear hown' hgrow hnil hloc hgot hbl hgr hob
      go_roundw
      case rel => exact ⟨3, _, rfl, by omega, by go_num, HP⟩
      case measure => simp [intOf]
    · have hs := hsz.out
      go_wp2_with (at_builtin; refine wpList_append_own_at _ rfl _ _ 24 rfl base 5 i0 (.int .u8 0) 1 1 Tryd.underlying24 hi hz0 hz1 hz2 rfl (by decide) u (n + 3) _ rfl (World.ownsRow.alloc hgot.out _) ⟨wr.heap.size, 0, none⟩ 1 1 [.int .u8 (x % 256)] rfl rfl (one_news (by simp)) (by intro u hu; simp at hu; subst hu; rfl) (by unfold maxLen; omega) (by omega) (by simp; omega) ?_; intro v' w9 hown' hgrow hnil hloc)
      have HP := pan_step (k := 3) hgot.out hbl.out hb hgr.out hs hob.out hown' (show pbG x 3 = _ from rfl) hgrow hloc
      clear hown' hgrow hnil hloc hgot hbl hgr hob
      go_roundw
      case rel => exact ⟨4, _, rfl, by omega, by go_num, HP⟩
      case measure => simp [intOf]
    · go_wp2
      go_ret
      exact ⟨u, rfl, hgot.out, hbl.out, hgr.out, hob.out⟩
end Go.Proofs.YtlelcooomfcbaaaDoor.Gg

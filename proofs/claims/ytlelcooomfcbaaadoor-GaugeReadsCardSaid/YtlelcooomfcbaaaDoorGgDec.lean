/-
  The contract of Decode of the reference of chapter 6.
-/
import Derived.Test.YtlelcooomfcbaaaDoorGgGet
import Derived.Deep.DeepCutAuto
import Derived.Deep.CutRange
import Derived.Deep.RegionHeld3
namespace Go.Proofs.YtlelcooomfcbaaaDoor.Gg
open Go.ChangeShapes Go.WideShapes Go.ChangeAt Go.RowKit
set_option linter.unusedVariables false

/-- Four bytes from i on as a number. -/
def fourB (B : Nat → Int) (i : Nat) : Int := B i * 16777216 + B (i + 1) * 65536 + B (i + 2) * 256 + B (i + 3)
/-- The readings that bytes stand for, twelve each. -/
def deR (B : Nat → Int) (k : Nat) : Nat → Int := mkR (B (k * 12)) (fourB B (k * 12 + 1)) (fourB B (k * 12 + 5)) (B (k * 12 + 9))
/-- The error of record k of n bytes. -/
def deE (B : Nat → Int) (n k : Nat) : Int :=
  if n < k * 12 + 12 then 3 else if smG (fun j => B (k * 12 + j)) 10 ≠ B (k * 12 + 10) * 256 + B (k * 12 + 11) then 8
  else ckG (B (k * 12)) (fourB B (k * 12 + 1)) (fourB B (k * 12 + 5)) (B (k * 12 + 9))
/-- The first error of the first k records, and its place. -/
def deA (B : Nat → Int) (n : Nat) : Nat → Int × Int
  | 0 => (0, 0)
  | k + 1 => if (deA B n k).1 ≠ 0 then deA B n k else if deE B n k ≠ 0 then (deE B n k, (k : Int) * 12) else (0, 0)
theorem deA_stick (B : Nat → Int) (n k : Nat) (h : (deA B n k).1 ≠ 0) : ∀ m, k ≤ m → deA B n m = deA B n k
  | 0, hn => by obtain rfl : k = 0 := by omega
                rfl
  | m + 1, hn => by
    by_cases e : k = m + 1
    · rw [e]
    · have ih := deA_stick B n k h m (by omega)
      show (if (deA B n m).1 ≠ 0 then deA B n m else _) = _
      rw [if_pos (by rw [ih]; exact h), ih]
theorem deA_next (B : Nat → Int) (n k : Nat) (h : deA B n k = (0, 0)) : deA B n (k + 1) = if deE B n k ≠ 0 then (deE B n k, (k : Int) * 12) else (0, 0) := by
  show (if (deA B n k).1 ≠ 0 then deA B n k else _) = _
  rw [if_neg (by simp [h])]
theorem deA_form (B : Nat → Int) (n : Nat) : ∀ k, (deA B n k).1 = 0 → deA B n k = (0, 0)
  | 0, _ => rfl
  | k + 1, h => by
    by_cases e : (deA B n k).1 = 0
    · have ih := deA_form B n k e
      rw [deA_next B n k ih] at h ⊢
      by_cases e2 : deE B n k = 0
      · simp [e2]
      · simp [e2] at h
    · rw [deA_stick B n k e (k + 1) (by omega)] at h
      exact absurd h e
theorem deA_back (B : Nat → Int) (n k : Nat) (h : deA B n (k + 1) = (0, 0)) : deE B n k = 0 := by
  by_cases e : (deA B n k).1 = 0
  · rw [deA_next B n k (deA_form B n k e)] at h
    by_cases e2 : deE B n k = 0
    · exact e2
    · rw [if_pos e2] at h; exact absurd (congrArg Prod.fst h) e2
  · rw [deA_stick B n k e (k + 1) (by omega)] at h
    rw [h] at e; exact absurd rfl e
theorem de_whole (B : Nat → Int) (n : Nat) (h : deA B n ((n + 11) / 12) = (0, 0)) : (n + 11) / 12 = n / 12 := by
  by_cases e : n % 12 = 0
  · omega
  · have e2 : (n + 11) / 12 = n / 12 + 1 := by omega
    rw [e2] at h
    have := deA_back B n (n / 12) h
    unfold deE at this
    rw [if_pos (by omega)] at this
    omega
def deX (B : Nat → Int) (n : Nat) : Int × Int := if 49152 < n then (10, 0) else deA B n ((n + 11) / 12)
def deN (B : Nat → Int) (n : Nat) : Nat := if (deX B n).1 = 0 then n / 12 else 0
def DeP (w : World) (x : Int × Int) (m : Nat) (R : Nat → Nat → Int) (e : Ending) (w' : World) : Prop :=
  ∃ v, e = .returned (.tuple #[v, .int .i64 x.2, .int .i64 x.1]) ∧ GotR w' w.heap.size v m R ∧ Below w.heap.size w w'

theorem below_grown {w w' : World} (h : Below w.heap.size w w') (r : Option Nat) : w.grownBy w' r := ⟨h.os, h.tape, h.output, h.size, fun j hj _ => h.block j hj⟩
theorem Below.setCell' (W : World) (kb i : Nat) (u : Value) : Below kb W (W.setCell ⟨kb, i, none⟩ u) :=
  ⟨rfl, rfl, rfl, by simp [World.setCell], fun j hj => Below.heap_setCell _ _ _ _ (by show j ≠ kb; omega)⟩
/-- What the region of a record keeps. -/
def Kd (wr : World) (b o2 : Nat) (Bk : Nat → Int) (W : World) : Prop := By W b o2 12 Bk ∧ Below wr.heap.size wr W
theorem Kd.alloc {wr : World} {b o2 : Nat} {Bk : Nat → Int} {W : World} (h : Kd wr b o2 Bk W) (o : Obj) : Kd wr b o2 Bk (W.alloc o) := ⟨h.1.alloc o, h.2.alloc h.2.size o⟩
theorem Kd.drewN {wr : World} {b o2 : Nat} {Bk : Nat → Int} {W : World} (h : Kd wr b o2 Bk W) (q : Nat) : Kd wr b o2 Bk (W.drewN q) := ⟨h.1, below_drewN h.2 q⟩
theorem Kd.drew {wr : World} {b o2 : Nat} {Bk : Nat → Int} {W : World} (h : Kd wr b o2 Bk W) : Kd wr b o2 Bk W.drew := ⟨h.1, h.2.os, h.2.tape, h.2.output, h.2.size, h.2.block⟩
theorem Kd.cell {wr : World} {b o2 : Nat} {Bk : Nat → Int} {W : World} (h : Kd wr b o2 Bk W) (o : Obj) {i : Nat} {v : Value} (hc : W.cell? ⟨b, i, none⟩ = some v) : (W.alloc o).cell? ⟨b, i, none⟩ = some v :=
  ((Below.refl W.heap.size W).alloc (Nat.le_refl _) o |>.cell (p := ⟨b, i, none⟩) h.1.1).trans hc

theorem frozen_new (w : World) (a b c d : Value) (t : TypeId) (i : Nat) : (w.alloc (.cells #[a, b, c, d] t)).frozen? ⟨w.heap.size, i, none⟩ = false := by simp
theorem four_set (W : World) (kb : Nat) (a b c d : Value) {z0 z1 z2 z3 : Value} (h0 : W.cell? ⟨kb, 0, none⟩ = some z0) (h1 : W.cell? ⟨kb, 1, none⟩ = some z1) (h2 : W.cell? ⟨kb, 2, none⟩ = some z2) (h3 : W.cell? ⟨kb, 3, none⟩ = some z3) :
    ((((W.setCell ⟨kb, 0, none⟩ a).setCell ⟨kb, 1, none⟩ b).setCell ⟨kb, 2, none⟩ c).setCell ⟨kb, 3, none⟩ d).cell? ⟨kb, 0, none⟩ = some a ∧ ((((W.setCell ⟨kb, 0, none⟩ a).setCell ⟨kb, 1, none⟩ b).setCell ⟨kb, 2, none⟩ c).setCell ⟨kb, 3, none⟩ d).cell? ⟨kb, 1, none⟩ = some b ∧ ((((W.setCell ⟨kb, 0, none⟩ a).setCell ⟨kb, 1, none⟩ b).setCell ⟨kb, 2, none⟩ c).setCell ⟨kb, 3, none⟩ d).cell? ⟨kb, 2, none⟩ = some c ∧ ((((W.setCell ⟨kb, 0, none⟩ a).setCell ⟨kb, 1, none⟩ b).setCell ⟨kb, 2, none⟩ c).setCell ⟨kb, 3, none⟩ d).cell? ⟨kb, 3, none⟩ = some d := by
  have o : ∀ (V : World) (i j : Nat) (u v : Value), i ≠ j → V.cell? ⟨kb, j, none⟩ = some v → (V.setCell ⟨kb, i, none⟩ u).cell? ⟨kb, j, none⟩ = some v := fun V i j u v hne h => (World.cell?_setCell_other _ _ _ _ (by intro e; simp only [Addr.mk.injEq] at e; omega)).trans h
  have s : ∀ (V : World) (i : Nat) (u z : Value), V.cell? ⟨kb, i, none⟩ = some z → (V.setCell ⟨kb, i, none⟩ u).cell? ⟨kb, i, none⟩ = some u := fun V i u z h => World.cell?_setCell_same _ _ _ h
  exact ⟨o _ 3 0 _ _ (by omega) (o _ 2 0 _ _ (by omega) (o _ 1 0 _ _ (by omega) (s _ 0 _ _ h0))),
    o _ 3 1 _ _ (by omega) (o _ 2 1 _ _ (by omega) (s _ 1 _ _ (o _ 0 1 _ _ (by omega) h1))),
    o _ 3 2 _ _ (by omega) (s _ 2 _ _ (o _ 1 2 _ _ (by omega) (o _ 0 2 _ _ (by omega) h2))),
    s _ 3 _ _ (o _ 2 3 _ _ (by omega) (o _ 1 3 _ _ (by omega) (o _ 0 3 _ _ (by omega) h3)))⟩
theorem gotR_kept {w w' : World} {base : Nat} {v : Value} {n : Nat} {R : Nat → Nat → Int} (h : GotR w base v n R) (hb : Below w.heap.size w w') : GotR w' base v n R := by
  by_cases e : v.ownBlock = none
  · exact h.kept (below_grown hb none) (.inl e)
  · exact h.kept (below_grown hb none) (.inr e)
theorem KdH.drew {wr : World} {b o2 : Nat} {Bk : Nat → Int} {W : World} (h : Hid (Kd wr b o2 Bk W)) : Hid (Kd wr b o2 Bk W.drew) := Kd.drew h.out
theorem KdH.drewN {wr : World} {b o2 : Nat} {Bk : Nat → Int} {W : World} (h : Hid (Kd wr b o2 Bk W)) (q : Nat) : Hid (Kd wr b o2 Bk (W.drewN q)) := Kd.drewN h.out q
theorem KdH.alloc {wr : World} {b o2 : Nat} {Bk : Nat → Int} {W : World} (h : Hid (Kd wr b o2 Bk W)) (o : Obj) : Hid (Kd wr b o2 Bk (W.alloc o)) := Kd.alloc h.out o
theorem Ks_drew {wr : World} {b o2 : Nat} {Bk : Nat → Int} {W : World} {x0 x9 : Int} (h : (W.cell? ⟨b, o2, none⟩ = some (.int .u8 x0) ∧ W.cell? ⟨b, o2 + 9, none⟩ = some (.int .u8 x9) ∧ Hid (Kd wr b o2 Bk W))) : (W.drew.cell? ⟨b, o2, none⟩ = some (.int .u8 x0) ∧ W.drew.cell? ⟨b, o2 + 9, none⟩ = some (.int .u8 x9) ∧ Hid (Kd wr b o2 Bk W.drew)) := ⟨h.1, h.2.1, KdH.drew h.2.2⟩
theorem Ks_drewN {wr : World} {b o2 : Nat} {Bk : Nat → Int} {W : World} {x0 x9 : Int} (h : (W.cell? ⟨b, o2, none⟩ = some (.int .u8 x0) ∧ W.cell? ⟨b, o2 + 9, none⟩ = some (.int .u8 x9) ∧ Hid (Kd wr b o2 Bk W))) (q : Nat) : ((W.drewN q).cell? ⟨b, o2, none⟩ = some (.int .u8 x0) ∧ (W.drewN q).cell? ⟨b, o2 + 9, none⟩ = some (.int .u8 x9) ∧ Hid (Kd wr b o2 Bk (W.drewN q))) := ⟨h.1, h.2.1, KdH.drewN h.2.2 q⟩
theorem Ks_alloc {wr : World} {b o2 : Nat} {Bk : Nat → Int} {W : World} {x0 x9 : Int} (h : (W.cell? ⟨b, o2, none⟩ = some (.int .u8 x0) ∧ W.cell? ⟨b, o2 + 9, none⟩ = some (.int .u8 x9) ∧ Hid (Kd wr b o2 Bk W))) (o : Obj) : ((W.alloc o).cell? ⟨b, o2, none⟩ = some (.int .u8 x0) ∧ (W.alloc o).cell? ⟨b, o2 + 9, none⟩ = some (.int .u8 x9) ∧ Hid (Kd wr b o2 Bk (W.alloc o))) := ⟨Kd.cell h.2.2.out o h.1, Kd.cell h.2.2.out o h.2.1, KdH.alloc h.2.2 o⟩
theorem Ks_set {wr : World} {b o2 : Nat} {Bk : Nat → Int} {W : World} {x0 x9 : Int} (h : (W.cell? ⟨b, o2, none⟩ = some (.int .u8 x0) ∧ W.cell? ⟨b, o2 + 9, none⟩ = some (.int .u8 x9) ∧ Hid (Kd wr b o2 Bk W))) (kb i : Nat) (u : Value) (hb : b < kb) (hk : wr.heap.size ≤ kb) : ((W.setCell ⟨kb, i, none⟩ u).cell? ⟨b, o2, none⟩ = some (.int .u8 x0) ∧ (W.setCell ⟨kb, i, none⟩ u).cell? ⟨b, o2 + 9, none⟩ = some (.int .u8 x9) ∧ Hid (Kd wr b o2 Bk (W.setCell ⟨kb, i, none⟩ u))) :=
  ⟨(World.cell?_setCell_other _ _ _ _ (by intro e; simp only [Addr.mk.injEq] at e; omega)).trans h.1, (World.cell?_setCell_other _ _ _ _ (by intro e; simp only [Addr.mk.injEq] at e; omega)).trans h.2.1,
    (show Kd wr b o2 Bk (W.setCell ⟨kb, i, none⟩ u) from ⟨h.2.2.out.1.below (Below.setCell' W kb i u) hb, h.2.2.out.2.trans ((Below.setCell' W kb i u).mono hk)⟩)⟩
theorem cell_drewN {W : World} {p : Addr} {v : Value} (h : W.cell? p = some v) (q : Nat) : (W.drewN q).cell? p = some v := h
theorem cell_drew {W : World} {p : Addr} {v : Value} (h : W.cell? p = some v) : W.drew.cell? p = some v := h

set_option maxRecDepth 100000 in
set_option maxHeartbeats 4000000 in
theorem gdec_some (b off n c : Nat) (B : Nat → Int) (w : World) (hp : By w b off n B) (hB : Bt B n) (hn : n ≤ 49152) (hc : n ≤ c) :
    Calls Tryd.prog 24 #[.slice (some ⟨b, off, none⟩) n c] w (DeP w (deX B n) (deN B n) (deR B)) := by
  obtain ⟨i0, hi, hz0, hz1, hz2⟩ := info_parts Tryd.infoR
  have hX : deX B n = deA B n ((n + 11) / 12) := by unfold deX; rw [if_neg (by omega)]
  have HP := Lib.hid hp
  have HB := Lib.hid hB
  have HXX := Lib.hid hX
  have hni : (n : Int) ≤ 49152 := by omega
  have hci : (n : Int) ≤ (c : Int) := by omega
  clear hp hB hX
  go_enter Tryd.func24, Tryd.ntmps24
  go_wp2
  go_loopw [5, 6] (fun v i wr => ∃ (k : Nat) (V : Value), V = v ∧ k ≤ (n + 11) / 12 ∧ i = .int .i64 ((k : Int) * 12) ∧ Hid (deA B n k = (0, 0)) ∧ Hid (GotR wr w.heap.size v k (deR B)) ∧ Hid (Below w.heap.size w wr)) (fun _ i _ => n + 12 - (intOf i).toNat)
  case atStart => exact ⟨0, _, rfl, Nat.zero_le _, rfl, rfl, gotR_nil _ _ _, Below.refl _ _⟩
  case round =>
    obtain ⟨k, v, rfl, hk, rfl, hde, hgot, hb⟩ := hrel
    have hk9 : (k : Int) ≤ 4096 := by omega
    by_cases hkn : k * 12 < n
    · have hkni : (k : Int) * 12 < (n : Int) := by omega
      have HN := Lib.hid (deA_next B n k hde.out)
      by_cases hlen : n < k * 12 + 12
      · have hli : (n : Int) - (k : Int) * 12 < 12 := by omega
        have HR : Hid (deX B n = (3, (k : Int) * 12)) := by
          have e : deE B n k = 3 := by unfold deE; rw [if_pos hlen]
          have e2 : deA B n (k + 1) = (3, (k : Int) * 12) := by rw [HN.out, e]; rfl
          show deX B n = _
          rw [HXX.out, ← e2]
          exact deA_stick B n (k + 1) (by rw [e2]; simp) _ (by omega)
        go_wp2
        go_ret3
        refine ⟨.slice none 0 0, by rw [HR.out]; rfl, ?_, hb.out⟩
        unfold deN
        rw [HR.out]
        exact gotR_nil _ _ _
      · have hl1 : ¬ (n : Int) - (k : Int) * 12 < 12 := by omega
        have hl2 : (k : Int) * 12 + 12 ≤ (c : Int) := by omega
        have hl3 : (k : Int) * 12 + 12 ≤ (n : Int) := by omega
        have hby : By wr b (off + k * 12) 12 (fun j => B (k * 12 + j)) := ⟨(HP.out.up hb.out (Nat.le_refl _)).1, fun j hj => by
          have h := (HP.out.up hb.out (Nat.le_refl _)).2 (k * 12 + j) (by omega)
          rw [← Nat.add_assoc] at h
          exact h⟩
        have hbt : Bt (fun j => B (k * 12 + j)) 12 := fun j hj => HB.out (k * 12 + j) (by omega)
        go_upto_region 10 with fail
        rw [show k * 12 + 12 - k * 12 = 12 by omega]
        obtain ⟨c2, hc2⟩ : ∃ c2, c2 = c - k * 12 := ⟨_, rfl⟩
        rw [← hc2]
        have hc3 : (12 : Int) ≤ (c2 : Int) := by omega
        clear hc2
        have HRR : Hid (deR B k = mkR (B (k * 12)) (fourB B (k * 12 + 1)) (fourB B (k * 12 + 5)) (B (k * 12 + 9))) := rfl
        have HEE : Hid (deE B n k = if smG (fun j => B (k * 12 + j)) 10 ≠ B (k * 12 + 10) * 256 + B (k * 12 + 11) then 8 else ckG (B (k * 12)) (fourB B (k * 12 + 1)) (fourB B (k * 12 + 5)) (B (k * 12 + 9))) := by
          show deE B n k = _
          unfold deE
          rw [if_neg hlen]
        have HBY := Lib.hid hby
        have HBT : Hid (∀ i, i < k * 12 + 12 → 0 ≤ B i ∧ B i ≤ 255) := fun i hi => HB.out i (by omega)
        have HSM := Lib.hid (fun q c3 => gsum_any (some ⟨b, off + k * 12, none⟩) 10 c3 (fun j => B (k * 12 + j)) (wr.drewN q) (fun _ => ⟨b, off + k * 12, rfl, ⟨hby.1, fun j hj => hby.2 j (by omega)⟩⟩) (fun j hj => hbt j (by omega)) (by omega))
        have c10 : wr.cell? ⟨b, off + k * 12 + 10, none⟩ = some (.int .u8 (B (k * 12 + 10))) := hby.2 10 (by omega)
        have c11 : wr.cell? ⟨b, off + k * 12 + 11, none⟩ = some (.int .u8 (B (k * 12 + 11))) := hby.2 11 (by omega)
        obtain ⟨x100, x101⟩ : 0 ≤ B (k * 12 + 10) ∧ B (k * 12 + 10) ≤ 255 := hbt 10 (by omega)
        obtain ⟨x110, x111⟩ : 0 ≤ B (k * 12 + 11) ∧ B (k * 12 + 11) ≤ 255 := hbt 11 (by omega)
        obtain ⟨o2, ho2⟩ : ∃ o2, o2 = off + k * 12 := ⟨_, rfl⟩
        rw [← ho2] at c10 c11 HSM HBY ⊢
        clear ho2 hby
        generalize smG (fun j => B (k * 12 + j)) 10 = sm at *
        generalize B (k * 12 + 10) = x10 at *
        generalize B (k * 12 + 11) = x11 at *
        have hor := or8 x10 x11 x100 (by omega) x110 (by omega)
        by_cases hsum : sm = x10 * 256 + x11
        · have hs1 : (sm != bits BinOp.or IntKind.i64 (x10 * 256) x11) = false := by rw [hor]; simpa using hsum
          go_quiet (refine Calls.quiet_of_same ((HSM.out _ _).mono fun e w' h => ⟨h.1, h.2.symm⟩))
          go_upto_region 12 with fail
          generalize hw3 : wr.drewN _ = w3
          have HBY3 : Hid (By w3 b o2 12 (fun j => B (k * 12 + j))) := by rw [← hw3]; exact HBY.out
          have hb3 : Hid (Below w.heap.size w w3) := by rw [← hw3]; exact below_drewN hb.out _
          have hgot3 : Hid (GotR w3 w.heap.size v k (deR B)) := by rw [← hw3]; exact hgot.out
          clear hw3 HBY hb hgot c10 c11 HSM
          have c0 : w3.cell? ⟨b, o2, none⟩ = some (.int .u8 (B (k * 12))) := HBY3.out.2 0 (by omega)
          have c9 : w3.cell? ⟨b, o2 + 9, none⟩ = some (.int .u8 (B (k * 12 + 9))) := HBY3.out.2 9 (by omega)
          have hblt : b < w3.heap.size := HBY3.out.1
          have HG1 : Hid (∀ W c', By W b o2 12 (fun j => B (k * 12 + j)) → Calls Tryd.prog 44 #[.slice (some ⟨b, o2 + 1, none⟩) 4 c'] W fun e w' => e = .returned (.int .i64 (fourB B (k * 12 + 1))) ∧ ∃ q, w' = W.drewN q) := fun W c' h => gget_any b (o2 + 1) 4 c' (fun j => B (k * 12 + 1 + j)) W ⟨h.1, fun j hj => by show W.cell? ⟨b, o2 + 1 + j, none⟩ = some (.int .u8 (B (k * 12 + 1 + j))); rw [Nat.add_assoc o2, Nat.add_assoc (k * 12)]; exact h.2 (1 + j) (by omega)⟩ (fun j hj => HBT.out (k * 12 + 1 + j) (by omega)) (by omega)
          have HG5 : Hid (∀ W c', By W b o2 12 (fun j => B (k * 12 + j)) → Calls Tryd.prog 44 #[.slice (some ⟨b, o2 + 5, none⟩) 4 c'] W fun e w' => e = .returned (.int .i64 (fourB B (k * 12 + 5))) ∧ ∃ q, w' = W.drewN q) := fun W c' h => gget_any b (o2 + 5) 4 c' (fun j => B (k * 12 + 5 + j)) W ⟨h.1, fun j hj => by show W.cell? ⟨b, o2 + 5 + j, none⟩ = some (.int .u8 (B (k * 12 + 5 + j))); rw [Nat.add_assoc o2, Nat.add_assoc (k * 12)]; exact h.2 (5 + j) (by omega)⟩ (fun j hj => HBT.out (k * 12 + 5 + j) (by omega)) (by omega)
          generalize fourB B (k * 12 + 1) = f1 at *
          generalize fourB B (k * 12 + 5) = f5 at *
          obtain ⟨b00, b01⟩ := HBT.out (k * 12) (by omega)
          obtain ⟨b90, b91⟩ := HBT.out (k * 12 + 9) (by omega)
          generalize B (k * 12 + 9) = x9 at *
          generalize hx0 : B (k * 12) = x0 at c0 HRR HEE b00 b01
          clear hx0
          have HC1 : Hid (∀ W c', (W.cell? ⟨b, o2, none⟩ = some (.int .u8 x0) ∧ W.cell? ⟨b, o2 + 9, none⟩ = some (.int .u8 x9) ∧ Hid (Kd w3 b o2 (fun j => B (k * 12 + j)) W)) → Calls Tryd.prog 44 #[.slice (some ⟨b, o2 + 1, none⟩) 4 c'] W fun e w' => e = .returned (.int .i64 f1) ∧ (w'.cell? ⟨b, o2, none⟩ = some (.int .u8 x0) ∧ w'.cell? ⟨b, o2 + 9, none⟩ = some (.int .u8 x9) ∧ Hid (Kd w3 b o2 (fun j => B (k * 12 + j)) w')) ∧ ∃ q, w' = W.drewN q) := fun W c' h => (HG1.out W c' h.2.2.out.1).mono (fun e w' hh => ⟨hh.1, by obtain ⟨_, q, rfl⟩ := hh; exact ⟨h.1, h.2.1, KdH.drewN h.2.2 q⟩, hh.2⟩)
          have HC5 : Hid (∀ W c', (W.cell? ⟨b, o2, none⟩ = some (.int .u8 x0) ∧ W.cell? ⟨b, o2 + 9, none⟩ = some (.int .u8 x9) ∧ Hid (Kd w3 b o2 (fun j => B (k * 12 + j)) W)) → Calls Tryd.prog 44 #[.slice (some ⟨b, o2 + 5, none⟩) 4 c'] W fun e w' => e = .returned (.int .i64 f5) ∧ (w'.cell? ⟨b, o2, none⟩ = some (.int .u8 x0) ∧ w'.cell? ⟨b, o2 + 9, none⟩ = some (.int .u8 x9) ∧ Hid (Kd w3 b o2 (fun j => B (k * 12 + j)) w')) ∧ ∃ q, w' = W.drewN q) := fun W c' h => (HG5.out W c' h.2.2.out.1).mono (fun e w' hh => ⟨hh.1, by obtain ⟨_, q, rfl⟩ := hh; exact ⟨h.1, h.2.1, KdH.drewN h.2.2 q⟩, hh.2⟩)
          have cn1 : ¬ c2 = 1 := by omega
          have cn5 : ¬ c2 = 5 := by omega
          have cc5 : (5 : Int) ≤ (c2 : Int) := by omega
          have cc9 : (9 : Int) ≤ (c2 : Int) := by omega
          have cd5 : ¬ (c2 : Int) < 5 := by omega
          have cd9 : ¬ (c2 : Int) < 9 := by omega
          clear HG1 HG5
          have fa0 : ∀ (m : Nat) (a b c d : Value) (t : TypeId), ((w3.drewN m).alloc (.cells #[a, b, c, d] t)).cell? ⟨w3.heap.size, 0, none⟩ = some a := fun m a b c d t => cell_four (w3.drewN m) a b c d t 0 a rfl
          have fb0 : ∀ (a b c d : Value) (t : TypeId), (w3.drew.alloc (.cells #[a, b, c, d] t)).cell? ⟨w3.heap.size, 0, none⟩ = some a := fun a b c d t => cell_four w3.drew a b c d t 0 a rfl
          have ff0 : ∀ (m : Nat) (a b c d : Value) (t : TypeId), ((w3.drewN m).alloc (.cells #[a, b, c, d] t)).frozen? ⟨w3.heap.size, 0, none⟩ = false := fun m a b c d t => frozen_new (w3.drewN m) a b c d t 0
          have fg0 : ∀ (a b c d : Value) (t : TypeId), (w3.drew.alloc (.cells #[a, b, c, d] t)).frozen? ⟨w3.heap.size, 0, none⟩ = false := fun a b c d t => frozen_new w3.drew a b c d t 0
          have fa1 : ∀ (m : Nat) (a b c d : Value) (t : TypeId), ((w3.drewN m).alloc (.cells #[a, b, c, d] t)).cell? ⟨w3.heap.size, 1, none⟩ = some b := fun m a b c d t => cell_four (w3.drewN m) a b c d t 1 b rfl
          have fb1 : ∀ (a b c d : Value) (t : TypeId), (w3.drew.alloc (.cells #[a, b, c, d] t)).cell? ⟨w3.heap.size, 1, none⟩ = some b := fun a b c d t => cell_four w3.drew a b c d t 1 b rfl
          have ff1 : ∀ (m : Nat) (a b c d : Value) (t : TypeId), ((w3.drewN m).alloc (.cells #[a, b, c, d] t)).frozen? ⟨w3.heap.size, 1, none⟩ = false := fun m a b c d t => frozen_new (w3.drewN m) a b c d t 1
          have fg1 : ∀ (a b c d : Value) (t : TypeId), (w3.drew.alloc (.cells #[a, b, c, d] t)).frozen? ⟨w3.heap.size, 1, none⟩ = false := fun a b c d t => frozen_new w3.drew a b c d t 1
          have fa2 : ∀ (m : Nat) (a b c d : Value) (t : TypeId), ((w3.drewN m).alloc (.cells #[a, b, c, d] t)).cell? ⟨w3.heap.size, 2, none⟩ = some c := fun m a b c d t => cell_four (w3.drewN m) a b c d t 2 c rfl
          have fb2 : ∀ (a b c d : Value) (t : TypeId), (w3.drew.alloc (.cells #[a, b, c, d] t)).cell? ⟨w3.heap.size, 2, none⟩ = some c := fun a b c d t => cell_four w3.drew a b c d t 2 c rfl
          have ff2 : ∀ (m : Nat) (a b c d : Value) (t : TypeId), ((w3.drewN m).alloc (.cells #[a, b, c, d] t)).frozen? ⟨w3.heap.size, 2, none⟩ = false := fun m a b c d t => frozen_new (w3.drewN m) a b c d t 2
          have fg2 : ∀ (a b c d : Value) (t : TypeId), (w3.drew.alloc (.cells #[a, b, c, d] t)).frozen? ⟨w3.heap.size, 2, none⟩ = false := fun a b c d t => frozen_new w3.drew a b c d t 2
          have fa3 : ∀ (m : Nat) (a b c d : Value) (t : TypeId), ((w3.drewN m).alloc (.cells #[a, b, c, d] t)).cell? ⟨w3.heap.size, 3, none⟩ = some d := fun m a b c d t => cell_four (w3.drewN m) a b c d t 3 d rfl
          have fb3 : ∀ (a b c d : Value) (t : TypeId), (w3.drew.alloc (.cells #[a, b, c, d] t)).cell? ⟨w3.heap.size, 3, none⟩ = some d := fun a b c d t => cell_four w3.drew a b c d t 3 d rfl
          have ff3 : ∀ (m : Nat) (a b c d : Value) (t : TypeId), ((w3.drewN m).alloc (.cells #[a, b, c, d] t)).frozen? ⟨w3.heap.size, 3, none⟩ = false := fun m a b c d t => frozen_new (w3.drewN m) a b c d t 3
          have fg3 : ∀ (a b c d : Value) (t : TypeId), (w3.drew.alloc (.cells #[a, b, c, d] t)).frozen? ⟨w3.heap.size, 3, none⟩ = false := fun a b c d t => frozen_new w3.drew a b c d t 3
          have wx0 : IntKind.i64.wrap x0 = x0 := by rw [IntKind.wrap_i64]; omega
          have wx9 : IntKind.i64.wrap x9 = x9 := by rw [IntKind.wrap_i64]; omega
          have HK : Hid (Kd w3 b o2 (fun j => B (k * 12 + j)) w3) := ⟨HBY3.out, Below.refl _ _⟩
          have HS0 : Hid (w3.cell? ⟨b, o2, none⟩ = some (.int .u8 x0) ∧ w3.cell? ⟨b, o2 + 9, none⟩ = some (.int .u8 x9) ∧ Hid (Kd w3 b o2 (fun j => B (k * 12 + j)) w3)) := ⟨c0, c9, HK⟩
          go_cut [8] from 13 to 69 (fun s8 wx => s8 = .pointer (some ⟨w3.heap.size, 0, none⟩) ∧ wx.cell? ⟨w3.heap.size, 0, none⟩ = some (.int .i64 x0) ∧ wx.cell? ⟨w3.heap.size, 1, none⟩ = some (.int .i64 f1) ∧ wx.cell? ⟨w3.heap.size, 2, none⟩ = some (.int .i64 f5) ∧ wx.cell? ⟨w3.heap.size, 3, none⟩ = some (.int .i64 x9) ∧ Hid (Below w3.heap.size w3 wx))
          case first =>
            clear c0 c9 HBY3
            go_region_held3 (fun W => W.cell? ⟨b, o2, none⟩ = some (.int .u8 x0) ∧ W.cell? ⟨b, o2 + 9, none⟩ = some (.int .u8 x9) ∧ Hid (Kd w3 b o2 (fun j => B (k * 12 + j)) W)) (first | (with_reducible assumption) | (with_reducible exact (Ks_drew HS0.out)) | (with_reducible exact (Ks_drewN HS0.out _)) | (with_reducible exact (Ks_alloc (Ks_drew HS0.out) _)) | (with_reducible exact (Ks_alloc (Ks_drewN HS0.out _) _)) | (with_reducible exact (Ks_drewN (Ks_alloc (Ks_drew HS0.out) _) _)) | (with_reducible exact (Ks_drewN (Ks_alloc (Ks_drewN HS0.out _) _) _)) | (with_reducible exact (Ks_drew (Ks_alloc HS0.out _))) | (with_reducible exact (Ks_drewN (Ks_alloc HS0.out _) _)) | (with_reducible exact (Ks_set (Ks_set (Ks_set (Ks_set (Ks_alloc (Ks_drew HS0.out) _) _ _ _ hblt (Nat.le_refl _)) _ _ _ hblt (Nat.le_refl _)) _ _ _ hblt (Nat.le_refl _)) _ _ _ hblt (Nat.le_refl _))) | (with_reducible exact (Ks_set (Ks_set (Ks_set (Ks_set (Ks_alloc (Ks_drewN HS0.out _) _) _ _ _ hblt (Nat.le_refl _)) _ _ _ hblt (Nat.le_refl _)) _ _ _ hblt (Nat.le_refl _)) _ _ _ hblt (Nat.le_refl _))) | (with_reducible exact (Ks_set (Ks_set (Ks_set (Ks_set (Ks_drewN (Ks_alloc (Ks_drew HS0.out) _) _) _ _ _ hblt (Nat.le_refl _)) _ _ _ hblt (Nat.le_refl _)) _ _ _ hblt (Nat.le_refl _)) _ _ _ hblt (Nat.le_refl _))) | (with_reducible exact (Ks_set (Ks_set (Ks_set (Ks_set (Ks_drewN (Ks_alloc (Ks_drewN HS0.out _) _) _) _ _ _ hblt (Nat.le_refl _)) _ _ _ hblt (Nat.le_refl _)) _ _ _ hblt (Nat.le_refl _)) _ _ _ hblt (Nat.le_refl _))) | (with_reducible exact (Ks_set (Ks_set (Ks_set (Ks_set (Ks_drew (Ks_alloc HS0.out _)) _ _ _ hblt (Nat.le_refl _)) _ _ _ hblt (Nat.le_refl _)) _ _ _ hblt (Nat.le_refl _)) _ _ _ hblt (Nat.le_refl _))) | (with_reducible exact (Ks_set (Ks_set (Ks_set (Ks_set (Ks_drewN (Ks_alloc HS0.out _) _) _ _ _ hblt (Nat.le_refl _)) _ _ _ hblt (Nat.le_refl _)) _ _ _ hblt (Nat.le_refl _)) _ _ _ hblt (Nat.le_refl _))) | fail) (first | (go_at_call_has 44 (Value.slice (some ⟨b, o2 + 1, none⟩) 4 (c2 - 1)); refine (HC1.out _ (c2 - 1) (by assumption)).mono ?_; rintro e w1 ⟨rfl, hs1, q1, rfl⟩) | (go_at_call_has 44 (Value.slice (some ⟨b, o2 + 5, none⟩) 4 (c2 - 5)); refine (HC5.out _ (c2 - 5) (by assumption)).mono ?_; rintro e w1 ⟨rfl, hs5, q5, rfl⟩))
            all_goals
              go_wp2_with fail
              go_meet
              rename_i hHeld
              have hq : ∀ W : World, (W.cell? ⟨w3.heap.size, 0, none⟩ = some (.int .i64 0) ∧ W.cell? ⟨w3.heap.size, 1, none⟩ = some (.int .i64 0) ∧ W.cell? ⟨w3.heap.size, 2, none⟩ = some (.int .i64 0) ∧ W.cell? ⟨w3.heap.size, 3, none⟩ = some (.int .i64 0)) → _ := fun W h => four_set W w3.heap.size (.int .i64 x0) (.int .i64 f1) (.int .i64 f5) (.int .i64 x9) h.1 h.2.1 h.2.2.1 h.2.2.2
              refine ⟨rfl, ?_⟩
              first
                | (obtain ⟨q0, q1, q2, q3⟩ := hq ((w3.drewN _).alloc _) ⟨fa0 _ _ _ _ _ _, fa1 _ _ _ _ _ _, fa2 _ _ _ _ _ _, fa3 _ _ _ _ _ _⟩; exact ⟨q0, q1, q2, q3, hHeld.2.2.out.2⟩)
                | (obtain ⟨q0, q1, q2, q3⟩ := hq (((w3.drewN _).alloc _).drewN _) ⟨fa0 _ _ _ _ _ _, fa1 _ _ _ _ _ _, fa2 _ _ _ _ _ _, fa3 _ _ _ _ _ _⟩; exact ⟨q0, q1, q2, q3, hHeld.2.2.out.2⟩)
          case rest =>
            obtain ⟨rfl, e0, e1, e2, e3, hbx⟩ := hcut
            have HCK := Lib.hid (fun W => gck_any x0 f1 f5 x9 W)
            have hgx := Lib.hid (gotR_kept hgot3.out hbx.out)
            have hbw := Lib.hid (hb3.out.trans (hbx.out.mono hb3.out.size))
            have hltx := World.block_lt_of_cell? _ _ e0
            clear hgot3 hbx c0 c9 hs1
            generalize ckG x0 f1 f5 x9 = cd at *
            by_cases hcd : cd = 0
            · subst hcd
              have HN2 : Hid (deA B n (k + 1) = (0, 0)) := by
                show deA B n (k + 1) = _
                rw [HN.out, HEE.out]; simp [hsum]
              clear HEE HN hsum hor
              go_wp2_with (first
                | (go_at_call 19; refine (HCK.out _).mono ?_; rintro e w5 ⟨rfl, hb5⟩; have d0 : w5.cell? ⟨w3.heap.size, 0, none⟩ = some (.int .i64 x0) := (hb5.cell (p := ⟨w3.heap.size, 0, none⟩) hltx).trans e0; have d1 : w5.cell? ⟨w3.heap.size, 1, none⟩ = some (.int .i64 f1) := (hb5.cell (p := ⟨w3.heap.size, 1, none⟩) hltx).trans e1; have d2 : w5.cell? ⟨w3.heap.size, 2, none⟩ = some (.int .i64 f5) := (hb5.cell (p := ⟨w3.heap.size, 2, none⟩) hltx).trans e2; have d3 : w5.cell? ⟨w3.heap.size, 3, none⟩ = some (.int .i64 x9) := (hb5.cell (p := ⟨w3.heap.size, 3, none⟩) hltx).trans e3; have hg5 := Lib.hid (gotR_kept hgx.out hb5); have hb6 := Lib.hid (hbw.out.trans (hb5.mono hbw.out.size)); have hs6 := hb6.out.size; clear hb5 hgx hbw)
                | (at_builtin; have HA := Lib.hid (World.ownsRow.alloc hg5.out (.cells #[.int .i64 x0, .int .i64 f1, .int .i64 f5, .int .i64 x9] 23)); refine wpList_append_own _ rfl _ _ 29 rfl w.heap.size 23 i0 (.agg #[.int .i64 0, .int .i64 0, .int .i64 0, .int .i64 0]) 4 32 Tryd.underlying29 hi hz0 hz1 hz2 rfl (by decide) v k _ rfl HA.out ⟨w5.heap.size, 0, none⟩ 1 1 [.int .i64 x0, .int .i64 f1, .int .i64 f5, .int .i64 x9] rfl rfl (cell_four _ _ _ _ _ _) (by intro u hu; simp at hu; rcases hu with rfl | rfl | rfl | rfl <;> rfl) (by unfold maxLen; omega) (by omega) (by simp; omega) ?_; intro v' w9 hown' hgrow hnil; have H9 := Lib.hid (gotR_next hown'); have hb9 := Lib.hid (below_own (hb6.out.alloc hs6 _) (Nat.le_refl _) hgrow (fun j hj => gotR_block hg5.out j hj)); clear hown' hgrow hnil HA hg5 hb6))
              go_roundw
              case rel => exact ⟨k + 1, _, rfl, by omega, by go_num, HN2, gotR_congr H9.out (fun i hi j hj => by
                by_cases e : i = k
                · subst e; rw [updR_same, HRR.out]
                · rw [updR_other _ _ e]), hb9⟩
              case measure => simp [intOf]; omega
            · have HR : Hid (deX B n = (cd, (k : Int) * 12)) := by
                have e2 : deA B n (k + 1) = (cd, (k : Int) * 12) := by rw [HN.out, HEE.out]; simp [hsum, hcd]
                show deX B n = _
                rw [HXX.out, ← e2]
                exact deA_stick B n (k + 1) (by rw [e2]; exact hcd) _ (by omega)
              have hcn : (cd != 0) = true := by simpa using hcd
              have HCD := Lib.hid hcd
              clear HEE HN hsum hor hcd
              go_wp2_with (go_at_call 19; refine (HCK.out _).mono ?_; rintro e w5 ⟨rfl, hb5⟩)
              go_ret3
              refine ⟨.slice none 0 0, by rw [HR.out]; rfl, ?_, hbw.out.trans (hb5.mono hbw.out.size)⟩
              unfold deN
              rw [HR.out, if_neg HCD.out]
              exact gotR_nil _ _ _
        · have hs1 : (sm != bits BinOp.or IntKind.i64 (x10 * 256) x11) = true := by rw [hor]; simpa using hsum
          have HR : Hid (deX B n = (8, (k : Int) * 12)) := by
            have e : deE B n k = 8 := by rw [HEE.out, if_pos hsum]
            have e2 : deA B n (k + 1) = (8, (k : Int) * 12) := by rw [HN.out, e]; rfl
            show deX B n = _
            rw [HXX.out, ← e2]
            exact deA_stick B n (k + 1) (by rw [e2]; simp) _ (by omega)
          clear HEE hsum
          go_quiet (refine Calls.quiet_of_same ((HSM.out _ _).mono fun e w' h => ⟨h.1, h.2.symm⟩))
          go_wp2
          go_ret3
          refine ⟨.slice none 0 0, by rw [HR.out]; rfl, ?_, below_drewN hb.out _⟩
          unfold deN
          rw [HR.out]
          exact gotR_nil _ _ _
    · obtain rfl : k = (n + 11) / 12 := by omega
      have h12 := de_whole B n hde.out
      have HR : Hid (deX B n = (0, 0)) := by show deX B n = _; rw [HXX.out]; exact hde.out
      have hni2 : ¬ (((n + 11) / 12 : Nat) : Int) * 12 < (n : Int) := by omega
      go_wp2
      go_ret3
      refine ⟨v, by rw [HR.out]; rfl, ?_, hb.out⟩
      unfold deN
      rw [HR.out, if_pos rfl, ← h12]
      exact hgot.out
end Go.Proofs.YtlelcooomfcbaaaDoor.Gg

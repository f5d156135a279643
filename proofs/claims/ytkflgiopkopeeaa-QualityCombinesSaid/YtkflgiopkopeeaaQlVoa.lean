/-
  The contract of verdictsOfAll: the verdicts of each gauge.
-/
import Derived.Test.YtkflgiopkopeeaaQlVos
namespace Go.Proofs.Ytkflgiopkopeeaa.Ql
open Go.ChangeShapes Go.WideShapes Go.ChangeAt Go.RowKit
open Go.Proofs.Ytkflgiopkopeeaa.Ca (inB inB_yes inB_no Rd)
open Go.Proofs.Ytkflgiopkopeeaa.Cu (updF updF_same updF_other)
open Go.Proofs.Ytkflgiopkopeeaa.Gg (RdR Rs)
set_option linter.unusedVariables false

theorem Try.infoV : (Try.prog.info? 26).map (fun i => (i.zero, i.size, i.bytes)) = some (some (.slice none 0 0), 1, 24) := by kernel_rfl
/-- The first code that is no OK, gauge by gauge. -/
def vaE (K : Nat → Nat → Int) (RR : Nat → Nat → Nat → Int) (Ln : Nat → Nat) : Nat → Int
  | 0 => 0
  | k + 1 => if vaE K RR Ln k = 0 then vdE (K k 0) (K k 1) (K k 2) (K k 3) (RR k) (Ln k) else vaE K RR Ln k
theorem va_stop {K : Nat → Nat → Int} {RR : Nat → Nat → Nat → Int} {Ln : Nat → Nat} {k : Nat} (h : vaE K RR Ln k ≠ 0) : ∀ m, k ≤ m → vaE K RR Ln m = vaE K RR Ln k
  | 0, hm => by obtain rfl : k = 0 := by omega
                rfl
  | m + 1, hm => by
    by_cases e : k = m + 1
    · subst e; rfl
    · have ih := va_stop h m (by omega)
      show (if _ then _ else _) = _
      rw [if_neg (by rw [ih]; exact h), ih]
def upV {α : Type} (f : Nat → α) (k : Nat) (x : α) (i : Nat) : α := if i = k then x else f i
/-- What the loop holds: the list of lists. -/
structure Vh (w : World) (gp m k : Nat) (Q : Nat → Option Addr) (N C : Nat → Nat) (F : Nat → Nat → Int) (W : World) : Prop where
  own : ∀ i, i < m → W.cell? ⟨gp, i, none⟩ = some (.slice (Q i) (N i) (C i)) ∧ W.frozen? ⟨gp, i, none⟩ = false
  rd : ∀ i, i < k → Rd W (Q i) (N i) (F i)
  up : ∀ i b off, Q i = some ⟨b, off, none⟩ → gp < b
  lp : gp < W.heap.size
  bp : w.heap.size ≤ gp
  bel : Below w.heap.size w W
theorem Vh.next {w : World} {gp m k : Nat} {Q : Nat → Option Addr} {N C : Nat → Nat} {F : Nat → Nat → Int} {W W' : World} (h : Vh w gp m k Q N C F W) (hb : Below W.heap.size W W') : Vh w gp m k Q N C F W' where
  own := fun i hi => ⟨(hb.cell (p := ⟨gp, i, none⟩) h.lp).trans (h.own i hi).1, (hb.frozen (p := ⟨gp, i, none⟩) h.lp).trans (h.own i hi).2⟩
  rd := fun i hi => RdV.below (C := iC (F i)) (h.rd i hi) hb (Nat.le_refl _)
  up := h.up
  lp := Nat.lt_of_lt_of_le h.lp hb.size
  bp := h.bp
  bel := h.bel.trans (hb.mono h.bel.size)
theorem Vh.store {w : World} {gp m k : Nat} {Q : Nat → Option Addr} {N C : Nat → Nat} {F : Nat → Nat → Int} {W : World} (h : Vh w gp m k Q N C F W) (hk : k < m) {q : Option Addr} {n c : Nat} (hr : Rd W q n (F k)) (hq : ∀ b off, q = some ⟨b, off, none⟩ → gp < b) : Vh w gp m (k + 1) (upV Q k q) (upV N k n) (upV C k c) F (W.setCell ⟨gp, k, none⟩ (.slice q n c)) := by
  have keep : ∀ {p : Option Addr} {l : Nat} {z : Nat → Int}, Rd W p l z → (∀ b off, p = some ⟨b, off, none⟩ → gp < b) → Rd (W.setCell ⟨gp, k, none⟩ (.slice q n c)) p l z := fun {p l z} hr hp hn => by
    obtain ⟨b, off, rfl, hlt, hc⟩ := hr hn
    have := hp b off rfl
    exact ⟨b, off, rfl, by simpa using hlt, fun i hi => (World.cell?_setCell_other _ _ _ _ (by intro e; simp only [Addr.mk.injEq] at e; omega)).trans (hc i hi)⟩
  refine ⟨fun i hi => ⟨?_, by simpa using (h.own i hi).2⟩, fun i hi => ?_, fun i b off e => ?_, by simpa using h.lp, h.bp, h.bel.setCell (p := ⟨gp, k, none⟩) h.bp _⟩
  · unfold upV
    by_cases e : i = k
    · subst e
      rw [if_pos rfl, if_pos rfl, if_pos rfl]
      exact World.cell?_setCell_same _ _ _ (h.own i hi).1
    · rw [if_neg e, if_neg e, if_neg e]
      exact (World.cell?_setCell_other _ _ _ _ (by intro e; simp only [Addr.mk.injEq] at e; omega)).trans (h.own i hi).1
  · unfold upV
    by_cases e : i = k
    · subst e; rw [if_pos rfl, if_pos rfl]; exact keep hr hq
    · rw [if_neg e, if_neg e]; exact keep (h.rd i (by omega)) (fun b off => h.up i b off)
  · unfold upV at e
    by_cases e2 : i = k
    · rw [if_pos e2] at e; exact hq b off e
    · rw [if_neg e2] at e; exact h.up i b off e
/-- What verdictsOfAll returns. -/
def VaP (K : Nat → Nat → Int) (RR : Nat → Nat → Nat → Int) (Ln : Nat → Nat) (m : Nat) (w : World) (e : Ending) (w' : World) : Prop :=
  ∃ q c Q N C, e = .returned (.tuple #[.slice q c c, .int .i64 (vaE K RR Ln m)]) ∧ (vaE K RR Ln m = 0 → c = m ∧ LV w' q m Q N C (fun i => vrI (K i 0) (K i 1) (K i 2) (K i 3) (RR i)) ∧ ∀ i, i < m → N i = Ln i) ∧ Below w.heap.size w w'
set_option maxRecDepth 100000 in
set_option maxHeartbeats 4000000 in
theorem voa_any (p q : Option Addr) (m c d : Nat) (P : Nat → Option Addr) (Ln Cp : Nat → Nat) (RR : Nat → Nat → Nat → Int) (K : Nat → Nat → Int) (w : World) (h : LL w p m P Ln Cp RR) (hk : RdR w q m K) (hm : m ≤ 1000000) (hl : ∀ i, i < m → Ln i ≤ 17592186044416) :
    Calls Try.prog 50 #[.slice q m d, .slice p m c] w (VaP K RR Ln m w) := by
  have HL := Lib.hid h
  have HK := Lib.hid hk
  have HLN := Lib.hid hl
  have hmi : (m : Int) ≤ 1000000 := by omega
  have hmk1 : ∀ W : World, (Instr.makeSlice 80 (.int .i64 (m : Int)) (.int .i64 (m : Int))).run Try.prog W = .ok (.slice (some ⟨W.heap.size, 0, none⟩) m m) (W.alloc (.cells (madeCells #[.slice none 0 0] m) 26)) := fun W => run_make_row' 80 26 (.slice none 0 0) 24 Try.underlying80 Try.infoV rfl .i64 .i64 m (by omega) (by omega) W
  have HV0 : Hid (Vh w w.heap.size m 0 (fun _ => none) (fun _ => 0) (fun _ => 0) (fun i => vrI (K i 0) (K i 1) (K i 2) (K i 3) (RR i)) (w.alloc (.cells (madeCells #[.slice none 0 0] m) 26))) := ⟨fun i hi => ⟨by simp [mk_get _ _ _ hi], by simp⟩, fun i hi => absurd hi (Nat.not_lt_zero _), (fun i b off e => by cases e), by simp, Nat.le_refl _, (Below.refl _ _).alloc (Nat.le_refl _) _⟩
  clear h hk hl
  go_enter Try.func50, Try.ntmps50
  go_wp2
  go_loopw [16] (fun y wr => ∃ (k : Nat) (Q : Nat → Option Addr) (N C : Nat → Nat), y = .int .i64 k ∧ k ≤ m ∧ Hid (Vh w w.heap.size m k Q N C (fun i => vrI (K i 0) (K i 1) (K i 2) (K i 3) (RR i)) wr) ∧ Hid (vaE K RR Ln k = 0) ∧ Hid (∀ i, i < k → N i = Ln i)) (fun y _ => m - (intOf y).toNat)
  case atStart => exact ⟨0, _, _, _, rfl, Nat.zero_le _, HV0, rfl, fun i hi => absurd hi (Nat.not_lt_zero _)⟩
  case round =>
    obtain ⟨k, Q, N, C, rfl, hkm, hvh, he0, hnl⟩ := hrel
    clear HV0 hmk1
    by_cases hlt : k < m
    · have hki : (k : Int) < (m : Int) := by omega
      have hll := HL.out.below hvh.out.bel (Nat.le_refl _)
      have hkk := HK.out.below hvh.out.bel (Nat.le_refl _)
      obtain ⟨b1, o1, rfl, l1, d1⟩ := hll.c (by omega)
      obtain ⟨b2, o2, rfl, hrs⟩ := hkk (by omega)
      obtain ⟨x0, x1, x2, x3⟩ := hrs.cells k hlt
      have e1 := d1 k hlt
      have HPV := Lib.hid (pvd_any (K k 0) (K k 1) (K k 2) (K k 3) (P k) (Ln k) (Cp k) (RR k) wr (hll.r k hlt) (HLN.out k hlt))
      have HEN : Hid (vaE K RR Ln (k + 1) = vdE (K k 0) (K k 1) (K k 2) (K k 3) (RR k) (Ln k)) := if_pos he0.out
      have HNN : Hid (vdE (K k 0) (K k 1) (K k 2) (K k 3) (RR k) (Ln k) = 0 → vdN (K k 0) (K k 1) (K k 2) (K k 3) (RR k) (Ln k) = Ln k) := fun h => by unfold vdN; rw [if_pos h]
      have HFF : Hid (vrI (K k 0) (K k 1) (K k 2) (K k 3) (RR k) = (fun i => vrI (K i 0) (K i 1) (K i 2) (K i 3) (RR i)) k) := rfl
      have hgs := hvh.out.lp
      clear hll hkk d1 hrs
      generalize hF : (fun i => vrI (K i 0) (K i 1) (K i 2) (K i 3) (RR i)) = F at *
      rw [HFF.out] at HPV
      generalize vdE (K k 0) (K k 1) (K k 2) (K k 3) (RR k) (Ln k) = E at *
      generalize vdN (K k 0) (K k 1) (K k 2) (K k 3) (RR k) (Ln k) = NN at *
      generalize K k 0 = y0 at *
      generalize K k 1 = y1 at *
      generalize K k 2 = y2 at *
      generalize K k 3 = y3 at *
      by_cases hE : E = 0
      · subst hE
        go_wp2_with (go_at_call 15; refine HPV.out.mono ?_; rintro e w5 ⟨p5, c5, rfl, hr5, hq5, hb5⟩; have H5 := Lib.hid (hvh.out.next hb5); obtain ⟨a5, f5⟩ := H5.out.own k hlt; have HS := Lib.hid (H5.out.store (c := c5) hlt hr5 (fun b off e => Nat.lt_of_lt_of_le hgs (hq5 b off e))); clear hr5 hq5 hb5)
        have HNL : Hid (∀ i, i < k + 1 → upV N k NN i = Ln i) := fun i hi => by
          unfold upV
          by_cases e : i = k
          · rw [if_pos e, (show NN = Ln k by first | exact HNN.out rfl | exact HNN.out trivial), e]
          · rw [if_neg e]; exact hnl.out i (by omega)
        refine ⟨⟨k + 1, _, _, _, by go_num, by omega, HS, HEN, HNL⟩, ?_⟩
        simp [intOf]
        omega
      · have hE2 : (E != 0) = true := by simp [hE]
        go_wp2_with (go_at_call 15; refine HPV.out.mono ?_; rintro e w5 ⟨p5, c5, rfl, hr5, hq5, hb5⟩; have H5 := Lib.hid (hvh.out.next hb5); clear hr5 hq5 hb5)
        have HE : Hid (vaE K RR Ln m = E) := (va_stop (fun h => hE (HEN.out.symm.trans h)) m (by omega)).trans HEN.out
        go_ret2
        exact ⟨none, 0, Q, N, C, by rw [HE.out]; rfl, fun h => absurd (HE.out.symm.trans h) hE, H5.out.bel⟩
    · obtain rfl : k = m := by omega
      go_wp2
      go_ret2
      exact ⟨some ⟨w.heap.size, 0, none⟩, k, Q, N, C, by rw [he0.out]; rfl, fun _ => ⟨rfl, ⟨fun hn => ⟨w.heap.size, 0, rfl, hvh.out.lp, fun i hi => by rw [Nat.zero_add]; exact (hvh.out.own i hi).1⟩, hvh.out.rd⟩, hnl.out⟩, hvh.out.bel⟩
end Go.Proofs.Ytkflgiopkopeeaa.Ql

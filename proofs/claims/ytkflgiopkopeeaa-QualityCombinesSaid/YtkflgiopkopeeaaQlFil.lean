/-
  The contracts of setAll, drawLine and Fill of package quality.
-/
import Derived.Test.YtkflgiopkopeeaaQlFns
import Derived.Test.YtkflgiopkopeeaaQlLay
import Derived.Lib.OwnBridge
import Derived.Sort.AtCall
namespace Go.Proofs.Ytkflgiopkopeeaa.Ql
open Go.ChangeShapes Go.WideShapes Go.ChangeAt Go.RowKit Go.Shelf
open Go.Proofs.Ytkflgiopkopeeaa.Ca (inB inB_yes inB_no Rd)
open Go.Proofs.Ytkflgiopkopeeaa.Cu (grown_trans grown_refl updF updF_same updF_other)
set_option linter.unusedVariables false

/-- A row of n integers that may be written. -/
structure Cz (w : World) (g n : Nat) (F : Nat → Int) : Prop where
  lt : g < w.heap.size
  c : ∀ i, i < n → w.cell? ⟨g, i, none⟩ = some (.int .i64 (F i)) ∧ w.frozen? ⟨g, i, none⟩ = false
theorem Cz.congr {w : World} {g n : Nat} {F F' : Nat → Int} (h : Cz w g n F) (e : ∀ i, i < n → F i = F' i) : Cz w g n F' := ⟨h.lt, fun i hi => by rw [← e i hi]; exact h.c i hi⟩
theorem Cz.drewN {w : World} {g n : Nat} {F : Nat → Int} (h : Cz w g n F) (q : Nat) : Cz (w.drewN q) g n F := ⟨h.lt, h.c⟩
theorem Cz.set {w : World} {g n : Nat} {F : Nat → Int} (h : Cz w g n F) (k : Nat) (x : Int) (hk : k < n) : Cz (w.setCell ⟨g, k, none⟩ (.int .i64 x)) g n (updF F k x) where
  lt := by simpa using h.lt
  c := fun i hi => by
    obtain ⟨a, b⟩ := h.c i hi
    refine ⟨?_, by simpa using b⟩
    by_cases e : i = k
    · subst e
      rw [updF_same]
      exact World.cell?_setCell_same _ _ _ a
    · rw [updF_other _ _ e]
      exact (World.cell?_setCell_other _ _ _ _ (by intro e2; simp only [Addr.mk.injEq] at e2; omega)).trans a
theorem set_grownZ (w : World) (g k : Nat) (u : Value) : w.grownBy (w.setCell ⟨g, k, none⟩ u) (some g) :=
  ⟨rfl, rfl, rfl, by simp [World.setCell], fun j hj hne => (Below.heap_setCell _ _ _ _ (by intro e; apply hne; rw [e]))⟩
theorem drewN_grownZ (w : World) (g q : Nat) : w.grownBy (w.drewN q) (some g) := ⟨rfl, rfl, rfl, Nat.le_refl _, fun _ _ _ => rfl⟩
def CzP (w : World) (g n : Nat) (F : Nat → Int) (e : Ending) (w' : World) : Prop := e = .returned (.tuple #[]) ∧ Cz w' g n F ∧ w.grownBy w' (some g)
/-- The row with x from off on, m times. -/
def allF (F : Nat → Int) (off m : Nat) (x : Int) (i : Nat) : Int := if off ≤ i ∧ i < off + m then x else F i
theorem allF_step (F : Nat → Int) (off k : Nat) (x : Int) (i : Nat) : updF (allF F off k x) (off + k) x i = allF F off (k + 1) x i := by
  unfold updF allF
  by_cases e : i = off + k
  · subst e; rw [if_pos rfl, if_pos (by omega)]
  · rw [if_neg e]
    by_cases h : off ≤ i ∧ i < off + k
    · rw [if_pos h, if_pos (by omega)]
    · rw [if_neg h, if_neg (by omega)]
set_option maxHeartbeats 1000000 in
theorem seta_any (g off m c n : Nat) (x : Int) (F : Nat → Int) (w : World) (hc : Cz w g n F) (hm : off + m ≤ n) (hn : n ≤ 1000) :
    Calls Try.prog 44 #[.slice (some ⟨g, off, none⟩) m c, .int .i64 x] w (CzP w g n (allF F off m x)) := by
  have HC := Lib.hid hc
  clear hc
  go_enter Try.func44, Try.ntmps44
  go_wp2
  go_loopw [7] (fun i wr => ∃ k : Nat, k ≤ m ∧ i = .int .i64 k ∧ Hid (Cz wr g n (allF F off k x)) ∧ Hid (w.grownBy wr (some g))) (fun i _ => m - (intOf i).toNat)
  case atStart => exact ⟨0, Nat.zero_le _, rfl, HC.out.congr (fun i _ => by unfold allF; rw [if_neg (by omega)]), grown_refl _ _⟩
  case round =>
    clear HC
    obtain ⟨k, hk, rfl, hz, hg⟩ := hrel
    by_cases hlt : k < m
    · obtain ⟨e1, e2⟩ := hz.out.c (off + k) (by omega)
      have hki : (k : Int) < (m : Int) := by omega
      have hk2 : (k : Int) ≤ 1000 := by omega
      go_wp2
      go_roundw
      case rel => exact ⟨k + 1, by omega, by go_num, (hz.out.set (off + k) x (by omega)).congr (fun i _ => allF_step F off k x i), grown_trans hg.out (set_grownZ _ _ _ _)⟩
      case measure => simp [intOf]; omega
    · obtain rfl : k = m := by omega
      go_wp2
      refine bodyPost_end (v := .tuple #[]) (by simp [results, Try.results44, go_sem]) rfl ?_
      exact ⟨rfl, hz.out, hg.out⟩
theorem seta_none (p : Option Addr) (c : Nat) (x : Int) (w : World) :
    Calls Try.prog 44 #[.slice p 0 c, .int .i64 x] w fun e w' => e = .returned (.tuple #[]) ∧ w = w' := by
  go_enter Try.func44, Try.ntmps44
  go_wp2
  refine wp_loop_rounds 1 ?_
  rw [rounds_succ]
  go_wp2
  refine bodyPost_end (v := .tuple #[]) (by simp [results, Try.results44, go_sem]) rfl ?_
  exact ⟨rfl, rfl⟩

/-- The row with the line from off to off + d drawn up to k steps. -/
def linF (F : Nat → Int) (off d k : Nat) (i : Nat) : Int := if off < i ∧ i < off + k then lnI (F off) (F (off + d)) ((i : Int) - off) d else F i
theorem linF_step (F : Nat → Int) (off d k : Nat) (h1 : 1 ≤ k) (i : Nat) : updF (linF F off d k) (off + k) (lnI (F off) (F (off + d)) k d) i = linF F off d (k + 1) i := by
  unfold updF linF
  by_cases e : i = off + k
  · subst e; rw [if_pos rfl, if_pos (by omega)]; congr 1; omega
  · rw [if_neg e]
    by_cases h : off < i ∧ i < off + k
    · rw [if_pos h, if_pos (by omega)]
    · rw [if_neg h, if_neg (by omega)]
theorem mul_abs {r k R K : Int} (h1 : -R ≤ r) (h2 : r ≤ R) (h3 : 0 ≤ k) (h4 : k ≤ K) (hR : 0 ≤ R) : -(R * K) ≤ r * k ∧ r * k ≤ R * K := by
  have a : R * k ≤ R * K := Int.mul_le_mul_of_nonneg_left h4 hR
  have b : r * k ≤ R * k := Int.mul_le_mul_of_nonneg_right h2 h3
  have c : (-R) * k ≤ r * k := Int.mul_le_mul_of_nonneg_right h1 h3
  rw [Int.neg_mul] at c
  omega
set_option maxHeartbeats 2000000 in
theorem draw_any (g off d c n : Nat) (F : Nat → Int) (w : World) (hc : Cz w g n F) (hm : off + d < n) (hd : 1 ≤ d) (hn : n ≤ 1000) (ha : 0 ≤ F off ∧ F off ≤ 1073741824) (hb : 0 ≤ F (off + d) ∧ F (off + d) ≤ 1073741824) :
    Calls Try.prog 45 #[.slice (some ⟨g, off, none⟩) (d + 1) c] w (CzP w g n (linF F off d d)) := by
  have HC := Lib.hid hc
  obtain ⟨a1, a2⟩ := hc.c off (by omega)
  obtain ⟨b1, b2⟩ := hc.c (off + d) hm
  clear hc
  have hdi : (1 : Int) ≤ (d : Int) := by omega
  have hdi2 : (d : Int) ≤ 1000 := by omega
  have HL : Hid (∀ k : Nat, 1 ≤ k → k < d → F off + (F (off + d) - F off) * (k : Int) / (d : Int) = lnI (F off) (F (off + d)) k d) := fun k _ _ => rfl
  have HB : Hid (∀ k : Nat, 1 ≤ k → k < d → min (F off) (F (off + d)) ≤ F off + (F (off + d) - F off) * (k : Int) / (d : Int) ∧ F off + (F (off + d) - F off) * (k : Int) / (d : Int) ≤ max (F off) (F (off + d))) := fun k h1 h2 => ln_bd _ _ _ _ (by omega) (by omega) (by omega)
  have HS := Lib.hid (linF_step F off d)
  have HX : Hid (Cz w g n (linF F off d 1)) := HC.out.congr (fun i _ => by unfold linF; rw [if_neg (by omega)])
  generalize hfa : F off = fa at *
  generalize hfb : F (off + d) = fb at *
  clear hfa hfb HC
  have hw1 : IntKind.i64.wrap (fb - fa) = fb - fa := by rw [IntKind.wrap_i64]; omega
  go_enter Try.func45, Try.ntmps45
  go_wp2
  go_quiet (fail)
  go_wp2
  go_loopw [5] (fun i wr => ∃ k : Nat, 1 ≤ k ∧ k ≤ d ∧ i = .int .i64 k ∧ Hid (Cz wr g n (linF F off d k)) ∧ Hid (w.grownBy wr (some g))) (fun i _ => d - (intOf i).toNat)
  case atStart => exact ⟨1, Nat.le_refl _, hd, rfl, HX.out.drewN _, drewN_grownZ _ _ _⟩
  case round =>
    clear HX
    obtain ⟨k, hk1, hk, rfl, hz, hg⟩ := hrel
    by_cases hlt : k < d
    · obtain ⟨e1, e2⟩ := hz.out.c (off + k) (by omega)
      have hki : (k : Int) < (d : Int) := by omega
      have hk2 : (k : Int) < ((d + 1 : Nat) : Int) := by omega
      have hk3 : (1 : Int) ≤ (k : Int) := by omega
      obtain ⟨m1, m2⟩ := mul_abs (r := fb - fa) (k := (k : Int)) (R := 1073741824) (K := 1000) (by omega) (by omega) (by omega) (by omega) (by omega)
      obtain ⟨q1, q2⟩ := HB.out k hk1 hlt
      have q3 : 0 ≤ fa + (fb - fa) * (k : Int) / (d : Int) := by omega
      have q4 : fa + (fb - fa) * (k : Int) / (d : Int) ≤ 1073741824 := by omega
      have HF := Lib.hid (fun W => flo_any ((fb - fa) * (k : Int)) (d : Int) W (by omega) (by omega))
      have HE := Lib.hid (HL.out k hk1 hlt)
      clear q1 q2
      go_wp2_with (go_at_call 48; refine (HF.out _).mono ?_; rintro e w' ⟨rfl, rfl⟩)
      go_roundw
      case rel => exact ⟨k + 1, by omega, by omega, by go_num, (hz.out.set (off + k) (fa + (fb - fa) * (k : Int) / (d : Int)) (by omega)).congr (fun i _ => by rw [HE.out]; exact HS.out k hk1 i), grown_trans hg.out (set_grownZ _ _ _ _)⟩
      case measure => simp [intOf]; omega
    · obtain rfl : k = d := by omega
      go_wp2
      refine bodyPost_end (v := .tuple #[]) (by simp [results, Try.results45, go_sem]) rfl ?_
      exact ⟨rfl, hz.out, hg.out⟩
end Go.Proofs.Ytkflgiopkopeeaa.Ql

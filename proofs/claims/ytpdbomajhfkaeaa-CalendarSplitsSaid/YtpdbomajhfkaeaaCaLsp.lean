/-
  The walk of the law CalendarSplits.
-/
import Derived.Test.YtpdbomajhfkaeaaCaMa
import Derived.Deep.RegionHeld3
import Derived.Sort.AtCall
namespace Go.Proofs.Ytpdbomajhfkaeaa.Ca
open Go.ChangeShapes Go.WideShapes Go.ChangeAt Go.RowKit
set_option linter.unusedVariables false

/-- One box, and what was there stays. -/
abbrev S1 (w0 : World) (k : Nat) (a b : Int) (W : World) : Prop := W.cell? ⟨k, 0, none⟩ = some (.int .i64 a) ∧ W.cell? ⟨k, 1, none⟩ = some (.int .i64 b) ∧ Hid (Below w0.heap.size w0 W)
theorem S1.step {w0 : World} {k : Nat} {a b : Int} {W W' : World} (h : S1 w0 k a b W) (hb : Below W.heap.size W W') : S1 w0 k a b W' := by
  have hx := (Bx2.mk h.1 h.2.1).up hb
  exact ⟨hx.c0, hx.c1, h.2.2.out.trans (hb.mono h.2.2.out.size)⟩
/-- Two boxes. -/
abbrev S2 (w0 : World) (k : Nat) (a b : Int) (j : Nat) (c d : Int) (W : World) : Prop := W.cell? ⟨k, 0, none⟩ = some (.int .i64 a) ∧ W.cell? ⟨k, 1, none⟩ = some (.int .i64 b) ∧ W.cell? ⟨j, 0, none⟩ = some (.int .i64 c) ∧ W.cell? ⟨j, 1, none⟩ = some (.int .i64 d) ∧ Hid (Below w0.heap.size w0 W)
theorem S2.step {w0 : World} {k : Nat} {a b : Int} {j : Nat} {c d : Int} {W W' : World} (h : S2 w0 k a b j c d W) (hb : Below W.heap.size W W') : S2 w0 k a b j c d W' := by
  have hx := (Bx2.mk h.1 h.2.1).up hb
  have hy := (Bx2.mk h.2.2.1 h.2.2.2.1).up hb
  exact ⟨hx.c0, hx.c1, hy.c0, hy.c1, h.2.2.2.2.out.trans (hb.mono h.2.2.2.2.out.size)⟩

set_option maxRecDepth 100000 in
set_option maxHeartbeats 8000000 in
theorem lsp_walk (a b c : Int) (w : World) (ha : -9223372036854775808 ≤ a ∧ a ≤ 9223372036854775807) (hb : -9223372036854775808 ≤ b ∧ b ≤ 9223372036854775807) (hc : -9223372036854775808 ≤ c ∧ c ≤ 9223372036854775807) :
    Calls Try.prog 5 #[.int .i64 a, .int .i64 b, .int .i64 c] w fun e w' => e = .returned (.bool true) ∧ Below w.heap.size w w' := by
  have HA := Lib.hid (fun W => mod_any a 365 W ha (by omega) (by omega))
  have HB := Lib.hid (fun W => mod_any b 365 W hb (by omega) (by omega))
  have HC := Lib.hid (fun W => mod_any c 365 W hc (by omega) (by omega))
  have f1 := md_lo a 365 (by omega)
  have f2 := md_hi a 365 (by omega)
  have t1 := md_lo b 365 (by omega)
  have t2 := md_hi b 365 (by omega)
  have x1 := md_lo c 365 (by omega)
  have x2 := md_hi c 365 (by omega)
  generalize md a 365 = f at *
  generalize md b 365 = t at *
  generalize md c 365 = x at *
  clear ha hb hc
  have HN := Lib.hid (fun W => days_any f t W)
  have hle := dyN_le f t
  have hX := bx2_alloc w f t 23
  have hBel := (Below.refl w.heap.size w).alloc (Nat.le_refl _) (.cells #[.int .i64 f, .int .i64 t] 23)
  by_cases hn : dyN f t = 365
  · have HI := Lib.hid (fun W => ins_any f t x W)
    rw [full_in ⟨x1, x2⟩ hn] at HI
    rw [hn] at HN
    clear hn hle
    have HS0 : Hid (S1 w w.heap.size f t (w.alloc (.cells #[.int .i64 f, .int .i64 t] 23))) := ⟨hX.c0, hX.c1, hBel⟩
    clear hX hBel
    go_enter Try.func5, Try.ntmps5
    go_wp2_with (first
      | (go_at_call 8; first | (refine (HA.out _).mono ?_; rintro e w' ⟨rfl, rfl⟩; clear HA) | (refine (HB.out _).mono ?_; rintro e w' ⟨rfl, rfl⟩; clear HB))
      | (go_at_call 19; refine (HN.out _).mono ?_; rintro e w1 ⟨rfl, hb1⟩; have HS1 := Lib.hid (HS0.out.step hb1); have c0 := HS1.out.1; have c1 := HS1.out.2.1))
    have HS2 := Lib.hid (HS1.out.step (W' := w1.drew) ⟨rfl, rfl, rfl, Nat.le_refl _, fun _ _ => rfl⟩)
    have HIS : Hid (∀ W, S1 w w.heap.size f t W → Calls Try.prog 15 #[.agg #[.int .i64 f, .int .i64 t], .int .i64 x] W fun e w' => e = .returned (.bool true) ∧ S1 w w.heap.size f t w') := fun W h => (HI.out W).mono fun e w' ⟨he, hb⟩ => ⟨he, h.step hb⟩
    have HAS : Hid (∀ W, S1 w w.heap.size f t W → Calls Try.prog 24 #[] W fun e w' => e = .returned (.bool true) ∧ S1 w w.heap.size f t w') := fun W h => (awk_any W).mono fun e w' ⟨he, hb⟩ => ⟨he, h.step hb⟩
    clear HS1 HN hb1 HS0 HI
    go_region_held3 (fun W => W.cell? ⟨w.heap.size, 0, none⟩ = some (.int .i64 f) ∧ W.cell? ⟨w.heap.size, 1, none⟩ = some (.int .i64 t) ∧ Hid (Below w.heap.size w W)) (first | exact HS2.out | assumption | go_keep)
      (first
        | (go_at_call 8; refine (HC.out _).mono ?_; rintro e w' ⟨rfl, rfl⟩)
        | (go_at_call 15; refine (HIS.out _ (by assumption)).mono ?_; rintro e w' ⟨rfl, hS⟩)
        | (go_at_call 24; refine (HAS.out _ (by assumption)).mono ?_; rintro e w' ⟨rfl, hS⟩))
    go_wp2
    go_ret
    exact ⟨rfl, hS.2.2.out⟩
  · have hrd := rest_days ⟨f1, f2⟩ ⟨t1, t2⟩ hn
    have hrb := rest_both ⟨f1, f2⟩ ⟨t1, t2⟩ hn
    have hrn := rest_not ⟨f1, f2⟩ ⟨t1, t2⟩ ⟨x1, x2⟩ hn
    have dn : ((dyN f t : Int) == 365) = false := by simp; omega
    have HI := Lib.hid (fun W => ins_any f t x W)
    have HJ := Lib.hid (fun W => ins_any ((t + 1) % 365) ((f + 365 - 1) % 365) x W)
    have HR := Lib.hid (fun W => days_any ((t + 1) % 365) ((f + 365 - 1) % 365) W)
    have HO := Lib.hid (fun W => both_any f t ((t + 1) % 365) ((f + 365 - 1) % 365) W)
    rw [hrb] at HO
    have e1 : (insB f t x != insB ((t + 1) % 365) ((f + 365 - 1) % 365) x) = true := by rw [hrn]; cases insB ((t + 1) % 365) ((f + 365 - 1) % 365) x <;> rfl
    have e2 : ((dyN ((t + 1) % 365) ((f + 365 - 1) % 365) : Int) == 365 - (dyN f t : Int)) = true := by rw [beq_iff_eq]; omega
    have hle2 := dyN_le ((t + 1) % 365) ((f + 365 - 1) % 365)
    clear hn hrd hrb hrn
    have hn0 : (0 : Int) ≤ (dyN f t : Int) := by omega
    have hn1 : (dyN f t : Int) ≤ 365 := by omega
    generalize insB f t x = p at *
    generalize insB ((t + 1) % 365) ((f + 365 - 1) % 365) x = q at *
    generalize dyN ((t + 1) % 365) ((f + 365 - 1) % 365) = m at *
    generalize dyN f t = n at *
    have HS0 : Hid (S1 w w.heap.size f t (w.alloc (.cells #[.int .i64 f, .int .i64 t] 23))) := ⟨hX.c0, hX.c1, hBel⟩
    clear hX hBel
    go_enter Try.func5, Try.ntmps5
    go_wp2_with (first
      | (go_at_call 8; first | (refine (HA.out _).mono ?_; rintro e w' ⟨rfl, rfl⟩; clear HA) | (refine (HB.out _).mono ?_; rintro e w' ⟨rfl, rfl⟩; clear HB) | (refine (HC.out _).mono ?_; rintro e w' ⟨rfl, rfl⟩))
      | (go_at_call 19; refine (HN.out _).mono ?_; rintro e w1 ⟨rfl, hb1⟩; have HS1 := Lib.hid (HS0.out.step hb1); have c0 := HS1.out.1; have c1 := HS1.out.2.1))
    generalize (t + 1) % 365 = u at *
    generalize (f + 365 - 1) % 365 = v at *
    have hal := (Below.refl w1.heap.size w1).alloc (Nat.le_refl _) (.cells #[.int .i64 u, .int .i64 v] 23)
    have hY := bx2_alloc w1 u v 23
    have hS1 := HS1.out.step hal
    have HS2 : Hid (S2 w w.heap.size f t w1.heap.size u v (w1.alloc (.cells #[.int .i64 u, .int .i64 v] 23))) := ⟨hS1.1, hS1.2.1, hY.c0, hY.c1, hS1.2.2⟩
    have hne := World.block_lt_of_cell? _ _ c0
    clear hal hS1 hb1 c0 c1 HS1 hY HC
    generalize w1.alloc (.cells #[.int .i64 u, .int .i64 v] 23) = w2 at *
    generalize w1.heap.size = N at *
    have HS3 := Lib.hid (HS2.out.step (W' := w2.drew) ⟨rfl, rfl, rfl, Nat.le_refl _, fun _ _ => rfl⟩)
    have c0 := HS2.out.1
    have c1 := HS2.out.2.1
    have c2 := HS2.out.2.2.1
    have c3 := HS2.out.2.2.2.1
    clear HS2 HS0
    have HIS : Hid (∀ W, S2 w w.heap.size f t N u v W → Calls Try.prog 15 #[.agg #[.int .i64 f, .int .i64 t], .int .i64 x] W fun e w' => e = .returned (.bool p) ∧ S2 w w.heap.size f t N u v w') := fun W h => (HI.out W).mono fun e w' ⟨he, hb⟩ => ⟨he, h.step hb⟩
    have HJS : Hid (∀ W, S2 w w.heap.size f t N u v W → Calls Try.prog 15 #[.agg #[.int .i64 u, .int .i64 v], .int .i64 x] W fun e w' => e = .returned (.bool q) ∧ S2 w w.heap.size f t N u v w') := fun W h => (HJ.out W).mono fun e w' ⟨he, hb⟩ => ⟨he, h.step hb⟩
    have HRS : Hid (∀ W, S2 w w.heap.size f t N u v W → Calls Try.prog 19 #[.agg #[.int .i64 u, .int .i64 v]] W fun e w' => e = .returned (.int .i64 m) ∧ S2 w w.heap.size f t N u v w') := fun W h => (HR.out W).mono fun e w' ⟨he, hb⟩ => ⟨he, h.step hb⟩
    have HOS : Hid (∀ W, S2 w w.heap.size f t N u v W → Calls Try.prog 22 #[.agg #[.int .i64 f, .int .i64 t], .agg #[.int .i64 u, .int .i64 v]] W fun e w' => (∃ g cap, e = .returned (.slice g 0 cap)) ∧ S2 w w.heap.size f t N u v w') := fun W h => (HO.out W).mono fun e w' ⟨v', he, hg, hb⟩ => by
      obtain ⟨g, cap, hv, _⟩ := got_rd hg
      exact ⟨⟨g, cap, by rw [he, hv]; rfl⟩, h.step hb⟩
    have HAS : Hid (∀ W, S2 w w.heap.size f t N u v W → Calls Try.prog 24 #[] W fun e w' => e = .returned (.bool true) ∧ S2 w w.heap.size f t N u v w') := fun W h => (awk_any W).mono fun e w' ⟨he, hb⟩ => ⟨he, h.step hb⟩
    have hwr : IntKind.i64.wrap (365 - (n : Int)) = 365 - (n : Int) := by rw [IntKind.wrap_i64]; omega
    clear HI HJ HR HO HN
    have hpq : (p = true ∧ q = false) ∨ (p = false ∧ q = true) := by cases p <;> cases q <;> simp_all
    clear e1
    rcases hpq with ⟨rfl, rfl⟩ | ⟨rfl, rfl⟩
    all_goals
      go_region_held3 (fun W => W.cell? ⟨w.heap.size, 0, none⟩ = some (.int .i64 f) ∧ W.cell? ⟨w.heap.size, 1, none⟩ = some (.int .i64 t) ∧ W.cell? ⟨N, 0, none⟩ = some (.int .i64 u) ∧ W.cell? ⟨N, 1, none⟩ = some (.int .i64 v) ∧ Hid (Below w.heap.size w W)) (first | exact HS3.out | assumption | go_keep)
        (first
          | (go_at_call 15; go_at_call_has 15 (Value.int .i64 u); refine (HJS.out _ (by assumption)).mono ?_; rintro e w' ⟨rfl, hS⟩)
          | (go_at_call 15; refine (HIS.out _ (by assumption)).mono ?_; rintro e w' ⟨rfl, hS⟩)
          | (go_at_call 19; refine (HRS.out _ (by assumption)).mono ?_; rintro e w' ⟨rfl, hS⟩)
          | (go_at_call 22; refine (HOS.out _ (by assumption)).mono ?_; rintro e w' ⟨⟨g, cap, rfl⟩, hS⟩)
          | (go_at_call 24; refine (HAS.out _ (by assumption)).mono ?_; rintro e w' ⟨rfl, hS⟩))
      go_wp2
      go_ret
      exact ⟨rfl, hS.2.2.2.2.out⟩
end Go.Proofs.Ytpdbomajhfkaeaa.Ca

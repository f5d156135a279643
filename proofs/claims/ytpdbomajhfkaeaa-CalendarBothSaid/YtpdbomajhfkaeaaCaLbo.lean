/-
  The walk of the law CalendarBoth.
-/
import Derived.Test.YtpdbomajhfkaeaaCaAwk
import Derived.Test.YtpdbomajhfkaeaaCaDeck
import Derived.Deep.RegionHeld3
import Derived.Sort.AtCall
namespace Go.Proofs.Ytpdbomajhfkaeaa.Ca
open Go.ChangeShapes Go.WideShapes Go.ChangeAt Go.RowKit
set_option linter.unusedVariables false

theorem row_rd {w : World} {a : Option Addr} {len cap : Nat} {zs : List Int}
    (h : (a = none ∧ len = 0 ∧ cap = 0 ∧ zs = []) ∨ ∃ x, a = some x ∧ len ≤ cap ∧ cap ≤ maxLen ∧ zs.length = cap ∧ (∀ i, i < zs.length → w.cell? (x.add i) = some (.int .i64 (zs.getD i 0))) ∧ ∀ n ∈ zs, (Lit.int .i64 n).wf = true) :
    Rd w a len (fun i => zs.getD i 0) ∧ len ≤ 9223372036854775807 ∧ ∀ i, -9223372036854775808 ≤ zs.getD i 0 ∧ zs.getD i 0 ≤ 9223372036854775807 := by
  rcases h with ⟨rfl, rfl, rfl, rfl⟩ | ⟨x, rfl, h1, h2, h3, h4, h5⟩
  · exact ⟨fun h => absurd h (Nat.lt_irrefl _), by omega, fun i => by simp⟩
  · refine ⟨fun hn => ?_, by unfold maxLen at h2; omega, fun i => ?_⟩
    · obtain ⟨b, off, spot⟩ := x
      have hspot : spot = none := by simpa [Addr.add] using World.cell?_spot (h4 0 (by omega))
      subst hspot
      have h6 : ∀ i, i < zs.length → w.cell? ⟨b, off + i, none⟩ = some (.int .i64 (zs.getD i 0)) := fun i hi => by rw [← add_plain]; exact h4 i hi
      exact ⟨b, off, rfl, World.block_lt_of_cell? _ _ (h6 0 (by omega)), fun i hi => h6 i (by omega)⟩
    · by_cases hi : i < zs.length
      · have e : zs.getD i 0 = zs[i] := by simp [List.getD, hi]
        rw [e]
        exact wf_bd (h5 _ (List.getElem_mem _))
      · have e : zs.getD i 0 = 0 := by simp [List.getD, hi]
        rw [e]; omega

/-- Two boxes and a list. -/
abbrev S3 (w0 : World) (k : Nat) (a b : Int) (j : Nat) (c d : Int) (p : Option Addr) (N : Nat) (f : Nat → Int) (W : World) : Prop := W.cell? ⟨k, 0, none⟩ = some (.int .i64 a) ∧ W.cell? ⟨k, 1, none⟩ = some (.int .i64 b) ∧ W.cell? ⟨j, 0, none⟩ = some (.int .i64 c) ∧ W.cell? ⟨j, 1, none⟩ = some (.int .i64 d) ∧ Hid (Rd W p N f ∧ Below w0.heap.size w0 W)
theorem S3.step {w0 : World} {k : Nat} {a b : Int} {j : Nat} {c d : Int} {p : Option Addr} {N : Nat} {f : Nat → Int} {W W' : World} (h : S3 w0 k a b j c d p N f W) (hb : Below W.heap.size W W') : S3 w0 k a b j c d p N f W' := by
  have hx := (Bx2.mk h.1 h.2.1).up hb
  have hy := (Bx2.mk h.2.2.1 h.2.2.2.1).up hb
  exact ⟨hx.c0, hx.c1, hy.c0, hy.c1, h.2.2.2.2.out.1.below hb (Nat.le_refl _), h.2.2.2.2.out.2.trans (hb.mono h.2.2.2.2.out.2.size)⟩

set_option maxRecDepth 100000 in
set_option maxHeartbeats 8000000 in
theorem lbo_walk (q : Option Addr) (n c : Nat) (z : Nat → Int) (w : World) (hr : Rd w q n z) (hn : n ≤ 9223372036854775807) (hz : ∀ i, -9223372036854775808 ≤ z i ∧ z i ≤ 9223372036854775807) :
    Calls Try.prog 6 #[.slice q n c] w fun e w' => e = .returned (.bool true) ∧ Below w.heap.size w w' := by
  have HN := Lib.hid (new_any q n c z w hn hz hr)
  clear hr hn hz
  go_enter Try.func6, Try.ntmps6
  go_wp2_with (first
    | (go_at_call 25; refine HN.out.mono ?_; rintro e w1 ⟨rfl, hd1, hb1⟩)
    | (go_at_call 26; first | (refine (span_any w.heap.size q n c z _ hd1).mono ?_; rintro e w2 ⟨F, T, rfl, hd2, hg2⟩; have HB2 := Lib.hid (hb1.grown hg2 hb1.size (by intro k hk; cases hk; exact Nat.le_refl _)); clear hd1 hb1 HN hg2) | (refine (span_any w.heap.size q n c z _ hd2).mono ?_; rintro e w3 ⟨G, H, rfl, hd3, hg3⟩; have HB3 := Lib.hid (HB2.out.grown hg3 HB2.out.size (by intro k hk; cases hk; exact Nat.le_refl _)); clear hd2 hd3 HB2 hg3)))
  have HX := Lib.hid ((bx2_alloc w3 F T 23).alloc (.cells #[.int .i64 G, .int .i64 H] 23))
  have HY := Lib.hid (bx2_alloc (w3.alloc (.cells #[.int .i64 F, .int .i64 T] 23)) G H 23)
  rw [World.size_alloc] at HY
  have HB := Lib.hid ((HB3.out.alloc HB3.out.size (.cells #[.int .i64 F, .int .i64 T] 23)).alloc (by have := HB3.out.size; simp; omega) (.cells #[.int .i64 G, .int .i64 H] 23))
  clear HB3
  generalize (w3.alloc (.cells #[.int .i64 F, .int .i64 T] 23)).alloc (.cells #[.int .i64 G, .int .i64 H] 23) = w4 at *
  generalize w3.heap.size = ka at *
  refine (both_any F T G H _).mono ?_
  rintro e w5 ⟨v, rfl, hg5, hb5⟩
  obtain ⟨p, cap, rfl, hrd⟩ := got_rd hg5
  have hX5 := HX.out.up hb5
  have hY5 := HY.out.up hb5
  have HS0 : Hid (S3 w ka F T (ka + 1) G H p (bL (both F T G H) 365).length (lx (bL (both F T G H) 365)) w5) := ⟨hX5.c0, hX5.c1, hY5.c0, hY5.c1, hrd, HB.out.trans (hb5.mono HB.out.size)⟩
  clear HX HY HB hg5 hb5 hrd hX5 hY5
  have hL := bL_len (both F T G H) 365
  obtain ⟨L, hLe⟩ : ∃ L, L = bL (both F T G H) 365 := ⟨_, rfl⟩
  rw [← hLe] at HS0 hL
  have HL := Lib.hid hLe
  rw [← hLe]
  clear hLe
  go_wp2
  go_loopw [7, 8] (fun s i wr => ∃ k : Nat, k ≤ 365 ∧ i = .int .i64 k ∧ s = .int .i64 ((bL (both F T G H) k).length : Nat) ∧ Hid (S3 w ka F T (ka + 1) G H p L.length (lx L) wr)) (fun _ i _ => 365 - (intOf i).toNat)
  case atStart => exact ⟨0, by omega, rfl, rfl, HS0⟩
  case round =>
    clear HS0
    obtain ⟨k, hk, rfl, rfl, hs⟩ := hrel
    by_cases hlt : k < 365
    · have hki : (k : Int) < 365 := by omega
      have HI1 := Lib.hid (fun W => ins_any F T (k : Int) W)
      have HI2 := Lib.hid (fun W => ins_any G H (k : Int) W)
      have hl := bL_len (both F T G H) k
      obtain ⟨c0, c1, d0, d1, _⟩ := hs.out
      cases hP : insB F T (k : Int)
      · have HE := Lib.hid (bL_no (P := both F T G H) (k := k) (by show (insB F T k && insB G H k) = false; rw [hP]; rfl))
        rw [hP] at HI1
        clear hP
        go_wp2_with (go_at_call 15; refine (HI1.out _).mono ?_; rintro e w6 ⟨rfl, hb6⟩; have HS6 := Lib.hid (hs.out.step hb6))
        go_roundw
        case rel => exact ⟨k + 1, by omega, by go_num, by rw [HE.out], HS6⟩
        case measure => simp [intOf]; omega
      · rw [hP] at HI1
        cases hQ : insB G H (k : Int)
        · have HE := Lib.hid (bL_no (P := both F T G H) (k := k) (by show (insB F T k && insB G H k) = false; rw [hP, hQ]; rfl))
          rw [hQ] at HI2
          clear hP hQ
          go_wp2_with (go_at_call 15; first | (refine (HI1.out _).mono ?_; rintro e w6 ⟨rfl, hb6⟩; have HS6 := Lib.hid (hs.out.step hb6); obtain ⟨c0, c1, d0, d1, _⟩ := HS6.out; clear HI1) | (refine (HI2.out _).mono ?_; rintro e w7 ⟨rfl, hb7⟩; have HS7 := Lib.hid (HS6.out.step hb7)))
          go_roundw
          case rel => exact ⟨k + 1, by omega, by go_num, by rw [HE.out], HS7⟩
          case measure => simp [intOf]; omega
        · have hPQ : both F T G H k = true := by show (insB F T k && insB G H k) = true; rw [hP, hQ]; rfl
          have HE := Lib.hid (bL_yes (P := both F T G H) (k := k) hPQ)
          obtain ⟨hat1, hat2⟩ := bL_at (n := 365) hPQ (by omega)
          rw [hQ] at HI2
          rw [← HL.out] at hat1 hat2
          clear hP hQ hPQ
          have HAT := Lib.hid hat2
          clear hat2
          generalize hm : (bL (both F T G H) k).length = m at *
          have HM := Lib.hid hm
          clear hm
          have hmi : (m : Int) < (L.length : Int) := by omega
          have e0 : decide ((L.length : Int) ≤ (m : Int)) = false := by rw [decide_eq_false_iff_not]; omega
          go_wp2_with (go_at_call 15; first | (refine (HI1.out _).mono ?_; rintro e w6 ⟨rfl, hb6⟩; have HS6 := Lib.hid (hs.out.step hb6); obtain ⟨c0, c1, d0, d1, _⟩ := HS6.out; clear HI1) | (refine (HI2.out _).mono ?_; rintro e w7 ⟨rfl, hb7⟩; have HS7 := Lib.hid (HS6.out.step hb7); obtain ⟨_, _, _, _, hrl⟩ := HS7.out; obtain ⟨b, off, rfl, hbw, hcl⟩ := hrl.out.1 (by omega); have hc := hcl m (by omega); have hv : lx L m = (k : Int) := HAT.out; rw [hv] at hc; clear hcl))
          go_roundw
          case rel => exact ⟨k + 1, by omega, by go_num, by rw [HE.out, List.length_append, HM.out]; rfl, HS7⟩
          case measure => simp [intOf]; omega
    · obtain rfl : k = 365 := by omega
      rw [← HL.out]
      have hnn : ((L.length : Int) == (L.length : Int)) = true := by simp
      have HBA := Lib.hid (fun W => both_any G H F T W)
      rw [both_comm, ← HL.out] at HBA
      have HAA := Lib.hid (fun W => both_any F T F T W)
      rw [both_self] at HAA
      have HDY := Lib.hid (fun W => days_any F T W)
      have hdy := dyN_le F T
      have HAA' : Hid (∀ W, S3 w ka F T (ka + 1) G H p L.length (lx L) W → Calls Try.prog 22 #[.agg #[.int .i64 F, .int .i64 T], .agg #[.int .i64 F, .int .i64 T]] W fun e w' => (∃ g cp, e = .returned (.slice g (dyN F T) cp)) ∧ S3 w ka F T (ka + 1) G H p L.length (lx L) w') := fun W h => (HAA.out W).mono fun e w' ⟨v', he, hg, hb⟩ => by
        obtain ⟨g, cp, hv, _⟩ := got_rd hg
        exact ⟨⟨g, cp, by rw [he, hv]; rfl⟩, h.step hb⟩
      generalize dyN F T = m at *
      have HDS : Hid (∀ W, S3 w ka F T (ka + 1) G H p L.length (lx L) W → Calls Try.prog 19 #[.agg #[.int .i64 F, .int .i64 T]] W fun e w' => e = .returned (.int .i64 m) ∧ S3 w ka F T (ka + 1) G H p L.length (lx L) w') := fun W h => (HDY.out W).mono fun e w' ⟨he, hb⟩ => ⟨he, h.step hb⟩
      have HBS : Hid (∀ W, S3 w ka F T (ka + 1) G H p L.length (lx L) W → Calls Try.prog 22 #[.agg #[.int .i64 G, .int .i64 H], .agg #[.int .i64 F, .int .i64 T]] W fun e w' => (∃ g cp, e = .returned (.slice g L.length cp) ∧ Rd w' g L.length (lx L)) ∧ S3 w ka F T (ka + 1) G H p L.length (lx L) w') := fun W h => (HBA.out W).mono fun e w' ⟨v', he, hg, hb⟩ => by
        obtain ⟨g, cp, hv, hr⟩ := got_rd hg
        exact ⟨⟨g, cp, by rw [he, hv], hr⟩, h.step hb⟩
      have HSS : Hid (∀ W g cp, S3 w ka F T (ka + 1) G H p L.length (lx L) W → Rd W g L.length (lx L) → Calls Try.prog 21 #[.slice p L.length cap, .slice g L.length cp] W fun e w' => e = .returned (.bool true) ∧ S3 w ka F T (ka + 1) G H p L.length (lx L) w') := fun W g cp h hr => by
        have hs := same_eq p g L.length cap cp (lx L) (lx L) W (by omega) h.2.2.2.2.out.1 hr
        rw [eqB_of (fun i _ => rfl)] at hs
        exact hs.mono fun e w' ⟨he, q, hq⟩ => ⟨he, by rw [hq]; exact h.step ⟨rfl, rfl, rfl, Nat.le_refl _, fun _ _ => rfl⟩⟩
      have HAS : Hid (∀ W, S3 w ka F T (ka + 1) G H p L.length (lx L) W → Calls Try.prog 24 #[] W fun e w' => e = .returned (.bool true) ∧ S3 w ka F T (ka + 1) G H p L.length (lx L) w') := fun W h => (awk_any W).mono fun e w' ⟨he, hb⟩ => ⟨he, h.step hb⟩
      have HS9 := Lib.hid (hs.out.step (W' := wr.drew) ⟨rfl, rfl, rfl, Nat.le_refl _, fun _ _ => rfl⟩)
      obtain ⟨c0, c1, d0, d1, _⟩ := hs.out
      clear HBA HAA HDY HL hs hlt hk
      generalize L.length = N at *
      go_wp2_with fail
      go_region_held3 (fun W => W.cell? ⟨ka, 0, none⟩ = some (.int .i64 F) ∧ W.cell? ⟨ka, 1, none⟩ = some (.int .i64 T) ∧ W.cell? ⟨ka + 1, 0, none⟩ = some (.int .i64 G) ∧ W.cell? ⟨ka + 1, 1, none⟩ = some (.int .i64 H) ∧ Hid (Rd W p N (lx L) ∧ Below w.heap.size w W)) (first | exact HS9.out | assumption | go_keep)
        (first
          | (go_at_call 22; go_at_call_has 22 (Value.int .i64 G); refine (HBS.out _ (by assumption)).mono ?_; rintro e w' ⟨⟨g, cp, rfl, hrg⟩, hS⟩; have HRG := Lib.hid hrg; clear hrg)
          | (go_at_call 22; refine (HAA'.out _ (by assumption)).mono ?_; rintro e w' ⟨⟨g2, cp2, rfl⟩, hS⟩)
          | (go_at_call 21; refine (HSS.out _ _ _ (by assumption) HRG.out).mono ?_; rintro e w' ⟨rfl, hS⟩)
          | (go_at_call 19; refine (HDS.out _ (by assumption)).mono ?_; rintro e w' ⟨rfl, hS⟩)
          | (go_at_call 24; refine (HAS.out _ (by assumption)).mono ?_; rintro e w' ⟨rfl, hS⟩))
      go_wp2
      go_ret
      exact ⟨rfl, hS.2.2.2.2.out.2⟩
end Go.Proofs.Ytpdbomajhfkaeaa.Ca

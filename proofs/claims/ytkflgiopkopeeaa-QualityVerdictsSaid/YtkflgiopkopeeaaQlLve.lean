/-
  QualityVerdicts: the walk.
-/
import Derived.Test.YtkflgiopkopeeaaQlFm
import Derived.Test.YtkflgiopkopeeaaQlAwk
import Derived.Deep.DeepCutAuto
import Derived.Deep.CutRange
import Derived.Deep.RegionHeld3
import Derived.Deep.RegionLaw
import Derived.Test.YtkflgiopkopeeaaQlRvt
namespace Go.Proofs.Ytkflgiopkopeeaa.Ql
open Go.ChangeShapes Go.WideShapes Go.ChangeAt Go.RowKit
open Go.Proofs.Ytkflgiopkopeeaa.Ca (inB inB_yes inB_no Rd)
open Go.Proofs.Ytkflgiopkopeeaa.Cu (grown_below grown_own grown_trans grown_refl updF updF_same updF_other Dk next_any new_any md md_lo md_hi mod_any)
open Go.Proofs.Ytkflgiopkopeeaa.Gg (GotR gotR_nil gotR_rs gotR_rd gotR_next gotR_block rsL rsL_len rsL_one RdR Rs updR mkR cell_four)
set_option linter.unusedVariables false

theorem list_form {w : World} {base : Nat} {v : Value} {n : Nat} {R : Nat → Nat → Int} (h : GotR w base v n R) : ∃ p c, v = .slice p n c ∧ (p = none → n = 0 ∧ c = 0) ∧ RdR w p n R := by
  rcases h.2 with ⟨rfl, rfl⟩ | ⟨g, cap, cur, rfl, _⟩
  · exact ⟨none, 0, rfl, fun _ => ⟨rfl, rfl⟩, fun h => absurd h (Nat.lt_irrefl _)⟩
  · refine ⟨some ⟨g, 0, none⟩, cap, rfl, (fun e => by cases e), fun hn => ?_⟩
    obtain ⟨g', cap', e, _, hrs, _⟩ := gotR_rs h hn
    simp only [Value.slice.injEq, Option.some.injEq, Addr.mk.injEq] at e
    obtain ⟨⟨rfl, _⟩, _, rfl⟩ := e
    exact ⟨g, 0, rfl, hrs⟩
/-- Four numbers from cell 4 on. -/
structure C8 (w : World) (g : Nat) (l m j s : Int) : Prop where
  c0 : w.cell? ⟨g, 4, none⟩ = some (.int .i64 l)
  c1 : w.cell? ⟨g, 5, none⟩ = some (.int .i64 m)
  c2 : w.cell? ⟨g, 6, none⟩ = some (.int .i64 j)
  c3 : w.cell? ⟨g, 7, none⟩ = some (.int .i64 s)
theorem list_news {w : World} {p : Option Addr} {n : Nat} {R : Nat → Nat → Int} (h : RdR w p n R) : ∀ ad, p = some ad → ∀ q u, (rsL R n)[q]? = some u → w.cell? (ad.add q) = some u := by
  intro ad hp q u hq
  by_cases hn : 0 < n
  · obtain ⟨b, off, rfl, hrs⟩ := h hn
    cases hp
    exact rs_news hrs q u hq
  · obtain rfl : n = 0 := by omega
    simp [rsL] at hq
theorem app_rd {w : World} {base g n cp : Nat} {R : Nat → Nat → Int} {a b c d : Int} (h : w.ownsRow base 25 4 (.slice (some ⟨g, 0, none⟩) (0 + n + 1) cp) (0 + n + 1) ([] ++ rsL R n ++ [.int .i64 a, .int .i64 b, .int .i64 c, .int .i64 d])) : RdR w (some ⟨g, 0, none⟩) (n + 1) (updR R n (mkR a b c d)) := by
  rw [Nat.zero_add, List.nil_append] at h
  have h2 := gotR_next h
  intro hn
  obtain ⟨g', cap', e, _, hrs, _⟩ := gotR_rs h2 hn
  simp only [Value.slice.injEq, Option.some.injEq, Addr.mk.injEq] at e
  obtain ⟨⟨rfl, _⟩, _⟩ := e
  exact ⟨g, 0, rfl, hrs⟩
theorem four_news {w : World} {blk : Nat} {u0 u1 u2 u3 : Value} (h0 : w.cell? ⟨blk, 0, none⟩ = some u0) (h1 : w.cell? ⟨blk, 1, none⟩ = some u1) (h2 : w.cell? ⟨blk, 2, none⟩ = some u2) (h3 : w.cell? ⟨blk, 3, none⟩ = some u3) : ∀ j x, [u0, u1, u2, u3][j]? = some x → w.cell? ((⟨blk, 0, none⟩ : Addr).add j) = some x := by
  intro j x hj
  rw [add_plain, Nat.zero_add]
  match j, hj with
  | 0, hj => simp at hj; subst hj; exact h0
  | 1, hj => simp at hj; subst hj; exact h1
  | 2, hj => simp at hj; subst hj; exact h2
  | 3, hj => simp at hj; subst hj; exact h3
set_option maxRecDepth 100000 in
set_option maxHeartbeats 8000000 in
theorem ve_walk (a0 : Option Addr) (len0 cap0 : Nat) (z : Nat → Int) (x0 x1 x2 x3 y0 y1 y2 y3 : Int) (w : World) (hn : len0 ≤ 9223372036854775807) (hz : ∀ i, -9223372036854775808 ≤ z i ∧ z i ≤ 9223372036854775807) (hr : Rd w a0 len0 z) :
    Calls Try.prog 3 #[.agg #[.int .i64 x0, .int .i64 x1, .int .i64 x2, .int .i64 x3], .agg #[.int .i64 y0, .int .i64 y1, .int .i64 y2, .int .i64 y3], .slice a0 len0 cap0] w fun e w' => e = .returned (.bool true) ∧ Below w.heap.size w w' := by
  obtain ⟨i0, hi, hz0, hz1, hz2⟩ := info_parts Gg.Try.infoR
  have HR : Hid (Rd ((w.alloc (.cells #[.int .i64 x0, .int .i64 x1, .int .i64 x2, .int .i64 x3] 23)).alloc (.cells #[.int .i64 y0, .int .i64 y1, .int .i64 y2, .int .i64 y3] 25)) a0 len0 z) := RdV.alloc (C := iC z) (RdV.alloc (C := iC z) hr _) _
  have HZ := Lib.hid hz
  have HB0 : Hid (Below w.heap.size w ((w.alloc (.cells #[.int .i64 x0, .int .i64 x1, .int .i64 x2, .int .i64 x3] 23)).alloc (.cells #[.int .i64 y0, .int .i64 y1, .int .i64 y2, .int .i64 y3] 25))) := ((Below.refl _ _).alloc (Nat.le_refl _) _).alloc (by simp) _
  have HCX : Hid (C4 ((w.alloc (.cells #[.int .i64 x0, .int .i64 x1, .int .i64 x2, .int .i64 x3] 23)).alloc (.cells #[.int .i64 y0, .int .i64 y1, .int .i64 y2, .int .i64 y3] 25)) w.heap.size x0 x1 x2 x3 ∧ C4 ((w.alloc (.cells #[.int .i64 x0, .int .i64 x1, .int .i64 x2, .int .i64 x3] 23)).alloc (.cells #[.int .i64 y0, .int .i64 y1, .int .i64 y2, .int .i64 y3] 25)) (w.heap.size + 1) y0 y1 y2 y3 ∧ ((w.alloc (.cells #[.int .i64 x0, .int .i64 x1, .int .i64 x2, .int .i64 x3] 23)).alloc (.cells #[.int .i64 y0, .int .i64 y1, .int .i64 y2, .int .i64 y3] 25)).heap.size = w.heap.size + 2) := ⟨⟨by simp, by simp, by simp, by simp⟩, ⟨by simp, by simp, by simp, by simp⟩, by simp⟩
  clear hr hz
  go_enter Try.func3, Try.ntmps3
  go_wp2_with fail
  generalize (w.alloc (.cells #[.int .i64 x0, .int .i64 x1, .int .i64 x2, .int .i64 x3] 23)).alloc (.cells #[.int .i64 y0, .int .i64 y1, .int .i64 y2, .int .i64 y3] 25) = wb at *
  go_wp2_with (first
    | (go_at_call 11; refine (new_any a0 len0 cap0 z wb hn HZ.out HR.out).mono ?_; rintro e w1 ⟨rfl, hd1, hb1⟩; have HD1 := Lib.hid hd1; have HB1 := Lib.hid hb1; clear hd1 hb1)
    | (go_at_call 12; refine (checks_any wb.heap.size a0 len0 cap0 z w1 HD1.out).mono ?_; rintro e w2 ⟨l, m, j, s, rfl, hl, hm, hj, hs, hd2, hg2⟩; have HD2 := Lib.hid (hd2.alloc (.cells #[.int .i64 l, .int .i64 m, .int .i64 j, .int .i64 s] 23)); have HB2 : Hid (Below wb.heap.size wb (w2.alloc (.cells #[.int .i64 l, .int .i64 m, .int .i64 j, .int .i64 s] 23))) := (below_grown HB1.out (Nat.le_refl _) hg2 (Nat.le_refl _)).alloc (Nat.le_trans HB1.out.size hg2.size) _; have HC2 : Hid (C4 (w2.alloc (.cells #[.int .i64 l, .int .i64 m, .int .i64 j, .int .i64 s] 23)) w2.heap.size l m j s ∧ wb.heap.size < w2.heap.size ∧ w2.heap.size < (w2.alloc (.cells #[.int .i64 l, .int .i64 m, .int .i64 j, .int .i64 s] 23)).heap.size) := ⟨⟨by simp, by simp, by simp, by simp⟩, hd2.lt, by simp⟩; clear hd2 hg2)
    | (go_at_call 14; refine (next_any wb.heap.size a0 len0 cap0 z _ _ HD2.out (by omega)).mono ?_; rintro e w3 ⟨r, rfl, hr0, hr1, hd3, hg3⟩; obtain ⟨n, rfl⟩ : ∃ n : Nat, r = (n : Int) := ⟨r.toNat, by omega⟩; have HD3 := Lib.hid hd3; have HG3 := Lib.hid hg3; clear hd3 hg3)
    | (go_at_call 13; refine (series_any wb.heap.size a0 len0 cap0 z n w3 HD3.out (by omega)).mono ?_; rintro e w4 ⟨v4, R, rfl, hsr, hsw⟩; have hg4 := hsw.gr; have hbb : Below wb.heap.size wb w4 := below_grown (below_grown HB2.out (Nat.le_refl _) HG3.out (Nat.le_refl _)) (Nat.le_refl _) hg4 (Nat.le_refl _); obtain ⟨k0, k1, k2, k3⟩ : C4 w4 w2.heap.size l m j s := (HC2.out.1.grown HG3.out (by intro e; have e2 := Option.some.inj e; have := HC2.out.2.1; omega)).grown hg4 (by intro e; have e2 := Option.some.inj e; have := HC2.out.2.1; omega); obtain ⟨f0, f1, f2, f3⟩ : C4 w4 w.heap.size x0 x1 x2 x3 := HCX.out.1.below hbb (by have := HCX.out.2.2; omega); have HY4 : Hid (C4 w4 (w.heap.size + 1) y0 y1 y2 y3) := HCX.out.2.1.below hbb (by have := HCX.out.2.2; omega); have HL4 : Hid (∃ p c, v4 = .slice p n c ∧ (p = none → n = 0 ∧ c = 0) ∧ RdR w4 p n R) := list_form hsw.o; have HB4 : Hid (Below w.heap.size w w4) := HB0.out.trans (hbb.mono (by have := HCX.out.2.2; omega)); have hz4 := hbb.size; clear hsw hg4 hbb))
  clear HD1 HB1 HD2 HB2 HC2 HD3 HG3 HR HZ hsr HB0
  have hn20 : n ≤ 20 := by omega
  clear hr0 hr1
  have hsz : w.heap.size + 2 ≤ w4.heap.size := by have := HCX.out.2.2; omega
  clear HCX hz4 k0 k1 k2 k3 f0 f1 f2 f3
  obtain ⟨p, cp, rfl, hpn, hrd⟩ := HL4.out
  have HRL := Lib.hid hrd
  have HQ := Lib.hid (Below.refl w4.heap.size w4)
  clear HL4 hrd
  have HK0 : Hid (C4 (w4.alloc (.cells #[.int .i64 l, .int .i64 m, .int .i64 j, .int .i64 s, .int .i64 x0, .int .i64 x1, .int .i64 x2, .int .i64 x3] 23)) w4.heap.size l m j s ∧ C8 (w4.alloc (.cells #[.int .i64 l, .int .i64 m, .int .i64 j, .int .i64 s, .int .i64 x0, .int .i64 x1, .int .i64 x2, .int .i64 x3] 23)) w4.heap.size x0 x1 x2 x3) := ⟨⟨by simp, by simp, by simp, by simp⟩, ⟨by simp, by simp, by simp, by simp⟩⟩
  have HB5 : Hid (Below w4.heap.size w4 (w4.alloc (.cells #[.int .i64 l, .int .i64 m, .int .i64 j, .int .i64 s, .int .i64 x0, .int .i64 x1, .int .i64 x2, .int .i64 x3] 23))) := (Below.refl _ _).alloc (Nat.le_refl _) _
  have hz5 : (w4.alloc (.cells #[.int .i64 l, .int .i64 m, .int .i64 j, .int .i64 s, .int .i64 x0, .int .i64 x1, .int .i64 x2, .int .i64 x3] 23)).heap.size = w4.heap.size + 1 := by simp
  generalize w4.alloc (.cells #[.int .i64 l, .int .i64 m, .int .i64 j, .int .i64 s, .int .i64 x0, .int .i64 x1, .int .i64 x2, .int .i64 x3] 23) = w5 at *
  go_loopw [30] (fun y wr => ∃ k : Nat, k ≤ 2 ∧ y = .int .i64 k ∧ Hid (Below w5.heap.size w5 wr)) (fun y _ => 2 - (intOf y).toNat)
  case atStart => exact ⟨0, by omega, rfl, Below.refl _ _⟩
  case round =>
    obtain ⟨k, hk, rfl, hb⟩ := hrel
    by_cases hlt : k < 2
    · have hkk : (k : Int) < 2 := by omega
      obtain ⟨u0, u1, u2, u3, t0, t1, t2, t3⟩ : ∃ u0 u1 u2 u3 : Int, wr.cell? ⟨w4.heap.size, k * 4, none⟩ = some (.int .i64 u0) ∧ wr.cell? ⟨w4.heap.size, k * 4 + 1, none⟩ = some (.int .i64 u1) ∧ wr.cell? ⟨w4.heap.size, k * 4 + 2, none⟩ = some (.int .i64 u2) ∧ wr.cell? ⟨w4.heap.size, k * 4 + 3, none⟩ = some (.int .i64 u3) := by
        have hc : k = 0 ∨ k = 1 := by omega
        have hl : w4.heap.size < w5.heap.size := by omega
        rcases hc with rfl | rfl
        · exact ⟨l, m, j, s, (hb.out.cell (p := ⟨w4.heap.size, 0, none⟩) hl).trans HK0.out.1.c0, (hb.out.cell (p := ⟨w4.heap.size, 1, none⟩) hl).trans HK0.out.1.c1, (hb.out.cell (p := ⟨w4.heap.size, 2, none⟩) hl).trans HK0.out.1.c2, (hb.out.cell (p := ⟨w4.heap.size, 3, none⟩) hl).trans HK0.out.1.c3⟩
        · exact ⟨x0, x1, x2, x3, (hb.out.cell (p := ⟨w4.heap.size, 4, none⟩) hl).trans HK0.out.2.c0, (hb.out.cell (p := ⟨w4.heap.size, 5, none⟩) hl).trans HK0.out.2.c1, (hb.out.cell (p := ⟨w4.heap.size, 6, none⟩) hl).trans HK0.out.2.c2, (hb.out.cell (p := ⟨w4.heap.size, 7, none⟩) hl).trans HK0.out.2.c3⟩
      have hsr := hb.out.size
      have hb4r : Below w4.heap.size w4 wr := HB5.out.trans (hb.out.mono (by omega))
      have HRr := Lib.hid (HRL.out.below (hb4r.alloc (Nat.le_trans (by omega) hsr) (.cells #[.int .i64 u0, .int .i64 u1, .int .i64 u2, .int .i64 u3] 23)) (Nat.le_refl _))
      have HY7 : Hid (C4 (wr.alloc (.cells #[.int .i64 u0, .int .i64 u1, .int .i64 u2, .int .i64 u3] 23)) (w.heap.size + 1) y0 y1 y2 y3) := HY4.out.below (hb4r.alloc (Nat.le_trans (by omega) hsr) _) (by omega)
      have HU7 : Hid (C4 (wr.alloc (.cells #[.int .i64 u0, .int .i64 u1, .int .i64 u2, .int .i64 u3] 23)) wr.heap.size u0 u1 u2 u3) := ⟨by simp, by simp, by simp, by simp⟩
      have HB7 : Hid (Below w5.heap.size w5 (wr.alloc (.cells #[.int .i64 u0, .int .i64 u1, .int .i64 u2, .int .i64 u3] 23))) := hb.out.alloc hsr _
      have hz7 : (wr.alloc (.cells #[.int .i64 u0, .int .i64 u1, .int .i64 u2, .int .i64 u3] 23)).heap.size = wr.heap.size + 1 := by simp
      clear hb hb4r
      go_upto_region 7 with (fail)
      clear t0 t1 t2 t3
      generalize wr.alloc (.cells #[.int .i64 u0, .int .i64 u1, .int .i64 u2, .int .i64 u3] 23) = w7 at *
      generalize wr.heap.size = kx at *
      have NL0 : Hid (∀ ad, p = some ad → ∀ q u, (rsL R n)[q]? = some u → w7.cell? (ad.add q) = some u) := list_news HRr.out
      have NL1 : Hid (∀ o, ∀ ad, p = some ad → ∀ q u, (rsL R n)[q]? = some u → (w7.alloc o).cell? (ad.add q) = some u) := fun o => list_news (HRr.out.below ((Below.refl _ _).alloc (Nat.le_refl _) o) (Nat.le_refl _))
      obtain ⟨i0', i1', i2', i3'⟩ := HY7.out
      go_cut [30, 40, 41, 42] from 30 to 75 (fun s30 s40 s41 s42 wx => ∃ (kz : Nat) (p2 : Option Addr) (cp2 : Nat), s30 = .int .i64 k ∧ s40 = .slice (some ⟨kz, 0, none⟩) 2 2 ∧ s41 = .int .i64 2 ∧ s42 = .int .i64 0 ∧ Hid (wx.cell? ⟨kz, 0, none⟩ = some (.slice p n cp) ∧ wx.cell? ⟨kz, 1, none⟩ = some (.slice p2 (n + 1) cp2) ∧ RdR wx p2 (n + 1) (updR R n (mkR y0 y1 y2 y3)) ∧ Below w7.heap.size w7 wx))
      case first =>
        go_region_law (first
            | (refine step_app rfl (.tmp 36) (.tmp 38) 30 rfl w7.heap.size 25 i0 (.agg #[.int .i64 0, .int .i64 0, .int .i64 0, .int .i64 0]) 4 32 Try.underlying30 hi hz0 hz1 hz2 rfl (by decide) v1 (0 + n) ([] ++ rsL R n) ?_ (by first | exact HO1.out | exact (World.ownsRow.kept HO1.out (World.grownBy_alloc _ _ none) (by cases hv9 : v1.ownBlock <;> simp))) (some ⟨w8.heap.size, 0, none⟩) 1 1 [.int .i64 y0, .int .i64 y1, .int .i64 y2, .int .i64 y3] ?_ (fun h => by cases h) rfl (fun ad h => by cases h; exact cell_four _ _ _ _ _ _) (by intro u hu; simp at hu; rcases hu with rfl | rfl | rfl | rfl <;> rfl) (by unfold maxLen; omega) (by omega) (by simp; omega) ?_; (· (simp [Act.eval]; done)); (· (simp [Act.eval]; done)); intro v2 w9 ho2 hg2 _; have HB9 : Hid (Below w7.heap.size w7 w9) := Gg.below_own (HB8.out.alloc HB8.out.size _) (Nat.le_refl _) hg2 (fun k hk => (HO1.out.lt k hk).1); obtain ⟨g2, cp2, rfl, hgb2, hgl2⟩ := World.ownsRow.form ho2 (by omega); have HR9 : Hid (RdR w9 (some ⟨g2, 0, none⟩) (n + 1) (updR R n (mkR y0 y1 y2 y3))) := app_rd ho2; clear ho2 hg2)
            | (refine step_app rfl (.tmp 36) (.tmp 38) 30 rfl w7.heap.size 25 i0 (.agg #[.int .i64 0, .int .i64 0, .int .i64 0, .int .i64 0]) 4 32 Try.underlying30 hi hz0 hz1 hz2 rfl (by decide) v1 (0 + n) ([] ++ rsL R n) ?_ HO1.out (some ⟨w7.heap.size, 0, none⟩) 1 1 [.int .i64 y0, .int .i64 y1, .int .i64 y2, .int .i64 y3] ?_ (fun h => by cases h) rfl (fun ad h => by cases h; exact four_news (HL8.out _ 0 _ (by simp; done)) (HL8.out _ 1 _ (by simp; done)) (HL8.out _ 2 _ (by simp; done)) (HL8.out _ 3 _ (by simp; done))) (by intro u hu; simp at hu; rcases hu with rfl | rfl | rfl | rfl <;> rfl) (by unfold maxLen; omega) (by omega) HB8.out.size ?_; (· (simp [Act.eval]; done)); (· (simp [Act.eval]; done)); intro v2 w9 ho2 hg2 _; have HB9 : Hid (Below w7.heap.size w7 w9) := Gg.below_own HB8.out (Nat.le_refl _) hg2 (fun k hk => (HO1.out.lt k hk).1); obtain ⟨g2, cp2, rfl, hgb2, hgl2⟩ := World.ownsRow.form ho2 (by omega); have HR9 : Hid (RdR w9 (some ⟨g2, 0, none⟩) (n + 1) (updR R n (mkR y0 y1 y2 y3))) := app_rd ho2; clear ho2 hg2)
            | (refine step_app rfl (.const (.slice none 0 0)) (.tmp 35) 30 rfl w7.heap.size 25 i0 (.agg #[.int .i64 0, .int .i64 0, .int .i64 0, .int .i64 0]) 4 32 Try.underlying30 hi hz0 hz1 hz2 rfl (by decide) (.slice none 0 0) 0 [] ?_ (World.ownsRow_nil _ _ _ _) p n cp (rsL R n) ?_ hpn (rsL_len R n) (fun ad h => by first | exact NL0.out ad h | exact NL1.out _ ad h) (rsL_one R n) (by unfold maxLen; omega) (by omega) (by first | exact Nat.le_refl _ | (simp; done)) ?_; (· first | rfl | (simp [Act.eval]; done)); (· first | (simp [Act.eval]; done) | rfl); intro v1 w8 ho1 hg1 _; have hb8 : Below w7.heap.size w7 w8 := Below.grown (by first | exact below_drew (Below.refl _ _) | exact below_drew ((Below.refl _ _).alloc (Nat.le_refl _) _)) hg1 (by first | exact Nat.le_refl _ | (simp; done)) (by intro k hk; cases hk); have hs8 := hb8.size; obtain ⟨j0, j1, j2, j3⟩ := HY7.out.below hb8 (by omega); have HL8 := Lib.hid (fun (blk i : Nat) (u : Value) h6 => hg1.cell (a := ⟨blk, i, none⟩) (v := u) h6 (by intro e; cases e)); have HO1 := Lib.hid ho1; have HB8 := Lib.hid hb8; clear ho1 hb8))
        all_goals
          have hs9 := HB9.out.size
          go_wp2_with fail
          go_meet
          exact ⟨_, some ⟨g2, 0, none⟩, cp2, rfl, rfl, rfl, rfl, ⟨by simp, by simp, RdR.below HR9.out ((Below.refl _ _).alloc (Nat.le_refl _) _) (Nat.le_refl _), HB9.out.alloc hs9 _⟩⟩
      case rest =>
        obtain ⟨kz, p2, cp2, rfl, rfl, rfl, rfl, hcut⟩ := hcut
        have hq := hcut.out
        obtain ⟨z0, z1, hr2, hbc⟩ := hq
        have HZ0 := Lib.hid z0
        have HZ1 := Lib.hid z1
        have HR2 := Lib.hid hr2
        have HBC := Lib.hid hbc
        have hzc := hbc.size
        have hkz := World.block_lt_of_cell? _ _ z0
        change kz < _ at hkz
        clear hcut z0 z1 hr2 hbc NL0 NL1 HY7 i0' i1' i2' i3'
        go_wp2_with fail
        go_loopw [42] (fun y wy => ∃ i : Nat, i ≤ 2 ∧ y = .int .i64 i ∧ Hid (Below wc.heap.size wc wy)) (fun y _ => 2 - (intOf y).toNat)
        case atStart => exact ⟨0, by omega, rfl, Below.refl _ _⟩
        case round =>
          obtain ⟨i, hi2, rfl, hby⟩ := hrel
          have hsy := hby.out.size
          by_cases hlt2 : i < 2
          · have hii : (i : Int) < 2 := by omega
            have HB7y : Hid (Below w7.heap.size w7 wr) := HBC.out.trans (hby.out.mono hzc)
            obtain ⟨pp, nn, cc, RR, tt, hrr, hnn⟩ : ∃ (pp : Option Addr) (nn cc : Nat) (RR : Nat → Nat → Int), wr.cell? ⟨kz, i, none⟩ = some (.slice pp nn cc) ∧ Hid (RdR wr pp nn RR) ∧ nn ≤ 21 := by
              have hc : i = 0 ∨ i = 1 := by omega
              rcases hc with rfl | rfl
              · exact ⟨p, n, cp, R, (hby.out.cell (p := ⟨kz, 0, none⟩) hkz).trans HZ0.out, HRr.out.below HB7y.out (Nat.le_refl _), by omega⟩
              · exact ⟨p2, n + 1, cp2, _, (hby.out.cell (p := ⟨kz, 1, none⟩) hkz).trans HZ1.out, HR2.out.below hby.out (Nat.le_refl _), by omega⟩
            have hkx : kx < w7.heap.size := by omega
            obtain ⟨q0, q1, q2, q3⟩ : C4 wr kx u0 u1 u2 u3 := HU7.out.below HB7y.out hkx
            have HPV : Hid (∀ W, RdR W pp nn RR → Calls Try.prog 15 #[.agg #[.int .i64 u0, .int .i64 u1, .int .i64 u2, .int .i64 u3], .slice pp nn cc] W (VdP (vdE u0 u1 u2 u3 RR nn) (vdN u0 u1 u2 u3 RR nn) (vrI u0 u1 u2 u3 RR) W)) := fun W h => pvd_any u0 u1 u2 u3 pp nn cc RR W h (by omega)
            have HRV : Hid (∀ W, RdR W pp nn RR → Calls Try.prog 16 #[.agg #[.int .i64 u0, .int .i64 u1, .int .i64 u2, .int .i64 u3], .slice pp nn cc] W (VdP (vdE u0 u1 u2 u3 RR nn) (vdN u0 u1 u2 u3 RR nn) (vrI u0 u1 u2 u3 RR) W)) := fun W h => rvd_any u0 u1 u2 u3 pp nn cc RR W h (by omega)
            have hvn : vdN u0 u1 u2 u3 RR nn ≤ 21 := by unfold vdN; split <;> omega
            generalize vdE u0 u1 u2 u3 RR nn = E at *
            generalize vdN u0 u1 u2 u3 RR nn = NN at *
            generalize vrI u0 u1 u2 u3 RR = F at *
            have hkxw : kx < wr.heap.size := by have := HB7y.out.size; omega
            have HS8 := Lib.hid hsy
            have HSZ := Lib.hid hsz
            clear HZ0 HZ1
            go_upto_region 12 with (first
              | (go_at_call 15; refine (HPV.out _ hrr.out).mono ?_; rintro e w8 ⟨p8, d8, rfl, hr8, _, hb8⟩; have HB8 := Lib.hid hb8; have HR8 := Lib.hid hr8; have HRR8 : Hid (RdR w8 pp nn RR) := hrr.out.below hb8 (Nat.le_refl _); have HK8 : Hid (C4 w8 kx u0 u1 u2 u3) := C4.below ⟨q0, q1, q2, q3⟩ hb8 hkxw; obtain ⟨s0, s1, s2, s3⟩ := HK8.out; have hkx8 : kx < w8.heap.size := Nat.lt_of_lt_of_le hkxw hb8.size; clear hr8 hb8)
              | (go_at_call 16; refine (HRV.out _ HRR8.out).mono ?_; rintro e w9 ⟨p9, d9, rfl, hr9, _, hb9⟩; have HB9 : Hid (Below wr.heap.size wr w9) := HB8.out.trans (hb9.mono HB8.out.size); have HR9 := Lib.hid hr9; have HQ9 : Hid (RdV w9 p8 NN (iC F)) := RdV.below HR8.out hb9 (Nat.le_refl _); obtain ⟨r0, r1, r2, r3⟩ := HK8.out.below hb9 hkx8; have hkx9 : kx < w9.heap.size := Nat.lt_of_lt_of_le hkx8 hb9.size; clear hr9 hb9))
            have hst : Hid (∀ W w', (W.cell? ⟨kx, 0, none⟩ = some (.int .i64 u0) ∧ W.cell? ⟨kx, 1, none⟩ = some (.int .i64 u1) ∧ W.cell? ⟨kx, 2, none⟩ = some (.int .i64 u2) ∧ W.cell? ⟨kx, 3, none⟩ = some (.int .i64 u3) ∧ Hid (Below w9.heap.size w9 W)) → Below W.heap.size W w' → (w'.cell? ⟨kx, 0, none⟩ = some (.int .i64 u0) ∧ w'.cell? ⟨kx, 1, none⟩ = some (.int .i64 u1) ∧ w'.cell? ⟨kx, 2, none⟩ = some (.int .i64 u2) ∧ w'.cell? ⟨kx, 3, none⟩ = some (.int .i64 u3) ∧ Hid (Below w9.heap.size w9 w'))) := fun W w' h hb => by
              obtain ⟨a0, a1, a2, a3, a4⟩ := h
              have hl : kx < W.heap.size := Nat.lt_of_lt_of_le hkx9 a4.out.size
              obtain ⟨b0, b1, b2, b3⟩ := C4.below ⟨a0, a1, a2, a3⟩ hb hl
              exact ⟨b0, b1, b2, b3, (a4.out.trans (hb.mono a4.out.size))⟩
            have HSM : Hid (∀ W, (W.cell? ⟨kx, 0, none⟩ = some (.int .i64 u0) ∧ W.cell? ⟨kx, 1, none⟩ = some (.int .i64 u1) ∧ W.cell? ⟨kx, 2, none⟩ = some (.int .i64 u2) ∧ W.cell? ⟨kx, 3, none⟩ = some (.int .i64 u3) ∧ Hid (Below w9.heap.size w9 W)) → Calls Try.prog 17 #[.slice p8 NN d8, .slice p9 NN d9] W fun e w' => e = .returned (.bool true) ∧ (w'.cell? ⟨kx, 0, none⟩ = some (.int .i64 u0) ∧ w'.cell? ⟨kx, 1, none⟩ = some (.int .i64 u1) ∧ w'.cell? ⟨kx, 2, none⟩ = some (.int .i64 u2) ∧ w'.cell? ⟨kx, 3, none⟩ = some (.int .i64 u3) ∧ Hid (Below w9.heap.size w9 w'))) := fun W h => (same_t p8 p9 NN d8 d9 F W (by omega) (RdV.below HQ9.out h.2.2.2.2.out (Nat.le_refl _)) (RdV.below HR9.out h.2.2.2.2.out (Nat.le_refl _))).mono fun e w' hh => ⟨hh.1, hst.out W w' h hh.2⟩
            obtain ⟨ck, hck⟩ : ∃ ck, chC u0 u1 u2 u3 = ck := ⟨_, rfl⟩
            have HPC : Hid (∀ W, (W.cell? ⟨kx, 0, none⟩ = some (.int .i64 u0) ∧ W.cell? ⟨kx, 1, none⟩ = some (.int .i64 u1) ∧ W.cell? ⟨kx, 2, none⟩ = some (.int .i64 u2) ∧ W.cell? ⟨kx, 3, none⟩ = some (.int .i64 u3) ∧ Hid (Below w9.heap.size w9 W)) → Calls Try.prog 18 #[.agg #[.int .i64 u0, .int .i64 u1, .int .i64 u2, .int .i64 u3]] W fun e w' => e = .returned (.int .i64 ck) ∧ (w'.cell? ⟨kx, 0, none⟩ = some (.int .i64 u0) ∧ w'.cell? ⟨kx, 1, none⟩ = some (.int .i64 u1) ∧ w'.cell? ⟨kx, 2, none⟩ = some (.int .i64 u2) ∧ w'.cell? ⟨kx, 3, none⟩ = some (.int .i64 u3) ∧ Hid (Below w9.heap.size w9 w'))) := fun W h => by
              have hc := pchk_any u0 u1 u2 u3 W
              rw [hck] at hc
              exact hc.mono fun e w' hh => ⟨hh.1, hst.out W w' h hh.2⟩
            have HRC : Hid (∀ W, (W.cell? ⟨kx, 0, none⟩ = some (.int .i64 u0) ∧ W.cell? ⟨kx, 1, none⟩ = some (.int .i64 u1) ∧ W.cell? ⟨kx, 2, none⟩ = some (.int .i64 u2) ∧ W.cell? ⟨kx, 3, none⟩ = some (.int .i64 u3) ∧ Hid (Below w9.heap.size w9 W)) → Calls Try.prog 19 #[.agg #[.int .i64 u0, .int .i64 u1, .int .i64 u2, .int .i64 u3]] W fun e w' => e = .returned (.int .i64 ck) ∧ (w'.cell? ⟨kx, 0, none⟩ = some (.int .i64 u0) ∧ w'.cell? ⟨kx, 1, none⟩ = some (.int .i64 u1) ∧ w'.cell? ⟨kx, 2, none⟩ = some (.int .i64 u2) ∧ w'.cell? ⟨kx, 3, none⟩ = some (.int .i64 u3) ∧ Hid (Below w9.heap.size w9 w'))) := fun W h => by
              have hc := rchk_any u0 u1 u2 u3 W
              rw [hck] at hc
              exact hc.mono fun e w' hh => ⟨hh.1, hst.out W w' h hh.2⟩
            have HT0 : Hid (w9.cell? ⟨kx, 0, none⟩ = some (.int .i64 u0) ∧ w9.cell? ⟨kx, 1, none⟩ = some (.int .i64 u1) ∧ w9.cell? ⟨kx, 2, none⟩ = some (.int .i64 u2) ∧ w9.cell? ⟨kx, 3, none⟩ = some (.int .i64 u3) ∧ Hid (Below w9.heap.size w9 w9)) := ⟨r0, r1, r2, r3, Below.refl _ _⟩
            have hEE : (E != E) = false := by simp
            have hcc : (ck != ck) = false := by simp
            have HBY := Lib.hid (hby.out.trans (HB9.out.mono hsy))
            clear hck hst HPV HRV hrr HB8 HR8 HRR8 HK8 s0 s1 s2 s3 q0 q1 q2 q3 HR9 HQ9 tt r0 r1 r2 r3
            go_region_held3 (fun W => W.cell? ⟨kx, 0, none⟩ = some (.int .i64 u0) ∧ W.cell? ⟨kx, 1, none⟩ = some (.int .i64 u1) ∧ W.cell? ⟨kx, 2, none⟩ = some (.int .i64 u2) ∧ W.cell? ⟨kx, 3, none⟩ = some (.int .i64 u3) ∧ Hid (Below w9.heap.size w9 W)) (first | (with_reducible assumption) | (with_reducible exact HT0.out) | (exact ⟨HT0.out.1, HT0.out.2.1, HT0.out.2.2.1, HT0.out.2.2.2.1, below_drew HT0.out.2.2.2.2.out⟩) | exact HT0.out | assumption | go_keep | fail) (first
              | (go_at_call 17; refine (HSM.out _ (by assumption)).mono ?_; rintro e w' ⟨rfl, hS⟩)
              | (go_at_call 18; refine (HPC.out _ (by assumption)).mono ?_; rintro e w' ⟨rfl, hS⟩)
              | (go_at_call 19; refine (HRC.out _ (by assumption)).mono ?_; rintro e w' ⟨rfl, hS⟩))
            have HBF : Hid (Below wc.heap.size wc _) := HBY.out.trans (hS.2.2.2.2.out.mono HBY.out.size)
            go_wp2_with fail
            go_roundw
            case rel => exact ⟨i + 1, by omega, by go_num, HBF⟩
            case measure => simp [intOf]; omega
          · obtain rfl : i = 2 := by omega
            have HBR : Hid (Below w5.heap.size w5 wr) := HB7.out.trans ((HBC.out.trans (hby.out.mono hzc)).mono HB7.out.size)
            go_wp2_with fail
            go_roundw
            case rel => exact ⟨k + 1, by omega, by go_num, HBR⟩
            case measure => simp [intOf]; omega
    · obtain rfl : k = 2 := by omega
      have HBW : Hid (Below w.heap.size w wr) := HB4.out.trans ((HB5.out.trans (hb.out.mono (by omega))).mono (by omega))
      go_wp2_with (go_at_call 20; refine (awake_any _).mono ?_; rintro e w9 ⟨rfl, hb9⟩; have HB9 : Hid (Below w.heap.size w w9) := HBW.out.trans (hb9.mono HBW.out.size); clear hb9)
      go_ret
      exact ⟨rfl, HB9.out⟩
end Go.Proofs.Ytkflgiopkopeeaa.Ql

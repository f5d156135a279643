/-
  QualityValues: the walk.
-/
import Derived.Test.YtkflgiopkopeeaaQlGoo
import Derived.Test.YtkflgiopkopeeaaQlAwk
import Derived.Test.YtkflgiopkopeeaaQlRvt
import Derived.Test.YtkflgiopkopeeaaQlRfl
import Derived.Test.YtkflgiopkopeeaaQlDri
import Derived.Deep.DeepCutAuto
import Derived.Deep.CutRange
import Derived.Deep.RegionHeld3
namespace Go.Proofs.Ytkflgiopkopeeaa.Ql
open Go.ChangeShapes Go.WideShapes Go.ChangeAt Go.RowKit
open Go.Proofs.Ytkflgiopkopeeaa.Ca (inB inB_yes inB_no Rd)
open Go.Proofs.Ytkflgiopkopeeaa.Cu (grown_below grown_own grown_trans grown_refl updF updF_same updF_other Dk next_any new_any md md_lo md_hi mod_any)
set_option linter.unusedVariables false

theorem vL_take (C : Nat → Value) : ∀ (n m : Nat), m ≤ n → (vL C n).take m = vL C m
  | 0, m, h => by obtain rfl : m = 0 := by omega
                  rfl
  | n + 1, m, h => by
    by_cases e : m = n + 1
    · subst e; rw [List.take_of_length_le (by rw [vL_len]; exact Nat.le_refl _)]
    · show (vL C n ++ [C n]).take m = _
      rw [List.take_append_of_le_length (by rw [vL_len]; omega), vL_take C n m (by omega)]
/-- The length of a slice. -/
def slL : Value → Nat
  | .slice _ n _ => n
  | _ => 0
theorem own_take {t : TypeId} {w : World} {base g cap n m : Nat} {C : Nat → Value} (h : Own t w base (.slice (some ⟨g, 0, none⟩) n cap) n C) (hm : m ≤ n) : Own t w base (.slice (some ⟨g, 0, none⟩) m cap) m C := by
  obtain ⟨_, h2⟩ := h
  refine ⟨by rw [vL_len, Nat.mul_one], ?_⟩
  rcases h2 with ⟨h0, _⟩ | ⟨g', cap', cur, hv, hg, hh, hn, hcap, hsz, htake⟩
  · cases h0
  · cases hv
    refine .inr ⟨g, cap, cur, rfl, hg, hh, by omega, hcap, hsz, ?_⟩
    rw [← vL_take C n m hm, ← htake, List.take_take, Nat.mul_one, Nat.mul_one, Nat.min_eq_left hm]
theorem Gw.take {w : World} {g : Nat} {p : Option Addr} {dn dc : Nat} {z : Nat → Int} {b cap : Nat} {v2 : Value} {j1 j2 m : Nat} {V : Nat → Int} {G : Nat → Bool} {W : World} (h : Gw w g p dn dc z (.slice (some ⟨b, 0, none⟩) j1 cap) v2 j1 j2 V G W) (hm : m ≤ j1) : Gw w g p dn dc z (.slice (some ⟨b, 0, none⟩) m cap) v2 m j2 V G W :=
  ⟨h.gl, h.dk, own_take h.o1 hm, h.o2, h.gr, fun i hi => h.bd i (by omega)⟩
/-- A list that was made before the world w and whose block is not the deck's stays while the deck turns. -/
theorem rd_deck {w W : World} {g n : Nat} {p : Option Addr} {C : Nat → Value} {B : Nat} (h : RdV w p n C) (hg : w.grownBy W (some g)) (hb : ∀ b off, p = some ⟨b, off, none⟩ → B ≤ b) (hgB : g < B) : RdV W p n C :=
  h.grown hg (fun b off e e2 => by have := hb b off e; have := Option.some.inj e2; omega)
theorem rdl_deck {w W : World} {g n : Nat} {p : Option Addr} {G : Nat → Bool} {B : Nat} (h : RdL w p n G) (hg : w.grownBy W (some g)) (hb : ∀ b off, p = some ⟨b, off, none⟩ → B ≤ b) (hgB : g < B) : RdL W p n G :=
  RdV.grown (C := bC G) h hg (fun b off e e2 => by have := hb b off e; have := Option.some.inj e2; omega)
set_option maxRecDepth 100000 in
set_option maxHeartbeats 8000000 in
theorem va_walk (a0 : Option Addr) (len0 cap0 : Nat) (V0 : Nat → Int) (a1 : Option Addr) (len1 cap1 : Nat) (G1 : Nat → Bool) (a2 : Option Addr) (len2 cap2 : Nat) (z : Nat → Int) (last : Int) (w : World)
    (hn0 : len0 ≤ 140737488355328) (hn1 : len1 ≤ 140737488355328) (hr0 : Rd w a0 len0 V0) (hr1 : RdL w a1 len1 G1)
    (hn : len2 ≤ 9223372036854775807) (hz : ∀ i, -9223372036854775808 ≤ z i ∧ z i ≤ 9223372036854775807) (hr : Rd w a2 len2 z) (hby : -9223372036854775808 ≤ last ∧ last ≤ 9223372036854775807) :
    Calls Try.prog 4 #[.slice a0 len0 cap0, .slice a1 len1 cap1, .slice a2 len2 cap2, .int .i64 last] w fun e w' => e = .returned (.bool true) ∧ Below w.heap.size w w' := by
  obtain ⟨i0, hi, hz0, hz1, hz2⟩ := info_parts Try.infoI
  have HR := Lib.hid hr
  have HZ := Lib.hid hz
  have HR0 := Lib.hid hr0
  have HR1 := Lib.hid hr1
  have HMD := Lib.hid (fun W => mod_any last 50 W hby (by omega) (by omega))
  generalize md last 50 = m50 at *
  clear hr hz hby hr0 hr1
  go_enter Try.func4, Try.ntmps4
  by_cases hbig : len0 + len1 > 200
  · have hb2 : 200 < (len0 : Int) + (len1 : Int) := by omega
    go_wp2_with (go_at_call 20; refine (awake_any _).mono ?_; rintro e w9 ⟨rfl, hb9⟩; have HB9 := Lib.hid hb9; clear hb9)
    go_ret
    exact ⟨rfl, HB9.out⟩
  · have hb2 : (len0 : Int) + (len1 : Int) ≤ 200 := by omega
    have hl0 : len0 ≤ 200 := by omega
    have hl1 : len1 ≤ 200 := by omega
    go_wp2_with (first
      | (go_at_call 11; refine (new_any a2 len2 cap2 z w hn HZ.out HR.out).mono ?_; rintro e w1 ⟨rfl, hd1, hb1⟩; have HD1 := Lib.hid hd1; have HB1 := Lib.hid hb1; have HL1 := Lib.hid hd1.lt; clear hd1 hb1)
      | (go_at_call 21; first
        | (refine (goods_any w.heap.size a2 len2 cap2 z 14 w2 HGA.out.dk (by omega)).mono ?_; rintro e w3 ⟨v1, v2, j, VW, GW, rfl, hj, hgb⟩; have HGB := Lib.hid hgb; clear hgb)
        | (refine (goods_any w.heap.size a2 len2 cap2 z 14 w1 HD1.out (by omega)).mono ?_; rintro e w2 ⟨u1, u2, n, V, G, rfl, hn14, hga⟩; have HGA := Lib.hid hga; obtain ⟨p1, c1, rfl, hr1, hk1⟩ := own_rd hga.o1; obtain ⟨p2, c2, rfl, hr2, hk2⟩ := own_rd hga.o2; have HV2 : Hid (Rd w2 p1 n V) := hr1; have HG2 : Hid (RdL w2 p2 n G) := hr2; have HK1 := Lib.hid hk1; have HK2 := Lib.hid hk2; clear hga hr1 hr2 hk1 hk2)))
    have hni : (n : Int) ≤ 14 := by omega
    go_loopw [12] (fun v wr => ∃ (v0 : Value) (k : Nat) (VK : Nat → Int), v0 = v ∧ k ≤ 14 ∧ Hid (Gw w2 w.heap.size a2 len2 cap2 z v0 v2 k j VK GW wr)) (fun v _ => n - slL v)
    case atStart => exact ⟨_, j, VW, rfl, hj, HGB⟩
    case round =>
      obtain ⟨v0, k, VK, rfl, hk, hgw⟩ := hrel
      clear HGB
      have hws := hgw.out.gr.size
      obtain ⟨pk, ck, rfl, _, _⟩ := own_rd hgw.out.o1
      by_cases hlt : k < n
      · have hki : (k : Int) < (n : Int) := by omega
        go_wp2_with (first
          | (go_at_call_has 14 (Value.int .i64 60); refine (next_any w.heap.size a2 len2 cap2 z _ _ hgw.out.dk (by omega)).mono ?_; rintro e w4 ⟨x, rfl, hx0, hx1, hd2, hg2⟩; have H2 := Lib.hid ((hgw.out.turn hd2 hg2).alloc (.cells #[.int .i64 x] 3)); have hs2 : w2.heap.size ≤ w4.heap.size := Nat.le_trans hws hg2.size; clear hd2 hg2)
          | (at_builtin; refine wpList_append_own _ rfl _ _ 26 rfl w2.heap.size 3 i0 (.int .i64 0) 1 8 Try.underlying26 hi hz0 hz1 hz2 rfl (by decide) _ _ _ rfl H2.out.o1 ⟨w4.heap.size, 0, none⟩ 1 1 [.int .i64 x] rfl rfl (cell_one _ _ _) (by intro u hu; simp at hu; subst hu; rfl) (by unfold maxLen; omega) (by omega) (by simp; omega) ?_; intro v' w5 hown' hgrow hnil; have H3 := Lib.hid (H2.out.one hown' hgrow (by omega)); clear hown' hgrow hnil))
        obtain ⟨pk', ck', rfl, _, _⟩ := own_rd H3.out.o1
        refine ⟨⟨_, k + 1, _, rfl, by omega, H3⟩, ?_⟩
        simp [slL]
        omega
      · have hki : (n : Int) ≤ (k : Int) := by omega
        have hnk : n ≤ k := by omega
        go_upto_region 8 with fail
        go_cut [12] from 65 to 68 (fun s12 wx => ∃ (p : Option Addr) (c : Nat), s12 = .slice p n c ∧ wx = wr ∧ Hid (Gw w2 w.heap.size a2 len2 cap2 z (.slice p n c) v2 n j VK GW wr))
        case first =>
          rcases hgw.out.o1.2 with ⟨e0, hk0⟩ | ⟨b, cap, cur, e0, _, _, hcc, _, _, _⟩
          · cases e0
            obtain rfl : n = 0 := by omega
            go_wp2_with fail
            go_meet
            exact ⟨none, 0, rfl, rfl, hgw⟩
          · cases e0
            have hci : (k : Int) ≤ (ck : Int) := by omega
            go_wp2_with fail
            go_meet
            exact ⟨_, _, rfl, rfl, hgw.out.take hnk⟩
        case rest =>
          obtain ⟨p, c, rfl, rfl, hcut⟩ := hcut
          go_upto_if 71 with (go_at_call_has 14 (Value.int .i64 10); refine (next_any w.heap.size a2 len2 cap2 z _ _ hcut.out.dk (by omega)).mono ?_; rintro e w4 ⟨x, rfl, hx0, hx1, hd2, hg2⟩; have H2 := Lib.hid (hcut.out.turn hd2 hg2); have hs2 : w2.heap.size ≤ w4.heap.size := Nat.le_trans hws hg2.size; clear hd2 hg2)
          go_cut [12] from 72 to 74 (fun s12 wx => ∃ (p : Option Addr) (k : Nat) (c : Nat) (VK : Nat → Int), s12 = .slice p k c ∧ k ≤ 15 ∧ Hid (Gw w2 w.heap.size a2 len2 cap2 z (.slice p k c) v2 k j VK GW wx))
          case first =>
            by_cases h9 : x = 9
            · subst h9
              go_wp2_with (at_builtin; refine wpList_append_own _ rfl _ _ 26 rfl w2.heap.size 3 i0 (.int .i64 0) 1 8 Try.underlying26 hi hz0 hz1 hz2 rfl (by decide) _ _ _ rfl (H2.out.alloc _).o1 ⟨w4.heap.size, 0, none⟩ 1 1 [.int .i64 1] rfl rfl (cell_one _ _ _) (by intro u hu; simp at hu; subst hu; rfl) (by unfold maxLen; omega) (by omega) (by simp; omega) ?_; intro v' w5 hown' hgrow hnil; have H3 := Lib.hid ((H2.out.alloc _).one hown' hgrow (by omega)); clear hown' hgrow hnil)
              obtain ⟨pk', ck', rfl, _, _⟩ := own_rd H3.out.o1
              go_meet
              exact ⟨_, _, _, _, rfl, by omega, H3⟩
            · go_wp2_with fail
              go_meet
              exact ⟨_, _, _, _, rfl, by omega, H2⟩
          case rest =>
            clear H2 hgw hws
            obtain ⟨p, k, c, VK, rfl, hk15, hgw⟩ := hcut
            have HBX : Hid (Below w.heap.size w wc) := below_grown (below_grown HB1.out (Nat.le_refl _) HGA.out.gr (Nat.le_refl _)) (Nat.le_refl _) hgw.out.gr (Nat.le_refl _)
            have hgl := HL1.out
            have HQ1 : Hid (Rd wc p1 n V) := rd_deck (C := iC V) HV2.out hgw.out.gr HK1.out hgl
            have HQ2 : Hid (RdL wc p2 n G) := rdl_deck HG2.out hgw.out.gr HK2.out hgl
            obtain ⟨pq, cq, eq, hq3, _⟩ := own_rd hgw.out.o1
            simp only [Value.slice.injEq] at eq
            obtain ⟨rfl, _, rfl⟩ := eq
            have HQ3 : Hid (Rd wc p k VK) := hq3
            have HQ4 : Hid (Rd wc a0 len0 V0) := RdV.below (C := iC V0) HR0.out HBX.out (Nat.le_refl _)
            have HQ5 : Hid (RdL wc a1 len1 G1) := HR1.out.below HBX.out (Nat.le_refl _)
            have hwx := HBX.out.size
            clear hgw hq3 HV2 HG2 HK1 HK2 HR0 HR1 HGA HR HZ HD1 HB1 HL1 hcut hgl hki hnk hx0 hx1 hs2
            go_wp2_with fail
            have HL : Hid (∀ i, i < 3 → ∃ (px : Option Addr) (nx cx : Nat) (X : Nat → Int) (py : Option Addr) (ny cy : Nat) (Y : Nat → Int), (wc.alloc (.cells #[.slice p1 n c1, .slice p k c, .slice a0 len0 cap0, .slice p k c, .slice p1 n c1, .slice a0 len0 cap0] 45)).cell? ⟨wc.heap.size, i * 2, none⟩ = some (.slice px nx cx) ∧ (wc.alloc (.cells #[.slice p1 n c1, .slice p k c, .slice a0 len0 cap0, .slice p k c, .slice p1 n c1, .slice a0 len0 cap0] 45)).cell? ⟨wc.heap.size, i * 2 + 1, none⟩ = some (.slice py ny cy) ∧ Hid (Rd (wc.alloc (.cells #[.slice p1 n c1, .slice p k c, .slice a0 len0 cap0, .slice p k c, .slice p1 n c1, .slice a0 len0 cap0] 45)) px nx X) ∧ nx ≤ 200 ∧ Hid (Rd (wc.alloc (.cells #[.slice p1 n c1, .slice p k c, .slice a0 len0 cap0, .slice p k c, .slice p1 n c1, .slice a0 len0 cap0] 45)) py ny Y) ∧ ny ≤ 200) := fun i h => by
              have hc : i = 0 ∨ i = 1 ∨ i = 2 := by omega
              rcases hc with rfl | rfl | rfl
              · exact ⟨p1, n, c1, V, p, k, c, VK, by simp, by simp, RdV.alloc (C := iC V) HQ1.out _, by omega, RdV.alloc (C := iC VK) HQ3.out _, by omega⟩
              · exact ⟨a0, len0, cap0, V0, p, k, c, VK, by simp, by simp, RdV.alloc (C := iC V0) HQ4.out _, by omega, RdV.alloc (C := iC VK) HQ3.out _, by omega⟩
              · exact ⟨p1, n, c1, V, a0, len0, cap0, V0, by simp, by simp, RdV.alloc (C := iC V) HQ1.out _, by omega, RdV.alloc (C := iC V0) HQ4.out _, by omega⟩
            have HG6 : Hid (RdL (wc.alloc (.cells #[.slice p1 n c1, .slice p k c, .slice a0 len0 cap0, .slice p k c, .slice p1 n c1, .slice a0 len0 cap0] 45)) p2 n G) := RdV.alloc (C := bC G) HQ2.out _
            have HF6 : Hid (RdL (wc.alloc (.cells #[.slice p1 n c1, .slice p k c, .slice a0 len0 cap0, .slice p k c, .slice p1 n c1, .slice a0 len0 cap0] 45)) a1 len1 G1) := RdV.alloc (C := bC G1) HQ5.out _
            have HB6 : Hid (Below w.heap.size w (wc.alloc (.cells #[.slice p1 n c1, .slice p k c, .slice a0 len0 cap0, .slice p k c, .slice p1 n c1, .slice a0 len0 cap0] 45))) := HBX.out.alloc hwx _
            have hz6 : (wc.alloc (.cells #[.slice p1 n c1, .slice p k c, .slice a0 len0 cap0, .slice p k c, .slice p1 n c1, .slice a0 len0 cap0] 45)).heap.size = wc.heap.size + 1 := by simp
            clear HQ1 HQ2 HQ3 HQ4 HQ5 HBX
            generalize wc.alloc (.cells #[.slice p1 n c1, .slice p k c, .slice a0 len0 cap0, .slice p k c, .slice p1 n c1, .slice a0 len0 cap0] 45) = w6 at *
            go_loopw [86] (fun y wr => ∃ i : Nat, i ≤ 3 ∧ y = .int .i64 i ∧ Hid (Below w6.heap.size w6 wr)) (fun y _ => 3 - (intOf y).toNat)
            case atStart => exact ⟨0, by omega, rfl, Below.refl _ _⟩
            case round =>
              obtain ⟨i, hi3, rfl, hb⟩ := hrel
              have hsr := hb.out.size
              by_cases hlt : i < 3
              · have hii : (i : Int) < 3 := by omega
                obtain ⟨px, nx, cx, X, py, ny, cy, Y, t0, t1, hX, hnx, hY, hny⟩ := HL.out i hlt
                have l6 : wc.heap.size < w6.heap.size := by omega
                have f0 := (hb.out.cell (p := ⟨wc.heap.size, i * 2, none⟩) l6).trans t0
                have f1 := (hb.out.cell (p := ⟨wc.heap.size, i * 2 + 1, none⟩) l6).trans t1
                clear t0 t1
                go_wp2_with fail
                have HB7 : Hid (Below w6.heap.size w6 ((wr.alloc (.cells #[.slice px nx cx, .slice py ny cy] 45)).alloc (.cells #[.slice p2 n c2, .slice a1 len1 cap1] 42))) := (hb.out.alloc hsr _).alloc (by simp; omega) _
                have HC7 : Hid (((wr.alloc (.cells #[.slice px nx cx, .slice py ny cy] 45)).alloc (.cells #[.slice p2 n c2, .slice a1 len1 cap1] 42)).cell? ⟨wr.heap.size, 0, none⟩ = some (.slice px nx cx) ∧ ((wr.alloc (.cells #[.slice px nx cx, .slice py ny cy] 45)).alloc (.cells #[.slice p2 n c2, .slice a1 len1 cap1] 42)).cell? ⟨wr.heap.size, 1, none⟩ = some (.slice py ny cy)) := ⟨by simp, by simp⟩
                have HX7 : Hid (Rd ((wr.alloc (.cells #[.slice px nx cx, .slice py ny cy] 45)).alloc (.cells #[.slice p2 n c2, .slice a1 len1 cap1] 42)) px nx X) := RdV.below (C := iC X) hX.out HB7.out (Nat.le_refl _)
                have HY7 : Hid (Rd ((wr.alloc (.cells #[.slice px nx cx, .slice py ny cy] 45)).alloc (.cells #[.slice p2 n c2, .slice a1 len1 cap1] 42)) py ny Y) := RdV.below (C := iC Y) hY.out HB7.out (Nat.le_refl _)
                have HG7 : Hid (∀ j, j < 2 → ∃ (pg : Option Addr) (ng cg : Nat) (GJ : Nat → Bool), ((wr.alloc (.cells #[.slice px nx cx, .slice py ny cy] 45)).alloc (.cells #[.slice p2 n c2, .slice a1 len1 cap1] 42)).cell? ⟨wr.heap.size + 1, j, none⟩ = some (.slice pg ng cg) ∧ Hid (RdL ((wr.alloc (.cells #[.slice px nx cx, .slice py ny cy] 45)).alloc (.cells #[.slice p2 n c2, .slice a1 len1 cap1] 42)) pg ng GJ) ∧ ng ≤ 200) := fun j h => by
                  have hc : j = 0 ∨ j = 1 := by omega
                  rcases hc with rfl | rfl
                  · exact ⟨p2, n, c2, G, by simp, HG6.out.below HB7.out (Nat.le_refl _), by omega⟩
                  · exact ⟨a1, len1, cap1, G1, by simp, HF6.out.below HB7.out (Nat.le_refl _), by omega⟩
                have hz7 : ((wr.alloc (.cells #[.slice px nx cx, .slice py ny cy] 45)).alloc (.cells #[.slice p2 n c2, .slice a1 len1 cap1] 42)).heap.size = wr.heap.size + 2 := by simp
                clear hb hX hY f0 f1
                generalize ((wr.alloc (.cells #[.slice px nx cx, .slice py ny cy] 45)).alloc (.cells #[.slice p2 n c2, .slice a1 len1 cap1] 42)) = w7 at *
                generalize wr.heap.size = kx at *
                go_loopw [94] (fun y wy => ∃ j : Nat, j ≤ 2 ∧ y = .int .i64 j ∧ Hid (Below w7.heap.size w7 wy)) (fun y _ => 2 - (intOf y).toNat)
                case atStart => exact ⟨0, by omega, rfl, Below.refl _ _⟩
                case round =>
                  obtain ⟨j, hj2, rfl, hb⟩ := hrel
                  have hsw := hb.out.size
                  have hk7 : kx < w7.heap.size := by omega
                  by_cases hlj : j < 2
                  · have hji : (j : Int) < 2 := by omega
                    obtain ⟨pg, ng, cg, GJ, tg, hG, hng⟩ := HG7.out j hlj
                    have g0 := (hb.out.cell (p := ⟨kx + 1, j, none⟩) (show kx + 1 < w7.heap.size by omega)).trans tg
                    have HBX : Hid (∀ W, Below w7.heap.size w7 W → W.cell? ⟨kx, 0, none⟩ = some (.slice px nx cx) ∧ W.cell? ⟨kx, 1, none⟩ = some (.slice py ny cy)) := fun W h => ⟨(h.cell (p := ⟨kx, 0, none⟩) hk7).trans HC7.out.1, (h.cell (p := ⟨kx, 1, none⟩) hk7).trans HC7.out.2⟩
                    have HPV : Hid (∀ W, Hid (Below w7.heap.size w7 W) → Calls Try.prog 22 #[.slice px nx cx, .slice pg ng cg] W (Ekt (if nx = ng then vtI X GJ nx else 0) (if nx = ng then vtB X GJ nx else false) W)) := fun W h => pvt_any px pg nx ng cx cg X GJ W (by omega) (by omega) (RdV.below (C := iC X) HX7.out h.out (Nat.le_refl _)) (hG.out.below h.out (Nat.le_refl _))
                    have HRV : Hid (∀ W, Hid (Below w7.heap.size w7 W) → Calls Try.prog 23 #[.slice px nx cx, .slice pg ng cg] W (Ekt (if nx = ng then vtI X GJ nx else 0) (if nx = ng then vtB X GJ nx else false) W)) := fun W h => rvt_any px pg nx ng cx cg X GJ W (by omega) (by omega) (RdV.below (C := iC X) HX7.out h.out (Nat.le_refl _)) (hG.out.below h.out (Nat.le_refl _))
                    have HPF : Hid (∀ W, Hid (Below w7.heap.size w7 W) → Calls Try.prog 24 #[.slice px nx cx, .slice pg ng cg, .int .i64 last] W (VdP (flE X nx ng last) (flN X nx ng last) (fil X GJ nx last) W)) := fun W h => pfi_any px pg nx ng cx cg X GJ last W (by omega) (by omega) (RdV.below (C := iC X) HX7.out h.out (Nat.le_refl _)) (hG.out.below h.out (Nat.le_refl _))
                    have HRF : Hid (∀ W, Hid (Below w7.heap.size w7 W) → Calls Try.prog 25 #[.slice px nx cx, .slice pg ng cg, .int .i64 last] W (VdP (flE X nx ng last) (flN X nx ng last) (fil X GJ nx last) W)) := fun W h => rfi_any px pg nx ng cx cg X GJ last W (by omega) (by omega) (RdV.below (C := iC X) HX7.out h.out (Nat.le_refl _)) (hG.out.below h.out (Nat.le_refl _))
                    have HPG : Hid (∀ W, Hid (Below w7.heap.size w7 W) → Calls Try.prog 24 #[.slice px nx cx, .slice pg ng cg, .int .i64 m50] W (VdP (flE X nx ng m50) (flN X nx ng m50) (fil X GJ nx m50) W)) := fun W h => pfi_any px pg nx ng cx cg X GJ m50 W (by omega) (by omega) (RdV.below (C := iC X) HX7.out h.out (Nat.le_refl _)) (hG.out.below h.out (Nat.le_refl _))
                    have HRG : Hid (∀ W, Hid (Below w7.heap.size w7 W) → Calls Try.prog 25 #[.slice px nx cx, .slice pg ng cg, .int .i64 m50] W (VdP (flE X nx ng m50) (flN X nx ng m50) (fil X GJ nx m50) W)) := fun W h => rfi_any px pg nx ng cx cg X GJ m50 W (by omega) (by omega) (RdV.below (C := iC X) HX7.out h.out (Nat.le_refl _)) (hG.out.below h.out (Nat.le_refl _))
                    have HPD : Hid (∀ W, Hid (Below w7.heap.size w7 W) → Calls Try.prog 27 #[.slice px nx cx, .slice py ny cy, .slice pg ng cg] W (DrP (dvI X Y GJ nx ny ng) (dvB X Y GJ nx ny ng) (dvE X Y nx ny ng) W)) := fun W h => pdr_any px py pg nx ny ng cx cy cg X Y GJ W (by omega) (by omega) (by omega) (RdV.below (C := iC X) HX7.out h.out (Nat.le_refl _)) (RdV.below (C := iC Y) HY7.out h.out (Nat.le_refl _)) (hG.out.below h.out (Nat.le_refl _))
                    have HRD : Hid (∀ W, Hid (Below w7.heap.size w7 W) → Calls Try.prog 28 #[.slice px nx cx, .slice py ny cy, .slice pg ng cg] W (DrP (dvI X Y GJ nx ny ng) (dvB X Y GJ nx ny ng) (dvE X Y nx ny ng) W)) := fun W h => rdr_any px py pg nx ny ng cx cy cg X Y GJ W (by omega) (by omega) (by omega) (RdV.below (C := iC X) HX7.out h.out (Nat.le_refl _)) (RdV.below (C := iC Y) HY7.out h.out (Nat.le_refl _)) (hG.out.below h.out (Nat.le_refl _))
                    have hN1 : flN X nx ng last ≤ 200 := by unfold flN; split <;> omega
                    have hN2 : flN X nx ng m50 ≤ 200 := by unfold flN; split <;> omega
                    clear tg hG
                    generalize (if nx = ng then vtI X GJ nx else 0) = VI at *
                    generalize (if nx = ng then vtB X GJ nx else false) = VB at *
                    generalize flE X nx ng last = E1 at *
                    generalize flN X nx ng last = N1 at *
                    generalize fil X GJ nx last = F1 at *
                    generalize flE X nx ng m50 = E2 at *
                    generalize flN X nx ng m50 = N2 at *
                    generalize fil X GJ nx m50 = F2 at *
                    generalize dvI X Y GJ nx ny ng = D1 at *
                    generalize dvB X Y GJ nx ny ng = D2 at *
                    generalize dvE X Y nx ny ng = D3 at *
                    obtain ⟨b0, b1⟩ := HBX.out wr hb.out
                    have HS7 := Lib.hid hsw
                    go_upto_region 21 with (first
                      | (go_at_call 22; refine (HPV.out wr hb).mono ?_; rintro e va ⟨rfl, hba⟩; have HBA : Hid (Below w7.heap.size w7 va) := hb.out.trans (hba.mono HS7.out); obtain ⟨b2, b3⟩ := HBX.out va HBA.out; clear hba)
                      | (go_at_call 23; refine (HRV.out va HBA).mono ?_; rintro e vb ⟨rfl, hba⟩; have HBB : Hid (Below w7.heap.size w7 vb) := HBA.out.trans (hba.mono HBA.out.size); obtain ⟨b4, b5⟩ := HBX.out vb HBB.out; clear hba)
                      | (go_at_call 24; refine (HPF.out vb HBB).mono ?_; rintro e vc ⟨p3, c3, rfl, hr3, _, hba⟩; have HBC : Hid (Below w7.heap.size w7 vc) := HBB.out.trans (hba.mono HBB.out.size); obtain ⟨b6, b7⟩ := HBX.out vc HBC.out; have HR3 := Lib.hid hr3; clear hba hr3)
                      | (go_at_call 25; refine (HRF.out vc HBC).mono ?_; rintro e vd ⟨p4, c4, rfl, hr4, _, hba⟩; have HBD : Hid (Below w7.heap.size w7 vd) := HBC.out.trans (hba.mono HBC.out.size); obtain ⟨b8, b9⟩ := HBX.out vd HBD.out; have HR4 := Lib.hid hr4; have HT3 : Hid (RdV vd p3 N1 (iC F1)) := HR3.out.below hba (Nat.le_refl _); clear hba hr4))
                    have hst : Hid (∀ W w', (W.cell? ⟨kx, 0, none⟩ = some (.slice px nx cx) ∧ W.cell? ⟨kx, 1, none⟩ = some (.slice py ny cy) ∧ Hid (Below vd.heap.size vd W)) → Below W.heap.size W w' → (w'.cell? ⟨kx, 0, none⟩ = some (.slice px nx cx) ∧ w'.cell? ⟨kx, 1, none⟩ = some (.slice py ny cy) ∧ Hid (Below vd.heap.size vd w'))) := fun W w' h hba => by
                      have hq : Below w7.heap.size w7 w' := (HBD.out.trans (h.2.2.out.mono HBD.out.size)).trans (hba.mono (Nat.le_trans HBD.out.size h.2.2.out.size))
                      obtain ⟨x0, x1⟩ := HBX.out w' hq
                      exact ⟨x0, x1, h.2.2.out.trans (hba.mono h.2.2.out.size)⟩
                    have HFG : Hid (∀ W, (W.cell? ⟨kx, 0, none⟩ = some (.slice px nx cx) ∧ W.cell? ⟨kx, 1, none⟩ = some (.slice py ny cy) ∧ Hid (Below vd.heap.size vd W)) → Calls Try.prog 24 #[.slice px nx cx, .slice pg ng cg, .int .i64 m50] W fun e w' => (∃ pk ck, e = .returned (.tuple #[.slice pk N2 ck, .int .i64 E2]) ∧ Hid (RdV w' pk N2 (iC F2))) ∧ (w'.cell? ⟨kx, 0, none⟩ = some (.slice px nx cx) ∧ w'.cell? ⟨kx, 1, none⟩ = some (.slice py ny cy) ∧ Hid (Below vd.heap.size vd w'))) := fun W h => (HPG.out W (HBD.out.trans (h.2.2.out.mono HBD.out.size))).mono fun e w' ⟨pk, ck, he, hr, _, hba⟩ => ⟨⟨pk, ck, he, hr⟩, hst.out W w' h hba⟩
                    have HT0 : Hid (vd.cell? ⟨kx, 0, none⟩ = some (.slice px nx cx) ∧ vd.cell? ⟨kx, 1, none⟩ = some (.slice py ny cy) ∧ Hid (Below vd.heap.size vd vd)) := ⟨(HBX.out vd HBD.out).1, (HBX.out vd HBD.out).2, Below.refl _ _⟩
                    go_region_held3 (fun W => W.cell? ⟨kx, 0, none⟩ = some (.slice px nx cx) ∧ W.cell? ⟨kx, 1, none⟩ = some (.slice py ny cy) ∧ Hid (Below vd.heap.size vd W)) (first | (with_reducible assumption) | (with_reducible exact HT0.out) | (exact ⟨HT0.out.1, HT0.out.2.1, below_drew HT0.out.2.2.out⟩) | exact HT0.out | assumption | go_keep | fail) (first
                      | (go_at_call 26; refine (HMD.out _).mono ?_; rintro e w' ⟨rfl, rfl⟩)
                      | (go_at_call 24; refine (HFG.out _ (by assumption)).mono ?_; rintro e ve ⟨⟨p5, c5, rfl, hrk⟩, hS⟩))
                    have HBE : Hid (Below w7.heap.size w7 ve) := HBD.out.trans (hS.2.2.out.mono HBD.out.size)
                    have HU3 : Hid (RdV ve p3 N1 (iC F1)) := HT3.out.below hS.2.2.out (Nat.le_refl _)
                    have HU4 : Hid (RdV ve p4 N1 (iC F1)) := HR4.out.below hS.2.2.out (Nat.le_refl _)
                    have HU5 := hrk
                    clear hst HFG HT0 hS hrk b0 b1 b2 b3 b4 b5 b6 b7 b8 b9 HR3 HT3 HR4 HBA HBB HBC
                    obtain ⟨b0, b1⟩ := HBX.out ve HBE.out
                    go_upto_region 22 with fail
                    have hst : Hid (∀ W w', (W.cell? ⟨kx, 0, none⟩ = some (.slice px nx cx) ∧ W.cell? ⟨kx, 1, none⟩ = some (.slice py ny cy) ∧ Hid (Below ve.heap.size ve W)) → Below W.heap.size W w' → (w'.cell? ⟨kx, 0, none⟩ = some (.slice px nx cx) ∧ w'.cell? ⟨kx, 1, none⟩ = some (.slice py ny cy) ∧ Hid (Below ve.heap.size ve w'))) := fun W w' h hba => by
                      have hq : Below w7.heap.size w7 w' := (HBE.out.trans (h.2.2.out.mono HBE.out.size)).trans (hba.mono (Nat.le_trans HBE.out.size h.2.2.out.size))
                      obtain ⟨x0, x1⟩ := HBX.out w' hq
                      exact ⟨x0, x1, h.2.2.out.trans (hba.mono h.2.2.out.size)⟩
                    have HFG : Hid (∀ W, (W.cell? ⟨kx, 0, none⟩ = some (.slice px nx cx) ∧ W.cell? ⟨kx, 1, none⟩ = some (.slice py ny cy) ∧ Hid (Below ve.heap.size ve W)) → Calls Try.prog 25 #[.slice px nx cx, .slice pg ng cg, .int .i64 m50] W fun e w' => (∃ pk ck, e = .returned (.tuple #[.slice pk N2 ck, .int .i64 E2]) ∧ Hid (RdV w' pk N2 (iC F2))) ∧ (w'.cell? ⟨kx, 0, none⟩ = some (.slice px nx cx) ∧ w'.cell? ⟨kx, 1, none⟩ = some (.slice py ny cy) ∧ Hid (Below ve.heap.size ve w'))) := fun W h => (HRG.out W (HBE.out.trans (h.2.2.out.mono HBE.out.size))).mono fun e w' ⟨pk, ck, he, hr, _, hba⟩ => ⟨⟨pk, ck, he, hr⟩, hst.out W w' h hba⟩
                    have HT0 : Hid (ve.cell? ⟨kx, 0, none⟩ = some (.slice px nx cx) ∧ ve.cell? ⟨kx, 1, none⟩ = some (.slice py ny cy) ∧ Hid (Below ve.heap.size ve ve)) := ⟨(HBX.out ve HBE.out).1, (HBX.out ve HBE.out).2, Below.refl _ _⟩
                    go_region_held3 (fun W => W.cell? ⟨kx, 0, none⟩ = some (.slice px nx cx) ∧ W.cell? ⟨kx, 1, none⟩ = some (.slice py ny cy) ∧ Hid (Below ve.heap.size ve W)) (first | (with_reducible assumption) | (with_reducible exact HT0.out) | (exact ⟨HT0.out.1, HT0.out.2.1, below_drew HT0.out.2.2.out⟩) | exact HT0.out | assumption | go_keep | fail) (first
                      | (go_at_call 26; refine (HMD.out _).mono ?_; rintro e w' ⟨rfl, rfl⟩)
                      | (go_at_call 25; refine (HFG.out _ (by assumption)).mono ?_; rintro e vf ⟨⟨p6, c6, rfl, hrk⟩, hS⟩))
                    have HBF : Hid (Below w7.heap.size w7 vf) := HBE.out.trans (hS.2.2.out.mono HBE.out.size)
                    have HW3 : Hid (RdV vf p3 N1 (iC F1)) := HU3.out.below hS.2.2.out (Nat.le_refl _)
                    have HW4 : Hid (RdV vf p4 N1 (iC F1)) := HU4.out.below hS.2.2.out (Nat.le_refl _)
                    have HW5 : Hid (RdV vf p5 N2 (iC F2)) := HU5.out.below hS.2.2.out (Nat.le_refl _)
                    have HW6 := hrk
                    clear hst HFG HT0 hS hrk HU3 HU4 HU5 HBD HBE b0 b1 HPV HRV HPF HRF HPG HRG
                    obtain ⟨b0, b1⟩ := HBX.out vf HBF.out
                    have HS1 : Hid (∀ W, Hid (Below vf.heap.size vf W) → Calls Try.prog 17 #[.slice p3 N1 c3, .slice p4 N1 c4] W fun e w' => e = .returned (.bool true) ∧ Hid (Below vf.heap.size vf w')) := fun W h => (same_t p3 p4 N1 c3 c4 F1 W (by omega) (RdV.below HW3.out h.out (Nat.le_refl _)) (RdV.below HW4.out h.out (Nat.le_refl _))).mono fun e w' hh => ⟨hh.1, h.out.trans (hh.2.mono h.out.size)⟩
                    have HS2 : Hid (∀ W, Hid (Below vf.heap.size vf W) → Calls Try.prog 17 #[.slice p5 N2 c5, .slice p6 N2 c6] W fun e w' => e = .returned (.bool true) ∧ Hid (Below vf.heap.size vf w')) := fun W h => (same_t p5 p6 N2 c5 c6 F2 W (by omega) (RdV.below HW5.out h.out (Nat.le_refl _)) (RdV.below HW6.out h.out (Nat.le_refl _))).mono fun e w' hh => ⟨hh.1, h.out.trans (hh.2.mono h.out.size)⟩
                    have q1 : (VI != VI) = false := by simp
                    have q2 : (VB != VB) = false := by simp
                    have q3 : (E1 != E1) = false := by simp
                    have q4 : (E2 != E2) = false := by simp
                    have q5 : (D3 != D3) = false := by simp
                    have q6 : (D1 != D1) = false := by simp
                    have q7 : (D2 != D2) = false := by simp
                    clear HW3 HW4 HW5 HW6
                    have HBF2 := HBF
                    have HSF := Lib.hid HBF.out.size
                    go_wp2_with (first
                      | (go_at_call 27; refine (HPD.out vf HBF).mono ?_; rintro e vg ⟨rfl, hba⟩; have HVG : Hid (Below vf.heap.size vf vg) := hba; obtain ⟨b2, b3⟩ := HBX.out vg (HBF.out.trans (hba.mono HSF.out)); have HBG : Hid (Below w7.heap.size w7 vg) := HBF.out.trans (hba.mono HSF.out); clear hba)
                      | (go_at_call 28; refine (HRD.out vg HBG).mono ?_; rintro e vh ⟨rfl, hba⟩; have HVH : Hid (Below vf.heap.size vf vh) := HVG.out.trans (hba.mono HVG.out.size); obtain ⟨b4, b5⟩ := HBX.out vh (HBG.out.trans (hba.mono HBG.out.size)); clear hba)
                      | (go_at_call 17; first
                        | (refine (HS1.out vh HVH).mono ?_; rintro e vi ⟨rfl, HVI⟩; clear HS1)
                        | (refine (HS2.out vi HVI).mono ?_; rintro e vj ⟨rfl, HVJ⟩)))
                    have HFIN : Hid (Below w7.heap.size w7 vj) := HBF2.out.trans (HVJ.out.mono HSF.out)
                    go_roundw
                    case rel => exact ⟨j + 1, by omega, by go_num, HFIN⟩
                    case measure => simp [intOf]; omega
                  · obtain rfl : j = 2 := by omega
                    have HBR : Hid (Below w6.heap.size w6 wr) := HB7.out.trans (hb.out.mono HB7.out.size)
                    go_wp2_with fail
                    go_roundw
                    case rel => exact ⟨i + 1, by omega, by go_num, HBR⟩
                    case measure => simp [intOf]; omega
              · obtain rfl : i = 3 := by omega
                have HBW : Hid (Below w.heap.size w wr) := HB6.out.trans (hb.out.mono (by omega))
                clear hb
                go_wp2_with (go_at_call 20; refine (awake_any _).mono ?_; rintro e w9 ⟨rfl, hb9⟩; have HB9 : Hid (Below w.heap.size w w9) := HBW.out.trans (hb9.mono HBW.out.size); clear hb9)
                go_ret
                exact ⟨rfl, HB9.out⟩
end Go.Proofs.Ytkflgiopkopeeaa.Ql

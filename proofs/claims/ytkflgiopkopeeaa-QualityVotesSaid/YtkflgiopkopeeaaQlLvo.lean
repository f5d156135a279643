/-
  QualityVotes: the walk.
-/
import Derived.Test.YtkflgiopkopeeaaQlVm
import Derived.Deep.RegionLaw
import Derived.Deep.DeepCutAuto
import Derived.Deep.CutRange
namespace Go.Proofs.Ytkflgiopkopeeaa.Ql
open Go.ChangeShapes Go.WideShapes Go.ChangeAt Go.RowKit
open Go.Proofs.Ytkflgiopkopeeaa.Ca (inB inB_yes inB_no Rd)
open Go.Proofs.Ytkflgiopkopeeaa.Cu (grown_below grown_own grown_trans grown_refl updF updF_same updF_other Dk next_any new_any)
set_option linter.unusedVariables false

/-- Two lists of the call's own, of as many elements each. -/
structure Tw (w : World) (base : Nat) (v1 v2 : Value) (j1 j2 : Nat) (V : Nat → Int) (G : Nat → Bool) (W : World) : Prop where
  o1 : Own 3 W base v1 j1 (iC V)
  o2 : Own 4 W base v2 j2 (bC G)
  bel : Below w.heap.size w W
  hb : w.heap.size ≤ base
  hs : base ≤ W.heap.size
theorem Tw.up {w : World} {base : Nat} {v1 v2 : Value} {j1 j2 : Nat} {V : Nat → Int} {G : Nat → Bool} {W W' : World} (h : Tw w base v1 v2 j1 j2 V G W) (hb : Below W.heap.size W W') : Tw w base v1 v2 j1 j2 V G W' :=
  ⟨own_up h.o1 hb, own_up h.o2 hb, h.bel.trans (hb.mono h.bel.size), h.hb, Nat.le_trans h.hs hb.size⟩
theorem Tw.alloc {w : World} {base : Nat} {v1 v2 : Value} {j1 j2 : Nat} {V : Nat → Int} {G : Nat → Bool} {W : World} (h : Tw w base v1 v2 j1 j2 V G W) (o : Obj) : Tw w base v1 v2 j1 j2 V G (W.alloc o) := h.up ((Below.refl _ _).alloc (Nat.le_refl _) o)
theorem Tw.drew {w : World} {base : Nat} {v1 v2 : Value} {j1 j2 : Nat} {V : Nat → Int} {G : Nat → Bool} {W : World} (h : Tw w base v1 v2 j1 j2 V G W) : Tw w base v1 v2 j1 j2 V G W.drew := h.up ⟨rfl, rfl, rfl, Nat.le_refl _, fun _ _ => rfl⟩
theorem Tw.one {w : World} {base : Nat} {v1 v2 v' : Value} {j1 j2 : Nat} {V V' : Nat → Int} {G : Nat → Bool} {W W' : World} {x : Int} (h : Tw w base v1 v2 j1 j2 V G W) (ho : W'.ownsRow base 3 1 v' (j1 + 1) (vL (iC V) j1 ++ [.int .i64 x])) (hg : W.grownBy W' v1.ownBlock) (he : ∀ i, i < j1 → V i = V' i) (hx : x = V' j1) : Tw w base v' v2 (j1 + 1) j2 V' G W' :=
  ⟨own_next ho (fun i hi => by unfold iC; rw [he i hi]) (by unfold iC; rw [hx]), own_grown h.o2 hg (kind_ne h.o1 h.o2 (by decide)), Gg.below_own h.bel (Nat.le_refl _) hg (fun k hk => Nat.le_trans h.hb (own_block h.o1 k hk)), h.hb, Nat.le_trans h.hs hg.size⟩
theorem Tw.two {w : World} {base : Nat} {v1 v2 v' : Value} {j1 j2 : Nat} {V : Nat → Int} {G G' : Nat → Bool} {W W' : World} {x : Bool} (h : Tw w base v1 v2 j1 j2 V G W) (ho : W'.ownsRow base 4 1 v' (j2 + 1) (vL (bC G) j2 ++ [.bool x])) (hg : W.grownBy W' v2.ownBlock) (he : ∀ i, i < j2 → G i = G' i) (hx : x = G' j2) : Tw w base v1 v' j1 (j2 + 1) V G' W' :=
  ⟨own_grown h.o1 hg (kind_ne h.o2 h.o1 (by decide)), own_next ho (fun i hi => by unfold bC; rw [he i hi]) (by unfold bC; rw [hx]), Gg.below_own h.bel (Nat.le_refl _) hg (fun k hk => Nat.le_trans h.hb (own_block h.o2 k hk)), h.hb, Nat.le_trans h.hs hg.size⟩
theorem one_news {w : World} {blk : Nat} {u : Value} (h : w.cell? ⟨blk, 0, none⟩ = some u) : ∀ j x, [u][j]? = some x → w.cell? ((⟨blk, 0, none⟩ : Addr).add j) = some x := by
  intro j x hj
  match j, hj with
  | 0, hj => simp at hj; subst hj; rw [add_plain]; exact h
set_option maxRecDepth 100000 in
set_option maxHeartbeats 4000000 in
theorem vo_walk (a0 : Option Addr) (len0 cap0 : Nat) (z : Nat → Int) (w : World) (hn : len0 ≤ 9223372036854775807) (hz : ∀ i, -9223372036854775808 ≤ z i ∧ z i ≤ 9223372036854775807) (hr : Rd w a0 len0 z) :
    Calls Try.prog 6 #[.slice a0 len0 cap0] w fun e w' => e = .returned (.bool true) ∧ Below w.heap.size w w' := by
  obtain ⟨i0, hi, hz0, hz1, hz2⟩ := info_parts Try.infoI
  obtain ⟨i1, hj, hw0, hw1, hw2⟩ := info_parts Try.infoL
  have HR := Lib.hid hr
  have HZ := Lib.hid hz
  clear hr hz
  go_enter Try.func6, Try.ntmps6
  go_wp2_with (first
    | (go_at_call 11; refine (new_any a0 len0 cap0 z w hn HZ.out HR.out).mono ?_; rintro e w1 ⟨rfl, hd1, hb1⟩; have HD1 := Lib.hid hd1; have HB1 := Lib.hid hb1; clear hd1 hb1)
    | (go_at_call 21; refine (goods_any w.heap.size a0 len0 cap0 z 12 w1 HD1.out (by omega)).mono ?_; rintro e w2 ⟨u1, u2, n, V, G, rfl, hn12, hgw⟩; obtain ⟨p1, c1, rfl, hr1, _⟩ := own_rd hgw.o1; obtain ⟨p2, c2, rfl, hr2, _⟩ := own_rd hgw.o2; have HB2 : Hid (Below w.heap.size w w2) := below_grown HB1.out (Nat.le_refl _) hgw.gr (Nat.le_refl _); have HR1 := Lib.hid hr1; have HR2 := Lib.hid hr2; have HBD := Lib.hid hgw.bd; clear hgw hr1 hr2)
    | (go_at_call 22; refine (pvt_ok p1 p2 n c1 c2 V G w2 (by omega) HR1.out HR2.out).mono ?_; rintro e w3 ⟨rfl, hb3⟩; have HB3 : Hid (Below w.heap.size w w3) := HB2.out.trans (hb3.mono HB2.out.size); have HS1 : Hid (Rd w3 p1 n V) := (RdV.below (C := iC V) HR1.out hb3 (Nat.le_refl _)); have HS2 : Hid (RdL w3 p2 n G) := (RdV.below (C := bC G) HR2.out hb3 (Nat.le_refl _)); clear hb3))
  clear HD1 HB1 HB2 HR1 HR2 HZ HR
  have hni : (n : Int) ≤ 12 := by omega
  have hab := vt_bd (V := V) (G := G) (n := n) (a := 0) (b := 59) (fun i hi _ => HBD.out i hi) (by omega) (by omega)
  have HVM : Hid (0 < (gdL V G n).length → ctD G n < 2 * upN V G (vtI V G n) n ∧ ctD G n ≤ 2 * dnN V G (vtI V G n) n) := vote_mid
  have HVN : Hid ((gdL V G n).length = 0 → vtI V G n = 0) := fun h => (vt_none h).1
  have HVB : Hid (vtB V G n = decide (0 < (gdL V G n).length)) := rfl
  have HCL := Lib.hid (ct_len V G n)
  have HRV := Lib.hid (vote_rev V G n)
  generalize hav : vtI V G n = av at *
  generalize hbv : vtB V G n = bv at *
  clear hav hbv
  go_loop [8, 9, 10, 32] (fun s8 s9 s10 i => ∃ k : Nat, k ≤ n ∧ i = .int .i64 k ∧ s8 = .int .i64 (ctD G k) ∧ s9 = .int .i64 (upN V G av k) ∧ s10 = .int .i64 (dnN V G av k) ∧ (0 ≤ upN V G av k ∧ upN V G av k ≤ k) ∧ 0 ≤ dnN V G av k ∧ dnN V G av k ≤ k) (fun _ _ _ i => n - (intOf i).toNat)
  case atStart => exact ⟨0, Nat.zero_le _, rfl, rfl, rfl, rfl, ⟨Int.le_refl _, Int.le_refl _⟩, Int.le_refl _, Int.le_refl _⟩
  case round =>
    obtain ⟨k, hk, rfl, rfl, rfl, rfl, ⟨hu0, hu1⟩, hd0, hd1⟩ := hrel
    have hcb := ct_bd G k
    by_cases hlt : k < n
    · obtain ⟨b1, o1, rfl, l1, d1⟩ := HS1.out (by omega)
      obtain ⟨b2, o2, rfl, l2, d2⟩ := HS2.out (by omega)
      have e1 := d1 k hlt
      have e2 := d2 k hlt
      have hkn : (k : Int) < (n : Int) := by omega
      clear d1 d2
      cases hg : G k with
      | false =>
        rw [hg] at e2
        have q1 : Hid (ctD G (k + 1) = ctD G k) := ct_no hg
        have q2 : Hid (upN V G av (k + 1) = upN V G av k) := if_neg (by rw [hg]; simp)
        have q3 : Hid (dnN V G av (k + 1) = dnN V G av k) := if_neg (by rw [hg]; simp)
        clear hg
        go_wp2
        go_round
        case rel => exact ⟨k + 1, by omega, by go_num, by rw [q1.out], by rw [q2.out], by rw [q3.out], ⟨by rw [q2.out]; omega, by rw [q2.out]; omega⟩, by rw [q3.out]; omega, by rw [q3.out]; omega⟩
        case measure => simp [intOf]; omega
      | true =>
        rw [hg] at e2
        have q1 : Hid (ctD G (k + 1) = ctD G k + 1) := ct_yes hg
        by_cases h1 : av ≤ V k
        · have q2 : Hid (upN V G av (k + 1) = upN V G av k + 1) := if_pos ⟨hg, h1⟩
          by_cases h2 : V k ≤ av
          · have q3 : Hid (dnN V G av (k + 1) = dnN V G av k + 1) := if_pos ⟨hg, h2⟩
            clear hg
            go_wp2
            go_round
            case rel => exact ⟨k + 1, by omega, by go_num, by rw [q1.out], by rw [q2.out], by rw [q3.out], ⟨by rw [q2.out]; omega, by rw [q2.out]; push_cast; omega⟩, by rw [q3.out]; omega, by rw [q3.out]; push_cast; omega⟩
            case measure => simp [intOf]; omega
          · have q3 : Hid (dnN V G av (k + 1) = dnN V G av k) := if_neg (fun h => h2 h.2)
            clear hg
            go_wp2
            go_round
            case rel => exact ⟨k + 1, by omega, by go_num, by rw [q1.out], by rw [q2.out], by rw [q3.out], ⟨by rw [q2.out]; omega, by rw [q2.out]; push_cast; omega⟩, by rw [q3.out]; omega, by rw [q3.out]; push_cast; omega⟩
            case measure => simp [intOf]; omega
        · have q2 : Hid (upN V G av (k + 1) = upN V G av k) := if_neg (fun h => h1 h.2)
          have h2 : V k ≤ av := by omega
          have q3 : Hid (dnN V G av (k + 1) = dnN V G av k + 1) := if_pos ⟨hg, h2⟩
          clear hg
          go_wp2
          go_round
          case rel => exact ⟨k + 1, by omega, by go_num, by rw [q1.out], by rw [q2.out], by rw [q3.out], ⟨by rw [q2.out]; omega, by rw [q2.out]; push_cast; omega⟩, by rw [q3.out]; omega, by rw [q3.out]; push_cast; omega⟩
          case measure => simp [intOf]; omega
    · obtain rfl : k = n := by omega
      cases bv with
      | false =>
        have hl0 : (gdL V G k).length = 0 := by have := HVB.out; simp at this; simpa using this
        have hc0 : ctD G k = 0 := by rw [HCL.out, hl0]; rfl
        have ha0 := HVN.out hl0
        clear HVM HVB HCL HRV HVN
        have ec : (ctD G k == 0) = true := by simp [hc0]
        have ea : (av == 0) = true := by simp [ha0]
        clear hc0 ha0 hl0
        go_wp2_with (go_at_call 20; refine (awk_later (w4 := w3) _ (Below.refl _ _)).mono ?_; rintro e w4 ⟨rfl, hb4⟩)
        go_ret
        exact ⟨rfl, HB3.out.trans (hb4.out.mono HB3.out.size)⟩
      | true =>
        have hl0 : 0 < (gdL V G k).length := by have := HVB.out; simp at this; exact this
        obtain ⟨hv1, hv2⟩ := HVM.out hl0
        have hc0 : 0 < ctD G k := by rw [HCL.out]; omega
        clear HVM HVB HCL HVN hl0
        have hki : (k : Int) ≤ 12 := by omega
        have HT0 : Hid (Tw w3 w3.heap.size (.slice none 0 0) (.slice none 0 0) 0 0 (fun i => V (k - 1 - i)) (fun i => G (k - 1 - i)) w3) := ⟨own_nil _ _ _ _, own_nil _ _ _ _, Below.refl _ _, Nat.le_refl _, Nat.le_refl _⟩
        go_wp2
        go_loopw [12, 13, 14] (fun s12 s13 s14 wr => ∃ (j : Nat) (x : Int) (v1 v2 : Value), v1 = s12 ∧ v2 = s13 ∧ j ≤ k ∧ s14 = .int .i64 x ∧ Hid (x = (k : Int) - 1 - j) ∧ Hid (Tw w3 w3.heap.size v1 v2 j j (fun i => V (k - 1 - i)) (fun i => G (k - 1 - i)) wr)) (fun _ _ s14 _ => (intOf s14 + 1).toNat)
        case atStart => exact ⟨0, _, _, _, rfl, rfl, Nat.zero_le _, rfl, by show _ = _; simp, HT0⟩
        case round =>
          clear HT0
          obtain ⟨j, x, v1, v2, rfl, rfl, hjk, rfl, hx, ht⟩ := hrel
          have hb := Lib.hid ht.out.bel
          by_cases hjl : j < k
          · obtain ⟨q, hq⟩ : ∃ q : Nat, x = (q : Int) := ⟨x.toNat, by have := hx.out; omega⟩
            have hqk : q < k := by have := hx.out; omega
            have hqj : k - 1 - j = q := by have := hx.out; omega
            have HQ : Hid ((q : Int) - 1 = (k : Int) - 1 - (j + 1 : Nat)) := by show _ = _; have := hx.out; push_cast; omega
            subst hq
            obtain ⟨b1, o1, rfl, l1, d1⟩ := HS1.out (by omega)
            obtain ⟨b2, o2, rfl, l2, d2⟩ := HS2.out (by omega)
            have hl1 := l1
            have hl2 := l2
            have hsz := hb.out.size
            have e1 : wr.cell? ⟨b1, o1 + q, none⟩ = some (.int .i64 (V q)) := (hb.out.cell (p := ⟨b1, o1 + q, none⟩) l1).trans (d1 q hqk)
            have e2 : wr.cell? ⟨b2, o2 + q, none⟩ = some (.bool (G q)) := (hb.out.cell (p := ⟨b2, o2 + q, none⟩) l2).trans (d2 q hqk)
            have HX1 : Hid (V q = (fun i => V (k - 1 - i)) j) := by show _ = V (k - 1 - j); rw [hqj]
            have HX2 : Hid (G q = (fun i => G (k - 1 - i)) j) := by show _ = G (k - 1 - j); rw [hqj]
            have hqi : (q : Int) < (k : Int) := by omega
            have hqi0 : (0 : Int) ≤ (q : Int) := by omega
            generalize V q = vq at *
            generalize G q = gq at *
            have F1a : Hid (∀ o, (wr.alloc o).cell? ⟨b1, o1 + q, none⟩ = some (.int .i64 vq)) := fun o => (((Below.refl wr.heap.size wr).alloc (Nat.le_refl _) o).cell (p := ⟨b1, o1 + q, none⟩) (Nat.lt_of_lt_of_le l1 hsz)).trans e1
            have F1b : Hid (∀ o o', ((wr.alloc o).alloc o').cell? ⟨b1, o1 + q, none⟩ = some (.int .i64 vq)) := fun o o' => ((((Below.refl wr.heap.size wr).alloc (Nat.le_refl _) o).alloc (by simp) o').cell (p := ⟨b1, o1 + q, none⟩) (Nat.lt_of_lt_of_le l1 hsz)).trans e1
            have F2a : Hid (∀ o, (wr.alloc o).cell? ⟨b2, o2 + q, none⟩ = some (.bool gq)) := fun o => (((Below.refl wr.heap.size wr).alloc (Nat.le_refl _) o).cell (p := ⟨b2, o2 + q, none⟩) (Nat.lt_of_lt_of_le l2 hsz)).trans e2
            have F2b : Hid (∀ o o', ((wr.alloc o).alloc o').cell? ⟨b2, o2 + q, none⟩ = some (.bool gq)) := fun o o' => ((((Below.refl wr.heap.size wr).alloc (Nat.le_refl _) o).alloc (by simp) o').cell (p := ⟨b2, o2 + q, none⟩) (Nat.lt_of_lt_of_le l2 hsz)).trans e2
            have g1a := F1a.out
            have g2a := F2a.out
            have NW11 : Hid (∀ j u, [Value.int .i64 vq][j]? = some u → (wr.alloc (.cells #[.int .i64 vq] 3)).cell? ((⟨wr.heap.size, 0, none⟩ : Addr).add j) = some u) := cell_one _ _ _
            have NW21 : Hid (∀ j u, [Value.bool gq][j]? = some u → (wr.alloc (.cells #[.bool gq] 4)).cell? ((⟨wr.heap.size, 0, none⟩ : Addr).add j) = some u) := cell_one _ _ _
            have NW11b : Hid (∀ o, ∀ j u, [Value.int .i64 vq][j]? = some u → ((wr.alloc (.cells #[.int .i64 vq] 3)).alloc o).cell? ((⟨wr.heap.size, 0, none⟩ : Addr).add j) = some u) := fun o => one_news (by simp)
            have NW21b : Hid (∀ o, ∀ j u, [Value.bool gq][j]? = some u → ((wr.alloc (.cells #[.bool gq] 4)).alloc o).cell? ((⟨wr.heap.size, 0, none⟩ : Addr).add j) = some u) := fun o => one_news (by simp)
            have NW12 : Hid (∀ o, ∀ j u, [Value.int .i64 vq][j]? = some u → ((wr.alloc o).alloc (.cells #[.int .i64 vq] 3)).cell? ((⟨wr.heap.size + 1, 0, none⟩ : Addr).add j) = some u) := fun o => one_news (by simp)
            have NW22 : Hid (∀ o, ∀ j u, [Value.bool gq][j]? = some u → ((wr.alloc o).alloc (.cells #[.bool gq] 4)).cell? ((⟨wr.heap.size + 1, 0, none⟩ : Addr).add j) = some u) := fun o => one_news (by simp)
            clear d1 d2 l1 l2 hqj hx
            go_upto_region 22 with (fail)
            go_region_law (first
              | (refine step_app rfl (.tmp 76) (.tmp 81) 26 rfl w3.heap.size 3 i0 (.int .i64 0) 1 8 Try.underlying26 hi hz0 hz1 hz2 rfl (by decide) v1 j (vL (iC (fun i => V (k - 1 - i))) j) ?_ (by first | exact (ht.out.alloc _).o1 | exact ((ht.out.alloc _).alloc _).o1) (some ⟨wr.heap.size, 0, none⟩) 1 1 [.int .i64 vq] ?_ (fun h => by cases h) rfl (fun ad h => by cases h; first | exact NW11.out | exact NW11b.out _ | exact NW12.out _) (by intro u hu; simp at hu; subst hu; rfl) (by unfold maxLen; omega) (by omega) (by have := hb.out.size; simp; omega) ?_; (· (simp [Act.eval]; done)); (· (simp [Act.eval]; done)); intro u1 w15 ho1 hg1 _; have HT1 := Lib.hid (Tw.one (V' := fun i => V (k - 1 - i)) (by first | exact (ht.out.alloc _).drew | exact ((ht.out.alloc _).alloc _).drew) ho1 hg1 (fun _ _ => rfl) HX1.out); have f1 : w15.cell? ⟨b2, o2 + q, none⟩ = some (.bool gq) := hg1.cell (by first | exact F2a.out _ | exact F2b.out _ _) (by intro e; have h9 := own_block ht.out.o1 _ e.symm; have h8 : b2 < w3.heap.size := hl2; change w3.heap.size ≤ b2 at h9; omega); have HL1 := Lib.hid (fun (blk : Nat) (u : Value) (h7 : wr.heap.size ≤ blk) h6 => hg1.cell (a := ⟨blk, 0, none⟩) (v := u) h6 (by intro e; have h9 := ht.out.o1.lt _ e.symm; change _ ∧ blk < wr.heap.size at h9; omega)); clear ho1)
              | (refine step_app rfl (.tmp 76) (.tmp 81) 26 rfl w3.heap.size 3 i0 (.int .i64 0) 1 8 Try.underlying26 hi hz0 hz1 hz2 rfl (by decide) v1 j (vL (iC (fun i => V (k - 1 - i))) j) ?_ (by first | exact (ht.out.alloc _).o1 | exact ((ht.out.alloc _).alloc _).o1) (some ⟨wr.heap.size + 1, 0, none⟩) 1 1 [.int .i64 vq] ?_ (fun h => by cases h) rfl (fun ad h => by cases h; first | exact NW11.out | exact NW11b.out _ | exact NW12.out _) (by intro u hu; simp at hu; subst hu; rfl) (by unfold maxLen; omega) (by omega) (by have := hb.out.size; simp; omega) ?_; (· (simp [Act.eval]; done)); (· (simp [Act.eval]; done)); intro u1 w15 ho1 hg1 _; have HT1 := Lib.hid (Tw.one (V' := fun i => V (k - 1 - i)) (by first | exact (ht.out.alloc _).drew | exact ((ht.out.alloc _).alloc _).drew) ho1 hg1 (fun _ _ => rfl) HX1.out); have f1 : w15.cell? ⟨b2, o2 + q, none⟩ = some (.bool gq) := hg1.cell (by first | exact F2a.out _ | exact F2b.out _ _) (by intro e; have h9 := own_block ht.out.o1 _ e.symm; have h8 : b2 < w3.heap.size := hl2; change w3.heap.size ≤ b2 at h9; omega); have HL1 := Lib.hid (fun (blk : Nat) (u : Value) (h7 : wr.heap.size ≤ blk) h6 => hg1.cell (a := ⟨blk, 0, none⟩) (v := u) h6 (by intro e; have h9 := ht.out.o1.lt _ e.symm; change _ ∧ blk < wr.heap.size at h9; omega)); clear ho1)
              | (refine step_app rfl (.tmp 83) (.tmp 88) 42 rfl w3.heap.size 4 i1 (.bool false) 1 1 Try.underlying42 hj hw0 hw1 hw2 rfl (by decide) v2 j (vL (bC (fun i => G (k - 1 - i))) j) ?_ (by first | exact (ht.out.alloc _).o2 | exact ((ht.out.alloc _).alloc _).o2) (some ⟨wr.heap.size, 0, none⟩) 1 1 [.bool gq] ?_ (fun h => by cases h) rfl (fun ad h => by cases h; first | exact NW21.out | exact NW21b.out _ | exact NW22.out _) (by intro u hu; simp at hu; subst hu; rfl) (by unfold maxLen; omega) (by omega) (by have := hb.out.size; simp; omega) ?_; (· (simp [Act.eval]; done)); (· (simp [Act.eval]; done)); intro u2 w25 ho2 hg2 _; have HT2 := Lib.hid (Tw.two (G' := fun i => G (k - 1 - i)) (by first | exact (ht.out.alloc _).drew | exact ((ht.out.alloc _).alloc _).drew) ho2 hg2 (fun _ _ => rfl) HX2.out); have f2 : w25.cell? ⟨b1, o1 + q, none⟩ = some (.int .i64 vq) := hg2.cell (by first | exact F1a.out _ | exact F1b.out _ _) (by intro e; have h9 := own_block ht.out.o2 _ e.symm; have h8 : b1 < w3.heap.size := hl1; change w3.heap.size ≤ b1 at h9; omega); have HL2 := Lib.hid (fun (blk : Nat) (u : Value) (h7 : wr.heap.size ≤ blk) h6 => hg2.cell (a := ⟨blk, 0, none⟩) (v := u) h6 (by intro e; have h9 := ht.out.o2.lt _ e.symm; change _ ∧ blk < wr.heap.size at h9; omega)); clear ho2)
              | (refine step_app rfl (.tmp 83) (.tmp 88) 42 rfl w3.heap.size 4 i1 (.bool false) 1 1 Try.underlying42 hj hw0 hw1 hw2 rfl (by decide) v2 j (vL (bC (fun i => G (k - 1 - i))) j) ?_ (by first | exact (ht.out.alloc _).o2 | exact ((ht.out.alloc _).alloc _).o2) (some ⟨wr.heap.size + 1, 0, none⟩) 1 1 [.bool gq] ?_ (fun h => by cases h) rfl (fun ad h => by cases h; first | exact NW21.out | exact NW21b.out _ | exact NW22.out _) (by intro u hu; simp at hu; subst hu; rfl) (by unfold maxLen; omega) (by omega) (by have := hb.out.size; simp; omega) ?_; (· (simp [Act.eval]; done)); (· (simp [Act.eval]; done)); intro u2 w25 ho2 hg2 _; have HT2 := Lib.hid (Tw.two (G' := fun i => G (k - 1 - i)) (by first | exact (ht.out.alloc _).drew | exact ((ht.out.alloc _).alloc _).drew) ho2 hg2 (fun _ _ => rfl) HX2.out); have f2 : w25.cell? ⟨b1, o1 + q, none⟩ = some (.int .i64 vq) := hg2.cell (by first | exact F1a.out _ | exact F1b.out _ _) (by intro e; have h9 := own_block ht.out.o2 _ e.symm; have h8 : b1 < w3.heap.size := hl1; change w3.heap.size ≤ b1 at h9; omega); have HL2 := Lib.hid (fun (blk : Nat) (u : Value) (h7 : wr.heap.size ≤ blk) h6 => hg2.cell (a := ⟨blk, 0, none⟩) (v := u) h6 (by intro e; have h9 := ht.out.o2.lt _ e.symm; change _ ∧ blk < wr.heap.size at h9; omega)); clear ho2)
              | (refine step_app rfl (.tmp 76) (.tmp 81) 26 rfl w3.heap.size 3 i0 (.int .i64 0) 1 8 Try.underlying26 hi hz0 hz1 hz2 rfl (by decide) v1 j (vL (iC (fun i => V (k - 1 - i))) j) ?_ (by first | exact HT2.out.o1 | exact (HT2.out.alloc _).o1) (some ⟨wr.heap.size, 0, none⟩) 1 1 [.int .i64 vq] ?_ (fun h => by cases h) rfl (fun ad h => by cases h; exact one_news (HL2.out _ _ (Nat.le_refl _) (by simp; done))) (by intro u hu; simp at hu; subst hu; rfl) (by unfold maxLen; omega) (by omega) (by have := HT2.out.hs; first | exact this | (simp; omega)) ?_; (· (simp [Act.eval]; done)); (· (simp [Act.eval]; done)); intro u1 wz ho1 hg1 _; have HZ := Lib.hid (Tw.one (V' := fun i => V (k - 1 - i)) (by first | exact HT2.out | exact HT2.out.alloc _ | exact HT2.out.drew | exact (HT2.out.alloc _).drew) ho1 hg1 (fun _ _ => rfl) HX1.out); clear ho1)
              | (refine step_app rfl (.tmp 76) (.tmp 81) 26 rfl w3.heap.size 3 i0 (.int .i64 0) 1 8 Try.underlying26 hi hz0 hz1 hz2 rfl (by decide) v1 j (vL (iC (fun i => V (k - 1 - i))) j) ?_ (by first | exact HT2.out.o1 | exact (HT2.out.alloc _).o1) (some ⟨wr.heap.size + 1, 0, none⟩) 1 1 [.int .i64 vq] ?_ (fun h => by cases h) rfl (fun ad h => by cases h; exact one_news (HL2.out _ _ (by omega) (by simp; done))) (by intro u hu; simp at hu; subst hu; rfl) (by unfold maxLen; omega) (by omega) (by have := HT2.out.hs; first | exact this | (simp; omega)) ?_; (· (simp [Act.eval]; done)); (· (simp [Act.eval]; done)); intro u1 wz ho1 hg1 _; have HZ := Lib.hid (Tw.one (V' := fun i => V (k - 1 - i)) (by first | exact HT2.out | exact HT2.out.alloc _ | exact HT2.out.drew | exact (HT2.out.alloc _).drew) ho1 hg1 (fun _ _ => rfl) HX1.out); clear ho1)
              | (refine step_app rfl (.tmp 76) (.tmp 81) 26 rfl w3.heap.size 3 i0 (.int .i64 0) 1 8 Try.underlying26 hi hz0 hz1 hz2 rfl (by decide) v1 j (vL (iC (fun i => V (k - 1 - i))) j) ?_ (by first | exact HT2.out.o1 | exact (HT2.out.alloc _).o1) (some ⟨w25.heap.size, 0, none⟩) 1 1 [.int .i64 vq] ?_ (fun h => by cases h) rfl (fun ad h => by cases h; exact cell_one _ _ _) (by intro u hu; simp at hu; subst hu; rfl) (by unfold maxLen; omega) (by omega) (by have := HT2.out.hs; first | exact this | (simp; omega)) ?_; (· (simp [Act.eval]; done)); (· (simp [Act.eval]; done)); intro u1 wz ho1 hg1 _; have HZ := Lib.hid (Tw.one (V' := fun i => V (k - 1 - i)) (by first | exact HT2.out | exact HT2.out.alloc _ | exact HT2.out.drew | exact (HT2.out.alloc _).drew) ho1 hg1 (fun _ _ => rfl) HX1.out); clear ho1)
              | (refine step_app rfl (.tmp 83) (.tmp 88) 42 rfl w3.heap.size 4 i1 (.bool false) 1 1 Try.underlying42 hj hw0 hw1 hw2 rfl (by decide) v2 j (vL (bC (fun i => G (k - 1 - i))) j) ?_ (by first | exact HT1.out.o2 | exact (HT1.out.alloc _).o2) (some ⟨wr.heap.size, 0, none⟩) 1 1 [.bool gq] ?_ (fun h => by cases h) rfl (fun ad h => by cases h; exact one_news (HL1.out _ _ (Nat.le_refl _) (by simp; done))) (by intro u hu; simp at hu; subst hu; rfl) (by unfold maxLen; omega) (by omega) (by have := HT1.out.hs; first | exact this | (simp; omega)) ?_; (· (simp [Act.eval]; done)); (· (simp [Act.eval]; done)); intro u2 wz ho2 hg2 _; have HZ := Lib.hid (Tw.two (G' := fun i => G (k - 1 - i)) (by first | exact HT1.out | exact HT1.out.alloc _ | exact HT1.out.drew | exact (HT1.out.alloc _).drew) ho2 hg2 (fun _ _ => rfl) HX2.out); clear ho2)
              | (refine step_app rfl (.tmp 83) (.tmp 88) 42 rfl w3.heap.size 4 i1 (.bool false) 1 1 Try.underlying42 hj hw0 hw1 hw2 rfl (by decide) v2 j (vL (bC (fun i => G (k - 1 - i))) j) ?_ (by first | exact HT1.out.o2 | exact (HT1.out.alloc _).o2) (some ⟨wr.heap.size + 1, 0, none⟩) 1 1 [.bool gq] ?_ (fun h => by cases h) rfl (fun ad h => by cases h; exact one_news (HL1.out _ _ (by omega) (by simp; done))) (by intro u hu; simp at hu; subst hu; rfl) (by unfold maxLen; omega) (by omega) (by have := HT1.out.hs; first | exact this | (simp; omega)) ?_; (· (simp [Act.eval]; done)); (· (simp [Act.eval]; done)); intro u2 wz ho2 hg2 _; have HZ := Lib.hid (Tw.two (G' := fun i => G (k - 1 - i)) (by first | exact HT1.out | exact HT1.out.alloc _ | exact HT1.out.drew | exact (HT1.out.alloc _).drew) ho2 hg2 (fun _ _ => rfl) HX2.out); clear ho2)
              | (refine step_app rfl (.tmp 83) (.tmp 88) 42 rfl w3.heap.size 4 i1 (.bool false) 1 1 Try.underlying42 hj hw0 hw1 hw2 rfl (by decide) v2 j (vL (bC (fun i => G (k - 1 - i))) j) ?_ (by first | exact HT1.out.o2 | exact (HT1.out.alloc _).o2) (some ⟨w15.heap.size, 0, none⟩) 1 1 [.bool gq] ?_ (fun h => by cases h) rfl (fun ad h => by cases h; exact cell_one _ _ _) (by intro u hu; simp at hu; subst hu; rfl) (by unfold maxLen; omega) (by omega) (by have := HT1.out.hs; first | exact this | (simp; omega)) ?_; (· (simp [Act.eval]; done)); (· (simp [Act.eval]; done)); intro u2 wz ho2 hg2 _; have HZ := Lib.hid (Tw.two (G' := fun i => G (k - 1 - i)) (by first | exact HT1.out | exact HT1.out.alloc _ | exact HT1.out.drew | exact (HT1.out.alloc _).drew) ho2 hg2 (fun _ _ => rfl) HX2.out); clear ho2)
              | fail)
            all_goals go_wp2
            all_goals
              go_roundw
              case rel => exact ⟨j + 1, _, _, _, rfl, rfl, by omega, rfl, HQ, HZ⟩
              case measure => simp [intOf]
          · obtain rfl : j = k := by omega
            have hxn : ¬ (0 : Int) ≤ x := by have := hx.out; omega
            obtain ⟨q1, d1, rfl, r1, _⟩ := own_rd ht.out.o1
            obtain ⟨q2, d2, rfl, r2, _⟩ := own_rd ht.out.o2
            have HV := Lib.hid (pvt_ok q1 q2 j d1 d2 (fun i => V (j - 1 - i)) (fun i => G (j - 1 - i)) wr (by omega) r1 r2)
            rw [HRV.out.1, HRV.out.2] at HV
            clear r1 r2 hx HRV
            go_wp2_with (first
              | (go_at_call 22; refine HV.out.mono ?_; rintro e w6 ⟨rfl, hb6⟩; have HB6 : Hid (Below w.heap.size w w6) := (HB3.out.trans (ht.out.bel.mono HB3.out.size)).trans (hb6.mono (Nat.le_trans HB3.out.size ht.out.hs)); clear hb6)
              | (go_at_call 20; refine (awake_any _).mono ?_; rintro e w7 ⟨rfl, hb7⟩; have HB7 : Hid (Below w.heap.size w w7) := HB6.out.trans (hb7.mono HB6.out.size); clear hb7))
            go_ret
            exact ⟨rfl, HB7.out⟩
end Go.Proofs.Ytkflgiopkopeeaa.Ql

/-
  The walk of the law QuantityShares.
-/
import Derived.Test.YtndfgbnjidfaaaaQuLsc
import Derived.Test.YtndfgbnjidfaaaaQuRsm
namespace Go.Proofs.Ytndfgbnjidfaaaa.Qu
open Go.ChangeShapes Go.WideShapes Go.ChangeAt Go.RowKit
set_option linter.unusedVariables false

/-- Block G holds four lists of at most 4096 integers. -/
def Lists (w : World) (G : Nat) : Prop := ∀ j, j < 4 → ∃ p n c z, w.cell? ⟨G, j, none⟩ = some (.slice p n c) ∧ n ≤ 4096 ∧ Rd w p n z ∧ G < w.heap.size
theorem Lists.below {w w' : World} {G : Nat} (h : Lists w G) (hb : Below w.heap.size w w') : Lists w' G := by
  intro j hj
  obtain ⟨p, n, c, z, h1, h2, h3, h4⟩ := h j hj
  exact ⟨p, n, c, z, (hb.cell (p := ⟨G, j, none⟩) h4).trans h1, h2, h3.below hb (Nat.le_refl _), Nat.lt_of_lt_of_le h4 hb.size⟩
/-- Block H holds three integers. -/
def Amts (w : World) (H : Nat) : Prop := ∀ i, i < 3 → ∃ a, (-9223372036854775808 ≤ a ∧ a ≤ 9223372036854775807) ∧ w.cell? ⟨H, i, none⟩ = some (.int .i64 a) ∧ H < w.heap.size
theorem Amts.below {w w' : World} {H : Nat} (h : Amts w H) (hb : Below w.heap.size w w') : Amts w' H := by
  intro i hi
  obtain ⟨a, h1, h2, h3⟩ := h i hi
  exact ⟨a, h1, (hb.cell (p := ⟨H, i, none⟩) h3).trans h2, Nat.lt_of_lt_of_le h3 hb.size⟩

/-- What both Shares return. -/
def ShQ (m : Nat) (cd : Int) (s : Nat → Int) (w : World) (e : Ending) (w' : World) : Prop :=
  ∃ p cap, e = .returned (.tuple #[.slice p m cap, .int .i64 cd]) ∧ Rd w' p m s ∧ Below w.heap.size w w'
theorem both (a : Int) (n : Nat) (z : Nat → Int) (hn : n ≤ 4096) : ∃ m cd s, m ≤ 4096 ∧
    (∀ (W : World) (p : Option Addr) (c : Nat), Rd W p n z → Calls Try.prog 21 #[.int .i64 a, .slice p n c] W (ShQ m cd s W)) ∧
    (∀ (W : World) (p : Option Addr) (c : Nat), Rd W p n z → Calls Try.prog 22 #[.int .i64 a, .slice p n c] W (ShQ m cd s W)) :=
  ⟨shLen a z n, shCode a z n, shVal a z n, by unfold shLen; split <;> omega, fun W p c hr => share_any a p n c z W hn hr, fun W p c hr => rshare_any a p n c z W hn hr⟩

set_option maxRecDepth 100000 in
set_option maxHeartbeats 8000000 in
theorem lsh_walk (p0 : Option Addr) (n0 c0 : Nat) (z0 : Nat → Int) (p : Option Addr) (n c : Nat) (z : Nat → Int) (am : Int) (w : World) (hr0 : Rd w p0 n0 z0) (hn0 : n0 ≤ 9223372036854775807)
    (hr : Rd w p n z) (hn : n ≤ 9223372036854775807) (hz : ∀ i, -9223372036854775808 ≤ z i ∧ z i ≤ 9223372036854775807)
    (h1 : -9223372036854775808 ≤ am ∧ am ≤ 9223372036854775807) :
    Calls Try.prog 4 #[.slice p0 n0 c0, .slice p n c, .int .i64 am] w fun e w' => e = .returned (.bool true) ∧ Below w.heap.size w w' := by
  by_cases hbig : 300 < n0
  · go_enter Try.func4, Try.ntmps4
    go_wp2_with (go_at_call 20; refine (awake_any _).mono ?_; rintro e w' ⟨rfl, hb4⟩)
    go_ret
    exact ⟨rfl, hb4⟩
  obtain ⟨i0, hi, hz0, hz1, hz2⟩ := info_parts Try.info3
  have HR0 := Lib.hid hr0
  have HR := Lib.hid hr
  have HZ := Lib.hid hz
  have HF := Lib.hid (mdF_bd z 30 (by omega) (by omega))
  have hs0 : (n0 : Int) ≤ 300 := by omega
  clear hr0 hr hz hbig
  go_enter Try.func4, Try.ntmps4
  go_wp2
  go_loopw [7, 8] (fun v i wr => ∃ k : Nat, k ≤ 12 ∧ k ≤ n ∧ i = .int .i64 k ∧ Hid (Got wr w.heap.size v k (mdF z 30)) ∧ Hid (Below w.heap.size w wr)) (fun _ i _ => 12 - (intOf i).toNat)
  case atStart => exact ⟨0, by omega, by omega, rfl, got_nil _ _ _, Below.refl _ _⟩
  case round =>
    obtain ⟨k, hkL, hkn, rfl, hgot, hbel⟩ := hrel
    by_cases hgo : k < n ∧ k < 12
    · obtain ⟨hlt, hl2⟩ := hgo
      have e1 : decide ((k : Int) < (n : Int)) = true := by rw [decide_eq_true_eq]; omega
      obtain ⟨b, off, rfl, hb, hc⟩ := HR.out (by omega)
      have h5 : wr.cell? ⟨b, off + k, none⟩ = some (.int .i64 (z k)) := (hbel.out.cell (p := ⟨b, off + k, none⟩) hb).trans (hc k hlt)
      have h6 := HZ.out k
      have a1 := md_lo (z k) 30 (by omega)
      have a2 := md_hi (z k) 30 (by omega)
      obtain ⟨x, hx⟩ : ∃ x, x = mdF z 30 k := ⟨_, rfl⟩
      have HX := Lib.hid hx
      have HX2 := Lib.hid (show md (z k) 30 = x from hx.symm)
      clear hx a1 a2 hc
      go_wp2_with (first | (go_at_call 9; refine (mod_any _ _ _ (by omega) (by omega) (by omega)).mono ?_; rintro e w' ⟨rfl, rfl⟩; rw [HX2.out]) | (at_builtin; refine wpList_append_own _ rfl _ _ 38 rfl w.heap.size 3 i0 (.int .i64 0) 1 8 Try.underlying38 hi hz0 hz1 hz2 rfl (by decide) _ k _ rfl (hgot.out.alloc _) ⟨wr.heap.size, 0, none⟩ 1 1 [.int .i64 x] rfl rfl ?c1 ?c2 ?c3 ?c4 ?c5 ?_))
      case c1 =>
        intro j u hj
        match j, hj with
        | 0, hj => simp at hj; subst hj; simp [Addr.add]
      case c2 => intro u hu; simp at hu; subst hu; rfl
      case c3 => unfold maxLen; omega
      case c4 => omega
      case c5 => have := hbel.out.size; simp; omega
      intro v' w2 hown' hgrow hnil
      obtain ⟨g, cap, rfl, hcell, hgot'⟩ := got_next hown' HX.out
      have HG := Lib.hid hgot'
      have HB := Lib.hid ((hbel.out.alloc hbel.out.size _).grown hgrow (by have := hbel.out.size; simp; omega) (fun k hk => got_block hgot.out k hk))
      clear hown' hgrow hnil hgot' hgot hbel h5
      go_wp2
      go_roundw
      case rel => exact ⟨k + 1, by omega, by omega, by go_num, HG, HB⟩
      case measure => simp [intOf]; omega
    · have hex : (decide ((k : Int) < (n : Int)) = false ∧ (n : Int) ≤ (k : Int)) ∨ (decide ((k : Int) < (n : Int)) = true ∧ (k : Int) < (n : Int) ∧ (12 : Int) ≤ (k : Int) ∧ decide ((k : Int) < 12) = false) := by
        by_cases h : k < n
        · exact .inr ⟨by rw [decide_eq_true_eq]; omega, by omega, by omega, by rw [decide_eq_false_iff_not]; omega⟩
        · exact .inl ⟨by rw [decide_eq_false_iff_not]; omega, by omega⟩
      obtain ⟨q, cp, rfl, hrd⟩ := got_rd hgot.out
      have hsz := hbel.out.size
      have HL : ∀ o1 o3, Lists ((wr.alloc (.cells #[.int .i64 0, .int .i64 0] o1)).alloc (.cells #[.slice p0 n0 c0, .slice q k cp, .slice none 0 0, .slice (some ⟨wr.heap.size, 0, none⟩) 2 2] o3)) (wr.heap.size + 1) := by
        intro o1 o3 j hj
        have hbw : Below wr.heap.size wr ((wr.alloc (.cells #[.int .i64 0, .int .i64 0] o1)).alloc (.cells #[.slice p0 n0 c0, .slice q k cp, .slice none 0 0, .slice (some ⟨wr.heap.size, 0, none⟩) 2 2] o3)) := ((Below.refl wr.heap.size wr).alloc (Nat.le_refl _) _).alloc (by simp) _
        match j, hj with
        | 0, _ => exact ⟨p0, n0, c0, z0, by simp, by omega, (HR0.out.below (hbel.out.trans (hbw.mono hsz)) (Nat.le_refl _)), by simp⟩
        | 1, _ => exact ⟨q, k, cp, mdF z 30, by simp, by omega, hrd.below hbw (Nat.le_refl _), by simp⟩
        | 2, _ => exact ⟨none, 0, 0, fun _ => 0, by simp, by omega, fun h => absurd h (Nat.lt_irrefl _), by simp⟩
        | 3, _ =>
          refine ⟨some ⟨wr.heap.size, 0, none⟩, 2, 2, fun _ => 0, by simp, by omega, fun _ => ⟨wr.heap.size, 0, rfl, by simp; omega, fun i hi => ?_⟩, by simp⟩
          match i, hi with
          | 0, _ => simp
          | 1, _ => simp
      have HLI := Lib.hid HL
      clear HL hrd hgot hgo
      rcases hex with ⟨e1, e3⟩ | ⟨e1, e3, e4, e2⟩
      all_goals
        go_wp2
        have HL0 := Lib.hid (HLI.out 3 38)
        have HB0 := Lib.hid ((hbel.out.alloc hsz (.cells #[.int .i64 0, .int .i64 0] 3)).alloc (by simp; omega) (.cells #[.slice p0 n0 c0, .slice q k cp, .slice none 0 0, .slice (some ⟨wr.heap.size, 0, none⟩) 2 2] 38))
        clear HLI hbel HR HR0 HZ HF hi hz0 hz1 hz2 e1 e3
        generalize (wr.alloc (Obj.cells #[Value.int .i64 0, Value.int .i64 0] 3)).alloc (Obj.cells #[Value.slice p0 n0 c0, Value.slice q k cp, Value.slice none 0 0, Value.slice (some ⟨wr.heap.size, 0, none⟩) 2 2] 38) = w3 at *
        generalize hG : wr.heap.size + 1 = G at *
        clear hG
        go_loopw [44] (fun i wx => ∃ j : Nat, j ≤ 4 ∧ i = .int .i64 j ∧ Hid (Lists wx G) ∧ Hid (Below w.heap.size w wx)) (fun i _ => 4 - (intOf i).toNat)
        case atStart => exact ⟨0, by omega, rfl, HL0, HB0⟩
        case round =>
          clear HL0 HB0
          obtain ⟨j, hj, rfl, hli, hbe⟩ := hrel
          obtain ⟨wo, rfl⟩ : ∃ wo : World, wo = wr := ⟨_, rfl⟩
          by_cases hj4 : j < 4
          · obtain ⟨pp, nn, cc, zz, f1, f2, f3, f4⟩ := hli.out j hj4
            have HRZ := Lib.hid f3
            have y1 := md_lo am 100 (by omega)
            have y2 := md_hi am 100 (by omega)
            have y3 := md_lo am 274877906945 (by omega)
            have y4 := md_hi am 274877906945 (by omega)
            clear f3
            go_wp2_with (go_at_call 9; refine (mod_any _ _ _ (by omega) (by omega) (by omega)).mono ?_; rintro e w' ⟨rfl, rfl⟩)
            have HAM : Hid (Amts (wo.alloc (.cells #[.int .i64 am, .int .i64 (md am 100), .int .i64 (md am 274877906945)] 3)) wo.heap.size) := by
              intro i hi
              match i, hi with
              | 0, _ => exact ⟨am, h1, by simp, by simp⟩
              | 1, _ => exact ⟨md am 100, by omega, by simp, by simp⟩
              | 2, _ => exact ⟨md am 274877906945, by omega, by simp, by simp⟩
            have hb1 : Below wo.heap.size wo (wo.alloc (.cells #[.int .i64 am, .int .i64 (md am 100), .int .i64 (md am 274877906945)] 3)) := (Below.refl _ _).alloc (Nat.le_refl _) _
            have HL1 := Lib.hid (hli.out.below hb1)
            have HZ1 := Lib.hid (HRZ.out.below hb1 (Nat.le_refl _))
            have HB1 := Lib.hid (hbe.out.trans (hb1.mono hbe.out.size))
            clear hb1 hli hbe HRZ f1 f4 y1 y2 y3 y4
            generalize wo.alloc (Obj.cells #[Value.int .i64 am, Value.int .i64 (md am 100), Value.int .i64 (md am 274877906945)] 3) = w4 at *
            generalize wo.heap.size = H at *
            go_loopw [55] (fun i wx => ∃ m : Nat, m ≤ 3 ∧ i = .int .i64 m ∧ Hid (Lists wx G) ∧ Hid (Rd wx pp nn zz) ∧ Hid (Amts wx H) ∧ Hid (Below w.heap.size w wx)) (fun i _ => 3 - (intOf i).toNat)
            case atStart => exact ⟨0, by omega, rfl, HL1, HZ1, HAM, HB1⟩
            case round =>
              clear HL1 HZ1 HAM HB1
              obtain ⟨m, hm, rfl, hl, hzz, ham, hbx⟩ := hrel
              by_cases hm3 : m < 3
              · obtain ⟨aa, f5, f6, f7⟩ := ham.out m hm3
                obtain ⟨M, cd, s, hM, hS1, hS2⟩ := both aa nn zz f2
                have HS1 := Lib.hid (hS1 _ pp cc hzz.out)
                have HS2 := Lib.hid hS2
                clear hS1 hS2
                have dcd : (cd != cd) = false := by simp
                go_wp2_with (first | (go_at_call 21; refine HS1.out.mono ?_; rintro e w5 ⟨p1, c1, rfl, hr1, hb5⟩) | (go_at_call 22; refine (HS2.out _ pp cc (hzz.out.below hb5 (Nat.le_refl _))).mono ?_; rintro e w6 ⟨p2, c2, rfl, hr2, hb6⟩) | (go_at_call 23; refine (same_eq p1 p2 M c1 c2 s s _ (by omega) (hr1.below hb6 (Nat.le_refl _)) hr2).mono ?_; rintro e w7 ⟨rfl, q7, rfl⟩; rw [eqB_of (fun i _ => rfl)]))
                go_roundw
                case rel =>
                  have hb56 := hb5.trans (hb6.mono hb5.size)
                  exact ⟨m + 1, by omega, by go_num, (hl.out.below hb56).below (Below.drewN (Below.refl _ _) _), (hzz.out.below hb56 (Nat.le_refl _)).drewN _, (ham.out.below hb56).below (Below.drewN (Below.refl _ _) _), Below.drewN (hbx.out.trans (hb56.mono hbx.out.size)) _⟩
                case measure => simp [intOf]; omega
              · obtain rfl : m = 3 := by omega
                go_wp2
                go_roundw
                case rel => exact ⟨j + 1, by omega, by go_num, hl, hbx⟩
                case measure => simp [intOf]; omega
          · obtain rfl : j = 4 := by omega
            go_wp2_with (go_at_call 20; refine (awake_any _).mono ?_; rintro e w' ⟨rfl, hb4⟩)
            go_ret
            exact ⟨rfl, hbe.out.trans (hb4.mono hbe.out.size)⟩
end Go.Proofs.Ytndfgbnjidfaaaa.Qu

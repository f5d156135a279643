/-
  The walk of the law RulecurveSurplus.
-/
import Derived.Test.YtdblppbjlgmccaaRuAwk
namespace Go.Proofs.Ytdblppbjlgmccaa.Ru
open Go.ChangeShapes Go.WideShapes Go.ChangeAt Go.RowKit
open Go.Proofs.Ytdblppbjlgmccaa.Cu
open Go.Proofs.Ytdblppbjlgmccaa.Ca (dayB)
set_option linter.unusedVariables false

theorem awk5_later {w5 : World} (W : World) (h : Hid (Below w5.heap.size w5 W)) : Calls Try.prog 8 #[] W fun e w' => e = .returned (.bool true) ∧ Hid (Below w5.heap.size w5 w') :=
  (awake5_any W).mono fun e w' ⟨he, hb⟩ => ⟨he, h.out.trans (hb.mono h.out.size)⟩
theorem pair_later5 {w5 W : World} {x er : Int} {f : FuncId} {args : Array Value} (h : Calls Try.prog f args W (PairP x er W)) (hb : Hid (Below w5.heap.size w5 W)) : Calls Try.prog f args W fun en w' => en = .returned (.tuple #[.int .i64 x, .int .i64 er]) ∧ Hid (Below w5.heap.size w5 w') :=
  h.mono fun _ _ ⟨he, h⟩ => ⟨he, hb.out.trans (h.mono hb.out.size)⟩
theorem at_valid {X Y : Nat → Int} {n : Nat} (hr : Rc X Y n) (d : Int) (h0 : 0 ≤ d) (h1 : d ≤ 364) : atV X Y n d = rl X Y n d ∧ atE X Y n d = 0 := by
  unfold atV atE
  rw [(rc_iff X Y n).2 hr, dayB_iff.2 ⟨h0, h1⟩]
  exact ⟨rfl, rfl⟩
/-- At of a valid curve at any later world. -/
theorem at_later {w5 : World} {b n : Nat} {X Y : Nat → Int} (hp : Pts w5 b 0 n X Y) (c : Nat) (hnc : n ≤ c) (hr : Rc X Y n) (d : Int) (h0 : 0 ≤ d) (h1 : d ≤ 364) :
    ∀ W, Hid (Below w5.heap.size w5 W) → Calls Try.prog 18 #[.slice (some ⟨b, 0, none⟩) n c, .int .i64 d] W fun e w' => e = .returned (.tuple #[.int .i64 (rl X Y n d), .int .i64 0]) ∧ Hid (Below w5.heap.size w5 w') := by
  intro W hb
  have h := rat_pkg (some ⟨b, 0, none⟩) n c X Y d W (fun _ => ⟨b, 0, rfl, hp.up hb.out (Nat.le_refl _)⟩) hnc
  rw [(at_valid hr d h0 h1).1, (at_valid hr d h0 h1).2] at h
  exact pair_later5 h hb
theorem rck_later {w5 : World} {b n : Nat} {X Y : Nat → Int} (hp : Pts w5 b 0 n X Y) (c : Nat) :
    ∀ W, Hid (Below w5.heap.size w5 W) → Calls Try.prog 13 #[.slice (some ⟨b, 0, none⟩) n c] W fun e w' => e = .returned (.int .i64 (ckR X Y n)) ∧ Hid (Below w5.heap.size w5 w') := fun W hb =>
  (rrck_any (some ⟨b, 0, none⟩) n c X Y W (fun _ => ⟨b, 0, rfl, hp.up hb.out (Nat.le_refl _)⟩)).mono fun e w' ⟨he, h⟩ => ⟨he, hb.out.trans (h.mono hb.out.size)⟩

/-- What the law looks at, by names. -/
structure Su3 (w5 : World) (b k cap : Nat) (D L F S C : Int) (g2 n2 c2 : Nat) (x v lv vo : Int) : Prop where
  A : ∀ W, Hid (Below w5.heap.size w5 W) → Calls Try.prog 18 #[.slice (some ⟨g2, 0, none⟩) n2 c2, .int .i64 x] W fun e w' => e = .returned (.tuple #[.int .i64 lv, .int .i64 0]) ∧ Hid (Below w5.heap.size w5 w')
  T : ∀ W, Hid (Below w5.heap.size w5 W) → Calls Try.prog 20 #[.agg #[.slice (some ⟨b, 0, none⟩) k cap, .int .i64 D, .int .i64 L, .int .i64 F, .int .i64 S, .int .i64 C], .slice (some ⟨g2, 0, none⟩) n2 c2, .int .i64 x] W fun e w' => e = .returned (.tuple #[.int .i64 vo, .int .i64 0]) ∧ Hid (Below w5.heap.size w5 w')
  U : ∀ W, Hid (Below w5.heap.size w5 W) → Calls Try.prog 22 #[.agg #[.slice (some ⟨b, 0, none⟩) k cap, .int .i64 D, .int .i64 L, .int .i64 F, .int .i64 S, .int .i64 C], .slice (some ⟨g2, 0, none⟩) n2 c2, .int .i64 x, .int .i64 v] W fun e w' => e = .returned (.tuple #[.int .i64 (v - vo), .int .i64 0]) ∧ Hid (Below w5.heap.size w5 w')
  V : ∀ W, Hid (Below w5.heap.size w5 W) → Calls Try.prog 24 #[.agg #[.slice (some ⟨b, 0, none⟩) k cap, .int .i64 D, .int .i64 L, .int .i64 F, .int .i64 S, .int .i64 C], .int .i64 lv] W fun e w' => e = .returned (.tuple #[.int .i64 vo, .int .i64 0]) ∧ Hid (Below w5.heap.size w5 w')
theorem su3_pack {w5 : World} {b k m cap g2 n2 c2 : Nat} {Xr Yr X Y : Nat → Int} {D L F S C : Int} (hk : k = m + 1) (hpr : Pts w5 b 0 k Xr Yr) (hres : Res Xr Yr m D L F S C) (hp : Pts w5 g2 0 n2 X Y) (hnc : n2 ≤ c2) (hr : Rc X Y n2) (x v : Int) (hx : 0 ≤ x ∧ x ≤ 364) (hv : 0 ≤ v ∧ v < 900) :
    ∃ lv vo, Hid (Su3 w5 b k cap D L F S C g2 n2 c2 x v lv vo) ∧ 0 ≤ vo ∧ vo ≤ 274877906944 := by
  have hsc : stC Xr Yr k D L F S C = 0 := by rw [hk]; exact stC_ok hres
  have hRd := fun W (hb : Hid (Below w5.heap.size w5 W)) => show RdP W (some ⟨b, 0, none⟩) k Xr Yr from fun _ => ⟨b, 0, rfl, hpr.up hb.out (Nat.le_refl _)⟩
  have hCd := fun W (hb : Hid (Below w5.heap.size w5 W)) => show RdP W (some ⟨g2, 0, none⟩) n2 X Y from fun _ => ⟨g2, 0, rfl, hp.up hb.out (Nat.le_refl _)⟩
  obtain ⟨e1, e2⟩ := at_valid hr x hx.1 hx.2
  have l0 := rl_ge hr 0 hr.ylo x hx.1 hx.2
  have l1 := rl_le hr 16777216 hr.yhi x hx.1 hx.2
  obtain ⟨v0, v1⟩ := voV_bd hsc (rl X Y n2 x)
  refine ⟨rl X Y n2 x, voV Xr Yr k (rl X Y n2 x), ⟨at_later hp c2 hnc hr x hx.1 hx.2, fun W hb => ?_, fun W hb => ?_, fun W hb => ?_⟩, v0, v1⟩
  · have h := tar_pkg _ n2 c2 X Y _ k cap Xr Yr D L F S C x W (hCd W hb) hnc (hRd W hb)
    rw [hsc, e2] at h
    exact pair_later5 h hb
  · have h := sur_pkg _ n2 c2 X Y _ k cap Xr Yr D L F S C x v W (hCd W hb) hnc (hRd W hb)
    rw [hsc, e2, show inB v 274877906944 = true from inB_yes (by omega)] at h
    exact pair_later5 h hb
  · have h := rvol_any (some ⟨b, 0, none⟩) k cap Xr Yr D L F S C (rl X Y n2 x) W (hRd W hb)
    rw [hsc, show inB (rl X Y n2 x) 16777216 = true from inB_yes (by omega)] at h
    exact pair_later5 h hb

set_option maxRecDepth 100000 in
set_option maxHeartbeats 16000000 in
theorem lsu_walk (p : Option Addr) (n c : Nat) (z : Nat → Int) (x y : Int) (w : World) (hr : RdI w p n z) (hn : n ≤ 9223372036854775807) (hz : ∀ i, -9223372036854775808 ≤ z i ∧ z i ≤ 9223372036854775807)
    (hx : -9223372036854775808 ≤ x ∧ x ≤ 9223372036854775807) (hy : -9223372036854775808 ≤ y ∧ y ≤ 9223372036854775807) :
    Calls Try.prog 6 #[.slice p n c, .int .i64 x, .int .i64 y] w fun e w' => e = .returned (.bool true) ∧ Below w.heap.size w w' := by
  have HN := Lib.hid (new_any p n c z w hn hz hr)
  have HM1 := Lib.hid (fun W => mod_any x 365 W hx (by omega) (by omega))
  have HM2 := Lib.hid (fun W => mod_any y 900 W hy (by omega) (by omega))
  have v1 := md_lo x 365 (by omega)
  have v2 := md_hi x 365 (by omega)
  have n1 := md_lo y 900 (by omega)
  have n2 := md_hi y 900 (by omega)
  clear hr hz hn hx hy
  generalize md x 365 = s at *
  generalize md y 900 = t at *
  go_enter Try.func6, Try.ntmps6
  go_upto_region 3 with (first
    | (go_at_call 9; refine HN.out.mono ?_; rintro e w1 ⟨rfl, hd1, hb1⟩; have HB1 := Lib.hid hb1; clear HN hb1)
    | (go_at_call 10; refine (reservoir_any w.heap.size p n c z _ hd1).mono ?_; rintro e w2 ⟨b, cap, k, m, Xr, Yr, D, L, F, S, C, rfl, hk, m4, hwb, hpt, hres, hbd, hd2, hg2⟩; have HK := Lib.hid hk; have HPT := Lib.hid hpt; have HRS := Lib.hid hres; have HB2 : Hid (Below w.heap.size w w2) := (HB1.out.grown hg2 HB1.out.size (by intro k hk; cases hk; exact Nat.le_refl _)); have hs1 := HB1.out.size; have hwb2 : ¬ b = w.heap.size := (by have := hd1.lt; omega); clear hk hpt hres hbd hg2 hd1)
    | (go_at_call 11; refine (made_any w.heap.size p n c z _ hd2).mono ?_; rintro e w3 ⟨g2, q2, c2, X, Y, rfl, hp3, hqc, hg2w, q1, q6, hd3, hg3⟩; have HP3 := Lib.hid hp3; have HPR := Lib.hid (HPT.out.grown hg3 (by simp; omega)); have HB3 : Hid (Below w.heap.size w w3) := (HB2.out.grown hg3 HB2.out.size (by intro k hk; cases hk; exact Nat.le_refl _)); clear hp3 hg3 hd3 HB1 HB2 HPT hd2))
  have HX := Lib.hid (bx_alloc w3 (some ⟨b, 0, none⟩) k cap D L F S C 24)
  have HP5 := Lib.hid (HPR.out.alloc (.cells #[.slice (some ⟨b, 0, none⟩) k cap, .int .i64 D, .int .i64 L, .int .i64 F, .int .i64 S, .int .i64 C] 24))
  have HQ5 := Lib.hid (HP3.out.alloc (.cells #[.slice (some ⟨b, 0, none⟩) k cap, .int .i64 D, .int .i64 L, .int .i64 F, .int .i64 S, .int .i64 C] 24))
  have HW5 := Lib.hid (HB3.out.alloc HB3.out.size (.cells #[.slice (some ⟨b, 0, none⟩) k cap, .int .i64 D, .int .i64 L, .int .i64 F, .int .i64 S, .int .i64 C] 24))
  clear HPR HP3 HB3
  generalize w3.alloc (.cells #[.slice (some ⟨b, 0, none⟩) k cap, .int .i64 D, .int .i64 L, .int .i64 F, .int .i64 S, .int .i64 C] 24) = w5 at *
  generalize w3.heap.size = kb at *
  have hb5 : Hid (Below w5.heap.size w5 w5) := Below.refl _ _
  have HFin : Hid (∀ W, Hid (Below w5.heap.size w5 W) → Below w.heap.size w W) := fun W h => HW5.out.trans (h.out.mono HW5.out.size)
  have HCel : Hid (∀ W, Hid (Below w5.heap.size w5 W) → Bx W kb (some ⟨b, 0, none⟩) k cap D L F S C) := fun W h => HX.out.below h.out (World.block_lt_of_cell? _ _ HX.out.c0)
  obtain ⟨c0, c1, c2', c3, c4, c5⟩ := HX.out
  have HCK := Lib.hid (rck_later HQ5.out c2)
  by_cases hck : ckR X Y q2 = 0
  · have hrc := (rc_iff X Y q2).1 hck
    obtain ⟨lv, vo, HRI, g3, g4⟩ := su3_pack (cap := cap) HK.out HP5.out HRS.out HQ5.out hqc hrc s t ⟨by omega, by omega⟩ ⟨n1, n2⟩
    rw [hck] at HCK
    clear HX HP5 HQ5 HW5 HRS hrc hck
    have b1 : (vo == vo) = true := by rw [beq_iff_eq]
    have b2 : (t - vo == t - vo) = true := by rw [beq_iff_eq]
    go_wp2_with (first
      | (go_at_call 13; refine (HCK.out _ (by assumption)).mono ?_; clear c0 c1 c2' c3 c4 c5; rintro e w6 ⟨rfl, hb5⟩; have hbx := HCel.out _ hb5; obtain ⟨c0, c1, c2', c3, c4, c5⟩ := hbx)
      | (go_at_call 16; first | (go_at_call_has 16 (Value.int .i64 365); refine (HM1.out _).mono ?_; rintro e w' ⟨rfl, rfl⟩) | (go_at_call_has 16 (Value.int .i64 900); refine (HM2.out _).mono ?_; rintro e w' ⟨rfl, rfl⟩))
      | (go_at_call 18; refine (HRI.out.A _ (by assumption)).mono ?_; clear c0 c1 c2' c3 c4 c5; rintro e w6 ⟨rfl, hb5⟩; have hbx := HCel.out _ hb5; obtain ⟨c0, c1, c2', c3, c4, c5⟩ := hbx)
      | (go_at_call 20; refine (HRI.out.T _ (by assumption)).mono ?_; clear c0 c1 c2' c3 c4 c5; rintro e w6 ⟨rfl, hb5⟩; have hbx := HCel.out _ hb5; obtain ⟨c0, c1, c2', c3, c4, c5⟩ := hbx)
      | (go_at_call 22; refine (HRI.out.U _ (by assumption)).mono ?_; clear c0 c1 c2' c3 c4 c5; rintro e w6 ⟨rfl, hb5⟩; have hbx := HCel.out _ hb5; obtain ⟨c0, c1, c2', c3, c4, c5⟩ := hbx)
      | (go_at_call 24; refine (HRI.out.V _ (by assumption)).mono ?_; clear c0 c1 c2' c3 c4 c5; rintro e w6 ⟨rfl, hb5⟩; have hbx := HCel.out _ hb5; obtain ⟨c0, c1, c2', c3, c4, c5⟩ := hbx)
      | (go_at_call 8; refine (awk5_later _ (by assumption)).mono ?_; rintro e w6 ⟨rfl, hb5⟩))
    go_ret
    exact ⟨rfl, HFin.out _ hb5⟩
  · have hcn : (ckR X Y q2 != 0) = true := by simpa using hck
    generalize ckR X Y q2 = cd at *
    clear HX HP5 HQ5 HW5 HRS hck
    go_wp2_with (first
      | (go_at_call 13; refine (HCK.out _ (by assumption)).mono ?_; clear c0 c1 c2' c3 c4 c5; rintro e w6 ⟨rfl, hb5⟩)
      | (go_at_call 8; refine (awk5_later _ (by assumption)).mono ?_; rintro e w6 ⟨rfl, hb5⟩))
    go_ret
    exact ⟨rfl, HFin.out _ hb5⟩
end Go.Proofs.Ytdblppbjlgmccaa.Ru

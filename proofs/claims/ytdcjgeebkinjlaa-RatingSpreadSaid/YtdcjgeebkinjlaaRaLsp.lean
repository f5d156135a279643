/-
  The walk of the law RatingSpread.
-/
import Derived.Test.YtdcjgeebkinjlaaRaAwk
import Derived.Test.YtdcjgeebkinjlaaCuRow
import Derived.Deep.DeepCutAuto
namespace Go.Proofs.Ytdcjgeebkinjlaa.Ra
open Go.ChangeShapes Go.WideShapes Go.ChangeAt Go.RowKit
open Go.Proofs.Ytdcjgeebkinjlaa.Cu hiding inB inB_yes inB_no exX exY exC exP
open Go.Proofs.Ytdcjgeebkinjlaa.Ca (inB inB_yes inB_no)
open Go.Proofs.Ytdcjgeebkinjlaa.Gg (ckG ckG_zero pck_any Ek Vr)
set_option linter.unusedVariables false

/-- A box of two cells. -/
abbrev B2 (k : Nat) (u v : Value) (W : World) : Prop := W.cell? ⟨k, 0, none⟩ = some u ∧ W.cell? ⟨k, 1, none⟩ = some v
theorem B2.next {k : Nat} {u v : Value} {W W' : World} (h : B2 k u v W) (hb : Below W.heap.size W W') : B2 k u v W' := by
  have l0 := World.block_lt_of_cell? _ _ h.1
  exact ⟨(hb.cell (p := ⟨k, 0, none⟩) l0).trans h.1, (hb.cell (p := ⟨k, 1, none⟩) l0).trans h.2⟩
theorem B2.alloc {k : Nat} {u v : Value} {W : World} (h : B2 k u v W) (o : Obj) : B2 k u v (W.alloc o) := h.next ((Below.refl _ _).alloc (Nat.le_refl _) o)
theorem B2.new (w : World) (u v : Value) (t : TypeId) : B2 w.heap.size u v (w.alloc (.cells #[u, v] t)) := ⟨by simp, by simp⟩

/-- What the law looks at, by names. -/
structure SpC (w2 : World) (b k cap : Nat) (ice x d q al ah bl bh : Int) : Prop where
  F : ∀ W, Hid (Below w2.heap.size w2 W) → Calls Try.prog 10 #[.agg #[.slice (some ⟨b, 0, none⟩) k cap, .int .i64 ice], .agg #[.int .i64 0, .int .i64 0, .int .i64 x, .int .i64 0]] W fun e w' => e = .returned (.tuple #[.int .i64 q, .bool true, .int .i64 0]) ∧ Below W.heap.size W w'
  S0 : ∀ W, Hid (Below w2.heap.size w2 W) → Calls Try.prog 12 #[.agg #[.slice (some ⟨b, 0, none⟩) k cap, .int .i64 ice], .int .i64 x, .int .i64 d] W fun e w' => e = .returned (.tuple #[.agg #[.int .i64 al, .int .i64 ah], .int .i64 0]) ∧ Below W.heap.size W w'
  S1 : ∀ W, Hid (Below w2.heap.size w2 W) → Calls Try.prog 12 #[.agg #[.slice (some ⟨b, 0, none⟩) k cap, .int .i64 ice], .int .i64 x, .int .i64 (d + 1)] W fun e w' => e = .returned (.tuple #[.agg #[.int .i64 bl, .int .i64 bh], .int .i64 0]) ∧ Below W.heap.size W w'
  S2 : ∀ W, Hid (Below w2.heap.size w2 W) → Calls Try.prog 12 #[.agg #[.slice (some ⟨b, 0, none⟩) k cap, .int .i64 ice], .int .i64 x, .int .i64 0] W fun e w' => e = .returned (.tuple #[.agg #[.int .i64 q, .int .i64 q], .int .i64 0]) ∧ Below W.heap.size W w'
theorem sp_pack {w2 : World} {b k m cap : Nat} {X Y : Nat → Int} {ice x d : Int} (hk : k = m + 1) (hp : Pts w2 b 0 k X Y) (hr : Ra X Y m ice) (hx : 0 ≤ x ∧ x < 300) (hd : 0 ≤ d ∧ d < 80) :
    ∃ q al ah bl bh, Hid (SpC w2 b k cap ice x d q al ah bl bh) ∧ al ≤ q ∧ q ≤ ah ∧ bl ≤ al ∧ ah ≤ bh := by
  have h0 := hr.ice0
  have h1 := hr.ice1
  have ho := cv_ok b 0 k m cap X Y hk hr.cur
  refine ⟨val X Y m x, val X Y m (max 0 (x - d)), val X Y m (x + d), val X Y m (max 0 (x - (d + 1))), val X Y m (x + (d + 1)), ⟨fun W hb => ?_, fun W hb => ?_, fun W hb => ?_, fun W hb => ?_⟩, val_mono X Y m hr.cur.asc _ _ (by omega), val_mono X Y m hr.cur.asc _ _ (by omega), val_mono X Y m hr.cur.asc _ _ (by omega), val_mono X Y m hr.cur.asc _ _ (by omega)⟩
  · exact flow_ok b 0 k cap m X Y ice 0 0 x 0 W ho (hp.up hb.out (Nat.le_refl _)) (by omega) (ck0 x 0 (by omega) (by omega))
  · exact spread_ok b 0 k m cap X Y ice x d W hk hr.cur (hp.up hb.out (Nat.le_refl _)) (by omega) (by omega) (by omega)
  · exact spread_ok b 0 k m cap X Y ice x (d + 1) W hk hr.cur (hp.up hb.out (Nat.le_refl _)) (by omega) (by omega) (by omega)
  · have h := spread_ok b 0 k m cap X Y ice x 0 W hk hr.cur (hp.up hb.out (Nat.le_refl _)) (by omega) (by omega) (by omega)
    rw [show max 0 (x - 0) = x by omega, Int.add_zero] at h
    exact h

set_option maxRecDepth 100000 in
set_option maxHeartbeats 4000000 in
theorem lsp_walk (p : Option Addr) (n c : Nat) (z : Nat → Int) (st off : Int) (w : World) (hr : RdI w p n z) (hn : n ≤ 9223372036854775807) (hz : ∀ i, -9223372036854775808 ≤ z i ∧ z i ≤ 9223372036854775807)
    (h1 : -9223372036854775808 ≤ st ∧ st ≤ 9223372036854775807) (h2 : -9223372036854775808 ≤ off ∧ off ≤ 9223372036854775807) :
    Calls Try.prog 4 #[.slice p n c, .int .i64 st, .int .i64 off] w fun e w' => e = .returned (.bool true) ∧ Below w.heap.size w w' := by
  have HN := Lib.hid (new_any p n c z w hn hz hr)
  have HM1 := Lib.hid (fun W => mod_any st 300 W h1 (by omega) (by omega))
  have HM2 := Lib.hid (fun W => mod_any off 80 W h2 (by omega) (by omega))
  have v1 := md_lo st 300 (by omega)
  have v2 := md_hi st 300 (by omega)
  have u1 := md_lo off 80 (by omega)
  have u2 := md_hi off 80 (by omega)
  clear hr hz hn h1 h2
  generalize md st 300 = x at *
  generalize md off 80 = d at *
  go_enter Try.func4, Try.ntmps4
  go_upto_region 3 with (first
    | (go_at_call 8; refine HN.out.mono ?_; rintro e w1 ⟨rfl, hd1, hb1⟩)
    | (go_at_call 7; refine (rating_any w.heap.size p n c z _ hd1).mono ?_; rintro e w2 ⟨b, cap, k, m, X, Y, ice, rfl, hk, hwb, hpt, hcap, hra, hd2, hg2⟩; have HBL : Hid (Below w.heap.size w w2) := (hb1.grown hg2 hb1.size (by intro k hk; cases hk; exact Nat.le_refl _)); obtain ⟨q, al, ah, bl, bh, HI, hl1, hl2, hl3, hl4⟩ := sp_pack (cap := cap) hk hpt hra ⟨v1, v2⟩ ⟨u1, u2⟩; clear hk hwb hpt hcap hra hd2 hg2 hd1 hb1)
    | (go_at_call 9; first | (refine (HM1.out _).mono ?_; rintro e w' ⟨rfl, rfl⟩; clear HM1) | (refine (HM2.out _).mono ?_; rintro e w' ⟨rfl, rfl⟩; clear HM2)))
  have HR0 := Lib.hid (B2.new w2 (.slice (some ⟨b, 0, none⟩) k cap) (.int .i64 ice) 25)
  have HB0 := Lib.hid ((Below.refl w2.heap.size w2).alloc (Nat.le_refl _) (.cells #[.slice (some ⟨b, 0, none⟩) k cap, .int .i64 ice] 25))
  clear HN
  have d1 : decide (al ≤ q) = true := by rw [decide_eq_true_eq]; exact hl1
  have d2 : decide (q ≤ ah) = true := by rw [decide_eq_true_eq]; exact hl2
  have d3 : decide (bl ≤ al) = true := by rw [decide_eq_true_eq]; exact hl3
  have d4 : decide (ah ≤ bh) = true := by rw [decide_eq_true_eq]; exact hl4
  have d5 : (q == q) = true := by rw [beq_iff_eq]
  go_wp2_with (first
      | (go_at_call 10; refine (HI.out.F _ HB0).mono ?_; rintro e w3 ⟨rfl, hb3⟩; have HR3 := Lib.hid (HR0.out.next hb3); obtain ⟨c0, c1⟩ := HR3.out; have HB3 := Lib.hid (HB0.out.trans (hb3.mono HB0.out.size)); clear HB0 HR0 hb3)
      | (go_at_call 12; first
        | (refine (HI.out.S0 _ HB3).mono ?_; rintro e w4 ⟨rfl, hb4⟩; have HR4 := Lib.hid ((HR3.out.next hb4).alloc (.cells #[.int .i64 al, .int .i64 ah] 38)); obtain ⟨c0, c1⟩ := HR4.out; have HA4 := Lib.hid (B2.new w4 (.int .i64 al) (.int .i64 ah) 38); have HB4 := Lib.hid ((HB3.out.trans (hb4.mono HB3.out.size)).alloc (HB3.out.trans (hb4.mono HB3.out.size)).size (.cells #[.int .i64 al, .int .i64 ah] 38)); clear HB3 HR3 hb4)
        | (refine (HI.out.S1 _ HB4).mono ?_; rintro e w5 ⟨rfl, hb5⟩; have HR5 := Lib.hid ((HR4.out.next hb5).alloc (.cells #[.int .i64 bl, .int .i64 bh] 38)); obtain ⟨c0, c1⟩ := HR5.out; have HA5 := Lib.hid ((HA4.out.next hb5).alloc (.cells #[.int .i64 bl, .int .i64 bh] 38)); have HC5 := Lib.hid (B2.new w5 (.int .i64 bl) (.int .i64 bh) 38); have HB5 := Lib.hid ((HB4.out.trans (hb5.mono HB4.out.size)).alloc (HB4.out.trans (hb5.mono HB4.out.size)).size (.cells #[.int .i64 bl, .int .i64 bh] 38)); clear HB4 HR4 HA4 hb5)
        | (refine (HI.out.S2 _ HB5).mono ?_; rintro e w6 ⟨rfl, hb6⟩; obtain ⟨a0, a1⟩ := (HA5.out.next hb6).alloc (.cells #[.int .i64 q, .int .i64 q] 38); obtain ⟨e0, e1⟩ := (HC5.out.next hb6).alloc (.cells #[.int .i64 q, .int .i64 q] 38); obtain ⟨g0, g1⟩ := B2.new w6 (.int .i64 q) (.int .i64 q) 38; have HB6 := Lib.hid ((HB5.out.trans (hb6.mono HB5.out.size)).alloc (HB5.out.trans (hb6.mono HB5.out.size)).size (.cells #[.int .i64 q, .int .i64 q] 38)); clear HB5 HR5 HA5 HC5 hb6))
      | (go_at_call 11; refine (awk_later _ HB6).mono ?_; rintro e w7 ⟨rfl, hb7⟩))
  go_ret
  exact ⟨rfl, HBL.out.trans (hb7.out.mono HBL.out.size)⟩
end Go.Proofs.Ytdcjgeebkinjlaa.Ra

/-
  The walk of the law StorageRoom.
-/
import Derived.Test.YtglimagkfapcaaaStAwk
import Derived.Test.YtglimagkfapcaaaStRes
import Derived.Test.YtglimagkfapcaaaStRow
namespace Go.Proofs.Ytglimagkfapcaaa.Cu
open Go.ChangeShapes Go.WideShapes Go.ChangeAt Go.RowKit
set_option linter.unusedVariables false

/-- What the law looks at, by names. -/
structure Ro3 (w5 : World) (b k cap : Nat) (D L F S C x v n m_ a b_ : Int) : Prop where
  R : ∀ W, Hid (Below w5.heap.size w5 W) → Calls Try.prog 20 #[.agg #[.slice (some ⟨b, 0, none⟩) k cap, .int .i64 D, .int .i64 L, .int .i64 F, .int .i64 S, .int .i64 C], .int .i64 v, .int .i64 x] W fun e w' => e = .returned (.tuple #[.int .i64 (n), .int .i64 0]) ∧ Hid (Below w5.heap.size w5 w')
  U : ∀ W, Hid (Below w5.heap.size w5 W) → Calls Try.prog 22 #[.agg #[.slice (some ⟨b, 0, none⟩) k cap, .int .i64 D, .int .i64 L, .int .i64 F, .int .i64 S, .int .i64 C], .int .i64 v] W fun e w' => e = .returned (.tuple #[.int .i64 (m_), .int .i64 0]) ∧ Hid (Below w5.heap.size w5 w')
  A : ∀ W, Hid (Below w5.heap.size w5 W) → Calls Try.prog 14 #[.agg #[.slice (some ⟨b, 0, none⟩) k cap, .int .i64 D, .int .i64 L, .int .i64 F, .int .i64 S, .int .i64 C], .int .i64 x] W fun e w' => e = .returned (.tuple #[.int .i64 (a), .int .i64 0]) ∧ Hid (Below w5.heap.size w5 w')
  B : ∀ W, Hid (Below w5.heap.size w5 W) → Calls Try.prog 14 #[.agg #[.slice (some ⟨b, 0, none⟩) k cap, .int .i64 D, .int .i64 L, .int .i64 F, .int .i64 S, .int .i64 C], .int .i64 D] W fun e w' => e = .returned (.tuple #[.int .i64 (b_), .int .i64 0]) ∧ Hid (Below w5.heap.size w5 w')
theorem ro3_pack {w5 : World} {b k m cap : Nat} {X Y : Nat → Int} {D L F S C : Int} (hk : k = m + 1) (hp : Pts w5 b 0 k X Y) (hr : Res X Y m D L F S C) (x v : Int) (hx : 0 ≤ x ∧ x ≤ 400) (hv : 0 ≤ v ∧ v < 900) (hm : X m ≤ 309) (h0 : 0 ≤ X 0) (hy : 0 ≤ Y 0) (hym : Y m ≤ 1019) :
    ∃ n m_ a b_, Hid (Ro3 w5 b k cap D L F S C x v n m_ a b_) ∧ (max v a == v + n) = true ∧ (min v b_ == v - m_) = true ∧ 0 ≤ n ∧ n ≤ 2000 ∧ 0 ≤ m_ ∧ m_ ≤ 2000 := by
  obtain ⟨l1, l2, l3, l4, l5, l6⟩ := hr.lev
  have h1 := val_bd X Y m hr.cur.asc x
  have h2 := val_bd X Y m hr.cur.asc D
  refine ⟨max 0 (val X Y m x - v), max 0 (v - val X Y m D), val X Y m x, val X Y m D, ⟨room_later hk hp hr _ _ (by omega) (by omega), usa_later hk hp hr _ (by omega), vol_later hk hp hr _ (by omega), vol_later hk hp hr _ (by omega)⟩, ?_, ?_, ?_, ?_, ?_, ?_⟩
  · rw [beq_iff_eq]; omega
  · rw [beq_iff_eq]; omega
  · omega
  · omega
  · omega
  · omega

set_option maxRecDepth 100000 in
set_option maxHeartbeats 16000000 in
theorem lro_walk (p : Option Addr) (n c : Nat) (z : Nat → Int) (x y : Int) (w : World) (hr : RdI w p n z) (hn : n ≤ 9223372036854775807) (hz : ∀ i, -9223372036854775808 ≤ z i ∧ z i ≤ 9223372036854775807)
    (hx : -9223372036854775808 ≤ x ∧ x ≤ 9223372036854775807) (hy : -9223372036854775808 ≤ y ∧ y ≤ 9223372036854775807) :
    Calls Try.prog 6 #[.slice p n c, .int .i64 x, .int .i64 y] w fun e w' => e = .returned (.bool true) ∧ Below w.heap.size w w' := by
  have HN := Lib.hid (new_any p n c z w hn hz hr)
  have HM1 := Lib.hid (fun W => mod_any x 200 W hx (by omega) (by omega))
  have HM2 := Lib.hid (fun W => mod_any y 900 W hy (by omega) (by omega))
  have v1 := md_lo x 200 (by omega)
  have v2 := md_hi x 200 (by omega)
  have n1 := md_lo y 900 (by omega)
  have n2 := md_hi y 900 (by omega)
  clear hr hz hn hx hy
  generalize md x 200 = s at *
  generalize md y 900 = t at *
  go_enter Try.func6, Try.ntmps6
  go_wp2_with (first
    | (go_at_call 8; refine HN.out.mono ?_; rintro e w1 ⟨rfl, hd1, hb1⟩)
    | (go_at_call 9; refine (reservoir_any w.heap.size p n c z _ hd1).mono ?_; rintro e w4 ⟨b, cap, k, m, X, Y, D, L, F, S, C, rfl, hk, m4, hwb, hpt, hres, hbd, hd4, hg4⟩; have HK := Lib.hid hk; have HPT := Lib.hid hpt; have HRS := Lib.hid hres; have HBD := Lib.hid hbd; have HBL : Hid (Below w.heap.size w w4) := (hb1.grown hg4 hb1.size (by intro k hk; cases hk; exact Nat.le_refl _)); clear hk hpt hres hbd hd4 hg4 hd1))
  have HX := Lib.hid (bx_alloc w4 (some ⟨b, 0, none⟩) k cap D L F S C 24)
  have HP5 := Lib.hid (HPT.out.alloc (.cells #[.slice (some ⟨b, 0, none⟩) k cap, .int .i64 D, .int .i64 L, .int .i64 F, .int .i64 S, .int .i64 C] 24))
  have HW5 := Lib.hid (HBL.out.alloc HBL.out.size (.cells #[.slice (some ⟨b, 0, none⟩) k cap, .int .i64 D, .int .i64 L, .int .i64 F, .int .i64 S, .int .i64 C] 24))
  clear HN HPT HBL hb1
  generalize w4.alloc (.cells #[.slice (some ⟨b, 0, none⟩) k cap, .int .i64 D, .int .i64 L, .int .i64 F, .int .i64 S, .int .i64 C] 24) = w5 at *
  generalize w4.heap.size = kb at *
  have hb5 : Hid (Below w5.heap.size w5 w5) := Below.refl _ _
  have HFin : Hid (∀ W, Hid (Below w5.heap.size w5 W) → Below w.heap.size w W) := fun W h => HW5.out.trans (h.out.mono HW5.out.size)
  have HCel : Hid (∀ W, Hid (Below w5.heap.size w5 W) → Bx W kb (some ⟨b, 0, none⟩) k cap D L F S C) := fun W h => HX.out.below h.out (World.block_lt_of_cell? _ _ HX.out.c0)
  obtain ⟨c0, c1, c2, c3, c4, c5⟩ := HX.out
  obtain ⟨nn, mm, a, b_, HRI, g1, g2, g3, g4, g5, g6⟩ := ro3_pack (cap := cap) HK.out HP5.out HRS.out (100 + s) t ⟨by omega, by omega⟩ ⟨n1, n2⟩ HBD.out.2.2.1 (by have := HBD.out.1; omega) HBD.out.2.2.2.1 HBD.out.2.2.2.2.2
  clear HX HP5 HW5 HBD HRS
  go_wp2_with (first
      | (go_at_call 25; first | (go_at_call_has 25 (Value.int .i64 x); refine (HM1.out _).mono ?_; rintro e w' ⟨rfl, rfl⟩) | (go_at_call_has 25 (Value.int .i64 y); refine (HM2.out _).mono ?_; rintro e w' ⟨rfl, rfl⟩))
      | (go_at_call 20; refine (HRI.out.R _ (by assumption)).mono ?_; clear c0 c1 c2 c3 c4 c5; rintro e w6 ⟨rfl, hb5⟩; have hbx := HCel.out _ hb5; obtain ⟨c0, c1, c2, c3, c4, c5⟩ := hbx)
      | (go_at_call 22; refine (HRI.out.U _ (by assumption)).mono ?_; clear c0 c1 c2 c3 c4 c5; rintro e w6 ⟨rfl, hb5⟩; have hbx := HCel.out _ hb5; obtain ⟨c0, c1, c2, c3, c4, c5⟩ := hbx)
      | (go_at_call 14; go_at_call_has 14 (Value.int .i64 (100 + s)); refine (HRI.out.A _ (by assumption)).mono ?_; clear c0 c1 c2 c3 c4 c5; rintro e w6 ⟨rfl, hb5⟩; have hbx := HCel.out _ hb5; obtain ⟨c0, c1, c2, c3, c4, c5⟩ := hbx)
      | (go_at_call 14; go_at_call_has 14 (Value.int .i64 D); refine (HRI.out.B _ (by assumption)).mono ?_; clear c0 c1 c2 c3 c4 c5; rintro e w6 ⟨rfl, hb5⟩; have hbx := HCel.out _ hb5; obtain ⟨c0, c1, c2, c3, c4, c5⟩ := hbx)
      | (go_at_call 24; refine (awk_later _ (by assumption)).mono ?_; rintro e w6 ⟨rfl, hb5⟩))
  go_ret
  exact ⟨rfl, HFin.out _ hb5⟩
end Go.Proofs.Ytglimagkfapcaaa.Cu

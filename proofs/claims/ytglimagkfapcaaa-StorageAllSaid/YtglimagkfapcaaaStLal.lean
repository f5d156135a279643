/-
  The walk of the law StorageAll.
-/
import Derived.Test.YtglimagkfapcaaaStTen
import Derived.Deep.DeepCutAuto
import Derived.Deep.CutRange
import Derived.Deep.CutBlock
namespace Go.Proofs.Ytglimagkfapcaaa.Cu
open Go.ChangeShapes Go.WideShapes Go.ChangeAt Go.RowKit
set_option linter.unusedVariables false

/-- What the call of odd keeps: the deck, the points of both reservoirs. -/
structure Ax (w : World) (g : Nat) (p : Option Addr) (n c : Nat) (z : Nat → Int) (pr : Option Addr) (nr : Nat) (Xr Yr : Nat → Int) (b k : Nat) (X Y : Nat → Int) (W : World) : Prop where
  dk : Dk W g p n c z
  raw : RdP W pr nr Xr Yr
  pts : Pts W b 0 k X Y
  bel : Below w.heap.size w W
  ngr : 0 < nr → ∀ b' off, pr = some ⟨b', off, none⟩ → b' ≠ g
  ngb : b ≠ g
  wg : w.heap.size ≤ g
theorem Ax.below {w W W' : World} {g : Nat} {p : Option Addr} {n c : Nat} {z : Nat → Int} {pr : Option Addr} {nr : Nat} {Xr Yr : Nat → Int} {b k : Nat} {X Y : Nat → Int} (h : Ax w g p n c z pr nr Xr Yr b k X Y W) (hb : Below W.heap.size W W') : Ax w g p n c z pr nr Xr Yr b k X Y W' :=
  ⟨h.dk.below hb h.dk.lt, h.raw.below hb (Nat.le_refl _), h.pts.up hb (Nat.le_refl _), h.bel.trans (hb.mono h.bel.size), h.ngr, h.ngb, h.wg⟩
theorem Ax.next {w W W' : World} {g : Nat} {p : Option Addr} {n c : Nat} {z : Nat → Int} {pr : Option Addr} {nr : Nat} {Xr Yr : Nat → Int} {b k : Nat} {X Y : Nat → Int} (h : Ax w g p n c z pr nr Xr Yr b k X Y W) (hd : Dk W' g p n c z) (hg : W.grownBy W' (some g)) : Ax w g p n c z pr nr Xr Yr b k X Y W' :=
  ⟨hd, fun hn => by obtain ⟨b', off, e, hp⟩ := h.raw hn; exact ⟨b', off, e, hp.grown hg (by simpa using h.ngr hn b' off e)⟩, h.pts.grown hg (by simpa using h.ngb), below_of_deck h.bel hg h.wg, h.ngr, h.ngb, h.wg⟩
/-- What the third line of the law holds while it is reckoned. -/
def A3 (w : World) (rb qb g : Nat) (p : Option Addr) (n c : Nat) (z : Nat → Int) (pr : Option Addr) (nr cr : Nat) (Dr Lr Fr Sr Cr : Int) (Xr Yr : Nat → Int) (b k cap : Nat) (D L F S C : Int) (X Y : Nat → Int) (W : World) : Prop :=
  W.cell? ⟨qb, 0, none⟩ = some (.slice (some ⟨b, 0, none⟩) k cap) ∧ W.cell? ⟨qb, 1, none⟩ = some (.int .i64 D) ∧ W.cell? ⟨qb, 2, none⟩ = some (.int .i64 L) ∧ W.cell? ⟨qb, 3, none⟩ = some (.int .i64 F) ∧ W.cell? ⟨qb, 4, none⟩ = some (.int .i64 S) ∧ W.cell? ⟨qb, 5, none⟩ = some (.int .i64 C) ∧ W.cell? ⟨rb, 0, none⟩ = some (.slice pr nr cr) ∧ W.cell? ⟨rb, 1, none⟩ = some (.int .i64 Dr) ∧ W.cell? ⟨rb, 2, none⟩ = some (.int .i64 Lr) ∧ W.cell? ⟨rb, 3, none⟩ = some (.int .i64 Fr) ∧ W.cell? ⟨rb, 4, none⟩ = some (.int .i64 Sr) ∧ W.cell? ⟨rb, 5, none⟩ = some (.int .i64 Cr) ∧ Hid (Ax w g p n c z pr nr Xr Yr b k X Y W)
theorem A3.below {w W W' : World} {rb qb g : Nat} {p : Option Addr} {n c : Nat} {z : Nat → Int} {pr : Option Addr} {nr cr : Nat} {Dr Lr Fr Sr Cr : Int} {Xr Yr : Nat → Int} {b k cap : Nat} {D L F S C : Int} {X Y : Nat → Int} (h : A3 w rb qb g p n c z pr nr cr Dr Lr Fr Sr Cr Xr Yr b k cap D L F S C X Y W) (hb : Below W.heap.size W W') : A3 w rb qb g p n c z pr nr cr Dr Lr Fr Sr Cr Xr Yr b k cap D L F S C X Y W' := by
  obtain ⟨h0, h1, h2, h3, h4, h5, r0, r1, r2, r3, r4, r5, ha⟩ := h
  have b0 := World.block_lt_of_cell? _ _ h0
  have b1 := World.block_lt_of_cell? _ _ r0
  exact ⟨(hb.cell (p := ⟨qb, 0, none⟩) b0).trans h0, (hb.cell (p := ⟨qb, 1, none⟩) b0).trans h1, (hb.cell (p := ⟨qb, 2, none⟩) b0).trans h2, (hb.cell (p := ⟨qb, 3, none⟩) b0).trans h3, (hb.cell (p := ⟨qb, 4, none⟩) b0).trans h4, (hb.cell (p := ⟨qb, 5, none⟩) b0).trans h5, (hb.cell (p := ⟨rb, 0, none⟩) b1).trans r0, (hb.cell (p := ⟨rb, 1, none⟩) b1).trans r1, (hb.cell (p := ⟨rb, 2, none⟩) b1).trans r2, (hb.cell (p := ⟨rb, 3, none⟩) b1).trans r3, (hb.cell (p := ⟨rb, 4, none⟩) b1).trans r4, (hb.cell (p := ⟨rb, 5, none⟩) b1).trans r5, ha.out.below hb⟩
theorem A3.alc {w W : World} {rb qb g : Nat} {p : Option Addr} {n c : Nat} {z : Nat → Int} {pr : Option Addr} {nr cr : Nat} {Dr Lr Fr Sr Cr : Int} {Xr Yr : Nat → Int} {b k cap : Nat} {D L F S C : Int} {X Y : Nat → Int} (h : A3 w rb qb g p n c z pr nr cr Dr Lr Fr Sr Cr Xr Yr b k cap D L F S C X Y W) (o : Obj) : A3 w rb qb g p n c z pr nr cr Dr Lr Fr Sr Cr Xr Yr b k cap D L F S C X Y (W.alloc o) := h.below ((Below.refl _ _).alloc (Nat.le_refl _) o)
theorem A3.next {w W W' : World} {rb qb g : Nat} {p : Option Addr} {n c : Nat} {z : Nat → Int} {pr : Option Addr} {nr cr : Nat} {Dr Lr Fr Sr Cr : Int} {Xr Yr : Nat → Int} {b k cap : Nat} {D L F S C : Int} {X Y : Nat → Int} (h : A3 w rb qb g p n c z pr nr cr Dr Lr Fr Sr Cr Xr Yr b k cap D L F S C X Y W) (hd : Dk W' g p n c z) (hg : W.grownBy W' (some g)) (n1 : rb ≠ g) (n2 : qb ≠ g) : A3 w rb qb g p n c z pr nr cr Dr Lr Fr Sr Cr Xr Yr b k cap D L F S C X Y W' := by
  obtain ⟨h0, h1, h2, h3, h4, h5, r0, r1, r2, r3, r4, r5, ha⟩ := h
  have e1 : (some rb : Option Nat) ≠ some g := by simpa using n1
  have e2 : (some qb : Option Nat) ≠ some g := by simpa using n2
  exact ⟨hg.cell h0 e2, hg.cell h1 e2, hg.cell h2 e2, hg.cell h3 e2, hg.cell h4 e2, hg.cell h5 e2, hg.cell r0 e1, hg.cell r1 e1, hg.cell r2 e1, hg.cell r3 e1, hg.cell r4 e1, hg.cell r5 e1, ha.out.next hd hg⟩

set_option maxRecDepth 100000 in
set_option maxHeartbeats 32000000 in
theorem lal_walk (pr : Option Addr) (nr cr : Nat) (Dr Lr Fr Sr Cr : Int) (Xr Yr : Nat → Int) (p : Option Addr) (n c : Nat) (z : Nat → Int) (x y : Int) (w : World) (hraw : RdP w pr nr Xr Yr) (hr : RdI w p n z) (hn : n ≤ 9223372036854775807) (hz : ∀ i, -9223372036854775808 ≤ z i ∧ z i ≤ 9223372036854775807)
    (hy : -9223372036854775808 ≤ y ∧ y ≤ 9223372036854775807) :
    Calls Try.prog 3 #[.agg #[.slice pr nr cr, .int .i64 Dr, .int .i64 Lr, .int .i64 Fr, .int .i64 Sr, .int .i64 Cr], .slice p n c, .int .i64 x, .int .i64 y] w fun e w' => e = .returned (.bool true) ∧ Below w.heap.size w w' := by
  have hr1 : RdI (w.alloc (.cells #[.slice pr nr cr, .int .i64 Dr, .int .i64 Lr, .int .i64 Fr, .int .i64 Sr, .int .i64 Cr] 24)) p n z := fun hn => by
    obtain ⟨b, off, e, hb, hc⟩ := hr hn
    exact ⟨b, off, e, by simp; omega, fun i hi => cell_al _ (hc i hi)⟩
  have HN := Lib.hid (new_any p n c z _ hn hz hr1)
  have HRW := Lib.hid hraw
  have HB0 := Lib.hid ((Below.refl w.heap.size w).alloc (Nat.le_refl _) (.cells #[.slice pr nr cr, .int .i64 Dr, .int .i64 Lr, .int .i64 Fr, .int .i64 Sr, .int .i64 Cr] 24))
  have HX0 := Lib.hid (bx_alloc w pr nr cr Dr Lr Fr Sr Cr 24)
  have HY := Lib.hid hy
  clear hr1 hr hz hn hraw hy
  go_enter Try.func3, Try.ntmps3
  go_upto_region 3 with (first
    | (go_at_call 8; refine HN.out.mono ?_; rintro e w1 ⟨rfl, hd1, hb1⟩; rw [World.size_alloc] at hd1)
    | (go_at_call 9; refine (reservoir_any (w.heap.size + 1) p n c z _ hd1).mono ?_; rintro e w4 ⟨b, cap, k, m, X, Y, D, L, F, S, C, rfl, hk, m4, hwb, hpt, hres, hbd, hd4, hg4⟩; have hk5 : k ≤ 5 := (by omega); have hk2 : 2 ≤ k := (by have := hres.two; omega); have HPT := Lib.hid hpt; clear hk hres hbd))
  have HB1 := Lib.hid (HB0.out.trans (hb1.mono (by simp)))
  have hgw : w.heap.size + 1 < w1.heap.size := hd1.lt
  have hbx1 : Bx w1 w.heap.size pr nr cr Dr Lr Fr Sr Cr := bx_call HX0.out hb1
  have hbx4 : Bx w4 w.heap.size pr nr cr Dr Lr Fr Sr Cr := hbx1.grown hg4 (by simp)
  have hbl4 : Below w.heap.size w w4 := below_of_deck HB1.out hg4 (by omega)
  have hA3 : A3 w w.heap.size w4.heap.size (w.heap.size + 1) p n c z pr nr cr Dr Lr Fr Sr Cr Xr Yr b k cap D L F S C X Y (w4.alloc (.cells #[.slice (some ⟨b, 0, none⟩) k cap, .int .i64 D, .int .i64 L, .int .i64 F, .int .i64 S, .int .i64 C] 24)) := by
    have hq := bx_alloc w4 (some ⟨b, 0, none⟩) k cap D L F S C 24
    have hq4 := hbx4.below ((Below.refl w4.heap.size w4).alloc (Nat.le_refl _) (.cells #[.slice (some ⟨b, 0, none⟩) k cap, .int .i64 D, .int .i64 L, .int .i64 F, .int .i64 S, .int .i64 C] 24)) (World.block_lt_of_cell? _ _ hbx4.c0)
    exact ⟨hq.c0, hq.c1, hq.c2, hq.c3, hq.c4, hq.c5, hq4.c0, hq4.c1, hq4.c2, hq4.c3, hq4.c4, hq4.c5,
      { dk := hd4.alloc _
        raw := HRW.out.below (hbl4.alloc hbl4.size _) (Nat.le_refl _)
        pts := HPT.out.alloc _
        bel := hbl4.alloc hbl4.size _
        ngr := fun hn b' off e => by
          obtain ⟨b2, off2, e2, hp2⟩ := HRW.out hn
          rw [e] at e2
          simp only [Option.some.injEq, Addr.mk.injEq] at e2
          have := hp2.1
          omega
        ngb := by omega
        wg := by omega }⟩
  have hw4 : w.heap.size + 1 < w4.heap.size := Nat.lt_of_lt_of_le hgw hg4.size
  clear HN HB0 HX0 HB1 hbx1 hbx4 hbl4 hd1 hb1 hd4 hg4 HRW HPT hwb
  generalize w4.alloc (.cells #[.slice (some ⟨b, 0, none⟩) k cap, .int .i64 D, .int .i64 L, .int .i64 F, .int .i64 S, .int .i64 C] 24) = w5 at *
  generalize w4.heap.size = qb at *
  go_cut [44, 45, 46] (fun s44 s45 s46 wx => ∃ (lb : Nat) (P : Nat → Option Addr) (N K : Nat → Nat) (X Y : Nat → Nat → Int) (D L F S C : Nat → Int), s44 = .slice (some ⟨lb, 0, none⟩) 3 3 ∧ s45 = .int .i64 3 ∧ s46 = .int .i64 0 ∧ Hid (Ls w lb (w.heap.size + 1) p n c z P N K X Y D L F S C wx))
  case first =>
    have HA0 := Lib.hid (show A3 w w.heap.size qb (w.heap.size + 1) p n c z pr nr cr Dr Lr Fr Sr Cr Xr Yr b k cap D L F S C X Y w5.drew from hA3.below ⟨rfl, rfl, rfl, Nat.le_refl _, fun _ _ => rfl⟩)
    have HODD : Hid (∀ W, A3 w w.heap.size qb (w.heap.size + 1) p n c z pr nr cr Dr Lr Fr Sr Cr Xr Yr b k cap D L F S C X Y W → Calls Try.prog 10 #[.pointer (some ⟨w.heap.size + 1, 0, none⟩), .agg #[.slice (some ⟨b, 0, none⟩) k cap, .int .i64 D, .int .i64 L, .int .i64 F, .int .i64 S, .int .i64 C]] W fun e w' => ∃ (g2 n2 c2 : Nat) (X2 Y2 : Nat → Int) (D2 L2 F2 S2 C2 : Int), e = .returned (.agg #[.slice (some ⟨g2, 0, none⟩) n2 c2, .int .i64 D2, .int .i64 L2, .int .i64 F2, .int .i64 S2, .int .i64 C2]) ∧ (Pts w' g2 0 n2 X2 Y2 ∧ w.heap.size + 1 < g2) ∧ A3 w w.heap.size qb (w.heap.size + 1) p n c z pr nr cr Dr Lr Fr Sr Cr Xr Yr b k cap D L F S C X Y w') := fun W h => by
      have ha := h.2.2.2.2.2.2.2.2.2.2.2.2.out
      refine (odd_any b k cap (w.heap.size + 1) p n c z X Y D L F S C W hk2 (by omega) ha.pts ha.dk).mono ?_
      rintro e w' ⟨g2, n2, c2, X2, Y2, D2, L2, F2, S2, C2, rfl, hp2, hg2, hd2, hgr2⟩
      exact ⟨g2, n2, c2, X2, Y2, D2, L2, F2, S2, C2, rfl, ⟨hp2, by have := ha.dk.lt; omega⟩, h.next hd2 hgr2 (by omega) (by omega)⟩
    obtain ⟨h0, h1, h2, h3, h4, h5, r0, r1, r2, r3, r4, r5, hax⟩ := hA3
    clear hax
    go_region_held3 (fun W => W.cell? ⟨qb, 0, none⟩ = some (.slice (some ⟨b, 0, none⟩) k cap) ∧ W.cell? ⟨qb, 1, none⟩ = some (.int .i64 D) ∧ W.cell? ⟨qb, 2, none⟩ = some (.int .i64 L) ∧ W.cell? ⟨qb, 3, none⟩ = some (.int .i64 F) ∧ W.cell? ⟨qb, 4, none⟩ = some (.int .i64 S) ∧ W.cell? ⟨qb, 5, none⟩ = some (.int .i64 C) ∧ W.cell? ⟨w.heap.size, 0, none⟩ = some (.slice pr nr cr) ∧ W.cell? ⟨w.heap.size, 1, none⟩ = some (.int .i64 Dr) ∧ W.cell? ⟨w.heap.size, 2, none⟩ = some (.int .i64 Lr) ∧ W.cell? ⟨w.heap.size, 3, none⟩ = some (.int .i64 Fr) ∧ W.cell? ⟨w.heap.size, 4, none⟩ = some (.int .i64 Sr) ∧ W.cell? ⟨w.heap.size, 5, none⟩ = some (.int .i64 Cr) ∧ Hid (Ax w (w.heap.size + 1) p n c z pr nr Xr Yr b k X Y W)) (first | exact HA0.out | assumption | exact A3.alc hS _ | go_keep)
      (first | (go_at_call 10; refine (HODD.out _ (by assumption)).mono ?_; rintro e w7 ⟨g2, n2, c2, X2, Y2, D2, L2, F2, S2, C2, rfl, hpg, hS⟩; have HPG := Lib.hid hpg; clear hpg))
    go_wp2_with fail
    go_meet
    have ha := hS.2.2.2.2.2.2.2.2.2.2.2.2.out
    have HLS : Hid (Ls w w7.heap.size (w.heap.size + 1) p n c z (pk (some ⟨b, 0, none⟩) pr (some ⟨g2, 0, none⟩)) (pk k nr n2) (pk cap cr c2) (pk X Xr X2) (pk Y Yr Y2) (pk D Dr D2) (pk L Lr L2) (pk F Fr F2) (pk S Sr S2) (pk C Cr C2) (w7.alloc (.cells #[.slice (some ⟨b, 0, none⟩) k cap, .int .i64 D, .int .i64 L, .int .i64 F, .int .i64 S, .int .i64 C, .slice pr nr cr, .int .i64 Dr, .int .i64 Lr, .int .i64 Fr, .int .i64 Sr, .int .i64 Cr, .slice (some ⟨g2, 0, none⟩) n2 c2, .int .i64 D2, .int .i64 L2, .int .i64 F2, .int .i64 S2, .int .i64 C2] 24))) := {
      cells := ls_cells w7 _ _ _ _ _ _ _ _ _ _ _ _ _ _ _ _ _ _ _ _ _ _ _ _ _
      rd := fun i hi => by
        have hc : i = 0 ∨ i = 1 ∨ i = 2 := by omega
        rcases hc with rfl | rfl | rfl
        · exact fun _ => ⟨b, 0, rfl, ha.pts.alloc _⟩
        · exact ha.raw.below ((Below.refl w7.heap.size w7).alloc (Nat.le_refl _) _) (Nat.le_refl _)
        · exact fun _ => ⟨g2, 0, rfl, HPG.out.1.alloc _⟩
      dk := ha.dk.alloc _
      bel := ha.bel.alloc ha.bel.size _
      ng := fun i hi hn b' off e => by
        have hc : i = 0 ∨ i = 1 ∨ i = 2 := by omega
        rcases hc with rfl | rfl | rfl
        · have e' : some (⟨b, 0, none⟩ : Addr) = some ⟨b', off, none⟩ := e
          simp only [Option.some.injEq, Addr.mk.injEq] at e'
          have := ha.ngb; omega
        · exact ha.ngr hn b' off e
        · have e' : some (⟨g2, 0, none⟩ : Addr) = some ⟨b', off, none⟩ := e
          simp only [Option.some.injEq, Addr.mk.injEq] at e'
          have := HPG.out.2; omega
      lg := by have := ha.dk.lt; omega
      wg := by omega }
    exact ⟨_, _, _, _, _, _, _, _, _, _, _, rfl, rfl, rfl, HLS⟩
  case rest =>
    obtain ⟨lb, P, N, K, XX, YY, DD, LL, FF, SS, CC, rfl, rfl, rfl, HLS⟩ := hcut
    clear hA3 hpt hk5 hk2 m4 hgw hw4
    go_wp2_with fail
    go_loopw [46] (fun s wr => ∃ i : Nat, i ≤ 3 ∧ s = .int .i64 i ∧ Hid (Ls w lb (w.heap.size + 1) p n c z P N K XX YY DD LL FF SS CC wr)) (fun s _ => 3 - (intOf s).toNat)
    case atStart => exact ⟨0, by omega, rfl, HLS⟩
    case round =>
      clear HLS
      obtain ⟨i, hi, rfl, HLS⟩ := hrel
      by_cases hi3 : i < 3
      · have hi3' : (i : Int) < 3 := by omega
        obtain ⟨l0, l1, l2, l3, l4, l5⟩ := HLS.out.cells i hi3
        generalize hP : P i = pi at *
        generalize hN : N i = ni at *
        generalize hK : K i = ki at *
        generalize hD : DD i = di at *
        generalize hL : LL i = li at *
        generalize hF : FF i = fi at *
        generalize hS : SS i = si at *
        generalize hC : CC i = ci at *
        have HRD : Hid (∀ W, Ls w lb (w.heap.size + 1) p n c z P N K XX YY DD LL FF SS CC W → RdP W pi ni (XX i) (YY i)) := fun W h => by have := h.rd i hi3; rw [hP, hN] at this; exact this
        clear hP hN hK hD hL hF hS hC
        go_upto_region 6 with fail
        have HL6 := Lib.hid (HLS.out.below ((Below.refl wr.heap.size wr).alloc (Nat.le_refl _) (.cells #[.slice pi ni ki, .int .i64 di, .int .i64 li, .int .i64 fi, .int .i64 si, .int .i64 ci] 24)))
        have HX6 := Lib.hid (bx_alloc wr pi ni ki di li fi si ci 24)
        have hxg : w.heap.size + 1 < wr.heap.size := HLS.out.dk.lt
        clear HLS l0 l1 l2 l3 l4 l5
        generalize wr.alloc (.cells #[.slice pi ni ki, .int .i64 di, .int .i64 li, .int .i64 fi, .int .i64 si, .int .i64 ci] 24) = w6 at *
        generalize wr.heap.size = xb at *
        go_cut [54] from 50 to 54 (fun s54 wx => s54 = .bool false ∧ Hid (Below w6.heap.size w6 wx))
        case first =>
          obtain ⟨cd, hcd⟩ : ∃ cd, stC (XX i) (YY i) ni di li fi si ci = cd := ⟨_, rfl⟩
          have hS6 : w6.drew.cell? ⟨xb, 0, none⟩ = some (.slice pi ni ki) ∧ w6.drew.cell? ⟨xb, 1, none⟩ = some (.int .i64 di) ∧ w6.drew.cell? ⟨xb, 2, none⟩ = some (.int .i64 li) ∧ w6.drew.cell? ⟨xb, 3, none⟩ = some (.int .i64 fi) ∧ w6.drew.cell? ⟨xb, 4, none⟩ = some (.int .i64 si) ∧ w6.drew.cell? ⟨xb, 5, none⟩ = some (.int .i64 ci) ∧ Hid (Below w6.heap.size w6 w6.drew) := ⟨HX6.out.c0, HX6.out.c1, HX6.out.c2, HX6.out.c3, HX6.out.c4, HX6.out.c5, bel_drewN (Below.refl _ _) 1⟩
          have HS6 := Lib.hid hS6
          have hst : Hid (∀ W W', (W.cell? ⟨xb, 0, none⟩ = some (.slice pi ni ki) ∧ W.cell? ⟨xb, 1, none⟩ = some (.int .i64 di) ∧ W.cell? ⟨xb, 2, none⟩ = some (.int .i64 li) ∧ W.cell? ⟨xb, 3, none⟩ = some (.int .i64 fi) ∧ W.cell? ⟨xb, 4, none⟩ = some (.int .i64 si) ∧ W.cell? ⟨xb, 5, none⟩ = some (.int .i64 ci) ∧ Hid (Below w6.heap.size w6 W)) → Below W.heap.size W W' → (W'.cell? ⟨xb, 0, none⟩ = some (.slice pi ni ki) ∧ W'.cell? ⟨xb, 1, none⟩ = some (.int .i64 di) ∧ W'.cell? ⟨xb, 2, none⟩ = some (.int .i64 li) ∧ W'.cell? ⟨xb, 3, none⟩ = some (.int .i64 fi) ∧ W'.cell? ⟨xb, 4, none⟩ = some (.int .i64 si) ∧ W'.cell? ⟨xb, 5, none⟩ = some (.int .i64 ci) ∧ Hid (Below w6.heap.size w6 W'))) := fun W W' ⟨h0, h1, h2, h3, h4, h5, hb⟩ hw => by
            have b0 := World.block_lt_of_cell? _ _ h0
            exact ⟨(hw.cell (p := ⟨xb, 0, none⟩) b0).trans h0, (hw.cell (p := ⟨xb, 1, none⟩) b0).trans h1, (hw.cell (p := ⟨xb, 2, none⟩) b0).trans h2, (hw.cell (p := ⟨xb, 3, none⟩) b0).trans h3, (hw.cell (p := ⟨xb, 4, none⟩) b0).trans h4, (hw.cell (p := ⟨xb, 5, none⟩) b0).trans h5, hb.out.trans (hw.mono hb.out.size)⟩
          have HCK : Hid (∀ W, (W.cell? ⟨xb, 0, none⟩ = some (.slice pi ni ki) ∧ W.cell? ⟨xb, 1, none⟩ = some (.int .i64 di) ∧ W.cell? ⟨xb, 2, none⟩ = some (.int .i64 li) ∧ W.cell? ⟨xb, 3, none⟩ = some (.int .i64 fi) ∧ W.cell? ⟨xb, 4, none⟩ = some (.int .i64 si) ∧ W.cell? ⟨xb, 5, none⟩ = some (.int .i64 ci) ∧ Hid (Below w6.heap.size w6 W)) → Calls Try.prog 11 #[.agg #[.slice pi ni ki, .int .i64 di, .int .i64 li, .int .i64 fi, .int .i64 si, .int .i64 ci]] W fun e w' => e = .returned (.int .i64 cd) ∧ (w'.cell? ⟨xb, 0, none⟩ = some (.slice pi ni ki) ∧ w'.cell? ⟨xb, 1, none⟩ = some (.int .i64 di) ∧ w'.cell? ⟨xb, 2, none⟩ = some (.int .i64 li) ∧ w'.cell? ⟨xb, 3, none⟩ = some (.int .i64 fi) ∧ w'.cell? ⟨xb, 4, none⟩ = some (.int .i64 si) ∧ w'.cell? ⟨xb, 5, none⟩ = some (.int .i64 ci) ∧ Hid (Below w6.heap.size w6 w'))) := fun W h => by
            have hc := stchk_any pi ni ki (XX i) (YY i) di li fi si ci W (HRD.out W (HL6.out.below h.2.2.2.2.2.2.out))
            rw [hcd] at hc
            exact hc.mono fun e w' ⟨he, hb⟩ => ⟨he, hst.out W w' h hb⟩
          have HRK : Hid (∀ W, (W.cell? ⟨xb, 0, none⟩ = some (.slice pi ni ki) ∧ W.cell? ⟨xb, 1, none⟩ = some (.int .i64 di) ∧ W.cell? ⟨xb, 2, none⟩ = some (.int .i64 li) ∧ W.cell? ⟨xb, 3, none⟩ = some (.int .i64 fi) ∧ W.cell? ⟨xb, 4, none⟩ = some (.int .i64 si) ∧ W.cell? ⟨xb, 5, none⟩ = some (.int .i64 ci) ∧ Hid (Below w6.heap.size w6 W)) → Calls Try.prog 12 #[.agg #[.slice pi ni ki, .int .i64 di, .int .i64 li, .int .i64 fi, .int .i64 si, .int .i64 ci]] W fun e w' => e = .returned (.int .i64 cd) ∧ (w'.cell? ⟨xb, 0, none⟩ = some (.slice pi ni ki) ∧ w'.cell? ⟨xb, 1, none⟩ = some (.int .i64 di) ∧ w'.cell? ⟨xb, 2, none⟩ = some (.int .i64 li) ∧ w'.cell? ⟨xb, 3, none⟩ = some (.int .i64 fi) ∧ w'.cell? ⟨xb, 4, none⟩ = some (.int .i64 si) ∧ w'.cell? ⟨xb, 5, none⟩ = some (.int .i64 ci) ∧ Hid (Below w6.heap.size w6 w'))) := fun W h => by
            have hc := rck3_any pi ni ki (XX i) (YY i) di li fi si ci W (HRD.out W (HL6.out.below h.2.2.2.2.2.2.out))
            rw [hcd] at hc
            exact hc.mono fun e w' ⟨he, hb⟩ => ⟨he, hst.out W w' h hb⟩
          obtain ⟨c0, c1, c2, c3, c4, c5⟩ := HX6.out
          have hnn : (cd != cd) = false := by simp
          clear hcd hS6 hst HL6 HX6 HRD
          go_region_held3 (fun W => W.cell? ⟨xb, 0, none⟩ = some (.slice pi ni ki) ∧ W.cell? ⟨xb, 1, none⟩ = some (.int .i64 di) ∧ W.cell? ⟨xb, 2, none⟩ = some (.int .i64 li) ∧ W.cell? ⟨xb, 3, none⟩ = some (.int .i64 fi) ∧ W.cell? ⟨xb, 4, none⟩ = some (.int .i64 si) ∧ W.cell? ⟨xb, 5, none⟩ = some (.int .i64 ci) ∧ Hid (Below w6.heap.size w6 W)) (first | exact HS6.out | assumption | go_keep)
            (first
              | (go_at_call 11; refine (HCK.out _ (by assumption)).mono ?_; rintro e w' ⟨rfl, hS⟩)
              | (go_at_call 12; refine (HRK.out _ (by assumption)).mono ?_; rintro e w' ⟨rfl, hS⟩))
          have HBF := Lib.hid hS.2.2.2.2.2.2.out
          go_wp2_with fail
          go_meet
          exact ⟨rfl, HBF.out⟩
        case rest =>
          obtain ⟨rfl, hb6⟩ := hcut
          have HL7 := Lib.hid (HL6.out.below hb6.out)
          have HXHL7 := Lib.hid (HX6.out.below hb6.out (World.block_lt_of_cell? _ _ HX6.out.c0))
          clear HL6 HX6 hb6
          go_wp2_with (go_at_call 13; first | (refine (next_any (w.heap.size + 1) p n c z _ _ HL7.out.dk (by omega)).mono ?_; rintro e w7 ⟨q, rfl, q1, q2, hd5, hg5⟩; have HL8 := Lib.hid (HL7.out.next hd5 hg5); have HXHL8 := Lib.hid (HXHL7.out.grown hg5 (by have := HL7.out.dk.lt; simp; omega)); clear hd5 hg5 HL7 HXHL7) | (refine (next_any (w.heap.size + 1) p n c z _ _ HL8.out.dk (by omega)).mono ?_; rintro e w8 ⟨t, rfl, t1, t2, hd5, hg5⟩; have HL9 := Lib.hid (HL8.out.next hd5 hg5); have HXHL9 := Lib.hid (HXHL8.out.grown hg5 (by have := HL8.out.dk.lt; simp; omega)); clear hd5 hg5 HL8 HXHL8))
          have hs1 : IntKind.i64.wrap (90 + q) = 90 + q := by rw [IntKind.wrap_i64]; omega
          have HL10 := Lib.hid (HL9.out.below ((Below.refl w8.heap.size w8).alloc (Nat.le_refl _) (.cells #[.int .i64 x, .int .i64 y, .int .i64 (90 + q), .int .i64 t] 33)))
          have HX10 := Lib.hid (HXHL9.out.below ((Below.refl w8.heap.size w8).alloc (Nat.le_refl _) (.cells #[.int .i64 x, .int .i64 y, .int .i64 (90 + q), .int .i64 t] 33)) (World.block_lt_of_cell? _ _ HXHL9.out.c0))
          have HP10 : Hid (∀ j, j < 2 → (w8.alloc (.cells #[.int .i64 x, .int .i64 y, .int .i64 (90 + q), .int .i64 t] 33)).cell? ⟨w8.heap.size, j * 2, none⟩ = some (.int .i64 (if j = 0 then x else 90 + q)) ∧ (w8.alloc (.cells #[.int .i64 x, .int .i64 y, .int .i64 (90 + q), .int .i64 t] 33)).cell? ⟨w8.heap.size, j * 2 + 1, none⟩ = some (.int .i64 (if j = 0 then y else t))) := fun j hj => by
            have hc : j = 0 ∨ j = 1 := by omega
            rcases hc with rfl | rfl <;> simp
          have HV10 : Hid (∀ j : Nat, -9223372036854775808 ≤ (if j = 0 then y else t) ∧ (if j = 0 then y else t) ≤ 9223372036854775807) := fun j => by
            have := HY.out
            by_cases e : j = 0
            · rw [if_pos e]; exact this
            · rw [if_neg e]; omega
          clear HL9 HXHL9
          generalize w8.alloc (.cells #[.int .i64 x, .int .i64 y, .int .i64 (90 + q), .int .i64 t] 33) = w10 at *
          generalize w8.heap.size = sb at *
          go_loopw [66] (fun s wr => ∃ j : Nat, j ≤ 2 ∧ s = .int .i64 j ∧ Hid (Below w10.heap.size w10 wr)) (fun s _ => 2 - (intOf s).toNat)
          case atStart => exact ⟨0, by omega, rfl, Below.refl _ _⟩
          case round =>
            obtain ⟨j, hj, rfl, hb⟩ := hrel
            by_cases hj2 : j < 2
            · have hj2' : (j : Int) < 2 := by omega
              have hlt := World.block_lt_of_cell? _ _ (HP10.out j hj2).1
              have m0 := (hb.out.cell (p := ⟨sb, j * 2, none⟩) hlt).trans (HP10.out j hj2).1
              have m1 := (hb.out.cell (p := ⟨sb, j * 2 + 1, none⟩) hlt).trans (HP10.out j hj2).2
              obtain ⟨l, hl⟩ : ∃ l, (if j = 0 then x else 90 + q) = l := ⟨_, rfl⟩
              obtain ⟨v, hv⟩ : ∃ v, (if j = 0 then y else t) = v := ⟨_, rfl⟩
              have HVV := Lib.hid (by have h := HV10.out j; rw [hv] at h; exact h)
              rw [hl] at m0
              rw [hv] at m1
              clear hl hv HP10 HV10 hlt hs1
              go_upto_region 11 with fail
              have HRW := Lib.hid (HRD.out _ (HL10.out.below (hb.out.alloc hb.out.size (.cells #[.int .i64 l, .int .i64 v] 33))))
              have HPB : Hid ((wr.alloc (.cells #[.int .i64 l, .int .i64 v] 33)).cell? ⟨wr.heap.size, 0, none⟩ = some (.int .i64 l) ∧ (wr.alloc (.cells #[.int .i64 l, .int .i64 v] 33)).cell? ⟨wr.heap.size, 1, none⟩ = some (.int .i64 v)) := ⟨by simp, by simp⟩
              have HX11 := Lib.hid (HX10.out.below (hb.out.alloc hb.out.size (.cells #[.int .i64 l, .int .i64 v] 33)) (World.block_lt_of_cell? _ _ HX10.out.c0))
              have HB11 := Lib.hid (hb.out.alloc hb.out.size (.cells #[.int .i64 l, .int .i64 v] 33))
              clear m0 m1 HRD hb
              generalize wr.alloc (.cells #[.int .i64 l, .int .i64 v] 33) = w9 at *
              generalize wr.heap.size = pb at *
              obtain ⟨a, e, y5, f, u, i5, m5, k5, s5, q5, HT⟩ := ten_pack ki di li fi si ci l v HRW.out HVV.out
              have HC9 : Hid (∀ W, Hid (Below w9.heap.size w9 W) → Bx W xb pi ni ki di li fi si ci ∧ W.cell? ⟨pb, 0, none⟩ = some (.int .i64 l) ∧ W.cell? ⟨pb, 1, none⟩ = some (.int .i64 v)) := fun W h =>
                ⟨HX11.out.below h.out (World.block_lt_of_cell? _ _ HX11.out.c0), (h.out.cell (p := ⟨pb, 0, none⟩) (World.block_lt_of_cell? _ _ HPB.out.1)).trans HPB.out.1, (h.out.cell (p := ⟨pb, 1, none⟩) (World.block_lt_of_cell? _ _ HPB.out.2)).trans HPB.out.2⟩
              have HF9 : Hid (∀ W, Hid (Below w9.heap.size w9 W) → Below w10.heap.size w10 W) := fun W h => HB11.out.trans (h.out.mono HB11.out.size)
              have hb5 : Hid (Below w9.heap.size w9 w9) := Below.refl _ _
              obtain ⟨⟨c0, c1, c2, c3, c4, c5⟩, p0, p1⟩ := HC9.out _ hb5
              have na : (a != a) = false := by simp
              have ne : (e != e) = false := by simp
              have ny : (y5 != y5) = false := by simp
              have nf : (f != f) = false := by simp
              have nu : (u != u) = false := by simp
              have nii : (i5 != i5) = false := by simp
              have nm : (m5 != m5) = false := by simp
              have nk : (k5 != k5) = false := by simp
              have ns : (s5 != s5) = false := by simp
              have nq : (q5 != q5) = false := by simp
              clear HRW HPB HX11 HB11 HX10 HL10 HVV
              go_wp2_with (first
                | (go_at_call 14; refine (HT.out.VO _ (by assumption)).mono ?_; clear c0 c1 c2 c3 c4 c5 p0 p1; rintro e w11 ⟨rfl, hb5⟩; have hcf := HC9.out _ hb5; obtain ⟨⟨c0, c1, c2, c3, c4, c5⟩, p0, p1⟩ := hcf)
                | (go_at_call 15; refine (HT.out.rVO _ (by assumption)).mono ?_; clear c0 c1 c2 c3 c4 c5 p0 p1; rintro e w11 ⟨rfl, hb5⟩; have hcf := HC9.out _ hb5; obtain ⟨⟨c0, c1, c2, c3, c4, c5⟩, p0, p1⟩ := hcf)
                | (go_at_call 16; refine (HT.out.LE _ (by assumption)).mono ?_; clear c0 c1 c2 c3 c4 c5 p0 p1; rintro e w11 ⟨rfl, hb5⟩; have hcf := HC9.out _ hb5; obtain ⟨⟨c0, c1, c2, c3, c4, c5⟩, p0, p1⟩ := hcf)
                | (go_at_call 17; refine (HT.out.rLE _ (by assumption)).mono ?_; clear c0 c1 c2 c3 c4 c5 p0 p1; rintro e w11 ⟨rfl, hb5⟩; have hcf := HC9.out _ hb5; obtain ⟨⟨c0, c1, c2, c3, c4, c5⟩, p0, p1⟩ := hcf)
                | (go_at_call 18; refine (HT.out.ZO _ (by assumption)).mono ?_; clear c0 c1 c2 c3 c4 c5 p0 p1; rintro e w11 ⟨rfl, hb5⟩; have hcf := HC9.out _ hb5; obtain ⟨⟨c0, c1, c2, c3, c4, c5⟩, p0, p1⟩ := hcf)
                | (go_at_call 19; refine (HT.out.rZO _ (by assumption)).mono ?_; clear c0 c1 c2 c3 c4 c5 p0 p1; rintro e w11 ⟨rfl, hb5⟩; have hcf := HC9.out _ hb5; obtain ⟨⟨c0, c1, c2, c3, c4, c5⟩, p0, p1⟩ := hcf)
                | (go_at_call 20; refine (HT.out.RO _ (by assumption)).mono ?_; clear c0 c1 c2 c3 c4 c5 p0 p1; rintro e w11 ⟨rfl, hb5⟩; have hcf := HC9.out _ hb5; obtain ⟨⟨c0, c1, c2, c3, c4, c5⟩, p0, p1⟩ := hcf)
                | (go_at_call 21; refine (HT.out.rRO _ (by assumption)).mono ?_; clear c0 c1 c2 c3 c4 c5 p0 p1; rintro e w11 ⟨rfl, hb5⟩; have hcf := HC9.out _ hb5; obtain ⟨⟨c0, c1, c2, c3, c4, c5⟩, p0, p1⟩ := hcf)
                | (go_at_call 22; refine (HT.out.US _ (by assumption)).mono ?_; clear c0 c1 c2 c3 c4 c5 p0 p1; rintro e w11 ⟨rfl, hb5⟩; have hcf := HC9.out _ hb5; obtain ⟨⟨c0, c1, c2, c3, c4, c5⟩, p0, p1⟩ := hcf)
                | (go_at_call 23; refine (HT.out.rUS _ (by assumption)).mono ?_; clear c0 c1 c2 c3 c4 c5 p0 p1; rintro e w11 ⟨rfl, hb5⟩; have hcf := HC9.out _ hb5; obtain ⟨⟨c0, c1, c2, c3, c4, c5⟩, p0, p1⟩ := hcf))
              go_roundw
              case rel => exact ⟨j + 1, by omega, by go_num, HF9.out _ hb5⟩
              case measure => simp [intOf]; omega
            · obtain rfl : j = 2 := by omega
              have HLE := Lib.hid (HL10.out.below hb.out)
              clear HP10 HV10 HX10 HL10 hb hs1
              go_wp2
              go_roundw
              case rel => exact ⟨i + 1, by omega, by go_num, HLE⟩
              case measure => simp [intOf]; omega
      · obtain rfl : i = 3 := by omega
        go_wp2_with (go_at_call 24; refine (awk_any _).mono ?_; rintro e w11 ⟨rfl, hb5⟩)
        go_ret
        exact ⟨rfl, HLS.out.bel.trans (hb5.mono HLS.out.bel.size)⟩
end Go.Proofs.Ytglimagkfapcaaa.Cu

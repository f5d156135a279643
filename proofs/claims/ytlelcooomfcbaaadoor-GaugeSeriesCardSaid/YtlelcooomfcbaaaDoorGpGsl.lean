/-
  The law GaugeSeries.
-/
import Derived.Test.YtlelcooomfcbaaaDoorGgSer
import Derived.Test.YtlelcooomfcbaaaDoorGpLga
import Derived.Deep.AppendLies
import Derived.Deep.RegionHeld3
import Derived.Deep.DeepCutAuto
namespace Go.Proofs.YtlelcooomfcbaaaDoor.Gg
open Go.ChangeShapes Go.WideShapes Go.ChangeAt Go.RowKit
open Go.Proofs.YtlelcooomfcbaaaDoor.Cu (Dk Dk.grown Dk.alloc Dk.below next_any grown_own grown_trans)
set_option linter.unusedVariables false

/-- append(nil, list...), at a step of a region that draws its order. -/
theorem wp_app_nil' {w : World} {o : Oper} {a : Act} {K : Act → World → Prop} {Q : Exit → Act → World → Prop} (s x : Operand)
    (ho : o.op = .call { callee := .builtin .append, args := #[s, x], argTypes := #[29, 29] }) (hs : a.eval s = .slice none 0 0) (v : Value) (hx : a.eval x = v)
    (bs n : Nat) (R : Nat → Nat → Int) (hg : GotR w bs v n R) (base : Nat) (hbase : base ≤ w.heap.size) (hn : n ≤ 1000000)
    (h : ∀ v' w', GotR w' base v' n R → w.grownBy w' none → K (a.put o.dst v') w') : o.wp Tryd.prog a w K Q := by
  obtain ⟨i0, hi, hz0, hz1, hz2⟩ := info_parts Tryd.infoR
  rcases hg.2 with ⟨rfl, h0⟩ | ⟨g, cap, cur, rfl, _⟩
  · subst h0
    have hrun := run_append_owned_none (P := Tryd.prog) (w := w) base 29 o.type 23 i0 4 Tryd.underlying29 hi _ 0 _ (gotR_nil w base R)
    unfold Oper.wp execOp
    simp only [ho, resolve, invoke, builtin, Sem.run_bind, Sem.run_pure, Result.andThen_ok, List.map_toArray, List.map_cons, List.map_nil, hs, hx, hrun]
    exact h _ _ (gotR_nil w base R) (Cu.grown_refl w none)
  · obtain ⟨v', w', hrun, hown, hgr, _⟩ := run_append_own (P := Tryd.prog) w base 29 o.type 23 i0 (.agg #[.int .i64 0, .int .i64 0, .int .i64 0, .int .i64 0]) 4 32 Tryd.underlying29 hi hz0 hz1 hz2 rfl (by decide) (.slice none 0 0) 0 [] (World.ownsRow_nil w base _ 4) ⟨g, 0, none⟩ n cap (rsL R n) (rsL_len R n) (by
      by_cases hn0 : n = 0
      · subst hn0
        intro j u hj
        simp [rsL] at hj
      · obtain ⟨g', cap', e, _, hrs, _⟩ := gotR_rs hg (by omega)
        simp only [Value.slice.injEq, Option.some.injEq, Addr.mk.injEq] at e
        obtain ⟨⟨rfl, _⟩, _⟩ := e
        exact rs_news hrs) (rsL_one R n) (by unfold maxLen; omega) (by omega) hbase
    unfold Oper.wp execOp
    simp only [ho, resolve, invoke, builtin, Sem.run_bind, Sem.run_pure, Result.andThen_ok, List.map_toArray, List.map_cons, List.map_nil, hs, hx, hrun]
    refine h v' w' ?_ hgr
    unfold GotR
    rw [Nat.zero_add, List.nil_append] at hown
    exact hown
theorem step_app_nil {w : World} {ops : Array Oper} {o : Oper} {a : Act} {K : Act → World → Prop} {Q : Exit → Act → World → Prop} {E : Prop} (hgd : o.guard = none) (s x : Operand)
    (ho : o.op = .call { callee := .builtin .append, args := #[s, x], argTypes := #[29, 29] }) (hs : a.eval s = .slice none 0 0) (v : Value) (hx : a.eval x = v)
    (bs n : Nat) (R : Nat → Nat → Int) (hg : GotR w bs v n R) (base : Nat) (hbase : base ≤ w.heap.size) (hn : n ≤ 1000000)
    (h : ∀ v' w', GotR w' base v' n R → w.grownBy w' none → K (a.put o.dst v') w') : if Region.wanted o (yielded ops a.tmps) = true then Oper.wp Tryd.prog o a w K Q else E := by
  have hw : Region.wanted o (yielded ops a.tmps) = true := by simp [Region.wanted, hgd]
  rw [if_pos hw]
  exact wp_app_nil' s x ho hs v hx bs n R hg base hbase hn h

/-- Readings that can be read, elsewhere than in the deck's block. -/
def RdX (w : World) (g : Nat) (p : Option Addr) (n : Nat) (R : Nat → Nat → Int) : Prop := 0 < n → ∃ b off, p = some ⟨b, off, none⟩ ∧ b ≠ g ∧ Rs w b off n R
theorem RdX.rd {w : World} {g : Nat} {p : Option Addr} {n : Nat} {R : Nat → Nat → Int} (h : RdX w g p n R) : RdR w p n R := fun hn => by
  obtain ⟨b, off, e, _, h2⟩ := h hn
  exact ⟨b, off, e, h2⟩
theorem RdX.up {w w' : World} {B g : Nat} {p : Option Addr} {n : Nat} {R : Nat → Nat → Int} (h : RdX w g p n R) (hb : Below B w w') (hB : w.heap.size ≤ B) : RdX w' g p n R := fun hn => by
  obtain ⟨b, off, e, h1, h2⟩ := h hn
  exact ⟨b, off, e, h1, h2.up hb hB⟩
theorem RdX.next {w w' : World} {g : Nat} {p : Option Addr} {n : Nat} {R : Nat → Nat → Int} (h : RdX w g p n R) (hg : w.grownBy w' (some g)) : RdX w' g p n R := fun hn => by
  obtain ⟨b, off, e, h1, h2⟩ := h hn
  exact ⟨b, off, e, h1, h2.grown hg (by simpa using h1)⟩
theorem gotR_rdx {w : World} {base g : Nat} {p : Option Addr} {n c : Nat} {R : Nat → Nat → Int} (h : GotR w base (.slice p n c) n R) (hg : g < base) : RdX w g p n R := fun hn => by
  obtain ⟨b, cap, e, h1, h2, _⟩ := gotR_rs h hn
  simp only [Value.slice.injEq] at e
  exact ⟨b, 0, e.1, by omega, h2⟩
/-- What the loops of the law keep: the deck, both lists, where they stand. -/
structure Sx (w0 : World) (g : Nat) (p : Option Addr) (n c : Nat) (z : Nat → Int) (B : Nat) (p1 : Option Addr) (j cap1 : Nat) (R : Nat → Nat → Int) (gz cz : Nat) (R' : Nat → Nat → Int) (W : World) : Prop where
  dk : Dk W g p n c z
  l1 : RdX W g p1 j R
  l2 : RdX W g (some ⟨gz, 0, none⟩) (j + 1) R'
  b0 : W.cell? ⟨B, 0, none⟩ = some (.slice p1 j cap1)
  b1 : W.cell? ⟨B, 1, none⟩ = some (.slice (some ⟨gz, 0, none⟩) (j + 1) cz)
  bn : B ≠ g
  bel : Below w0.heap.size w0 W
  ge : w0.heap.size ≤ g
section
variable {w0 : World} {g : Nat} {p : Option Addr} {n c : Nat} {z : Nat → Int} {B : Nat} {p1 : Option Addr} {j cap1 : Nat} {R : Nat → Nat → Int} {gz cz : Nat} {R' : Nat → Nat → Int} {W W' : World}
theorem Sx.up (h : Sx w0 g p n c z B p1 j cap1 R gz cz R' W) (hb : Below W.heap.size W W') : Sx w0 g p n c z B p1 j cap1 R gz cz R' W' :=
  { dk := h.dk.below hb h.dk.lt, l1 := h.l1.up hb (Nat.le_refl _), l2 := h.l2.up hb (Nat.le_refl _)
    b0 := (hb.cell (p := ⟨B, 0, none⟩) (World.block_lt_of_cell? _ _ h.b0)).trans h.b0
    b1 := (hb.cell (p := ⟨B, 1, none⟩) (World.block_lt_of_cell? _ _ h.b1)).trans h.b1
    bn := h.bn, bel := h.bel.trans (hb.mono h.bel.size), ge := h.ge }
theorem Sx.alloc (h : Sx w0 g p n c z B p1 j cap1 R gz cz R' W) (o : Obj) : Sx w0 g p n c z B p1 j cap1 R gz cz R' (W.alloc o) := h.up ((Below.refl _ _).alloc (Nat.le_refl _) o)
theorem Sx.next (h : Sx w0 g p n c z B p1 j cap1 R gz cz R' W) (hd : Dk W' g p n c z) (hg : W.grownBy W' (some g)) : Sx w0 g p n c z B p1 j cap1 R gz cz R' W' :=
  { dk := hd, l1 := h.l1.next hg, l2 := h.l2.next hg
    b0 := hg.cell (a := ⟨B, 0, none⟩) h.b0 (by have := h.bn; simpa using this)
    b1 := hg.cell (a := ⟨B, 1, none⟩) h.b1 (by have := h.bn; simpa using this)
    bn := h.bn, bel := h.bel.grown hg h.bel.size (fun k hk => by cases hk; exact h.ge), ge := h.ge }
end

set_option maxRecDepth 100000 in
set_option maxHeartbeats 4000000 in
theorem gsl_early (r0 r1 r2 r3 : Int) (p : Option Addr) (n c : Nat) (a b ct : Int) (w : World) (hct : 2000 < ct ∧ ct ≤ 4096) (hw : FlW w) :
    Calls Tryd.prog 5 #[.agg #[.int .i64 r0, .int .i64 r1, .int .i64 r2, .int .i64 r3], .slice p n c, .int .i64 a, .int .i64 b, .int .i64 ct] w fun e w' => e = .returned (.bool true) ∧ Below w.heap.size w w' := by
  obtain ⟨h1, h2⟩ := hct
  have HW := Lib.hid hw
  clear hw
  go_enter Tryd.func5, Tryd.ntmps5
  go_wp2_with (go_at_call 9; refine (awake_any _ (HW.out.up ((Below.refl _ _).alloc (Nat.le_refl _) _) (Nat.le_refl _))).mono ?_; rintro e w1 ⟨rfl, hb1⟩; have HB1 : Hid (Below w.heap.size w w1) := ((Below.refl _ _).alloc (Nat.le_refl _) _).trans (hb1.mono (by simp)); clear hb1)
  go_ret
  exact ⟨rfl, HB1.out⟩

/-- What the region of the two lists keeps. -/
abbrev Sq5 (w2 : World) (kb : Nat) (r0 r1 r2 r3 : Int) (W : World) : Prop :=
  W.cell? ⟨kb, 0, none⟩ = some (.int .i64 r0) ∧ W.cell? ⟨kb, 1, none⟩ = some (.int .i64 r1) ∧ W.cell? ⟨kb, 2, none⟩ = some (.int .i64 r2) ∧ W.cell? ⟨kb, 3, none⟩ = some (.int .i64 r3) ∧ Hid (kb < w2.heap.size ∧ Below w2.heap.size w2 W)
section
variable {w2 W : World} {kb : Nat} {r0 r1 r2 r3 : Int}
theorem Sq5_up {W' : World} (h : Sq5 w2 kb r0 r1 r2 r3 W) (hb : Below W.heap.size W W') : Sq5 w2 kb r0 r1 r2 r3 W' :=
  have hs := h.2.2.2.2.out.2.size
  have hk := h.2.2.2.2.out.1
  ⟨(hb.cell (p := ⟨kb, 0, none⟩) (by show kb < _; omega)).trans h.1, (hb.cell (p := ⟨kb, 1, none⟩) (by show kb < _; omega)).trans h.2.1, (hb.cell (p := ⟨kb, 2, none⟩) (by show kb < _; omega)).trans h.2.2.1, (hb.cell (p := ⟨kb, 3, none⟩) (by show kb < _; omega)).trans h.2.2.2.1,
    (show kb < w2.heap.size ∧ Below w2.heap.size w2 W' from ⟨hk, h.2.2.2.2.out.2.trans (hb.mono hs)⟩)⟩
theorem Sq5_drewN (h : Sq5 w2 kb r0 r1 r2 r3 W) (q : Nat) : Sq5 w2 kb r0 r1 r2 r3 (W.drewN q) := Sq5_up h (below_drewN (Below.refl _ _) q)
theorem Sq5_drew (h : Sq5 w2 kb r0 r1 r2 r3 W) : Sq5 w2 kb r0 r1 r2 r3 W.drew := Sq5_up h (below_drewN (Below.refl _ _) 1)
theorem Sq5_alloc (h : Sq5 w2 kb r0 r1 r2 r3 W) (o : Obj) : Sq5 w2 kb r0 r1 r2 r3 (W.alloc o) := Sq5_up h ((Below.refl _ _).alloc (Nat.le_refl _) o)
theorem Sq5_grown {W' : World} {r : Option Nat} (h : Sq5 w2 kb r0 r1 r2 r3 W) (hg : W.grownBy W' r) (hr : ∀ k, r = some k → w2.heap.size ≤ k) : Sq5 w2 kb r0 r1 r2 r3 W' :=
  have hk := h.2.2.2.2.out.1
  have hn : some kb ≠ r := fun e => by have := hr kb e.symm; omega
  ⟨hg.cell (a := ⟨kb, 0, none⟩) h.1 hn, hg.cell (a := ⟨kb, 1, none⟩) h.2.1 hn, hg.cell (a := ⟨kb, 2, none⟩) h.2.2.1 hn, hg.cell (a := ⟨kb, 3, none⟩) h.2.2.2.1 hn,
    (show kb < w2.heap.size ∧ Below w2.heap.size w2 W' from ⟨hk, h.2.2.2.2.out.2.grown hg h.2.2.2.2.out.2.size hr⟩)⟩
theorem Sq5_app {W' : World} (h : Sq5 w2 kb r0 r1 r2 r3 W) (hg : W.grownBy W' none) : Sq5 w2 kb r0 r1 r2 r3 W' := Sq5_up h ((Below.refl _ _).grown hg (Nat.le_refl _) (fun _ h => by cases h))
end

theorem sx_made {w0 w2 w7 : World} {g : Nat} {p : Option Addr} {n c : Nat} {z : Nat → Int} {p1 : Option Addr} {j cap1 b1 : Nat} {R : Nat → Nat → Int} {gg cap : Nat} {r0 r1 r2 r3 : Int} {t : TypeId} (hw : Below w0.heap.size w0 w2) (hgw : w0.heap.size ≤ g) (hdk : Dk w2 g p n c z) (h1 : GotR w2 b1 (.slice p1 j cap1) j R) (hb1 : g < b1)
    (hb : Below w2.heap.size w2 (w7.alloc (.cells #[.slice p1 j cap1, .slice (some ⟨gg, 0, none⟩) (j + 1) cap] t)))
    (hown : w7.ownsRow w2.heap.size 23 4 (.slice (some ⟨gg, 0, none⟩) (j + 1) cap) (j + 1) (rsL R j ++ [.int .i64 r0, .int .i64 r1, .int .i64 r2, .int .i64 r3])) :
    Sx w0 g p n c z w7.heap.size p1 j cap1 R gg cap (updR R j (mkR r0 r1 r2 r3)) (w7.alloc (.cells #[.slice p1 j cap1, .slice (some ⟨gg, 0, none⟩) (j + 1) cap] t)) :=
  have hgl := hdk.lt
  have hg7 := World.ownsRow.lt hown gg rfl
  { dk := hdk.below hb hgl, l1 := (gotR_rdx h1 hb1).up hb (Nat.le_refl _)
    l2 := (gotR_rdx (World.ownsRow.alloc (gotR_next hown) _) hgl)
    b0 := by simp, b1 := by simp, bn := by omega, bel := hw.trans (hb.mono hw.size), ge := hgw }
theorem grown_undrew {w w' : World} {r : Option Nat} (h : w.drew.grownBy w' r) : w.grownBy w' r := ⟨h.os, h.tape, h.output, h.size, h.block⟩
theorem grown_undrewN {w w' : World} {q : Nat} {r : Option Nat} (h : (w.drewN q).grownBy w' r) : w.grownBy w' r := ⟨h.os, h.tape, h.output, h.size, h.block⟩
theorem news_kept {X w6 : World} {N : Nat} {a b c d : Value} {t : TypeId} (hg : (X.alloc (.cells #[a, b, c, d] t)).grownBy w6 none) (hN : X.heap.size = N) : ∀ j u, [a, b, c, d][j]? = some u → w6.cell? ((⟨N, 0, none⟩ : Addr).add j) = some u := by
  subst hN
  intro j u hj
  have h := cell_four X a b c d t j u hj
  rw [add_plain] at h ⊢
  exact hg.cell h (by simp)
/-- What both Series return: a list and an error. -/
def SeQ (cd : Int) (N : Nat) (F : Nat → Nat → Int) (W : World) (e : Ending) (w' : World) : Prop := ∃ q c, e = .returned (.tuple #[.slice q N c, .int .i64 cd]) ∧ RdR w' q N F ∧ Below W.heap.size W w'
theorem sep_seq {R : Nat → Nat → Int} {n : Nat} {g f c : Int} {W w' : World} {e : Ending} (h : SeP W R n g f c e w') : SeQ (seE R n g f c) (seN R n g f c) (seR R n g f) W e w' := by
  obtain ⟨v, rfl, hg, hb⟩ := h
  obtain ⟨q, cq, rfl, hr⟩ := gotR_rd hg
  exact ⟨q, cq, rfl, hr, hb⟩
theorem ser_two (px : Option Addr) (nx cx : Nat) (Rx : Nat → Nat → Int) (g f c : Int) (hn : nx ≤ 1000) (hf : -9223372036854775808 ≤ f ∧ f ≤ 9223372036854775807) (hc : -9223372036854775808 ≤ c ∧ c ≤ 9223372036854775807) :
    ∃ (cd : Int) (N : Nat) (F : Nat → Nat → Int), N ≤ 4096 ∧ (∀ W, RdR W px nx Rx → Calls Tryd.prog 28 #[.slice px nx cx, .int .i64 g, .int .i64 f, .int .i64 c] W (SeQ cd N F W)) ∧ (∀ W, RdR W px nx Rx → Calls Tryd.prog 29 #[.slice px nx cx, .int .i64 g, .int .i64 f, .int .i64 c] W (SeQ cd N F W)) := by
  refine ⟨seE Rx nx g f c, seN Rx nx g f c, seR Rx nx g f, ?_, fun W h => (pser_any px nx cx Rx g f c W h (by omega) hf hc).mono (fun e w' h => sep_seq h), fun W h => (rser_any px nx cx Rx g f c W h (by omega)).mono (fun e w' h => sep_seq h)⟩
  unfold seN
  split
  · rename_i h
    have := inB_iff.1 (seE_zero h).2.1
    omega
  · omega
theorem smB_self (F : Nat → Nat → Int) (N : Nat) : smB F F N N = true := by unfold smB; rw [decide_eq_true_eq]; exact ⟨rfl, fun i _ j _ => rfl⟩
def Six (W : World) (BB : Nat) (x0 x1 x2 x3 x4 x5 : Int) : Prop := BB < W.heap.size ∧ W.cell? ⟨BB, 0, none⟩ = some (.int .i64 x0) ∧ W.cell? ⟨BB, 1, none⟩ = some (.int .i64 x1) ∧ W.cell? ⟨BB, 2, none⟩ = some (.int .i64 x2) ∧ W.cell? ⟨BB, 3, none⟩ = some (.int .i64 x3) ∧ W.cell? ⟨BB, 4, none⟩ = some (.int .i64 x4) ∧ W.cell? ⟨BB, 5, none⟩ = some (.int .i64 x5)
theorem Six.up {W W' : World} {BB : Nat} {x0 x1 x2 x3 x4 x5 : Int} (h : Six W BB x0 x1 x2 x3 x4 x5) (hb : Below W.heap.size W W') : Six W' BB x0 x1 x2 x3 x4 x5 :=
  ⟨Nat.lt_of_lt_of_le h.1 hb.size, (hb.cell (p := ⟨BB, 0, none⟩) h.1).trans h.2.1, (hb.cell (p := ⟨BB, 1, none⟩) h.1).trans h.2.2.1, (hb.cell (p := ⟨BB, 2, none⟩) h.1).trans h.2.2.2.1, (hb.cell (p := ⟨BB, 3, none⟩) h.1).trans h.2.2.2.2.1, (hb.cell (p := ⟨BB, 4, none⟩) h.1).trans h.2.2.2.2.2.1, (hb.cell (p := ⟨BB, 5, none⟩) h.1).trans h.2.2.2.2.2.2⟩

set_option maxRecDepth 100000 in
set_option maxHeartbeats 4000000 in
theorem gsl_walk (r0 r1 r2 r3 : Int) (p : Option Addr) (n c : Nat) (z : Nat → Int) (a b ct : Int) (w : World) (hr : RdI w p n z) (hn : n ≤ 9223372036854775807) (hz : ∀ i, -9223372036854775808 ≤ z i ∧ z i ≤ 9223372036854775807)
    (ha : -9223372036854775808 ≤ a ∧ a ≤ 9223372036854775807) (hb : -9223372036854775808 ≤ b ∧ b ≤ 9223372036854775807) (hc : -9223372036854775808 ≤ ct ∧ ct ≤ 9223372036854775807) (hw : FlW w) :
    Calls Tryd.prog 5 #[.agg #[.int .i64 r0, .int .i64 r1, .int .i64 r2, .int .i64 r3], .slice p n c, .int .i64 a, .int .i64 b, .int .i64 ct] w fun e w' => e = .returned (.bool true) ∧ Below w.heap.size w w' := by
  by_cases hearly : 2000 < ct ∧ ct ≤ 4096
  · exact gsl_early r0 r1 r2 r3 p n c a b ct w hearly hw
  obtain ⟨i0, hi, hz0, hz1, hz2⟩ := info_parts Tryd.infoR
  have hguard : (¬ 2000 < ct) ∨ (2000 < ct ∧ ¬ ct ≤ 4096) := by omega
  have HW := Lib.hid hw
  have HRI := Lib.hid hr
  have HZB := Lib.hid hz
  have HNB := Lib.hid hn
  have HAB := Lib.hid ha
  have HBB := Lib.hid hb
  have HCB := Lib.hid hc
  clear hearly hw hr hz hn ha hb hc
  go_enter Tryd.func5, Tryd.ntmps5
  go_upto_region 1 with fail
  have k0 : (w.alloc (.cells #[.int .i64 r0, .int .i64 r1, .int .i64 r2, .int .i64 r3] 23)).cell? ⟨w.heap.size, 0, none⟩ = some (.int .i64 r0) := by simp
  have k1 : (w.alloc (.cells #[.int .i64 r0, .int .i64 r1, .int .i64 r2, .int .i64 r3] 23)).cell? ⟨w.heap.size, 1, none⟩ = some (.int .i64 r1) := by simp
  have k2 : (w.alloc (.cells #[.int .i64 r0, .int .i64 r1, .int .i64 r2, .int .i64 r3] 23)).cell? ⟨w.heap.size, 2, none⟩ = some (.int .i64 r2) := by simp
  have k3 : (w.alloc (.cells #[.int .i64 r0, .int .i64 r1, .int .i64 r2, .int .i64 r3] 23)).cell? ⟨w.heap.size, 3, none⟩ = some (.int .i64 r3) := by simp
  have HB0 : Hid (Below w.heap.size w (w.alloc (.cells #[.int .i64 r0, .int .i64 r1, .int .i64 r2, .int .i64 r3] 23))) := (Below.refl _ _).alloc (Nat.le_refl _) _
  have HS0 : Hid ((w.alloc (.cells #[.int .i64 r0, .int .i64 r1, .int .i64 r2, .int .i64 r3] 23)).heap.size = w.heap.size + 1) := by show _ = _; simp
  generalize w.alloc (.cells #[.int .i64 r0, .int .i64 r1, .int .i64 r2, .int .i64 r3] 23) = wB at *
  have K0 := Lib.hid k0
  have K1 := Lib.hid k1
  have K2 := Lib.hid k2
  have K3 := Lib.hid k3
  clear k0 k1 k2 k3
  have HN := Lib.hid (Cu.new_any p n c z wB HNB.out HZB.out (fun h => by
    obtain ⟨b', off, e, h1, h2⟩ := HRI.out h
    exact ⟨b', off, e, by rw [HS0.out]; omega, fun i hi => (HB0.out.cell (p := ⟨b', off + i, none⟩) h1).trans (h2 i hi)⟩))
  have hkb : w.heap.size < wB.heap.size := by rw [HS0.out]; omega
  obtain ⟨kb, hkbe⟩ : ∃ kb, kb = w.heap.size := ⟨_, rfl⟩
  rw [← hkbe] at K0 K1 K2 K3 hkb ⊢
  have HKB := Lib.hid hkbe
  clear hkbe HRI HZB HNB HS0
  go_cut [26] (fun s26 wx => s26 = .bool false ∧ wx = wB)
  case first =>
    rcases hguard with h | ⟨h1, h2⟩
    · go_wp2_with fail
      go_meet
      exact ⟨rfl, rfl⟩
    · go_wp2_with fail
      go_meet
      exact ⟨rfl, rfl⟩
  case rest =>
  obtain ⟨rfl, rfl⟩ := hcut
  clear hguard
  obtain ⟨wD, hwD⟩ : ∃ wD, wD = wc := ⟨_, rfl⟩
  subst hwD
  go_upto_region 5 with (first
    | (go_at_call 10; refine HN.out.mono ?_; rintro e w1 ⟨rfl, hd1, hb1⟩; have HD1 := Lib.hid hd1; have HB1 := Lib.hid hb1; have hs1 := hb1.size; clear hd1 hb1 HN)
    | (go_at_call 11; refine (readings_any _ p n c z 14 _ HD1.out (by omega)).mono ?_; rintro e w2 ⟨v, j, R, rfl, hj, hmk, hgi⟩; obtain ⟨p1, cap1, rfl, _⟩ := gotR_rd hgi.got; have HMK := Lib.hid hmk; have HGT := Lib.hid hgi.got; have HDK := Lib.hid hgi.dk; have HGR := Lib.hid hgi.gr; have hg1 := hgi.lt; clear hmk hgi))
  have hs2 := HGR.out.size
  have HB2 : Hid (Below w.heap.size w w2) := (HB0.out.trans (HB1.out.mono HB0.out.size)).grown HGR.out (Nat.le_trans HB0.out.size hs1) (fun k hk => by cases hk; exact HB0.out.size)
  have HS5 : Hid (Sq5 w2 kb r0 r1 r2 r3 w2) := by
    have h1 : ∀ i v, wD.cell? ⟨kb, i, none⟩ = some v → w2.cell? ⟨kb, i, none⟩ = some v := fun i v h => HGR.out.cell ((HB1.out.cell (p := ⟨kb, i, none⟩) hkb).trans h) (by simp; omega)
    exact ⟨h1 0 _ K0.out, h1 1 _ K1.out, h1 2 _ K2.out, h1 3 _ K3.out, (show kb < w2.heap.size ∧ Below w2.heap.size w2 w2 from ⟨by omega, Below.refl _ _⟩)⟩
  have HGW : Hid (∀ W, Sq5 w2 kb r0 r1 r2 r3 W → GotR W w1.heap.size (.slice p1 j cap1) j R) := fun W h => gotR_kept HGT.out h.2.2.2.2.out.2
  have HSZ : Hid (∀ W, Sq5 w2 kb r0 r1 r2 r3 W → w2.heap.size ≤ W.heap.size) := fun W h => h.2.2.2.2.out.2.size
  go_cut [38, 39, 40] (fun s38 s39 s40 wx => ∃ (B gz cz : Nat), s38 = .slice (some ⟨B, 0, none⟩) 2 2 ∧ s39 = .int .i64 2 ∧ s40 = .int .i64 0 ∧ Hid (Sx w wD.heap.size p n c z B p1 j cap1 R gz cz (updR R j (mkR r0 r1 r2 r3)) wx))
  case first =>
    clear K0 K1 K2 K3
    go_region_held3 (fun W => W.cell? ⟨kb, 0, none⟩ = some (.int .i64 r0) ∧ W.cell? ⟨kb, 1, none⟩ = some (.int .i64 r1) ∧ W.cell? ⟨kb, 2, none⟩ = some (.int .i64 r2) ∧ W.cell? ⟨kb, 3, none⟩ = some (.int .i64 r3) ∧ Hid (kb < w2.heap.size ∧ Below w2.heap.size w2 W)) (first | (with_reducible assumption) | (with_reducible exact HS5.out) | (with_reducible exact Sq5_drew HS5.out) | (with_reducible exact Sq5_drewN HS5.out _) | (with_reducible exact Sq5_alloc (by assumption) _) | (with_reducible exact Sq5_alloc (Sq5_drew (by assumption)) _) | (with_reducible exact Sq5_alloc (Sq5_drewN (by assumption) _) _) | (with_reducible exact Sq5_drew (Sq5_alloc HS5.out _)) | (with_reducible exact Sq5_drewN (Sq5_alloc HS5.out _) _) | (with_reducible exact Sq5_drew (Sq5_alloc (Sq5_drew HS5.out) _)) | (with_reducible exact Sq5_drew (Sq5_alloc (by assumption) _)) | (with_reducible exact Sq5_grown (by assumption) hgrow7 HZO.out) | (with_reducible exact Sq5_app (by assumption) hgr) | fail) (first
      | (refine step_app_nil (by rfl) _ _ (by rfl) (by rfl) (.slice p1 j cap1) (by rfl) w1.heap.size j R (HGW.out _ (by assumption)) w2.heap.size (HSZ.out _ (by assumption)) (by omega) ?_; intro zv w6 hgz hgr; have HZ6 := Lib.hid hgz; have hs6 : w2.heap.size ≤ w6.heap.size := Nat.le_trans (HSZ.out _ (by assumption)) hgr.size; have HZO := Lib.hid (gotR_block hgz); clear hgz)
      | (refine step_append_lies _ (by rfl) _ _ _ (by rfl) w2.heap.size 23 i0 (.agg #[.int .i64 0, .int .i64 0, .int .i64 0, .int .i64 0]) 4 32 Tryd.underlying29 hi hz0 hz1 hz2 rfl (by decide) zv j _ (by rfl) (World.ownsRow.alloc HZ6.out _) ⟨w6.heap.size, 0, none⟩ 1 1 [.int .i64 r0, .int .i64 r1, .int .i64 r2, .int .i64 r3] (by rfl) (by rfl) (World.news_of_block (cs := #[.int .i64 r0, .int .i64 r1, .int .i64 r2, .int .i64 r3]) (t := 23) (fr := (0, 0)) (heap_alloc_new w6 _)) (by simp [Value.oneCell']) (by omega) (by unfold maxLen; omega) (by omega) (by first | omega | (simp; omega)) _ (by rfl) ?_; intro gg cap w7 hown7 hgrow7 hat7 hlt7)
      | (refine step_append_lies _ (by rfl) _ _ _ (by rfl) w2.heap.size 23 i0 (.agg #[.int .i64 0, .int .i64 0, .int .i64 0, .int .i64 0]) 4 32 Tryd.underlying29 hi hz0 hz1 hz2 rfl (by decide) zv j _ (by rfl) (World.ownsRow.alloc (World.ownsRow.drew HZ6.out) _) ⟨w6.heap.size, 0, none⟩ 1 1 [.int .i64 r0, .int .i64 r1, .int .i64 r2, .int .i64 r3] (by rfl) (by rfl) (World.news_of_block (cs := #[.int .i64 r0, .int .i64 r1, .int .i64 r2, .int .i64 r3]) (t := 23) (fr := (0, 0)) (heap_alloc_new w6.drew _)) (by simp [Value.oneCell']) (by omega) (by unfold maxLen; omega) (by omega) (by first | omega | (simp; omega)) _ (by rfl) ?_; intro gg cap w7 hown7 hgrow7 hat7 hlt7)
      | (refine step_append_lies _ (by rfl) _ _ _ (by rfl) w2.heap.size 23 i0 (.agg #[.int .i64 0, .int .i64 0, .int .i64 0, .int .i64 0]) 4 32 Tryd.underlying29 hi hz0 hz1 hz2 rfl (by decide) zv j _ (by rfl) (HZ6.out) ⟨w2.heap.size, 0, none⟩ 1 1 [.int .i64 r0, .int .i64 r1, .int .i64 r2, .int .i64 r3] (by rfl) (by rfl) (news_kept hgr (by simp)) (by simp [Value.oneCell']) (by omega) (by unfold maxLen; omega) (by omega) (by first | omega | (simp; omega)) _ (by rfl) ?_; intro gg cap w7 hown7 hgrow7 hat7 hlt7)
      | (refine step_append_lies _ (by rfl) _ _ _ (by rfl) w2.heap.size 23 i0 (.agg #[.int .i64 0, .int .i64 0, .int .i64 0, .int .i64 0]) 4 32 Tryd.underlying29 hi hz0 hz1 hz2 rfl (by decide) zv j _ (by rfl) (World.ownsRow.drew HZ6.out) ⟨w2.heap.size, 0, none⟩ 1 1 [.int .i64 r0, .int .i64 r1, .int .i64 r2, .int .i64 r3] (by rfl) (by rfl) (news_kept hgr (by simp)) (by simp [Value.oneCell']) (by omega) (by unfold maxLen; omega) (by omega) (by first | omega | (simp; omega)) _ (by rfl) ?_; intro gg cap w7 hown7 hgrow7 hat7 hlt7)
      | (refine step_append_lies _ (by rfl) _ _ _ (by rfl) w2.heap.size 23 i0 (.agg #[.int .i64 0, .int .i64 0, .int .i64 0, .int .i64 0]) 4 32 Tryd.underlying29 hi hz0 hz1 hz2 rfl (by decide) zv j _ (by rfl) (HZ6.out) ⟨w2.heap.size, 0, none⟩ 1 1 [.int .i64 r0, .int .i64 r1, .int .i64 r2, .int .i64 r3] (by rfl) (by rfl) (news_kept (grown_undrew hgr) (by simp)) (by simp [Value.oneCell']) (by omega) (by unfold maxLen; omega) (by omega) (by first | omega | (simp; omega)) _ (by rfl) ?_; intro gg cap w7 hown7 hgrow7 hat7 hlt7)
      | (refine step_append_lies _ (by rfl) _ _ _ (by rfl) w2.heap.size 23 i0 (.agg #[.int .i64 0, .int .i64 0, .int .i64 0, .int .i64 0]) 4 32 Tryd.underlying29 hi hz0 hz1 hz2 rfl (by decide) zv j _ (by rfl) (HZ6.out) ⟨w2.heap.size, 0, none⟩ 1 1 [.int .i64 r0, .int .i64 r1, .int .i64 r2, .int .i64 r3] (by rfl) (by rfl) (news_kept (grown_undrewN hgr) (by simp)) (by simp [Value.oneCell']) (by omega) (by unfold maxLen; omega) (by omega) (by first | omega | (simp; omega)) _ (by rfl) ?_; intro gg cap w7 hown7 hgrow7 hat7 hlt7)
      | (refine step_append_lies _ (by rfl) _ _ _ (by rfl) w2.heap.size 23 i0 (.agg #[.int .i64 0, .int .i64 0, .int .i64 0, .int .i64 0]) 4 32 Tryd.underlying29 hi hz0 hz1 hz2 rfl (by decide) zv j _ (by rfl) (World.ownsRow.drew HZ6.out) ⟨w2.heap.size, 0, none⟩ 1 1 [.int .i64 r0, .int .i64 r1, .int .i64 r2, .int .i64 r3] (by rfl) (by rfl) (news_kept (grown_undrew hgr) (by simp)) (by simp [Value.oneCell']) (by omega) (by unfold maxLen; omega) (by omega) (by first | omega | (simp; omega)) _ (by rfl) ?_; intro gg cap w7 hown7 hgrow7 hat7 hlt7)
      | (refine step_append_lies _ (by rfl) _ _ _ (by rfl) w2.heap.size 23 i0 (.agg #[.int .i64 0, .int .i64 0, .int .i64 0, .int .i64 0]) 4 32 Tryd.underlying29 hi hz0 hz1 hz2 rfl (by decide) zv j _ (by rfl) (World.ownsRow.drew HZ6.out) ⟨w2.heap.size, 0, none⟩ 1 1 [.int .i64 r0, .int .i64 r1, .int .i64 r2, .int .i64 r3] (by rfl) (by rfl) (news_kept (grown_undrewN hgr) (by simp)) (by simp [Value.oneCell']) (by omega) (by unfold maxLen; omega) (by omega) (by first | omega | (simp; omega)) _ (by rfl) ?_; intro gg cap w7 hown7 hgrow7 hat7 hlt7))
    all_goals
      rename_i hHeld
      have HF := Lib.hid hHeld.2.2.2.2.out.2
      go_wp2_with fail
      go_meet
      exact ⟨w7.heap.size, gg, cap, rfl, rfl, rfl, sx_made HB2.out (by have := HB0.out.size; omega) HDK.out HGT.out hg1 HF.out hown7⟩
  case rest =>
    obtain ⟨B, gz, cz, rfl, rfl, rfl, HSX⟩ := hcut
    clear K0 K1 K2 K3 HS5 HGW HSZ HGT HDK HB2
    obtain ⟨w8, hw8⟩ : ∃ w8, w8 = wc := ⟨_, rfl⟩
    subst hw8
    obtain ⟨gd, hgd⟩ : ∃ gd, gd = wD.heap.size := ⟨_, rfl⟩
    rw [← hgd] at HSX ⊢
    clear hgd HD1 HB1 HGR hs1 hs2 hg1 HMK
    go_wp2
    go_loopw [40] (fun i wr => ∃ m : Nat, m ≤ 2 ∧ i = .int .i64 m ∧ Hid (Sx w gd p n c z B p1 j cap1 R gz cz (updR R j (mkR r0 r1 r2 r3)) wr)) (fun i _ => 2 - (intOf i).toNat)
    case atStart => exact ⟨0, by omega, rfl, HSX⟩
    case round =>
      clear HSX
      obtain ⟨m, hm, rfl, S1⟩ := hrel
      obtain ⟨wm, hwm⟩ : ∃ wm, wm = wr := ⟨_, rfl⟩
      subst hwm
      have hcm : m = 0 ∨ m = 1 ∨ m = 2 := by omega
      clear hm
      have b0 := S1.out.b0
      have b1 := S1.out.b1
      rcases hcm with rfl | rfl | rfl
      · skip
        go_wp2_with (go_at_call 12; first
          | (refine (next_any gd p n c z _ _ S1.out.dk (by omega)).mono ?_; rintro e w3 ⟨n1, rfl, n11, n12, hd, hg⟩; have S2 := Lib.hid (S1.out.next hd hg); clear hd hg S1)
          | (refine (next_any gd p n c z _ _ S2.out.dk (by omega)).mono ?_; rintro e w4 ⟨n2, rfl, n21, n22, hd, hg⟩; have S3 := Lib.hid (S2.out.next hd hg); clear hd hg S2)
          | (refine (next_any gd p n c z _ _ S3.out.dk (by omega)).mono ?_; rintro e w5 ⟨n3, rfl, n31, n32, hd, hg⟩; have S4 := Lib.hid (S3.out.next hd hg); clear hd hg S3))
        have S5 := Lib.hid (S4.out.alloc (.cells #[.int .i64 a, .int .i64 b, .int .i64 ct, .int .i64 n1, .int .i64 n2, .int .i64 n3] 50))
        have X5 : Hid (Six (w5.alloc (.cells #[.int .i64 a, .int .i64 b, .int .i64 ct, .int .i64 n1, .int .i64 n2, .int .i64 n3] 50)) w5.heap.size a b ct n1 n2 n3) := ⟨by simp, by simp, by simp, by simp, by simp, by simp, by simp⟩
        clear S4
        go_loopw [57] (fun i wr => ∃ q : Nat, q ≤ 2 ∧ i = .int .i64 q ∧ Hid (Sx w gd p n c z B p1 j cap1 R gz cz (updR R j (mkR r0 r1 r2 r3)) wr) ∧ Hid (Six wr w5.heap.size a b ct n1 n2 n3)) (fun i _ => 2 - (intOf i).toNat)
        case atStart => exact ⟨0, by omega, rfl, S5, X5⟩
        case round =>
          clear S5 X5
          obtain ⟨q, hq, rfl, S5, X5⟩ := hrel
          obtain ⟨wq, hwq⟩ : ∃ wq, wq = wr := ⟨_, rfl⟩
          subst hwq
          have hcq : q = 0 ∨ q = 1 ∨ q = 2 := by omega
          clear hq
          obtain ⟨_, y0, y1, y2, y3, y4, y5⟩ := X5.out
          rcases hcq with rfl | rfl | rfl
          · obtain ⟨cd, N, F, hN, hS1, hS2⟩ := ser_two p1 (j) cap1 R a b ct (by omega) HBB.out HCB.out
            have HS1 := Lib.hid hS1
            have HS2 := Lib.hid hS2
            have hcc : (cd != cd) = false := by simp
            clear hS1 hS2
            go_wp2_with (first
              | (go_at_call 28; refine (HS1.out _ ((S5.out.alloc _).l1.rd)).mono ?_; rintro e w9 ⟨q1, c1, rfl, hr1, hb9⟩; have HR1 := Lib.hid hr1; have S6 := Lib.hid ((S5.out.alloc _).up hb9); have X6 := Lib.hid ((X5.out.up ((Below.refl _ _).alloc (Nat.le_refl _) _)).up hb9); have d0 : w9.cell? ⟨wq.heap.size, 0, none⟩ = some (.int .i64 a) := (hb9.cell (p := ⟨wq.heap.size, 0, none⟩) (by simp)).trans (by simp); have d1 : w9.cell? ⟨wq.heap.size, 1, none⟩ = some (.int .i64 b) := (hb9.cell (p := ⟨wq.heap.size, 1, none⟩) (by simp)).trans (by simp); have d2 : w9.cell? ⟨wq.heap.size, 2, none⟩ = some (.int .i64 ct) := (hb9.cell (p := ⟨wq.heap.size, 2, none⟩) (by simp)).trans (by simp); clear hr1 hb9)
              | (go_at_call 29; refine (HS2.out _ (S6.out.l1.rd)).mono ?_; rintro e w10 ⟨q2, c2, rfl, hr2, hb10⟩; have HR2 := Lib.hid hr2; have HR1' := Lib.hid (HR1.out.below hb10 (Nat.le_refl _)); have S7 := Lib.hid (S6.out.up hb10); have X7 := Lib.hid (X6.out.up hb10); clear hr2 hb10 S6 X6 HR1)
              | (go_at_call 25; refine (same_any q1 q2 N N c1 c2 F F _ HR1'.out HR2.out (by omega)).mono ?_; rintro e w11 ⟨rfl, hb11⟩; rw [smB_self]; have S8 := Lib.hid (S7.out.up hb11); have X8 := Lib.hid (X7.out.up hb11); clear hb11 S7 X7))
            go_roundw
            case rel => exact ⟨1, by omega, by go_num, S8, X8⟩
            case measure => simp [intOf]
          · obtain ⟨cd, N, F, hN, hS1, hS2⟩ := ser_two p1 (j) cap1 R n1 n2 n3 (by omega) (by omega) (by omega)
            have HS1 := Lib.hid hS1
            have HS2 := Lib.hid hS2
            have hcc : (cd != cd) = false := by simp
            clear hS1 hS2
            go_wp2_with (first
              | (go_at_call 28; refine (HS1.out _ ((S5.out.alloc _).l1.rd)).mono ?_; rintro e w9 ⟨q1, c1, rfl, hr1, hb9⟩; have HR1 := Lib.hid hr1; have S6 := Lib.hid ((S5.out.alloc _).up hb9); have X6 := Lib.hid ((X5.out.up ((Below.refl _ _).alloc (Nat.le_refl _) _)).up hb9); have d0 : w9.cell? ⟨wq.heap.size, 0, none⟩ = some (.int .i64 n1) := (hb9.cell (p := ⟨wq.heap.size, 0, none⟩) (by simp)).trans (by simp); have d1 : w9.cell? ⟨wq.heap.size, 1, none⟩ = some (.int .i64 n2) := (hb9.cell (p := ⟨wq.heap.size, 1, none⟩) (by simp)).trans (by simp); have d2 : w9.cell? ⟨wq.heap.size, 2, none⟩ = some (.int .i64 n3) := (hb9.cell (p := ⟨wq.heap.size, 2, none⟩) (by simp)).trans (by simp); clear hr1 hb9)
              | (go_at_call 29; refine (HS2.out _ (S6.out.l1.rd)).mono ?_; rintro e w10 ⟨q2, c2, rfl, hr2, hb10⟩; have HR2 := Lib.hid hr2; have HR1' := Lib.hid (HR1.out.below hb10 (Nat.le_refl _)); have S7 := Lib.hid (S6.out.up hb10); have X7 := Lib.hid (X6.out.up hb10); clear hr2 hb10 S6 X6 HR1)
              | (go_at_call 25; refine (same_any q1 q2 N N c1 c2 F F _ HR1'.out HR2.out (by omega)).mono ?_; rintro e w11 ⟨rfl, hb11⟩; rw [smB_self]; have S8 := Lib.hid (S7.out.up hb11); have X8 := Lib.hid (X7.out.up hb11); clear hb11 S7 X7))
            go_roundw
            case rel => exact ⟨2, by omega, by go_num, S8, X8⟩
            case measure => simp [intOf]
          · go_wp2
            go_roundw
            case rel => exact ⟨1, by omega, by go_num, S5⟩
            case measure => simp [intOf]
      · skip
        go_wp2_with (go_at_call 12; first
          | (refine (next_any gd p n c z _ _ S1.out.dk (by omega)).mono ?_; rintro e w3 ⟨n1, rfl, n11, n12, hd, hg⟩; have S2 := Lib.hid (S1.out.next hd hg); clear hd hg S1)
          | (refine (next_any gd p n c z _ _ S2.out.dk (by omega)).mono ?_; rintro e w4 ⟨n2, rfl, n21, n22, hd, hg⟩; have S3 := Lib.hid (S2.out.next hd hg); clear hd hg S2)
          | (refine (next_any gd p n c z _ _ S3.out.dk (by omega)).mono ?_; rintro e w5 ⟨n3, rfl, n31, n32, hd, hg⟩; have S4 := Lib.hid (S3.out.next hd hg); clear hd hg S3))
        have S5 := Lib.hid (S4.out.alloc (.cells #[.int .i64 a, .int .i64 b, .int .i64 ct, .int .i64 n1, .int .i64 n2, .int .i64 n3] 50))
        have X5 : Hid (Six (w5.alloc (.cells #[.int .i64 a, .int .i64 b, .int .i64 ct, .int .i64 n1, .int .i64 n2, .int .i64 n3] 50)) w5.heap.size a b ct n1 n2 n3) := ⟨by simp, by simp, by simp, by simp, by simp, by simp, by simp⟩
        clear S4
        go_loopw [57] (fun i wr => ∃ q : Nat, q ≤ 2 ∧ i = .int .i64 q ∧ Hid (Sx w gd p n c z B p1 j cap1 R gz cz (updR R j (mkR r0 r1 r2 r3)) wr) ∧ Hid (Six wr w5.heap.size a b ct n1 n2 n3)) (fun i _ => 2 - (intOf i).toNat)
        case atStart => exact ⟨0, by omega, rfl, S5, X5⟩
        case round =>
          clear S5 X5
          obtain ⟨q, hq, rfl, S5, X5⟩ := hrel
          obtain ⟨wq, hwq⟩ : ∃ wq, wq = wr := ⟨_, rfl⟩
          subst hwq
          have hcq : q = 0 ∨ q = 1 ∨ q = 2 := by omega
          clear hq
          obtain ⟨_, y0, y1, y2, y3, y4, y5⟩ := X5.out
          rcases hcq with rfl | rfl | rfl
          · obtain ⟨cd, N, F, hN, hS1, hS2⟩ := ser_two (some ⟨gz, 0, none⟩) (j + 1) cz (updR R j (mkR r0 r1 r2 r3)) a b ct (by omega) HBB.out HCB.out
            have HS1 := Lib.hid hS1
            have HS2 := Lib.hid hS2
            have hcc : (cd != cd) = false := by simp
            clear hS1 hS2
            go_wp2_with (first
              | (go_at_call 28; refine (HS1.out _ ((S5.out.alloc _).l2.rd)).mono ?_; rintro e w9 ⟨q1, c1, rfl, hr1, hb9⟩; have HR1 := Lib.hid hr1; have S6 := Lib.hid ((S5.out.alloc _).up hb9); have X6 := Lib.hid ((X5.out.up ((Below.refl _ _).alloc (Nat.le_refl _) _)).up hb9); have d0 : w9.cell? ⟨wq.heap.size, 0, none⟩ = some (.int .i64 a) := (hb9.cell (p := ⟨wq.heap.size, 0, none⟩) (by simp)).trans (by simp); have d1 : w9.cell? ⟨wq.heap.size, 1, none⟩ = some (.int .i64 b) := (hb9.cell (p := ⟨wq.heap.size, 1, none⟩) (by simp)).trans (by simp); have d2 : w9.cell? ⟨wq.heap.size, 2, none⟩ = some (.int .i64 ct) := (hb9.cell (p := ⟨wq.heap.size, 2, none⟩) (by simp)).trans (by simp); clear hr1 hb9)
              | (go_at_call 29; refine (HS2.out _ (S6.out.l2.rd)).mono ?_; rintro e w10 ⟨q2, c2, rfl, hr2, hb10⟩; have HR2 := Lib.hid hr2; have HR1' := Lib.hid (HR1.out.below hb10 (Nat.le_refl _)); have S7 := Lib.hid (S6.out.up hb10); have X7 := Lib.hid (X6.out.up hb10); clear hr2 hb10 S6 X6 HR1)
              | (go_at_call 25; refine (same_any q1 q2 N N c1 c2 F F _ HR1'.out HR2.out (by omega)).mono ?_; rintro e w11 ⟨rfl, hb11⟩; rw [smB_self]; have S8 := Lib.hid (S7.out.up hb11); have X8 := Lib.hid (X7.out.up hb11); clear hb11 S7 X7))
            go_roundw
            case rel => exact ⟨1, by omega, by go_num, S8, X8⟩
            case measure => simp [intOf]
          · obtain ⟨cd, N, F, hN, hS1, hS2⟩ := ser_two (some ⟨gz, 0, none⟩) (j + 1) cz (updR R j (mkR r0 r1 r2 r3)) n1 n2 n3 (by omega) (by omega) (by omega)
            have HS1 := Lib.hid hS1
            have HS2 := Lib.hid hS2
            have hcc : (cd != cd) = false := by simp
            clear hS1 hS2
            go_wp2_with (first
              | (go_at_call 28; refine (HS1.out _ ((S5.out.alloc _).l2.rd)).mono ?_; rintro e w9 ⟨q1, c1, rfl, hr1, hb9⟩; have HR1 := Lib.hid hr1; have S6 := Lib.hid ((S5.out.alloc _).up hb9); have X6 := Lib.hid ((X5.out.up ((Below.refl _ _).alloc (Nat.le_refl _) _)).up hb9); have d0 : w9.cell? ⟨wq.heap.size, 0, none⟩ = some (.int .i64 n1) := (hb9.cell (p := ⟨wq.heap.size, 0, none⟩) (by simp)).trans (by simp); have d1 : w9.cell? ⟨wq.heap.size, 1, none⟩ = some (.int .i64 n2) := (hb9.cell (p := ⟨wq.heap.size, 1, none⟩) (by simp)).trans (by simp); have d2 : w9.cell? ⟨wq.heap.size, 2, none⟩ = some (.int .i64 n3) := (hb9.cell (p := ⟨wq.heap.size, 2, none⟩) (by simp)).trans (by simp); clear hr1 hb9)
              | (go_at_call 29; refine (HS2.out _ (S6.out.l2.rd)).mono ?_; rintro e w10 ⟨q2, c2, rfl, hr2, hb10⟩; have HR2 := Lib.hid hr2; have HR1' := Lib.hid (HR1.out.below hb10 (Nat.le_refl _)); have S7 := Lib.hid (S6.out.up hb10); have X7 := Lib.hid (X6.out.up hb10); clear hr2 hb10 S6 X6 HR1)
              | (go_at_call 25; refine (same_any q1 q2 N N c1 c2 F F _ HR1'.out HR2.out (by omega)).mono ?_; rintro e w11 ⟨rfl, hb11⟩; rw [smB_self]; have S8 := Lib.hid (S7.out.up hb11); have X8 := Lib.hid (X7.out.up hb11); clear hb11 S7 X7))
            go_roundw
            case rel => exact ⟨2, by omega, by go_num, S8, X8⟩
            case measure => simp [intOf]
          · go_wp2
            go_roundw
            case rel => exact ⟨2, by omega, by go_num, S5⟩
            case measure => simp [intOf]
      · have HAW := Lib.hid (awake_any wm (HW.out.up S1.out.bel (Nat.le_refl _)))
        go_wp2_with (go_at_call 9; refine HAW.out.mono ?_; rintro e w10 ⟨rfl, hb10⟩)
        go_ret
        exact ⟨rfl, S1.out.bel.trans (hb10.mono S1.out.bel.size)⟩
end Go.Proofs.YtlelcooomfcbaaaDoor.Gg

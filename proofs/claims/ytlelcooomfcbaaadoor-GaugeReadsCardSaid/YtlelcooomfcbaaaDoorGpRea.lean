/-
  The law GaugeReads.
-/
import Derived.Test.YtlelcooomfcbaaaDoorGpBac
import Derived.Test.YtlelcooomfcbaaaDoorGgPrj
import Derived.Test.YtlelcooomfcbaaaDoorGgPar
import Derived.Test.YtlelcooomfcbaaaDoorGpNot
namespace Go.Proofs.YtlelcooomfcbaaaDoor.Gg
open Go.ChangeShapes Go.WideShapes Go.ChangeAt Go.RowKit
open Go.Proofs.YtlelcooomfcbaaaDoor.Cu (Dk next_any)
open Go.Proofs.YtlelcooomfcbaaaDoor.Ca (mod_any md md_lo md_hi)
set_option linter.unusedVariables false

/-- append([]byte(nil), list...). -/
theorem wp_appB_nil {w : World} {ops : Array Oper} {rest : List Oper} {o : Oper} {a : Act} {Q : Exit → Act → World → Prop} (hgd : o.guard = none) (s x : Operand)
    (ho : o.op = .call { callee := .builtin .append, args := #[s, x], argTypes := #[24, 24] }) (hs : a.eval s = .slice none 0 0) (v : Value) (hx : a.eval x = v)
    (bs n : Nat) (B : Nat → Int) (hg : GotB w bs v n B) (base : Nat) (hbase : base ≤ w.heap.size) (hn : n ≤ 1000000)
    (h : ∀ v' w', GotB w' base v' n B → w.grownBy w' none → (n = 0 → v' = .slice none 0 0) → wpList Tryd.prog ops Q rest (a.put o.dst v') w') : wpList Tryd.prog ops Q (o :: rest) a w := by
  obtain ⟨i0, hi, hz0, hz1, hz2⟩ := info_parts Tryd.infoB
  rcases hg.2 with ⟨rfl, h0⟩ | ⟨g, cap, cur, rfl, _⟩
  · subst h0
    exact wpList_append_own_none hgd s x 24 ho base 5 i0 1 Tryd.underlying24 hi _ 0 _ hs (gotB_nil w base B) hx (h _ _ (gotB_nil w base B) (Cu.grown_refl w none) (fun _ => rfl))
  · refine wpList_append_own w hgd s x 24 ho base 5 i0 (.int .u8 0) 1 1 Tryd.underlying24 hi hz0 hz1 hz2 rfl (by decide) (.slice none 0 0) 0 [] hs (World.ownsRow_nil w base _ 1) ⟨g, 0, none⟩ n cap (byL B n) hx (by rw [byL_len]; omega) ?_ (byL_one B n) (by unfold maxLen; omega) (by omega) hbase ?_
    · by_cases hn0 : n = 0
      · subst hn0
        intro j u hj
        simp [byL] at hj
      · obtain ⟨g', cap', e, _, hrs, _⟩ := gotB_by hg (by omega)
        simp only [Value.slice.injEq, Option.some.injEq, Addr.mk.injEq] at e
        obtain ⟨⟨rfl, _⟩, _⟩ := e
        exact by_news hrs
    · intro v' w' hown hgr hnil
      refine h v' w' ?_ hgr (fun h0 => hnil.2 ⟨rfl, h0⟩)
      unfold GotB
      rw [Nat.zero_add, List.nil_append] at hown
      exact hown
/-- What the loop over the bytes keeps. -/
structure Rk (w : World) (pb : Option Addr) (nb cb : Nat) (B : Nat → Int) (px : Option Addr) (m cx : Nat) (X : Nat → Int) (py : Option Addr) (my cy : Nat) (Y : Nat → Int) (q gz nz : Nat) (Z : Nat → Int) (gb : Nat) (W : World) : Prop where
  l0 : RdB W pb nb B
  l1 : RdB W px m X
  l2 : RdB W py my Y
  l3 : RdB W py q Y
  k0 : W.cell? ⟨gb, 0, none⟩ = some (.slice pb nb cb)
  k1 : W.cell? ⟨gb, 1, none⟩ = some (.slice px m cx)
  k2 : W.cell? ⟨gb, 2, none⟩ = some (.slice py my cy)
  k3 : W.cell? ⟨gb, 3, none⟩ = some (.slice py q cy)
  zl : gz < W.heap.size
  zc : ∀ i, i < nz → W.cell? ⟨gz, i, none⟩ = some (.int .u8 (Z i))
  bel : Below w.heap.size w W
section
variable {w : World} {pb : Option Addr} {nb cb : Nat} {B : Nat → Int} {px : Option Addr} {m cx : Nat} {X : Nat → Int} {py : Option Addr} {my cy : Nat} {Y : Nat → Int} {q gz nz : Nat} {Z : Nat → Int} {gb : Nat} {W W' : World}
theorem Rk.up (h : Rk w pb nb cb B px m cx X py my cy Y q gz nz Z gb W) (hb : Below W.heap.size W W') : Rk w pb nb cb B px m cx X py my cy Y q gz nz Z gb W' :=
  { l0 := h.l0.below hb (Nat.le_refl _), l1 := h.l1.below hb (Nat.le_refl _), l2 := h.l2.below hb (Nat.le_refl _), l3 := h.l3.below hb (Nat.le_refl _)
    k0 := (hb.cell (p := ⟨gb, 0, none⟩) (World.block_lt_of_cell? _ _ h.k0)).trans h.k0
    k1 := (hb.cell (p := ⟨gb, 1, none⟩) (World.block_lt_of_cell? _ _ h.k1)).trans h.k1
    k2 := (hb.cell (p := ⟨gb, 2, none⟩) (World.block_lt_of_cell? _ _ h.k2)).trans h.k2
    k3 := (hb.cell (p := ⟨gb, 3, none⟩) (World.block_lt_of_cell? _ _ h.k3)).trans h.k3
    zl := Nat.lt_of_lt_of_le h.zl hb.size
    zc := fun i hi => (hb.cell (p := ⟨gz, i, none⟩) h.zl).trans (h.zc i hi)
    bel := h.bel.trans (hb.mono h.bel.size) }
theorem Rk.start (hb : Below w.heap.size w W) (h0 : RdB W pb nb B) (h1 : RdB W px m X) (h2 : RdB W py my Y) (hq : q ≤ my) (hzl : gz < W.heap.size) (hzc : ∀ i, i < nz → W.cell? ⟨gz, i, none⟩ = some (.int .u8 (Z i))) :
    Rk w pb nb cb B px m cx X py my cy Y q gz nz Z W.heap.size (W.alloc (.cells #[.slice pb nb cb, .slice px m cx, .slice py my cy, .slice py q cy] 24)) :=
  have hb1 : Below W.heap.size W (W.alloc (.cells #[.slice pb nb cb, .slice px m cx, .slice py my cy, .slice py q cy] 24)) := (Below.refl _ _).alloc (Nat.le_refl _) _
  have h3 : RdB W py q Y := fun hq0 => by
    obtain ⟨b, off, e, hy⟩ := h2 (by omega)
    exact ⟨b, off, e, hy.1, fun i hi => hy.2 i (by omega)⟩
  { l0 := h0.below hb1 (Nat.le_refl _), l1 := h1.below hb1 (Nat.le_refl _), l2 := h2.below hb1 (Nat.le_refl _), l3 := h3.below hb1 (Nat.le_refl _)
    k0 := by simp, k1 := by simp, k2 := by simp, k3 := by simp
    zl := Nat.lt_of_lt_of_le hzl hb1.size
    zc := fun i hi => (hb1.cell (p := ⟨gz, i, none⟩) hzl).trans (hzc i hi)
    bel := hb.trans (hb1.mono hb.size) }
end
theorem cells_str {W : World} {g n : Nat} (c : Nat) {Z : Nat → Int} (h : ∀ i, i < n → W.cell? ⟨g, i, none⟩ = some (.int .u8 (Z i))) : (convert 24 9 (.slice (some ⟨g, 0, none⟩) n c)).run Tryd.prog W = .ok (.string (stB Z n)) W := by
  have h2 := run_convert_bytes_arg (P := Tryd.prog) W 24 5 Tryd.underlying24 Tryd.underlying5 g 0 n c ((List.range n).map Z) (by simp) (fun i hi => by
    rw [Nat.zero_add, h i hi]
    simp [List.getD, hi]) 9 Tryd.underlying9
  rw [h2]
  unfold strOfNums stB
  rw [stL_map]
theorem deN_le (B : Nat → Int) (n : Nat) (h : n ≤ 2000) : deN B n ≤ 2000 := by
  unfold deN
  split <;> omega
theorem paN_le (s : ByteArray) (h : s.size ≤ 1000000000) : paN s ≤ 1000000001 := by
  unfold paN
  have h1 := cwG_le (linesG s) (linesG s).length
  have h2 := lines_len s
  split <;> omega
theorem sm_refl (R : Nat → Nat → Int) (n : Nat) : smB R R n n = true := by
  unfold smB
  rw [decide_eq_true_eq]
  exact ⟨rfl, fun i _ j _ => rfl⟩
set_option maxRecDepth 100000 in
theorem grea_early (pb : Option Addr) (nb cb : Nat) (s : ByteArray) (p : Option Addr) (n c : Nat) (x y : Int) (w : World) (hb : 2000 < nb ∨ 3000 < s.size) (hw : FlW w) :
    Calls Tryd.prog 4 #[.slice pb nb cb, .string s, .slice p n c, .int .i64 x, .int .i64 y] w fun e w' => e = .returned (.bool true) ∧ Below w.heap.size w w' := by
  have HA := Lib.hid (awake_any w hw)
  clear hw
  by_cases h1 : 2000 < nb
  · have h2 : (2000 : Int) < (nb : Int) := by omega
    have h3 : decide ((2000 : Int) < (nb : Int)) = true := by rw [decide_eq_true_eq]; exact h2
    go_enter Tryd.func4, Tryd.ntmps4
    go_wp2_with (go_at_call 9; refine HA.out.mono ?_; rintro e w1 ⟨rfl, hb1⟩; have HB1 := Lib.hid hb1; clear hb1)
    go_ret
    exact ⟨rfl, HB1.out⟩
  · have h2 : ¬ (2000 : Int) < (nb : Int) := by omega
    have h3 : decide ((2000 : Int) < (nb : Int)) = false := by rw [decide_eq_false_iff_not]; exact h2
    have h4 : (3000 : Int) < (s.size : Int) := by omega
    have h5 : decide ((3000 : Int) < (s.size : Int)) = true := by rw [decide_eq_true_eq]; exact h4
    clear hb
    go_enter Tryd.func4, Tryd.ntmps4
    go_wp2_with (go_at_call 9; refine HA.out.mono ?_; rintro e w1 ⟨rfl, hb1⟩; have HB1 := Lib.hid hb1; clear hb1)
    go_ret
    exact ⟨rfl, HB1.out⟩
/-- Nothing of a new text's bytes is frozen. -/
theorem bw_frozen (w : World) (s : ByteArray) (j : Nat) (hj : j < s.size) : (Lib.bytesWorld w 5 s).frozen? ⟨w.heap.size, j, none⟩ = false := by
  have h := Lib.bytesWorld_at_new w 5 s
  have h2 : j < (Lib.bytesCells w 5 s).size := by
    have hc := Lib.bytesWorld_cell w 5 s j hj
    rw [Lib.cell_of_heap h] at hc
    rcases Nat.lt_or_ge j (Lib.bytesCells w 5 s).size with h1 | h1
    · exact h1
    · rw [Array.getElem?_eq_none h1] at hc; cases hc
  simp [World.frozen?, h]
  omega
set_option maxRecDepth 100000 in
set_option maxHeartbeats 4000000 in
theorem grea_main (pb : Option Addr) (nb cb : Nat) (B : Nat → Int) (s : ByteArray) (p : Option Addr) (n c : Nat) (z : Nat → Int) (x y : Int) (w : World) (hnb : nb ≤ 2000) (hsz : s.size ≤ 3000) (hB : RdB w pb nb B) (hBt : Bt B nb) (hbc : nb ≤ cb) (hr : RdI w p n z) (hn : n ≤ 9223372036854775807) (hz : ∀ i, -9223372036854775808 ≤ z i ∧ z i ≤ 9223372036854775807)
    (hx : -9223372036854775808 ≤ x ∧ x ≤ 9223372036854775807) (hy : -9223372036854775808 ≤ y ∧ y ≤ 9223372036854775807) (hw : FlW w) (ht : TbW w) :
    Calls Tryd.prog 4 #[.slice pb nb cb, .string s, .slice p n c, .int .i64 x, .int .i64 y] w fun e w' => e = .returned (.bool true) ∧ Below w.heap.size w w' := by
  have h2 : ¬ (2000 : Int) < (nb : Int) := by omega
  have h3 : decide ((2000 : Int) < (nb : Int)) = false := by rw [decide_eq_false_iff_not]; exact h2
  have h4 : ¬ (3000 : Int) < (s.size : Int) := by omega
  have h5 : decide ((3000 : Int) < (s.size : Int)) = false := by rw [decide_eq_false_iff_not]; exact h4
  have HN := Lib.hid (Cu.new_any p n c z w hn hz hr)
  have HBD : Hid (∀ W, Below w.heap.size w W → RdB W pb nb B) := fun W h => hB.below h (Nat.le_refl _)
  have HBT := Lib.hid hBt
  have HW := Lib.hid hw
  have HT := Lib.hid ht
  have HM15 := Lib.hid (fun W => mod_any y 15 W hy (by omega) (by omega))
  have HM14 := Lib.hid (fun W => mod_any y 14 W hy (by omega) (by omega))
  have HMX := Lib.hid (fun W (k : Int) (h1 : 1 ≤ k) (h2 : k ≤ 1000000) => mod_any x k W hx h1 (by omega))
  have lb15 := md_lo y 15 (by omega)
  have ub15 := md_hi y 15 (by omega)
  have lb14 := md_lo y 14 (by omega)
  have ub14 := md_hi y 14 (by omega)
  generalize md y 15 = m15 at *
  generalize md y 14 = m14 at *
  obtain ⟨i15, rfl⟩ := Int.eq_ofNat_of_zero_le lb15
  obtain ⟨r, rfl⟩ := Int.eq_ofNat_of_zero_le lb14
  clear hB hBt hr hn hz hx hy hw ht lb15 lb14
  go_enter Tryd.func4, Tryd.ntmps4
  go_upto_region 7 with (first
    | (go_at_call 10; refine HN.out.mono ?_; rintro e w1 ⟨rfl, hd1, hb1⟩; have HD1 := Lib.hid hd1; have HB1 := Lib.hid hb1; clear hd1 hb1 HN)
    | (go_at_call 11; refine (made_ok _ p n c z 6 w _ HD1.out (by omega) (Nat.le_refl _) HB1.out).mono ?_; rintro e w2 ⟨p1, j, c1, R1, rfl, hj, hok1, hg2, hb2⟩; have HO1 := Lib.hid hok1; have HG2 := Lib.hid hg2; have HB2 := Lib.hid hb2; clear hok1 hg2 hb2 HD1 HB1)
    | (go_at_call 15; have HE : EnP w2 (enX R1 j) (enN R1 j) (enL R1 j) = EnP w2 0 (j * 12) (enL R1 j) := (by have e : enX R1 j = 0 := (by unfold enX; rw [if_neg (by omega)]; exact HO1.out); unfold enN; rw [e]; rfl); have HC := genc_any p1 j c1 R1 _ (gotR_rdr HG2.out); rw [HE] at HC; refine HC.mono ?_; clear HC HE; rintro e w3 ⟨vx, rfl, hgx, hb3⟩; have HX3 := Lib.hid hgx; have HG3 := Lib.hid (gotR_kept HG2.out hb3); have HB3 := Lib.hid (HB2.out.trans (hb3.mono HB2.out.size)); clear hgx hb3 HG2 HB2)
    | (go_at_call 17; have HE : PrP w3 (enX R1 j) (prS R1 j) = PrP w3 0 (prL R1 j) := (by have e : enX R1 j = 0 := (by unfold enX; rw [if_neg (by omega)]; exact HO1.out); unfold prS; rw [e]; rfl); have HC := gpri_any p1 j c1 R1 _ (gotR_rdr HG3.out) (tb_up HT.out HB3.out); rw [HE] at HC; refine HC.mono ?_; clear HC HE; rintro e w4 ⟨rfl, hb4⟩; have HX4 := Lib.hid (gotB_kept HX3.out hb4); have HB4 := Lib.hid (HB3.out.trans (hb4.mono HB3.out.size)); have hs4 := HB4.out.size; clear hb4 HX3 HG3 HB3))
  have HBX := Lib.hid (enL_bt R1 j HO1.out)
  have hT := pr_le R1 j ((alG_zero R1 j).1 HO1.out)
  have hT0 : Hid (0 < j → 0 < (prL R1 j).length) := fun hj0 => by
    obtain ⟨q, rfl⟩ : ∃ q, j = q + 1 := ⟨j - 1, by omega⟩
    show 0 < (prL R1 q ++ (pcL (R1 q) 3 ++ (fwL (R1 q 3) ++ [10]))).length
    simp only [List.length_append, List.length_singleton]
    omega
  have hT1 : Hid (j = 0 → (prL R1 j).length = 0) := fun hj0 => by subst hj0; rfl
  have hTs : (⟨(prL R1 j).toArray⟩ : ByteArray).size = (prL R1 j).length := bT_size _
  rw [← hTs] at hT hT0 hT1
  clear hTs
  generalize (⟨(prL R1 j).toArray⟩ : ByteArray) = tS at *
  obtain ⟨m, hm⟩ : ∃ m, m = j * 12 := ⟨_, rfl⟩
  rw [← hm] at HX4 HBX
  have HM := Lib.hid hm
  have hm72 : m ≤ 72 := by omega
  clear hm
  generalize enL R1 j = X at *
  obtain ⟨px, cx, rfl, _, hcx⟩ := gotB_rdc HX4.out
  go_upto_region 8 with (at_builtin; refine wp_appB_nil rfl _ _ rfl rfl (.slice px m cx) rfl _ m X HX4.out w4.heap.size (Nat.le_refl _) (by omega) ?_; intro vy w5 hg5 hgr hy0; have HB5 : Hid (Below w4.heap.size w4 w5) := (Below.refl _ _).grown hgr (Nat.le_refl _) (fun _ h => by cases h); have HY5 := Lib.hid hg5; have HY0 := Lib.hid hy0; have hcv := Lib.run_convert_string_bytes (P := Tryd.prog) w5 9 24 5 tS (u := .string) Tryd.underlying9 Tryd.underlying24 Tryd.underlying5; clear hg5 hgr hy0)
  clear hcv
  have hbw5 : Below w5.heap.size w5 (Lib.bytesWorld w5 5 tS) := below_bytes w5 _ _
  have hzc : ∀ i, i < tS.size → (Lib.bytesWorld w5 5 tS).cell? ⟨w5.heap.size, i, none⟩ = some (.int .u8 (sB tS i)) := fun i hi => by
    rw [← sB_getD tS i hi]; exact Lib.bytesWorld_cell w5 _ tS i hi
  have hzf : ∀ i, i < tS.size → (Lib.bytesWorld w5 5 tS).frozen? ⟨w5.heap.size, i, none⟩ = false := fun i hi => bw_frozen w5 tS i hi
  have hzs : w5.heap.size < (Lib.bytesWorld w5 5 tS).heap.size := by rw [Lib.bytesWorld_size]; omega
  have HZC := Lib.hid hzc
  have HZF := Lib.hid hzf
  have HY6 := Lib.hid (gotB_kept HY5.out hbw5)
  have HPX := Lib.hid (gotB_rdb HX4.out)
  have HB46 : Hid (Below w4.heap.size w4 (Lib.bytesWorld w5 5 tS)) := HB5.out.trans (hbw5.mono HB5.out.size)
  have HB6 : Hid (Below w.heap.size w (Lib.bytesWorld w5 5 tS)) := HB4.out.trans (HB46.out.mono hs4)
  have hs5 := HB5.out.size
  generalize sB tS = Z at *
  clear hzc hzf hbw5 HX4 HB5 HB4
  generalize hcz : grownCap w5 tS.size 0 5 = cz at *
  clear hcz
  obtain ⟨gz, hgz⟩ : ∃ gz, gz = w5.heap.size := ⟨_, rfl⟩
  rw [← hgz] at HZC HZF hzs ⊢
  generalize Lib.bytesWorld w5 5 tS = W6 at *
  obtain ⟨nz, hnz⟩ : ∃ nz, nz = tS.size := ⟨_, rfl⟩
  rw [← hnz] at HZC HZF hT hT0 hT1 ⊢
  have hnz9 : nz ≤ 432 := by omega
  have hts9 : tS.size ≤ 432 := by omega
  by_cases hj0 : j = 0
  · have hm0 : m = 0 := by rw [HM.out, hj0]
    have hn0 : nz = 0 := hT1.out hj0
    have hvy := HY0.out hm0
    subst hvy
    have hmi : ¬ (0 : Int) < (m : Int) := by omega
    have hni : ¬ (0 : Int) < (nz : Int) := by omega
    have hmd : decide ((0 : Int) < (m : Int)) = false := by rw [decide_eq_false_iff_not]; exact hmi
    have hnd : decide ((0 : Int) < (nz : Int)) = false := by rw [decide_eq_false_iff_not]; exact hni
    have HM0 := Lib.hid hm0
    have HBM := HB6
    have HPM : Hid (RdB W6 px m X) := HPX.out.below HB46.out (Nat.le_refl _)
    have HYM : Hid (RdB W6 none 0 X) := fun h => absurd h (Nat.lt_irrefl _)
    have HBY2 : Hid (Bt X 0) := fun i hi => absurd hi (Nat.not_lt_zero _)
    have HZM := HZC
    have hzlM := hzs
    have hmcy : 0 ≤ 0 := Nat.le_refl _
    have hr0 : (0 : Int) ≤ (r : Int) := by omega
    clear hm0 hn0 hgz hnz hj0 hT hT0 hT1 HY0 HMX HZC HZF HB46 HB6 HPX HY6 HY5
    go_wp2_with (first
      | (go_at_call_has 22 (Value.int .i64 14); refine (HM14.out _).mono ?_; rintro e w' ⟨rfl, rfl⟩))
    obtain ⟨q, hq⟩ : ∃ q, q = (-min (0 : Int) (r : Int)).toNat := ⟨_, rfl⟩
    have hqm : q ≤ 0 := by omega
    rw [← hq]
    clear hq
    have HRK := Lib.hid (Rk.start (cb := cb) (cx := cx) (cy := 0) (nb := nb) (pb := pb) (B := B) (px := px) (X := X) (py := none) (Y := X) (q := q) (m := m) (my := 0) HBM.out (HBD.out _ HBM.out) HPM.out HYM.out hqm hzlM HZM.out)
    clear HBM HPM HYM HZM
    generalize W6.alloc (.cells #[.slice pb nb cb, .slice px m cx, .slice none 0 0, .slice none q 0] 24) = wd at *
    obtain ⟨gb, hgb⟩ : ∃ gb, gb = W6.heap.size := ⟨_, rfl⟩
    rw [← hgb] at HRK ⊢
    clear hgb
    go_loopw [100] (fun i wr => ∃ k : Nat, k ≤ 4 ∧ i = .int .i64 k ∧ Hid (Rk w pb nb cb B px m cx X none 0 0 X q gz nz Z gb wr)) (fun i _ => 4 - (intOf i).toNat)
    case atStart => exact ⟨0, by omega, rfl, HRK.out⟩
    case round =>
      obtain ⟨k, hk, rfl, hwr⟩ := hrel
      by_cases hk4 : k < 4
      · have hki : (k : Int) < 4 := by omega
        have hex : ∃ (pk : Option Addr) (nk ck : Nat) (Bk : Nat → Int), wr.cell? ⟨gb, k, none⟩ = some (.slice pk nk ck) ∧ nk ≤ 2000 ∧ nk ≤ ck ∧ Bt Bk nk ∧ ∀ W, Rk w pb nb cb B px m cx X none 0 0 X q gz nz Z gb W → RdB W pk nk Bk := by
          have hc : k = 0 ∨ k = 1 ∨ k = 2 ∨ k = 3 := by omega
          rcases hc with rfl | rfl | rfl | rfl
          · exact ⟨pb, nb, cb, B, hwr.out.k0, by omega, hbc, HBT.out, fun W h => h.l0⟩
          · exact ⟨px, m, cx, X, hwr.out.k1, by omega, hcx, HBX.out, fun W h => h.l1⟩
          · exact ⟨none, 0, 0, X, hwr.out.k2, by omega, hmcy, HBY2.out, fun W h => h.l2⟩
          · exact ⟨none, q, 0, X, hwr.out.k3, by omega, by omega, fun i hi => HBY2.out i (by omega), fun W h => h.l3⟩
        obtain ⟨pk, nk, ck, Bk, ckk, hnk, hnc, hbk, hrk⟩ := hex
        have HE1 : Hid (∀ W, Rk w pb nb cb B px m cx X none 0 0 X q gz nz Z gb W → Calls Tryd.prog 23 #[.slice pk nk ck] W (DeP W (deX Bk nk) (deN Bk nk) (deR Bk))) := fun W h => pdec_any pk nk ck Bk W (hrk W h) hbk hnc
        have HE2 : Hid (∀ W, Rk w pb nb cb B px m cx X none 0 0 X q gz nz Z gb W → Calls Tryd.prog 24 #[.slice pk nk ck] W (DeP W (deX Bk nk) (deN Bk nk) (deR Bk))) := fun W h => gdec_any pk nk ck Bk W (hrk W h) hbk hnc
        have hdn := deN_le Bk nk hnk
        clear hrk hbk
        generalize deX Bk nk = xx at *
        obtain ⟨xa, xb⟩ := xx
        generalize deN Bk nk = dN at *
        generalize deR Bk = dR at *
        have HSM := Lib.hid (sm_refl dR dN)
        go_wp2_with (first
          | (go_at_call 23; refine (HE1.out _ hwr.out).mono ?_; rintro e w1' ⟨vp, rfl, hgp, hb1⟩; obtain ⟨pp, cp, rfl, _⟩ := gotR_rd hgp; have HP1 := Lib.hid hgp; have HK1 := Lib.hid (hwr.out.up hb1); clear hgp hb1)
          | (go_at_call 24; refine (HE2.out _ HK1.out).mono ?_; rintro e w2' ⟨vq, rfl, hgq, hb2⟩; obtain ⟨pq, cq, rfl, _⟩ := gotR_rd hgq; have HQ2 := Lib.hid hgq; have HP2 := Lib.hid (gotR_kept HP1.out hb2); have HK2 := Lib.hid (HK1.out.up hb2); clear hgq hb2 HP1 HK1)
          | (go_at_call 25; refine (same_any pp pq dN dN cp cq dR dR _ (gotR_rdr HP2.out) (gotR_rdr HQ2.out) (by omega)).mono ?_; rintro e w3' ⟨rfl, hb3⟩; rw [HSM.out]; have HK3 := Lib.hid (HK2.out.up hb3); clear hb3 HP2 HQ2 HK2))
        go_roundw
        case rel => exact ⟨k + 1, by omega, by go_num, HK3.out⟩
        case measure => simp [intOf]; omega
      · have hki : ¬ (k : Int) < 4 := by omega
        have hcvz := cells_str cz hwr.out.zc
        have hzsz : (stB Z nz).size = nz := stB_size Z nz
        have hz9 : (stB Z nz).size ≤ 432 := by omega
        have HBW := Lib.hid hwr.out.bel
        have hsw := hwr.out.bel.size
        clear hzsz hwr HRK HBD HBT HBX
        generalize stB Z nz = zS at *
        obtain ⟨A1, a1⟩ : ∃ A : ByteArray, (⟨#[32]⟩ : ByteArray) ++ tS = A := ⟨_, rfl⟩
        obtain ⟨A2, a2⟩ : ∃ A : ByteArray, A1 ++ ⟨#[10, 32, 32, 32, 10]⟩ = A := ⟨_, rfl⟩
        obtain ⟨A3, a3⟩ : ∃ A : ByteArray, A2 ++ tS = A := ⟨_, rfl⟩
        have y1 : A1.size ≤ 433 := by rw [← a1, ByteArray.size_append]; show 1 + tS.size ≤ 433; omega
        have y2 : A2.size ≤ 438 := by rw [← a2, ByteArray.size_append]; show A1.size + 5 ≤ 438; omega
        have y3 : A3.size ≤ 870 := by rw [← a3, ByteArray.size_append]; omega
        have x1' : ¬ 9223372036854775807 < 1 + tS.size := by omega
        have x2' : ¬ 9223372036854775807 < A1.size + 5 := by omega
        have x3' : ¬ 9223372036854775807 < A2.size + tS.size := by omega
        go_wp2_with fail
        have HK : Hid ((wr.alloc (.cells #[.string s, .string tS, .string zS, .string A3] 9)).cell? ⟨wr.heap.size, 0, none⟩ = some (.string s) ∧ (wr.alloc (.cells #[.string s, .string tS, .string zS, .string A3] 9)).cell? ⟨wr.heap.size, 1, none⟩ = some (.string tS) ∧ (wr.alloc (.cells #[.string s, .string tS, .string zS, .string A3] 9)).cell? ⟨wr.heap.size, 2, none⟩ = some (.string zS) ∧ (wr.alloc (.cells #[.string s, .string tS, .string zS, .string A3] 9)).cell? ⟨wr.heap.size, 3, none⟩ = some (.string A3)) := ⟨by simp, by simp, by simp, by simp⟩
        have HB7 : Hid (Below w.heap.size w (wr.alloc (.cells #[.string s, .string tS, .string zS, .string A3] 9))) := HBW.out.alloc hsw _
        have hgl : wr.heap.size < (wr.alloc (.cells #[.string s, .string tS, .string zS, .string A3] 9)).heap.size := by simp
        clear a1 a2 a3 x1' x2' x3' hcvz HBW
        generalize wr.alloc (.cells #[.string s, .string tS, .string zS, .string A3] 9) = we at *
        obtain ⟨gs, hgs⟩ : ∃ gs, gs = wr.heap.size := ⟨_, rfl⟩
        rw [← hgs] at HK hgl ⊢
        clear hgs
        go_loopw [142] (fun i wr => ∃ k : Nat, k ≤ 4 ∧ i = .int .i64 k ∧ Hid (Below we.heap.size we wr)) (fun i _ => 4 - (intOf i).toNat)
        case atStart => exact ⟨0, by omega, rfl, Below.refl _ _⟩
        case round =>
          obtain ⟨k, hk, rfl, hbq⟩ := hrel
          have HBQ := Lib.hid (HB7.out.trans (hbq.out.mono HB7.out.size))
          have hsq := hbq.out.size
          by_cases hk4 : k < 4
          · have hki : (k : Int) < 4 := by omega
            have hex : ∃ sk : ByteArray, wr.cell? ⟨gs, k, none⟩ = some (.string sk) ∧ sk.size ≤ 1000000000 := by
              have hc : k = 0 ∨ k = 1 ∨ k = 2 ∨ k = 3 := by omega
              rcases hc with rfl | rfl | rfl | rfl
              · exact ⟨s, (hbq.out.cell (p := ⟨gs, 0, none⟩) hgl).trans HK.out.1, by omega⟩
              · exact ⟨tS, (hbq.out.cell (p := ⟨gs, 1, none⟩) hgl).trans HK.out.2.1, by omega⟩
              · exact ⟨zS, (hbq.out.cell (p := ⟨gs, 2, none⟩) hgl).trans HK.out.2.2.1, by omega⟩
              · exact ⟨A3, (hbq.out.cell (p := ⟨gs, 3, none⟩) hgl).trans HK.out.2.2.2, by omega⟩
            obtain ⟨sk, ckk, hsk⟩ := hex
            have HE1 : Hid (∀ W, Below w.heap.size w W → Calls Tryd.prog 26 #[.string sk] W (DeP W (paX sk) (paN sk) (paR (linesG sk) (linesG sk).length))) := fun W h => pparse_any sk W (HW.out.up h (Nat.le_refl _)) hsk
            have HE2 : Hid (∀ W, Calls Tryd.prog 27 #[.string sk] W (DeP W (paX sk) (paN sk) (paR (linesG sk) (linesG sk).length))) := fun W => rparse_any sk W hsk
            have hdn := paN_le sk hsk
            generalize paX sk = xx at *
            obtain ⟨xa, xb⟩ := xx
            generalize paN sk = dN at *
            generalize paR (linesG sk) (linesG sk).length = dR at *
            have HSM := Lib.hid (sm_refl dR dN)
            go_wp2_with (first
              | (go_at_call 26; refine (HE1.out _ HBQ.out).mono ?_; rintro e w1' ⟨vp, rfl, hgp, hb1⟩; obtain ⟨pp, cp, rfl, _⟩ := gotR_rd hgp; have HP1 := Lib.hid hgp; have HK1 := Lib.hid (hbq.out.trans (hb1.mono hsq)); have hs1 := HK1.out.size; clear hgp hb1)
              | (go_at_call 27; refine (HE2.out _).mono ?_; rintro e w2' ⟨vq, rfl, hgq, hb2⟩; obtain ⟨pq, cq, rfl, _⟩ := gotR_rd hgq; have HQ2 := Lib.hid hgq; have HP2 := Lib.hid (gotR_kept HP1.out hb2); have HK2 := Lib.hid (HK1.out.trans (hb2.mono hs1)); have hs2 := HK2.out.size; clear hgq hb2 HP1 HK1)
              | (go_at_call 25; refine (same_any pp pq dN dN cp cq dR dR _ (gotR_rdr HP2.out) (gotR_rdr HQ2.out) (by omega)).mono ?_; rintro e w3' ⟨rfl, hb3⟩; rw [HSM.out]; have HK3 := Lib.hid (HK2.out.trans (hb3.mono hs2)); clear hb3 HP2 HQ2 HK2))
            go_roundw
            case rel => exact ⟨k + 1, by omega, by go_num, HK3.out⟩
            case measure => simp [intOf]; omega
          · have hki : ¬ (k : Int) < 4 := by omega
            go_wp2_with (go_at_call 9; refine (awake_any _ (HW.out.up HBQ.out (Nat.le_refl _))).mono ?_; rintro e w9 ⟨rfl, hb9⟩; have HB9 := Lib.hid (HBQ.out.trans (hb9.mono HBQ.out.size)); clear hb9)
            go_ret
            exact ⟨rfl, HB9.out⟩
  · have hm0 : 0 < m := by rw [HM.out]; omega
    have hn0 : 0 < nz := hT0.out (by omega)
    have hmi : (0 : Int) < (m : Int) := by omega
    have hni : (0 : Int) < (nz : Int) := by omega
    have hmd : decide ((0 : Int) < (m : Int)) = true := by rw [decide_eq_true_eq]; exact hmi
    have hnd : decide ((0 : Int) < (nz : Int)) = true := by rw [decide_eq_true_eq]; exact hni
    have hm9 : (m : Int) ≤ 72 := by omega
    have hn9 : (nz : Int) ≤ 432 := by omega
    obtain ⟨gy, cy, rfl, hgy, hby, hcy, hfy⟩ := gotB_by HY6.out (by omega)
    have hgy5 : gy < gz := by
      obtain ⟨g9, c9, e9, _, h9, _, _⟩ := gotB_by HY5.out (by omega)
      simp only [Value.slice.injEq, Option.some.injEq, Addr.mk.injEq] at e9
      rw [hgz, e9.1.1]; exact h9.1
    have a0 := md_lo x (m : Int) hmi
    have a1 := md_hi x (m : Int) hmi
    have b0 := md_lo x (nz : Int) hni
    have b1 := md_hi x (nz : Int) hni
    have HMM := Lib.hid (fun W => HMX.out W (m : Int) (by omega) (by omega))
    have HMZ := Lib.hid (fun W => HMX.out W (nz : Int) (by omega) (by omega))
    generalize md x (m : Int) = xm at *
    generalize md x (nz : Int) = xn at *
    obtain ⟨i1, rfl⟩ := Int.eq_ofNat_of_zero_le a0
    obtain ⟨i2, rfl⟩ := Int.eq_ofNat_of_zero_le b0
    have hi1 : i1 < m := by omega
    have hi2 : i2 < nz := by omega
    have e1 : W6.cell? ⟨gy, i1, none⟩ = some (.int .u8 (X i1)) := by have h := hby.2 i1 hi1; rwa [Nat.zero_add] at h
    have e2 := HZC.out i2 hi2
    have f1 := hfy i1
    have f2 := HZF.out i2 hi2
    have hne : gy ≠ gz := by omega
    have HBY := Lib.hid hby
    have hx15 : (i15 : Int) < 15 := by omega
    clear hgz hnz hj0 hT hT0 hT1 HY0 HMX a0 b0 hby hfy
    go_upto_region 12 with (first
      | (go_at_call_has 22 (Value.int .i64 (m : Int)); refine (HMM.out _).mono ?_; rintro e w' ⟨rfl, rfl⟩)
      | (go_at_call_has 22 (Value.int .i64 (nz : Int)); refine (HMZ.out _).mono ?_; rintro e w' ⟨rfl, rfl⟩)
      | (go_at_call_has 22 (Value.int .i64 15); refine (HM15.out _).mono ?_; rintro e w' ⟨rfl, rfl⟩))
    have hv1 : 0 ≤ y % 256 ∧ y % 256 ≤ 255 := by omega
    generalize y % 256 = v1 at *
    generalize (({ data := #[111, 107, 105, 99, 101, 102, 97, 117, 108, 116, 120, 32, 48, 57, 10] } : ByteArray)[i15]'(by show i15 < 15; omega)) = vb8
    have hs45 : w4.heap.size ≤ gz := by omega
    have HBM4 : Hid (Below w4.heap.size w4 ((W6.setCell ⟨gy, i1, none⟩ (.int .u8 v1)).setCell ⟨gz, i2, none⟩ (.int .u8 (vb8.toNat : Int)))) := (HB46.out.setCell (p := ⟨gy, i1, none⟩) hgy _).setCell (p := ⟨gz, i2, none⟩) hs45 _
    have HBM : Hid (Below w.heap.size w ((W6.setCell ⟨gy, i1, none⟩ (.int .u8 v1)).setCell ⟨gz, i2, none⟩ (.int .u8 (vb8.toNat : Int)))) := (HB6.out.setCell (p := ⟨gy, i1, none⟩) (by show w.heap.size ≤ gy; omega) _).setCell (p := ⟨gz, i2, none⟩) (by show w.heap.size ≤ gz; omega) _
    have HPM := Lib.hid (HPX.out.below HBM4.out (Nat.le_refl _))
    have hby1 := by_set (x := v1) HBY.out hi1
    rw [Nat.zero_add] at hby1
    have hby2 : By ((W6.setCell ⟨gy, i1, none⟩ (.int .u8 v1)).setCell ⟨gz, i2, none⟩ (.int .u8 (vb8.toNat : Int))) gy 0 m (fun k => if k = i1 then v1 else X k) := hby1.grown (setG _ ⟨gz, i2, none⟩ _) (by simpa using hne)
    have HYM : Hid (RdB ((W6.setCell ⟨gy, i1, none⟩ (.int .u8 v1)).setCell ⟨gz, i2, none⟩ (.int .u8 (vb8.toNat : Int))) (some ⟨gy, 0, none⟩) m (fun k => if k = i1 then v1 else X k)) := fun _ => ⟨gy, 0, rfl, hby2⟩
    have hzlM : gz < ((W6.setCell ⟨gy, i1, none⟩ (.int .u8 v1)).setCell ⟨gz, i2, none⟩ (.int .u8 (vb8.toNat : Int))).heap.size := by simpa [World.setCell] using hzs
    have HZM : Hid (∀ i, i < nz → ((W6.setCell ⟨gy, i1, none⟩ (.int .u8 v1)).setCell ⟨gz, i2, none⟩ (.int .u8 (vb8.toNat : Int))).cell? ⟨gz, i, none⟩ = some (.int .u8 (if i = i2 then (vb8.toNat : Int) else Z i))) := fun i hi => by
      have h1 : (W6.setCell ⟨gy, i1, none⟩ (.int .u8 v1)).cell? ⟨gz, i, none⟩ = some (.int .u8 (Z i)) := cell_oth (by omega) (HZC.out i hi)
      by_cases e : i = i2
      · subst e; rw [if_pos rfl]; exact World.cell?_setCell_same _ _ _ h1
      · rw [if_neg e]; exact cell_oth (by omega) h1
    have HBY2 : Hid (Bt (fun k => if k = i1 then v1 else X k) m) := fun k hk => by
      show 0 ≤ (if k = i1 then v1 else X k) ∧ (if k = i1 then v1 else X k) ≤ 255
      split
      · exact hv1
      · exact HBX.out k hk
    clear hby1 hby2 HBY HZC HZF HB46 HBM4 HB6 HPX HY6 HY5 e1 e2 f1 f2 hmd hnd
    generalize (fun k => if k = i1 then v1 else X k) = YY at *
    obtain ⟨ZZ, hZZ⟩ : ∃ ZZ : Nat → Int, ZZ = fun i => if i = i2 then (vb8.toNat : Int) else Z i := ⟨_, rfl⟩
    have HZM' := Lib.hid (show ∀ i, i < nz → ((W6.setCell ⟨gy, i1, none⟩ (.int .u8 v1)).setCell ⟨gz, i2, none⟩ (.int .u8 (vb8.toNat : Int))).cell? ⟨gz, i, none⟩ = some (.int .u8 (ZZ i)) from fun i hi => by rw [hZZ]; exact HZM.out i hi)
    clear hZZ HZM
    have HZM := HZM'
    clear HZM'
    generalize (W6.setCell ⟨gy, i1, none⟩ (.int .u8 v1)).setCell ⟨gz, i2, none⟩ (.int .u8 (vb8.toNat : Int)) = Wm at *
    have hmcy : m ≤ cy := hcy
    have hcyi : (m : Int) ≤ (cy : Int) := by omega
    have hr0 : (0 : Int) ≤ (r : Int) := by omega
    go_wp2_with (first
      | (go_at_call_has 22 (Value.int .i64 14); refine (HM14.out _).mono ?_; rintro e w' ⟨rfl, rfl⟩))
    obtain ⟨q, hq⟩ : ∃ q, q = ((m : Int) - min (m : Int) (r : Int)).toNat := ⟨_, rfl⟩
    have hqm : q ≤ m := by omega
    rw [← hq]
    clear hq
    have HRK := Lib.hid (Rk.start (cb := cb) (cx := cx) (cy := cy) (nb := nb) (pb := pb) (B := B) (px := px) (X := X) (py := (some ⟨gy, 0, none⟩)) (Y := YY) (q := q) (m := m) (my := m) HBM.out (HBD.out _ HBM.out) HPM.out HYM.out hqm hzlM HZM.out)
    clear HBM HPM HYM HZM
    generalize Wm.alloc (.cells #[.slice pb nb cb, .slice px m cx, .slice (some ⟨gy, 0, none⟩) m cy, .slice (some ⟨gy, 0, none⟩) q cy] 24) = wd at *
    obtain ⟨gb, hgb⟩ : ∃ gb, gb = Wm.heap.size := ⟨_, rfl⟩
    rw [← hgb] at HRK ⊢
    clear hgb
    go_loopw [100] (fun i wr => ∃ k : Nat, k ≤ 4 ∧ i = .int .i64 k ∧ Hid (Rk w pb nb cb B px m cx X (some ⟨gy, 0, none⟩) m cy YY q gz nz ZZ gb wr)) (fun i _ => 4 - (intOf i).toNat)
    case atStart => exact ⟨0, by omega, rfl, HRK.out⟩
    case round =>
      obtain ⟨k, hk, rfl, hwr⟩ := hrel
      by_cases hk4 : k < 4
      · have hki : (k : Int) < 4 := by omega
        have hex : ∃ (pk : Option Addr) (nk ck : Nat) (Bk : Nat → Int), wr.cell? ⟨gb, k, none⟩ = some (.slice pk nk ck) ∧ nk ≤ 2000 ∧ nk ≤ ck ∧ Bt Bk nk ∧ ∀ W, Rk w pb nb cb B px m cx X (some ⟨gy, 0, none⟩) m cy YY q gz nz ZZ gb W → RdB W pk nk Bk := by
          have hc : k = 0 ∨ k = 1 ∨ k = 2 ∨ k = 3 := by omega
          rcases hc with rfl | rfl | rfl | rfl
          · exact ⟨pb, nb, cb, B, hwr.out.k0, by omega, hbc, HBT.out, fun W h => h.l0⟩
          · exact ⟨px, m, cx, X, hwr.out.k1, by omega, hcx, HBX.out, fun W h => h.l1⟩
          · exact ⟨(some ⟨gy, 0, none⟩), m, cy, YY, hwr.out.k2, by omega, hmcy, HBY2.out, fun W h => h.l2⟩
          · exact ⟨(some ⟨gy, 0, none⟩), q, cy, YY, hwr.out.k3, by omega, by omega, fun i hi => HBY2.out i (by omega), fun W h => h.l3⟩
        obtain ⟨pk, nk, ck, Bk, ckk, hnk, hnc, hbk, hrk⟩ := hex
        have HE1 : Hid (∀ W, Rk w pb nb cb B px m cx X (some ⟨gy, 0, none⟩) m cy YY q gz nz ZZ gb W → Calls Tryd.prog 23 #[.slice pk nk ck] W (DeP W (deX Bk nk) (deN Bk nk) (deR Bk))) := fun W h => pdec_any pk nk ck Bk W (hrk W h) hbk hnc
        have HE2 : Hid (∀ W, Rk w pb nb cb B px m cx X (some ⟨gy, 0, none⟩) m cy YY q gz nz ZZ gb W → Calls Tryd.prog 24 #[.slice pk nk ck] W (DeP W (deX Bk nk) (deN Bk nk) (deR Bk))) := fun W h => gdec_any pk nk ck Bk W (hrk W h) hbk hnc
        have hdn := deN_le Bk nk hnk
        clear hrk hbk
        generalize deX Bk nk = xx at *
        obtain ⟨xa, xb⟩ := xx
        generalize deN Bk nk = dN at *
        generalize deR Bk = dR at *
        have HSM := Lib.hid (sm_refl dR dN)
        go_wp2_with (first
          | (go_at_call 23; refine (HE1.out _ hwr.out).mono ?_; rintro e w1' ⟨vp, rfl, hgp, hb1⟩; obtain ⟨pp, cp, rfl, _⟩ := gotR_rd hgp; have HP1 := Lib.hid hgp; have HK1 := Lib.hid (hwr.out.up hb1); clear hgp hb1)
          | (go_at_call 24; refine (HE2.out _ HK1.out).mono ?_; rintro e w2' ⟨vq, rfl, hgq, hb2⟩; obtain ⟨pq, cq, rfl, _⟩ := gotR_rd hgq; have HQ2 := Lib.hid hgq; have HP2 := Lib.hid (gotR_kept HP1.out hb2); have HK2 := Lib.hid (HK1.out.up hb2); clear hgq hb2 HP1 HK1)
          | (go_at_call 25; refine (same_any pp pq dN dN cp cq dR dR _ (gotR_rdr HP2.out) (gotR_rdr HQ2.out) (by omega)).mono ?_; rintro e w3' ⟨rfl, hb3⟩; rw [HSM.out]; have HK3 := Lib.hid (HK2.out.up hb3); clear hb3 HP2 HQ2 HK2))
        go_roundw
        case rel => exact ⟨k + 1, by omega, by go_num, HK3.out⟩
        case measure => simp [intOf]; omega
      · have hki : ¬ (k : Int) < 4 := by omega
        have hcvz := cells_str cz hwr.out.zc
        have hzsz : (stB ZZ nz).size = nz := stB_size ZZ nz
        have hz9 : (stB ZZ nz).size ≤ 432 := by omega
        have HBW := Lib.hid hwr.out.bel
        have hsw := hwr.out.bel.size
        clear hzsz hwr HRK HBD HBT HBX
        generalize stB ZZ nz = zS at *
        obtain ⟨A1, a1⟩ : ∃ A : ByteArray, (⟨#[32]⟩ : ByteArray) ++ tS = A := ⟨_, rfl⟩
        obtain ⟨A2, a2⟩ : ∃ A : ByteArray, A1 ++ ⟨#[10, 32, 32, 32, 10]⟩ = A := ⟨_, rfl⟩
        obtain ⟨A3, a3⟩ : ∃ A : ByteArray, A2 ++ tS = A := ⟨_, rfl⟩
        have y1 : A1.size ≤ 433 := by rw [← a1, ByteArray.size_append]; show 1 + tS.size ≤ 433; omega
        have y2 : A2.size ≤ 438 := by rw [← a2, ByteArray.size_append]; show A1.size + 5 ≤ 438; omega
        have y3 : A3.size ≤ 870 := by rw [← a3, ByteArray.size_append]; omega
        have x1' : ¬ 9223372036854775807 < 1 + tS.size := by omega
        have x2' : ¬ 9223372036854775807 < A1.size + 5 := by omega
        have x3' : ¬ 9223372036854775807 < A2.size + tS.size := by omega
        go_wp2_with fail
        have HK : Hid ((wr.alloc (.cells #[.string s, .string tS, .string zS, .string A3] 9)).cell? ⟨wr.heap.size, 0, none⟩ = some (.string s) ∧ (wr.alloc (.cells #[.string s, .string tS, .string zS, .string A3] 9)).cell? ⟨wr.heap.size, 1, none⟩ = some (.string tS) ∧ (wr.alloc (.cells #[.string s, .string tS, .string zS, .string A3] 9)).cell? ⟨wr.heap.size, 2, none⟩ = some (.string zS) ∧ (wr.alloc (.cells #[.string s, .string tS, .string zS, .string A3] 9)).cell? ⟨wr.heap.size, 3, none⟩ = some (.string A3)) := ⟨by simp, by simp, by simp, by simp⟩
        have HB7 : Hid (Below w.heap.size w (wr.alloc (.cells #[.string s, .string tS, .string zS, .string A3] 9))) := HBW.out.alloc hsw _
        have hgl : wr.heap.size < (wr.alloc (.cells #[.string s, .string tS, .string zS, .string A3] 9)).heap.size := by simp
        clear a1 a2 a3 x1' x2' x3' hcvz HBW
        generalize wr.alloc (.cells #[.string s, .string tS, .string zS, .string A3] 9) = we at *
        obtain ⟨gs, hgs⟩ : ∃ gs, gs = wr.heap.size := ⟨_, rfl⟩
        rw [← hgs] at HK hgl ⊢
        clear hgs
        go_loopw [142] (fun i wr => ∃ k : Nat, k ≤ 4 ∧ i = .int .i64 k ∧ Hid (Below we.heap.size we wr)) (fun i _ => 4 - (intOf i).toNat)
        case atStart => exact ⟨0, by omega, rfl, Below.refl _ _⟩
        case round =>
          obtain ⟨k, hk, rfl, hbq⟩ := hrel
          have HBQ := Lib.hid (HB7.out.trans (hbq.out.mono HB7.out.size))
          have hsq := hbq.out.size
          by_cases hk4 : k < 4
          · have hki : (k : Int) < 4 := by omega
            have hex : ∃ sk : ByteArray, wr.cell? ⟨gs, k, none⟩ = some (.string sk) ∧ sk.size ≤ 1000000000 := by
              have hc : k = 0 ∨ k = 1 ∨ k = 2 ∨ k = 3 := by omega
              rcases hc with rfl | rfl | rfl | rfl
              · exact ⟨s, (hbq.out.cell (p := ⟨gs, 0, none⟩) hgl).trans HK.out.1, by omega⟩
              · exact ⟨tS, (hbq.out.cell (p := ⟨gs, 1, none⟩) hgl).trans HK.out.2.1, by omega⟩
              · exact ⟨zS, (hbq.out.cell (p := ⟨gs, 2, none⟩) hgl).trans HK.out.2.2.1, by omega⟩
              · exact ⟨A3, (hbq.out.cell (p := ⟨gs, 3, none⟩) hgl).trans HK.out.2.2.2, by omega⟩
            obtain ⟨sk, ckk, hsk⟩ := hex
            have HE1 : Hid (∀ W, Below w.heap.size w W → Calls Tryd.prog 26 #[.string sk] W (DeP W (paX sk) (paN sk) (paR (linesG sk) (linesG sk).length))) := fun W h => pparse_any sk W (HW.out.up h (Nat.le_refl _)) hsk
            have HE2 : Hid (∀ W, Calls Tryd.prog 27 #[.string sk] W (DeP W (paX sk) (paN sk) (paR (linesG sk) (linesG sk).length))) := fun W => rparse_any sk W hsk
            have hdn := paN_le sk hsk
            generalize paX sk = xx at *
            obtain ⟨xa, xb⟩ := xx
            generalize paN sk = dN at *
            generalize paR (linesG sk) (linesG sk).length = dR at *
            have HSM := Lib.hid (sm_refl dR dN)
            go_wp2_with (first
              | (go_at_call 26; refine (HE1.out _ HBQ.out).mono ?_; rintro e w1' ⟨vp, rfl, hgp, hb1⟩; obtain ⟨pp, cp, rfl, _⟩ := gotR_rd hgp; have HP1 := Lib.hid hgp; have HK1 := Lib.hid (hbq.out.trans (hb1.mono hsq)); have hs1 := HK1.out.size; clear hgp hb1)
              | (go_at_call 27; refine (HE2.out _).mono ?_; rintro e w2' ⟨vq, rfl, hgq, hb2⟩; obtain ⟨pq, cq, rfl, _⟩ := gotR_rd hgq; have HQ2 := Lib.hid hgq; have HP2 := Lib.hid (gotR_kept HP1.out hb2); have HK2 := Lib.hid (HK1.out.trans (hb2.mono hs1)); have hs2 := HK2.out.size; clear hgq hb2 HP1 HK1)
              | (go_at_call 25; refine (same_any pp pq dN dN cp cq dR dR _ (gotR_rdr HP2.out) (gotR_rdr HQ2.out) (by omega)).mono ?_; rintro e w3' ⟨rfl, hb3⟩; rw [HSM.out]; have HK3 := Lib.hid (HK2.out.trans (hb3.mono hs2)); clear hb3 HP2 HQ2 HK2))
            go_roundw
            case rel => exact ⟨k + 1, by omega, by go_num, HK3.out⟩
            case measure => simp [intOf]; omega
          · have hki : ¬ (k : Int) < 4 := by omega
            go_wp2_with (go_at_call 9; refine (awake_any _ (HW.out.up HBQ.out (Nat.le_refl _))).mono ?_; rintro e w9 ⟨rfl, hb9⟩; have HB9 := Lib.hid (HBQ.out.trans (hb9.mono HBQ.out.size)); clear hb9)
            go_ret
            exact ⟨rfl, HB9.out⟩
theorem grea_walk (pb : Option Addr) (nb cb : Nat) (B : Nat → Int) (s : ByteArray) (p : Option Addr) (n c : Nat) (z : Nat → Int) (x y : Int) (w : World) (hB : RdB w pb nb B) (hBt : Bt B nb) (hbc : nb ≤ cb) (hr : RdI w p n z) (hn : n ≤ 9223372036854775807) (hz : ∀ i, -9223372036854775808 ≤ z i ∧ z i ≤ 9223372036854775807)
    (hx : -9223372036854775808 ≤ x ∧ x ≤ 9223372036854775807) (hy : -9223372036854775808 ≤ y ∧ y ≤ 9223372036854775807) (hw : FlW w) (ht : TbW w) :
    Calls Tryd.prog 4 #[.slice pb nb cb, .string s, .slice p n c, .int .i64 x, .int .i64 y] w fun e w' => e = .returned (.bool true) ∧ Below w.heap.size w w' := by
  by_cases h : 2000 < nb ∨ 3000 < s.size
  · exact grea_early pb nb cb s p n c x y w h hw
  · exact grea_main pb nb cb B s p n c z x y w (by omega) (by omega) hB hBt hbc hr hn hz hx hy hw ht
end Go.Proofs.YtlelcooomfcbaaaDoor.Gg

/-
  The contract of the program's Series.
-/
import Derived.Test.YtlelcooomfcbaaaDoorGpMap
import Derived.Laws.OwnMore
import Derived.Deep.Onto
namespace Go.Proofs.YtlelcooomfcbaaaDoor.Gg
open Go.ChangeShapes Go.WideShapes Go.ChangeAt Go.RowKit Go.Maps
open Go.Proofs.YtlelcooomfcbaaaDoor.Ca (inB inB_yes inB_no)
set_option linter.unusedVariables false

theorem lbt_none (p : Option Addr) (c : Nat) (R : Nat → Nat → Int) (g : Int) (w : World) :
    Calls Tryd.prog 53 #[.slice p 0 c, .int .i64 g] w (LbP w R g 0) := by
  have hmm := @run_makeMap Tryd.prog
  go_enter Tryd.func53, Tryd.ntmps53
  go_wp2
  go_loop [11] (fun i => i = .int .i64 0) (fun _ => 0)
  case atStart => rfl
  case round =>
    obtain rfl := hrel
    go_wp2
    go_ret
    exact ⟨_, rfl, Nat.le_refl _, MapOk.start w R g, (Below.refl _ _).alloc (Nat.le_refl _) _⟩
theorem lbt_any (p : Option Addr) (n c : Nat) (R : Nat → Nat → Int) (g : Int) (w : World) (hp : RdR w p n R) (hv : ∀ i, i < n → Vr (R i)) (hn : n ≤ 1000000000) :
    Calls Tryd.prog 53 #[.slice p n c, .int .i64 g] w (LbP w R g n) := by
  by_cases h0 : n = 0
  · subst h0; exact lbt_none p c R g w
  obtain ⟨b, off, rfl, hpt⟩ := hp (by omega)
  exact lbt_some b off n c R g w hpt hv hn
/-- The zero cells of n readings. -/
theorem rsL_made (n : Nat) : (madeCells (Value.agg #[.int .i64 0, .int .i64 0, .int .i64 0, .int .i64 0]).cells (n * 4)).toList = rsL (fun _ _ => 0) n := by
  apply List.ext_getElem?
  intro p
  by_cases hp : p < n * 4
  · obtain ⟨q, r, hr, rfl⟩ : ∃ q r, r < 4 ∧ p = q * 4 + r := ⟨p / 4, p % 4, by omega, by omega⟩
    rw [rsL_get _ n q (by omega) r hr]
    have e : (q * 4 + r) % 4 = r := by omega
    have hc : r = 0 ∨ r = 1 ∨ r = 2 ∨ r = 3 := by omega
    have hq : q * 4 < n * 4 := by omega
    have e0 : q * 4 % 4 = 0 := by omega
    rcases hc with rfl | rfl | rfl | rfl <;> simp [madeCells, Value.cells, hp, e, hq, e0]
  · rw [List.getElem?_eq_none (by simp [madeCells]; omega), List.getElem?_eq_none (by rw [rsL_len]; omega)]
theorem rsL_set4 (F : Nat → Nat → Int) (n i : Nat) (a b c d : Int) (hi : i < n) : ((((rsL F n).set (i * 4) (.int .i64 a)).set (i * 4 + 1) (.int .i64 b)).set (i * 4 + 2) (.int .i64 c)).set (i * 4 + 3) (.int .i64 d) = rsL (updR F i (mkR a b c d)) n := by
  apply List.ext_getElem?
  intro p
  by_cases hp : p < n * 4
  · obtain ⟨q, r, hr, rfl⟩ : ∃ q r, r < 4 ∧ p = q * 4 + r := ⟨p / 4, p % 4, by omega, by omega⟩
    rw [rsL_get (updR F i (mkR a b c d)) n q (by omega) r hr]
    by_cases e : q = i
    · subst e
      rw [updR_same]
      have hc : r = 0 ∨ r = 1 ∨ r = 2 ∨ r = 3 := by omega
      rcases hc with rfl | rfl | rfl | rfl
      · rw [List.getElem?_set_ne (by omega), List.getElem?_set_ne (by omega), List.getElem?_set_ne (by omega), Nat.add_zero, List.getElem?_set_self (by rw [rsL_len]; omega)]; rfl
      · rw [List.getElem?_set_ne (by omega), List.getElem?_set_ne (by omega), List.getElem?_set_self (by rw [List.length_set, rsL_len]; omega)]; rfl
      · rw [List.getElem?_set_ne (by omega), List.getElem?_set_self (by rw [List.length_set, List.length_set, rsL_len]; omega)]; rfl
      · rw [List.getElem?_set_self (by rw [List.length_set, List.length_set, List.length_set, rsL_len]; omega)]; rfl
    · rw [updR_other _ _ e, List.getElem?_set_ne (by omega), List.getElem?_set_ne (by omega), List.getElem?_set_ne (by omega), List.getElem?_set_ne (by omega), rsL_get F n q (by omega) r hr]
  · rw [List.getElem?_eq_none (by simp [rsL_len]; omega), List.getElem?_eq_none (by rw [rsL_len]; omega)]
/-- A look-up in the map of readings, its value written out. -/
theorem wp_look_re {w : World} {ops : Array Oper} {rest : List Oper} {o : Oper} {a : Act} {Q : Exit → Act → World → Prop} (hg : o.guard = none) (m x : Operand) (hop : o.op = Op.lookup 85 m x true)
    (b n : Nat) (D : DataW Unit) (hm : a.eval m = .map (some b)) (hown : w.ownsMap Tryd.prog 3 reElem b n D) (key : Int) (hx : a.eval x = .int .i64 key) (hkey : keyOf Tryd.prog 3 (.int .i64 key) = some (.int .i64 key))
    (x0 x1 x2 x3 : Int) (bb : Bool) (hat : D.atKey (.int .i64 key) (.agg [.lit (.int .i64 0), .lit (.int .i64 0), .lit (.int .i64 0), .lit (.int .i64 0)]) = .agg [.lit (.int .i64 x0), .lit (.int .i64 x1), .lit (.int .i64 x2), .lit (.int .i64 x3)]) (hhas : Maps.has D (.int .i64 key) = bb)
    (hK : wpList Tryd.prog ops Q rest (a.put o.dst (.tuple #[.agg #[.int .i64 x0, .int .i64 x1, .int .i64 x2, .int .i64 x3], .bool bb])) w) : wpList Tryd.prog ops Q (o :: rest) a w :=
  wpList_lookup_own_ok w hg m x _ hop 3 23 law3 Tryd.underlying85 reElem (zeroR w) _ [] (reElem_mk 0 0 0 0) b n D hm hown _ _ hx hkey (fun v ps hv => by
    rw [hat] at hv
    rw [reElem_inv hv, hhas]
    exact hK)

/-- P6.4: the error of Series. -/
def seE (R : Nat → Nat → Int) (n : Nat) (g f c : Int) : Int :=
  if inB g 255 = false ∨ inB c 4096 = false then 1 else if inB f 16777216 = false ∨ inB (f + c) 16777216 = false then 6 else alG R n
def seN (R : Nat → Nat → Int) (n : Nat) (g f c : Int) : Nat := if seE R n g f c = 0 then c.toNat else 0
def seR (R : Nat → Nat → Int) (n : Nat) (g f : Int) (i : Nat) : Nat → Int := serG R n g (f + i)
def SeP (w : World) (R : Nat → Nat → Int) (n : Nat) (g f c : Int) (e : Ending) (w' : World) : Prop :=
  ∃ v, e = .returned (.tuple #[v, .int .i64 (seE R n g f c)]) ∧ GotR w' w.heap.size v (seN R n g f c) (seR R n g f) ∧ Below w.heap.size w w'
theorem SeP.bad {w w' : World} {R : Nat → Nat → Int} {n : Nat} {g f c x : Int} (h : seE R n g f c = x) (hx : x ≠ 0) (hb : Below w.heap.size w w') : SeP w R n g f c (.returned (.tuple #[.slice none 0 0, .int .i64 x])) w' :=
  ⟨_, by rw [h], by unfold seN; rw [h, if_neg hx]; exact gotR_nil _ _ _, hb⟩
/-- The first k readings of the answer; behind them zeros. -/
def upS (S : Nat → Nat → Int) (k : Nat) (i : Nat) : Nat → Int := if i < k then S i else fun _ => 0
theorem upS_next (S : Nat → Nat → Int) (k n : Nat) (hk : k < n) : rsL (updR (upS S k) k (S k)) n = rsL (upS S (k + 1)) n := by
  apply rsL_congr
  intro i hi j hj
  unfold upS
  by_cases e : i = k
  · subst e; rw [updR_same, if_pos (by omega)]
  · rw [updR_other _ _ e]
    by_cases h : i < k
    · rw [if_pos h, if_pos (by omega)]
    · rw [if_neg h, if_neg (by omega)]

theorem mkR_of (r : Nat → Int) : ∀ j, j < 4 → r j = mkR (r 0) (r 1) (r 2) (r 3) j := fun j hj => by
  have hc : j = 0 ∨ j = 1 ∨ j = 2 ∨ j = 3 := by omega
  rcases hc with rfl | rfl | rfl | rfl <;> rfl
theorem row_next {w : World} {kb cn k : Nat} {S : Nat → Nat → Int} {a b c d : Int} (h : w.ownsRow kb 23 4 (.slice (some ⟨kb, 0, none⟩) cn cn) cn (rsL (upS S k) cn)) (hk : k < cn) (e : ∀ j, j < 4 → S k j = mkR a b c d j) :
    ((((w.setCell ⟨kb, k * 4, none⟩ (.int .i64 a)).setCell ⟨kb, k * 4 + 1, none⟩ (.int .i64 b)).setCell ⟨kb, k * 4 + 2, none⟩ (.int .i64 c)).setCell ⟨kb, k * 4 + 3, none⟩ (.int .i64 d)).ownsRow kb 23 4 (.slice (some ⟨kb, 0, none⟩) cn cn) cn (rsL (upS S (k + 1)) cn) ∧
    w.grownBy ((((w.setCell ⟨kb, k * 4, none⟩ (.int .i64 a)).setCell ⟨kb, k * 4 + 1, none⟩ (.int .i64 b)).setCell ⟨kb, k * 4 + 2, none⟩ (.int .i64 c)).setCell ⟨kb, k * 4 + 3, none⟩ (.int .i64 d)) (some kb) := by
  have h1 := h.stored (k * 4) (.int .i64 a)
  have h2 := h1.1.stored (k * 4 + 1) (.int .i64 b)
  have h3 := h2.1.stored (k * 4 + 2) (.int .i64 c)
  have h4 := h3.1.stored (k * 4 + 3) (.int .i64 d)
  refine ⟨?_, Cu.grown_trans (Cu.grown_trans (Cu.grown_trans h1.2 h2.2) h3.2) h4.2⟩
  have hr := h4.1
  rw [rsL_set4 _ _ _ _ _ _ _ hk] at hr
  rw [← upS_next S k cn hk, rsL_congr (updR (upS S k) k (S k)) (updR (upS S k) k (mkR a b c d)) cn (fun i hi j hj => by
    by_cases e2 : i = k
    · subst e2; rw [updR_same, updR_same]; exact e j hj
    · rw [updR_other _ _ e2, updR_other _ _ e2])]
  exact hr
set_option maxRecDepth 100000 in
set_option maxHeartbeats 4000000 in
theorem pser_bad (p : Option Addr) (n cap : Nat) (R : Nat → Nat → Int) (g f c : Int) (w : World) (hp : RdR w p n R) (hn : n ≤ 1000000000) (hf : -9223372036854775808 ≤ f ∧ f ≤ 9223372036854775807) (hc : -9223372036854775808 ≤ c ∧ c ≤ 9223372036854775807) (hbad : seE R n g f c ≠ 0) :
    Calls Tryd.prog 28 #[.slice p n cap, .int .i64 g, .int .i64 f, .int .i64 c] w (SeP w R n g f c) := by
  obtain ⟨x, hx⟩ : ∃ x, seE R n g f c = x := ⟨_, rfl⟩
  rw [hx] at hbad
  have HX := Lib.hid hx
  have HXn := Lib.hid hbad
  have HG := Lib.hid (fun W => pgau_any g W)
  have HC := Lib.hid (fun W => pfz_any 4096 c W)
  have HF := Lib.hid (fun W => ptim_any f W)
  have HFC := Lib.hid (fun W => ptim_any (f + c) W)
  have HA := Lib.hid (pea_any p n cap R w hp (by omega))
  have HE : Hid (x = if inB g 255 = false ∨ inB c 4096 = false then 1 else if inB f 16777216 = false ∨ inB (f + c) 16777216 = false then 6 else alG R n) := hx.symm
  clear hx hp
  cases h1 : inB g 255 with
  | false =>
    rw [h1] at HG HE
    rw [if_pos (.inl rfl)] at HE
    clear h1
    go_enter Tryd.func28, Tryd.ntmps28
    go_wp2_with (first | (go_at_call 39; refine (HG.out _).mono ?_; rintro e w' ⟨rfl, rfl⟩))
    go_ret2
    exact SeP.bad (by rw [HX.out, HE.out]) (by omega) (Below.refl _ _)
  | true =>
    rw [h1] at HG HE
    clear h1
    cases h2 : inB c 4096 with
    | false =>
      rw [h2] at HC HE
      rw [if_pos (.inr rfl)] at HE
      clear h2
      go_enter Tryd.func28, Tryd.ntmps28
      go_wp2_with (first | (go_at_call 39; refine (HG.out _).mono ?_; rintro e w' ⟨rfl, rfl⟩) | (go_at_call 41; refine (HC.out _).mono ?_; rintro e w' ⟨rfl, rfl⟩))
      go_ret2
      exact SeP.bad (by rw [HX.out, HE.out]) (by omega) (Below.refl _ _)
    | true =>
      have c01 : 0 ≤ c ∧ c ≤ 4096 := inB_iff.1 h2
      rw [h2] at HC HE
      rw [if_neg (by simp)] at HE
      clear h2
      obtain ⟨c0, c1⟩ := c01
      cases h3 : inB f 16777216 with
      | false =>
        rw [h3] at HF HE
        rw [if_pos (.inl rfl)] at HE
        clear h3
        go_enter Tryd.func28, Tryd.ntmps28
        go_wp2_with (first | (go_at_call 39; refine (HG.out _).mono ?_; rintro e w' ⟨rfl, rfl⟩) | (go_at_call 41; refine (HC.out _).mono ?_; rintro e w' ⟨rfl, rfl⟩) | (go_at_call_has 40 (Value.int .i64 f); refine (HF.out _).mono ?_; rintro e w' ⟨rfl, rfl⟩))
        go_ret2
        exact SeP.bad (by rw [HX.out, HE.out]) (by omega) (Below.refl _ _)
      | true =>
        have f01 : 0 ≤ f ∧ f ≤ 16777216 := inB_iff.1 h3
        rw [h3] at HF HE
        clear h3
        obtain ⟨f0, f1⟩ := f01
        cases h4 : inB (f + c) 16777216 with
        | false =>
          rw [h4] at HFC HE
          rw [if_pos (.inr rfl)] at HE
          clear h4
          go_enter Tryd.func28, Tryd.ntmps28
          go_wp2_with (first | (go_at_call 39; refine (HG.out _).mono ?_; rintro e w' ⟨rfl, rfl⟩) | (go_at_call 41; refine (HC.out _).mono ?_; rintro e w' ⟨rfl, rfl⟩) | (go_at_call_has 40 (Value.int .i64 f); refine (HF.out _).mono ?_; rintro e w' ⟨rfl, rfl⟩) | (go_at_call_has 40 (Value.int .i64 (f + c)); refine (HFC.out _).mono ?_; rintro e w' ⟨rfl, rfl⟩))
          go_ret2
          exact SeP.bad (by rw [HX.out, HE.out]) (by omega) (Below.refl _ _)
        | true =>
          rw [h4] at HFC HE
          rw [if_neg (by simp)] at HE
          clear h4
          have HN : Hid (alG R n ≠ 0) := by show alG R n ≠ 0; rw [← HE.out]; exact HXn.out
          obtain ⟨cd, hcd⟩ : ∃ cd, alG R n = cd := ⟨_, rfl⟩
          rw [hcd] at HA HE HN
          have hcn : (cd != 0) = true := by simpa using HN.out
          clear hcd
          go_enter Tryd.func28, Tryd.ntmps28
          go_wp2_with (first | (go_at_call 39; refine (HG.out _).mono ?_; rintro e w' ⟨rfl, rfl⟩) | (go_at_call 41; refine (HC.out _).mono ?_; rintro e w' ⟨rfl, rfl⟩) | (go_at_call_has 40 (Value.int .i64 f); refine (HF.out _).mono ?_; rintro e w' ⟨rfl, rfl⟩) | (go_at_call_has 40 (Value.int .i64 (f + c)); refine (HFC.out _).mono ?_; rintro e w' ⟨rfl, rfl⟩) | (go_at_call 52; refine HA.out.mono ?_; rintro e w1 ⟨rfl, hb1⟩))
          go_ret2
          exact SeP.bad (by rw [HX.out, HE.out]) HN.out (hb1)

set_option maxRecDepth 100000 in
set_option maxHeartbeats 4000000 in
theorem pser_good (p : Option Addr) (n cap : Nat) (R : Nat → Nat → Int) (g f : Int) (cn : Nat) (w : World) (hp : RdR w p n R) (hn : n ≤ 1000000000) (h1 : inB g 255 = true) (h2 : inB (cn : Int) 4096 = true) (h3 : inB f 16777216 = true) (h4 : inB (f + cn) 16777216 = true) (h5 : alG R n = 0) :
    Calls Tryd.prog 28 #[.slice p n cap, .int .i64 g, .int .i64 f, .int .i64 cn] w (SeP w R n g f cn) := by
  obtain ⟨i0, hi, hz0, hz1, hz2⟩ := info_parts Tryd.infoR
  have HE : Hid (seE R n g f cn = 0) := by
    show seE R n g f cn = 0
    unfold seE
    rw [h1, h2, h3, h4, h5]
    rfl
  have HNN : Hid (seN R n g f cn = cn) := by
    show seN R n g f cn = cn
    unfold seN
    rw [HE.out]
    simp
  have HG := Lib.hid (fun W => pgau_any g W)
  have HC := Lib.hid (fun W => pfz_any 4096 (cn : Int) W)
  have HF := Lib.hid (fun W => ptim_any f W)
  have HFC := Lib.hid (fun W => ptim_any (f + cn) W)
  have HA := Lib.hid (pea_any p n cap R w hp (by omega))
  rw [h1] at HG
  rw [h2] at HC
  rw [h3] at HF
  rw [h4] at HFC
  rw [h5] at HA
  have HL : Hid (∀ W, Below w.heap.size w W → Calls Tryd.prog 53 #[.slice p n cap, .int .i64 g] W (LbP W R g n)) := fun W hb => lbt_any p n cap R g W (hp.below hb (Nat.le_refl _)) ((alG_zero R n).1 h5) hn
  obtain ⟨g0, g1⟩ := inB_iff.1 h1
  obtain ⟨c0, c1⟩ := inB_iff.1 h2
  obtain ⟨f0, f1⟩ := inB_iff.1 h3
  obtain ⟨fc0, fc1⟩ := inB_iff.1 h4
  clear h1 h2 h3 h4 h5 hp
  go_enter Tryd.func28, Tryd.ntmps28
  go_wp2_with (first | (go_at_call 39; refine (HG.out _).mono ?_; rintro e w' ⟨rfl, rfl⟩) | (go_at_call 41; refine (HC.out _).mono ?_; rintro e w' ⟨rfl, rfl⟩) | (go_at_call_has 40 (Value.int .i64 f); refine (HF.out _).mono ?_; rintro e w' ⟨rfl, rfl⟩) | (go_at_call_has 40 (Value.int .i64 (f + cn)); refine (HFC.out _).mono ?_; rintro e w' ⟨rfl, rfl⟩) | (go_at_call 52; refine HA.out.mono ?_; rintro e w1 ⟨rfl, hb1⟩; have HB1 := Lib.hid hb1; clear hb1) | (go_at_call 53; refine (HL.out _ HB1.out).mono ?_; rintro e w2 ⟨mb, rfl, hmb, hmo, hb2⟩; have HB2 := Lib.hid (HB1.out.trans (hb2.mono HB1.out.size)); have HMO := Lib.hid hmo; have hml := hmo.lt; have hmw : w.heap.size ≤ mb := Nat.le_trans HB1.out.size hmb; clear hb2 hmo; obtain ⟨W5, hmk5, hown5, hgr5⟩ := run_make_full (P := Tryd.prog) w2 w2.heap.size 29 23 i0 _ 4 Tryd.underlying29 hi hz0 hz1 .i64 .i64 cn (by rw [hz2]; omega) (by unfold maxLen; omega) (Nat.le_refl _); rw [rsL_made] at hown5; have HO5 := Lib.hid hown5; have HG5 := Lib.hid hgr5; clear hown5 hgr5))
  have HM5 : Hid (MapOk W5 mb n R g n) := HMO.out.kept HG5.out (by simp)
  have HB5 : Hid (Below w.heap.size w W5) := HB2.out.grown HG5.out HB2.out.size (fun _ h => by cases h)
  have hwk : w.heap.size ≤ w2.heap.size := HB2.out.size
  clear HMO HG5 HB2 HB1 hmk5
  obtain ⟨kb, hkb⟩ : ∃ kb, kb = w2.heap.size := ⟨_, rfl⟩
  rw [← hkb] at HO5 hml hwk ⊢
  clear hkb
  go_loopw [46] (fun i wr => ∃ k : Nat, k ≤ cn ∧ i = .int .i64 k ∧ Hid (wr.ownsRow kb 23 4 (.slice (some ⟨kb, 0, none⟩) cn cn) cn (rsL (upS (seR R n g f) k) cn)) ∧ Hid (MapOk wr mb n R g n) ∧ Hid (Below w.heap.size w wr)) (fun i _ => cn - (intOf i).toNat)
  case atStart => exact ⟨0, Nat.zero_le _, rfl, HO5, HM5, HB5⟩
  case round =>
    clear HM5 HB5 HO5
    obtain ⟨k, hk, rfl, hro, hmo, hb⟩ := hrel
    by_cases hkn : k < cn
    · have hki : (k : Int) < (cn : Int) := by omega
      have hki2 : (k : Int) ≤ 4096 := by omega
      obtain ⟨D, hown, hD⟩ := hmo.out
      have HO := Lib.hid hown
      have hbs := hb.out.size
      have hkw : kb < wr.heap.size := (hro.out.lt kb rfl).2
      have hcA : ∀ (q : Nat), q < 4 → wr.cell? ⟨kb, k * 4 + q, none⟩ = some (.int .i64 (upS (seR R n g f) k k q)) := fun q hq => (hro.out.cellAt (k * 4 + q) (by omega)).trans (rsL_get _ cn k hkn q hq)
      have hfA : ∀ (q : Nat), wr.frozen? ⟨kb, k * 4 + q, none⟩ = false := fun q => hro.out.frozenAt (k * 4 + q)
      have q0 : wr.cell? ⟨kb, k * 4, none⟩ = some (.int .i64 (upS (seR R n g f) k k 0)) := hcA 0 (by omega)
      have q1 : wr.cell? ⟨kb, k * 4 + 1, none⟩ = some (.int .i64 (upS (seR R n g f) k k 1)) := hcA 1 (by omega)
      have q2 : wr.cell? ⟨kb, k * 4 + 2, none⟩ = some (.int .i64 (upS (seR R n g f) k k 2)) := hcA 2 (by omega)
      have q3 : wr.cell? ⟨kb, k * 4 + 3, none⟩ = some (.int .i64 (upS (seR R n g f) k k 3)) := hcA 3 (by omega)
      have p0 : wr.frozen? ⟨kb, k * 4, none⟩ = false := hfA 0
      have p1 : wr.frozen? ⟨kb, k * 4 + 1, none⟩ = false := hfA 1
      have p2 : wr.frozen? ⟨kb, k * 4 + 2, none⟩ = false := hfA 2
      have p3 : wr.frozen? ⟨kb, k * 4 + 3, none⟩ = false := hfA 3
      have hne1 : ¬ kb = wr.heap.size := by omega
      have hne2 : ¬ wr.heap.size = kb := by omega
      have HKY : Hid (keyOf Tryd.prog 3 (.int .i64 (f + k)) = some (.int .i64 (f + k))) := keyOf_int_mk Tryd.underlying3 (WalkArith.wf_i64 (by omega))
      have HRN : Hid (∀ (o : Obj) (a b c d : Int), (∀ j, j < 4 → seR R n g f k j = mkR a b c d j) → Hid ((((((wr.setCell ⟨kb, k * 4, none⟩ (.int .i64 a)).setCell ⟨kb, k * 4 + 1, none⟩ (.int .i64 b)).setCell ⟨kb, k * 4 + 2, none⟩ (.int .i64 c)).setCell ⟨kb, k * 4 + 3, none⟩ (.int .i64 d)).alloc o).ownsRow kb 23 4 (.slice (some ⟨kb, 0, none⟩) cn cn) cn (rsL (upS (seR R n g f) (k + 1)) cn)) ∧ Hid (MapOk (((((wr.setCell ⟨kb, k * 4, none⟩ (.int .i64 a)).setCell ⟨kb, k * 4 + 1, none⟩ (.int .i64 b)).setCell ⟨kb, k * 4 + 2, none⟩ (.int .i64 c)).setCell ⟨kb, k * 4 + 3, none⟩ (.int .i64 d)).alloc o) mb n R g n) ∧ Hid (Below w.heap.size w (((((wr.setCell ⟨kb, k * 4, none⟩ (.int .i64 a)).setCell ⟨kb, k * 4 + 1, none⟩ (.int .i64 b)).setCell ⟨kb, k * 4 + 2, none⟩ (.int .i64 c)).setCell ⟨kb, k * 4 + 3, none⟩ (.int .i64 d)).alloc o))) := fun o a b c d he => by
        have hr := row_next hro.out hkn he
        exact ⟨hr.1.alloc o, (hmo.out.kept hr.2 (by simp; omega)).kept (World.grownBy_alloc _ o none) (by simp), (hb.out.grown hr.2 hbs (fun j hj => by cases hj; exact hwk)).alloc (by simpa using hbs) o⟩
      have HSK : Hid (seR R n g f k = match lastG R g (f + k) n with | some i => R i | none => mkR g (f + k) 0 2) := rfl
      have HD2 := Lib.hid (hD (f + k))
      clear hown hD hcA hfA
      cases hl : lastG R g (f + k) n with
      | none =>
        rw [hl] at HSK HD2
        have hhas := Lib.hid (HD2.out.1 rfl)
        have hat := Lib.hid (atKey_of_not_has hhas.out (.agg [.lit (.int .i64 0), .lit (.int .i64 0), .lit (.int .i64 0), .lit (.int .i64 0)]))
        clear hl HD2
        go_wp2_with (first
          | (at_lookup; refine wp_look_re rfl _ _ rfl mb n D rfl HO.out _ rfl HKY.out 0 0 0 0 false hat.out hhas.out ?_)
          | go_in)
        go_roundw
        case rel => exact ⟨k + 1, by omega, by go_num, HRN.out _ g (f + k) 0 2 (fun j hj => by rw [HSK.out])⟩
        case measure => simp [intOf]; omega
      | some i =>
        rw [hl] at HSK HD2
        have hhas := Lib.hid (HD2.out.2 i rfl).1
        have hat := Lib.hid ((HD2.out.2 i rfl).2 (.agg [.lit (.int .i64 0), .lit (.int .i64 0), .lit (.int .i64 0), .lit (.int .i64 0)]))
        have HSJ : Hid (∀ j, j < 4 → seR R n g f k j = mkR (R i 0) (R i 1) (R i 2) (R i 3) j) := fun j hj => by rw [HSK.out]; exact mkR_of (R i) j hj
        clear hl HD2
        go_wp2_with (first
          | (at_lookup; refine wp_look_re rfl _ _ rfl mb n D rfl HO.out _ rfl HKY.out (R i 0) (R i 1) (R i 2) (R i 3) true hat.out hhas.out ?_)
          | go_in)
        go_roundw
        case rel => exact ⟨k + 1, by omega, by go_num, HRN.out _ _ _ _ _ HSJ.out⟩
        case measure => simp [intOf]; omega
    · obtain rfl : k = cn := by omega
      go_wp2
      go_ret2
      refine ⟨.slice (some ⟨kb, 0, none⟩) k k, by rw [HE.out]; rfl, ?_, hb.out⟩
      rw [HNN.out]
      unfold GotR
      rw [← rsL_congr (upS (seR R n g f) k) (seR R n g f) k (fun i hi j hj => by unfold upS; rw [if_pos hi])]
      exact World.ownsRow.mono hro.out hwk
theorem seE_zero {R : Nat → Nat → Int} {n : Nat} {g f c : Int} (h : seE R n g f c = 0) : inB g 255 = true ∧ inB c 4096 = true ∧ inB f 16777216 = true ∧ inB (f + c) 16777216 = true ∧ alG R n = 0 := by
  unfold seE at h
  cases h1 : inB g 255 <;> cases h2 : inB c 4096 <;> cases h3 : inB f 16777216 <;> cases h4 : inB (f + c) 16777216 <;> simp [h1, h2, h3, h4] at h
  exact ⟨rfl, rfl, rfl, rfl, h⟩
theorem pser_any (p : Option Addr) (n cap : Nat) (R : Nat → Nat → Int) (g f c : Int) (w : World) (hp : RdR w p n R) (hn : n ≤ 1000000000) (hf : -9223372036854775808 ≤ f ∧ f ≤ 9223372036854775807) (hc : -9223372036854775808 ≤ c ∧ c ≤ 9223372036854775807) :
    Calls Tryd.prog 28 #[.slice p n cap, .int .i64 g, .int .i64 f, .int .i64 c] w (SeP w R n g f c) := by
  by_cases h : seE R n g f c = 0
  · obtain ⟨h1, h2, h3, h4, h5⟩ := seE_zero h
    obtain ⟨c0, _⟩ := inB_iff.1 h2
    obtain ⟨cn, rfl⟩ : ∃ cn : Nat, c = cn := ⟨c.toNat, by omega⟩
    exact pser_good p n cap R g f cn w hp hn h1 h2 h3 h4 h5
  · exact pser_bad p n cap R g f c w hp hn hf hc h
end Go.Proofs.YtlelcooomfcbaaaDoor.Gg

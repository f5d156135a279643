/-
  The walk of the law RulecurveTurns.
-/
import Derived.Test.YtdblppbjlgmccaaRuLhe
import Derived.Maps.AppendAt
import Derived.Laws.AppendOwnNone
namespace Go.Proofs.Ytdblppbjlgmccaa.Ru
open Go.ChangeShapes Go.WideShapes Go.ChangeAt Go.RowKit
open Go.Proofs.Ytdblppbjlgmccaa.Cu
open Go.Proofs.Ytdblppbjlgmccaa.Ca (dayB)
set_option linter.unusedVariables false

/-- The points before and behind the new year, as the law gathers them of the first k points: kb of them stay in the year. -/
structure Tn (X Y : Nat → Int) (s : Int) (k kb base : Nat) (va vb : Value) (W : World) : Prop where
  ga : GotP W base va (k - kb) (fun i => X (kb + i) + s - 365) (fun i => Y (kb + i))
  gb : GotP W base vb kb (fun i => X i + s) Y
  sp : ∀ i, i < kb → X i + s < 365
  cut : kb < k → 365 ≤ X kb + s
  ap : ∀ j, va.ownBlock = some j → vb.ownBlock ≠ some j
  nl : kb = 0 → vb = .slice none 0 0
theorem Tn.alloc {X Y : Nat → Int} {s : Int} {k kb base : Nat} {va vb : Value} {W : World} (h : Tn X Y s k kb base va vb W) (o : Obj) : Tn X Y s k kb base va vb (W.alloc o) :=
  ⟨World.ownsRow.alloc h.ga o, World.ownsRow.alloc h.gb o, h.sp, h.cut, h.ap, h.nl⟩
theorem Tn.ahead {X Y : Nat → Int} {s : Int} {k kb base : Nat} {va vb va' : Value} {W W' : World} (h : Tn X Y s k kb base va vb W) (hk : kb ≤ k) (hx : 365 ≤ X k + s)
    (hown : W'.ownsRow base 45 2 va' (k - kb + 1) (ptL (fun i => X (kb + i) + s - 365) (fun i => Y (kb + i)) (k - kb) ++ [.int .i64 (X k + s - 365), .int .i64 (Y k)])) (hg : W.grownBy W' va.ownBlock)
    (hat : va'.ownBlock = va.ownBlock ∨ va'.ownBlock = some W.heap.size) : Tn X Y s (k + 1) kb base va' vb W' where
  ga := by
    rw [show k + 1 - kb = k - kb + 1 by omega]
    refine gotP_congr (gotP_next hown) (fun i hi => ?_)
    by_cases e : i = k - kb
    · subst e; rw [updF_same, updF_same, show kb + (k - kb) = k by omega]; exact ⟨rfl, rfl⟩
    · rw [updF_other _ _ e, updF_other _ _ e]; exact ⟨rfl, rfl⟩
  gb := h.gb.kept hg (by
    cases hb : vb.ownBlock with
    | none => exact .inl rfl
    | some j => exact .inr fun e => h.ap j e.symm hb)
  sp := h.sp
  cut := fun hc => by
    by_cases e : kb = k
    · rw [e]; exact hx
    · exact h.cut (by omega)
  ap := fun j hj hb => by
    rcases hat with e | e
    · exact h.ap j (e.symm.trans hj) hb
    · rw [e] at hj
      have h1 := (World.ownsRow.lt h.gb j hb).2
      simp at hj
      omega
  nl := h.nl
theorem Tn.behind {X Y : Nat → Int} {s : Int} {k base : Nat} {va vb vb' : Value} {W W' : World} (h : Tn X Y s k k base va vb W) (hx : X k + s < 365)
    (hown : W'.ownsRow base 45 2 vb' (k + 1) (ptL (fun i => X i + s) Y k ++ [.int .i64 (X k + s), .int .i64 (Y k)])) (hg : W.grownBy W' vb.ownBlock)
    (hat : vb'.ownBlock = vb.ownBlock ∨ vb'.ownBlock = some W.heap.size) : Tn X Y s (k + 1) (k + 1) base va vb' W' where
  ga := by
    have h1 := h.ga.kept hg (by
      cases hb : va.ownBlock with
      | none => exact .inl rfl
      | some j => exact .inr fun e => h.ap j hb e.symm)
    rw [Nat.sub_self] at h1 ⊢
    exact h1
  gb := gotP_congr (gotP_next hown) (fun i hi => by
    by_cases e : i = k
    · subst e; rw [updF_same, updF_same]; exact ⟨rfl, rfl⟩
    · rw [updF_other _ _ e, updF_other _ _ e]; exact ⟨rfl, rfl⟩)
  sp := fun i hi => by
    by_cases e : i = k
    · subst e; exact hx
    · exact h.sp i (by omega)
  cut := fun hc => absurd hc (by omega)
  ap := fun j hj hb => by
    rcases hat with e | e
    · exact h.ap j hj (e.symm.trans hb)
    · rw [e] at hb
      have h1 := (World.ownsRow.lt h.ga j hj).2
      simp at hb
      omega
  nl := fun h => absurd h (by omega)

/-- The turned points. -/
def tuX (X : Nat → Int) (s : Int) (n kb i : Nat) : Int := if i < n - kb then X (kb + i) + s - 365 else X (i - (n - kb)) + s
def tuY (Y : Nat → Int) (n kb i : Nat) : Int := if i < n - kb then Y (kb + i) else Y (i - (n - kb))
theorem Rc.turned {X Y : Nat → Int} {n : Nat} (hr : Rc X Y n) (s : Int) (kb : Nat) (hk : kb ≤ n) (s0 : 0 ≤ s) (s1 : s ≤ 364) (sp : ∀ i, i < kb → X i + s < 365) (cut : kb < n → 365 ≤ X kb + s) : Rc (tuX X s n kb) (tuY Y n kb) n where
  pos := hr.pos
  len := hr.len
  xlo := fun i hi => by
    unfold tuX
    by_cases c : i < n - kb
    · rw [if_pos c]
      have h1 := hr.xle (kb + i) kb (by omega) (by omega)
      have h2 := cut (by omega)
      omega
    · rw [if_neg c]
      have := hr.xlo (i - (n - kb)) (by omega)
      omega
  xhi := fun i hi => by
    unfold tuX
    by_cases c : i < n - kb
    · rw [if_pos c]
      have := hr.xhi (kb + i) (by omega)
      omega
    · rw [if_neg c]
      have := sp (i - (n - kb)) (by omega)
      omega
  ylo := fun i hi => by
    unfold tuY
    split
    · exact hr.ylo _ (by omega)
    · exact hr.ylo _ (by omega)
  yhi := fun i hi => by
    unfold tuY
    split
    · exact hr.yhi _ (by omega)
    · exact hr.yhi _ (by omega)
  asc := fun i hi => by
    unfold tuX
    by_cases c : i + 1 < n - kb
    · rw [if_pos (by omega), if_pos c]
      have := hr.asc (kb + i) (by omega)
      rw [show kb + i + 1 = kb + (i + 1) by omega] at this
      omega
    · rw [if_neg c]
      by_cases c2 : i < n - kb
      · rw [if_pos c2]
        have h1 := hr.xhi (kb + i) (by omega)
        have h2 := hr.xlo (i + 1 - (n - kb)) (by omega)
        omega
      · rw [if_neg c2]
        have := hr.asc (i - (n - kb)) (by omega)
        rw [show i - (n - kb) + 1 = i + 1 - (n - kb) by omega] at this
        omega
theorem rl_tu {X Y : Nat → Int} {n : Nat} (hr : Rc X Y n) (s : Int) (kb : Nat) (hk : kb ≤ n) (s0 : 0 ≤ s) (s1 : s ≤ 364) (sp : ∀ i, i < kb → X i + s < 365) (cut : kb < n → 365 ≤ X kb + s) (x : Int) (x0 : 0 ≤ x) (x1 : x ≤ 364) :
    rl (tuX X s n kb) (tuY Y n kb) n ((x + s) % 365) = rl X Y n x :=
  rl_turned hr (hr.turned s kb hk s0 s1 sp cut) s kb hk s0 s1
    (fun i hi => by unfold tuX tuY; rw [if_pos hi, if_pos hi]; exact ⟨rfl, rfl⟩)
    (fun i hi => by unfold tuX tuY; rw [if_neg (by omega), if_neg (by omega), show n - kb + i - (n - kb) = i by omega]; exact ⟨rfl, rfl⟩) x x0 x1
theorem tu_app {X Y : Nat → Int} {s : Int} {n kb : Nat} (hk : kb ≤ n) : ptL (fun i => X (kb + i) + s - 365) (fun i => Y (kb + i)) (n - kb) ++ ptL (fun i => X i + s) Y kb = ptL (tuX X s n kb) (tuY Y n kb) n := by
  rw [ptL_app, show n - kb + kb = n by omega]
  rfl

theorem kept_below {W W' : World} {base n : Nat} {v : Value} {X Y : Nat → Int} (h : GotP W base v n X Y) (hb : Below W.heap.size W W') : GotP W' base v n X Y :=
  World.ownsRow.kept h (grown_below hb (Nat.le_refl _) none) (by
    cases v.ownBlock with
    | none => exact .inl rfl
    | some j => exact .inr (by simp))
theorem Tn.below {X Y : Nat → Int} {s : Int} {k kb base : Nat} {va vb : Value} {W W' : World} (h : Tn X Y s k kb base va vb W) (hb : Below W.heap.size W W') : Tn X Y s k kb base va vb W' :=
  ⟨kept_below h.ga hb, kept_below h.gb hb, h.sp, h.cut, h.ap, h.nl⟩
/-- At of the turned curve at any later world. -/
theorem tu_later {w5 : World} {g n : Nat} {X Y : Nat → Int} {s : Int} {kb : Nat} (hp : Pts w5 g 0 n (tuX X s n kb) (tuY Y n kb)) (c : Nat) (hnc : n ≤ c) (hr : Rc X Y n) (hk : kb ≤ n) (s0 : 0 ≤ s) (s1 : s ≤ 364) (sp : ∀ i, i < kb → X i + s < 365) (cut : kb < n → 365 ≤ X kb + s) (x : Int) (x0 : 0 ≤ x) (x1 : x ≤ 364) :
    ∀ W, Hid (Below w5.heap.size w5 W) → Calls Try.prog 18 #[.slice (some ⟨g, 0, none⟩) n c, .int .i64 ((x + s) % 365)] W fun e w' => e = .returned (.tuple #[.int .i64 (rl X Y n x), .int .i64 0]) ∧ Hid (Below w5.heap.size w5 w') := by
  have h := at_later hp c hnc (hr.turned s kb hk s0 s1 sp cut) ((x + s) % 365) (by omega) (by omega)
  rw [rl_tu hr s kb hk s0 s1 sp cut x x0 x1] at h
  exact h

set_option maxRecDepth 100000 in
set_option maxHeartbeats 16000000 in
theorem ltu_walk (p : Option Addr) (n c : Nat) (z : Nat → Int) (x y : Int) (w : World) (hr : RdI w p n z) (hn : n ≤ 9223372036854775807) (hz : ∀ i, -9223372036854775808 ≤ z i ∧ z i ≤ 9223372036854775807)
    (hx : -9223372036854775808 ≤ x ∧ x ≤ 9223372036854775807) (hy : -9223372036854775808 ≤ y ∧ y ≤ 9223372036854775807) :
    Calls Try.prog 5 #[.slice p n c, .int .i64 x, .int .i64 y] w fun e w' => e = .returned (.bool true) ∧ Below w.heap.size w w' := by
  obtain ⟨i0, hi, hz0, hz1, hz2⟩ := info_parts Try.infoP
  have HN := Lib.hid (new_any p n c z w hn hz hr)
  have HM1 := Lib.hid (fun W => mod_any x 365 W hx (by omega) (by omega))
  have HM2 := Lib.hid (fun W => mod_any y 365 W hy (by omega) (by omega))
  have v1 := md_lo x 365 (by omega)
  have v2 := md_hi x 365 (by omega)
  have n1 := md_lo y 365 (by omega)
  have n2 := md_hi y 365 (by omega)
  clear hr hz hn hx hy
  generalize md x 365 = s at *
  generalize md y 365 = t at *
  go_enter Try.func5, Try.ntmps5
  go_upto_region 3 with (first
    | (go_at_call 9; refine HN.out.mono ?_; rintro e w1 ⟨rfl, hd1, hb1⟩; have HB1 := Lib.hid hb1; clear HN hb1)
    | (go_at_call 11; refine (made_any w.heap.size p n c z _ hd1).mono ?_; rintro e w3 ⟨g2, q2, c2, X, Y, rfl, hp3, hqc, hg2w, q1, q6, hd3, hg3⟩; have HP3 := Lib.hid hp3; have HW3 : Hid (Below w.heap.size w w3) := (HB1.out.grown hg3 HB1.out.size (by intro k hk; cases hk; exact Nat.le_refl _)); clear hp3 hg3 hd3 HB1 hd1))
  have hb3 : Hid (Below w3.heap.size w3 w3) := Below.refl _ _
  have HFin : Hid (∀ W, Hid (Below w3.heap.size w3 W) → Below w.heap.size w W) := fun W h => HW3.out.trans (h.out.mono HW3.out.size)
  have HCK := Lib.hid (rck_later HP3.out c2)
  by_cases hck : ckR X Y q2 = 0
  · have HR := Lib.hid ((rc_iff X Y q2).1 hck)
    rw [hck] at HCK
    clear hck HW3
    go_wp2_with (first
      | (go_at_call 13; refine (HCK.out _ (by assumption)).mono ?_; rintro e w6 ⟨rfl, hb6⟩)
      | (go_at_call_has 16 (Value.int .i64 x); refine (HM1.out _).mono ?_; rintro e w' ⟨rfl, rfl⟩))
    clear HCK HM1 hb3
    go_loopw [10, 11, 31] (fun va vb i wr => ∃ (k kb : Nat) (VA VB : Value), VA = va ∧ VB = vb ∧ k ≤ q2 ∧ kb ≤ k ∧ i = .int .i64 k ∧ Hid (Tn X Y s k kb w3.heap.size va vb wr) ∧ Hid (Below w3.heap.size w3 wr)) (fun _ _ i _ => q2 - (intOf i).toNat)
    case atStart => exact ⟨0, 0, _, _, rfl, rfl, Nat.zero_le _, Nat.le_refl _, rfl, ⟨gotP_nil _ _ _ _, gotP_nil _ _ _ _, fun i hi => absurd hi (Nat.not_lt_zero _), fun h => absurd h (Nat.lt_irrefl _), fun j hj => by simp [Value.ownBlock] at hj, fun _ => rfl⟩, hb6⟩
    case round =>
      obtain ⟨k, kb, va, vb, rfl, rfl, hk, hkb, rfl, htn, hb⟩ := hrel
      clear hb6
      by_cases hkn : k < q2
      · have HPr := Lib.hid (HP3.out.up hb.out (Nat.le_refl _))
        obtain ⟨c1, c2'⟩ := HPr.out.2 k hkn
        rw [Nat.zero_add] at c1 c2'
        have hbl := HPr.out.1
        have x0 := HR.out.xlo k hkn
        have x1 := HR.out.xhi k hkn
        have hws := hb.out.size
        have hki : (k : Int) ≤ 6 := by omega
        by_cases hbig : 365 ≤ X k + s
        · have HNX : Hid (∀ W W' va', Tn X Y s k kb w3.heap.size va vb W → W'.ownsRow w3.heap.size 45 2 va' (k - kb + 1) (ptL (fun i => X (kb + i) + s - 365) (fun i => Y (kb + i)) (k - kb) ++ [.int .i64 (X k + s - 365), .int .i64 (Y k)]) → W.grownBy W' va.ownBlock → (va'.ownBlock = va.ownBlock ∨ va'.ownBlock = some W.heap.size) → Tn X Y s (k + 1) kb w3.heap.size va' vb W') := fun W W' va' h h1 h2 h3 => h.ahead hkb hbig h1 h2 h3
          generalize hX : X k = xk at *
          generalize hY : Y k = yk at *
          clear hX hY
          have dd : decide (365 ≤ xk + s) = true := by rw [decide_eq_true_eq]; exact hbig
          clear HPr
          have HT2 := Lib.hid (fun o o' => (htn.out.alloc o).alloc o')
          have HB2 := Lib.hid (fun o o' => (hb.out.alloc hws o).alloc (show w3.heap.size ≤ (wr.alloc o).heap.size by simp; omega) o')
          go_wp2_with (at_builtin; refine wpList_append_own_at _ rfl _ _ 22 rfl w3.heap.size 45 i0 (.agg #[.int .i64 0, .int .i64 0]) 2 16 Try.underlying22 hi hz0 hz1 hz2 rfl (by decide) _ (k - kb) _ rfl (HT2.out _ _).ga ⟨wr.heap.size + 1, 0, none⟩ 1 1 [.int .i64 (xk + s - 365), .int .i64 yk] rfl rfl (by have := cell_two (wr.alloc (.cells #[.int .i64 (xk + s - 365), .int .i64 yk] 45)) (.int .i64 (xk + s - 365)) (.int .i64 yk) 45; simpa using this) (by intro u hu; simp at hu; rcases hu with rfl | rfl <;> rfl) (by unfold maxLen; omega) (by omega) (by simp; omega) ?_; intro va' w7 hown' hgrow hnil hat)
          have HT7 := Lib.hid (HNX.out _ _ _ (HT2.out _ _) hown' hgrow hat)
          have HB7 : Hid (Below w3.heap.size w3 w7) := below_own (HB2.out _ _) (Nat.le_refl _) hgrow (fun k hk => gotP_block htn.out.ga k hk)
          clear hown' hgrow hnil hat HNX HT2 HB2 htn hb
          go_wp2_with fail
          go_roundw
          case rel => exact ⟨k + 1, kb, _, _, rfl, rfl, by omega, by omega, by go_num, HT7, HB7⟩
          case measure => simp [intOf]; omega
        · have hkk : kb = k := by
            by_cases e : kb = k
            · exact e
            · exfalso
              have h1 := htn.out.cut (by omega)
              have h2 := HR.out.xle k kb hkb hkn
              omega
          subst hkk
          have HNX : Hid (∀ W W' vb', Tn X Y s kb kb w3.heap.size va vb W → W'.ownsRow w3.heap.size 45 2 vb' (kb + 1) (ptL (fun i => X i + s) Y kb ++ [.int .i64 (X kb + s), .int .i64 (Y kb)]) → W.grownBy W' vb.ownBlock → (vb'.ownBlock = vb.ownBlock ∨ vb'.ownBlock = some W.heap.size) → Tn X Y s (kb + 1) (kb + 1) w3.heap.size va vb' W') := fun W W' vb' h h1 h2 h3 => h.behind (by omega) h1 h2 h3
          generalize hX : X kb = xk at *
          generalize hY : Y kb = yk at *
          clear hX hY
          have dd : decide (365 ≤ xk + s) = false := by rw [decide_eq_false_iff_not]; exact hbig
          clear HPr
          have HT2 := Lib.hid (fun o o' => (htn.out.alloc o).alloc o')
          have HB2 := Lib.hid (fun o o' => (hb.out.alloc hws o).alloc (show w3.heap.size ≤ (wr.alloc o).heap.size by simp; omega) o')
          go_wp2_with (at_builtin; refine wpList_append_own_at _ rfl _ _ 22 rfl w3.heap.size 45 i0 (.agg #[.int .i64 0, .int .i64 0]) 2 16 Try.underlying22 hi hz0 hz1 hz2 rfl (by decide) _ kb _ rfl (HT2.out _ _).gb ⟨wr.heap.size + 1, 0, none⟩ 1 1 [.int .i64 (xk + s), .int .i64 yk] rfl rfl (by have := cell_two (wr.alloc (.cells #[.int .i64 (xk + s), .int .i64 yk] 45)) (.int .i64 (xk + s)) (.int .i64 yk) 45; simpa using this) (by intro u hu; simp at hu; rcases hu with rfl | rfl <;> rfl) (by unfold maxLen; omega) (by omega) (by simp; omega) ?_; intro vb' w7 hown' hgrow hnil hat)
          have HT7 := Lib.hid (HNX.out _ _ _ (HT2.out _ _) hown' hgrow hat)
          have HB7 : Hid (Below w3.heap.size w3 w7) := below_own (HB2.out _ _) (Nat.le_refl _) hgrow (fun k hk => gotP_block htn.out.gb k hk)
          clear hown' hgrow hnil hat HNX HT2 HB2 htn hb
          go_wp2_with fail
          go_roundw
          case rel => exact ⟨kb + 1, kb + 1, _, _, rfl, rfl, by omega, by omega, by go_num, HT7, HB7⟩
          case measure => simp [intOf]; omega
      · obtain rfl : q2 = k := by omega
        have hpos := HR.out.pos
        have hlen := HR.out.len
        have HPr := Lib.hid (HP3.out.up hb.out (Nat.le_refl _))
        have HA := Lib.hid (at_later HPr.out c2 hqc HR.out t n1 (by omega))
        obtain ⟨w9, rfl⟩ : ∃ w9, w9 = wr := ⟨_, rfl⟩
        have hb0 : Hid (Below w9.heap.size w9 w9) := Below.refl _ _
        have HF2 : Hid (∀ W, Hid (Below w9.heap.size w9 W) → Below w.heap.size w W) := fun W h => HFin.out W (hb.out.trans (h.out.mono hb.out.size))
        have HTU := Lib.hid (fun (W : World) (g cc : Nat) (hp : Pts W g 0 q2 (tuX X s q2 kb) (tuY Y q2 kb)) (hc : q2 ≤ cc) => tu_later hp cc hc HR.out hkb v1 (by omega) htn.out.sp htn.out.cut t n1 (by omega))
        have hbs := hb.out.size
        have HB3 := Lib.hid hb.out
        clear hb HP3 HPr
        generalize rl X Y q2 t = lv at *
        have b1 : (lv == lv) = true := by rw [beq_iff_eq]
        have ts0 : 0 ≤ t + s := by omega
        have HTN := Lib.hid (fun W hW => htn.out.below (W' := W) hW)
        by_cases hk0 : kb = 0
        · have hvb := htn.out.nl hk0
          subst hvb
          obtain ⟨g5, c5, rfl, _, _, hc5, _⟩ := gotP_pts htn.out.ga (by omega)
          have HPA : Hid (∀ W, Below w9.heap.size w9 W → Pts W g5 0 q2 (tuX X s q2 kb) (tuY Y q2 kb) ∧ W.ownsRow w3.heap.size 45 2 (.slice (some ⟨g5, 0, none⟩) (q2 - kb) c5) (q2 - kb) (ptL (fun i => X (kb + i) + s - 365) (fun i => Y (kb + i)) (q2 - kb))) := fun W hW => by
            have h1 := (HTN.out W hW).ga
            refine ⟨?_, h1⟩
            obtain ⟨g', c', e, _, h2, _, _⟩ := gotP_pts h1 (by omega)
            simp only [Value.slice.injEq, Option.some.injEq, Addr.mk.injEq] at e
            obtain ⟨⟨rfl, _⟩, _⟩ := e
            refine ⟨h2.1, fun i hi => ?_⟩
            have h3 := h2.2 i (by omega)
            unfold tuX tuY
            rw [if_pos (by omega), if_pos (by omega)]
            exact h3
          rw [show q2 - kb = q2 by omega] at HPA hc5 ⊢
          clear htn HTN
          go_wp2_with (first
            | (go_at_call 16; refine (HM2.out _).mono ?_; rintro e w' ⟨rfl, rfl⟩)
            | (go_at_call_has 18 (Value.slice (some ⟨g2, 0, none⟩) q2 c2); refine (HA.out _ hb0).mono ?_; rintro e w7 ⟨rfl, hb7⟩; clear HA; have HP7 := Lib.hid (HPA.out _ hb7.out))
            | (at_builtin; refine wpList_append_own_none rfl _ _ 22 rfl w3.heap.size 45 i0 2 Try.underlying22 hi _ q2 _ rfl HP7.out.2 rfl ?_)
            | (go_at_call_has 18 (Value.slice (some ⟨g5, 0, none⟩) q2 c5); refine (HTU.out _ g5 c5 HP7.out.1 hc5 _ (Below.refl _ _)).mono ?_; rintro e w8 ⟨rfl, hb8⟩)
            | (go_at_call 8; refine (awk5_later _ (hb7.out.trans (hb8.out.mono hb7.out.size))).mono ?_; rintro e w10 ⟨rfl, hb10⟩))
          go_ret
          exact ⟨rfl, HF2.out _ hb10⟩
        · obtain ⟨g5, c5, rfl, _, _, hc5, _⟩ := gotP_pts htn.out.gb (by omega)
          have HPA : Hid (∀ W, Below w9.heap.size w9 W → Pts W g5 0 kb (fun i => X i + s) Y ∧ W.ownsRow w3.heap.size 45 2 va (q2 - kb) (ptL (fun i => X (kb + i) + s - 365) (fun i => Y (kb + i)) (q2 - kb))) := fun W hW => by
            have h1 := HTN.out W hW
            refine ⟨?_, h1.ga⟩
            obtain ⟨g', c', e, _, h2, _, _⟩ := gotP_pts h1.gb (by omega)
            simp only [Value.slice.injEq, Option.some.injEq, Addr.mk.injEq] at e
            obtain ⟨⟨rfl, _⟩, _⟩ := e
            exact h2
          have HGO : Hid (∀ W v', W.ownsRow w3.heap.size 45 2 v' (q2 - kb + kb) (ptL (fun i => X (kb + i) + s - 365) (fun i => Y (kb + i)) (q2 - kb) ++ ptL (fun i => X i + s) Y kb) → GotP W w3.heap.size v' q2 (tuX X s q2 kb) (tuY Y q2 kb)) := fun W v' h => by
            rw [tu_app hkb, show q2 - kb + kb = q2 by omega] at h
            exact h
          have HBK := Lib.hid (fun k hk => gotP_block htn.out.ga k hk)
          clear htn HTN
          go_wp2_with (first
            | (go_at_call 16; refine (HM2.out _).mono ?_; rintro e w' ⟨rfl, rfl⟩)
            | (go_at_call_has 18 (Value.slice (some ⟨g2, 0, none⟩) q2 c2); refine (HA.out _ hb0).mono ?_; rintro e w7 ⟨rfl, hb7⟩; clear HA; have HP7 := Lib.hid (HPA.out _ hb7.out); have hz7 := hb7.out.size)
            | (at_builtin; refine wpList_append_own _ rfl _ _ 22 rfl w3.heap.size 45 i0 (.agg #[.int .i64 0, .int .i64 0]) 2 16 Try.underlying22 hi hz0 hz1 hz2 rfl (by decide) _ (q2 - kb) _ rfl HP7.out.2 ⟨g5, 0, none⟩ kb c5 (ptL (fun i => X i + s) Y kb) rfl (ptL_len _ _ _) (pts_newsO HP7.out.1) (ptL_oneR _ _ _) (by unfold maxLen; omega) (by omega) (by omega) ?_; intro v' w8 hown' hgrow hnil; have HG8 := Lib.hid (HGO.out _ _ hown'); have HB8 : Hid (Below w3.heap.size w3 w8) := below_own (HB3.out.trans (hb7.out.mono hbs)) (Nat.le_refl _) hgrow HBK.out; obtain ⟨g8, c8, rfl, _, hp8, hc8, _⟩ := gotP_pts HG8.out (by omega); have HP8 := Lib.hid hp8; clear hown' hgrow hnil HP7 HPA HGO hp8 HG8)
            | (go_at_call_has 18 (Value.slice (some ⟨g8, 0, none⟩) q2 c8); refine (HTU.out _ g8 c8 HP8.out hc8 _ (Below.refl _ _)).mono ?_; rintro e w10 ⟨rfl, hb10⟩; have HB10 : Hid (Below w3.heap.size w3 w10) := HB8.out.trans (hb10.out.mono HB8.out.size))
            | (go_at_call 8; refine (awk5_later _ HB10).mono ?_; rintro e w11 ⟨rfl, hb11⟩))
          go_ret
          exact ⟨rfl, HFin.out _ hb11⟩
  · have hcn : (ckR X Y q2 != 0) = true := by simpa using hck
    generalize ckR X Y q2 = cd at *
    clear hck
    go_wp2_with (first
      | (go_at_call 13; refine (HCK.out _ (by assumption)).mono ?_; rintro e w6 ⟨rfl, hb6⟩)
      | (go_at_call 8; refine (awk5_later _ (by assumption)).mono ?_; rintro e w6 ⟨rfl, hb5⟩))
    go_ret
    exact ⟨rfl, HFin.out _ hb5⟩
end Go.Proofs.Ytdblppbjlgmccaa.Ru

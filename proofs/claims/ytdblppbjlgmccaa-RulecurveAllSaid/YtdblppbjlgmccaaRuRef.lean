/-
  Contracts of At, Target, Surplus and Highest of the reference: the same answers.
-/
import Derived.Test.YtdblppbjlgmccaaRuRl
import Derived.Test.YtdblppbjlgmccaaStRqs
namespace Go.Proofs.Ytdblppbjlgmccaa.Ru
open Go.ChangeShapes Go.WideShapes Go.ChangeAt Go.RowKit
open Go.Proofs.Ytdblppbjlgmccaa.Cu
open Go.Proofs.Ytdblppbjlgmccaa.Ca (dayB)
set_option linter.unusedVariables false

set_option maxHeartbeats 1000000 in
theorem rat_ref (p : Option Addr) (n c : Nat) (X Y : Nat → Int) (d : Int) (w : World) (hp : RdP w p n X Y) :
    Calls Try.prog 19 #[.slice p n c, .int .i64 d] w (PairP (atV X Y n d) (atE X Y n d) w) := by
  have HC := Lib.hid (rrck_any p n c X Y w hp)
  have HD := Lib.hid (fun W => risd_any d W)
  unfold atV atE
  by_cases h : ckR X Y n = 0
  · have hr := (rc_iff X Y n).1 h
    rw [h] at HC ⊢
    cases hd : dayB d with
    | false =>
      rw [hd] at HD
      clear hr h hd hp
      show Calls _ _ _ _ (PairP 0 1 w)
      go_enter Try.func19, Try.ntmps19
      go_wp2_with (first | (go_at_call 13; refine HC.out.mono ?_; rintro e w1 ⟨rfl, hb1⟩) | (go_at_call 28; refine (HD.out _).mono ?_; rintro e w2 ⟨rfl, hb2⟩))
      go_ret2
      exact ⟨rfl, hb1.trans (hb2.mono hb1.size)⟩
    | true =>
      rw [hd] at HD
      have hdd := dayB_iff.1 hd
      obtain ⟨b, off, rfl, hpt⟩ := rd_pts hp hr
      have HL := Lib.hid (fun W (hb : Below w.heap.size w W) => rrl_any b off n c X Y d W hr (hpt.up hb (Nat.le_refl _)) hdd.1 hdd.2)
      show Calls _ _ _ _ (PairP (rl X Y n d) 0 w)
      clear hr h hd hp hpt
      generalize rl X Y n d = v at *
      go_enter Try.func19, Try.ntmps19
      go_wp2_with (first | (go_at_call 13; refine HC.out.mono ?_; rintro e w1 ⟨rfl, hb1⟩) | (go_at_call 28; refine (HD.out _).mono ?_; rintro e w2 ⟨rfl, hb2⟩) | (go_at_call 31; refine (HL.out _ (hb1.trans (hb2.mono hb1.size))).mono ?_; rintro e w3 ⟨rfl, hb3⟩))
      go_ret2
      exact ⟨rfl, (hb1.trans (hb2.mono hb1.size)).trans (hb3.mono (Nat.le_trans hb1.size hb2.size))⟩
  · have e1 : ansV (ckR X Y n) (dayB d) (rl X Y n d) = 0 := by unfold ansV; rw [if_pos h]
    have e2 : ansE (ckR X Y n) (dayB d) = ckR X Y n := by unfold ansE; rw [if_pos h]
    rw [e1, e2]
    generalize ckR X Y n = cd at *
    have hcd : (cd != 0) = true := by simpa using h
    clear e1 e2 h
    go_enter Try.func19, Try.ntmps19
    go_wp2_with (go_at_call 13; refine HC.out.mono ?_; rintro e w1 ⟨rfl, hb1⟩)
    go_ret2
    exact ⟨rfl, hb1⟩
set_option maxHeartbeats 1000000 in
theorem tar_ref (p : Option Addr) (n c : Nat) (X Y : Nat → Int) (pr : Option Addr) (nr cr : Nat) (Xr Yr : Nat → Int) (D L F S C : Int) (d : Int) (w : World) (hp : RdP w p n X Y) (hpr : RdP w pr nr Xr Yr) :
    Calls Try.prog 21 #[.agg #[.slice pr nr cr, .int .i64 D, .int .i64 L, .int .i64 F, .int .i64 S, .int .i64 C], .slice p n c, .int .i64 d] w
      (PairP (taV (stC Xr Yr nr D L F S C) (atE X Y n d) (voV Xr Yr nr (rl X Y n d))) (taE (stC Xr Yr nr D L F S C) (atE X Y n d)) w) := by
  have HAL := Lib.hid ((Below.refl w.heap.size w).alloc (Nat.le_refl _) (.cells #[.slice pr nr cr, .int .i64 D, .int .i64 L, .int .i64 F, .int .i64 S, .int .i64 C] 24))
  have HS : Hid (∀ W, BA w w.heap.size pr nr cr D L F S C W → Calls Try.prog 34 #[.agg #[.slice pr nr cr, .int .i64 D, .int .i64 L, .int .i64 F, .int .i64 S, .int .i64 C]] W fun e w' => e = .returned (.int .i64 (stC Xr Yr nr D L F S C)) ∧ BA w w.heap.size pr nr cr D L F S C w') :=
    fun W h => (rck3_any pr nr cr Xr Yr D L F S C W (hpr.below h.bel (Nat.le_refl _))).mono fun e w' ⟨he, hb⟩ => ⟨he, h.below hb⟩
  have HA : Hid (∀ W, BA w w.heap.size pr nr cr D L F S C W → Calls Try.prog 19 #[.slice p n c, .int .i64 d] W fun e w' => e = .returned (.tuple #[.int .i64 (atV X Y n d), .int .i64 (atE X Y n d)]) ∧ BA w w.heap.size pr nr cr D L F S C w') :=
    fun W h => (rat_ref p n c X Y d W (hp.below h.bel (Nat.le_refl _))).mono fun e w' ⟨he, hb⟩ => ⟨he, h.below hb⟩
  have HV : Hid (∀ W, BA w w.heap.size pr nr cr D L F S C W → stC Xr Yr nr D L F S C = 0 → atE X Y n d = 0 → Calls Try.prog 24 #[.agg #[.slice pr nr cr, .int .i64 D, .int .i64 L, .int .i64 F, .int .i64 S, .int .i64 C], .int .i64 (atV X Y n d)] W fun e w' => e = .returned (.tuple #[.int .i64 (voV Xr Yr nr (rl X Y n d)), .int .i64 0]) ∧ BA w w.heap.size pr nr cr D L F S C w') := by
    intro W h h1 h2
    obtain ⟨_, _, h3, h4, h5⟩ := at_range h2
    have h6 := rvol_any pr nr cr Xr Yr D L F S C (atV X Y n d) W (hpr.below h.bel (Nat.le_refl _))
    rw [h3] at h6 ⊢
    rw [h1, inB_yes ⟨h4, h5⟩] at h6
    exact h6.mono fun e w' ⟨he, hb⟩ => ⟨he, h.below hb⟩
  have HB0 := Lib.hid (ba_alloc w pr nr cr D L F S C 24)
  clear hp hpr
  generalize stC Xr Yr nr D L F S C = sc at *
  generalize voV Xr Yr nr (rl X Y n d) = vo at *
  generalize atV X Y n d = av at *
  generalize atE X Y n d = ae at *
  unfold taV taE
  by_cases h1 : sc = 0
  · subst h1
    by_cases h2 : ae = 0
    · subst h2
      have HV2 := Lib.hid (fun W h => HV.out W h rfl rfl)
      clear HV
      show Calls _ _ _ _ (PairP vo 0 w)
      go_enter Try.func21, Try.ntmps21
      go_wp2_with (first | (go_at_call 34; refine (HS.out _ HB0.out).mono ?_; rintro e w1 ⟨rfl, hq1⟩) | (go_at_call 19; refine (HA.out _ hq1).mono ?_; rintro e w2 ⟨rfl, hq2⟩; have HQ2 := Lib.hid hq2; obtain ⟨g0, g1, g2, g3, g4, g5, _⟩ := hq2) | (go_at_call 24; refine (HV2.out _ HQ2.out).mono ?_; rintro e w3 ⟨rfl, hq3⟩))
      go_ret2
      exact ⟨rfl, hq3.bel⟩
    · rw [if_pos h2]
      have hae : (ae != 0) = true := by simpa using h2
      clear h2
      show Calls _ _ _ _ (PairP 0 ae w)
      go_enter Try.func21, Try.ntmps21
      go_wp2_with (first | (go_at_call 34; refine (HS.out _ HB0.out).mono ?_; rintro e w1 ⟨rfl, hq1⟩) | (go_at_call 19; refine (HA.out _ hq1).mono ?_; rintro e w2 ⟨rfl, hq2⟩))
      go_ret2
      exact ⟨rfl, hq2.bel⟩
  · rw [if_pos h1, if_pos h1]
    have hsc : (sc != 0) = true := by simpa using h1
    clear h1
    go_enter Try.func21, Try.ntmps21
    go_wp2_with (go_at_call 34; refine (HS.out _ HB0.out).mono ?_; rintro e w1 ⟨rfl, hq1⟩)
    go_ret2
    exact ⟨rfl, hq1.bel⟩

set_option maxHeartbeats 1000000 in
theorem sur_ref (p : Option Addr) (n c : Nat) (X Y : Nat → Int) (pr : Option Addr) (nr cr : Nat) (Xr Yr : Nat → Int) (D L F S C : Int) (d v : Int) (w : World) (hp : RdP w p n X Y) (hpr : RdP w pr nr Xr Yr) :
    Calls Try.prog 23 #[.agg #[.slice pr nr cr, .int .i64 D, .int .i64 L, .int .i64 F, .int .i64 S, .int .i64 C], .slice p n c, .int .i64 d, .int .i64 v] w
      (PairP (suV (taE (stC Xr Yr nr D L F S C) (atE X Y n d)) (inB v 274877906944) v (taV (stC Xr Yr nr D L F S C) (atE X Y n d) (voV Xr Yr nr (rl X Y n d)))) (suE (taE (stC Xr Yr nr D L F S C) (atE X Y n d)) (inB v 274877906944)) w) := by
  have HT : Hid (∀ W, BA w w.heap.size pr nr cr D L F S C W → Calls Try.prog 21 #[.agg #[.slice pr nr cr, .int .i64 D, .int .i64 L, .int .i64 F, .int .i64 S, .int .i64 C], .slice p n c, .int .i64 d] W fun e w' => e = .returned (.tuple #[.int .i64 (taV (stC Xr Yr nr D L F S C) (atE X Y n d) (voV Xr Yr nr (rl X Y n d))), .int .i64 (taE (stC Xr Yr nr D L F S C) (atE X Y n d))]) ∧ Below w.heap.size w w') :=
    fun W h => (tar_ref p n c X Y pr nr cr Xr Yr D L F S C d W (hp.below h.bel (Nat.le_refl _)) (hpr.below h.bel (Nat.le_refl _))).mono fun e w' ⟨he, hb⟩ => ⟨he, h.bel.trans (hb.mono h.bel.size)⟩
  have HI := Lib.hid (fun W => rin2_any v 274877906944 W)
  have HB0 := Lib.hid (ba_alloc w pr nr cr D L F S C 24)
  obtain ⟨t1, t2⟩ := taV_bd (Xr := Xr) (Yr := Yr) (nr := nr) (D := D) (L := L) (F := F) (S := S) (C := C) (atE X Y n d) (rl X Y n d)
  clear hp hpr
  generalize taV (stC Xr Yr nr D L F S C) (atE X Y n d) (voV Xr Yr nr (rl X Y n d)) = ta at *
  generalize taE (stC Xr Yr nr D L F S C) (atE X Y n d) = te at *
  unfold suV suE
  by_cases h1 : te = 0
  · subst h1
    by_cases h2 : 0 ≤ v ∧ v ≤ 274877906944
    · rw [inB_yes h2]
      have HI2 : Hid (∀ W, Calls Try.prog 29 #[.int .i64 v, .int .i64 274877906944] W (Tb true W)) := fun W => by have := HI.out W; rw [show Ca.inB v 274877906944 = true from inB_yes h2] at this; exact this
      show Calls _ _ _ _ (PairP (v - ta) 0 w)
      obtain ⟨h3, h4⟩ := h2
      clear HI
      go_enter Try.func23, Try.ntmps23
      go_wp2_with (first | (go_at_call 21; refine (HT.out _ HB0.out).mono ?_; rintro e w1 ⟨rfl, hb1⟩) | (go_at_call 29; refine (HI2.out _).mono ?_; rintro e w2 ⟨rfl, hb2⟩))
      go_ret2
      exact ⟨rfl, hb1.trans (hb2.mono hb1.size)⟩
    · rw [inB_no h2]
      have HI2 : Hid (∀ W, Calls Try.prog 29 #[.int .i64 v, .int .i64 274877906944] W (Tb false W)) := fun W => by have := HI.out W; rw [show Ca.inB v 274877906944 = false from inB_no h2] at this; exact this
      show Calls _ _ _ _ (PairP 0 1 w)
      clear HI h2
      go_enter Try.func23, Try.ntmps23
      go_wp2_with (first | (go_at_call 21; refine (HT.out _ HB0.out).mono ?_; rintro e w1 ⟨rfl, hb1⟩) | (go_at_call 29; refine (HI2.out _).mono ?_; rintro e w2 ⟨rfl, hb2⟩))
      go_ret2
      exact ⟨rfl, hb1.trans (hb2.mono hb1.size)⟩
  · have e1 : ansV te (inB v 274877906944) (v - ta) = 0 := by unfold ansV; rw [if_pos h1]
    have e2 : ansE te (inB v 274877906944) = te := by unfold ansE; rw [if_pos h1]
    rw [e1, e2]
    have hte : (te != 0) = true := by simpa using h1
    clear h1 e1 e2 HI
    go_enter Try.func23, Try.ntmps23
    go_wp2_with (go_at_call 21; refine (HT.out _ HB0.out).mono ?_; rintro e w1 ⟨rfl, hb1⟩)
    go_ret2
    exact ⟨rfl, hb1⟩


/-- What is known of the first k days: b is the first of those with the highest level, or day 0. -/
structure Bst (X Y : Nat → Int) (n k : Nat) (b : Int) : Prop where
  lo : 0 ≤ b
  hi : b ≤ 364
  le : ∀ d, 0 ≤ d → d < (k : Int) → rl X Y n d ≤ rl X Y n b
  lt : ∀ d, 0 ≤ d → d < b → rl X Y n d < rl X Y n b
  bk : b ≤ (k : Int)
theorem bst_zero (X Y : Nat → Int) (n : Nat) : Bst X Y n 0 0 := ⟨Int.le_refl _, by omega, fun d h0 h1 => by omega, fun d h0 h1 => by omega, by omega⟩
theorem Bst.keep {X Y : Nat → Int} {n k : Nat} {b : Int} (h : Bst X Y n k b) (hk : ¬ rl X Y n b < rl X Y n k) : Bst X Y n (k + 1) b where
  lo := h.lo
  hi := h.hi
  le := fun d h0 h1 => by
    by_cases e : d = (k : Int)
    · subst e; omega
    · exact h.le d h0 (by omega)
  lt := h.lt
  bk := by have := h.bk; omega
theorem Bst.next {X Y : Nat → Int} {n k : Nat} {b : Int} (h : Bst X Y n k b) (hk : rl X Y n b < rl X Y n k) (hk2 : k < 365) : Bst X Y n (k + 1) (k : Int) where
  lo := by omega
  hi := by omega
  le := fun d h0 h1 => by
    by_cases e : d = (k : Int)
    · subst e; exact Int.le_refl _
    · have := h.le d h0 (by omega); omega
  lt := fun d h0 h1 => by have := h.le d h0 h1; omega
  bk := by omega
theorem Bst.top {X Y : Nat → Int} {n : Nat} {b : Int} (h : Bst X Y n 365 b) : Top X Y n b (rl X Y n b) :=
  ⟨h.lo, h.hi, rfl, fun d h0 h1 => h.le d h0 (by omega), h.lt⟩

set_option maxRecDepth 100000 in
set_option maxHeartbeats 2000000 in
theorem high_ref (p : Option Addr) (n c : Nat) (X Y : Nat → Int) (w : World) (hp : RdP w p n X Y) :
    Calls Try.prog 15 #[.slice p n c] w (HiP X Y n w) := by
  have HC := Lib.hid (rrck_any p n c X Y w hp)
  by_cases h : ckR X Y n = 0
  · have hr := (rc_iff X Y n).1 h
    obtain ⟨b, off, rfl, hpt⟩ := rd_pts hp hr
    have HL : Hid (∀ x W, Hid (Below w.heap.size w W) → 0 ≤ x → x ≤ 364 → Calls Try.prog 31 #[.slice (some ⟨b, off, none⟩) n c, .int .i64 x] W fun e w' => e = .returned (.int .i64 (rl X Y n x)) ∧ Hid (Below w.heap.size w w')) :=
      fun x W hb x0 x1 => (rrl_any b off n c X Y x W hr (hpt.up hb.out (Nat.le_refl _)) x0 x1).mono fun e w' ⟨he, h⟩ => ⟨he, hb.out.trans (h.mono hb.out.size)⟩
    have HK := Lib.hid h
    rw [h] at HC
    clear hr hp hpt h
    go_enter Try.func15, Try.ntmps15
    go_wp2_with (go_at_call 13; refine HC.out.mono ?_; rintro e w1 ⟨rfl, hb1⟩)
    have HB := Lib.hid hb1
    clear hb1 HC
    go_loopw [6, 13] (fun f i wr => ∃ (k : Nat) (vb : Int), k ≤ 365 ∧ f = .int .i64 vb ∧ i = .int .i64 k ∧ Hid (Bst X Y n k vb) ∧ Hid (Below w.heap.size w wr)) (fun _ i _ => 365 - (intOf i).toNat)
    case atStart => exact ⟨0, 0, by omega, rfl, rfl, bst_zero X Y n, HB⟩
    case round =>
      obtain ⟨k, vb, hk, rfl, rfl, hs, hb⟩ := hrel
      have v1 := hs.out.lo
      have v2 := hs.out.hi
      have HLb := Lib.hid (fun W hW => HL.out vb W hW v1 v2)
      by_cases hkn : k < 365
      · have hki : (k : Int) < 365 := by omega
        have HLk := Lib.hid (fun W hW => HL.out (k : Int) W hW (by omega) (by omega))
        by_cases hl : rl X Y n vb < rl X Y n (k : Int)
        · have HS := Lib.hid (hs.out.next hl hkn)
          clear hs HB
          generalize rl X Y n vb = lb at *
          generalize rl X Y n (k : Int) = lk at *
          go_wp2_with (first | (go_at_call_has 31 (Value.int .i64 (k : Int)); refine (HLk.out _ hb).mono ?_; rintro e w2 ⟨rfl, hb2⟩; clear HLk) | (go_at_call_has 31 (Value.int .i64 vb); refine (HLb.out _ hb2).mono ?_; rintro e w3 ⟨rfl, hb3⟩))
          go_roundw
          case rel => exact ⟨k + 1, (k : Int), by omega, rfl, by go_num, HS, hb3⟩
          case measure => simp [intOf]; omega
        · have HS := Lib.hid (hs.out.keep hl)
          clear hs HB
          generalize rl X Y n vb = lb at *
          generalize rl X Y n (k : Int) = lk at *
          go_wp2_with (first | (go_at_call_has 31 (Value.int .i64 (k : Int)); refine (HLk.out _ hb).mono ?_; rintro e w2 ⟨rfl, hb2⟩; clear HLk) | (go_at_call_has 31 (Value.int .i64 vb); refine (HLb.out _ hb2).mono ?_; rintro e w3 ⟨rfl, hb3⟩))
          go_roundw
          case rel => exact ⟨k + 1, vb, by omega, rfl, by go_num, HS, hb3⟩
          case measure => simp [intOf]; omega
      · obtain rfl : k = 365 := by omega
        have HTop := Lib.hid hs.out.top
        clear hs HB
        generalize rl X Y n vb = lb at *
        go_wp2_with (go_at_call 31; refine (HLb.out _ hb).mono ?_; rintro e w2 ⟨rfl, hb2⟩)
        go_ret3
        exact ⟨vb, lb, by rw [HK.out]; rfl, .inl ⟨HK.out, HTop.out⟩, hb2.out⟩
  · have HN := Lib.hid h
    unfold HiP
    generalize ckR X Y n = cd at *
    have hcd : (cd != 0) = true := by simpa using h
    clear h
    go_enter Try.func15, Try.ntmps15
    go_wp2_with (go_at_call 13; refine HC.out.mono ?_; rintro e w1 ⟨rfl, hb1⟩)
    go_ret3
    exact ⟨0, 0, rfl, .inr ⟨HN.out, rfl, rfl⟩, hb1⟩
end Go.Proofs.Ytdblppbjlgmccaa.Ru

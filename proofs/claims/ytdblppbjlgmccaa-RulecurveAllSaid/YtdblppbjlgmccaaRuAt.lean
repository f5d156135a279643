/-
  Contracts of At, Target, Surplus and Highest of package rulecurve.
-/
import Derived.Test.YtdblppbjlgmccaaRuLev
import Derived.Test.YtdblppbjlgmccaaStVol
namespace Go.Proofs.Ytdblppbjlgmccaa.Ru
open Go.ChangeShapes Go.WideShapes Go.ChangeAt Go.RowKit
open Go.Proofs.Ytdblppbjlgmccaa.Cu
open Go.Proofs.Ytdblppbjlgmccaa.Ca (dayB)
set_option linter.unusedVariables false

/-- P5.2: the level of any day and its error. -/
def atV (X Y : Nat → Int) (n : Nat) (d : Int) : Int := ansV (ckR X Y n) (dayB d) (rl X Y n d)
def atE (X Y : Nat → Int) (n : Nat) (d : Int) : Int := ansE (ckR X Y n) (dayB d)
theorem rd_pts {w : World} {p : Option Addr} {n : Nat} {X Y : Nat → Int} (hp : RdP w p n X Y) (hr : Rc X Y n) : ∃ b off, p = some ⟨b, off, none⟩ ∧ Pts w b off n X Y := hp hr.pos

set_option maxHeartbeats 1000000 in
theorem rat_pkg (p : Option Addr) (n c : Nat) (X Y : Nat → Int) (d : Int) (w : World) (hp : RdP w p n X Y) (hnc : n ≤ c) :
    Calls Try.prog 18 #[.slice p n c, .int .i64 d] w (PairP (atV X Y n d) (atE X Y n d) w) := by
  have HC := Lib.hid (rck_any p n c X Y w hp)
  have HD := Lib.hid (fun W => isd_any d W)
  unfold atV atE
  by_cases h : ckR X Y n = 0
  · have hr := (rc_iff X Y n).1 h
    rw [h] at HC ⊢
    cases hd : dayB d with
    | false =>
      rw [hd] at HD
      clear hr h hd hp
      show Calls _ _ _ _ (PairP 0 1 w)
      go_enter Try.func18, Try.ntmps18
      go_wp2_with (first | (go_at_call 12; refine HC.out.mono ?_; rintro e w1 ⟨rfl, hb1⟩) | (go_at_call 26; refine (HD.out _).mono ?_; rintro e w2 ⟨rfl, hb2⟩))
      go_ret2
      exact ⟨rfl, hb1.trans (hb2.mono hb1.size)⟩
    | true =>
      rw [hd] at HD
      have hdd := dayB_iff.1 hd
      obtain ⟨b, off, rfl, hpt⟩ := rd_pts hp hr
      have HL := Lib.hid (fun W (hb : Below w.heap.size w W) => lvo_any b off n c X Y d W hr (hpt.up hb (Nat.le_refl _)) hnc hdd.1 hdd.2)
      show Calls _ _ _ _ (PairP (rl X Y n d) 0 w)
      clear hr h hd hp hpt
      generalize rl X Y n d = v at *
      go_enter Try.func18, Try.ntmps18
      go_wp2_with (first | (go_at_call 12; refine HC.out.mono ?_; rintro e w1 ⟨rfl, hb1⟩) | (go_at_call 26; refine (HD.out _).mono ?_; rintro e w2 ⟨rfl, hb2⟩) | (go_at_call 30; refine (HL.out _ (hb1.trans (hb2.mono hb1.size))).mono ?_; rintro e w3 ⟨rfl, hb3⟩))
      go_ret2
      exact ⟨rfl, (hb1.trans (hb2.mono hb1.size)).trans (hb3.mono (Nat.le_trans hb1.size hb2.size))⟩
  · have e1 : ansV (ckR X Y n) (dayB d) (rl X Y n d) = 0 := by unfold ansV; rw [if_pos h]
    have e2 : ansE (ckR X Y n) (dayB d) = ckR X Y n := by unfold ansE; rw [if_pos h]
    rw [e1, e2]
    generalize ckR X Y n = cd at *
    have hcd : (cd != 0) = true := by simpa using h
    clear e1 e2 h
    go_enter Try.func18, Try.ntmps18
    go_wp2_with (go_at_call 12; refine HC.out.mono ?_; rintro e w1 ⟨rfl, hb1⟩)
    go_ret2
    exact ⟨rfl, hb1⟩
theorem at_range {X Y : Nat → Int} {n : Nat} {d : Int} (h : atE X Y n d = 0) : Rc X Y n ∧ (0 ≤ d ∧ d ≤ 364) ∧ atV X Y n d = rl X Y n d ∧ 0 ≤ rl X Y n d ∧ rl X Y n d ≤ 16777216 := by
  unfold atE at h
  obtain ⟨h1, h2, h3⟩ := ans_good h
  have hr := (rc_iff X Y n).1 h1
  have hd := dayB_iff.1 h2
  exact ⟨hr, hd, by unfold atV; exact h3 _, rl_ge hr 0 hr.ylo d hd.1 hd.2, rl_le hr 16777216 hr.yhi d hd.1 hd.2⟩
theorem at_bad {X Y : Nat → Int} {n : Nat} {d : Int} (h : atE X Y n d ≠ 0) : atV X Y n d = 0 := ans_bad h _

/-- P5.3: the volume of the level of a day and its error; sc: the error of the reservoir. -/
def taE (sc e : Int) : Int := if sc ≠ 0 then sc else e
def taV (sc e v : Int) : Int := if sc ≠ 0 then 0 else if e ≠ 0 then 0 else v
/-- The volume of a level, by a reservoir with nr points. -/
def voV (Xr Yr : Nat → Int) (nr : Nat) (l : Int) : Int := val Xr Yr (nr - 1) l
theorem voV_bd {Xr Yr : Nat → Int} {nr : Nat} {D L F S C : Int} (h : stC Xr Yr nr D L F S C = 0) (l : Int) : 0 ≤ voV Xr Yr nr l ∧ voV Xr Yr nr l ≤ 274877906944 := by
  rcases stC_cases Xr Yr nr D L F S C with ⟨m, rfl, hr, _⟩ | h2
  · unfold voV
    rw [show m + 1 - 1 = m by omega]
    have h1 := val_bd Xr Yr m hr.cur.asc l
    have h2 := hr.cur.ylo 0 (by omega)
    have h3 := hr.cur.yhi m (by omega)
    omega
  · exact absurd h h2
theorem taV_bd {Xr Yr : Nat → Int} {nr : Nat} {D L F S C : Int} (e l : Int) : 0 ≤ taV (stC Xr Yr nr D L F S C) e (voV Xr Yr nr l) ∧ taV (stC Xr Yr nr D L F S C) e (voV Xr Yr nr l) ≤ 274877906944 := by
  unfold taV
  by_cases h : stC Xr Yr nr D L F S C = 0
  · rw [if_neg (by simp [h])]
    have := voV_bd h l
    split <;> omega
  · rw [if_pos h]; omega

set_option maxHeartbeats 1000000 in
theorem tar_pkg (p : Option Addr) (n c : Nat) (X Y : Nat → Int) (pr : Option Addr) (nr cr : Nat) (Xr Yr : Nat → Int) (D L F S C : Int) (d : Int) (w : World) (hp : RdP w p n X Y) (hnc : n ≤ c) (hpr : RdP w pr nr Xr Yr) :
    Calls Try.prog 20 #[.agg #[.slice pr nr cr, .int .i64 D, .int .i64 L, .int .i64 F, .int .i64 S, .int .i64 C], .slice p n c, .int .i64 d] w
      (PairP (taV (stC Xr Yr nr D L F S C) (atE X Y n d) (voV Xr Yr nr (rl X Y n d))) (taE (stC Xr Yr nr D L F S C) (atE X Y n d)) w) := by
  have HAL := Lib.hid ((Below.refl w.heap.size w).alloc (Nat.le_refl _) (.cells #[.slice pr nr cr, .int .i64 D, .int .i64 L, .int .i64 F, .int .i64 S, .int .i64 C] 24))
  have HS : Hid (∀ W, BA w w.heap.size pr nr cr D L F S C W → Calls Try.prog 32 #[.agg #[.slice pr nr cr, .int .i64 D, .int .i64 L, .int .i64 F, .int .i64 S, .int .i64 C]] W fun e w' => e = .returned (.int .i64 (stC Xr Yr nr D L F S C)) ∧ BA w w.heap.size pr nr cr D L F S C w') :=
    fun W h => (stchk_any pr nr cr Xr Yr D L F S C W (hpr.below h.bel (Nat.le_refl _))).mono fun e w' ⟨he, hb⟩ => ⟨he, h.below hb⟩
  have HA : Hid (∀ W, BA w w.heap.size pr nr cr D L F S C W → Calls Try.prog 18 #[.slice p n c, .int .i64 d] W fun e w' => e = .returned (.tuple #[.int .i64 (atV X Y n d), .int .i64 (atE X Y n d)]) ∧ BA w w.heap.size pr nr cr D L F S C w') :=
    fun W h => (rat_pkg p n c X Y d W (hp.below h.bel (Nat.le_refl _)) hnc).mono fun e w' ⟨he, hb⟩ => ⟨he, h.below hb⟩
  have HV : Hid (∀ W, BA w w.heap.size pr nr cr D L F S C W → stC Xr Yr nr D L F S C = 0 → atE X Y n d = 0 → Calls Try.prog 33 #[.agg #[.slice pr nr cr, .int .i64 D, .int .i64 L, .int .i64 F, .int .i64 S, .int .i64 C], .int .i64 (atV X Y n d)] W fun e w' => e = .returned (.tuple #[.int .i64 (voV Xr Yr nr (rl X Y n d)), .int .i64 0]) ∧ BA w w.heap.size pr nr cr D L F S C w') := by
    intro W h h1 h2
    obtain ⟨_, _, h3, h4, h5⟩ := at_range h2
    have h6 := vol_any pr nr cr Xr Yr D L F S C (atV X Y n d) W (hpr.below h.bel (Nat.le_refl _))
    rw [h3] at h6 ⊢
    rw [h1, inB_yes ⟨h4, h5⟩] at h6
    exact h6.mono fun e w' ⟨he, hb⟩ => ⟨he, h.below hb⟩
  have HB0 := Lib.hid (ba_alloc w pr nr cr D L F S C 24)
  clear hp hpr hnc
  generalize stC Xr Yr nr D L F S C = sc at *
  generalize voV Xr Yr nr (rl X Y n d) = vo at *
  generalize atV X Y n d = av at *
  generalize atE X Y n d = ae at *
  unfold taV taE
  by_cases h1 : sc = 0
  · subst h1
    by_cases h2 : ae = 0
    · subst h2
      have HV2 := Lib.hid (fun W h => HV.out W h rfl rfl)
      clear HV
      show Calls _ _ _ _ (PairP vo 0 w)
      go_enter Try.func20, Try.ntmps20
      go_wp2_with (first | (go_at_call 32; refine (HS.out _ HB0.out).mono ?_; rintro e w1 ⟨rfl, hq1⟩) | (go_at_call 18; refine (HA.out _ hq1).mono ?_; rintro e w2 ⟨rfl, hq2⟩; have HQ2 := Lib.hid hq2; obtain ⟨g0, g1, g2, g3, g4, g5, _⟩ := hq2) | (go_at_call 33; refine (HV2.out _ HQ2.out).mono ?_; rintro e w3 ⟨rfl, hq3⟩))
      go_ret2
      exact ⟨rfl, hq3.bel⟩
    · rw [if_pos h2]
      have hae : (ae != 0) = true := by simpa using h2
      clear h2
      show Calls _ _ _ _ (PairP 0 ae w)
      go_enter Try.func20, Try.ntmps20
      go_wp2_with (first | (go_at_call 32; refine (HS.out _ HB0.out).mono ?_; rintro e w1 ⟨rfl, hq1⟩) | (go_at_call 18; refine (HA.out _ hq1).mono ?_; rintro e w2 ⟨rfl, hq2⟩))
      go_ret2
      exact ⟨rfl, hq2.bel⟩
  · rw [if_pos h1, if_pos h1]
    have hsc : (sc != 0) = true := by simpa using h1
    clear h1
    go_enter Try.func20, Try.ntmps20
    go_wp2_with (go_at_call 32; refine (HS.out _ HB0.out).mono ?_; rintro e w1 ⟨rfl, hq1⟩)
    go_ret2
    exact ⟨rfl, hq1.bel⟩

/-- P5.3: what is above a volume, and its error. -/
def suE (te : Int) (vb : Bool) : Int := ansE te vb
def suV (te : Int) (vb : Bool) (v t : Int) : Int := ansV te vb (v - t)
set_option maxHeartbeats 1000000 in
theorem sur_pkg (p : Option Addr) (n c : Nat) (X Y : Nat → Int) (pr : Option Addr) (nr cr : Nat) (Xr Yr : Nat → Int) (D L F S C : Int) (d v : Int) (w : World) (hp : RdP w p n X Y) (hnc : n ≤ c) (hpr : RdP w pr nr Xr Yr) :
    Calls Try.prog 22 #[.agg #[.slice pr nr cr, .int .i64 D, .int .i64 L, .int .i64 F, .int .i64 S, .int .i64 C], .slice p n c, .int .i64 d, .int .i64 v] w
      (PairP (suV (taE (stC Xr Yr nr D L F S C) (atE X Y n d)) (inB v 274877906944) v (taV (stC Xr Yr nr D L F S C) (atE X Y n d) (voV Xr Yr nr (rl X Y n d)))) (suE (taE (stC Xr Yr nr D L F S C) (atE X Y n d)) (inB v 274877906944)) w) := by
  have HT : Hid (∀ W, BA w w.heap.size pr nr cr D L F S C W → Calls Try.prog 20 #[.agg #[.slice pr nr cr, .int .i64 D, .int .i64 L, .int .i64 F, .int .i64 S, .int .i64 C], .slice p n c, .int .i64 d] W fun e w' => e = .returned (.tuple #[.int .i64 (taV (stC Xr Yr nr D L F S C) (atE X Y n d) (voV Xr Yr nr (rl X Y n d))), .int .i64 (taE (stC Xr Yr nr D L F S C) (atE X Y n d))]) ∧ Below w.heap.size w w') :=
    fun W h => (tar_pkg p n c X Y pr nr cr Xr Yr D L F S C d W (hp.below h.bel (Nat.le_refl _)) hnc (hpr.below h.bel (Nat.le_refl _))).mono fun e w' ⟨he, hb⟩ => ⟨he, h.bel.trans (hb.mono h.bel.size)⟩
  have HI := Lib.hid (fun W => isvo_any v W)
  have HB0 := Lib.hid (ba_alloc w pr nr cr D L F S C 24)
  obtain ⟨t1, t2⟩ := taV_bd (Xr := Xr) (Yr := Yr) (nr := nr) (D := D) (L := L) (F := F) (S := S) (C := C) (atE X Y n d) (rl X Y n d)
  clear hp hpr hnc
  generalize taV (stC Xr Yr nr D L F S C) (atE X Y n d) (voV Xr Yr nr (rl X Y n d)) = ta at *
  generalize taE (stC Xr Yr nr D L F S C) (atE X Y n d) = te at *
  unfold suV suE
  by_cases h1 : te = 0
  · subst h1
    by_cases h2 : 0 ≤ v ∧ v ≤ 274877906944
    · rw [inB_yes h2]
      have HI2 : Hid (∀ W, Calls Try.prog 35 #[.int .i64 v] W (Tb true W)) := fun W => by have := HI.out W; rw [show Ca.inB v 274877906944 = true from inB_yes h2] at this; exact this
      show Calls _ _ _ _ (PairP (v - ta) 0 w)
      obtain ⟨h3, h4⟩ := h2
      clear HI
      go_enter Try.func22, Try.ntmps22
      go_wp2_with (first | (go_at_call 20; refine (HT.out _ HB0.out).mono ?_; rintro e w1 ⟨rfl, hb1⟩) | (go_at_call 35; refine (HI2.out _).mono ?_; rintro e w2 ⟨rfl, hb2⟩))
      go_ret2
      exact ⟨rfl, hb1.trans (hb2.mono hb1.size)⟩
    · rw [inB_no h2]
      have HI2 : Hid (∀ W, Calls Try.prog 35 #[.int .i64 v] W (Tb false W)) := fun W => by have := HI.out W; rw [show Ca.inB v 274877906944 = false from inB_no h2] at this; exact this
      show Calls _ _ _ _ (PairP 0 1 w)
      clear HI h2
      go_enter Try.func22, Try.ntmps22
      go_wp2_with (first | (go_at_call 20; refine (HT.out _ HB0.out).mono ?_; rintro e w1 ⟨rfl, hb1⟩) | (go_at_call 35; refine (HI2.out _).mono ?_; rintro e w2 ⟨rfl, hb2⟩))
      go_ret2
      exact ⟨rfl, hb1.trans (hb2.mono hb1.size)⟩
  · have e1 : ansV te (inB v 274877906944) (v - ta) = 0 := by unfold ansV; rw [if_pos h1]
    have e2 : ansE te (inB v 274877906944) = te := by unfold ansE; rw [if_pos h1]
    rw [e1, e2]
    have hte : (te != 0) = true := by simpa using h1
    clear h1 e1 e2 HI
    go_enter Try.func22, Try.ntmps22
    go_wp2_with (go_at_call 20; refine (HT.out _ HB0.out).mono ?_; rintro e w1 ⟨rfl, hb1⟩)
    go_ret2
    exact ⟨rfl, hb1⟩

/-- What Highest returns of a list with the error er. -/
def HiP (X Y : Nat → Int) (n : Nat) (w : World) (e : Ending) (w' : World) : Prop :=
  ∃ f h : Int, e = .returned (.tuple #[.int .i64 f, .int .i64 h, .int .i64 (ckR X Y n)]) ∧ ((ckR X Y n = 0 ∧ Top X Y n f h) ∨ (ckR X Y n ≠ 0 ∧ f = 0 ∧ h = 0)) ∧ Below w.heap.size w w'
theorem hip_one {X Y : Nat → Int} {n : Nat} {f h f' h' : Int} (a : (ckR X Y n = 0 ∧ Top X Y n f h) ∨ (ckR X Y n ≠ 0 ∧ f = 0 ∧ h = 0)) (b : (ckR X Y n = 0 ∧ Top X Y n f' h') ∨ (ckR X Y n ≠ 0 ∧ f' = 0 ∧ h' = 0)) : f = f' ∧ h = h' := by
  rcases a with ⟨a1, a2⟩ | ⟨a1, rfl, rfl⟩
  · rcases b with ⟨_, b2⟩ | ⟨b1, _⟩
    · exact a2.one b2
    · exact absurd a1 b1
  · rcases b with ⟨b1, _⟩ | ⟨_, rfl, rfl⟩
    · exact absurd b1 a1
    · exact ⟨rfl, rfl⟩

set_option maxHeartbeats 2000000 in
theorem high_pkg (p : Option Addr) (n c : Nat) (X Y : Nat → Int) (w : World) (hp : RdP w p n X Y) (hnc : n ≤ c) :
    Calls Try.prog 14 #[.slice p n c] w (HiP X Y n w) := by
  have HC := Lib.hid (rck_any p n c X Y w hp)
  by_cases h : ckR X Y n = 0
  · have hr := (rc_iff X Y n).1 h
    obtain ⟨b, off, rfl, hpt⟩ := rd_pts hp hr
    have HL := Lib.hid (fun W (hb : Below w.heap.size w W) => lvo_any b off n c X Y 0 W hr (hpt.up hb (Nat.le_refl _)) hnc (Int.le_refl _) (by omega))
    have HP := Lib.hid hpt
    have HR := Lib.hid hr
    have hn2 := hr.len
    have HK := Lib.hid h
    rw [h] at HC
    clear hr hp hpt h
    go_enter Try.func14, Try.ntmps14
    go_wp2_with (first | (go_at_call 12; refine HC.out.mono ?_; rintro e w1 ⟨rfl, hb1⟩) | (go_at_call 30; refine (HL.out _ hb1).mono ?_; rintro e w2 ⟨rfl, hb2⟩))
    have HB := Lib.hid (hb1.trans (hb2.mono hb1.size))
    clear hb1 hb2 HL HC
    go_loopw [6, 7, 19] (fun f h i wr => ∃ (k : Nat) (vf vh : Int), k ≤ n ∧ f = .int .i64 vf ∧ h = .int .i64 vh ∧ i = .int .i64 k ∧ Hid (Sofar X Y n k vf vh) ∧ Hid (Below w.heap.size w wr)) (fun _ _ i _ => n - (intOf i).toNat)
    case atStart => exact ⟨0, 0, rl X Y n 0, Nat.zero_le _, rfl, rfl, rfl, sofar_zero X Y n, HB⟩
    case round =>
      obtain ⟨k, vf, vh, hk, rfl, rfl, rfl, hs, hb⟩ := hrel
      by_cases hkn : k < n
      · obtain ⟨c1, c2⟩ := (HP.out.up hb.out (Nat.le_refl _)).2 k hkn
        have hws := hb.out.size
        by_cases hl : vh < Y k
        · have HS := Lib.hid (hs.out.next hl)
          have HB2 : Hid (∀ o q, Below w.heap.size w ((wr.alloc o).drewN q)) := fun o q => below_drewN (hb.out.alloc hws o) q
          clear hs hb HB
          generalize hx : X k = xk at *
          generalize hy : Y k = yk at *
          clear hx hy
          go_wp2
          go_quiet (fail)
          go_wp2
          go_roundw
          case rel => exact ⟨k + 1, xk, yk, by omega, rfl, rfl, by go_num, HS, HB2.out _ _⟩
          case measure => simp [intOf]; omega
        · have HS := Lib.hid (hs.out.keep (by omega))
          have HB2 : Hid (∀ o, Below w.heap.size w (wr.alloc o)) := fun o => hb.out.alloc hws o
          clear hs hb HB
          generalize hx : X k = xk at *
          generalize hy : Y k = yk at *
          clear hx hy
          go_wp2
          go_roundw
          case rel => exact ⟨k + 1, vf, vh, by omega, rfl, rfl, by go_num, HS, HB2.out _⟩
          case measure => simp [intOf]; omega
      · obtain rfl : n = k := by omega
        go_wp2
        go_ret3
        exact ⟨vf, vh, by rw [HK.out]; rfl, .inl ⟨HK.out, hs.out.top HR.out⟩, hb.out⟩
  · have HN := Lib.hid h
    unfold HiP
    generalize ckR X Y n = cd at *
    have hcd : (cd != 0) = true := by simpa using h
    clear h
    go_enter Try.func14, Try.ntmps14
    go_wp2_with (go_at_call 12; refine HC.out.mono ?_; rintro e w1 ⟨rfl, hb1⟩)
    go_ret3
    exact ⟨0, 0, rfl, .inr ⟨HN.out, rfl, rfl⟩, hb1⟩
end Go.Proofs.Ytdblppbjlgmccaa.Ru

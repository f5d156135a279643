/-
  The contracts of At and Last of the reference at a valid curve.
-/
import Derived.Test.YtglimagkfapcaaaStRat
import Derived.Test.YtglimagkfapcaaaStMath
namespace Go.Proofs.Ytglimagkfapcaaa.Cu
open Go.ChangeShapes Go.WideShapes Go.ChangeAt Go.RowKit
open Go.Shelf Go.Lib
set_option linter.unusedVariables false

theorem la_iff {X Y : Nat → Int} {m : Nat} (h : Cur X Y m) (y x : Int) (hb : laB Y y = true) (h1 : X 0 ≤ x) (h2 : x ≤ X m) : val X Y m x ≤ y ↔ x ≤ laV X Y m y := by
  rcases la_facts h y with ⟨_, a1, a2, a3, a4⟩ | ⟨_, a1, a2, a3, a4⟩ | ⟨e, _⟩
  · constructor
    · intro hv
      apply Classical.byContradiction
      intro hc
      have := val_mono X Y m h.asc (laV X Y m y + 1) x (by omega)
      omega
    · intro hv
      have := val_mono X Y m h.asc x (laV X Y m y) hv
      omega
  · constructor
    · intro _; omega
    · intro hv
      have := val_mono X Y m h.asc x (laV X Y m y) hv
      omega
  · rw [e] at hb; cases hb

set_option maxHeartbeats 800000 in
theorem rAt_any (b off n m c : Nat) (X Y : Nat → Int) (x : Int) (w : World) (hn : n = m + 1) (hp : Pts w b off n X Y) (hc : Cur X Y m) :
    Calls Try.prog 36 #[.slice (some ⟨b, off, none⟩) n c, .int .i64 x] w (AtP (val X Y m x) w) := by
  have HC : Hid (Calls Try.prog 31 #[.slice (some ⟨b, off, none⟩) n c] w (RetE 0 w)) := by
    have h := rcheck_any (some ⟨b, off, none⟩) n c X Y w (fun _ => ⟨b, off, rfl, hp⟩)
    subst hn
    rwa [(cur_iff X Y m).2 hc] at h
  have HV := Lib.hid (fun W hp => rat_any b off n m c X Y x W hn hp hc)
  have HP := Lib.hid hp
  generalize val X Y m x = v at *
  clear hn hp hc
  go_enter Try.func36, Try.ntmps36
  go_wp2_with (first
    | (go_at_call 31; refine HC.out.mono ?_; rintro e w1 ⟨rfl, hb1⟩)
    | (go_at_call 46; refine (HV.out _ (HP.out.up hb1 (Nat.le_refl _))).mono ?_; rintro e w2 ⟨rfl, hb2⟩))
  go_ret2
  exact ⟨rfl, hb1.trans (hb2.mono hb1.size)⟩

set_option maxHeartbeats 4000000 in
theorem rLast_any (b off n m c : Nat) (X Y : Nat → Int) (y : Int) (w : World) (hn : n = m + 1) (hp : Pts w b off n X Y) (hc : Cur X Y m) :
    Calls Try.prog 40 #[.slice (some ⟨b, off, none⟩) n c, .int .i64 y] w (FiP (laV X Y m y) (laB Y y) w) := by
  have HC : Hid (Calls Try.prog 31 #[.slice (some ⟨b, off, none⟩) n c] w (RetE 0 w)) := by
    have h := rcheck_any (some ⟨b, off, none⟩) n c X Y w (fun _ => ⟨b, off, rfl, hp⟩)
    subst hn
    rwa [(cur_iff X Y m).2 hc] at h
  have HV := Lib.hid (fun x W hb => rat_any b off n m c X Y x W hn (hp.up hb (Nat.le_refl _)) hc)
  have HP := Lib.hid hp
  have e0 : (0 : Int) < (n : Int) := by omega
  have e0n : 0 < n := by omega
  have e1 : (n : Int) - 1 = (m : Int) := by omega
  have e2 : (m : Int) < (n : Int) := by omega
  have e3 : m < n := by omega
  have hm := hc.len
  have hwn : IntKind.i64.wrap ((n : Int) - 1) = (m : Int) := by rw [IntKind.wrap_i64]; omega
  have hwm : IntKind.i64.wrap (m : Int) = (m : Int) := by rw [IntKind.wrap_i64]; omega
  have x1 := hc.xlo 0 (Nat.zero_le _)
  have x2 := hc.xhi m (Nat.le_refl _)
  have x3 := hc.asc.xle m 0 (Nat.zero_le _) (Nat.le_refl _)
  have hv0 : val X Y m (X 0) = Y 0 := val_low X Y m hc.asc _ (Int.le_refl _)
  have HCel : Hid (∀ W, Below w.heap.size w W → W.cell? ⟨b, off, none⟩ = some (.int .i64 (X 0)) ∧ W.cell? ⟨b, off + m * 2, none⟩ = some (.int .i64 (X m))) := fun W h => by
    have h0 := ((HP.out.up h (Nat.le_refl _)).2 0 e0n).1
    have h1 := ((HP.out.up h (Nat.le_refl _)).2 m e3).1
    rw [Nat.zero_mul, Nat.add_zero] at h0
    exact ⟨h0, h1⟩
  have HI := Lib.hid (fun x hb h1 h2 => la_iff hc y x hb h1 h2)
  have HLF := Lib.hid (la_facts hc y)
  have HV0 := Lib.hid hv0
  clear hn hp hc hv0 hm
  by_cases h : y < Y 0
  · have e5 : laV X Y m y = 0 := by unfold laV; rw [if_pos h]
    have e6 : laB Y y = false := by unfold laB; rw [decide_eq_true h]; rfl
    rw [e5, e6]
    have HV1 := Lib.hid (fun W hb => by have h := HV.out (X 0) W hb; rw [HV0.out] at h; exact h)
    clear HI HLF HV HV0 e5 e6
    generalize X 0 = x0 at *
    generalize X m = xm at *
    generalize Y 0 = y0 at *
    go_enter Try.func40, Try.ntmps40
    go_wp2_with (go_at_call 31; refine HC.out.mono ?_; rintro e w1 ⟨rfl, hb1⟩; obtain ⟨c0, c1⟩ := HCel.out _ hb1)
    go_quiet (fail)
    have hb2 : Below w.heap.size w (w1.drewN nq) := bel_drewN hb1 nq
    go_wp2_with (go_at_call 46; refine (HV1.out _ hb2).mono ?_; rintro e w2 ⟨rfl, hb3⟩)
    go_ret3
    exact ⟨rfl, hb2.trans (hb3.mono hb2.size)⟩
  · have e6 : laB Y y = true := by unfold laB; rw [decide_eq_false h]; rfl
    have hT : X 0 ≤ laV X Y m y ∧ laV X Y m y ≤ X m := by
      rcases HLF.out with ⟨_, a1, a2, _⟩ | ⟨_, a1, a2, _⟩ | ⟨e, _⟩
      · exact ⟨a1, by omega⟩
      · exact ⟨a1, a2⟩
      · rw [e6] at e; cases e
    have HI2 := Lib.hid (fun x h1 h2 => HI.out x e6 h1 h2)
    rw [e6]
    have HV1 := Lib.hid (fun W hb => by have h := HV.out (X 0) W hb; rw [HV0.out] at h; exact h)
    have HV2 : Hid (∀ x W, Below w.heap.size w W → ∃ v, Calls Try.prog 46 #[.slice (some ⟨b, off, none⟩) n c, .int .i64 x] W (RetB v W) ∧ (X 0 ≤ x → x ≤ X m → (v ≤ y ↔ x ≤ laV X Y m y))) := fun x W hb => ⟨_, HV.out x W hb, HI2.out x⟩
    obtain ⟨hT1, hT2⟩ := hT
    clear HI HI2 HLF HV HV0 e6
    generalize X 0 = x0 at *
    generalize X m = xm at *
    generalize Y 0 = y0 at *
    generalize laV X Y m y = T at *
    go_enter Try.func40, Try.ntmps40
    go_wp2_with (go_at_call 31; refine HC.out.mono ?_; rintro e w1 ⟨rfl, hb1⟩; obtain ⟨c0, c1⟩ := HCel.out _ hb1)
    go_quiet (fail)
    have hb2 : Below w.heap.size w (w1.drewN nq) := bel_drewN hb1 nq
    go_wp2_with (go_at_call 46; refine (HV1.out _ hb2).mono ?_; rintro e w2 ⟨rfl, hb3⟩)
    have HB4 := Lib.hid (hb2.trans (hb3.mono hb2.size))
    clear hb2 hb3 hb1 c0 c1 HC HV1
    go_loopw [8, 9] (fun s8 s9 wr => ∃ lo hi : Int, s8 = .int .i64 lo ∧ s9 = .int .i64 hi ∧ x0 ≤ lo ∧ lo ≤ T ∧ T ≤ hi ∧ hi ≤ xm ∧ Hid (Below w.heap.size w wr)) (fun s8 s9 _ => (intOf s9 - intOf s8).toNat)
    case atStart => exact ⟨x0, xm, rfl, rfl, Int.le_refl _, hT1, hT2, Int.le_refl _, HB4⟩
    case round =>
      clear HB4
      obtain ⟨lo, hi, rfl, rfl, l1, l2, l3, l4, hbr⟩ := hrel
      by_cases hlh : lo < hi
      · have hd1 : 0 ≤ (hi - lo) / 2 ∧ (hi - lo) / 2 < hi - lo := by omega
        obtain ⟨v, hcv, hv⟩ := HV2.out (hi - (hi - lo) / 2) _ hbr.out
        have HCV := Lib.hid hcv
        have hv' := hv (by omega) (by omega)
        clear hcv hv
        by_cases hvy : v ≤ y
        · have hm1 := hv'.1 hvy
          clear hv'
          go_wp2_with (go_at_call 46; refine HCV.out.mono ?_; rintro e w5 ⟨rfl, hb5⟩)
          have HB5 := Lib.hid (hbr.out.trans (hb5.mono hbr.out.size))
          go_roundw
          case rel => exact ⟨hi - (hi - lo) / 2, hi, rfl, rfl, by omega, hm1, l3, l4, HB5⟩
          case measure => simp [intOf]; omega
        · have hm1 : ¬ (hi - (hi - lo) / 2) ≤ T := fun hh => hvy (hv'.2 hh)
          clear hv'
          go_wp2_with (go_at_call 46; refine HCV.out.mono ?_; rintro e w5 ⟨rfl, hb5⟩)
          have HB5 := Lib.hid (hbr.out.trans (hb5.mono hbr.out.size))
          go_roundw
          case rel => exact ⟨lo, hi - (hi - lo) / 2 - 1, rfl, rfl, l1, l2, by omega, by omega, HB5⟩
          case measure => simp [intOf]; omega
      · have hE : lo = T := by omega
        have HE := Lib.hid hE
        clear hE
        go_wp2
        go_ret3
        exact ⟨congrArg (fun v => Ending.returned (.tuple #[.int .i64 v, .bool true, .int .i64 0])) HE.out, hbr.out⟩
end Go.Proofs.Ytglimagkfapcaaa.Cu

/-
  The contract of Decode of the program's package gauge, for any bytes.
-/
import Derived.Test.YtlelcooomfcbaaaDoorGpDec
import Derived.Test.YtlelcooomfcbaaaDoorGgDca
import Derived.Test.YtlelcooomfcbaaaDoorGgRead
namespace Go.Proofs.YtlelcooomfcbaaaDoor.Gg
open Go.ChangeShapes Go.WideShapes Go.ChangeAt Go.RowKit
set_option linter.unusedVariables false

theorem fourB_at (B : Nat → Int) (k i : Nat) : fourB (fun j => B (k + j)) i = fourB B (k + i) := by
  unfold fourB
  simp only [Nat.add_assoc]
theorem deE_fr (B : Nat → Int) (n k : Nat) : deE B n k = frE (fun j => B (k * 12 + j)) (n - k * 12) := by
  unfold deE frE
  rw [fourB_at, fourB_at]
  by_cases h : n < k * 12 + 12
  · rw [if_pos h, if_pos (by omega)]
  · have e : ¬ n - k * 12 < 12 := by omega
    simp only [if_neg h, if_neg e, Nat.add_zero]
theorem deR_fr (B : Nat → Int) (k : Nat) : deR B k = mkR ((fun j => B (k * 12 + j)) 0) (fourB (fun j => B (k * 12 + j)) 1) (fourB (fun j => B (k * 12 + j)) 5) ((fun j => B (k * 12 + j)) 9) := by
  unfold deR
  rw [fourB_at, fourB_at]
  rfl
theorem frec_any (b o2 m c : Nat) (C : Nat → Int) (w : World) (hp : By w b o2 m C) (hB : Bt C m) (hc : m ≤ c) (hm9 : m ≤ 49152) : Calls Tryd.prog 43 #[.slice (some ⟨b, o2, none⟩) m c] w (FrP w C m) := by
  by_cases h : m < 12
  · exact frec_short _ m c C w h
  · exact frec_some b o2 m c C w hp hB (by omega) hc hm9
/-- firstRecord as Decode calls it. -/
def FdP (w : World) (B : Nat → Int) (n k : Nat) (e : Ending) (w' : World) : Prop :=
  ∃ a b c d : Int, e = .returned (.tuple #[.agg #[.int .i64 a, .int .i64 b, .int .i64 c, .int .i64 d], .int .i64 (deE B n k)]) ∧ (deE B n k = 0 → deR B k = mkR a b c d) ∧ Below w.heap.size w w'
set_option maxRecDepth 100000 in
set_option maxHeartbeats 4000000 in
theorem pdec_some (b off n c : Nat) (B : Nat → Int) (w : World) (hp : By w b off n B) (hB : Bt B n) (hn : n ≤ 49152) (hc : n ≤ c) :
    Calls Tryd.prog 23 #[.slice (some ⟨b, off, none⟩) n c] w (DeP w (deX B n) (deN B n) (deR B)) := by
  obtain ⟨i0, hi, hz0, hz1, hz2⟩ := info_parts Tryd.infoR
  have hX : deX B n = deA B n ((n + 11) / 12) := by unfold deX; rw [if_neg (by omega)]
  have HP := Lib.hid hp
  have HB := Lib.hid hB
  have HXX := Lib.hid hX
  have hni : (n : Int) ≤ 49152 := by omega
  have hci : (n : Int) ≤ (c : Int) := by omega
  have hncn : n ≤ c := hc
  clear hp hB hX
  go_enter Tryd.func23, Tryd.ntmps23
  go_wp2
  go_loopw [5, 6] (fun v i wr => ∃ (k : Nat) (V : Value), V = v ∧ k ≤ (n + 11) / 12 ∧ i = .int .i64 ((k : Int) * 12) ∧ Hid (deA B n k = (0, 0)) ∧ Hid (GotR wr w.heap.size v k (deR B)) ∧ Hid (Below w.heap.size w wr)) (fun _ i _ => n + 12 - (intOf i).toNat)
  case atStart => exact ⟨0, _, rfl, Nat.zero_le _, rfl, rfl, gotR_nil _ _ _, Below.refl _ _⟩
  case round =>
    obtain ⟨k, v, rfl, hk, rfl, hde, hgot, hb⟩ := hrel
    have hk9 : (k : Int) ≤ 4096 := by omega
    by_cases hkn : k * 12 < n
    · have hkni : (k : Int) * 12 < (n : Int) := by omega
      have hkci : (k : Int) * 12 ≤ (c : Int) := by omega
      have hkci2 : (k : Int) * 12 ≤ (n : Int) := by omega
      have cnk : ¬ c = k * 12 := by omega
      have HN := Lib.hid (deA_next B n k hde.out)
      have hFR : ∀ W c', By W b (off + k * 12) (n - k * 12) (fun j => B (k * 12 + j)) → n - k * 12 ≤ c' → Calls Tryd.prog 43 #[.slice (some ⟨b, off + k * 12, none⟩) (n - k * 12) c'] W (FdP W B n k) := fun W c' h h2 => by
        refine (frec_any b (off + k * 12) (n - k * 12) c' (fun j => B (k * 12 + j)) W h (fun j hj => HB.out (k * 12 + j) (by omega)) h2 (by omega)).mono ?_
        rintro e w' ⟨p, q, r, s, rfl, h3, h4⟩
        exact ⟨p, q, r, s, by rw [deE_fr], by rw [deE_fr, deR_fr]; exact h3, h4⟩
      have hby : By wr b (off + k * 12) (n - k * 12) (fun j => B (k * 12 + j)) := ⟨(HP.out.up hb.out (Nat.le_refl _)).1, fun j hj => by
        have h := (HP.out.up hb.out (Nat.le_refl _)).2 (k * 12 + j) (by omega)
        rw [← Nat.add_assoc] at h
        exact h⟩
      have HC := Lib.hid (hFR wr (c - k * 12) hby (by omega))
      have hsr := hb.out.size
      clear hFR hby
      obtain ⟨cd, hcd⟩ : ∃ cd, deE B n k = cd := ⟨_, rfl⟩
      have HCD := Lib.hid hcd
      rw [hcd] at HN
      clear hcd
      by_cases hc0 : cd = 0
      · subst hc0
        have HN2 : Hid (deA B n (k + 1) = (0, 0)) := by show deA B n (k + 1) = _; rw [HN.out]; rfl
        clear HN
        go_wp2_with (first
          | (go_at_call 43; refine HC.out.mono ?_; rintro e w4 ⟨x, y, z, u, rfl, hv4, hb4⟩; rw [HCD.out]; have HV4 := Lib.hid (hv4 HCD.out); have HB4 := Lib.hid (hb.out.trans (hb4.mono hsr)); have HG4 := Lib.hid (gotR_kept hgot.out hb4); have hs4 := HB4.out.size; clear hv4 hb4)
          | (at_builtin; have HA := Lib.hid (World.ownsRow.alloc (World.ownsRow.alloc HG4.out (.cells #[.int .i64 x, .int .i64 y, .int .i64 z, .int .i64 u] 23)) (.cells #[.int .i64 x, .int .i64 y, .int .i64 z, .int .i64 u] 23)); refine wpList_append_own _ rfl _ _ 29 rfl w.heap.size 23 i0 (.agg #[.int .i64 0, .int .i64 0, .int .i64 0, .int .i64 0]) 4 32 Tryd.underlying29 hi hz0 hz1 hz2 rfl (by decide) v k _ rfl HA.out ⟨w4.heap.size + 1, 0, none⟩ 1 1 [.int .i64 x, .int .i64 y, .int .i64 z, .int .i64 u] rfl rfl (cell_fourN _ _ (by simp) _ _ _ _ _) (by intro q hq; simp at hq; rcases hq with rfl | rfl | rfl | rfl <;> rfl) (by unfold maxLen; omega) (by omega) (by simp; omega) ?_; intro v' w9 hown' hgrow hnil; have H9 := Lib.hid (gotR_next hown'); have hb9 := Lib.hid (below_own ((HB4.out.alloc hs4 _).alloc (by simp; omega) _) (Nat.le_refl _) hgrow (fun j hj => gotR_block HG4.out j hj)); clear hown' hgrow hnil HA))
        go_roundw
        case rel => exact ⟨k + 1, _, rfl, by omega, by go_num, HN2, gotR_congr H9.out (fun i hi j hj => by
          by_cases e : i = k
          · subst e; rw [updR_same, HV4.out]
          · rw [updR_other _ _ e]), hb9⟩
        case measure => simp [intOf]; omega
      · have HR : Hid (deX B n = (cd, (k : Int) * 12)) := by
          have e2 : deA B n (k + 1) = (cd, (k : Int) * 12) := by rw [HN.out, if_pos hc0]
          show deX B n = _
          rw [HXX.out, ← e2]
          exact deA_stick B n (k + 1) (by rw [e2]; exact hc0) _ (by omega)
        have HR3 : Hid (deN B n = 0) := by show deN B n = 0; unfold deN; rw [HR.out, if_neg hc0]
        have hcn : (cd != 0) = true := by simpa using hc0
        clear hc0 HN
        go_wp2_with (first
          | (go_at_call 43; refine HC.out.mono ?_; rintro e w4 ⟨x, y, z, u, rfl, hv4, hb4⟩; rw [HCD.out]; have HB4 := Lib.hid (hb.out.trans (hb4.mono hsr)); have hs4 := HB4.out.size; clear hv4 hb4))
        go_ret3
        refine ⟨.slice none 0 0, by rw [HR.out]; rfl, ?_, HB4.out.alloc hs4 _⟩
        rw [HR3.out]
        exact gotR_nil _ _ _
    · obtain rfl : k = (n + 11) / 12 := by omega
      have h12 := de_whole B n hde.out
      have HR : Hid (deX B n = (0, 0)) := by show deX B n = _; rw [HXX.out]; exact hde.out
      have hni2 : ¬ (((n + 11) / 12 : Nat) : Int) * 12 < (n : Int) := by omega
      go_wp2
      go_ret3
      refine ⟨v, by rw [HR.out]; rfl, ?_, hb.out⟩
      unfold deN
      rw [HR.out, if_pos rfl, ← h12]
      exact hgot.out
theorem pdec_none (p : Option Addr) (c : Nat) (B : Nat → Int) (w : World) : Calls Tryd.prog 23 #[.slice p 0 c] w (DeP w (deX B 0) (deN B 0) (deR B)) := by
  go_enter Tryd.func23, Tryd.ntmps23
  go_wp2
  go_loop [5, 6] (fun v i => v = .slice none 0 0 ∧ i = .int .i64 0) (fun _ _ => 0)
  case atStart => exact ⟨rfl, rfl⟩
  case round =>
    obtain ⟨rfl, rfl⟩ := hrel
    go_wp2
    go_ret3
    exact ⟨.slice none 0 0, rfl, gotR_nil _ _ _, Below.refl _ _⟩
theorem pdec_long (p : Option Addr) (n c : Nat) (B : Nat → Int) (w : World) (hn : 49152 < n) : Calls Tryd.prog 23 #[.slice p n c] w (DeP w (deX B n) (deN B n) (deR B)) := by
  have HX : Hid (deX B n = (10, 0)) := if_pos hn
  have hni : (49152 : Int) < (n : Int) := by omega
  clear hn
  go_enter Tryd.func23, Tryd.ntmps23
  go_wp2
  go_ret3
  refine ⟨.slice none 0 0, by rw [HX.out]; rfl, ?_, Below.refl _ _⟩
  unfold deN
  rw [HX.out]
  exact gotR_nil _ _ _
theorem pdec_any (p : Option Addr) (n c : Nat) (B : Nat → Int) (w : World) (hp : RdB w p n B) (hB : Bt B n) (hc : n ≤ c) : Calls Tryd.prog 23 #[.slice p n c] w (DeP w (deX B n) (deN B n) (deR B)) := by
  by_cases h0 : n = 0
  · subst h0; exact pdec_none p c B w
  by_cases hn : n ≤ 49152
  · obtain ⟨b, off, rfl, hpt⟩ := hp (by omega)
    exact pdec_some b off n c B w hpt hB hn hc
  · exact pdec_long p n c B w (by omega)
end Go.Proofs.YtlelcooomfcbaaaDoor.Gg

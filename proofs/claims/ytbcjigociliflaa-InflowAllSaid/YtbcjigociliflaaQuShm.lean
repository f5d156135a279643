/-
  The contract of Share of package quantity where something is shared.
-/
import Derived.Test.YtbcjigociliflaaQuShr
namespace Go.Proofs.Ytbcjigociliflaa.Qu
open Go.ChangeShapes Go.WideShapes Go.ChangeAt Go.RowKit
set_option linter.unusedVariables false

/-- The first k of f, and 0. -/
def upTo (f : Nat → Int) (k i : Nat) : Int := if i < k then f i else 0
theorem upTo_zero (f : Nat → Int) (i : Nat) : upTo f 0 i = 0 := if_neg (Nat.not_lt_zero _)
theorem upTo_all (f : Nat → Int) {n i : Nat} (h : i < n) : upTo f n i = f i := if_pos h
theorem upTo_next (f : Nat → Int) (k i : Nat) (x : Int) (hx : x = f k) : upd (upTo f k) k x i = upTo f (k + 1) i := by
  unfold upd upTo
  by_cases e : i = k
  · subst e; rw [if_pos rfl, if_pos (by omega), hx]
  · rw [if_neg e]
    by_cases e2 : i < k
    · rw [if_pos e2, if_pos (by omega)]
    · rw [if_neg e2, if_neg (by omega)]
theorem Own.next {w : World} {g n k : Nat} {f : Nat → Int} (h : Own w g n (upTo f k)) (hk : k < n) {x : Int} (hx : x = f k) : Own (w.setCell ⟨g, k, none⟩ (.int .i64 x)) g n (upTo f (k + 1)) :=
  (h.store hk x).congr fun i _ => upTo_next f k i x hx

set_option maxHeartbeats 2000000 in
theorem share_main (a : Int) (b off n c : Nat) (z : Nat → Int) (w : World) (hn : n ≤ 4096) (hb : b < w.heap.size) (hc : ∀ i, i < n → w.cell? ⟨b, off + i, none⟩ = some (.int .i64 (z i)))
    (hk : chk a z n = 0) (ha : 0 < a) (ha2 : a ≤ 274877906944) (hall : ∀ i, i < n → 0 ≤ z i ∧ z i ≤ 10000) (ht : 0 < sumZ z n) (hn0 : 0 < n) :
    Calls Try.prog 34 #[.int .i64 a, .slice (some ⟨b, off, none⟩) n c] w (ShP a z n w) := by
  have hr : Rd w (some ⟨b, off, none⟩) n z := fun _ => ⟨b, off, rfl, hb, hc⟩
  have hS : shCode a z n = 0 := by unfold shCode; rw [hk]; simp; omega
  have hL : shLen a z n = n := by unfold shLen; rw [hS]; simp
  have hV : shVal a z n = shF z a n := by funext i; unfold shVal; rw [if_neg (by omega)]
  have hTB := (sumZ_bd z n 10000 hall n (Nat.le_refl _)).2
  have hLf := lef_bd z a n hn0 ht
  have hLm := fun k hk => lef_mono z a (sumZ z n) n ht (by omega) (fun i hi => (hall i hi).1) k hk
  have hLo := fun k hk => lef_lo z a (sumZ z n) n ht (by omega) (fun i hi => (hall i hi).1) (n - k) k hk
  unfold ShP
  rw [hS, hL, hV]
  have hF : shF z a n = fun i => qF z a (sumZ z n) i + plus (rF z a (sumZ z n)) n (lef z a (sumZ z n) n).toNat i := rfl
  rw [hF]
  clear hF hV
  generalize hT : sumZ z n = T at *
  obtain ⟨L, hLL⟩ : ∃ L : Nat, lef z a T n = L := ⟨(lef z a T n).toNat, by omega⟩
  rw [hLL] at hLf ⊢
  rw [Int.toNat_natCast]
  have hLn : L < n := by omega
  have HR := Lib.hid hr
  have HK := Lib.hid hk
  have HT := Lib.hid hT
  have HA := Lib.hid hall
  have HC := Lib.hid hc
  have HLL := Lib.hid hLL
  have HLM := Lib.hid hLm
  have HLO := Lib.hid hLo
  have ha' : (a == 0) = false := by simp; omega
  have ht' : (T == 0) = false := by simp; omega
  have ht'' : ¬ T = 0 := by omega
  have hTB2 : T ≤ 40960000 := by omega
  clear hr hk hS hL hT hall hc hLL hLf hTB hLm hLo
  obtain ⟨i0, hi, hz0, hz1, hz2⟩ := info_parts Try.info3
  go_enter Try.func34, Try.ntmps34
  go_wp2_with (first | (go_at_call 41; refine (check_any _ _ _ _ z _ hn HR.out).mono ?_; rintro e w' ⟨rfl, rfl⟩; rw [HK.out]) | (go_at_call 42; refine (sum_any _ _ _ z _ hn HA.out (HR.out.below ((Below.refl w.heap.size w).grown hgrow (Nat.le_refl _) (by intro k hk; cases hk)) (Nat.le_refl _))).mono ?_; rintro e w' ⟨rfl, rfl⟩; rw [HT.out]) | (at_make; refine wpList_make_full _ rfl (.tmp 23) (.tmp 23) 22 rfl w.heap.size 3 i0 (.int .i64 0) 1 Try.underlying22 hi hz0 hz1 .i64 .i64 _ _ n rfl rfl rfl rfl (by rw [hz2]; omega) (by unfold maxLen; omega) (by simp) ?_; intro w1 hown hgrow) | (at_make; refine wpList_make_full _ rfl (.tmp 33) (.tmp 33) 22 rfl w1.heap.size 3 i0 (.int .i64 0) 1 Try.underlying22 hi hz0 hz1 .i64 .i64 _ _ n rfl rfl rfl rfl (by rw [hz2]; omega) (by unfold maxLen; omega) (by simp) ?_; intro w2 hown2 hgrow2))
  have hS1 : w.heap.size < w1.heap.size := (hown.lt _ rfl).2
  have hR1 : w1.heap.size < w2.heap.size := (hown2.lt _ rfl).2
  have hbel1 : Below w.heap.size w w1 := (Below.refl w.heap.size w).grown hgrow (Nat.le_refl _) (by intro k hk; cases hk)
  have hb2 : Below w1.heap.size w1 w2 := (Below.refl w1.heap.size w1).grown hgrow2 (Nat.le_refl _) (by intro k hk; cases hk)
  have HB := Lib.hid (hbel1.trans (hb2.mono (by omega)))
  have HO1 := Lib.hid (((own_made hown hS1).below hb2 hS1).congr fun i _ => (upTo_zero (qF z a T) i).symm)
  have HO2 := Lib.hid ((own_made hown2 hR1).congr fun i _ => (upTo_zero (rF z a T) i).symm)
  clear hown hown2 hgrow hgrow2 hbel1 hb2 hi hz0 hz1 hz2
  have HRR : w.heap.size < w1.heap.size := hS1
  generalize w1.heap.size = R at *
  have hne1 : ¬ R = w.heap.size := by omega
  have hne2 : ¬ w.heap.size = R := by omega
  clear hS1
  go_loopw [10, 38] (fun t i wr => ∃ k : Nat, k ≤ n ∧ i = .int .i64 k ∧ t = .int .i64 (lef z a T k) ∧ Hid (Own wr w.heap.size n (upTo (qF z a T) k)) ∧ Hid (Own wr R n (upTo (rF z a T) k)) ∧ Hid (Below w.heap.size w wr)) (fun _ i _ => n - (intOf i).toNat)
  case atStart => exact ⟨0, Nat.zero_le _, rfl, by simp [lef, sumZ], HO1, HO2, HB⟩
  case round =>
    clear HO1 HO2 HB hR1
    obtain ⟨k, hk, rfl, rfl, ho1, ho2, hbel⟩ := hrel
    have l1 := HLM.out k hk
    have l2 := HLO.out k (by omega)
    rw [HLL.out] at l2
    by_cases hlt : k < n
    · have h1 := ho1.out.cell hlt
      have h2 := ho1.out.free hlt
      have h3 := ho2.out.cell hlt
      have h4 := ho2.out.free hlt
      have h5 : wr.cell? ⟨b, off + k, none⟩ = some (.int .i64 (z k)) := (hbel.out.cell (p := ⟨b, off + k, none⟩) hb).trans (HC.out k hlt)
      have m1 := HA.out k hlt
      have m2 := mul_bd (Int.le_of_lt ha) ha2 m1.1 m1.2
      have m3 : a * z k ≤ 2748779069440000 := by have := m2.2; omega
      have m4 := m2.1
      have m5 := div_bd m4 (show 1 ≤ T by omega)
      have m6 : 0 ≤ a * z k % T := Int.emod_nonneg _ (by omega)
      have m7 : a * z k % T < T := Int.emod_lt_of_pos _ (by omega)
      have l3 := HLO.out (k + 1) (by omega)
      rw [HLL.out] at l3
      have l4 : lef z a T (k + 1) = lef z a T k - a * z k / T := by unfold lef; rw [sumZ]; unfold qF; omega
      rw [l4] at l3
      have L4 := Lib.hid l4
      have hkn : (k : Int) < (n : Int) := by omega
      clear m2 l4
      go_wp2
      go_region
      go_wp2
      go_roundw
      case rel =>
        refine ⟨k + 1, by omega, by go_num, ?_, ?_, ?_, ?_⟩
        · rw [L4.out]
        · exact ((ho1.out.next hlt rfl).other (by simpa using hne1) _).drew
        · exact ((ho2.out.other (by simpa using hne2) _).next hlt rfl).drew
        · exact ((hbel.out.setCell (by simp) _).setCell (by simp; omega) _).drew
      case measure => simp [intOf]; omega
    · obtain rfl : k = n := by omega
      have HLLo := HLL.out
      clear l1 l2
      rw [HLLo]
      have hG := gf_n R k (rF z a T) wr hn0 hn (ho2.out.congr fun i hi => upTo_all _ hi)
      have HG := Lib.hid hG
      have HO := Lib.hid (ho1.out.congr fun i hi => show upTo (qF z a T) k i = qF z a T i + plus (rF z a T) k 0 i by rw [upTo_all _ hi, plus_zero, Int.add_zero])
      have hLk : (L : Int) < (k : Int) := by omega
      clear hG HLLo ho1 ho2
      go_wp2_with (go_at_call 43; refine HG.out.mono ?_; rintro e w3 ⟨g, rfl, hg, hog, hbg⟩)
      have HO3 := Lib.hid (HO.out.below hbg HO.out.1)
      have HB3 := Lib.hid (hbel.out.trans (hbg.mono hbel.out.size))
      have hgS : ¬ g = w.heap.size := by have := HO.out.1; omega
      have hgS' : ¬ w.heap.size = g := by omega
      have HOG := Lib.hid hog
      have hgl : w.heap.size ≤ g := by have := HO.out.1; omega
      clear HO hbel hog hbg hg
      go_loopw [70] (fun i wr => ∃ j : Nat, j ≤ L ∧ i = .int .i64 j ∧ Hid (Own wr w.heap.size k (fun i => qF z a T i + plus (rF z a T) k j i)) ∧ Hid (Own wr g k (fun i => ordA (rF z a T) k i)) ∧ Hid (Below w.heap.size w wr)) (fun i _ => L - (intOf i).toNat)
      case atStart => exact ⟨0, Nat.zero_le _, rfl, HO3, HOG, HB3⟩
      case round =>
        clear HO3 HOG HB3
        obtain ⟨j, hj, rfl, ho, hog, hbel⟩ := hrel
        by_cases hjl : j < L
        · have hjk : j < k := by omega
          have h1 : wr.cell? ⟨g, j, none⟩ = some (.int .i64 (ordA (rF z a T) k j : Nat)) := hog.out.cell hjk
          have hx := ordA_lt (rF z a T) k j hjk
          have HX := Lib.hid (fun i => plus_succ (rF z a T) k j i hjk)
          generalize ordA (rF z a T) k j = x at *
          have h2 : wr.cell? ⟨w.heap.size, x, none⟩ = some (.int .i64 (qF z a T x + plus (rF z a T) k j x)) := ho.out.cell hx
          have h3 := ho.out.free hx
          have m1 := HA.out x hx
          have m2 := mul_bd (Int.le_of_lt ha) ha2 m1.1 m1.2
          have m3 : 0 ≤ qF z a T x ∧ qF z a T x ≤ 2748779069440000 := by have := m2.2; have := div_bd m2.1 (show 1 ≤ T by omega); unfold qF; omega
          have m4 := plus_bd (rF z a T) k j x
          have hv : ∃ v, v = qF z a T x + plus (rF z a T) k j x := ⟨_, rfl⟩
          obtain ⟨v, hv⟩ := hv
          rw [← hv] at h2
          have hv1 : 0 ≤ v := by omega
          have hv2 : v ≤ 2748779069440001 := by omega
          have hxk : (x : Int) < (k : Int) := by omega
          have HV := Lib.hid hv
          clear m1 m2 m3 m4 hv
          go_wp2
          go_roundw
          case rel =>
            refine ⟨j + 1, by omega, by go_num, ?_, hog.out.other (by simpa using hgS') _, hbel.out.setCell (by simp) _⟩
            refine (ho.out.store hx (v + 1)).congr fun i _ => ?_
            unfold upd
            show _ = qF z a T i + plus (rF z a T) k (j + 1) i
            rw [HX.out i, HV.out]
            by_cases e : i = x
            · subst e; rw [if_pos rfl, if_pos rfl]; omega
            · rw [if_neg e, if_neg e]
          case measure => simp [intOf]; omega
        · obtain rfl : j = L := by omega
          go_wp2
          go_ret2
          exact ⟨_, _, rfl, ho.out.rd, hbel.out⟩

theorem chk_cases (a : Int) (z : Nat → Int) (n : Nat) : (chk a z n = 1) ∨ (chk a z n = 0 ∧ inB a 274877906944 = true ∧ allB z n = true) := by
  by_cases h1 : inB a 274877906944 = true
  · by_cases h2 : allB z n = true
    · exact .inr ⟨chk_yes h1 h2, h1, h2⟩
    · exact .inl (chk_no2 h1 (by simpa using h2))
  · exact .inl (chk_no1 (by simpa using h1))

/-- Share of package quantity, whatever the amount and the weights (at most 4096 of them). -/
theorem share_any (a : Int) (p : Option Addr) (n c : Nat) (z : Nat → Int) (w : World) (hn : n ≤ 4096) (hr : Rd w p n z) :
    Calls Try.prog 34 #[.int .i64 a, .slice p n c] w (ShP a z n w) := by
  rcases chk_cases a z n with hk | ⟨hk, h1, h2⟩
  · exact share_bad a p n c z w hn hr hk
  by_cases ha : a = 0
  · exact share_nil a p n c z w hn hr hk ha
  have hall := allB_all h2
  have h1' : 0 ≤ a ∧ a ≤ 274877906944 := of_decide_eq_true h1
  have hs := (sumZ_bd z n 10000 hall n (Nat.le_refl _)).1
  by_cases ht : sumZ z n = 0
  · exact share_none a p n c z w hn hr hk ha hall ht
  have hn0 : 0 < n := by
    apply Classical.byContradiction
    intro h
    obtain rfl : n = 0 := by omega
    exact ht rfl
  obtain ⟨b, off, rfl, hb, hc⟩ := hr hn0
  exact share_main a b off n c z w hn hb hc hk (by omega) h1'.2 hall (by omega) hn0
end Go.Proofs.Ytbcjigociliflaa.Qu

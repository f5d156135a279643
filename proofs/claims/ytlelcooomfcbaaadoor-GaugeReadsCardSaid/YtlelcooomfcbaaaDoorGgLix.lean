/-
  The contract of line of the reference of chapter 6.
-/
import Derived.Test.YtlelcooomfcbaaaDoorGpRdg
import Derived.Test.YtlelcooomfcbaaaDoorGgDca
import Derived.Test.YtlelcooomfcbaaaDoorGgNum
import Derived.Test.YtlelcooomfcbaaaDoorGgEnc
import Derived.Deep.RegionHeld3
namespace Go.Proofs.YtlelcooomfcbaaaDoor.Gg
open Go.ChangeShapes Go.WideShapes Go.ChangeAt Go.RowKit
set_option linter.unusedVariables false

/-- What line returns: whether the words have the form, and then their reading. -/
def LiP (w : World) (l : List ByteArray) (e : Ending) (w' : World) : Prop :=
  ∃ a b c d : Int, e = .returned (.tuple #[.agg #[.int .i64 a, .int .i64 b, .int .i64 c, .int .i64 d], .bool (rdK l)]) ∧ (rdK l = true → a = nuI (wd l 0) ∧ b = nuI (wd l 1) ∧ c = nuI (wd l 2) ∧ d = flG (wd l 3)) ∧ Below w.heap.size w w'
/-- The word of flag k. -/
def fkS (k : Nat) : ByteArray := if k = 0 then fl0 else if k = 1 then fl1 else fl2
/-- The flag found among the first k words. -/
def foG (s : ByteArray) : Nat → Int
  | 0 => -1
  | k + 1 => if fkS k = s then (k : Int) else foG s k
theorem fo_three (s : ByteArray) : foG s 3 = flG s := by
  have e0 : fkS 0 = okS := rfl
  have e1 : fkS 1 = iceS := rfl
  have e2 : fkS 2 = fauS := rfl
  unfold flG
  show (if fkS 2 = s then ((2 : Nat) : Int) else if fkS 1 = s then ((1 : Nat) : Int) else if fkS 0 = s then ((0 : Nat) : Int) else -1) = _
  rw [e0, e1, e2]
  by_cases h0 : s = okS
  · subst h0
    rw [if_neg (by decide), if_neg (by decide), if_pos rfl, if_pos rfl]; rfl
  · by_cases h1 : s = iceS
    · subst h1
      rw [if_neg (by decide), if_pos rfl, if_neg (by decide), if_pos rfl]; rfl
    · by_cases h2 : s = fauS
      · subst h2
        rw [if_pos rfl, if_neg (by decide), if_neg (by decide), if_pos rfl]; rfl
      · rw [if_neg (fun e => h2 e.symm), if_neg (fun e => h1 e.symm), if_neg (fun e => h0 e.symm), if_neg h0, if_neg h1, if_neg h2]
/-- What the loop over the flags keeps: the result is zero, the reading has its flag. -/
structure Ln (w : World) (fv : Int) (W : World) : Prop where
  z0 : W.cell? ⟨w.heap.size, 0, none⟩ = some (.int .i64 0)
  z1 : W.cell? ⟨w.heap.size, 1, none⟩ = some (.int .i64 0)
  z2 : W.cell? ⟨w.heap.size, 2, none⟩ = some (.int .i64 0)
  z3 : W.cell? ⟨w.heap.size, 3, none⟩ = some (.int .i64 0)
  fz : ∀ j, W.frozen? ⟨w.heap.size, j, none⟩ = false
  n0 : W.cell? ⟨w.heap.size + 1, 0, none⟩ = some (.int .i64 0)
  n1 : W.cell? ⟨w.heap.size + 1, 1, none⟩ = some (.int .i64 0)
  n2 : W.cell? ⟨w.heap.size + 1, 2, none⟩ = some (.int .i64 0)
  n3 : W.cell? ⟨w.heap.size + 1, 3, none⟩ = some (.int .i64 fv)
  fn : ∀ j, W.frozen? ⟨w.heap.size + 1, j, none⟩ = false
  k0 : W.cell? ⟨w.heap.size + 2, 0, none⟩ = some (.string (fkS 0))
  k1 : W.cell? ⟨w.heap.size + 2, 1, none⟩ = some (.string (fkS 1))
  k2 : W.cell? ⟨w.heap.size + 2, 2, none⟩ = some (.string (fkS 2))
  bel : Below w.heap.size w W
abbrev W2L (w : World) : World := (w.alloc (.cells #[.int .i64 0, .int .i64 0, .int .i64 0, .int .i64 0] 23)).alloc (.cells #[.int .i64 0, .int .i64 0, .int .i64 0, .int .i64 (-1)] 23)
theorem W2L_size (w : World) : (W2L w).heap.size = w.heap.size + 2 := by simp [W2L]
theorem fz_alloc {W : World} {b j : Nat} (hb : b < W.heap.size) (o : Obj) (h : W.frozen? ⟨b, j, none⟩ = false) : (W.alloc o).frozen? ⟨b, j, none⟩ = false :=
  (((Below.refl W.heap.size W).alloc (Nat.le_refl _) o).frozen (p := ⟨b, j, none⟩) hb).trans h
theorem Ln.start (w : World) : Ln w (-1) ((W2L w).alloc (.cells #[.string fl0, .string fl1, .string fl2] 9)) :=
  have e := W2L_size w
  { z0 := cell_alloc (by simp) _, z1 := cell_alloc (by simp) _, z2 := cell_alloc (by simp) _, z3 := cell_alloc (by simp) _
    fz := fun j => fz_alloc (by omega) _ (by simp)
    n0 := cell_alloc (by simp) _, n1 := cell_alloc (by simp) _, n2 := cell_alloc (by simp) _, n3 := cell_alloc (by simp) _
    fn := fun j => fz_alloc (by omega) _ (by simp)
    k0 := by rw [← e, World.cell?_alloc_new]; rfl
    k1 := by rw [← e, World.cell?_alloc_new]; rfl
    k2 := by rw [← e, World.cell?_alloc_new]; rfl
    bel := (show Below w.heap.size w (W2L w) from ((Below.refl _ _).alloc (Nat.le_refl _) _).alloc (by simp) _).alloc (by omega) _ }
theorem Ln.set {w : World} {fv x : Int} {W : World} (h : Ln w fv W) : Ln w x (W.setCell ⟨w.heap.size + 1, 3, none⟩ (.int .i64 x)) :=
  { z0 := cell_oth (by omega) h.z0, z1 := cell_oth (by omega) h.z1, z2 := cell_oth (by omega) h.z2, z3 := cell_oth (by omega) h.z3
    fz := fun j => by simpa using h.fz j
    n0 := cell_oth (by omega) h.n0, n1 := cell_oth (by omega) h.n1, n2 := cell_oth (by omega) h.n2, n3 := World.cell?_setCell_same _ _ _ h.n3
    fn := fun j => by simpa using h.fn j
    k0 := cell_oth (by omega) h.k0, k1 := cell_oth (by omega) h.k1, k2 := cell_oth (by omega) h.k2
    bel := h.bel.setCell (p := ⟨w.heap.size + 1, 3, none⟩) (by show w.heap.size ≤ w.heap.size + 1; omega) _ }
theorem Ln.at {w : World} {fv : Int} {W : World} (h : Ln w fv W) (k : Nat) (hk : k < 3) : W.cell? ⟨w.heap.size + 2, k, none⟩ = some (.string (fkS k)) := by
  have hc : k = 0 ∨ k = 1 ∨ k = 2 := by omega
  rcases hc with rfl | rfl | rfl
  · exact h.k0
  · exact h.k1
  · exact h.k2
set_option maxRecDepth 100000 in
set_option maxHeartbeats 2000000 in
theorem lin_short (p : Option Addr) (c : Nat) (l : List ByteArray) (w : World) (h4 : l.length ≠ 4) : Calls Tryd.prog 51 #[.slice p l.length c] w (LiP w l) := by
  have HK : Hid (rdK l = false) := by
    show rdK l = false
    unfold rdK; rw [decide_eq_false h4]; rfl
  have e4 : ((l.length : Int) != 4) = true := by rw [bne_iff_ne]; omega
  clear h4
  go_enter Tryd.func51, Tryd.ntmps51
  go_wp2
  exact bodyPost_ret (v := .tuple #[.agg #[.int .i64 0, .int .i64 0, .int .i64 0, .int .i64 (-1)], .bool false]) (by simp [results, Tryd.results51, go_sem]) rfl ⟨0, 0, 0, -1, by rw [HK.out], (fun h => by rw [HK.out] at h; cases h), by first | exact ((Below.refl _ _).alloc (Nat.le_refl _) _).alloc (by simp) _ | exact four_below (((Below.refl _ _).alloc (Nat.le_refl _) _).alloc (by simp) _) _ (Nat.le_refl _) _ _ _ _ | skip⟩
set_option maxRecDepth 100000 in
set_option maxHeartbeats 4000000 in
theorem lin_four (g c : Nat) (l : List ByteArray) (w : World) (ht : Ts w g 0 l) (h4 : l.length = 4) : Calls Tryd.prog 51 #[.slice (some ⟨g, 0, none⟩) 4 c] w (LiP w l) := by
  have cc : ∀ k (hk : k < 4), w.cell? ⟨g, k, none⟩ = some (.string (wd l k)) := fun k hk => by
    have h := ht.2 k (by omega)
    rw [Nat.zero_add] at h
    rw [h, wd_at l k (by omega)]
  have hg := ht.1
  have HD0 := Lib.hid (fun W => num_any (wd l 0) W)
  have HD1 := Lib.hid (fun W => num_any (wd l 1) W)
  have HD2 := Lib.hid (fun W => num_any (wd l 2) W)
  have HK : Hid (rdK l = (nuK (wd l 0) && (nuK (wd l 1) && (nuK (wd l 2) && decide (0 ≤ flG (wd l 3)))))) := by
    show rdK l = _
    unfold rdK; rw [decide_eq_true h4]; rfl
  have HFO := Lib.hid (fo_three (wd l 3))
  have HCC : Hid (∀ W, Below w.heap.size w W → ∀ k, k < 4 → W.cell? ⟨g, k, none⟩ = some (.string (wd l k))) := fun W h k hk => (h.cell (p := ⟨g, k, none⟩) hg).trans (cc k hk)
  have hb2 : Below w.heap.size w ((w.alloc (.cells #[.int .i64 0, .int .i64 0, .int .i64 0, .int .i64 0] 23)).alloc (.cells #[.int .i64 0, .int .i64 0, .int .i64 0, .int .i64 (-1)] 23)) := ((Below.refl _ _).alloc (Nat.le_refl _) _).alloc (by simp) _
  have c0 := HCC.out _ hb2 0 (by omega)
  have c1 := HCC.out _ hb2 1 (by omega)
  have c2 := HCC.out _ hb2 2 (by omega)
  have HLS := Lib.hid (Ln.start w)
  have HA0 : Hid (nuN (sB (wd l 0)) (wd l 0).size = nuI (wd l 0)) := rfl
  have HA1 : Hid (nuN (sB (wd l 1)) (wd l 1).size = nuI (wd l 1)) := rfl
  have HA2 : Hid (nuN (sB (wd l 2)) (wd l 2).size = nuI (wd l 2)) := rfl
  have HB0 : Hid (nuB (sB (wd l 0)) (wd l 0).size = nuK (wd l 0)) := rfl
  have HB1 : Hid (nuB (sB (wd l 1)) (wd l 1).size = nuK (wd l 1)) := rfl
  have HB2 : Hid (nuB (sB (wd l 2)) (wd l 2).size = nuK (wd l 2)) := rfl
  rw [HA0.out, HB0.out] at HD0
  rw [HA1.out, HB1.out] at HD1
  rw [HA2.out, HB2.out] at HD2
  clear HA0 HA1 HA2 HB0 HB1 HB2 cc ht h4 hb2
  have HLX : Hid (∀ a b c' d w', (rdK l = true → a = nuI (wd l 0) ∧ b = nuI (wd l 1) ∧ c' = nuI (wd l 2) ∧ d = flG (wd l 3)) → Below w.heap.size w w' → LiP w l (.returned (.tuple #[.agg #[.int .i64 a, .int .i64 b, .int .i64 c', .int .i64 d], .bool (rdK l)])) w') := fun a b c' d w' h1 h2 => ⟨a, b, c', d, rfl, h1, h2⟩
  generalize nuI (wd l 0) = v0 at *
  generalize nuI (wd l 1) = v1 at *
  generalize nuI (wd l 2) = v2 at *
  generalize nuK (wd l 0) = y0 at *
  generalize nuK (wd l 1) = y1 at *
  generalize nuK (wd l 2) = y2 at *
  generalize wd l 0 = s0 at *
  generalize wd l 1 = s1 at *
  generalize wd l 2 = s2 at *
  go_enter Tryd.func51, Tryd.ntmps51
  go_wp2_with (first
    | (go_at_call_has 64 (Value.string s0); refine (HD0.out _).mono ?_; rintro e w' ⟨rfl, rfl⟩)
    | (go_at_call_has 64 (Value.string s1); refine (HD1.out _).mono ?_; rintro e w' ⟨rfl, rfl⟩)
    | (go_at_call_has 64 (Value.string s2); refine (HD2.out _).mono ?_; rintro e w' ⟨rfl, rfl⟩)
    | (go_at_call 38; refine (flags_any _).mono ?_; rintro e w' ⟨rfl, rfl⟩))
  generalize ((w.alloc (.cells #[.int .i64 0, .int .i64 0, .int .i64 0, .int .i64 0] 23)).alloc (.cells #[.int .i64 0, .int .i64 0, .int .i64 0, .int .i64 (-1)] 23)).alloc (.cells #[.string fl0, .string fl1, .string fl2] 9) = w3 at *
  clear c0 c1 c2 HD0 HD1 HD2
  go_loopw [41] (fun i wr => ∃ k : Nat, k ≤ 3 ∧ i = .int .i64 k ∧ Hid (Ln w (foG (wd l 3) k) wr)) (fun i _ => 3 - (intOf i).toNat)
  case atStart => exact ⟨0, by omega, rfl, HLS.out⟩
  case round =>
    obtain ⟨k, hk, rfl, hln⟩ := hrel
    by_cases hk3 : k < 3
    · have hki : (k : Int) < 3 := by omega
      have ck := hln.out.at k hk3
      have c3 := HCC.out wr hln.out.bel 3 (by omega)
      have n3 := hln.out.n3
      have f3 := hln.out.fn 3
      have HS : Hid (foG (wd l 3) (k + 1) = if fkS k = wd l 3 then (k : Int) else foG (wd l 3) k) := rfl
      by_cases heq : fkS k = wd l 3
      · have e2 := bq_yes heq
        have HS2 : Hid (foG (wd l 3) (k + 1) = (k : Int)) := by show _ = _; rw [HS.out, if_pos heq]
        clear heq HS
        generalize foG (wd l 3) k = fv at *
        generalize wd l 3 = s3 at *
        generalize fkS k = sk at *
        go_wp2
        go_roundw
        case rel => exact ⟨k + 1, by omega, by go_num, by rw [HS2.out]; exact hln.out.set⟩
        case measure => simp [intOf]; omega
      · have e2 := bq_no heq
        have HS2 : Hid (foG (wd l 3) (k + 1) = foG (wd l 3) k) := by show _ = _; rw [HS.out, if_neg heq]
        clear heq HS
        generalize foG (wd l 3) k = fv at *
        generalize wd l 3 = s3 at *
        generalize fkS k = sk at *
        go_wp2
        go_roundw
        case rel => exact ⟨k + 1, by omega, by go_num, by rw [HS2.out]; exact hln.out⟩
        case measure => simp [intOf]; omega
    · obtain rfl : k = 3 := by omega
      rw [HFO.out] at hln
      have d0 := hln.out.n0
      have d1 := hln.out.n1
      have d2 := hln.out.n2
      have d3 := hln.out.n3
      have e0 := hln.out.fn 0
      have e1 := hln.out.fn 1
      have e2 := hln.out.fn 2
      go_upto_region 14 with fail
      have hln2 : Ln w (flG (wd l 3)) wr := hln.out
      have hz4 := four_set wr (w.heap.size + 1) (.int .i64 v0) (.int .i64 v1) (.int .i64 v2) (.int .i64 (flG (wd l 3))) d0 d1 d2 d3
      obtain ⟨W0, hW0⟩ : ∃ W0, W0 = ((wr.setCell ⟨w.heap.size + 1, 0, none⟩ (.int .i64 v0)).setCell ⟨w.heap.size + 1, 1, none⟩ (.int .i64 v1)).setCell ⟨w.heap.size + 1, 2, none⟩ (.int .i64 v2) := ⟨_, rfl⟩
      have o : ∀ (V : World) (i j : Nat) (u v : Value), i ≠ j → V.cell? ⟨w.heap.size + 1, j, none⟩ = some v → (V.setCell ⟨w.heap.size + 1, i, none⟩ u).cell? ⟨w.heap.size + 1, j, none⟩ = some v := fun V i j u v hne h => cell_oth (by omega) h
      have s' : ∀ (V : World) (i : Nat) (u z : Value), V.cell? ⟨w.heap.size + 1, i, none⟩ = some z → (V.setCell ⟨w.heap.size + 1, i, none⟩ u).cell? ⟨w.heap.size + 1, i, none⟩ = some u := fun V i u z h => World.cell?_setCell_same _ _ _ h
      have b0 : W0.cell? ⟨w.heap.size + 1, 0, none⟩ = some (.int .i64 v0) := by rw [hW0]; exact o _ 2 0 _ _ (by omega) (o _ 1 0 _ _ (by omega) (s' _ 0 _ _ d0))
      have b1 : W0.cell? ⟨w.heap.size + 1, 1, none⟩ = some (.int .i64 v1) := by rw [hW0]; exact o _ 2 1 _ _ (by omega) (s' _ 1 _ _ (o _ 0 1 _ _ (by omega) d1))
      have b2 : W0.cell? ⟨w.heap.size + 1, 2, none⟩ = some (.int .i64 v2) := by rw [hW0]; exact s' _ 2 _ _ (o _ 1 2 _ _ (by omega) (o _ 0 2 _ _ (by omega) d2))
      have b3 : W0.cell? ⟨w.heap.size + 1, 3, none⟩ = some (.int .i64 (flG (wd l 3))) := by rw [hW0]; exact o _ 2 3 _ _ (by omega) (o _ 1 3 _ _ (by omega) (o _ 0 3 _ _ (by omega) d3))
      have q0 : W0.cell? ⟨w.heap.size, 0, none⟩ = some (.int .i64 0) := by rw [hW0]; exact cell_oth (by omega) (cell_oth (by omega) (cell_oth (by omega) hln2.z0))
      have q1 : W0.cell? ⟨w.heap.size, 1, none⟩ = some (.int .i64 0) := by rw [hW0]; exact cell_oth (by omega) (cell_oth (by omega) (cell_oth (by omega) hln2.z1))
      have q2 : W0.cell? ⟨w.heap.size, 2, none⟩ = some (.int .i64 0) := by rw [hW0]; exact cell_oth (by omega) (cell_oth (by omega) (cell_oth (by omega) hln2.z2))
      have q3 : W0.cell? ⟨w.heap.size, 3, none⟩ = some (.int .i64 0) := by rw [hW0]; exact cell_oth (by omega) (cell_oth (by omega) (cell_oth (by omega) hln2.z3))
      have fq : ∀ j, W0.frozen? ⟨w.heap.size, j, none⟩ = false := fun j => by rw [hW0]; simpa using hln2.fz j
      have hbw : Below w.heap.size w W0 := by
        rw [hW0]
        exact ((hln2.bel.setCell (p := ⟨w.heap.size + 1, 0, none⟩) (by show w.heap.size ≤ w.heap.size + 1; omega) _).setCell (p := ⟨w.heap.size + 1, 1, none⟩) (by show w.heap.size ≤ w.heap.size + 1; omega) _).setCell (p := ⟨w.heap.size + 1, 2, none⟩) (by show w.heap.size ≤ w.heap.size + 1; omega) _
      rw [← hW0]
      clear hW0 o s' hz4 d0 d1 d2 d3 hln hln2 HLS HCC HFO hk
      clear e0 e1 e2
      obtain ⟨fl, hfl⟩ : ∃ fl, fl = flG (wd l 3) := ⟨_, rfl⟩
      rw [← hfl] at b3 HK HLX
      have hlb := World.block_lt_of_cell? _ _ b0
      have hla := World.block_lt_of_cell? _ _ q0
      change _ < _ at hlb
      change _ < _ at hla
      obtain ⟨kb, hkb⟩ : ∃ kb, kb = w.heap.size + 1 := ⟨_, rfl⟩
      obtain ⟨ka, hka⟩ : ∃ ka, ka = w.heap.size := ⟨_, rfl⟩
      have hne : ¬ kb = ka := by omega
      have hne2 : ¬ ka = kb := by omega
      have hkk : ka < kb := by omega
      rw [← hkb] at b0 b1 b2 b3 hlb ⊢
      rw [← hka] at q0 q1 q2 q3 fq hla hbw ⊢
      have HKA := Lib.hid hka
      clear hkb hka hfl
      have HS0 : Hid (Sq ka kb w v0 v1 v2 fl W0) := ⟨b0, b1, b2, b3, (show Kq ka kb w W0 from ⟨hbw, hlb, hkk⟩)⟩
      have e0 : W0.drew.cell? ⟨ka, 0, none⟩ = some (.int .i64 0) := q0
      have e1 : W0.drew.cell? ⟨ka, 1, none⟩ = some (.int .i64 0) := q1
      have e2 : W0.drew.cell? ⟨ka, 2, none⟩ = some (.int .i64 0) := q2
      have e3 : W0.drew.cell? ⟨ka, 3, none⟩ = some (.int .i64 0) := q3
      have f0 : W0.drew.frozen? ⟨ka, 0, none⟩ = false := fq 0
      have f1 : W0.drew.frozen? ⟨ka, 1, none⟩ = false := fq 1
      have f2 : W0.drew.frozen? ⟨ka, 2, none⟩ = false := fq 2
      have f3 : W0.drew.frozen? ⟨ka, 3, none⟩ = false := fq 3
      have g0 := fq 0
      have g1 := fq 1
      have g2 := fq 2
      have g3 := fq 3
      have t3 : ((((W0.setCell ⟨ka, 0, none⟩ (.int .i64 v0)).setCell ⟨ka, 1, none⟩ (.int .i64 v1)).setCell ⟨ka, 2, none⟩ (.int .i64 v2)).setCell ⟨ka, 3, none⟩ (.int .i64 fl)).cell? ⟨ka, 3, none⟩ = some (.int .i64 fl) := World.cell?_setCell_same _ _ _ (cell_oth (by omega) (cell_oth (by omega) (cell_oth (by omega) q3)))
      clear fq hbw
      cases y0 with
      | false =>
          have HK2 : Hid (rdK l = false) := by show _ = _; rw [HK.out]; rfl
          clear HK
          go_region
          have h4 := four_set W0 ka (.int .i64 v0) (.int .i64 v1) (.int .i64 v2) (.int .i64 fl) q0 q1 q2 q3
          have HB9 := Lib.hid (Sq_drew (Sq_set (Sq_set (Sq_set (Sq_set HS0.out 0 (.int .i64 v0)) 1 (.int .i64 v1)) 2 (.int .i64 v2)) 3 (.int .i64 fl))).2.2.2.2.out.1
          have HFIN := Lib.hid (HLX.out v0 v1 v2 fl _ (by rw [HK2.out]; intro h; cases h) (by rw [← HKA.out]; exact HB9.out))
          rw [HK2.out] at HFIN
          go_wp2_with fail
          exact bodyPost_ret (v := .tuple #[.agg #[.int .i64 v0, .int .i64 v1, .int .i64 v2, .int .i64 fl], .bool false]) (by simp [results, Tryd.results51, go_sem, t3, h4.1, h4.2.1, h4.2.2.1]) rfl HFIN.out
      | true =>
        cases y1 with
        | false =>
          have HK2 : Hid (rdK l = false) := by show _ = _; rw [HK.out]; rfl
          clear HK
          go_region
          have h4 := four_set W0 ka (.int .i64 v0) (.int .i64 v1) (.int .i64 v2) (.int .i64 fl) q0 q1 q2 q3
          have HB9 := Lib.hid (Sq_drew (Sq_set (Sq_set (Sq_set (Sq_set HS0.out 0 (.int .i64 v0)) 1 (.int .i64 v1)) 2 (.int .i64 v2)) 3 (.int .i64 fl))).2.2.2.2.out.1
          have HFIN := Lib.hid (HLX.out v0 v1 v2 fl _ (by rw [HK2.out]; intro h; cases h) (by rw [← HKA.out]; exact HB9.out))
          rw [HK2.out] at HFIN
          go_wp2_with fail
          exact bodyPost_ret (v := .tuple #[.agg #[.int .i64 v0, .int .i64 v1, .int .i64 v2, .int .i64 fl], .bool false]) (by simp [results, Tryd.results51, go_sem, t3, h4.1, h4.2.1, h4.2.2.1]) rfl HFIN.out
        | true =>
          cases y2 with
          | false =>
            have HK2 : Hid (rdK l = false) := by show _ = _; rw [HK.out]; rfl
            clear HK
            go_region
            have h4 := four_set W0 ka (.int .i64 v0) (.int .i64 v1) (.int .i64 v2) (.int .i64 fl) q0 q1 q2 q3
            have HB9 := Lib.hid (Sq_drew (Sq_set (Sq_set (Sq_set (Sq_set HS0.out 0 (.int .i64 v0)) 1 (.int .i64 v1)) 2 (.int .i64 v2)) 3 (.int .i64 fl))).2.2.2.2.out.1
            have HFIN := Lib.hid (HLX.out v0 v1 v2 fl _ (by rw [HK2.out]; intro h; cases h) (by rw [← HKA.out]; exact HB9.out))
            rw [HK2.out] at HFIN
            go_wp2_with fail
            exact bodyPost_ret (v := .tuple #[.agg #[.int .i64 v0, .int .i64 v1, .int .i64 v2, .int .i64 fl], .bool false]) (by simp [results, Tryd.results51, go_sem, t3, h4.1, h4.2.1, h4.2.2.1]) rfl HFIN.out
          | true =>
            by_cases hf : 0 ≤ fl
            · have HK2 : Hid (rdK l = true) := by show _ = _; rw [HK.out, decide_eq_true hf]; rfl
              have hfd := decide_eq_true hf
              clear HK
              go_region
              have h4 := four_set W0 ka (.int .i64 v0) (.int .i64 v1) (.int .i64 v2) (.int .i64 fl) q0 q1 q2 q3
              have HB9 := Lib.hid (Sq_drew (Sq_set (Sq_set (Sq_set (Sq_set HS0.out 0 (.int .i64 v0)) 1 (.int .i64 v1)) 2 (.int .i64 v2)) 3 (.int .i64 fl))).2.2.2.2.out.1
              have HFIN := Lib.hid (HLX.out v0 v1 v2 fl _ (by rw [HK2.out]; intro _; exact ⟨rfl, rfl, rfl, rfl⟩) (by rw [← HKA.out]; exact HB9.out))
              rw [HK2.out] at HFIN
              go_wp2_with fail
              exact bodyPost_ret (v := .tuple #[.agg #[.int .i64 v0, .int .i64 v1, .int .i64 v2, .int .i64 fl], .bool true]) (by simp [results, Tryd.results51, go_sem, t3, h4.1, h4.2.1, h4.2.2.1]) rfl HFIN.out
            · have HK2 : Hid (rdK l = false) := by show _ = _; rw [HK.out, decide_eq_false hf]; rfl
              have hfd := decide_eq_false hf
              clear HK
              go_region
              have h4 := four_set W0 ka (.int .i64 v0) (.int .i64 v1) (.int .i64 v2) (.int .i64 fl) q0 q1 q2 q3
              have HB9 := Lib.hid (Sq_drew (Sq_set (Sq_set (Sq_set (Sq_set HS0.out 0 (.int .i64 v0)) 1 (.int .i64 v1)) 2 (.int .i64 v2)) 3 (.int .i64 fl))).2.2.2.2.out.1
              have HFIN := Lib.hid (HLX.out v0 v1 v2 fl _ (by rw [HK2.out]; intro h; cases h) (by rw [← HKA.out]; exact HB9.out))
              rw [HK2.out] at HFIN
              go_wp2_with fail
              exact bodyPost_ret (v := .tuple #[.agg #[.int .i64 v0, .int .i64 v1, .int .i64 v2, .int .i64 fl], .bool false]) (by simp [results, Tryd.results51, go_sem, t3, h4.1, h4.2.1, h4.2.2.1]) rfl HFIN.out
end Go.Proofs.YtlelcooomfcbaaaDoor.Gg

/-
  The contract of Encode of the reference of chapter 6.
-/
import Derived.Test.YtlelcooomfcbaaaDoorGgGet
import Derived.Deep.DeepCutAuto
import Derived.Deep.CutRange
import Derived.Deep.RegionHeld3
import Derived.Deep.AppendLies
namespace Go.Proofs.YtlelcooomfcbaaaDoor.Gg
open Go.ChangeShapes Go.WideShapes Go.ChangeAt Go.RowKit
set_option linter.unusedVariables false

/-- The ten bytes of a reading ahead of its Sum; its twelve bytes; those of k readings. -/
def enT (r : Nat → Int) : Nat → Int := catB (catB (catB (fun _ => r 0) (pbG (r 1)) 1) (pbG (r 2)) 5) (fun _ => r 3) 9
def enW (r : Nat → Int) : Nat → Int := catB (enT r) (fun j => if j = 0 then smG (enT r) 10 / 256 else smG (enT r) 10 % 256) 10
def enL (R : Nat → Nat → Int) : Nat → Nat → Int
  | 0 => fun _ => 0
  | k + 1 => catB (enL R k) (enW (R k)) (k * 12)
def EnP (w : World) (x : Int) (m : Nat) (B : Nat → Int) (e : Ending) (w' : World) : Prop :=
  ∃ v, e = .returned (.tuple #[v, .int .i64 x]) ∧ GotB w' w.heap.size v m B ∧ Below w.heap.size w w'
theorem lit_byte (w : World) (N : Nat) (x : Int) (hb : N ≤ w.heap.size) : GotB (w.alloc (.cells #[.int .u8 x] 5)) N (.slice (some ⟨w.heap.size, 0, none⟩) 1 1) 1 (fun _ => x) :=
  World.ownsRow_lit w #[.int .u8 x] 1 hb (by unfold maxLen; omega) rfl

theorem below_drew {B : Nat} {w w' : World} (h : Below B w w') : Below B w w'.drew := ⟨h.os, h.tape, h.output, h.size, h.block⟩
theorem cell_alloc {W : World} {kb i : Nat} {v : Value} (h : W.cell? ⟨kb, i, none⟩ = some v) (o : Obj) : (W.alloc o).cell? ⟨kb, i, none⟩ = some v :=
  ((Below.refl W.heap.size W).alloc (Nat.le_refl _) o |>.cell (p := ⟨kb, i, none⟩) (World.block_lt_of_cell? _ _ h)).trans h
theorem K4_drew {w3 W : World} {kb : Nat} {r0 r1 r2 r3 : Int} (h : (W.cell? ⟨kb, 0, none⟩ = some (.int .i64 r0) ∧ W.cell? ⟨kb, 1, none⟩ = some (.int .i64 r1) ∧ W.cell? ⟨kb, 2, none⟩ = some (.int .i64 r2) ∧ W.cell? ⟨kb, 3, none⟩ = some (.int .i64 r3) ∧ Hid (Below w3.heap.size w3 W))) : (W.drew.cell? ⟨kb, 0, none⟩ = some (.int .i64 r0) ∧ W.drew.cell? ⟨kb, 1, none⟩ = some (.int .i64 r1) ∧ W.drew.cell? ⟨kb, 2, none⟩ = some (.int .i64 r2) ∧ W.drew.cell? ⟨kb, 3, none⟩ = some (.int .i64 r3) ∧ Hid (Below w3.heap.size w3 W.drew)) := ⟨h.1, h.2.1, h.2.2.1, h.2.2.2.1, below_drew h.2.2.2.2.out⟩
theorem K4_alloc {w3 W : World} {kb : Nat} {r0 r1 r2 r3 : Int} (h : (W.cell? ⟨kb, 0, none⟩ = some (.int .i64 r0) ∧ W.cell? ⟨kb, 1, none⟩ = some (.int .i64 r1) ∧ W.cell? ⟨kb, 2, none⟩ = some (.int .i64 r2) ∧ W.cell? ⟨kb, 3, none⟩ = some (.int .i64 r3) ∧ Hid (Below w3.heap.size w3 W))) (o : Obj) : ((W.alloc o).cell? ⟨kb, 0, none⟩ = some (.int .i64 r0) ∧ (W.alloc o).cell? ⟨kb, 1, none⟩ = some (.int .i64 r1) ∧ (W.alloc o).cell? ⟨kb, 2, none⟩ = some (.int .i64 r2) ∧ (W.alloc o).cell? ⟨kb, 3, none⟩ = some (.int .i64 r3) ∧ Hid (Below w3.heap.size w3 (W.alloc o))) :=
  ⟨cell_alloc h.1 o, cell_alloc h.2.1 o, cell_alloc h.2.2.1 o, cell_alloc h.2.2.2.1 o, h.2.2.2.2.out.alloc h.2.2.2.2.out.size o⟩
theorem K4_below {w3 W W' : World} {kb : Nat} {r0 r1 r2 r3 : Int} (h : (W.cell? ⟨kb, 0, none⟩ = some (.int .i64 r0) ∧ W.cell? ⟨kb, 1, none⟩ = some (.int .i64 r1) ∧ W.cell? ⟨kb, 2, none⟩ = some (.int .i64 r2) ∧ W.cell? ⟨kb, 3, none⟩ = some (.int .i64 r3) ∧ Hid (Below w3.heap.size w3 W))) (hk : kb < w3.heap.size) (hb : Below w3.heap.size W W') : (W'.cell? ⟨kb, 0, none⟩ = some (.int .i64 r0) ∧ W'.cell? ⟨kb, 1, none⟩ = some (.int .i64 r1) ∧ W'.cell? ⟨kb, 2, none⟩ = some (.int .i64 r2) ∧ W'.cell? ⟨kb, 3, none⟩ = some (.int .i64 r3) ∧ Hid (Below w3.heap.size w3 W')) :=
  have c := fun i => hb.cell (p := ⟨kb, i, none⟩) hk
  ⟨(c 0).trans h.1, (c 1).trans h.2.1, (c 2).trans h.2.2.1, (c 3).trans h.2.2.2.1, h.2.2.2.2.out.trans hb⟩
/-- A small block is not that of a longer list. -/
theorem own_ne {w : World} {base n p : Nat} {v : Value} {B : Nat → Int} {cs : Array Value} {t : TypeId} {z : Nat × Nat} (h : GotB w base v n B) (hp : w.heap[p]? = some (.cells cs t z)) (hn : cs.size < n) : some p ≠ v.ownBlock := by
  intro e
  rcases h.2 with ⟨_, h2⟩ | ⟨g, cap, cur, rfl, hb, hg, hc, _, hs, _⟩
  · omega
  · simp only [Value.ownBlock, Option.some.injEq] at e
    subst e
    rw [hg] at hp
    simp only [Option.some.injEq, Obj.cells.injEq] at hp
    rw [hp.1] at hs
    omega
theorem K4_grown {w3 W W' : World} {kb : Nat} {r0 r1 r2 r3 : Int} {r : Option Nat} (h : (W.cell? ⟨kb, 0, none⟩ = some (.int .i64 r0) ∧ W.cell? ⟨kb, 1, none⟩ = some (.int .i64 r1) ∧ W.cell? ⟨kb, 2, none⟩ = some (.int .i64 r2) ∧ W.cell? ⟨kb, 3, none⟩ = some (.int .i64 r3) ∧ Hid (Below w3.heap.size w3 W))) (hk : kb < w3.heap.size) (hg : W.grownBy W' r) (hr : ∀ j, r = some j → w3.heap.size ≤ j) : (W'.cell? ⟨kb, 0, none⟩ = some (.int .i64 r0) ∧ W'.cell? ⟨kb, 1, none⟩ = some (.int .i64 r1) ∧ W'.cell? ⟨kb, 2, none⟩ = some (.int .i64 r2) ∧ W'.cell? ⟨kb, 3, none⟩ = some (.int .i64 r3) ∧ Hid (Below w3.heap.size w3 W')) :=
  K4_below h hk (((Below.refl W.heap.size W).mono h.2.2.2.2.out.size).grown hg h.2.2.2.2.out.size hr)
theorem byL_one1 (x : Int) : [Value.int .u8 x] = byL (fun _ => x) 1 := rfl
theorem one_news {W : World} {p : Nat} {x : Value} (h : W.cell? ⟨p, 0, none⟩ = some x) : ∀ j u, [x][j]? = some u → W.cell? ((⟨p, 0, none⟩ : Addr).add j) = some u := by
  intro j u hj
  match j, hj with
  | 0, hj => simp at hj; subst hj; exact h
theorem new_heap (w : World) (o : Obj) : (w.alloc o).heap[w.heap.size]? = some o := by
  show (w.heap.push o)[w.heap.size]? = _
  simp
/-- A byte beside the row that two calls turn. -/
theorem far_cell {W w5 w6 : World} {N p m : Nat} {r : Option Nat} {v5 : Value} {B : Nat → Int} {x : Int} {t : TypeId} (hg5 : GotB w5 N v5 m B) (hm : 1 < m) (hp : W.heap[p]? = some (.cells #[.int .u8 x] t (0, 0))) (hc : W.cell? ⟨p, 0, none⟩ = some (.int .u8 x)) (hne : some p ≠ r) (h5 : W.grownBy w5 r) (h6 : w5.grownBy w6 v5.ownBlock) : w6.cell? ⟨p, 0, none⟩ = some (.int .u8 x) := by
  have hlt : p < W.heap.size := World.block_lt_of_cell? _ _ hc
  have hp5 : w5.heap[p]? = some (.cells #[.int .u8 x] t (0, 0)) := (h5.block p hlt hne).trans hp
  exact h6.cell (h5.cell hc hne) (own_ne hg5 hp5 (by simpa using hm))
theorem belowG {w w' : World} (h : Below w.heap.size w w') (r : Option Nat) : w.grownBy w' r := ⟨h.os, h.tape, h.output, h.size, fun j hj _ => h.block j hj⟩
theorem gotB_kept {w w' : World} {base : Nat} {v : Value} {n : Nat} {B : Nat → Int} (h : GotB w base v n B) (hb : Below w.heap.size w w') : GotB w' base v n B := by
  by_cases e : v.ownBlock = none
  · exact h.kept (belowG hb none) (.inl e)
  · exact h.kept (belowG hb none) (.inr e)
theorem catB_bt {A C : Nat → Int} {p q : Nat} (hA : Bt A p) (hC : Bt C q) : Bt (catB A C p) (p + q) := fun i hi => by
  unfold catB
  by_cases e : i < p
  · rw [if_pos e]; exact hA i e
  · rw [if_neg e]; exact hC (i - p) (by omega)
theorem catB_assoc (A T f : Nat → Int) (p q i : Nat) : catB (catB A T p) f (p + q) i = catB A (catB T f q) p i := by
  unfold catB
  by_cases e1 : i < p
  · rw [if_pos (by omega), if_pos e1, if_pos e1]
  · by_cases e2 : i < p + q
    · rw [if_pos e2, if_neg e1, if_neg e1, if_pos (by omega)]
    · rw [if_neg e2, if_neg e1, if_neg (by omega), Nat.sub_sub]
theorem byL_two (a b : Int) : [Value.int .u8 a, Value.int .u8 b] = byL (fun j => if j = 0 then a else b) 2 := rfl
theorem enT_bt (r : Nat → Int) (h0 : 0 ≤ r 0 ∧ r 0 ≤ 255) (h1 : 0 ≤ r 1 ∧ r 1 ≤ 4294967295) (h2 : 0 ≤ r 2 ∧ r 2 ≤ 4294967295) (h3 : 0 ≤ r 3 ∧ r 3 ≤ 255) : Bt (enT r) 10 :=
  catB_bt (catB_bt (catB_bt (p := 1) (q := 4) (fun _ _ => h0) (pbG_bt _ h1.1 h1.2)) (q := 4) (pbG_bt _ h2.1 h2.2)) (q := 1) (fun _ _ => h3)

set_option maxRecDepth 100000 in
set_option maxHeartbeats 4000000 in
theorem genc_some (b off n c : Nat) (R : Nat → Nat → Int) (w : World) (hp : Rs w b off n R) (hn : n ≤ 4096) (hok : alG R n = 0) :
    Calls Tryd.prog 15 #[.slice (some ⟨b, off, none⟩) n c] w (EnP w 0 (n * 12) (enL R n)) := by
  obtain ⟨i0, hi, hz0, hz1, hz2⟩ := info_parts Tryd.infoB
  have HP := Lib.hid hp
  have HV := Lib.hid ((alG_zero R n).1 hok)
  have HA := Lib.hid (gall_any (some ⟨b, off, none⟩) n c R w (fun _ => ⟨b, off, rfl, hp⟩) (by omega))
  rw [hok] at HA
  have hni : (n : Int) ≤ 4096 := by omega
  clear hp hok
  go_enter Tryd.func15, Tryd.ntmps15
  go_wp2_with (go_at_call 32; refine HA.out.mono ?_; rintro e w1 ⟨rfl, hb1⟩; have HB1 := Lib.hid hb1; clear hb1)
  go_loopw [5, 20] (fun v i wr => ∃ (k : Nat) (V : Value), V = v ∧ k ≤ n ∧ i = .int .i64 k ∧ Hid (GotB wr w.heap.size v (k * 12) (enL R k)) ∧ Hid (Below w.heap.size w wr)) (fun _ i _ => n - (intOf i).toNat)
  case atStart => exact ⟨0, _, rfl, Nat.zero_le _, rfl, gotB_nil _ _ _, HB1⟩
  case round =>
    clear HB1
    obtain ⟨k, v, rfl, hk, rfl, hgot, hb⟩ := hrel
    by_cases hkn : k < n
    · have HP2 := Lib.hid (HP.out.up hb.out (Nat.le_refl _))
      obtain ⟨c0, c1, c2, c3⟩ := HP2.out.cells k hkn
      have hws := hb.out.size
      have hki : (k : Int) < (n : Int) := by omega
      have hv := HV.out k hkn
      unfold Vr at hv
      obtain ⟨v00, v01, v10, v11, v20, v21, v30, v31⟩ := hv
      have HE : Hid (enT (R k) = catB (catB (catB (fun _ => R k 0) (pbG (R k 1)) 1) (pbG (R k 2)) 5) (fun _ => R k 3) 9) := rfl
      have HEL : Hid (enL R (k + 1) = catB (enL R k) (enW (R k)) (k * 12)) := rfl
      have HBT : Hid (Bt (enT (R k)) 10) := enT_bt (R k) ⟨v00, v01⟩ ⟨v10, by omega⟩ ⟨v20, by omega⟩ ⟨v30, by omega⟩
      have HEW : Hid (enW (R k) = catB (enT (R k)) (fun j => if j = 0 then smG (enT (R k)) 10 / 256 else smG (enT (R k)) 10 % 256) 10) := rfl
      clear HP2
      generalize R k 0 = r0 at *
      generalize R k 1 = r1 at *
      generalize R k 2 = r2 at *
      generalize R k 3 = r3 at *
      have wx0 : IntKind.u8.wrap r0 = r0 := by rw [IntKind.wrap_u8]; omega
      have wx3 : IntKind.u8.wrap r3 = r3 := by rw [IntKind.wrap_u8]; omega
      go_upto_region 10 with fail
      generalize hw3 : wr.alloc _ = w3
      have hkb0 : w3.heap.size = wr.heap.size + 1 := by rw [← hw3]; simp
      have k0 : w3.cell? ⟨wr.heap.size, 0, none⟩ = some (.int .i64 r0) := by rw [← hw3]; simp
      have k1 : w3.cell? ⟨wr.heap.size, 1, none⟩ = some (.int .i64 r1) := by rw [← hw3]; simp
      have k2 : w3.cell? ⟨wr.heap.size, 2, none⟩ = some (.int .i64 r2) := by rw [← hw3]; simp
      have k3 : w3.cell? ⟨wr.heap.size, 3, none⟩ = some (.int .i64 r3) := by rw [← hw3]; simp
      have hgot3 : Hid (GotB w3 w.heap.size v (k * 12) (enL R k)) := by rw [← hw3]; exact World.ownsRow.alloc hgot.out _
      have hb3 : Hid (Below w.heap.size w w3) := by rw [← hw3]; exact hb.out.alloc hws _
      clear hw3 hgot hb c0 c1 c2 c3
      generalize wr.heap.size = kb at *
      have hkb : kb < w3.heap.size := by omega
      clear hkb0
      have HS0 : Hid (w3.cell? ⟨kb, 0, none⟩ = some (.int .i64 r0) ∧ w3.cell? ⟨kb, 1, none⟩ = some (.int .i64 r1) ∧ w3.cell? ⟨kb, 2, none⟩ = some (.int .i64 r2) ∧ w3.cell? ⟨kb, 3, none⟩ = some (.int .i64 r3) ∧ Hid (Below w3.heap.size w3 w3)) := ⟨k0, k1, k2, k3, Below.refl _ _⟩
      have HPUT : Hid (∀ (W : World) (u : Value) (m : Nat) (Bv : Nat → Int) (x : Int), (W.cell? ⟨kb, 0, none⟩ = some (.int .i64 r0) ∧ W.cell? ⟨kb, 1, none⟩ = some (.int .i64 r1) ∧ W.cell? ⟨kb, 2, none⟩ = some (.int .i64 r2) ∧ W.cell? ⟨kb, 3, none⟩ = some (.int .i64 r3) ∧ Hid (Below w3.heap.size w3 W)) → 0 ≤ x → x ≤ 4294967295 → GotB W w3.heap.size u m Bv → m ≤ 100 → Calls Tryd.prog 33 #[u, .int .i64 x] W fun e w' => ∃ v', e = .returned v' ∧ GotB w' w3.heap.size v' (m + 4) (catB Bv (pbG x) m) ∧ (w'.cell? ⟨kb, 0, none⟩ = some (.int .i64 r0) ∧ w'.cell? ⟨kb, 1, none⟩ = some (.int .i64 r1) ∧ w'.cell? ⟨kb, 2, none⟩ = some (.int .i64 r2) ∧ w'.cell? ⟨kb, 3, none⟩ = some (.int .i64 r3) ∧ Hid (Below w3.heap.size w3 w')) ∧ W.grownBy w' u.ownBlock) := fun W u m Bv x hs h0 h1 hg hm => (gput_any u m w3.heap.size Bv x W h0 h1 hg (by omega) hs.2.2.2.2.out.size).mono (fun e w' hh => by
        obtain ⟨v', he, hg', hb', hgr⟩ := hh
        exact ⟨v', he, hg', K4_below hs hkb hb', hgr⟩)
      have GA : Hid (GotB (w3.alloc (.cells #[.int .u8 r0] 5)) w3.heap.size (.slice (some ⟨w3.heap.size, 0, none⟩) 1 1) 1 (fun _ => r0)) := lit_byte w3 _ r0 (Nat.le_refl _)
      have GA2 : Hid (GotB ((w3.alloc (.cells #[.int .u8 r0] 5)).alloc (.cells #[.int .u8 r3] 5)) w3.heap.size (.slice (some ⟨w3.heap.size, 0, none⟩) 1 1) 1 (fun _ => r0)) := World.ownsRow.alloc GA.out _
      have GB : Hid (GotB ((w3.alloc (.cells #[.int .u8 r3] 5)).alloc (.cells #[.int .u8 r0] 5)) w3.heap.size (.slice (some ⟨w3.heap.size + 1, 0, none⟩) 1 1) 1 (fun _ => r0)) := by
        have h := lit_byte (w3.alloc (.cells #[.int .u8 r3] 5)) w3.heap.size r0 (by simp)
        rw [World.size_alloc] at h
        exact h
      have HZ1 : Hid (((w3.alloc (.cells #[.int .u8 r0] 5)).alloc (.cells #[.int .u8 r3] 5)).heap[w3.heap.size + 1]? = some (.cells #[.int .u8 r3] 5)) := by
        have h := new_heap (w3.alloc (.cells #[.int .u8 r0] 5)) (.cells #[.int .u8 r3] 5)
        rw [World.size_alloc] at h
        exact h
      have HY1 : Hid (((w3.alloc (.cells #[.int .u8 r0] 5)).alloc (.cells #[.int .u8 r3] 5)).cell? ⟨w3.heap.size + 1, 0, none⟩ = some (.int .u8 r3)) := by
        have h : ((w3.alloc (.cells #[.int .u8 r0] 5)).alloc (.cells #[.int .u8 r3] 5)).cell? ⟨(w3.alloc (.cells #[.int .u8 r0] 5)).heap.size, 0, none⟩ = some (.int .u8 r3) := by simp
        rw [World.size_alloc] at h
        exact h
      have HZ2 : Hid (((w3.alloc (.cells #[.int .u8 r3] 5)).alloc (.cells #[.int .u8 r0] 5)).heap[w3.heap.size]? = some (.cells #[.int .u8 r3] 5)) :=
        (((Below.refl (w3.alloc (.cells #[.int .u8 r3] 5)).heap.size (w3.alloc (.cells #[.int .u8 r3] 5))).alloc (Nat.le_refl _) (.cells #[.int .u8 r0] 5)).block w3.heap.size (by simp)).trans (new_heap w3 (.cells #[.int .u8 r3] 5))
      have HY2 : Hid (((w3.alloc (.cells #[.int .u8 r3] 5)).alloc (.cells #[.int .u8 r0] 5)).cell? ⟨w3.heap.size, 0, none⟩ = some (.int .u8 r3)) := cell_alloc (by simp) _
      go_cut [8, 20] from 20 to 51 (fun s8 s20 wx => s20 = .int .i64 k ∧ Hid (GotB wx w3.heap.size s8 10 (enT (R k)) ∧ Below w3.heap.size w3 wx))
      case first =>
        clear k0 k1 k2 k3
        go_region_held3 (fun W => (W.cell? ⟨kb, 0, none⟩ = some (.int .i64 r0) ∧ W.cell? ⟨kb, 1, none⟩ = some (.int .i64 r1) ∧ W.cell? ⟨kb, 2, none⟩ = some (.int .i64 r2) ∧ W.cell? ⟨kb, 3, none⟩ = some (.int .i64 r3) ∧ Hid (Below w3.heap.size w3 W))) (first | (with_reducible assumption) | (with_reducible exact K4_drew HS0.out) | (with_reducible exact K4_drew (K4_alloc HS0.out _)) | (with_reducible exact K4_drew (K4_alloc (K4_alloc HS0.out _) _)) | (with_reducible exact K4_alloc (by assumption) _) | fail) (first
          | (go_at_call_has 33 (Value.int .i64 r1); refine (HPUT.out _ _ 1 (fun _ => r0) r1 (by assumption) (by omega) (by omega) (by first | exact GA.out | exact GA2.out | exact GB.out) (by omega)).mono ?_; rintro e w5 ⟨v5, rfl, hg5, hs5, hgr5⟩; have HG5 := Lib.hid hg5; have HR5 := Lib.hid hgr5; clear hg5 hgr5)
          | (go_at_call_has 33 (Value.int .i64 r2); refine (HPUT.out _ _ 5 (catB (fun _ => r0) (pbG r1) 1) r2 (by assumption) (by omega) (by omega) (by first | exact HG5.out | exact World.ownsRow.alloc HG5.out _) (by omega)).mono ?_; rintro e w6 ⟨v6, rfl, hg6, hs6, hgr6⟩; have HG6 := Lib.hid hg6; have HR6 := Lib.hid hgr6; have HB6 := Lib.hid hs6.2.2.2.2.out; clear hg6 hgr6)
          | (refine step_append_lies _ (by rfl) _ _ _ (by rfl) w3.heap.size 5 i0 (.int .u8 0) 1 1 Tryd.underlying24 hi hz0 hz1 hz2 rfl (by omega) v6 9 (byL (catB (catB (fun _ => r0) (pbG r1) 1) (pbG r2) 5) 9) (by rfl) (World.ownsRow.alloc HG6.out _) ⟨w6.heap.size, 0, none⟩ 1 1 [.int .u8 r3] (by rfl) (by rfl) (one_news (by simp)) (by simp [Value.oneCell']) (by omega) (by unfold maxLen; omega) (by omega) (by have := HB6.out.size; simp; omega) _ rfl ?_; intro gg cap w9 hown9 hgrow hat hlt; have HG9 : Hid (GotB w9 w3.heap.size (.slice (some ⟨gg, 0, none⟩) 10 cap) 10 (catB (catB (catB (fun _ => r0) (pbG r1) 1) (pbG r2) 5) (fun _ => r3) 9)) := (by rw [byL_one1 r3, byL_app] at hown9; exact hown9); have hs9 := K4_grown (by assumption) hkb hgrow (fun j hj => gotB_block HG6.out j hj); clear hown9 hgrow)
          | (refine step_append_lies _ (by rfl) _ _ _ (by rfl) w3.heap.size 5 i0 (.int .u8 0) 1 1 Tryd.underlying24 hi hz0 hz1 hz2 rfl (by omega) v6 9 (byL (catB (catB (fun _ => r0) (pbG r1) 1) (pbG r2) 5) 9) (by rfl) HG6.out ⟨w5.heap.size, 0, none⟩ 1 1 [.int .u8 r3] (by rfl) (by rfl) (one_news (HR6.out.cell (by simp) (fun e => Nat.lt_irrefl _ (World.ownsRow.lt HG5.out _ e.symm).2))) (by simp [Value.oneCell']) (by omega) (by unfold maxLen; omega) (by omega) (by have := HB6.out.size; simp; omega) _ rfl ?_; intro gg cap w9 hown9 hgrow hat hlt; have HG9 : Hid (GotB w9 w3.heap.size (.slice (some ⟨gg, 0, none⟩) 10 cap) 10 (catB (catB (catB (fun _ => r0) (pbG r1) 1) (pbG r2) 5) (fun _ => r3) 9)) := (by rw [byL_one1 r3, byL_app] at hown9; exact hown9); have hs9 := K4_grown (by assumption) hkb hgrow (fun j hj => gotB_block HG6.out j hj); clear hown9 hgrow)
          | (refine step_append_lies _ (by rfl) _ _ _ (by rfl) w3.heap.size 5 i0 (.int .u8 0) 1 1 Tryd.underlying24 hi hz0 hz1 hz2 rfl (by omega) v6 9 (byL (catB (catB (fun _ => r0) (pbG r1) 1) (pbG r2) 5) 9) (by rfl) HG6.out ⟨w3.heap.size + 1, 0, none⟩ 1 1 [.int .u8 r3] (by rfl) (by rfl) (one_news (far_cell (W := ((w3.alloc (.cells #[.int .u8 r0] 5)).alloc (.cells #[.int .u8 r3] 5)).drew) HG5.out (by omega) HZ1.out HY1.out (by intro e; simp only [Value.ownBlock, Option.some.injEq] at e; omega) HR5.out HR6.out)) (by simp [Value.oneCell']) (by omega) (by unfold maxLen; omega) (by omega) (by have := HB6.out.size; simp; omega) _ rfl ?_; intro gg cap w9 hown9 hgrow hat hlt; have HG9 : Hid (GotB w9 w3.heap.size (.slice (some ⟨gg, 0, none⟩) 10 cap) 10 (catB (catB (catB (fun _ => r0) (pbG r1) 1) (pbG r2) 5) (fun _ => r3) 9)) := (by rw [byL_one1 r3, byL_app] at hown9; exact hown9); have hs9 := K4_grown (by assumption) hkb hgrow (fun j hj => gotB_block HG6.out j hj); clear hown9 hgrow)
          | (refine step_append_lies _ (by rfl) _ _ _ (by rfl) w3.heap.size 5 i0 (.int .u8 0) 1 1 Tryd.underlying24 hi hz0 hz1 hz2 rfl (by omega) v6 9 (byL (catB (catB (fun _ => r0) (pbG r1) 1) (pbG r2) 5) 9) (by rfl) HG6.out ⟨w3.heap.size, 0, none⟩ 1 1 [.int .u8 r3] (by rfl) (by rfl) (one_news (far_cell (W := ((w3.alloc (.cells #[.int .u8 r3] 5)).alloc (.cells #[.int .u8 r0] 5)).drew) HG5.out (by omega) HZ2.out HY2.out (by intro e; simp only [Value.ownBlock, Option.some.injEq] at e; omega) HR5.out HR6.out)) (by simp [Value.oneCell']) (by omega) (by unfold maxLen; omega) (by omega) (by have := HB6.out.size; simp; omega) _ rfl ?_; intro gg cap w9 hown9 hgrow hat hlt; have HG9 : Hid (GotB w9 w3.heap.size (.slice (some ⟨gg, 0, none⟩) 10 cap) 10 (catB (catB (catB (fun _ => r0) (pbG r1) 1) (pbG r2) 5) (fun _ => r3) 9)) := (by rw [byL_one1 r3, byL_app] at hown9; exact hown9); have hs9 := K4_grown (by assumption) hkb hgrow (fun j hj => gotB_block HG6.out j hj); clear hown9 hgrow))
        all_goals (go_wp2_with fail; go_meet; exact ⟨rfl, (show GotB _ _ _ _ _ ∧ _ from ⟨by rw [HE.out]; exact HG9.out, hs9.2.2.2.2.out⟩)⟩)
      case rest =>
        obtain ⟨rfl, hcut2⟩ := hcut
        obtain ⟨hg8, hbx⟩ := hcut2.out
        clear hcut2
        obtain ⟨g8, cap8, rfl, hng, hby, hc8, _⟩ := gotB_by hg8 (by omega)
        have HS := Lib.hid (gsum_any (some ⟨g8, 0, none⟩) 10 cap8 (enT (R k)) wc (fun _ => ⟨g8, 0, rfl, hby⟩) HBT.out (by omega))
        have HBY := Lib.hid hby
        have hgx := Lib.hid (gotB_kept hgot3.out hbx)
        have hbw := Lib.hid (hb3.out.trans (hbx.mono hb3.out.size))
        have hsw := hbw.out.size
        obtain ⟨s0, s1⟩ := smG_bd (enT (R k)) 10
        clear hg8 hby hbx hc8 hgot3 hb3 GA GA2 GB HZ1 HZ2 HY1 HY2 HPUT HS0 k0 k1 k2 k3
        generalize smG (enT (R k)) 10 = s at *
        go_wp2_with (first
          | (go_at_call 21; refine HS.out.mono ?_; rintro e w5 ⟨rfl, rfl⟩)
          | (at_builtin; first
            | (refine wpList_append_own _ rfl _ _ 24 rfl w.heap.size 5 i0 (.int .u8 0) 1 1 Tryd.underlying24 hi hz0 hz1 hz2 rfl (by decide) v (k * 12) _ rfl hgx.out ⟨g8, 0, none⟩ 10 cap8 (byL (enT (R k)) 10) rfl (byL_len _ _) (by_news HBY.out) (byL_one _ _) (by unfold maxLen; omega) (by omega) hsw ?_; intro v6 w6 hown6 hgrow6 hnil6; have HG6 : Hid (GotB w6 w.heap.size v6 (k * 12 + 10) (catB (enL R k) (enT (R k)) (k * 12))) := (by rw [byL_app] at hown6; exact hown6); have HB6 := Lib.hid (below_own hbw.out (Nat.le_refl _) hgrow6 (fun j hj => gotB_block hgx.out j hj)); have hs6 := HB6.out.size; clear hown6 hgrow6 hnil6)
            | (refine wpList_append_own _ rfl _ _ 24 rfl w.heap.size 5 i0 (.int .u8 0) 1 1 Tryd.underlying24 hi hz0 hz1 hz2 rfl (by decide) v6 (k * 12 + 10) _ rfl (World.ownsRow.alloc HG6.out _) ⟨w6.heap.size, 0, none⟩ 2 2 [.int .u8 (s / 256), .int .u8 (s % 256)] rfl rfl (Cu.cell_two _ _ _ _) (by intro u hu; simp at hu; rcases hu with rfl | rfl <;> rfl) (by unfold maxLen; omega) (by omega) (by simp; omega) ?_; intro v7 w7 hown7 hgrow7 hnil7; have HG7 : Hid (GotB w7 w.heap.size v7 (k * 12 + 10 + 2) (catB (catB (enL R k) (enT (R k)) (k * 12)) (fun j => if j = 0 then s / 256 else s % 256) (k * 12 + 10))) := (by rw [byL_two, byL_app] at hown7; exact hown7); have HB7 := Lib.hid (below_own (HB6.out.alloc hs6 _) (Nat.le_refl _) hgrow7 (fun j hj => gotB_block HG6.out j hj)); clear hown7 hgrow7 hnil7)))
        go_roundw
        case rel => exact ⟨k + 1, _, rfl, by omega, by go_num, by
          have h := gotB_congr (B' := enL R (k + 1)) HG7.out (fun i _ => by rw [HEL.out, HEW.out]; exact catB_assoc _ _ _ _ _ _)
          rw [show (k + 1) * 12 = k * 12 + 10 + 2 by omega]
          exact h, HB7⟩
        case measure => simp [intOf]; omega
    · obtain rfl : k = n := by omega
      go_wp2
      go_ret2
      exact ⟨v, rfl, hgot.out, hb.out⟩
end Go.Proofs.YtlelcooomfcbaaaDoor.Gg

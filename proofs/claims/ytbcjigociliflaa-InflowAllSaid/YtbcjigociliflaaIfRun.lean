/-
  The deck's Flows; the volumes and flows that the laws make.
-/
import Derived.Test.YtbcjigociliflaaIfBlr
import Derived.Test.YtbcjigociliflaaCuDeck
namespace Go.Proofs.Ytbcjigociliflaa.If
open Go.ChangeShapes Go.WideShapes Go.ChangeAt Go.RowKit
open Go.Proofs.Ytbcjigociliflaa.Qu (sumZ sumZ_congr Rd Got got_nil got_rd got_block upd)
open Go.Proofs.Ytbcjigociliflaa.Cu (Dk NxP next_any new_any grown_trans grown_refl grown_drewN grown_own below_of_grown)
set_option linter.unusedVariables false

theorem got_extend {w : World} {base : Nat} {v : Value} {k : Nat} {f : Nat → Int} {x : Int} (h : w.ownsRow base 3 1 v (k + 1) (((List.range k).map fun i => Value.int .i64 (f i)) ++ [.int .i64 x])) : Got w base v (k + 1) (upd f k x) := by
  have e : (List.range k).map (fun i => Value.int .i64 (f i)) = (List.range k).map (fun i => Value.int .i64 (upd f k x i)) := by
    apply List.map_congr_left
    intro i hi
    rw [Qu.upd_other _ _ (by have := List.mem_range.1 hi; omega)]
  rw [e] at h
  exact got_next' h (Qu.upd_same f k x).symm
/-- What can be read of a list of the call's own. -/
theorem got_all {w : World} {base : Nat} {v : Value} {n : Nat} {f : Nat → Int} (h : Got w base v n f) : ∃ p cap, v = .slice p n cap ∧ Rd w p n f ∧ n ≤ cap ∧ (0 < n → ∃ g, p = some ⟨g, 0, none⟩ ∧ base ≤ g ∧ Qu.Own w g n f) ∧ ∀ b off, p = some ⟨b, off, none⟩ → base ≤ b ∧ b < w.heap.size := by
  rcases h.2 with ⟨rfl, rfl⟩ | ⟨g, cap, cur, rfl, hb, hg, hc, _, _, _⟩
  · exact ⟨none, 0, rfl, fun h => absurd h (Nat.lt_irrefl _), Nat.le_refl _, fun h => absurd h (Nat.lt_irrefl _), fun b off e => by cases e⟩
  · have hl := (h.lt g rfl).2
    have ho : Qu.Own w g n f := ⟨hl, fun i hi => ⟨by rw [h.cellAt i (by omega)]; simp [hi], h.frozenAt i⟩⟩
    exact ⟨_, cap, rfl, ho.rd, hc, fun _ => ⟨g, rfl, hb, ho⟩, fun b off e => by cases e; exact ⟨hb, hl⟩⟩

/-- What Flows returns. -/
def FlP (w : World) (g : Nat) (p : Option Addr) (n c : Nat) (z : Nat → Int) (k : Nat) (most : Int) (e : Ending) (w' : World) : Prop :=
  ∃ (v : Value) (f : Nat → Int), e = .returned v ∧ Got w' w.heap.size v k f ∧ (∀ i, i < k → 0 ≤ f i ∧ f i < most) ∧ Dk w' g p n c z ∧ w.grownBy w' (some g)

set_option maxHeartbeats 1000000 in
theorem flows_any (g : Nat) (p : Option Addr) (n c : Nat) (z : Nat → Int) (k : Nat) (most : Int) (w : World) (hd : Dk w g p n c z) (hk : k ≤ 4096) (hm : 1 ≤ most ∧ most ≤ 1073741824) :
    Calls Try.prog 25 #[.pointer (some ⟨g, 0, none⟩), .int .i64 (k : Int), .int .i64 most] w (FlP w g p n c z k most) := by
  obtain ⟨m1, m2⟩ := hm
  obtain ⟨i0, hi, hz0, hz1, hz2⟩ := info_parts Qu.Try.info3
  have HD := Lib.hid hd
  have hgl := hd.lt
  have HG0 := Lib.hid (got_nil w w.heap.size (fun _ => 0))
  have HR0 := Lib.hid (grown_refl w (some g))
  clear hd
  go_enter Try.func25, Try.ntmps25
  go_wp2
  go_loopw [7, 9] (fun v i wr => ∃ (j : Nat) (V : Value) (f : Nat → Int), V = v ∧ j ≤ k ∧ i = .int .i64 j ∧ Hid (Got wr w.heap.size v j f) ∧ Hid (∀ i, i < j → 0 ≤ f i ∧ f i < most) ∧ Hid (Dk wr g p n c z) ∧ Hid (w.grownBy wr (some g))) (fun _ i _ => k - (intOf i).toNat)
  case atStart => exact ⟨0, _, _, rfl, Nat.zero_le _, rfl, HG0, fun i hi => absurd hi (Nat.not_lt_zero _), HD, HR0⟩
  case round =>
    clear HD HG0 HR0
    obtain ⟨j, V, f, rfl, hj, rfl, hgot, hf, hdk, hgr⟩ := hrel
    by_cases hlt : j < k
    · have hji : (j : Int) < (k : Int) := by omega
      have HGL : Hid (∀ k, Value.ownBlock V = some k → k ≠ g) := fun k hk => by have := got_block hgot.out k hk; omega
      have hne : Hid (V.ownBlock = none ∨ V.ownBlock ≠ some g) := .inr fun e => HGL.out g e rfl
      have hws := hgr.out.size
      go_wp2_with (first
        | (go_at_call 24; refine (next_any g p n c z _ _ hdk.out (by omega)).mono ?_; rintro e w2 ⟨r, rfl, hr1, hr2, hd2, hg2⟩)
        | (at_builtin; refine wpList_append_own _ rfl _ _ 22 rfl w.heap.size 3 i0 (.int .i64 0) 1 8 Try.underlying22 hi hz0 hz1 hz2 rfl (by decide) _ j _ rfl ((hgot.out.kept hg2 hne.out).alloc _) ⟨w2.heap.size, 0, none⟩ 1 1 [.int .i64 r] rfl rfl (cell_one _ _ _) (fun u hu => by simp at hu; subst hu; rfl) (by unfold maxLen; omega) (by omega) (by have := hg2.size; simp; omega) ?_; intro v' w4 hown' hgrow hnil))
      have HG' : Hid (Got w4 w.heap.size v' (j + 1) (upd f j r)) := got_extend hown'
      have HF' : Hid (∀ i, i < j + 1 → 0 ≤ upd f j r i ∧ upd f j r i < most) := fun i hi => by
        by_cases e : i = j
        · subst e; rw [Qu.upd_same]; omega
        · rw [Qu.upd_other _ _ e]; exact hf.out i (by omega)
      have HD' : Hid (Dk w4 g p n c z) := (hd2.alloc _).grown hgrow (fun e => HGL.out g e.symm rfl) (fun k hk => by have := got_block hgot.out k hk; omega)
      have HR' : Hid (w.grownBy w4 (some g)) := grown_own (grown_trans (grown_trans hgr.out hg2) (World.grownBy_alloc w2 _ (some g))) hgrow (fun k hk => got_block hgot.out k hk)
      clear hown' hgrow hnil hd2 hg2 hgot hdk hgr hf
      go_wp2
      go_roundw
      case rel => exact ⟨j + 1, _, _, rfl, by omega, by go_num, HG', HF', HD', HR'⟩
      case measure => simp [intOf]; omega
    · obtain rfl : j = k := by omega
      go_wp2
      go_ret
      exact ⟨_, f, rfl, hgot.out, hf.out, hdk.out, hgr.out⟩

theorem flows_int (g : Nat) (p : Option Addr) (n c : Nat) (z : Nat → Int) (k : Nat) (K : Int) (most : Int) (w : World) (hd : Dk w g p n c z) (hK : K = (k : Int)) (hk : k ≤ 4096) (hm : 1 ≤ most ∧ most ≤ 1073741824) :
    Calls Try.prog 25 #[.pointer (some ⟨g, 0, none⟩), .int .i64 K, .int .i64 most] w (FlP w g p n c z k most) := by
  subst hK
  exact flows_any g p n c z k most w hd hk hm

/-- The volumes and flows out of a run. -/
structure Rn (w w' : World) (m : Nat) (pv po : Option Addr) (cv co gv : Nat) (V O : Nat → Int) : Prop where
  len : m ≤ 13
  vol : ∀ i, i < m + 1 → 0 ≤ V i ∧ V i < 200
  out : ∀ i, i < m → 0 ≤ O i ∧ O i < 40
  pve : pv = some ⟨gv, 0, none⟩
  own : Qu.Own w' gv (m + 1) V
  rd : Rd w' po m O
  cvl : m + 1 ≤ cv
  col : m ≤ co
  gvl : w.heap.size ≤ gv
  apart : ∀ b off, po = some ⟨b, off, none⟩ → b ≠ gv ∧ w.heap.size ≤ b
def RnP (w : World) (g : Nat) (p : Option Addr) (n c : Nat) (z : Nat → Int) (e : Ending) (w' : World) : Prop :=
  ∃ (m : Nat) (pv po : Option Addr) (cv co gv : Nat) (V O : Nat → Int), e = .returned (.tuple #[.slice pv (m + 1) cv, .slice po m co]) ∧ Rn w w' m pv po cv co gv V O ∧ Dk w' g p n c z ∧ w.grownBy w' (some g)

set_option maxHeartbeats 1000000 in
theorem run_any (g : Nat) (p : Option Addr) (n c : Nat) (z : Nat → Int) (w : World) (hd : Dk w g p n c z) :
    Calls Try.prog 10 #[.pointer (some ⟨g, 0, none⟩)] w (RnP w g p n c z) := by
  have HD := Lib.hid hd
  have hgl := hd.lt
  clear hd
  go_enter Try.func10, Try.ntmps10
  go_wp2_with (first
    | (go_at_call 24; refine (next_any g p n c z _ _ HD.out (by omega)).mono ?_; rintro e w2 ⟨r, rfl, hr1, hr2, hd2, hg2⟩; obtain ⟨m, rfl⟩ : ∃ m : Nat, r = (m : Int) := ⟨r.toNat, (by omega)⟩; have HD2 := Lib.hid hd2; have HG2 := Lib.hid hg2; clear hd2 hg2 HD)
    | (go_at_call_has 25 (Value.int .i64 200); refine (flows_int g p n c z (m + 1) _ 200 _ HD2.out (by omega) (by omega) (by omega)).mono ?_; rintro e w3 ⟨v3, f3, rfl, hg3, hf3, hd3, hr3⟩; have HG3 := Lib.hid hg3; have HF3 := Lib.hid hf3; have HD3 := Lib.hid hd3; have HR3 := Lib.hid hr3; clear hg3 hf3 hd3 hr3 HD2)
    | (go_at_call_has 25 (Value.int .i64 40); refine (flows_int g p n c z m _ 40 _ HD3.out (by omega) (by omega) (by omega)).mono ?_; rintro e w4 ⟨v4, f4, rfl, hg4, hf4, hd4, hr4⟩; have HG4 := Lib.hid hg4; have HF4 := Lib.hid hf4; have HD4 := Lib.hid hd4; have HR4 := Lib.hid hr4; clear hg4 hf4 hd4 hr4 HD3))
  go_ret2
  have hs2 := HG2.out.size
  have hs3 := HR3.out.size
  obtain ⟨p3, c3, rfl, _, hc3, ho3, _⟩ := got_all HG3.out
  obtain ⟨p4, c4, rfl, hr4, hc4, _, hb4⟩ := got_all HG4.out
  obtain ⟨gv, rfl, hgv, hov⟩ := ho3 (by omega)
  have hne : some gv ≠ some g := fun e => by have := Option.some.inj e; omega
  refine ⟨m, _, p4, c3, c4, gv, f3, f4, rfl, ⟨by omega, HF3.out, HF4.out, rfl, ?_, hr4, hc3, hc4, by omega, fun b off e => ?_⟩, HD4.out, grown_trans HG2.out (grown_trans HR3.out HR4.out)⟩
  · exact ⟨Nat.lt_of_lt_of_le hov.1 HR4.out.size, fun i hi => ⟨HR4.out.cell (hov.cell hi) hne, (World.frozen?_of_block (w := w3) (a := ⟨gv, i, none⟩) (HR4.out.block gv hov.1 hne)).trans (hov.free hi)⟩⟩
  · have h1 := hb4 b off e
    have h2 := hov.1
    omega
end Go.Proofs.Ytbcjigociliflaa.If

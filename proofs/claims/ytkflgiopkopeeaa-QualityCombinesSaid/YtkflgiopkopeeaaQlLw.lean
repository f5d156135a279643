/-
  Two lists of the call's own: checks, and lists of readings.
-/
import Derived.Test.YtkflgiopkopeeaaQlCmb
import Derived.Test.YtkflgiopkopeeaaQlSer
import Derived.Test.YtkflgiopkopeeaaQlVoa
import Derived.Lib.OwnKind
namespace Go.Proofs.Ytkflgiopkopeeaa.Ql
open Go.ChangeShapes Go.WideShapes Go.ChangeAt Go.RowKit
open Go.Proofs.Ytkflgiopkopeeaa.Ca (inB inB_yes inB_no Rd)
open Go.Proofs.Ytkflgiopkopeeaa.Cu (grown_below grown_own grown_trans grown_refl updF updF_same updF_other Dk)
open Go.Proofs.Ytkflgiopkopeeaa.Gg (GotR gotR_nil gotR_rs gotR_rd gotR_next gotR_block rsL rsL_len rsL_get rsL_congr rsL_one RdR Rs updR updR_same updR_other mkR cell_four)
set_option linter.unusedVariables false

/-- A list of readings behind the deck's block g, in a block of readings. -/
structure KdR (W : World) (g : Nat) (p : Option Addr) (n : Nat) (R : Nat → Nat → Int) : Prop where
  rd : RdR W p n R
  kd : ∀ b off, p = some ⟨b, off, none⟩ → g < b ∧ ∃ c fz, W.heap[b]? = some (.cells c 25 fz)
theorem kdr_of {W : World} {B g : Nat} {v : Value} {n : Nat} {R : Nat → Nat → Int} (h : GotR W B v n R) (hg : g < B) : ∃ p c, v = .slice p n c ∧ (p = none → n = 0 ∧ c = 0) ∧ KdR W g p n R := by
  have hk := Lib.ownsRow_kind h
  have hb := gotR_block h
  rcases h.2 with ⟨rfl, rfl⟩ | ⟨b, cap, cur, rfl, _⟩
  · exact ⟨none, 0, rfl, fun _ => ⟨rfl, rfl⟩, fun h => absurd h (Nat.lt_irrefl _), fun b off e => by cases e⟩
  · refine ⟨some ⟨b, 0, none⟩, cap, rfl, (fun e => by cases e), fun hn => ?_, fun b' off e => ?_⟩
    · obtain ⟨g', cap', e, _, hrs, _⟩ := gotR_rs h hn
      simp only [Value.slice.injEq, Option.some.injEq, Addr.mk.injEq] at e
      obtain ⟨⟨rfl, _⟩, _, rfl⟩ := e
      exact ⟨b, 0, rfl, hrs⟩
    · cases e
      exact ⟨by have := hb b rfl; omega, hk b rfl⟩
theorem KdR.grown {W W' : World} {g : Nat} {p : Option Addr} {n : Nat} {R : Nat → Nat → Int} {r : Option Nat} (h : KdR W g p n R) (hg : W.grownBy W' r) (hr : ∀ b, r = some b → b ≤ g ∨ ∃ c t fz, W.heap[b]? = some (.cells c t fz) ∧ t ≠ 25) : KdR W' g p n R := by
  have ne : ∀ b off, p = some ⟨b, off, none⟩ → some b ≠ r := fun b off e e2 => by
    obtain ⟨h1, c, fz, h2⟩ := h.kd b off e
    rcases hr b e2.symm with h3 | ⟨c', t, fz', h3, h4⟩
    · omega
    · rw [h2] at h3
      simp only [Option.some.injEq, Obj.cells.injEq] at h3
      exact h4 h3.2.1.symm
  refine ⟨fun hn => ?_, fun b off e => ?_⟩
  · obtain ⟨b, off, rfl, hrs⟩ := h.rd hn
    exact ⟨b, off, rfl, hrs.grown hg (ne b off rfl)⟩
  · obtain ⟨h1, c, fz, h2⟩ := h.kd b off e
    have hb : b < W.heap.size := by
      rcases Nat.lt_or_ge b W.heap.size with h5 | h5
      · exact h5
      · rw [Array.getElem?_eq_none h5] at h2; cases h2
    exact ⟨h1, c, fz, (hg.block b hb (ne b off e)).trans h2⟩
theorem KdR.below {W W' : World} {g : Nat} {p : Option Addr} {n : Nat} {R : Nat → Nat → Int} (h : KdR W g p n R) (hb : Below W.heap.size W W') : KdR W' g p n R :=
  h.grown (Ca.grown_below hb (Nat.le_refl _) none) (fun b e => by cases e)
theorem kinds_ne {w : World} {B s s' : Nat} {e e' : TypeId} {v v' : Value} {n n' : Nat} {xs xs' : List Value} (h : w.ownsRow B e s v n xs) (h' : w.ownsRow B e' s' v' n' xs') (he : e ≠ e') : v'.ownBlock = none ∨ v'.ownBlock ≠ v.ownBlock := by
  rcases e1 : v'.ownBlock with _ | k
  · exact .inl rfl
  · refine .inr (fun e2 => ?_)
    obtain ⟨c1, f1, h1⟩ := Lib.ownsRow_kind h k e2.symm
    obtain ⟨c2, f2, h2⟩ := Lib.ownsRow_kind h' k e1
    rw [h1] at h2
    simp only [Option.some.injEq, Obj.cells.injEq] at h2
    exact he h2.2.1
/-- What such a loop holds. -/
structure Lw (w : World) (g : Nat) (v1 v2 : Value) (k1 k2 n : Nat) (K : Nat → Nat → Int) (P : Nat → Option Addr) (Cp : Nat → Nat) (RR : Nat → Nat → Nat → Int) (W : World) : Prop where
  gl : g < w.heap.size
  o1 : W.ownsRow w.heap.size 23 4 v1 k1 (rsL K k1)
  o2 : Own 30 W w.heap.size v2 k2 (fun i => .slice (P i) n (Cp i))
  rd : ∀ i, i < k2 → KdR W g (P i) n (RR i)
  gr : w.grownBy W (some g)
theorem lw_nil {w : World} {g n : Nat} (hg : g < w.heap.size) : Lw w g (.slice none 0 0) (.slice none 0 0) 0 0 n (fun _ _ => 0) (fun _ => none) (fun _ => 0) (fun _ _ _ => 0) w :=
  ⟨hg, World.ownsRow_nil w _ _ 4, own_nil _ _ _ _, fun i hi => absurd hi (Nat.not_lt_zero _), grown_refl _ _⟩
theorem Lw.turn {w : World} {g : Nat} {v1 v2 : Value} {k1 k2 n : Nat} {K : Nat → Nat → Int} {P : Nat → Option Addr} {Cp : Nat → Nat} {RR : Nat → Nat → Nat → Int} {W W' : World} (h : Lw w g v1 v2 k1 k2 n K P Cp RR W) (hg : W.grownBy W' (some g)) : Lw w g v1 v2 k1 k2 n K P Cp RR W' where
  gl := h.gl
  o1 := World.ownsRow.kept h.o1 hg (by
    rcases e : v1.ownBlock with _ | k
    · exact .inl rfl
    · exact .inr (by intro e2; have := (h.o1.lt k e).1; have := h.gl; have := Option.some.inj e2; omega))
  o2 := own_grown h.o2 hg (by
    rcases e : v2.ownBlock with _ | k
    · exact .inl rfl
    · exact .inr (by intro e2; have := own_block h.o2 k e; have := h.gl; have := Option.some.inj e2; omega))
  rd := fun i hi => (h.rd i hi).grown hg (fun b e => .inl (by cases e; exact Nat.le_refl _))
  gr := grown_trans h.gr hg
theorem Lw.alloc {w : World} {g : Nat} {v1 v2 : Value} {k1 k2 n : Nat} {K : Nat → Nat → Int} {P : Nat → Option Addr} {Cp : Nat → Nat} {RR : Nat → Nat → Nat → Int} {W : World} (h : Lw w g v1 v2 k1 k2 n K P Cp RR W) (o : Obj) : Lw w g v1 v2 k1 k2 n K P Cp RR (W.alloc o) := h.turn (World.grownBy_alloc W o (some g))
theorem Lw.one {w : World} {g : Nat} {v1 v2 v' : Value} {k1 k2 n : Nat} {K : Nat → Nat → Int} {P : Nat → Option Addr} {Cp : Nat → Nat} {RR : Nat → Nat → Nat → Int} {W W' : World} {a b c d : Int} (h : Lw w g v1 v2 k1 k2 n K P Cp RR W) (ho : W'.ownsRow w.heap.size 23 4 v' (k1 + 1) (rsL K k1 ++ [.int .i64 a, .int .i64 b, .int .i64 c, .int .i64 d])) (hg : W.grownBy W' v1.ownBlock) : Lw w g v' v2 (k1 + 1) k2 n (updR K k1 (mkR a b c d)) P Cp RR W' where
  gl := h.gl
  o1 := by
    have e : rsL (updR K k1 (mkR a b c d)) (k1 + 1) = rsL K k1 ++ [.int .i64 a, .int .i64 b, .int .i64 c, .int .i64 d] := by
      show rsL (updR K k1 (mkR a b c d)) k1 ++ [.int .i64 (updR K k1 (mkR a b c d) k1 0), .int .i64 (updR K k1 (mkR a b c d) k1 1), .int .i64 (updR K k1 (mkR a b c d) k1 2), .int .i64 (updR K k1 (mkR a b c d) k1 3)] = _
      rw [rsL_congr (updR K k1 (mkR a b c d)) K k1 (fun i hi j hj => by rw [updR_other _ _ (by omega)]), updR_same]
      rfl
    rw [e]
    exact ho
  o2 := own_grown h.o2 hg (kinds_ne h.o1 h.o2 (by decide))
  rd := fun i hi => (h.rd i hi).grown hg (fun b e => by
    obtain ⟨c, fz, h2⟩ := Lib.ownsRow_kind h.o1 b e
    exact .inr ⟨c, _, fz, h2, by decide⟩)
  gr := grown_own h.gr hg (fun k hk => (h.o1.lt k hk).1)
theorem Lw.two {w : World} {g : Nat} {v1 v2 v' : Value} {k1 k2 n : Nat} {K : Nat → Nat → Int} {P : Nat → Option Addr} {Cp : Nat → Nat} {RR : Nat → Nat → Nat → Int} {W W' : World} {p : Option Addr} {c : Nat} {R : Nat → Nat → Int} (h : Lw w g v1 v2 k1 k2 n K P Cp RR W) (ho : W'.ownsRow w.heap.size 30 1 v' (k2 + 1) (vL (fun i => .slice (P i) n (Cp i)) k2 ++ [.slice p n c])) (hg : W.grownBy W' v2.ownBlock) (hr : KdR W g p n R) : Lw w g v1 v' k1 (k2 + 1) n K (upV P k2 p) (upV Cp k2 c) (upV RR k2 R) W' where
  gl := h.gl
  o1 := World.ownsRow.kept h.o1 hg (kinds_ne h.o2 h.o1 (by decide))
  o2 := own_next ho (fun i hi => by unfold upV; rw [if_neg (by omega), if_neg (by omega)]) (by unfold upV; rw [if_pos rfl, if_pos rfl])
  rd := fun i hi => by
    have hk : ∀ {p' : Option Addr} {R' : Nat → Nat → Int}, KdR W g p' n R' → KdR W' g p' n R' := fun h' => h'.grown hg (fun b e => by
      obtain ⟨c, fz, h2⟩ := Lib.ownsRow_kind h.o2 b e
      exact .inr ⟨c, _, fz, h2, by decide⟩)
    unfold upV
    by_cases e : i = k2
    · subst e; rw [if_pos rfl, if_pos rfl]; exact hk hr
    · rw [if_neg e, if_neg e]; exact hk (h.rd i (by omega))
  gr := grown_own h.gr hg (own_block h.o2)
/-- Both lists, as Combine takes them. -/
theorem Lw.both {w : World} {g : Nat} {v1 v2 : Value} {k1 k2 n : Nat} {K : Nat → Nat → Int} {P : Nat → Option Addr} {Cp : Nat → Nat} {RR : Nat → Nat → Nat → Int} {W : World} (h : Lw w g v1 v2 k1 k2 n K P Cp RR W) : ∃ q d p c, v1 = .slice q k1 d ∧ v2 = .slice p k2 c ∧ RdR W q k1 K ∧ LL W p k2 P (fun _ => n) Cp RR := by
  obtain ⟨p, c, rfl, hp, _⟩ := own_rd h.o2
  have h1 : ∃ q d, v1 = .slice q k1 d ∧ RdR W q k1 K := by
    have h0 := h.o1
    rcases h0.2 with ⟨rfl, rfl⟩ | ⟨b, cap, cur, rfl, _⟩
    · exact ⟨none, 0, rfl, fun h => absurd h (Nat.lt_irrefl _)⟩
    · refine ⟨some ⟨b, 0, none⟩, cap, rfl, fun hn => ⟨b, 0, rfl, (h0.lt b rfl).2, fun i hi j hj => ?_⟩⟩
      rw [Nat.zero_add, h0.cellAt _ (by omega)]
      exact rsL_get K k1 i hi j hj
  obtain ⟨q, d, rfl, hq⟩ := h1
  exact ⟨q, d, p, c, rfl, rfl, hq, hp, fun i hi => (h.rd i hi).rd⟩
/-- A list of one Checks, a list of one list. -/
theorem one_ck (W : World) (l m j s : Int) (t t' : TypeId) (u : Value) : RdR ((W.alloc (.cells #[.int .i64 l, .int .i64 m, .int .i64 j, .int .i64 s] t)).alloc (.cells #[u] t')) (some ⟨W.heap.size, 0, none⟩) 1 (fun _ => mkR l m j s) := fun _ => ⟨_, 0, rfl, by simp; omega, fun i hi x hx => by
  obtain rfl : i = 0 := by omega
  have hc : x = 0 ∨ x = 1 ∨ x = 2 ∨ x = 3 := by omega
  rcases hc with rfl | rfl | rfl | rfl <;> simp [mkR]⟩
theorem one_ll (W : World) {p : Option Addr} {n c : Nat} {R : Nat → Nat → Int} (h : RdR W p n R) (o : Obj) (t' : TypeId) : LL ((W.alloc o).alloc (.cells #[.slice p n c] t')) (some ⟨W.heap.size + 1, 0, none⟩) 1 (fun _ => p) (fun _ => n) (fun _ => c) (fun _ => R) :=
  ⟨fun _ => ⟨_, 0, rfl, by simp, fun i hi => by
    obtain rfl : i = 0 := by omega
    simp⟩, fun i hi => h.below (((Below.refl W.heap.size W).alloc (Nat.le_refl _) o).alloc (by simp) _) (Nat.le_refl _)⟩
end Go.Proofs.Ytkflgiopkopeeaa.Ql

/-
  Combine of the reference of chapter 8: what its loops hold; its errors.
-/
import Derived.Test.YtkflgiopkopeeaaQlCoa
import Derived.Lib.OwnKind
import Derived.Maps.AppendAt
import Derived.Deep.QuietTactic
import Derived.BigQuiet
namespace Go.Proofs.Ytkflgiopkopeeaa.Ql
open Go.ChangeShapes Go.WideShapes Go.ChangeAt Go.RowKit
open Go.Proofs.Ytkflgiopkopeeaa.Ca (inB inB_yes inB_no Rd)
open Go.Proofs.Ytkflgiopkopeeaa.Gg (RdR Rs)
set_option linter.unusedVariables false

/-- The list of the lists of verdicts. -/
structure Av (w0 : World) (v : Value) (k : Nat) (Q : Nat → Option Addr) (Ln C : Nat → Nat) (F : Nat → Nat → Int) (W : World) : Prop where
  o : Own 26 W w0.heap.size v k (fun i => .slice (Q i) (Ln i) (C i))
  rd : ∀ i, i < k → Rd W (Q i) (Ln i) (F i)
  ap : ∀ i, i < k → 0 < Ln i → ∀ b off, Q i = some ⟨b, off, none⟩ → v.ownBlock ≠ some b
  bel : Below w0.heap.size w0 W
theorem av_nil (w0 : World) (Ln : Nat → Nat) (F : Nat → Nat → Int) : Av w0 (.slice none 0 0) 0 (fun _ => none) Ln (fun _ => 0) F w0 :=
  ⟨own_nil _ _ _ _, fun i hi => absurd hi (Nat.not_lt_zero _), fun i hi => absurd hi (Nat.not_lt_zero _), Below.refl _ _⟩
theorem Av.up {w0 : World} {v : Value} {k : Nat} {Q : Nat → Option Addr} {Ln C : Nat → Nat} {F : Nat → Nat → Int} {W W' : World} (h : Av w0 v k Q Ln C F W) (hb : Below W.heap.size W W') : Av w0 v k Q Ln C F W' :=
  ⟨own_up h.o hb, fun i hi => RdV.below (C := iC (F i)) (h.rd i hi) hb (Nat.le_refl _), h.ap, h.bel.trans (hb.mono h.bel.size)⟩
theorem Av.app {w0 : World} {v v' : Value} {k : Nat} {Q : Nat → Option Addr} {Ln C : Nat → Nat} {F : Nat → Nat → Int} {W W' : World} {q : Option Addr} {c : Nat} (h : Av w0 v k Q Ln C F W) (ho : W'.ownsRow w0.heap.size 26 1 v' (k + 1) (vL (fun i => .slice (Q i) (Ln i) (C i)) k ++ [.slice q (Ln k) c])) (hg : W.grownBy W' v.ownBlock) (hat : v'.ownBlock = v.ownBlock ∨ v'.ownBlock = some W.heap.size) (hr : Rd W q (Ln k) (F k)) (hq : ∀ b off, q = some ⟨b, off, none⟩ → v.ownBlock ≠ some b) : Av w0 v' (k + 1) (upV Q k q) Ln (upV C k c) F W' := by
  have keep : ∀ {p : Option Addr} {l : Nat} {z : Nat → Int}, Rd W p l z → (0 < l → ∀ b off, p = some ⟨b, off, none⟩ → v.ownBlock ≠ some b) → Rd W' p l z := fun {p l z} hr hp hn => by
    exact RdV.grown (C := iC z) hr hg (fun b off e e2 => hp hn b off e e2.symm) hn
  have away : ∀ {p : Option Addr} {l : Nat} {z : Nat → Int}, Rd W p l z → 0 < l → ∀ b off, p = some ⟨b, off, none⟩ → v.ownBlock ≠ some b → v'.ownBlock ≠ some b := fun {p l z} hr hn b off e hne e2 => by
    obtain ⟨b', off', e', hlt, _⟩ := hr hn
    rw [e] at e'
    simp only [Option.some.injEq, Addr.mk.injEq] at e'
    rcases hat with h1 | h1
    · exact hne (h1 ▸ e2)
    · rw [h1] at e2; have := Option.some.inj e2; omega
  refine ⟨own_next ho (fun i hi => by unfold upV; rw [if_neg (by omega), if_neg (by omega)]) (by unfold upV; rw [if_pos rfl, if_pos rfl]), fun i hi => ?_, fun i hi hl b off e => ?_, Gg.below_own h.bel (Nat.le_refl _) hg (own_block h.o)⟩
  · unfold upV
    by_cases e : i = k
    · subst e; rw [if_pos rfl]; exact keep hr (fun _ => hq)
    · rw [if_neg e]; exact keep (h.rd i (by omega)) (h.ap i (by omega))
  · unfold upV at e
    by_cases e2 : i = k
    · subst e2; rw [if_pos rfl] at e; exact away hr hl b off e (hq b off e)
    · rw [if_neg e2] at e; exact away (h.rd i (by omega)) hl b off e (h.ap i (by omega) hl b off e)
/-- The three lists that it returns. -/
structure T3 (w0 : World) (v1 v2 v3 : Value) (k1 k2 k3 : Nat) (A : Nat → Int) (B : Nat → Bool) (O : Nat → Int) (W : World) : Prop where
  o1 : Own 3 W w0.heap.size v1 k1 (iC A)
  o2 : Own 4 W w0.heap.size v2 k2 (bC B)
  o3 : Own 3 W w0.heap.size v3 k3 (iC O)
  ap : ∀ b, v1.ownBlock = some b → v3.ownBlock ≠ some b
  bel : Below w0.heap.size w0 W
theorem t3_nil (w0 : World) (A : Nat → Int) (B : Nat → Bool) (O : Nat → Int) : T3 w0 (.slice none 0 0) (.slice none 0 0) (.slice none 0 0) 0 0 0 A B O w0 :=
  ⟨own_nil _ _ _ _, own_nil _ _ _ _, own_nil _ _ _ _, (fun b e => by cases e), Below.refl _ _⟩
theorem T3.up {w0 : World} {v1 v2 v3 : Value} {k1 k2 k3 : Nat} {A : Nat → Int} {B : Nat → Bool} {O : Nat → Int} {W W' : World} (h : T3 w0 v1 v2 v3 k1 k2 k3 A B O W) (hb : Below W.heap.size W W') : T3 w0 v1 v2 v3 k1 k2 k3 A B O W' :=
  ⟨own_up h.o1 hb, own_up h.o2 hb, own_up h.o3 hb, h.ap, h.bel.trans (hb.mono h.bel.size)⟩
theorem T3.alloc {w0 : World} {v1 v2 v3 : Value} {k1 k2 k3 : Nat} {A : Nat → Int} {B : Nat → Bool} {O : Nat → Int} {W : World} (h : T3 w0 v1 v2 v3 k1 k2 k3 A B O W) (o : Obj) : T3 w0 v1 v2 v3 k1 k2 k3 A B O (W.alloc o) := h.up ((Below.refl _ _).alloc (Nat.le_refl _) o)
theorem T3.one {w0 : World} {v1 v2 v3 v' : Value} {k1 k2 k3 : Nat} {A : Nat → Int} {B : Nat → Bool} {O : Nat → Int} {W W' : World} {x : Int} (h : T3 w0 v1 v2 v3 k1 k2 k3 A B O W) (ho : W'.ownsRow w0.heap.size 3 1 v' (k1 + 1) (vL (iC A) k1 ++ [.int .i64 x])) (hg : W.grownBy W' v1.ownBlock) (hat : v'.ownBlock = v1.ownBlock ∨ v'.ownBlock = some W.heap.size) (hx : x = A k1) : T3 w0 v' v2 v3 (k1 + 1) k2 k3 A B O W' where
  o1 := own_next ho (fun _ _ => rfl) (by unfold iC; rw [hx])
  o2 := own_grown h.o2 hg (kind_ne h.o1 h.o2 (by decide))
  o3 := own_grown h.o3 hg (by
    rcases e : v3.ownBlock with _ | b
    · exact .inl rfl
    · exact .inr (fun e2 => h.ap b e2.symm e))
  ap := fun b e e3 => by
    rcases hat with h1 | h1
    · exact h.ap b (h1 ▸ e) e3
    · rw [h1] at e; have := Option.some.inj e; have := (h.o3.lt b e3).2; omega
  bel := Gg.below_own h.bel (Nat.le_refl _) hg (own_block h.o1)
theorem T3.two {w0 : World} {v1 v2 v3 v' : Value} {k1 k2 k3 : Nat} {A : Nat → Int} {B : Nat → Bool} {O : Nat → Int} {W W' : World} {x : Bool} (h : T3 w0 v1 v2 v3 k1 k2 k3 A B O W) (ho : W'.ownsRow w0.heap.size 4 1 v' (k2 + 1) (vL (bC B) k2 ++ [.bool x])) (hg : W.grownBy W' v2.ownBlock) (hx : x = B k2) : T3 w0 v1 v' v3 k1 (k2 + 1) k3 A B O W' where
  o1 := own_grown h.o1 hg (kind_ne h.o2 h.o1 (by decide))
  o2 := own_next ho (fun _ _ => rfl) (by unfold bC; rw [hx])
  o3 := own_grown h.o3 hg (kind_ne h.o2 h.o3 (by decide))
  ap := h.ap
  bel := Gg.below_own h.bel (Nat.le_refl _) hg (own_block h.o2)
theorem T3.three {w0 : World} {v1 v2 v3 v' : Value} {k1 k2 k3 : Nat} {A : Nat → Int} {B : Nat → Bool} {O : Nat → Int} {W W' : World} {x : Int} (h : T3 w0 v1 v2 v3 k1 k2 k3 A B O W) (ho : W'.ownsRow w0.heap.size 3 1 v' (k3 + 1) (vL (iC O) k3 ++ [.int .i64 x])) (hg : W.grownBy W' v3.ownBlock) (hat : v'.ownBlock = v3.ownBlock ∨ v'.ownBlock = some W.heap.size) (hx : x = O k3) : T3 w0 v1 v2 v' k1 k2 (k3 + 1) A B O W' where
  o1 := own_grown h.o1 hg (by
    rcases e : v1.ownBlock with _ | b
    · exact .inl rfl
    · exact .inr (fun e2 => h.ap b e e2.symm))
  o2 := own_grown h.o2 hg (kind_ne h.o3 h.o2 (by decide))
  o3 := own_next ho (fun _ _ => rfl) (by unfold iC; rw [hx])
  ap := fun b e e3 => by
    rcases hat with h1 | h1
    · exact h.ap b e (h1 ▸ e3)
    · rw [h1] at e3; have := Option.some.inj e3; have := (h.o1.lt b e).2; omega
  bel := Gg.below_own h.bel (Nat.le_refl _) hg (own_block h.o3)
set_option maxRecDepth 100000 in
set_option maxHeartbeats 1000000 in
theorem rco_form1 (q p : Option Addr) (n m d c : Nat) (most : Int) (A : Nat → Int) (B : Nat → Bool) (O : Nat → Int) (w : World) (h : n ≠ m) (hn : n ≤ 1000000) (hm : m ≤ 1000000) :
    Calls Try.prog 30 #[.slice q n d, .slice p m c, .int .i64 most] w (CoP 3 0 A B O w) := by
  have e : ((n : Int) != (m : Int)) = true := by simp; omega
  clear h
  go_enter Try.func30, Try.ntmps30
  go_wp2
  exact bodyPost_ret (v := .tuple #[.slice none 0 0, .slice none 0 0, .slice none 0 0, .int .i64 3]) (by simp [results, Try.results30, go_sem]) rfl (cop_bad (Below.refl _ _))
set_option maxRecDepth 100000 in
set_option maxHeartbeats 2000000 in
theorem rco_form2 (q p : Option Addr) (n d c : Nat) (most : Int) (P : Nat → Option Addr) (Ln Cp : Nat → Nat) (RR : Nat → Nat → Nat → Int) (A : Nat → Int) (B : Nat → Bool) (O : Nat → Int) (w : World) (h : LL w p n P Ln Cp RR) (ho : olB Ln n = false) (hm : n ≤ 1000000) :
    Calls Try.prog 30 #[.slice q n d, .slice p n c, .int .i64 most] w (CoP 3 0 A B O w) := by
  have HL := Lib.hid h.c
  have HO := Lib.hid ho
  have hmi : (n : Int) ≤ 1000000 := by omega
  have e : ((n : Int) != (n : Int)) = false := by simp
  clear h ho
  go_enter Try.func30, Try.ntmps30
  go_wp2
  go_loopw [33] (fun y wr => ∃ k : Nat, k ≤ n ∧ y = .int .i64 k ∧ Hid (∀ i, i < k → Ln i = Ln 0) ∧ Hid (Below w.heap.size w wr)) (fun y _ => n - (intOf y).toNat)
  case atStart => exact ⟨0, Nat.zero_le _, rfl, (fun i hi => absurd hi (Nat.not_lt_zero _)), Below.refl _ _⟩
  case round =>
    obtain ⟨k, hk, rfl, hol, hb⟩ := hrel
    by_cases hlt : k < n
    · obtain ⟨b, o, rfl, hbl, dd⟩ := (HL.out.below hb.out (Nat.le_refl _)) (by omega)
      have e1 := dd k hlt
      have e2 := dd 0 (by omega)
      rw [Nat.add_zero] at e2
      have hki : (k : Int) < (n : Int) := by omega
      have hm0 : (0 : Int) < (n : Int) := by omega
      clear dd
      by_cases heq : Ln k = Ln 0
      · have hne : ((Ln k : Int) != (Ln 0 : Int)) = false := by simp; omega
        have HN : Hid (∀ i, i < k + 1 → Ln i = Ln 0) := fun i hi => by
          by_cases e : i = k
          · subst e; exact heq
          · exact hol.out i (by omega)
        clear heq hol
        go_wp2
        go_quiet (fail)
        go_wp2
        go_roundw
        case rel => exact ⟨k + 1, by omega, by go_num, HN, Gg.below_drewN hb.out _⟩
        case measure => simp [intOf]; omega
      · have hne : ((Ln k : Int) != (Ln 0 : Int)) = true := by simp; omega
        clear heq hol
        go_wp2
        go_quiet (fail)
        go_wp2
        exact bodyPost_ret (v := .tuple #[.slice none 0 0, .slice none 0 0, .slice none 0 0, .int .i64 3]) (by simp [results, Try.results30, go_sem]) rfl (cop_bad (Gg.below_drewN hb.out _))
    · obtain rfl : k = n := by omega
      have HN : Hid (olB Ln k = true) := ol_of hol.out
      have := HO.out
      rw [HN.out] at this
      cases this
end Go.Proofs.Ytkflgiopkopeeaa.Ql

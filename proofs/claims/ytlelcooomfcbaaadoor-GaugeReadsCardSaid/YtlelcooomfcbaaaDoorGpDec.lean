/-
  Contracts of the program's numberOf and firstRecord.
-/
import Derived.Test.YtlelcooomfcbaaaDoorGpFns
import Derived.Test.YtlelcooomfcbaaaDoorGgDec
import Derived.Test.YtlelcooomfcbaaaDoorGpRdg
namespace Go.Proofs.YtlelcooomfcbaaaDoor.Gg
open Go.ChangeShapes Go.WideShapes Go.ChangeAt Go.RowKit
set_option linter.unusedVariables false

/-- The number whose bytes these are. -/
def nvG (B : Nat → Int) : Nat → Int
  | 0 => 0
  | k + 1 => nvG B k * 256 + B k
theorem nv_bd (B : Nat → Int) : ∀ k, Bt B k → 0 ≤ nvG B k ∧ nvG B k < 256 ^ k
  | 0, _ => ⟨Int.le_refl _, by simp [nvG]⟩
  | k + 1, h => by
    obtain ⟨h1, h2⟩ := nv_bd B k (fun i hi => h i (by omega))
    have h3 := h k (by omega)
    have e : (256 : Int) ^ (k + 1) = 256 * 256 ^ k := by rw [Int.pow_succ]; omega
    unfold nvG
    rw [e]
    omega
theorem nv_le (B : Nat → Int) (k : Nat) (hk : k ≤ 3) (h : Bt B k) : 0 ≤ nvG B k ∧ nvG B k ≤ 16777215 := by
  obtain ⟨h1, h2⟩ := nv_bd B k h
  have hc : k = 0 ∨ k = 1 ∨ k = 2 ∨ k = 3 := by omega
  have e0 : (256 : Int) ^ 0 = 1 := rfl
  have e1 : (256 : Int) ^ 1 = 256 := rfl
  have e2 : (256 : Int) ^ 2 = 65536 := rfl
  have e3 : (256 : Int) ^ 3 = 16777216 := rfl
  rcases hc with rfl | rfl | rfl | rfl
  · rw [e0] at h2; omega
  · rw [e1] at h2; omega
  · rw [e2] at h2; omega
  · rw [e3] at h2; omega
theorem nv_four (B : Nat → Int) : nvG B 4 = fourB B 0 := by
  unfold fourB
  simp only [nvG, Nat.zero_add]
  omega
theorem nv_two (B : Nat → Int) : nvG B 2 = B 0 * 256 + B 1 := by
  simp only [nvG]
  omega
set_option maxHeartbeats 2000000 in
theorem nof_any (b off n c : Nat) (B : Nat → Int) (w : World) (hp : By w b off n B) (hB : Bt B n) (hn : n ≤ 4) : Calls Tryd.prog 58 #[.slice (some ⟨b, off, none⟩) n c] w (RtI (nvG B n) w) := by
  have HP := Lib.hid hp
  have HB := Lib.hid hB
  clear hp hB
  go_enter Tryd.func58, Tryd.ntmps58
  go_wp2
  go_loop [3, 8] (fun s i => ∃ (k : Nat) (sv : Int), k ≤ n ∧ s = .int .i64 sv ∧ i = .int .i64 k ∧ Hid (sv = nvG B k)) (fun _ i => n - (intOf i).toNat)
  case atStart => exact ⟨0, 0, Nat.zero_le _, rfl, rfl, rfl⟩
  case round =>
    obtain ⟨k, sv, hk, rfl, rfl, hs⟩ := hrel
    by_cases hkn : k < n
    · have c0 := HP.out.2 k hkn
      obtain ⟨b0, b1⟩ := HB.out k hkn
      have hki : (k : Int) < (n : Int) := by omega
      have hki2 : (k : Int) ≤ 4 := by omega
      obtain ⟨s0, s1⟩ := nv_le B k (by omega) (fun i hi => HB.out i (by omega))
      rw [← hs.out] at s0 s1
      have HN : Hid (nvG B (k + 1) = sv * 256 + B k) := by show nvG B k * 256 + B k = _; rw [hs.out]
      generalize B k = x at *
      have hor := Lib.hid (or8 sv x s0 s1 b0 (by omega))
      clear hs
      go_wp2
      go_round
      case rel => exact ⟨k + 1, _, by omega, rfl, by go_num, hor.out.trans HN.out.symm⟩
      case measure => simp [intOf]; omega
    · obtain rfl : k = n := by omega
      have HR := Lib.hid hs.out
      go_wp2
      go_ret
      exact ⟨by rw [HR.out]; rfl, rfl⟩
/-- The error of the first record of m bytes. -/
def frE (C : Nat → Int) (m : Nat) : Int := if m < 12 then 3 else if smG C 10 ≠ C 10 * 256 + C 11 then 8 else ckG (C 0) (fourB C 1) (fourB C 5) (C 9)
def FrP (w : World) (C : Nat → Int) (m : Nat) (e : Ending) (w' : World) : Prop :=
  ∃ a b c d : Int, e = .returned (.tuple #[.agg #[.int .i64 a, .int .i64 b, .int .i64 c, .int .i64 d], .int .i64 (frE C m)]) ∧ (frE C m = 0 → mkR (C 0) (fourB C 1) (fourB C 5) (C 9) = mkR a b c d) ∧ Below w.heap.size w w'
theorem FrP.bad {w w' : World} {C : Nat → Int} {m : Nat} {x : Int} (h : frE C m = x) (hx : x ≠ 0) (hb : Below w.heap.size w w') : FrP w C m (.returned (.tuple #[.agg #[.int .i64 0, .int .i64 0, .int .i64 0, .int .i64 0], .int .i64 x])) w' :=
  ⟨0, 0, 0, 0, by rw [h], fun h2 => by rw [h] at h2; exact absurd h2 hx, hb⟩
theorem frec_short (p : Option Addr) (m c : Nat) (C : Nat → Int) (w : World) (hm : m < 12) : Calls Tryd.prog 43 #[.slice p m c] w (FrP w C m) := by
  have hmi : (m : Int) < 12 := by omega
  have HF : Hid (frE C m = 3) := by show frE C m = 3; unfold frE; rw [if_pos hm]
  clear hm
  go_enter Tryd.func43, Tryd.ntmps43
  go_wp2
  exact bodyPost_ret (v := .tuple #[.agg #[.int .i64 0, .int .i64 0, .int .i64 0, .int .i64 0], .int .i64 3]) (by simp [results, Tryd.results43, go_sem]) rfl (FrP.bad HF.out (by omega) ((Below.refl _ _).alloc (Nat.le_refl _) _))
set_option maxRecDepth 100000 in
set_option maxHeartbeats 4000000 in
theorem frec_some (b o2 m c : Nat) (C : Nat → Int) (w : World) (hp : By w b o2 m C) (hB : Bt C m) (hm : 12 ≤ m) (hc : m ≤ c) (hm9 : m ≤ 49152) : Calls Tryd.prog 43 #[.slice (some ⟨b, o2, none⟩) m c] w (FrP w C m) := by
  have hmi : ¬ (m : Int) < 12 := by omega
  have hci : (12 : Int) ≤ (c : Int) := by omega
  have hmi9 : (m : Int) ≤ 49152 := by omega
  have hmc : (m : Int) ≤ (c : Int) := by omega
  have HP := Lib.hid hp
  have HB := Lib.hid hB
  have hby : Hid (By w b o2 12 C) := ⟨hp.1, fun j hj => hp.2 j (by omega)⟩
  have hbt : Bt C 12 := fun j hj => hB j (by omega)
  have HBT := Lib.hid hbt
  have HF : Hid (frE C m = if smG C 10 ≠ C 10 * 256 + C 11 then 8 else ckG (C 0) (fourB C 1) (fourB C 5) (C 9)) := by show frE C m = _; unfold frE; rw [if_neg (by omega)]
  have HSM : Hid (∀ W c', By W b o2 12 C → Calls Tryd.prog 20 #[.slice (some ⟨b, o2, none⟩) 10 c'] W (RtI (smG C 10) W)) := fun W c' h => psum_any (some ⟨b, o2, none⟩) 10 c' C W (fun _ => ⟨b, o2, rfl, ⟨h.1, fun j hj => h.2 j (by omega)⟩⟩) (fun j hj => hbt j (by omega)) (by omega)
  have HN2 : Hid (∀ W c', By W b o2 12 C → Calls Tryd.prog 58 #[.slice (some ⟨b, o2 + 10, none⟩) 2 c'] W (RtI (C 10 * 256 + C 11) W)) := fun W c' h => by
    have h2 := nof_any b (o2 + 10) 2 c' (fun j => C (10 + j)) W ⟨h.1, fun j hj => by show W.cell? ⟨b, o2 + 10 + j, none⟩ = some (.int .u8 (C (10 + j))); rw [Nat.add_assoc o2]; exact h.2 (10 + j) (by omega)⟩ (fun j hj => hbt (10 + j) (by omega)) (by omega)
    rw [nv_two] at h2
    exact h2
  have HG1 : Hid (∀ W c', By W b o2 12 C → Calls Tryd.prog 58 #[.slice (some ⟨b, o2 + 1, none⟩) 4 c'] W (RtI (fourB C 1) W)) := fun W c' h => by
    have h2 := nof_any b (o2 + 1) 4 c' (fun j => C (1 + j)) W ⟨h.1, fun j hj => by show W.cell? ⟨b, o2 + 1 + j, none⟩ = some (.int .u8 (C (1 + j))); rw [Nat.add_assoc o2]; exact h.2 (1 + j) (by omega)⟩ (fun j hj => hbt (1 + j) (by omega)) (by omega)
    rw [nv_four] at h2
    exact h2
  have HG5 : Hid (∀ W c', By W b o2 12 C → Calls Tryd.prog 58 #[.slice (some ⟨b, o2 + 5, none⟩) 4 c'] W (RtI (fourB C 5) W)) := fun W c' h => by
    have h2 := nof_any b (o2 + 5) 4 c' (fun j => C (5 + j)) W ⟨h.1, fun j hj => by show W.cell? ⟨b, o2 + 5 + j, none⟩ = some (.int .u8 (C (5 + j))); rw [Nat.add_assoc o2]; exact h.2 (5 + j) (by omega)⟩ (fun j hj => hbt (5 + j) (by omega)) (by omega)
    rw [nv_four] at h2
    exact h2
  clear hp hB hm hc hbt hm9
  generalize smG C 10 = sm at *
  generalize C 10 * 256 + C 11 = nv at *
  go_enter Tryd.func43, Tryd.ntmps43
  go_upto_region 3 with fail
  have HS1 : Hid (By (w.alloc (.cells #[.int .i64 0, .int .i64 0, .int .i64 0, .int .i64 0] 23)) b o2 12 C) := hby.out.alloc _
  have HB1 : Hid (Below w.heap.size w (w.alloc (.cells #[.int .i64 0, .int .i64 0, .int .i64 0, .int .i64 0] 23))) := (Below.refl _ _).alloc (Nat.le_refl _) _
  have HZ1 : Hid (Zr w.heap.size (w.alloc (.cells #[.int .i64 0, .int .i64 0, .int .i64 0, .int .i64 0] 23))) := ⟨⟨by simp, by simp, by simp, by simp⟩, ⟨by simp, by simp, by simp, by simp⟩, by simp⟩
  generalize w.alloc (.cells #[.int .i64 0, .int .i64 0, .int .i64 0, .int .i64 0] 23) = w1 at *
  have cn10 : ¬ c = 10 := by omega
  have cc12 : (12 : Int) ≤ (c : Int) := by omega
  have cd12 : ¬ (c : Int) < 12 := by omega
  have cd10 : ¬ (c : Int) < 10 := by omega
  have cc10 : (10 : Int) ≤ (c : Int) := by omega
  have HSMq := Lib.hid (fun q c' => HSM.out (w1.drewN q) c' (HS1.out))
  have HN2q := Lib.hid (fun q c' => HN2.out (w1.drewN q) c' (HS1.out))
  by_cases hsum : nv = sm
  · have hs1 : (nv != sm) = false := by simpa using hsum
    go_quiet (first
      | (go_at_call 20; refine Calls.quiet_of_same ((HSMq.out _ _).mono fun e w' h => ⟨h.1, h.2.symm⟩))
      | (go_at_call 58; refine Calls.quiet_of_same ((HN2q.out _ _).mono fun e w' h => ⟨h.1, h.2.symm⟩)))
    go_upto_region 5 with fail
    generalize hw3 : w1.drewN _ = w3
    have HBY3 : Hid (By w3 b o2 12 C) := by rw [← hw3]; exact HS1.out
    have HB3 : Hid (Below w.heap.size w w3) := by rw [← hw3]; exact below_drewN HB1.out _
    have HZ3 : Hid (Zr w.heap.size w3) := by rw [← hw3]; exact HZ1.out
    clear hw3 HSMq HN2q HS1 HB1 HZ1 HSM HN2 hs1
    have c0 : w3.cell? ⟨b, o2, none⟩ = some (.int .u8 (C 0)) := HBY3.out.2 0 (by omega)
    have c9 : w3.cell? ⟨b, o2 + 9, none⟩ = some (.int .u8 (C 9)) := HBY3.out.2 9 (by omega)
    have hblt : b < w3.heap.size := HBY3.out.1
    obtain ⟨b00, b01⟩ := HBT.out 0 (by omega)
    obtain ⟨b90, b91⟩ := HBT.out 9 (by omega)
    have HFE : Hid (frE C m = ckG (C 0) (fourB C 1) (fourB C 5) (C 9)) := by show frE C m = _; rw [HF.out, if_neg (by rw [hsum]; simp)]
    have HMK : Hid (frE C m = 0 → mkR (C 0) (fourB C 1) (fourB C 5) (C 9) = mkR (C 0) (fourB C 1) (fourB C 5) (C 9)) := fun _ => rfl
    obtain ⟨f1, hf1⟩ : ∃ f, f = fourB C 1 := ⟨_, rfl⟩
    obtain ⟨f5, hf5⟩ : ∃ f, f = fourB C 5 := ⟨_, rfl⟩
    obtain ⟨x0, hx0⟩ : ∃ f, f = C 0 := ⟨_, rfl⟩
    obtain ⟨x9, hx9⟩ : ∃ f, f = C 9 := ⟨_, rfl⟩
    have HEQ : Hid (mkR (C 0) (fourB C 1) (fourB C 5) (C 9) = mkR x0 f1 f5 x9) := by rw [hf1, hf5, hx0, hx9]; exact rfl
    rw [← hf1] at HG1 HFE
    rw [← hf5] at HG5 HFE
    rw [← hx0] at c0 b00 b01 HFE
    rw [← hx9] at c9 b90 b91 HFE
    have HC1 : Hid (∀ W c', (W.cell? ⟨b, o2, none⟩ = some (.int .u8 x0) ∧ W.cell? ⟨b, o2 + 9, none⟩ = some (.int .u8 x9) ∧ Hid (Kd w3 b o2 C W)) → Calls Tryd.prog 58 #[.slice (some ⟨b, o2 + 1, none⟩) 4 c'] W fun e w' => e = .returned (.int .i64 f1) ∧ (w'.cell? ⟨b, o2, none⟩ = some (.int .u8 x0) ∧ w'.cell? ⟨b, o2 + 9, none⟩ = some (.int .u8 x9) ∧ Hid (Kd w3 b o2 C w')) ∧ w' = W) := fun W c' h => (HG1.out W c' h.2.2.out.1).mono (fun e w' hh => by obtain ⟨rfl, rfl⟩ := hh; exact ⟨rfl, h, rfl⟩)
    have HC5 : Hid (∀ W c', (W.cell? ⟨b, o2, none⟩ = some (.int .u8 x0) ∧ W.cell? ⟨b, o2 + 9, none⟩ = some (.int .u8 x9) ∧ Hid (Kd w3 b o2 C W)) → Calls Tryd.prog 58 #[.slice (some ⟨b, o2 + 5, none⟩) 4 c'] W fun e w' => e = .returned (.int .i64 f5) ∧ (w'.cell? ⟨b, o2, none⟩ = some (.int .u8 x0) ∧ w'.cell? ⟨b, o2 + 9, none⟩ = some (.int .u8 x9) ∧ Hid (Kd w3 b o2 C w')) ∧ w' = W) := fun W c' h => (HG5.out W c' h.2.2.out.1).mono (fun e w' hh => by obtain ⟨rfl, rfl⟩ := hh; exact ⟨rfl, h, rfl⟩)
    clear hf1 hf5 hx0 hx9 HG1 HG5 hsum HF HP HB HBT hby
    have cn1 : ¬ c = 1 := by omega
    have cn5 : ¬ c = 5 := by omega
    have cc5 : (5 : Int) ≤ (c : Int) := by omega
    have cc9 : (9 : Int) ≤ (c : Int) := by omega
    have cd5 : ¬ (c : Int) < 5 := by omega
    have cd9 : ¬ (c : Int) < 9 := by omega
    have cm0 : (0 : Int) < (m : Int) := by omega
    have cm9 : (9 : Int) < (m : Int) := by omega
    have cm0' : 0 < m := by omega
    have cm9' : 9 < m := by omega
    have fa0 : ∀ (m : Nat) (a b c d : Value) (t : TypeId), ((w3.drewN m).alloc (.cells #[a, b, c, d] t)).cell? ⟨w3.heap.size, 0, none⟩ = some a := fun m a b c d t => cell_four (w3.drewN m) a b c d t 0 a rfl
    have fb0 : ∀ (a b c d : Value) (t : TypeId), (w3.drew.alloc (.cells #[a, b, c, d] t)).cell? ⟨w3.heap.size, 0, none⟩ = some a := fun a b c d t => cell_four w3.drew a b c d t 0 a rfl
    have ff0 : ∀ (m : Nat) (a b c d : Value) (t : TypeId), ((w3.drewN m).alloc (.cells #[a, b, c, d] t)).frozen? ⟨w3.heap.size, 0, none⟩ = false := fun m a b c d t => frozen_new (w3.drewN m) a b c d t 0
    have fg0 : ∀ (a b c d : Value) (t : TypeId), (w3.drew.alloc (.cells #[a, b, c, d] t)).frozen? ⟨w3.heap.size, 0, none⟩ = false := fun a b c d t => frozen_new w3.drew a b c d t 0
    have fa1 : ∀ (m : Nat) (a b c d : Value) (t : TypeId), ((w3.drewN m).alloc (.cells #[a, b, c, d] t)).cell? ⟨w3.heap.size, 1, none⟩ = some b := fun m a b c d t => cell_four (w3.drewN m) a b c d t 1 b rfl
    have fb1 : ∀ (a b c d : Value) (t : TypeId), (w3.drew.alloc (.cells #[a, b, c, d] t)).cell? ⟨w3.heap.size, 1, none⟩ = some b := fun a b c d t => cell_four w3.drew a b c d t 1 b rfl
    have ff1 : ∀ (m : Nat) (a b c d : Value) (t : TypeId), ((w3.drewN m).alloc (.cells #[a, b, c, d] t)).frozen? ⟨w3.heap.size, 1, none⟩ = false := fun m a b c d t => frozen_new (w3.drewN m) a b c d t 1
    have fg1 : ∀ (a b c d : Value) (t : TypeId), (w3.drew.alloc (.cells #[a, b, c, d] t)).frozen? ⟨w3.heap.size, 1, none⟩ = false := fun a b c d t => frozen_new w3.drew a b c d t 1
    have fa2 : ∀ (m : Nat) (a b c d : Value) (t : TypeId), ((w3.drewN m).alloc (.cells #[a, b, c, d] t)).cell? ⟨w3.heap.size, 2, none⟩ = some c := fun m a b c d t => cell_four (w3.drewN m) a b c d t 2 c rfl
    have fb2 : ∀ (a b c d : Value) (t : TypeId), (w3.drew.alloc (.cells #[a, b, c, d] t)).cell? ⟨w3.heap.size, 2, none⟩ = some c := fun a b c d t => cell_four w3.drew a b c d t 2 c rfl
    have ff2 : ∀ (m : Nat) (a b c d : Value) (t : TypeId), ((w3.drewN m).alloc (.cells #[a, b, c, d] t)).frozen? ⟨w3.heap.size, 2, none⟩ = false := fun m a b c d t => frozen_new (w3.drewN m) a b c d t 2
    have fg2 : ∀ (a b c d : Value) (t : TypeId), (w3.drew.alloc (.cells #[a, b, c, d] t)).frozen? ⟨w3.heap.size, 2, none⟩ = false := fun a b c d t => frozen_new w3.drew a b c d t 2
    have fa3 : ∀ (m : Nat) (a b c d : Value) (t : TypeId), ((w3.drewN m).alloc (.cells #[a, b, c, d] t)).cell? ⟨w3.heap.size, 3, none⟩ = some d := fun m a b c d t => cell_four (w3.drewN m) a b c d t 3 d rfl
    have fb3 : ∀ (a b c d : Value) (t : TypeId), (w3.drew.alloc (.cells #[a, b, c, d] t)).cell? ⟨w3.heap.size, 3, none⟩ = some d := fun a b c d t => cell_four w3.drew a b c d t 3 d rfl
    have ff3 : ∀ (m : Nat) (a b c d : Value) (t : TypeId), ((w3.drewN m).alloc (.cells #[a, b, c, d] t)).frozen? ⟨w3.heap.size, 3, none⟩ = false := fun m a b c d t => frozen_new (w3.drewN m) a b c d t 3
    have fg3 : ∀ (a b c d : Value) (t : TypeId), (w3.drew.alloc (.cells #[a, b, c, d] t)).frozen? ⟨w3.heap.size, 3, none⟩ = false := fun a b c d t => frozen_new w3.drew a b c d t 3
    have wx0 : IntKind.i64.wrap x0 = x0 := by rw [IntKind.wrap_i64]; omega
    have wx9 : IntKind.i64.wrap x9 = x9 := by rw [IntKind.wrap_i64]; omega
    have HK : Hid (Kd w3 b o2 C w3) := ⟨HBY3.out, Below.refl _ _⟩
    have HS0 : Hid (w3.cell? ⟨b, o2, none⟩ = some (.int .u8 x0) ∧ w3.cell? ⟨b, o2 + 9, none⟩ = some (.int .u8 x9) ∧ Hid (Kd w3 b o2 C w3)) := ⟨c0, c9, HK⟩
    go_cut [4] from 5 to 34 (fun s4 wx => s4 = .pointer (some ⟨w3.heap.size, 0, none⟩) ∧ wx.cell? ⟨w3.heap.size, 0, none⟩ = some (.int .i64 x0) ∧ wx.cell? ⟨w3.heap.size, 1, none⟩ = some (.int .i64 f1) ∧ wx.cell? ⟨w3.heap.size, 2, none⟩ = some (.int .i64 f5) ∧ wx.cell? ⟨w3.heap.size, 3, none⟩ = some (.int .i64 x9) ∧ Hid (Below w3.heap.size w3 wx))
    case first =>
      clear c0 c9 HBY3
      go_region_held3 (fun W => W.cell? ⟨b, o2, none⟩ = some (.int .u8 x0) ∧ W.cell? ⟨b, o2 + 9, none⟩ = some (.int .u8 x9) ∧ Hid (Kd w3 b o2 C W)) (first | (with_reducible assumption) | (with_reducible exact (Ks_drew HS0.out)) | (with_reducible exact (Ks_drewN HS0.out _)) | (with_reducible exact (Ks_alloc (Ks_drew HS0.out) _)) | (with_reducible exact (Ks_alloc (Ks_drewN HS0.out _) _)) | (with_reducible exact (Ks_drewN (Ks_alloc (Ks_drew HS0.out) _) _)) | (with_reducible exact (Ks_drewN (Ks_alloc (Ks_drewN HS0.out _) _) _)) | (with_reducible exact (Ks_drew (Ks_alloc HS0.out _))) | (with_reducible exact (Ks_drewN (Ks_alloc HS0.out _) _)) | (with_reducible exact (Ks_set (Ks_set (Ks_set (Ks_set (Ks_alloc (Ks_drew HS0.out) _) _ _ _ hblt (Nat.le_refl _)) _ _ _ hblt (Nat.le_refl _)) _ _ _ hblt (Nat.le_refl _)) _ _ _ hblt (Nat.le_refl _))) | (with_reducible exact (Ks_set (Ks_set (Ks_set (Ks_set (Ks_alloc (Ks_drewN HS0.out _) _) _ _ _ hblt (Nat.le_refl _)) _ _ _ hblt (Nat.le_refl _)) _ _ _ hblt (Nat.le_refl _)) _ _ _ hblt (Nat.le_refl _))) | (with_reducible exact (Ks_set (Ks_set (Ks_set (Ks_set (Ks_drewN (Ks_alloc (Ks_drew HS0.out) _) _) _ _ _ hblt (Nat.le_refl _)) _ _ _ hblt (Nat.le_refl _)) _ _ _ hblt (Nat.le_refl _)) _ _ _ hblt (Nat.le_refl _))) | (with_reducible exact (Ks_set (Ks_set (Ks_set (Ks_set (Ks_drewN (Ks_alloc (Ks_drewN HS0.out _) _) _) _ _ _ hblt (Nat.le_refl _)) _ _ _ hblt (Nat.le_refl _)) _ _ _ hblt (Nat.le_refl _)) _ _ _ hblt (Nat.le_refl _))) | (with_reducible exact (Ks_set (Ks_set (Ks_set (Ks_set (Ks_drew (Ks_alloc HS0.out _)) _ _ _ hblt (Nat.le_refl _)) _ _ _ hblt (Nat.le_refl _)) _ _ _ hblt (Nat.le_refl _)) _ _ _ hblt (Nat.le_refl _))) | (with_reducible exact (Ks_set (Ks_set (Ks_set (Ks_set (Ks_drewN (Ks_alloc HS0.out _) _) _ _ _ hblt (Nat.le_refl _)) _ _ _ hblt (Nat.le_refl _)) _ _ _ hblt (Nat.le_refl _)) _ _ _ hblt (Nat.le_refl _))) | fail) (first | (go_at_call_has 58 (Value.slice (some ⟨b, o2 + 1, none⟩) 4 (c - 1)); refine (HC1.out _ (c - 1) (by assumption)).mono ?_; rintro e w1 ⟨rfl, hs1, rfl⟩) | (go_at_call_has 58 (Value.slice (some ⟨b, o2 + 5, none⟩) 4 (c - 5)); refine (HC5.out _ (c - 5) (by assumption)).mono ?_; rintro e w1 ⟨rfl, hs5, rfl⟩))
      all_goals
        go_wp2_with fail
        go_meet
        exact ⟨rfl, cell_four w3 _ _ _ _ _ 0 _ rfl, cell_four w3 _ _ _ _ _ 1 _ rfl, cell_four w3 _ _ _ _ _ 2 _ rfl, cell_four w3 _ _ _ _ _ 3 _ rfl, (show Below w3.heap.size w3 _ from below_drewN ((Below.refl _ _).alloc (Nat.le_refl _) _) 1)⟩
    case rest =>
      obtain ⟨rfl, q0, q1, q2, q3, hbx⟩ := hcut
      have HC := Lib.hid (fun W => pck_any x0 f1 f5 x9 W)
      rw [← HFE.out] at HC
      obtain ⟨cd, hcd⟩ : ∃ cd, frE C m = cd := ⟨_, rfl⟩
      rw [hcd] at HC
      have HCD := Lib.hid hcd
      have hlt := World.block_lt_of_cell? _ _ q0
      have hz := HZ3.out.up hbx.out
      have hbw := Lib.hid (HB3.out.trans (hbx.out.mono HB3.out.size))
      have hl : w.heap.size < w3.heap.size := HZ3.out.2.2
      clear hbx c0 c9 hcd HFE HC1 HC5 HS0 HK HBY3 hblt fa0 fa1 fa2 fa3 fb0 fb1 fb2 fb3 ff0 ff1 ff2 ff3 fg0 fg1 fg2 fg3 wx0 wx9
      clear HZ3 HB3
      change _ < _ at hlt
      obtain ⟨kb, hkb⟩ : ∃ kb, kb = w3.heap.size := ⟨_, rfl⟩
      rw [← hkb] at q0 q1 q2 q3 hlt hl ⊢
      clear hkb
      obtain ⟨ka, hka⟩ : ∃ ka, ka = w.heap.size := ⟨_, rfl⟩
      have HKA := Lib.hid hka
      rw [← hka] at hz hbw hl ⊢
      obtain ⟨⟨e0, e1, e2, e3⟩, ⟨f0, f1', f2, f3⟩, hka2⟩ := hz
      have hne : ¬ kb = ka := by omega
      have hne2 : ¬ ka = kb := by omega
      clear hka
      have HZ : Hid (Zr ka wc) := ⟨⟨e0, e1, e2, e3⟩, ⟨f0, f1', f2, f3⟩, hka2⟩
      have HS0 : Hid (Sq ka kb w x0 f1 f5 x9 wc) := ⟨q0, q1, q2, q3, (show Kq ka kb w wc from ⟨hbw.out, hlt, hl⟩)⟩
      have HC2 : Hid (∀ W, Sq ka kb w x0 f1 f5 x9 W → Calls Tryd.prog 18 #[.agg #[.int .i64 x0, .int .i64 f1, .int .i64 f5, .int .i64 x9]] W fun e w' => e = .returned (.int .i64 cd) ∧ Sq ka kb w x0 f1 f5 x9 w' ∧ Hid (Below W.heap.size W w')) := fun W h => (HC.out W).mono fun e w' hh => ⟨hh.1, Sq_up h hh.2, hh.2⟩
      clear HC q0 q1 q2 q3
      go_upto_region 6 with fail
      go_region_held3 (fun W => W.cell? ⟨kb, 0, none⟩ = some (.int .i64 x0) ∧ W.cell? ⟨kb, 1, none⟩ = some (.int .i64 f1) ∧ W.cell? ⟨kb, 2, none⟩ = some (.int .i64 f5) ∧ W.cell? ⟨kb, 3, none⟩ = some (.int .i64 x9) ∧ Hid (Kq ka kb w W)) (first | (with_reducible assumption) | (with_reducible exact HS0.out) | (with_reducible exact Sq_drew HS0.out) | (with_reducible exact Sq_drewN HS0.out _) | (with_reducible exact Sq_set (Sq_set (Sq_set (Sq_set (by assumption) _ _) _ _) _ _) _ _) | fail) (first
          | (go_at_call 18; refine (HC2.out _ (by assumption)).mono ?_; rintro e w5 ⟨rfl, hS5, hb5⟩; have hz5 := Zr.up (Zr.drew HZ.out) hb5.out; obtain ⟨⟨d0, d1, d2, d3⟩, ⟨g0, g1, g2, g3⟩, _⟩ := hz5))
      have h4 := four_set w5 ka (.int .i64 x0) (.int .i64 f1) (.int .i64 f5) (.int .i64 x9) d0 d1 d2 d3
      have HB9 := Lib.hid (Sq_set (Sq_set (Sq_set (Sq_set hS5 0 (.int .i64 x0)) 1 (.int .i64 f1)) 2 (.int .i64 f5)) 3 (.int .i64 x9)).2.2.2.2.out.1
      go_wp2_with fail
      exact bodyPost_ret (v := .tuple #[.agg #[.int .i64 x0, .int .i64 f1, .int .i64 f5, .int .i64 x9], .int .i64 cd]) (by simp [results, Tryd.results43, go_sem, h4.1, h4.2.1, h4.2.2.1, h4.2.2.2]) rfl ⟨x0, f1, f5, x9, by rw [HCD.out], fun _ => HEQ.out, by rw [← HKA.out]; exact HB9.out⟩
  · have hs1 : (nv != sm) = true := by simpa using hsum
    go_quiet (first
      | (go_at_call 20; refine Calls.quiet_of_same ((HSMq.out _ _).mono fun e w' h => ⟨h.1, h.2.symm⟩))
      | (go_at_call 58; refine Calls.quiet_of_same ((HN2q.out _ _).mono fun e w' h => ⟨h.1, h.2.symm⟩)))
    have HR : Hid (frE C m = 8) := by show frE C m = 8; rw [HF.out, if_pos (fun h => hsum h.symm)]
    clear HF hsum
    have hz := HZ1.out
    have HB2 := HB1
    generalize hw3 : w1.drewN _ = w3
    have hz3 : Zr w.heap.size w3 := by rw [← hw3]; exact hz
    have hb3 : Below w.heap.size w w3 := by rw [← hw3]; exact below_drewN HB2.out _
    clear hw3 HSMq HN2q HS1 HB1 HZ1 HSM HN2 hs1 hz HB2
    obtain ⟨⟨e0, e1, e2, e3⟩, ⟨f0, f1, f2, f3⟩, hka2⟩ := hz3
    have HB3 := Lib.hid hb3
    clear hb3
    go_wp2_with fail
    have h4 := four_set w3 w.heap.size (.int .i64 0) (.int .i64 0) (.int .i64 0) (.int .i64 0) e0 e1 e2 e3
    exact bodyPost_ret (v := .tuple #[.agg #[.int .i64 0, .int .i64 0, .int .i64 0, .int .i64 0], .int .i64 8]) (by simp [results, Tryd.results43, go_sem, h4.1, h4.2.1, h4.2.2.1, h4.2.2.2]) rfl (FrP.bad HR.out (by omega) (four_below HB3.out _ (Nat.le_refl _) _ _ _ _))
end Go.Proofs.YtlelcooomfcbaaaDoor.Gg

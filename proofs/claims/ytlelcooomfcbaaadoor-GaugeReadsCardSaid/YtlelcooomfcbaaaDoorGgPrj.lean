/-
  The contract of Print of the reference of chapter 6.
-/
import Derived.Test.YtlelcooomfcbaaaDoorGpTxt
import Derived.Test.YtlelcooomfcbaaaDoorGgDca
import Derived.Deep.RegionHeld3
import Derived.Deep.DeepCutAuto
import Derived.Deep.CutRange
namespace Go.Proofs.YtlelcooomfcbaaaDoor.Gg
open Go.ChangeShapes Go.WideShapes Go.ChangeAt Go.RowKit
set_option linter.unusedVariables false

theorem gpri_none (p : Option Addr) (c : Nat) (R : Nat → Nat → Int) (w : World) : Calls Tryd.prog 17 #[.slice p 0 c] w (PrP w 0 []) := by
  have HA := Lib.hid (gall_any p 0 c R w (fun h => absurd h (Nat.lt_irrefl _)) (by omega))
  go_enter Tryd.func17, Tryd.ntmps17
  go_wp2_with (go_at_call 32; refine HA.out.mono ?_; rintro e w1 ⟨rfl, hb1⟩; have HB1 := Lib.hid hb1; clear hb1; rw [show alG R 0 = 0 from rfl])
  go_loopw [18, 5] (fun i s wr => i = .int .i64 0 ∧ s = .string ⟨#[]⟩ ∧ Hid (Below w.heap.size w wr)) (fun _ _ _ => 0)
  case atStart => exact ⟨rfl, rfl, HB1.out⟩
  case round =>
    obtain ⟨rfl, rfl, hb⟩ := hrel
    go_wp2
    go_ret2
    exact ⟨rfl, hb.out⟩
theorem gpri_long (p : Option Addr) (n c : Nat) (R : Nat → Nat → Int) (w : World) (hn : 4096 < n) : Calls Tryd.prog 17 #[.slice p n c] w (PrP w 10 []) := by
  have hni : (4096 : Int) < (n : Int) := by omega
  clear hn
  go_enter Tryd.func17, Tryd.ntmps17
  go_wp2
  go_ret2
  exact ⟨rfl, Below.refl _ _⟩
theorem gpri_bad (p : Option Addr) (n c : Nat) (R : Nat → Nat → Int) (w : World) (hp : RdR w p n R) (hn : n ≤ 4096) (hx : alG R n ≠ 0) : Calls Tryd.prog 17 #[.slice p n c] w (PrP w (alG R n) []) := by
  have hni : (n : Int) ≤ 4096 := by omega
  have HA := Lib.hid (gall_any p n c R w hp (by omega))
  have hcn : (alG R n != 0) = true := by simpa using hx
  clear hp hx
  generalize alG R n = cd at *
  go_enter Tryd.func17, Tryd.ntmps17
  go_wp2_with (go_at_call 32; refine HA.out.mono ?_; rintro e w1 ⟨rfl, hb1⟩; have HB1 := Lib.hid hb1; clear hb1)
  go_ret2
  exact ⟨rfl, HB1.out⟩

/-- What the region of a line keeps. -/
abbrev S4 (w2 : World) (kb : Nat) (r0 r1 r2 r3 : Int) (W : World) : Prop :=
  W.cell? ⟨kb, 0, none⟩ = some (.int .i64 r0) ∧ W.cell? ⟨kb, 1, none⟩ = some (.int .i64 r1) ∧ W.cell? ⟨kb, 2, none⟩ = some (.int .i64 r2) ∧ W.cell? ⟨kb, 3, none⟩ = some (.int .i64 r3) ∧ Hid (kb < w2.heap.size ∧ Below w2.heap.size w2 W)
section
variable {w2 W : World} {kb : Nat} {r0 r1 r2 r3 : Int}
theorem S4_up {W' : World} (h : S4 w2 kb r0 r1 r2 r3 W) (hb : Below W.heap.size W W') : S4 w2 kb r0 r1 r2 r3 W' :=
  have hs := h.2.2.2.2.out.2.size
  have hk := h.2.2.2.2.out.1
  ⟨(hb.cell (p := ⟨kb, 0, none⟩) (by show kb < _; omega)).trans h.1, (hb.cell (p := ⟨kb, 1, none⟩) (by show kb < _; omega)).trans h.2.1, (hb.cell (p := ⟨kb, 2, none⟩) (by show kb < _; omega)).trans h.2.2.1, (hb.cell (p := ⟨kb, 3, none⟩) (by show kb < _; omega)).trans h.2.2.2.1,
    (show kb < w2.heap.size ∧ Below w2.heap.size w2 W' from ⟨hk, h.2.2.2.2.out.2.trans (hb.mono hs)⟩)⟩
theorem S4_drewN (h : S4 w2 kb r0 r1 r2 r3 W) (q : Nat) : S4 w2 kb r0 r1 r2 r3 (W.drewN q) := S4_up h (below_drewN (Below.refl _ _) q)
theorem S4_drew (h : S4 w2 kb r0 r1 r2 r3 W) : S4 w2 kb r0 r1 r2 r3 W.drew := S4_up h (below_drewN (Below.refl _ _) 1)
end
/-- What flags gives, at the flag asked for. -/
theorem flags_at (w2 W : World) (kb : Nat) (r0 r1 r2 r3 : Int) (h : S4 w2 kb r0 r1 r2 r3 W) (f : Nat) (hf : f < 3) : Calls Tryd.prog 38 #[] W fun e w' => e = .returned (.slice (some ⟨W.heap.size, 0, none⟩) 3 3) ∧ S4 w2 kb r0 r1 r2 r3 w' ∧ w'.cell? ⟨W.heap.size, f, none⟩ = some (.string (bT (fwL f))) := by
  refine (flags_any W).mono ?_
  rintro e w' ⟨rfl, rfl⟩
  refine ⟨rfl, S4_up h ((Below.refl _ _).alloc (Nat.le_refl _) _), ?_⟩
  have hc : f = 0 ∨ f = 1 ∨ f = 2 := by omega
  rcases hc with rfl | rfl | rfl <;> (simp; rfl)
theorem line_text (L a b c d : List UInt8) : bT L ++ (((((((bT a ++ bT [32]) ++ bT b) ++ bT [32]) ++ bT c) ++ bT [32]) ++ bT d) ++ bT [10]) = bT (L ++ ((a ++ [32] ++ (b ++ [32]) ++ (c ++ [32])) ++ (d ++ [10]))) := by
  apply ByteArray.ext
  simp [ByteArray.data_append]
set_option maxRecDepth 100000 in
set_option maxHeartbeats 1000000 in
theorem gpri_some (b off n c : Nat) (R : Nat → Nat → Int) (w : World) (hp : Rs w b off n R) (hn : n ≤ 4096) (hx : alG R n = 0) (ht : TbW w) : Calls Tryd.prog 17 #[.slice (some ⟨b, off, none⟩) n c] w (PrP w 0 (prL R n)) := by
  have hni : (n : Int) ≤ 4096 := by omega
  have HA := Lib.hid (gall_any (some ⟨b, off, none⟩) n c R w (fun _ => ⟨b, off, rfl, hp⟩) (by omega))
  rw [hx] at HA
  have HP := Lib.hid hp
  have HV := Lib.hid ((alG_zero R n).1 hx)
  have HT := Lib.hid ht
  clear hp hx ht
  go_enter Tryd.func17, Tryd.ntmps17
  go_wp2_with (go_at_call 32; refine HA.out.mono ?_; rintro e w1 ⟨rfl, hb1⟩; have HB1 := Lib.hid hb1; clear hb1)
  go_loopw [18, 5] (fun i s wr => ∃ (k : Nat) (V : ByteArray), V = bT (prL R k) ∧ k ≤ n ∧ i = .int .i64 k ∧ s = .string V ∧ Hid (Below w.heap.size w wr)) (fun i _ _ => n - (intOf i).toNat)
  case atStart => exact ⟨0, _, rfl, Nat.zero_le _, rfl, rfl, HB1.out⟩
  case round =>
    obtain ⟨k, V, hV, hk, rfl, rfl, hb⟩ := hrel
    by_cases hkn : k < n
    · have hki : (k : Int) < (n : Int) := by omega
      obtain ⟨c0, c1, c2, c3⟩ := (HP.out.up hb.out (Nat.le_refl _)).cells k hkn
      have HVk := Lib.hid (HV.out k hkn)
      have HNk := Lib.hid (HVk.out.nums)
      have hpl := pr_le R k (fun i hi => HV.out i (by omega))
      have HL : Hid (prL R (k + 1) = prL R k ++ ((Lib.itoa (R k 0) ++ [32] ++ (Lib.itoa (R k 1) ++ [32]) ++ (Lib.itoa (R k 2) ++ [32])) ++ (fwL (R k 3) ++ [10]))) := by show prL R k ++ (pcL (R k) 3 ++ (fwL (R k 3) ++ [10])) = _; rfl
      have HVV := Lib.hid hV
      have hsV : V.size ≤ 72 * k := by rw [hV, bT_size]; exact hpl
      clear hV
      go_upto_region 10 with fail
      have hbx0 : Hid (Bx4 (wr.alloc (.cells #[.int .i64 (R k 0), .int .i64 (R k 1), .int .i64 (R k 2), .int .i64 (R k 3)] 23)) wr.heap.size (R k 0) (R k 1) (R k 2) (R k 3)) := Bx4.new _ _ _ _ _
      have hlt := heap_lt hbx0.out
      obtain ⟨d0, d1, d2, d3⟩ := hbx0.out.cells
      have hb2 : Hid (Below w.heap.size w (wr.alloc (.cells #[.int .i64 (R k 0), .int .i64 (R k 1), .int .i64 (R k 2), .int .i64 (R k 3)] 23))) := hb.out.alloc hb.out.size _
      have i0 := itoa_le _ (HNk.out 0 (by omega))
      have i1 := itoa_le _ (HNk.out 1 (by omega))
      have i2 := itoa_le _ (HNk.out 2 (by omega))
      have hVr := HVk.out
      unfold Vr at hVr
      have hf : ∃ f : Nat, f < 3 ∧ R k 3 = (f : Int) := ⟨(R k 3).toNat, by omega, by omega⟩
      obtain ⟨f, hf3, hf⟩ := hf
      have b0 := HNk.out 0 (by omega)
      have b1 := HNk.out 1 (by omega)
      have b2 := HNk.out 2 (by omega)
      rw [hf] at HL
      rw [hf] at d0 d1 d2 d3 hlt hb2 ⊢
      have d3' := d3
      clear hf hbx0 hVr HVk HNk c0 c1 c2 c3
      generalize R k 0 = r0 at *
      generalize R k 1 = r1 at *
      generalize R k 2 = r2 at *
      generalize wr.alloc (.cells #[.int .i64 r0, .int .i64 r1, .int .i64 r2, .int .i64 (f : Int)] 23) = w2 at *
      obtain ⟨N, hN⟩ : ∃ N, N = wr.heap.size := ⟨_, rfl⟩
      rw [← hN] at hlt d0 d1 d2 d3 ⊢
      clear hN hb d3'
      have HS0 : Hid (S4 w2 N r0 r1 r2 (f : Int) w2) := ⟨d0, d1, d2, d3, (show N < w2.heap.size ∧ Below w2.heap.size w2 w2 from ⟨hlt, Below.refl _ _⟩)⟩
      have HI : Hid (∀ W x, S4 w2 N r0 r1 r2 (f : Int) W → (-9223372036854775808 ≤ x ∧ x ≤ 9223372036854775807) → Calls Tryd.prog 35 #[.int .i64 x] W fun e w' => e = .returned (.string (bT (Lib.itoa x))) ∧ S4 w2 N r0 r1 r2 (f : Int) w') := fun W x h hx => by
        refine (itoa_any x W hx (tb_up HT.out (hb2.out.trans (h.2.2.2.2.out.2.mono hb2.out.size)))).mono ?_
        rintro e w' ⟨rfl, hb9⟩
        exact ⟨rfl, S4_up h hb9⟩
      have HI0 := Lib.hid (fun W h => HI.out W r0 h b0)
      have HI1 := Lib.hid (fun W h => HI.out W r1 h b1)
      have HI2 := Lib.hid (fun W h => HI.out W r2 h b2)
      have HFL := Lib.hid (fun W h => flags_at w2 W N r0 r1 r2 (f : Int) h f hf3)
      have HLT := Lib.hid (line_text (prL R k) (Lib.itoa r0) (Lib.itoa r1) (Lib.itoa r2) (fwL (f : Int)))
      rw [← HL.out, ← HVV.out] at HLT
      have z0 : (bT (Lib.itoa r0)).size ≤ 21 := by rw [bT_size]; exact i0
      have z1 : (bT (Lib.itoa r1)).size ≤ 21 := by rw [bT_size]; exact i1
      have z2 : (bT (Lib.itoa r2)).size ≤ 21 := by rw [bT_size]; exact i2
      have z3 : (bT (fwL (f : Int))).size ≤ 5 := by rw [bT_size]; exact fw_le _
      clear HI HL HVV i0 i1 i2 b0 b1 b2 hpl
      generalize bT (Lib.itoa r0) = I0 at *
      generalize bT (Lib.itoa r1) = I1 at *
      generalize bT (Lib.itoa r2) = I2 at *
      generalize bT (fwL (f : Int)) = F at *
      have hf3i : (f : Int) < 3 := by omega
      have hkV : V.size ≤ 294912 := by omega
      obtain ⟨A1, a1⟩ : ∃ A : ByteArray, I0 ++ ⟨#[32]⟩ = A := ⟨_, rfl⟩
      obtain ⟨A2, a2⟩ : ∃ A : ByteArray, A1 ++ I1 = A := ⟨_, rfl⟩
      obtain ⟨A3, a3⟩ : ∃ A : ByteArray, A2 ++ ⟨#[32]⟩ = A := ⟨_, rfl⟩
      obtain ⟨A4, a4⟩ : ∃ A : ByteArray, A3 ++ I2 = A := ⟨_, rfl⟩
      obtain ⟨A5, a5⟩ : ∃ A : ByteArray, A4 ++ ⟨#[32]⟩ = A := ⟨_, rfl⟩
      obtain ⟨A6, a6⟩ : ∃ A : ByteArray, A5 ++ F = A := ⟨_, rfl⟩
      obtain ⟨A7, a7⟩ : ∃ A : ByteArray, A6 ++ ⟨#[10]⟩ = A := ⟨_, rfl⟩
      obtain ⟨A8, a8⟩ : ∃ A : ByteArray, V ++ A7 = A := ⟨_, rfl⟩
      have y1 : A1.size ≤ 22 := by rw [← a1, ByteArray.size_append]; show I0.size + 1 ≤ 22; omega
      have y2 : A2.size ≤ 43 := by rw [← a2, ByteArray.size_append]; omega
      have y3 : A3.size ≤ 44 := by rw [← a3, ByteArray.size_append]; show A2.size + 1 ≤ 44; omega
      have y4 : A4.size ≤ 65 := by rw [← a4, ByteArray.size_append]; omega
      have y5 : A5.size ≤ 66 := by rw [← a5, ByteArray.size_append]; show A4.size + 1 ≤ 66; omega
      have y6 : A6.size ≤ 71 := by rw [← a6, ByteArray.size_append]; omega
      have y7 : A7.size ≤ 72 := by rw [← a7, ByteArray.size_append]; show A6.size + 1 ≤ 72; omega
      have x1 : ¬ 9223372036854775807 < I0.size + 1 := by omega
      have x2 : ¬ 9223372036854775807 < A1.size + I1.size := by omega
      have x3 : ¬ 9223372036854775807 < A2.size + 1 := by omega
      have x4 : ¬ 9223372036854775807 < A3.size + I2.size := by omega
      have x5 : ¬ 9223372036854775807 < A4.size + 1 := by omega
      have x6 : ¬ 9223372036854775807 < A5.size + F.size := by omega
      have x7 : ¬ 9223372036854775807 < A6.size + 1 := by omega
      have x8 : ¬ 9223372036854775807 < V.size + A7.size := by omega
      have HA8 : Hid (A8 = bT (prL R (k + 1))) := by
        show A8 = _
        rw [← HLT.out, ← a8, ← a7, ← a6, ← a5, ← a4, ← a3, ← a2, ← a1]
      clear HLT z0 z1 z2 z3 y1 y2 y3 y4 y5 y6 y7 hsV hkV
      refine wp_region_noPanic ?_
      refine wp_region_held_drew (S := fun W => S4 w2 N r0 r1 r2 (f : Int) W) (by kernel_rfl) ?_ (fun hHeld => ?_)
      · exact S4_drew HS0.out
      refine wpAnyH_take (i := 0) (oi := _) (v := ?_) rfl (by kernel_rfl) (by kernel_rfl) (by kernel_rfl) (fun _ _ _ h => h) (Or.inl ⟨by rfl, ?_⟩) (by assumption) ?_
      rotate_left
      · intro w9 hSw
        obtain ⟨q0, q1, q2, q3, _⟩ := hSw
        go_simp
        try with_reducible rfl
      try simp only [Act.put]
      try simp only [List.setIfInBounds_toArray]
      try simp only [List.set_cons_succ]
      try simp only [List.set_cons_zero]
      refine wpAnyH_take (i := 1) (oi := _) (v := ?_) rfl (by kernel_rfl) (by kernel_rfl) (by kernel_rfl) (fun _ _ _ h => h) (Or.inl ⟨by rfl, ?_⟩) (by assumption) ?_
      rotate_left
      · intro w9 hSw
        obtain ⟨q0, q1, q2, q3, _⟩ := hSw
        go_simp
        try with_reducible rfl
      try simp only [Act.put]
      try simp only [List.setIfInBounds_toArray]
      try simp only [List.set_cons_succ]
      try simp only [List.set_cons_zero]
      refine wpAnyH_take (i := 2) (oi := _) (v := ?_) rfl (by kernel_rfl) (by kernel_rfl) (by kernel_rfl) (fun _ _ _ h => h) (Or.inl ⟨by rfl, ?_⟩) (by assumption) ?_
      rotate_left
      · intro w9 hSw
        obtain ⟨q0, q1, q2, q3, _⟩ := hSw
        go_simp
        try with_reducible rfl
      try simp only [Act.put]
      try simp only [List.setIfInBounds_toArray]
      try simp only [List.set_cons_succ]
      try simp only [List.set_cons_zero]
      refine wpAnyH_take (i := 5) (oi := _) (v := ?_) rfl (by kernel_rfl) (by kernel_rfl) (by kernel_rfl) (fun _ _ _ h => h) (Or.inl ⟨by rfl, ?_⟩) (by assumption) ?_
      rotate_left
      · intro w9 hSw
        obtain ⟨q0, q1, q2, q3, _⟩ := hSw
        go_simp
        try with_reducible rfl
      try simp only [Act.put]
      try simp only [List.setIfInBounds_toArray]
      try simp only [List.set_cons_succ]
      try simp only [List.set_cons_zero]
      refine wpAnyH_take (i := 6) (oi := _) (v := ?_) rfl (by kernel_rfl) (by kernel_rfl) (by kernel_rfl) (fun _ _ _ h => h) (Or.inl ⟨by rfl, ?_⟩) (by assumption) ?_
      rotate_left
      · intro w9 hSw
        obtain ⟨q0, q1, q2, q3, _⟩ := hSw
        go_simp
        try with_reducible rfl
      try simp only [Act.put]
      try simp only [List.setIfInBounds_toArray]
      try simp only [List.set_cons_succ]
      try simp only [List.set_cons_zero]
      refine wpAnyH_take (i := 10) (oi := _) (v := ?_) rfl (by kernel_rfl) (by kernel_rfl) (by kernel_rfl) (fun _ _ _ h => h) (Or.inl ⟨by rfl, ?_⟩) (by assumption) ?_
      rotate_left
      · intro w9 hSw
        obtain ⟨q0, q1, q2, q3, _⟩ := hSw
        go_simp
        try with_reducible rfl
      try simp only [Act.put]
      try simp only [List.setIfInBounds_toArray]
      try simp only [List.set_cons_succ]
      try simp only [List.set_cons_zero]
      refine wpAnyH_take (i := 11) (oi := _) (v := ?_) rfl (by kernel_rfl) (by kernel_rfl) (by kernel_rfl) (fun _ _ _ h => h) (Or.inl ⟨by rfl, ?_⟩) (by assumption) ?_
      rotate_left
      · intro w9 hSw
        obtain ⟨q0, q1, q2, q3, _⟩ := hSw
        go_simp
        try with_reducible rfl
      try simp only [Act.put]
      try simp only [List.setIfInBounds_toArray]
      try simp only [List.set_cons_succ]
      try simp only [List.set_cons_zero]
      refine wpAnyH_take (i := 16) (oi := _) (v := ?_) rfl (by kernel_rfl) (by kernel_rfl) (by kernel_rfl) (fun _ _ _ h => h) (Or.inl ⟨by rfl, ?_⟩) (by assumption) ?_
      rotate_left
      · intro w9 hSw
        obtain ⟨q0, q1, q2, q3, _⟩ := hSw
        go_simp
        try with_reducible rfl
      try simp only [Act.put]
      try simp only [List.setIfInBounds_toArray]
      try simp only [List.set_cons_succ]
      try simp only [List.set_cons_zero]
      refine wpAnyH_take (i := 17) (oi := _) (v := ?_) rfl (by kernel_rfl) (by kernel_rfl) (by kernel_rfl) (fun _ _ _ h => h) (Or.inl ⟨by rfl, ?_⟩) (by assumption) ?_
      rotate_left
      · intro w9 hSw
        obtain ⟨q0, q1, q2, q3, _⟩ := hSw
        go_simp
        try with_reducible rfl
      try simp only [Act.put]
      try simp only [List.setIfInBounds_toArray]
      try simp only [List.set_cons_succ]
      try simp only [List.set_cons_zero]
      refine wpAnyH_ready (rs := [3]) (by kernel_rfl) (by simp) ?_
      refine AllReadyH.cons (o := _) rfl (fun K hK => ?_) AllReadyH.nil
      go_simp
      go_at_call_has 35 (Value.int .i64 r0); refine (HI0.out _ hHeld).mono ?_; rintro e w3 ⟨rfl, hs3⟩
      refine hK.out _ _ ?_ (fun hHeld2 => ?_)
      · exact hs3
      clear hK K hHeld
      have hHeld := hHeld2
      clear hHeld2
      try simp only [Act.put]
      try simp only [List.setIfInBounds_toArray]
      try simp only [List.set_cons_succ]
      try simp only [List.set_cons_zero]
      refine wpAnyH_take (i := 4) (oi := _) (v := ?_) rfl (by kernel_rfl) (by kernel_rfl) (by kernel_rfl) (fun _ _ _ h => h) (Or.inl ⟨by rfl, ?_⟩) (by assumption) ?_
      rotate_left
      · intro w9 hSw
        obtain ⟨q0, q1, q2, q3, _⟩ := hSw
        go_simp
        try with_reducible rfl
      try simp only [Act.put]
      try simp only [List.setIfInBounds_toArray]
      try simp only [List.set_cons_succ]
      try simp only [List.set_cons_zero]
      refine wpAnyH_ready (rs := [7]) (by kernel_rfl) (by simp) ?_
      refine AllReadyH.cons (o := _) rfl (fun K hK => ?_) AllReadyH.nil
      go_simp
      go_at_call_has 35 (Value.int .i64 r1); refine (HI1.out _ hHeld).mono ?_; rintro e w4 ⟨rfl, hs4⟩
      refine hK.out _ _ ?_ (fun hHeld2 => ?_)
      · exact hs4
      clear hK K hHeld
      have hHeld := hHeld2
      clear hHeld2
      try simp only [Act.put]
      try simp only [List.setIfInBounds_toArray]
      try simp only [List.set_cons_succ]
      try simp only [List.set_cons_zero]
      refine wpAnyH_take (i := 8) (oi := _) (v := ?_) rfl (by kernel_rfl) (by kernel_rfl) (by kernel_rfl) (fun _ _ _ h => h) (Or.inl ⟨by rfl, ?_⟩) (by assumption) ?_
      rotate_left
      · intro w9 hSw
        obtain ⟨q0, q1, q2, q3, _⟩ := hSw
        go_simp
        try with_reducible rfl
      try simp only [Act.put]
      try simp only [List.setIfInBounds_toArray]
      try simp only [List.set_cons_succ]
      try simp only [List.set_cons_zero]
      refine wpAnyH_take (i := 9) (oi := _) (v := ?_) rfl (by kernel_rfl) (by kernel_rfl) (by kernel_rfl) (fun _ _ _ h => h) (Or.inl ⟨by rfl, ?_⟩) (by assumption) ?_
      rotate_left
      · intro w9 hSw
        obtain ⟨q0, q1, q2, q3, _⟩ := hSw
        go_simp
        try with_reducible rfl
      try simp only [Act.put]
      try simp only [List.setIfInBounds_toArray]
      try simp only [List.set_cons_succ]
      try simp only [List.set_cons_zero]
      refine wpAnyH_ready (rs := [12]) (by kernel_rfl) (by simp) ?_
      refine AllReadyH.cons (o := _) rfl (fun K hK => ?_) AllReadyH.nil
      go_simp
      go_at_call_has 35 (Value.int .i64 r2); refine (HI2.out _ hHeld).mono ?_; rintro e w5 ⟨rfl, hs5⟩
      refine hK.out _ _ ?_ (fun hHeld2 => ?_)
      · exact hs5
      clear hK K hHeld
      have hHeld := hHeld2
      clear hHeld2
      try simp only [Act.put]
      try simp only [List.setIfInBounds_toArray]
      try simp only [List.set_cons_succ]
      try simp only [List.set_cons_zero]
      refine wpAnyH_take (i := 13) (oi := _) (v := ?_) rfl (by kernel_rfl) (by kernel_rfl) (by kernel_rfl) (fun _ _ _ h => h) (Or.inl ⟨by rfl, ?_⟩) (by assumption) ?_
      rotate_left
      · intro w9 hSw
        obtain ⟨q0, q1, q2, q3, _⟩ := hSw
        go_simp
        try with_reducible rfl
      try simp only [Act.put]
      try simp only [List.setIfInBounds_toArray]
      try simp only [List.set_cons_succ]
      try simp only [List.set_cons_zero]
      refine wpAnyH_take (i := 14) (oi := _) (v := ?_) rfl (by kernel_rfl) (by kernel_rfl) (by kernel_rfl) (fun _ _ _ h => h) (Or.inl ⟨by rfl, ?_⟩) (by assumption) ?_
      rotate_left
      · intro w9 hSw
        obtain ⟨q0, q1, q2, q3, _⟩ := hSw
        go_simp
        try with_reducible rfl
      try simp only [Act.put]
      try simp only [List.setIfInBounds_toArray]
      try simp only [List.set_cons_succ]
      try simp only [List.set_cons_zero]
      refine wpAnyH_ready (rs := [15]) (by kernel_rfl) (by simp) ?_
      refine AllReadyH.cons (o := _) rfl (fun K hK => ?_) AllReadyH.nil
      go_simp
      go_at_call 38; refine (HFL.out _ hHeld).mono ?_; rintro e w6 ⟨rfl, hs6, hc6⟩
      refine hK.out _ _ ?_ (fun hHeld2 => ?_)
      · exact hs6
      clear hK K hHeld
      have hHeld := hHeld2
      clear hHeld2
      try simp only [Act.put]
      try simp only [List.setIfInBounds_toArray]
      try simp only [List.set_cons_succ]
      try simp only [List.set_cons_zero]
      refine wpAnyH_take (i := 18) (oi := _) (v := ?_) rfl (by kernel_rfl) (by kernel_rfl) (by kernel_rfl) (fun _ _ _ h => h) (Or.inl ⟨by rfl, ?_⟩) (by assumption) ?_
      rotate_left
      · intro w9 hSw
        obtain ⟨q0, q1, q2, q3, _⟩ := hSw
        go_simp
        try with_reducible rfl
      try simp only [Act.put]
      try simp only [List.setIfInBounds_toArray]
      try simp only [List.set_cons_succ]
      try simp only [List.set_cons_zero]
      refine wpAnyH_ready (rs := [19]) (by kernel_rfl) (by simp) ?_
      refine AllReadyH.cons (o := _) rfl (fun K hK => ?_) AllReadyH.nil
      go_simp
      skip
      refine hK.out _ _ ?_ (fun hHeld2 => ?_)
      · exact hs6
      clear hK K hHeld
      have hHeld := hHeld2
      clear hHeld2
      try simp only [Act.put]
      try simp only [List.setIfInBounds_toArray]
      try simp only [List.set_cons_succ]
      try simp only [List.set_cons_zero]
      refine wpAnyH_take (i := 20) (oi := _) (v := ?_) rfl (by kernel_rfl) (by kernel_rfl) (by kernel_rfl) (fun _ _ _ h => h) (Or.inl ⟨by rfl, ?_⟩) (by assumption) ?_
      rotate_left
      · intro w9 hSw
        obtain ⟨q0, q1, q2, q3, _⟩ := hSw
        go_simp
        try with_reducible rfl
      try simp only [Act.put]
      try simp only [List.setIfInBounds_toArray]
      try simp only [List.set_cons_succ]
      try simp only [List.set_cons_zero]
      refine wpAnyH_take (i := 21) (oi := _) (v := ?_) rfl (by kernel_rfl) (by kernel_rfl) (by kernel_rfl) (fun _ _ _ h => h) (Or.inl ⟨by rfl, ?_⟩) (by assumption) ?_
      rotate_left
      · intro w9 hSw
        obtain ⟨q0, q1, q2, q3, _⟩ := hSw
        go_simp
        try with_reducible rfl
      try simp only [Act.put]
      try simp only [List.setIfInBounds_toArray]
      try simp only [List.set_cons_succ]
      try simp only [List.set_cons_zero]
      refine wpAnyH_take (i := 22) (oi := _) (v := ?_) rfl (by kernel_rfl) (by kernel_rfl) (by kernel_rfl) (fun _ _ _ h => h) (Or.inl ⟨by rfl, ?_⟩) (by assumption) ?_
      rotate_left
      · intro w9 hSw
        obtain ⟨q0, q1, q2, q3, _⟩ := hSw
        go_simp
        try with_reducible rfl
      try simp only [Act.put]
      try simp only [List.setIfInBounds_toArray]
      try simp only [List.set_cons_succ]
      try simp only [List.set_cons_zero]
      refine wpAnyH_take (i := 23) (oi := _) (v := ?_) rfl (by kernel_rfl) (by kernel_rfl) (by kernel_rfl) (fun _ _ _ h => h) (Or.inl ⟨by rfl, ?_⟩) (by assumption) ?_
      rotate_left
      · intro w9 hSw
        obtain ⟨q0, q1, q2, q3, _⟩ := hSw
        go_simp
        try with_reducible rfl
      try simp only [Act.put]
      try simp only [List.setIfInBounds_toArray]
      try simp only [List.set_cons_succ]
      try simp only [List.set_cons_zero]
      refine wpAnyH_done (by kernel_rfl) ?_ _
      refine NoPanic.normal ?_
      have HBL : Hid (Below w.heap.size w w6) := hb2.out.trans (hs6.2.2.2.2.out.2.mono hb2.out.size)
      clear hHeld hs3 hs4 hs5 hs6 hc6 HS0 HI0 HI1 HI2 HFL d0 d1 d2 d3
      clear a1 a2 a3 a4 a5 a6 a7 a8 x1 x2 x3 x4 x5 x6 x7 x8
      go_wp2_with fail
      go_roundw
      case rel => exact ⟨k + 1, _, HA8.out, by omega, by go_num, rfl, HBL⟩
      case measure => simp [intOf]; omega
    · obtain rfl : k = n := by omega
      have HVV := Lib.hid hV
      clear hV
      go_wp2
      go_ret2
      exact ⟨by rw [HVV.out]; rfl, hb.out⟩
theorem gpri_any (p : Option Addr) (n c : Nat) (R : Nat → Nat → Int) (w : World) (hp : RdR w p n R) (ht : TbW w) : Calls Tryd.prog 17 #[.slice p n c] w (PrP w (enX R n) (prS R n)) := by
  by_cases hn : n ≤ 4096
  · have e : enX R n = alG R n := if_neg (by omega)
    by_cases hx : alG R n = 0
    · have e2 : prS R n = prL R n := by unfold prS; rw [e, if_pos hx]
      rw [e2, e, hx]
      by_cases h0 : n = 0
      · subst h0; exact gpri_none p c R w
      · obtain ⟨b, off, rfl, hpt⟩ := hp (by omega)
        exact gpri_some b off n c R w hpt hn hx ht
    · have e2 : prS R n = [] := by unfold prS; rw [e, if_neg hx]
      rw [e2, e]
      exact gpri_bad p n c R w hp hn hx
  · have e : enX R n = 10 := if_pos (by omega)
    have e2 : prS R n = [] := by unfold prS; rw [e]; rfl
    rw [e2, e]
    exact gpri_long p n c R w (by omega)
theorem ppri_any (p : Option Addr) (n c : Nat) (R : Nat → Nat → Int) (w : World) (hp : RdR w p n R) (hn : n ≤ 9223372036854775806) (hw : FlW w) (ht : TbW w) : Calls Tryd.prog 16 #[.slice p n c] w (PrP w (enX R n) (prS R n)) := by
  by_cases hx : enX R n = 0
  · have e2 : prS R n = prL R n := by unfold prS; rw [if_pos hx]
    have h4 : n ≤ 4096 ∧ alG R n = 0 := by
      unfold enX at hx
      by_cases h : 4096 < n
      · rw [if_pos h] at hx; omega
      · rw [if_neg h] at hx; exact ⟨by omega, hx⟩
    rw [e2, hx]
    exact ppri_good p n c R w hp h4.1 h4.2 hw ht
  · have e2 : prS R n = [] := by unfold prS; rw [if_neg hx]
    rw [e2]
    exact ppri_bad p n c R w hp hn hx
end Go.Proofs.YtlelcooomfcbaaaDoor.Gg

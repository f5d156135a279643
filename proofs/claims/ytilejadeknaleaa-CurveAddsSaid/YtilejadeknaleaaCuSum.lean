/-
  The sum of two curves: at each number it is the sum of both values, up to 1.
-/
import Derived.Test.YtilejadeknaleaaCuLst
namespace Go.Proofs.Ytilejadeknaleaa.Cu

theorem core_u (A B d gp gq gv Np Nq Nv : Int) (hA : 0 ≤ A) (hB : 0 ≤ B) (hAB : 0 < A + B) (hd : 0 < d) (h1 : d * gp ≤ Np) (h2 : d * gq ≤ Nq) (h3 : Nv ≤ d * gv + d - 1) (hN : (A + B) * Nv = A * Np + B * Nq) :
    A * gp + B * gq ≤ (A + B) * gv + (A + B) - 1 := by
  have e1 : d * (A * gp + B * gq) = A * (d * gp) + B * (d * gq) := by rw [Int.mul_add, Int.mul_left_comm, Int.mul_left_comm d B]
  have l1 := Int.mul_le_mul_of_nonneg_left h1 hA
  have l2 := Int.mul_le_mul_of_nonneg_left h2 hB
  have l3 := Int.mul_le_mul_of_nonneg_left h3 (show 0 ≤ A + B by omega)
  have e2 : (A + B) * (d * gv + d - 1) = d * ((A + B) * gv + (A + B)) - (A + B) := by
    rw [Int.mul_sub, Int.mul_add, Int.mul_one, Int.mul_add d, Int.mul_left_comm, Int.mul_comm (A + B) d]
  have l4 : d * (A * gp + B * gq) < d * ((A + B) * gv + (A + B)) := by omega
  have := Int.lt_of_mul_lt_mul_left l4 (Int.le_of_lt hd)
  omega
theorem core_l (A B d gp gq gv Np Nq Nv ep eq : Int) (hA : 0 ≤ A) (hB : 0 ≤ B) (hAB : 0 < A + B) (hd : 0 < d) (h4 : d * gv ≤ Nv) (h5 : Np ≤ d * (gp + ep)) (h6 : Nq ≤ d * (gq + eq)) (hN : (A + B) * Nv = A * Np + B * Nq) :
    (A + B) * gv ≤ A * (gp + ep) + B * (gq + eq) := by
  have l1 := Int.mul_le_mul_of_nonneg_left h5 hA
  have l2 := Int.mul_le_mul_of_nonneg_left h6 hB
  have l3 := Int.mul_le_mul_of_nonneg_left h4 (show 0 ≤ A + B by omega)
  have e1 : d * (A * (gp + ep) + B * (gq + eq)) = A * (d * (gp + ep)) + B * (d * (gq + eq)) := by rw [Int.mul_add, Int.mul_left_comm, Int.mul_left_comm d B]
  have e2 : d * ((A + B) * gv) = (A + B) * (d * gv) := Int.mul_left_comm _ _ _
  have l4 : d * ((A + B) * gv) ≤ d * (A * (gp + ep) + B * (gq + eq)) := by omega
  exact Int.le_of_mul_le_mul_left l4 hd

theorem mix (a b K H : Int) : (a + b) * K = a * (K - b * H) + b * (K + a * H) := by
  rw [Int.mul_sub, Int.mul_add, Int.add_mul, Int.mul_left_comm b a H]
  omega
/-- The line between two numbers that no point parts. -/
theorem seg_core {X Y : Nat → Int} {m : Nat} (h : Asc X Y m) (p q v ep eq : Int) (hpq : p < q) (h1 : p ≤ v) (h2 : v ≤ q) (hno : ∀ i, i ≤ m → ¬ (p < X i ∧ X i < q))
    (hep : ep = 1 ∨ ep = 0 ∧ ∃ i, i ≤ m ∧ X i = p) (heq : eq = 1 ∨ eq = 0 ∧ ∃ i, i ≤ m ∧ X i = q) :
    (q - v) * val X Y m p + (v - p) * val X Y m q ≤ (q - p) * val X Y m v + (q - p) - 1 ∧ (q - p) * val X Y m v ≤ (q - v) * (val X Y m p + ep) + (v - p) * (val X Y m q + eq) := by
  have hA : 0 ≤ q - v := by omega
  have hB : 0 ≤ v - p := by omega
  have hAB : q - p = (q - v) + (v - p) := by omega
  have flat : ∀ c : Int, (q - v) * c + (v - p) * c ≤ (q - p) * c + (q - p) - 1 ∧ (q - p) * c ≤ (q - v) * (c + ep) + (v - p) * (c + eq) := by
    intro c
    have e1 : (q - p) * c = (q - v) * c + (v - p) * c := by rw [hAB, Int.add_mul]
    have l1 := mulp hA (show 0 ≤ ep by omega)
    have l2 := mulp hB (show 0 ≤ eq by omega)
    rw [Int.mul_add (q - v), Int.mul_add (v - p)]
    omega
  by_cases c1 : q ≤ X 0
  · rw [val_low X Y m h p (by omega), val_low X Y m h q c1, val_low X Y m h v (by omega)]
    exact flat _
  by_cases c2 : X m ≤ p
  · rw [val_high X Y m p c2, val_high X Y m q (by omega), val_high X Y m v (by omega)]
    exact flat _
  have c3 : X 0 ≤ p := by have := hno 0 (Nat.zero_le _); omega
  obtain ⟨i, hi, s1, s2⟩ := seg_ex X Y m h p c3 (by omega)
  have s3 : q ≤ X (i + 1) := by have := hno (i + 1) (by omega); omega
  have hi2 := h i hi
  rw [val_seg X Y m h i hi p s1 (by omega), val_seg X Y m h i hi q (by omega) s3, val_seg X Y m h i hi v (by omega) (by omega)]
  unfold lin
  have hd : 0 < X (i + 1) - X i := by omega
  have key : ∀ x : Int, (X (i + 1) - X i) * ((x - X i) * (Y (i + 1) - Y i) / (X (i + 1) - X i)) ≤ (x - X i) * (Y (i + 1) - Y i) ∧ (x - X i) * (Y (i + 1) - Y i) ≤ (X (i + 1) - X i) * ((x - X i) * (Y (i + 1) - Y i) / (X (i + 1) - X i)) + (X (i + 1) - X i) - 1 := by
    intro x
    have e := Int.mul_ediv_add_emod ((x - X i) * (Y (i + 1) - Y i)) (X (i + 1) - X i)
    have e2 := Int.emod_nonneg ((x - X i) * (Y (i + 1) - Y i)) (show X (i + 1) - X i ≠ 0 by omega)
    have e3 := Int.emod_lt_of_pos ((x - X i) * (Y (i + 1) - Y i)) hd
    omega
  have hN : ((q - v) + (v - p)) * ((v - X i) * (Y (i + 1) - Y i)) = (q - v) * ((p - X i) * (Y (i + 1) - Y i)) + (v - p) * ((q - X i) * (Y (i + 1) - Y i)) := by
    have e1 : (p - X i) * (Y (i + 1) - Y i) = (v - X i) * (Y (i + 1) - Y i) - (v - p) * (Y (i + 1) - Y i) := by rw [← Int.sub_mul]; congr 1; omega
    have e2 : (q - X i) * (Y (i + 1) - Y i) = (v - X i) * (Y (i + 1) - Y i) + (q - v) * (Y (i + 1) - Y i) := by rw [← Int.add_mul]; congr 1; omega
    rw [e1, e2]
    exact mix (q - v) (v - p) ((v - X i) * (Y (i + 1) - Y i)) (Y (i + 1) - Y i)
  obtain ⟨kp1, kp2⟩ := key p
  obtain ⟨kq1, kq2⟩ := key q
  obtain ⟨kv1, kv2⟩ := key v
  have u := core_u (q - v) (v - p) (X (i + 1) - X i) _ _ _ _ _ _ hA hB (by omega) hd kp1 kq1 kv2 hN
  have l5 : (p - X i) * (Y (i + 1) - Y i) ≤ (X (i + 1) - X i) * ((p - X i) * (Y (i + 1) - Y i) / (X (i + 1) - X i) + ep) := by
    rcases hep with rfl | ⟨rfl, j, hj, hjp⟩
    · rw [Int.mul_add, Int.mul_one]; omega
    · have : X i = p := by
        apply Classical.byContradiction
        intro hne
        rcases Nat.lt_or_ge i j with hij | hij
        · have := h.xle j (i + 1) (by omega) hj; omega
        · have := h.xle i j hij (by omega); omega
      rw [this, Int.sub_self, Int.zero_mul, Int.zero_ediv, Int.add_zero, Int.mul_zero]; exact Int.le_refl _
  have l6 : (q - X i) * (Y (i + 1) - Y i) ≤ (X (i + 1) - X i) * ((q - X i) * (Y (i + 1) - Y i) / (X (i + 1) - X i) + eq) := by
    rcases heq with rfl | ⟨rfl, j, hj, hjq⟩
    · rw [Int.mul_add, Int.mul_one]; omega
    · have : X (i + 1) = q := by
        apply Classical.byContradiction
        intro hne
        rcases Nat.lt_or_ge i j with hij | hij
        · have := h.xle j (i + 1) (by omega) hj; omega
        · have := h.xle i j hij (by omega); omega
      rw [← this, Int.mul_ediv_cancel_left _ (by omega), Int.add_zero]; exact Int.le_refl _
  have l := core_l (q - v) (v - p) (X (i + 1) - X i) _ _ _ _ _ _ ep eq hA hB (by omega) hd kv1 l5 l6 hN
  generalize (p - X i) * (Y (i + 1) - Y i) / (X (i + 1) - X i) = gp at *
  generalize (q - X i) * (Y (i + 1) - Y i) / (X (i + 1) - X i) = gq at *
  generalize (v - X i) * (Y (i + 1) - Y i) / (X (i + 1) - X i) = gv at *
  have f1 : (q - p) * (Y i + gv) = (q - v) * Y i + (v - p) * Y i + ((q - v) + (v - p)) * gv := by rw [hAB, Int.mul_add, Int.add_mul]
  have f2 : (q - v) * (Y i + gp) = (q - v) * Y i + (q - v) * gp := Int.mul_add _ _ _
  have f3 : (v - p) * (Y i + gq) = (v - p) * Y i + (v - p) * gq := Int.mul_add _ _ _
  have f4 : (q - v) * (Y i + gp + ep) = (q - v) * Y i + (q - v) * (gp + ep) := by rw [← Int.mul_add, Int.add_assoc]
  have f5 : (v - p) * (Y i + gq + eq) = (v - p) * Y i + (v - p) * (gq + eq) := by rw [← Int.mul_add, Int.add_assoc]
  rw [f1, f2, f3, f4, f5]
  omega

/-- Which numbers a sum has. -/
def Both (Xa Xb : Nat → Int) (ma mb : Nat) (x : Int) : Prop := (∃ i, i ≤ ma ∧ Xa i = x) ∨ ∃ i, i ≤ mb ∧ Xb i = x

/-- The sum of two curves at a number. -/
theorem sum_near {Xa Ya Xb Yb : Nat → Int} {ma mb : Nat} (ha : Asc Xa Ya ma) (hb : Asc Xb Yb mb) {L : List Int} (hL : SA L) (hmem : ∀ x, x ∈ L ↔ Both Xa Xb ma mb x) (k : Nat) (hk : L.length = k + 1) (v : Int) :
    val Xa Ya ma v + val Xb Yb mb v - 1 ≤ val (lx L) (ly (fun x => val Xa Ya ma x + val Xb Yb mb x) L) k v ∧ val (lx L) (ly (fun x => val Xa Ya ma x + val Xb Yb mb x) L) k v ≤ val Xa Ya ma v + val Xb Yb mb v + 1 := by
  have hasc : Asc (lx L) (ly (fun x => val Xa Ya ma x + val Xb Yb mb x) L) k := fun i hi => by
    have h1 := lx_lt hL (show i < i + 1 by omega) (by omega)
    refine ⟨h1, ?_⟩
    show val Xa Ya ma (lx L i) + val Xb Yb mb (lx L i) ≤ val Xa Ya ma (lx L (i + 1)) + val Xb Yb mb (lx L (i + 1))
    have := val_mono Xa Ya ma ha _ _ (Int.le_of_lt h1)
    have := val_mono Xb Yb mb hb _ _ (Int.le_of_lt h1)
    omega
  have hly : ∀ i, ly (fun x => val Xa Ya ma x + val Xb Yb mb x) L i = val Xa Ya ma (lx L i) + val Xb Yb mb (lx L i) := fun i => rfl
  have inL : ∀ x, Both Xa Xb ma mb x → ∃ t, t ≤ k ∧ lx L t = x := fun x hx => by
    obtain ⟨t, ht, e⟩ := mem_lx ((hmem x).2 hx)
    exact ⟨t, by omega, e⟩
  by_cases c1 : v ≤ lx L 0
  · rw [val_low _ _ k hasc v c1, hly]
    have a0 : lx L 0 ≤ Xa 0 := by
      obtain ⟨t, ht, e⟩ := inL (Xa 0) (.inl ⟨0, Nat.zero_le _, rfl⟩)
      have := hasc.xle t 0 (Nat.zero_le _) ht; omega
    have b0 : lx L 0 ≤ Xb 0 := by
      obtain ⟨t, ht, e⟩ := inL (Xb 0) (.inr ⟨0, Nat.zero_le _, rfl⟩)
      have := hasc.xle t 0 (Nat.zero_le _) ht; omega
    rw [val_low Xa Ya ma ha v (by omega), val_low Xb Yb mb hb v (by omega), val_low Xa Ya ma ha _ a0, val_low Xb Yb mb hb _ b0]
    omega
  by_cases c2 : lx L k ≤ v
  · rw [val_high _ _ k v c2, hly]
    have a0 : Xa ma ≤ lx L k := by
      obtain ⟨t, ht, e⟩ := inL (Xa ma) (.inl ⟨ma, Nat.le_refl _, rfl⟩)
      have := hasc.xle k t ht (Nat.le_refl _); omega
    have b0 : Xb mb ≤ lx L k := by
      obtain ⟨t, ht, e⟩ := inL (Xb mb) (.inr ⟨mb, Nat.le_refl _, rfl⟩)
      have := hasc.xle k t ht (Nat.le_refl _); omega
    rw [val_high Xa Ya ma v (by omega), val_high Xb Yb mb v (by omega), val_high Xa Ya ma _ a0, val_high Xb Yb mb _ b0]
    omega
  obtain ⟨i, hi, s1, s2⟩ := seg_ex _ _ k hasc v (by omega) (by omega)
  rw [val_seg _ _ k hasc i hi v s1 (by omega)]
  have hlt := (hasc i hi).1
  have gap : ∀ x, Both Xa Xb ma mb x → ¬ (lx L i < x ∧ x < lx L (i + 1)) := fun x hx hc => by
    obtain ⟨t, ht, e⟩ := inL x hx
    rcases Nat.lt_or_ge i t with h1 | h1
    · have := hasc.xle t (i + 1) (by omega) ht; omega
    · have := hasc.xle i t h1 (by omega); omega
  have noA : ∀ j, j ≤ ma → ¬ (lx L i < Xa j ∧ Xa j < lx L (i + 1)) := fun j hj => gap _ (.inl ⟨j, hj, rfl⟩)
  have noB : ∀ j, j ≤ mb → ¬ (lx L i < Xb j ∧ Xb j < lx L (i + 1)) := fun j hj => gap _ (.inr ⟨j, hj, rfl⟩)
  -- at each end one of both has a point
  have ends : ∀ t, t ≤ k → ∃ ea eb : Int, ea + eb ≤ 1 ∧ (ea = 1 ∨ ea = 0 ∧ ∃ j, j ≤ ma ∧ Xa j = lx L t) ∧ (eb = 1 ∨ eb = 0 ∧ ∃ j, j ≤ mb ∧ Xb j = lx L t) := fun t ht => by
    rcases (hmem (lx L t)).1 (lx_mem (by omega)) with h | h
    · exact ⟨0, 1, by omega, .inr ⟨rfl, h⟩, .inl rfl⟩
    · exact ⟨1, 0, by omega, .inl rfl, .inr ⟨rfl, h⟩⟩
  obtain ⟨pa, pb, hp, hpa, hpb⟩ := ends i (by omega)
  obtain ⟨qa, qb, hq, hqa, hqb⟩ := ends (i + 1) (by omega)
  obtain ⟨u1, l1⟩ := seg_core ha (lx L i) (lx L (i + 1)) v pa qa hlt s1 (by omega) noA hpa hqa
  obtain ⟨u2, l2⟩ := seg_core hb (lx L i) (lx L (i + 1)) v pb qb hlt s1 (by omega) noB hpb hqb
  unfold lin
  rw [hly, hly]
  generalize hP : lx L i = P at *
  generalize hQ : lx L (i + 1) = Q at *
  generalize val Xa Ya ma P = ap at *
  generalize val Xa Ya ma Q = aq at *
  generalize val Xb Yb mb P = bp at *
  generalize val Xb Yb mb Q = bq at *
  generalize val Xa Ya ma v = av at *
  generalize val Xb Yb mb v = bv at *
  have eD : Q - P = (Q - v) + (v - P) := by omega
  have hA : 0 ≤ Q - v := by omega
  have hB : 0 ≤ v - P := by omega
  -- the line of the sum
  have e1 : (v - P) * (aq + bq - (ap + bp)) = ((v - P) * aq + (v - P) * bq) - ((v - P) * ap + (v - P) * bp) := by rw [Int.mul_sub, Int.mul_add, Int.mul_add]
  have e2 : (Q - P) * ap = (Q - v) * ap + (v - P) * ap := by rw [eD, Int.add_mul]
  have e3 : (Q - P) * bp = (Q - v) * bp + (v - P) * bp := by rw [eD, Int.add_mul]
  have f1 : (Q - v) * (ap + pa) = (Q - v) * ap + (Q - v) * pa := Int.mul_add _ _ _
  have f2 : (v - P) * (aq + qa) = (v - P) * aq + (v - P) * qa := Int.mul_add _ _ _
  have f3 : (Q - v) * (bp + pb) = (Q - v) * bp + (Q - v) * pb := Int.mul_add _ _ _
  have f4 : (v - P) * (bq + qb) = (v - P) * bq + (v - P) * qb := Int.mul_add _ _ _
  have g1 : (Q - v) * pa + (Q - v) * pb ≤ Q - v := by
    rw [← Int.mul_add]; have := Int.mul_le_mul_of_nonneg_left hp hA; omega
  have g2 : (v - P) * qa + (v - P) * qb ≤ v - P := by
    rw [← Int.mul_add]; have := Int.mul_le_mul_of_nonneg_left hq hB; omega
  have hd : 0 < Q - P := by omega
  constructor
  · have h1 : av + bv - 1 - (ap + bp) ≤ (v - P) * (aq + bq - (ap + bp)) / (Q - P) := by
      rw [le_div hd, Int.mul_comm, Int.mul_sub, Int.mul_sub, Int.mul_add, Int.mul_add, Int.mul_one]
      omega
    omega
  · have h1 : (v - P) * (aq + bq - (ap + bp)) / (Q - P) < av + bv + 2 - (ap + bp) := by
      have r1 : (Q - P) * (av + bv + 2 - (ap + bp)) = (Q - P) * av + (Q - P) * bv + (Q - P) * 2 - ((Q - P) * ap + (Q - P) * bp) := by rw [Int.mul_sub, Int.mul_add, Int.mul_add, Int.mul_add]
      rw [div_lt hd, Int.mul_comm _ (Q - P), r1, e1]
      omega
    omega
end Go.Proofs.Ytilejadeknaleaa.Cu

/-
  What counts of a list of readings: the last one; filtered lists; appending a whole list.
-/
import Derived.Test.YtlelcooomfcbaaaDoorGpSer
import Derived.Laws.AppendOwnNone
namespace Go.Proofs.YtlelcooomfcbaaaDoor.Gg
open Go.ChangeShapes Go.WideShapes Go.ChangeAt Go.RowKit
set_option linter.unusedVariables false

/-- The last of the first k readings of a gauge and a time. -/
def vaL (R : Nat → Nat → Int) (g u : Int) : Nat → Option (Nat → Int)
  | 0 => none
  | k + 1 => if R k 0 = g ∧ R k 1 = u then some (R k) else vaL R g u k
theorem vaL_eq (R : Nat → Nat → Int) (g u : Int) : ∀ n, vaL R g u n = (lastG R g u n).map R
  | 0 => rfl
  | n + 1 => by
    unfold vaL lastG
    by_cases h : R n 0 = g ∧ R n 1 = u
    · rw [if_pos h, if_pos h]; rfl
    · rw [if_neg h, if_neg h]; exact vaL_eq R g u n
theorem serG_va (R : Nat → Nat → Int) (n : Nat) (g u : Int) : serG R n g u = (vaL R g u n).getD (mkR g u 0 2) := by
  rw [vaL_eq]
  unfold serG
  cases lastG R g u n <;> rfl
theorem vaL_congr (A B : Nat → Nat → Int) (g u : Int) : ∀ n, (∀ i, i < n → A i = B i) → vaL A g u n = vaL B g u n
  | 0, _ => rfl
  | n + 1, h => by
    unfold vaL
    rw [h n (by omega), vaL_congr A B g u n (fun i hi => h i (by omega))]
theorem vaL_some (R : Nat → Nat → Int) (g u : Int) : ∀ n r, vaL R g u n = some r → r 0 = g ∧ r 1 = u
  | 0, r, h => by cases h
  | n + 1, r, h => by
    unfold vaL at h
    by_cases e : R n 0 = g ∧ R n 1 = u
    · rw [if_pos e] at h; cases h; exact e
    · rw [if_neg e] at h; exact vaL_some R g u n r h
theorem ser_gt (R : Nat → Nat → Int) (n : Nat) (g u : Int) : serG R n g u 0 = g ∧ serG R n g u 1 = u := by
  rw [serG_va]
  cases h : vaL R g u n with
  | none => exact ⟨rfl, rfl⟩
  | some r => exact vaL_some R g u n r h
/-- The readings of gauge g among the first k. -/
def fiC (R : Nat → Nat → Int) (g : Int) : Nat → Nat
  | 0 => 0
  | k + 1 => if R k 0 = g then fiC R g k + 1 else fiC R g k
def fiF (R : Nat → Nat → Int) (g : Int) : Nat → Nat → Nat → Int
  | 0 => fun _ _ => 0
  | k + 1 => if R k 0 = g then updR (fiF R g k) (fiC R g k) (R k) else fiF R g k
theorem fiC_le (R : Nat → Nat → Int) (g : Int) : ∀ k, fiC R g k ≤ k
  | 0 => Nat.le_refl _
  | k + 1 => by
    have := fiC_le R g k
    unfold fiC
    split <;> omega
theorem va_fi (R : Nat → Nat → Int) (g u : Int) : ∀ k, vaL (fiF R g k) g u (fiC R g k) = vaL R g u k
  | 0 => rfl
  | k + 1 => by
    have ih := va_fi R g u k
    show vaL (if R k 0 = g then updR (fiF R g k) (fiC R g k) (R k) else fiF R g k) g u (if R k 0 = g then fiC R g k + 1 else fiC R g k) = if R k 0 = g ∧ R k 1 = u then some (R k) else vaL R g u k
    by_cases h : R k 0 = g
    · rw [if_pos h, if_pos h]
      show (if updR (fiF R g k) (fiC R g k) (R k) (fiC R g k) 0 = g ∧ updR (fiF R g k) (fiC R g k) (R k) (fiC R g k) 1 = u then some (updR (fiF R g k) (fiC R g k) (R k) (fiC R g k)) else vaL (updR (fiF R g k) (fiC R g k) (R k)) g u (fiC R g k)) = _
      rw [updR_same, vaL_congr (updR (fiF R g k) (fiC R g k) (R k)) (fiF R g k) g u (fiC R g k) (fun i hi => updR_other _ _ (by omega)), ih]
    · rw [if_neg h, if_neg h, if_neg (fun e => h e.1), ih]
theorem fi_gauge (R : Nat → Nat → Int) (g : Int) : ∀ k, ∀ i, i < fiC R g k → fiF R g k i 0 = g
  | 0, i, h => absurd h (Nat.not_lt_zero _)
  | k + 1, i, h => by
    unfold fiC at h
    unfold fiF
    by_cases e : R k 0 = g
    · rw [if_pos e] at h ⊢
      by_cases e2 : i = fiC R g k
      · subst e2; rw [updR_same]; exact e
      · rw [updR_other _ _ e2]; exact fi_gauge R g k i (by omega)
    · rw [if_neg e] at h ⊢
      exact fi_gauge R g k i h
theorem fi_mem (R : Nat → Nat → Int) (g : Int) : ∀ k, ∀ i, i < fiC R g k → ∃ j, j < k ∧ fiF R g k i = R j
  | 0, i, h => absurd h (Nat.not_lt_zero _)
  | k + 1, i, h => by
    unfold fiC at h
    unfold fiF
    by_cases e : R k 0 = g
    · rw [if_pos e] at h ⊢
      by_cases e2 : i = fiC R g k
      · subst e2; rw [updR_same]; exact ⟨k, by omega, rfl⟩
      · rw [updR_other _ _ e2]
        obtain ⟨j, h1, h2⟩ := fi_mem R g k i (by omega)
        exact ⟨j, by omega, h2⟩
    · rw [if_neg e] at h ⊢
      obtain ⟨j, h1, h2⟩ := fi_mem R g k i h
      exact ⟨j, by omega, h2⟩
theorem fi_ok (R : Nat → Nat → Int) (g : Int) (k : Nat) (h : alG R k = 0) : alG (fiF R g k) (fiC R g k) = 0 := by
  rw [alG_zero] at h ⊢
  intro i hi
  obtain ⟨j, h1, h2⟩ := fi_mem R g k i hi
  rw [h2]
  exact h j h1
/-- A list with one reading more behind it. -/
theorem va_app (R : Nat → Nat → Int) (n : Nat) (x : Nat → Int) (g u : Int) : vaL (updR R n x) g u (n + 1) = if x 0 = g ∧ x 1 = u then some x else vaL R g u n := by
  show (if updR R n x n 0 = g ∧ updR R n x n 1 = u then some (updR R n x n) else vaL (updR R n x) g u n) = _
  rw [updR_same, vaL_congr (updR R n x) R g u n (fun i hi => updR_other _ _ (by omega))]
theorem app_ok (R : Nat → Nat → Int) (n : Nat) (x : Nat → Int) (h : alG R n = 0) (hx : Vr x) : alG (updR R n x) (n + 1) = 0 := by
  rw [alG_zero] at h ⊢
  intro i hi
  by_cases e : i = n
  · subst e; rw [updR_same]; exact hx
  · rw [updR_other _ _ e]; exact h i (by omega)
/-- One of the first k readings has this time. -/
def fnB (S : Nat → Nat → Int) (u : Int) : Nat → Bool
  | 0 => false
  | k + 1 => fnB S u k || (S k 1 == u)
theorem fn_none (S : Nat → Nat → Int) (g u : Int) : ∀ c, (∀ i, i < c → S i 0 = g) → fnB S u c = false → vaL S g u c = none
  | 0, _, _ => rfl
  | c + 1, h, hf => by
    unfold fnB at hf
    rw [Bool.or_eq_false_iff, beq_eq_false_iff_ne] at hf
    unfold vaL
    rw [if_neg (fun e => hf.2 e.2)]
    exact fn_none S g u c (fun i hi => h i (by omega)) hf.1
theorem rs_news {w : World} {b off k : Nat} {R : Nat → Nat → Int} (h : Rs w b off k R) : ∀ j u, (rsL R k)[j]? = some u → w.cell? ((⟨b, off, none⟩ : Addr).add j) = some u := by
  intro j u hj
  have hlt : j < k * 4 := by
    obtain ⟨h2, _⟩ := List.getElem?_eq_some_iff.1 hj
    rwa [rsL_len] at h2
  obtain ⟨q, r, hr, rfl⟩ : ∃ q r, r < 4 ∧ j = q * 4 + r := ⟨j / 4, j % 4, by omega, by omega⟩
  have e := rsL_get R k q (by omega) r hr
  rw [hj] at e
  rw [add_plain, e, ← Nat.add_assoc]
  exact h.2 q (by omega) r hr
/-- append(nil, list...): a list of the call's own. -/
theorem wp_app_nil {w : World} {ops : Array Oper} {rest : List Oper} {o : Oper} {a : Act} {Q : Exit → Act → World → Prop} (hgd : o.guard = none) (s x : Operand)
    (ho : o.op = .call { callee := .builtin .append, args := #[s, x], argTypes := #[29, 29] }) (hs : a.eval s = .slice none 0 0) (v : Value) (hx : a.eval x = v)
    (bs n : Nat) (R : Nat → Nat → Int) (hg : GotR w bs v n R) (base : Nat) (hbase : base ≤ w.heap.size) (hn : n ≤ 1000000)
    (h : ∀ v' w', GotR w' base v' n R → w.grownBy w' none → wpList Tryd.prog ops Q rest (a.put o.dst v') w') : wpList Tryd.prog ops Q (o :: rest) a w := by
  obtain ⟨i0, hi, hz0, hz1, hz2⟩ := info_parts Tryd.infoR
  rcases hg.2 with ⟨rfl, h0⟩ | ⟨g, cap, cur, rfl, _⟩
  · subst h0
    exact wpList_append_own_none hgd s x 29 ho base 23 i0 4 Tryd.underlying29 hi _ 0 _ hs (gotR_nil w base R) hx (h _ _ (gotR_nil w base R) (Cu.grown_refl w none))
  · refine wpList_append_own w hgd s x 29 ho base 23 i0 (.agg #[.int .i64 0, .int .i64 0, .int .i64 0, .int .i64 0]) 4 32 Tryd.underlying29 hi hz0 hz1 hz2 rfl (by decide) (.slice none 0 0) 0 [] hs (World.ownsRow_nil w base _ 4) ⟨g, 0, none⟩ n cap (rsL R n) hx (rsL_len R n) ?_ (rsL_one R n) (by unfold maxLen; omega) (by omega) hbase ?_
    · by_cases hn0 : n = 0
      · subst hn0
        intro j u hj
        simp [rsL] at hj
      · obtain ⟨g', cap', e, _, hrs, _⟩ := gotR_rs hg (by omega)
        simp only [Value.slice.injEq, Option.some.injEq, Addr.mk.injEq] at e
        obtain ⟨⟨rfl, _⟩, _⟩ := e
        exact rs_news hrs
    · intro v' w' hown hgr _
      refine h v' w' ?_ hgr
      unfold GotR
      rw [Nat.zero_add, List.nil_append] at hown
      exact hown
end Go.Proofs.YtlelcooomfcbaaaDoor.Gg

/-
  Lists one behind the other; bytes as texts.
-/
import Derived.Test.YtlelcooomfcbaaaDoorGpLst
import Derived.Test.YtlelcooomfcbaaaDoorGpEnc
import Derived.Test.YtlelcooomfcbaaaDoorGpNsn
import Derived.Laws.BytesArg
namespace Go.Proofs.YtlelcooomfcbaaaDoor.Gg
open Go.ChangeShapes Go.WideShapes Go.ChangeAt Go.RowKit
set_option linter.unusedVariables false

def catR (A C : Nat → Nat → Int) (k i : Nat) : Nat → Int := if i < k then A i else C (i - k)
theorem rsL_cat (A C : Nat → Nat → Int) (k : Nat) : ∀ n, rsL A k ++ rsL C n = rsL (catR A C k) (k + n)
  | 0 => by
    show rsL A k ++ [] = _
    rw [List.append_nil]
    exact rsL_congr _ _ k (fun i hi j _ => by unfold catR; rw [if_pos hi])
  | n + 1 => by
    show rsL A k ++ (rsL C n ++ [.int .i64 (C n 0), .int .i64 (C n 1), .int .i64 (C n 2), .int .i64 (C n 3)]) = rsL (catR A C k) (k + n) ++ [.int .i64 (catR A C k (k + n) 0), .int .i64 (catR A C k (k + n) 1), .int .i64 (catR A C k (k + n) 2), .int .i64 (catR A C k (k + n) 3)]
    have e : catR A C k (k + n) = C n := by unfold catR; rw [if_neg (by omega), show k + n - k = n by omega]
    rw [← List.append_assoc, rsL_cat A C k n, e]
theorem cat_ok (A C : Nat → Nat → Int) (k n : Nat) (hA : alG A k = 0) (hC : alG C n = 0) : alG (catR A C k) (k + n) = 0 := by
  rw [alG_zero] at hA hC ⊢
  intro i hi
  unfold catR
  by_cases h : i < k
  · rw [if_pos h]; exact hA i h
  · rw [if_neg h]; exact hC (i - k) (by omega)
theorem enL_cat (A C : Nat → Nat → Int) (k n : Nat) : ∀ m, m < (k + n) * 12 → enL (catR A C k) (k + n) m = catB (enL A k) (enL C n) (k * 12) m := fun m hm => by
  have e : m = m / 12 * 12 + m % 12 := by omega
  rw [e, enL_at _ (k + n) (m / 12) (m % 12) (by omega) (by omega)]
  unfold catB catR
  by_cases h : m / 12 < k
  · rw [if_pos h, if_pos (by omega), enL_at A k (m / 12) (m % 12) h (by omega)]
  · rw [if_neg h, if_neg (by omega), show m / 12 * 12 + m % 12 - k * 12 = (m / 12 - k) * 12 + m % 12 by omega, enL_at C n (m / 12 - k) (m % 12) (by omega) (by omega)]
/-- append(own, list...). -/
theorem wp_app_own {w : World} {ops : Array Oper} {rest : List Oper} {o : Oper} {a : Act} {Q : Exit → Act → World → Prop} (hgd : o.guard = none) (s x : Operand)
    (ho : o.op = .call { callee := .builtin .append, args := #[s, x], argTypes := #[29, 29] }) (v0 : Value) (hs : a.eval s = v0) (k : Nat) (A : Nat → Nat → Int) (base : Nat) (h0 : GotR w base v0 k A) (v : Value) (hx : a.eval x = v)
    (bs n : Nat) (C : Nat → Nat → Int) (hg : GotR w bs v n C) (hbase : base ≤ w.heap.size) (hn : k + n ≤ 1000000)
    (h : ∀ v' w', GotR w' base v' (k + n) (catR A C k) → w.grownBy w' v0.ownBlock → wpList Tryd.prog ops Q rest (a.put o.dst v') w') : wpList Tryd.prog ops Q (o :: rest) a w := by
  obtain ⟨i0, hi, hz0, hz1, hz2⟩ := info_parts Tryd.infoR
  rcases hg.2 with ⟨rfl, hn0⟩ | ⟨g, cap, cur, rfl, _⟩
  · subst hn0
    refine wpList_append_own_none hgd s x 29 ho base 23 i0 4 Tryd.underlying29 hi v0 k _ hs h0 hx (h _ _ ?_ (Cu.grown_refl w _))
    exact gotR_congr h0 (fun i hi' j _ => by have h3 : i < k := hi'; unfold catR; rw [if_pos h3])
  · refine wpList_append_own w hgd s x 29 ho base 23 i0 (.agg #[.int .i64 0, .int .i64 0, .int .i64 0, .int .i64 0]) 4 32 Tryd.underlying29 hi hz0 hz1 hz2 rfl (by decide) v0 k (rsL A k) hs h0 ⟨g, 0, none⟩ n cap (rsL C n) hx (rsL_len C n) ?_ (rsL_one C n) (by unfold maxLen; omega) (by omega) hbase ?_
    · by_cases hn0 : n = 0
      · subst hn0
        intro j u hj
        simp [rsL] at hj
      · obtain ⟨g', cap', e, _, hrs, _⟩ := gotR_rs hg (by omega)
        simp only [Value.slice.injEq, Option.some.injEq, Addr.mk.injEq] at e
        obtain ⟨⟨rfl, _⟩, _⟩ := e
        exact rs_news hrs
    · intro v' w' hown hgr _
      refine h v' w' ?_ hgr
      unfold GotR
      rw [rsL_cat] at hown
      exact hown
theorem gotB_rdc {w : World} {base : Nat} {v : Value} {n : Nat} {B : Nat → Int} (h : GotB w base v n B) : ∃ p cap, v = .slice p n cap ∧ RdB w p n B ∧ n ≤ cap := by
  by_cases hn : 0 < n
  · obtain ⟨g, cap, rfl, _, hby, hc, _⟩ := gotB_by h hn
    exact ⟨_, _, rfl, fun _ => ⟨g, 0, rfl, hby⟩, hc⟩
  · obtain ⟨p, cap, rfl, hr⟩ := gotB_rd h
    exact ⟨p, cap, rfl, hr, by omega⟩
/-- The text of n bytes. -/
def stL (B : Nat → Int) : Nat → List UInt8
  | 0 => []
  | n + 1 => stL B n ++ [UInt8.ofNat (B n).toNat]
def stB (B : Nat → Int) (n : Nat) : ByteArray := ⟨(stL B n).toArray⟩
theorem stL_map (B : Nat → Int) : ∀ n, ((List.range n).map B).map (fun x => UInt8.ofNat x.toNat) = stL B n
  | 0 => rfl
  | n + 1 => by
    rw [List.range_succ, List.map_append, List.map_append, stL_map B n]
    rfl
theorem stL_congr (B C : Nat → Int) : ∀ n, (∀ i, i < n → B i = C i) → stL B n = stL C n
  | 0, _ => rfl
  | n + 1, h => by
    show stL B n ++ [UInt8.ofNat (B n).toNat] = stL C n ++ [UInt8.ofNat (C n).toNat]
    rw [stL_congr B C n (fun i hi => h i (by omega)), h n (by omega)]
theorem stL_cat (A C : Nat → Int) (p : Nat) : ∀ q, stL A p ++ stL C q = stL (catB A C p) (p + q)
  | 0 => by
    show stL A p ++ [] = _
    rw [List.append_nil]
    exact stL_congr _ _ p (fun i hi => by unfold catB; rw [if_pos hi])
  | q + 1 => by
    show stL A p ++ (stL C q ++ [UInt8.ofNat (C q).toNat]) = stL (catB A C p) (p + q) ++ [UInt8.ofNat (catB A C p (p + q)).toNat]
    have e : catB A C p (p + q) = C q := by unfold catB; rw [if_neg (by omega), show p + q - p = q by omega]
    rw [← List.append_assoc, stL_cat A C p q, e]
theorem stB_cat (A C : Nat → Int) (p q : Nat) : stB A p ++ stB C q = stB (catB A C p) (p + q) := by
  apply ByteArray.ext
  rw [ByteArray.data_append]
  unfold stB
  rw [← stL_cat A C p q]
  simp
theorem stB_congr (B C : Nat → Int) (n : Nat) (h : ∀ i, i < n → B i = C i) : stB B n = stB C n := by unfold stB; rw [stL_congr B C n h]
theorem gotB_str {w : World} {base : Nat} {v : Value} {n : Nat} {B : Nat → Int} (h : GotB w base v n B) : (convert 24 9 v).run Tryd.prog w = .ok (.string (stB B n)) w := by
  by_cases hn : 0 < n
  · obtain ⟨b, c, rfl, _, hby, _, _⟩ := gotB_by h hn
    have h2 := run_convert_bytes_arg (P := Tryd.prog) w 24 5 Tryd.underlying24 Tryd.underlying5 b 0 n c ((List.range n).map B) (by simp) (fun i hi => by
      rw [hby.2 i hi]
      simp [List.getD, hi]) 9 Tryd.underlying9
    rw [h2]
    unfold strOfNums stB
    rw [stL_map]
  · obtain rfl : n = 0 := by omega
    rcases h.2 with ⟨rfl, _⟩ | ⟨g, cap, cur, rfl, _⟩
    · exact run_convert_bytes_nil (P := Tryd.prog) w 24 5 Tryd.underlying24 Tryd.underlying5 0 0 9 Tryd.underlying9
    · exact run_convert_bytes_arg (P := Tryd.prog) w 24 5 Tryd.underlying24 Tryd.underlying5 g 0 0 cap [] rfl (fun i hi => absurd hi (Nat.not_lt_zero _)) 9 Tryd.underlying9
end Go.Proofs.YtlelcooomfcbaaaDoor.Gg

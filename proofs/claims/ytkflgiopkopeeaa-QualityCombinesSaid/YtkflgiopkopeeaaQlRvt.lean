/-
  The contract of Vote of the reference of chapter 8.
-/
import Derived.Test.YtkflgiopkopeeaaQlVot
import Derived.Deep.RegionLaw
import Derived.Deep.AppendLies
import Derived.Laws.OwnMore
import Derived.Deep.DeepCutAuto
namespace Go.Proofs.Ytkflgiopkopeeaa.Ql
open Go.ChangeShapes Go.WideShapes Go.ChangeAt Go.RowKit
open Go.Proofs.Ytkflgiopkopeeaa.Ca (Rd Got got_nil got_next got_rd got_block)
open Go.Proofs.Ytkflgiopkopeeaa.Cu (grown_trans grown_refl)
set_option linter.unusedVariables false

theorem rvt_len (p q : Option Addr) (n m c d : Nat) (w : World) (h : n ≠ m) (hn : n ≤ 1000000) (hm : m ≤ 9223372036854775807) :
    Calls Try.prog 23 #[.slice p n c, .slice q m d] w (Ekt 0 false w) := by
  have e : ((n : Int) != (m : Int)) = true := by simp; omega
  go_enter Try.func23, Try.ntmps23
  go_wp2
  go_ret2
  exact ⟨rfl, Below.refl _ _⟩
/-- Two appends in one region: [x] and what stands from j on, behind the first j. -/
theorem step_app {P : Program} {w : World} {ops : Array Oper} {o : Oper} {a : Act} {K : Act → World → Prop} {Q : Exit → Act → World → Prop} {E : Prop} (hgd : o.guard = none) (s x : Operand) (t : TypeId)
    (ho : o.op = .call { callee := .builtin .append, args := #[s, x], argTypes := #[t, t] })
    (base : Nat) (e : TypeId) (i : TypeInfo) (z : Value) (size bytes : Nat) (ht : P.underlying t = some (.slice e)) (hi : P.info? e = some i) (hz : i.zero = some z)
    (hsize : i.size = size) (hby : i.bytes = bytes) (hzs : z.cells.size = size) (hsz : 0 < size)
    (v : Value) (n : Nat) (xs : List Value) (hs : a.eval s = v) (hown : w.ownsRow base e size v n xs)
    (ao : Option Addr) (m c : Nat) (news : List Value) (hx : a.eval x = .slice ao m c) (hnone : ao = none → m = 0 ∧ c = 0) (hl : news.length = m * size) (hnews : ∀ ad, ao = some ad → ∀ j u, news[j]? = some u → w.cell? (ad.add j) = some u) (h1 : ∀ u ∈ news, u.oneCell' = true)
    (h63 : n + m ≤ maxLen) (hbytes : (n + m) * bytes ≤ 140737488355328) (hbase : base ≤ w.heap.size)
    (h : ∀ v' w', w'.ownsRow base e size v' (n + m) (xs ++ news) → w.grownBy w' v.ownBlock → (v'.ownBlock = v.ownBlock ∨ v'.ownBlock = some w.heap.size) → K (a.put o.dst v') w') :
    if Region.wanted o (yielded ops a.tmps) = true then Oper.wp P o a w K Q else E := by
  have hw : Region.wanted o (yielded ops a.tmps) = true := by simp [Region.wanted, hgd]
  rw [if_pos hw]
  cases ao with
  | some ad =>
    obtain ⟨v', w', hr, h2, h3, _, h5⟩ := run_append_own_at (P := P) w base t o.type e i z size bytes ht hi hz hsize hby hzs hsz v n xs hown ad m c news hl (hnews ad rfl) h1 h63 hbytes hbase
    unfold Oper.wp execOp
    simp only [ho, resolve, invoke, builtin, Sem.run_bind, Sem.run_pure, Result.andThen_ok, List.map_toArray, List.map_cons, List.map_nil, hs, hx, hr]
    exact h v' w' h2 h3 h5
  | none =>
    obtain ⟨rfl, rfl⟩ := hnone rfl
    have hn0 : news = [] := List.eq_nil_of_length_eq_zero (by simpa using hl)
    subst hn0
    have hr := run_append_owned_none (P := P) w base t o.type e i size ht hi v n xs hown
    unfold Oper.wp execOp
    simp only [ho, resolve, invoke, builtin, Sem.run_bind, Sem.run_pure, Result.andThen_ok, List.map_toArray, List.map_cons, List.map_nil, hs, hx, hr]
    exact h v w (by simpa using hown) (World.grownBy.refl _ _) (.inl rfl)
/-- The cells from j on of a list of the call's own. -/
theorem got_take {w : World} {base g cap : Nat} {S : List Int} (h : Got w base (.slice (some ⟨g, 0, none⟩) S.length cap) S) (j : Nat) (hj : j ≤ S.length) : Got w base (.slice (some ⟨g, 0, none⟩) j cap) (S.take j) := by
  rcases h.2 with ⟨e, _⟩ | ⟨g', cap', cur, e, hb, hg, hc, hm, hs, ht⟩
  · cases e
  · simp only [Value.slice.injEq, Option.some.injEq, Addr.mk.injEq] at e
    obtain ⟨⟨rfl, _⟩, _, rfl⟩ := e
    refine ⟨by simp, .inr ⟨g, cap, cur, by simp [Nat.min_eq_left hj], hb, hg, by simp; omega, hm, hs, ?_⟩⟩
    have e2 := congrArg (List.take j) ht
    rw [List.take_take] at e2
    simp only [List.length_take, Nat.mul_one, Nat.min_eq_left hj] at e2 ⊢
    rw [e2, List.map_take]
theorem own_news {w : World} {base : Nat} {e : TypeId} {g n cap : Nat} {xs : List Value} (h : w.ownsRow base e 1 (.slice (some ⟨g, 0, none⟩) n cap) n xs) : ∀ ad, some (⟨g, 0, none⟩ : Addr) = some ad → ∀ j u, xs[j]? = some u → w.cell? (ad.add j) = some u := by
  intro ad e j u hj
  cases e
  have hl : j < xs.length := (List.getElem?_eq_some_iff.1 hj).1
  have hn : xs.length = n := by have := h.1; omega
  rw [add_plain, Nat.zero_add, h.cellAt j (by omega)]
  exact hj
theorem own_lit (w : World) (base : Nat) (x : Int) (hb : base ≤ w.heap.size) : (w.alloc (.cells #[.int .i64 x] 3)).ownsRow base 3 1 (.slice (some ⟨w.heap.size, 0, none⟩) 1 1) 1 [.int .i64 x] :=
  ⟨rfl, .inr ⟨w.heap.size, 1, #[.int .i64 x], rfl, hb, (by show (w.heap.push _)[w.heap.size]? = _; simp), by omega, by unfold maxLen; omega, rfl, rfl⟩⟩
theorem got_ins {w : World} {base : Nat} {v : Value} {S : List Int} {x : Int} {j : Nat} (hj : j ≤ S.length) (h : w.ownsRow base 3 1 v (j + (1 + (S.length - j))) ((S.take j).map (Value.int .i64) ++ ([Value.int .i64 x] ++ (S.drop j).map (Value.int .i64)))) : Got w base v (S.take j ++ x :: S.drop j) := by
  unfold Got
  have e1 : (S.take j ++ x :: S.drop j).length = j + (1 + (S.length - j)) := by simp; omega
  have e2 : (S.take j ++ x :: S.drop j).map (Value.int .i64) = (S.take j).map (Value.int .i64) ++ ([Value.int .i64 x] ++ (S.drop j).map (Value.int .i64)) := by simp
  rw [e1, e2]
  exact h
theorem below_drew {B : Nat} {w w' : World} (h : Below B w w') : Below B w w'.drew := ⟨h.os, h.tape, h.output, h.size, h.block⟩
theorem below_app {w wr W1 w1 w2 : World} {base : Nat} {H g : Nat} (h0 : base ≤ w.heap.size) (hb : Below base w wr) (hw : base ≤ wr.heap.size) (ha : Below wr.heap.size wr W1) (h1 : W1.grownBy w1 (some H)) (hH : base ≤ H) (h2 : w1.grownBy w2 (some g)) (hg : base ≤ g) : Below base w w2 :=
  below_grown (below_grown (hb.trans (ha.mono hw)) h0 h1 hH) h0 h2 hg
set_option maxRecDepth 100000 in
set_option maxHeartbeats 4000000 in
theorem rvt_ok (p q : Option Addr) (n c d : Nat) (V : Nat → Int) (G : Nat → Bool) (w : World) (hn : n ≤ 1000000) (hr : Rd w p n V) (hg : RdL w q n G) :
    Calls Try.prog 23 #[.slice p n c, .slice q n d] w (Ekt (vtI V G n) (vtB V G n) w) := by
  have HR := Lib.hid hr
  have HG := Lib.hid hg
  clear hr hg
  have hni : (n : Int) ≤ 1000000 := by omega
  obtain ⟨i0, hi, hz0, hz1, hz2⟩ := info_parts Try.infoI
  go_enter Try.func23, Try.ntmps23
  go_wp2
  go_loopw [6, 17] (fun v i wr => ∃ (k : Nat) (v0 : Value) (S : List Int), v0 = v ∧ k ≤ n ∧ i = .int .i64 k ∧ Hid (Got wr w.heap.size v0 S) ∧ Hid (S.length = 0 → v0 = .slice none 0 0) ∧ Hid (S.Pairwise (· ≤ ·) ∧ S.Perm (gdL V G k)) ∧ Hid (Below w.heap.size w wr)) (fun _ i _ => n - (intOf i).toNat)
  case atStart => exact ⟨0, _, [], rfl, Nat.zero_le _, rfl, got_nil _ _, fun _ => rfl, ⟨List.Pairwise.nil, List.Perm.refl _⟩, Below.refl _ _⟩
  case round =>
    obtain ⟨k, v, S, rfl, hk, rfl, hv, hnl, hS, hb⟩ := hrel
    have hSl : S.length ≤ k := by rw [hS.out.2.length_eq]; exact gd_len V G k
    by_cases hlt : k < n
    · obtain ⟨b1, o1, rfl, l1, d1⟩ := (HR.out.below hb.out (Nat.le_refl _)) (by omega)
      obtain ⟨b2, o2, rfl, l2, d2⟩ := (HG.out.below hb.out (Nat.le_refl _)) (by omega)
      have e1 := d1 k hlt
      have e2 := d2 k hlt
      have hws := hb.out.size
      have hkn : (k : Int) < (n : Int) := by omega
      clear d1 d2
      cases hg : G k with
      | false =>
        rw [hg] at e2
        have HE := Lib.hid (gd_no (V := V) hg)
        clear hg
        go_wp2
        go_roundw
        case rel => exact ⟨k + 1, _, S, rfl, by omega, by go_num, hv, hnl, by show _ ∧ _; rw [HE.out]; exact hS.out, hb⟩
        case measure => simp [intOf]; omega
      | true =>
        rw [hg] at e2
        have HE := Lib.hid (gd_yes (V := V) hg)
        clear hg
        generalize V k = vk at *
        by_cases hS0 : S.length = 0
        · obtain rfl : S = [] := List.length_eq_zero_iff.1 hS0
          obtain rfl := hnl.out rfl
          clear hv hnl hSl hS0
          have HO := Lib.hid (own_lit wr.drew w.heap.size vk hws)
          have HV1 : Hid (∀ w1, (wr.drew.alloc (.cells #[.int .i64 vk] 3)).grownBy w1 (some wr.heap.size) → w1.ownsRow w.heap.size 3 1 (.slice none 0 0) 0 []) := fun w1 _ => World.ownsRow_nil _ _ _ _
          have hs1 : Hid (w.heap.size ≤ (wr.drew.alloc (.cells #[.int .i64 vk] 3)).heap.size) := by show _ ≤ _; simp; omega
          go_wp2
          refine wp_loop_rounds 1 ?_
          rw [rounds_succ]
          go_wp2_with fail
          go_region_law (first
            | (refine step_app rfl (.tmp 44) (.tmp 50) 26 rfl w.heap.size 3 i0 (.int .i64 0) 1 8 Try.underlying26 hi hz0 hz1 hz2 rfl (by decide) (.slice none 0 0) 0 [] (by simp [Act.eval]) (HV1.out w1 hg1) (some ⟨g1, 0, none⟩) 1 cap1 [.int .i64 vk] (by simp [Act.eval]) (fun h => by cases h) rfl (own_news ho1) (by intro u hu; simp at hu; subst hu; rfl) (by unfold maxLen; omega) (by omega) hs2.out ?_; intro v2 w2 ho2 hg2 ha2)
            | (refine step_app rfl (.tmp 46) (.tmp 49) 26 rfl w.heap.size 3 i0 (.int .i64 0) 1 8 Try.underlying26 hi hz0 hz1 hz2 rfl (by decide) (.slice (some ⟨wr.heap.size, 0, none⟩) 1 1) 1 [.int .i64 vk] (by simp [Act.eval]) HO.out none 0 0 [] (by simp [Act.eval]) (fun _ => ⟨rfl, rfl⟩) rfl (fun ad h => by cases h) (by intro u hu; cases hu) (by unfold maxLen; omega) (by omega) hs1.out ?_; intro v1 w1 ho1 hg1 ha1; obtain ⟨g1, cap1, rfl, hgb1, hgl1⟩ := ho1.form (by omega); have hs2 : Hid (w.heap.size ≤ w1.heap.size) := Nat.le_trans hs1.out hg1.size))
          have HF : Hid (Below w.heap.size w w2) := Gg.below_own (below_grown (below_drew (hb.out.trans (((Below.refl wr.heap.size wr).alloc (Nat.le_refl _) (.cells #[.int .i64 vk] 3)).mono hws))) (Nat.le_refl _) hg1 hws) (Nat.le_refl _) hg2 (by intro k hk; cases hk)
          have HPn : Hid ([vk].Pairwise (· ≤ ·) ∧ [vk].Perm (gdL V G (k + 1))) := ⟨by simp, by rw [HE.out]; exact hS.out.2.append_right [vk]⟩
          clear hg1 hg2 ha1 ha2 HO HV1 ho1
          go_wp2
          go_roundw
          case rel => exact ⟨k + 1, _, [vk], rfl, by omega, by go_num, ho2, (fun h => by cases h), HPn, HF⟩
          case measure => simp [intOf]; omega
        · obtain ⟨g, cap, rfl, hbg, hgl⟩ := World.ownsRow.form hv.out (by omega)
          obtain ⟨p2, cap2, e3, hrd⟩ := got_rd hv.out
          simp only [Value.slice.injEq] at e3
          obtain ⟨rfl, _, rfl⟩ := e3
          obtain ⟨b3, o3, e3, l3, d3⟩ := hrd (by omega)
          cases e3
          have hcap : S.length ≤ cap := by
            rcases hv.out.2 with ⟨e, _⟩ | ⟨g', cap', cur, e, _, _, hc, _⟩
            · cases e
            · simp only [Value.slice.injEq] at e
              omega
          have HD := Lib.hid d3
          clear d3 hrd hnl
          go_wp2_with fail
          go_loop [9] (fun x => ∃ j : Nat, j ≤ S.length ∧ x = .int .i64 j ∧ Hid (∀ t, j ≤ t → t < S.length → vk < S.getD t 0)) (fun x => (intOf x).toNat)
          case atStart => exact ⟨S.length, Nat.le_refl _, rfl, fun t h1 h2 => by omega⟩
          case round =>
            obtain ⟨j, hj, rfl, hgt⟩ := hrel
            by_cases hgo : 0 < j ∧ vk < S.getD (j - 1) 0
            · obtain ⟨hj0, hgo2⟩ := hgo
              have e5 := HD.out (j - 1) (by omega)
              rw [Nat.zero_add] at e5
              have hj1 : (0 : Int) < (j : Int) := by omega
              have hji : (j : Int) ≤ 1000000 := by omega
              have hjl : (((j - 1 : Nat)) : Int) < ((S.length : Nat) : Int) := by omega
              have hd : decide (vk < Ca.lx S (j - 1)) = true := decide_eq_true hgo2
              have HGt : Hid (∀ t, j - 1 ≤ t → t < S.length → vk < S.getD t 0) := fun t h1 h2 => by
                by_cases e : t = j - 1
                · subst e; exact hgo2
                · exact hgt.out t (by omega) h2
              clear hgo2 hgt
              go_wp2
              go_round
              case rel => exact ⟨j - 1, by omega, by go_num, HGt⟩
              case measure => simp [intOf]; omega
            · have hex : j = 0 ∨ S.getD (j - 1) 0 ≤ vk := by omega
              have hex2 : j = 0 ∨ (0 < j ∧ S.getD (j - 1) 0 ≤ vk) := by omega
              clear hgo
              have HPn : Hid ((S.take j ++ vk :: S.drop j).Pairwise (· ≤ ·) ∧ (S.take j ++ vk :: S.drop j).Perm (gdL V G (k + 1))) := ⟨ins_sorted hS.out.1 hj hex hgt.out, by rw [HE.out]; exact (ins_perm S vk j).trans (hS.out.2.append_right [vk])⟩
              clear hex hgt
              have HO := Lib.hid (own_lit wr.drew w.heap.size vk hws)
              have HV1 : Hid (∀ w1, (wr.alloc (.cells #[.int .i64 vk] 3)).drew.grownBy w1 (some wr.heap.size) → w1.ownsRow w.heap.size 3 1 (.slice (some ⟨g, 0, none⟩) j cap) j ((S.take j).map (Value.int .i64))) := fun w1 hg1 => by
                have h1 := (got_take hv.out j hj)
                have h2 : (S.take j).length = j := by simp; omega
                unfold Got at h1
                rw [h2] at h1
                exact World.ownsRow.kept (World.ownsRow.drew (World.ownsRow.kept h1 (World.grownBy_alloc wr (.cells #[.int .i64 vk] 3) none) (.inr (by simp [Value.ownBlock])))) hg1 (.inr (by intro e; have e2 : g = wr.heap.size := Option.some.inj e; omega))
              have hs1 : Hid (w.heap.size ≤ (wr.drew.alloc (.cells #[.int .i64 vk] 3)).heap.size) := by show _ ≤ _; simp; omega
              obtain ⟨A, hA, hnews⟩ : ∃ A : Addr, (if cap = j then some (⟨g, 0, none⟩ : Addr) else some ⟨g, j, none⟩) = some A ∧ Hid (∀ ad, some A = some ad → ∀ q u, ((S.drop j).map (Value.int .i64))[q]? = some u → (wr.alloc (.cells #[.int .i64 vk] 3)).drew.cell? (ad.add q) = some u) := by
                have hce : ∀ t, t < S.length → (wr.alloc (.cells #[.int .i64 vk] 3)).drew.cell? ⟨g, 0 + t, none⟩ = some (.int .i64 (S.getD t 0)) := fun t ht => (((Below.refl wr.heap.size wr).alloc (Nat.le_refl _) (.cells #[.int .i64 vk] 3)).cell (p := ⟨g, 0 + t, none⟩) hgl).trans (HD.out t ht)
                by_cases h : cap = j
                · exact ⟨⟨g, 0, none⟩, by simp [h], cells_from rfl hcap hce (fun h2 => absurd h h2)⟩
                · exact ⟨⟨g, j, none⟩, by simp [h], cells_from rfl hcap hce (fun h2 => by rw [Nat.zero_add])⟩
              have hjc : j ≤ cap := by omega
              have hji : (j : Int) ≤ 1000000 := by omega
              have hjl : (j : Int) ≤ ((S.length : Nat) : Int) := by omega
              have hjcp : (j : Int) ≤ (cap : Int) := by omega
              have hlen : Hid (((S.drop j).map (Value.int .i64)).length = (S.length - j) * 1) := by show _ = _; simp
              have hl2 : Hid (([Value.int .i64 vk] ++ (S.drop j).map (Value.int .i64)).length = (1 + (S.length - j)) * 1) := by show _ = _; simp; omega
              have hone : Hid (∀ u ∈ [Value.int .i64 vk] ++ (S.drop j).map (Value.int .i64), u.oneCell' = true) := fun u hu => by
                rw [List.mem_append] at hu
                rcases hu with hu | hu
                · simp at hu; subst hu; rfl
                · exact ints_oneCell .i64 _ u hu
              rcases hex2 with h0 | ⟨h0, hle⟩
              · subst h0
                have hc0 : ¬ cap = 0 := by omega
                have hA2 : A = ⟨g, 0, none⟩ := by simp [hc0] at hA; exact hA.symm
                subst hA2
                clear hA
                go_upto_region 11 with (fail)
                go_region_law (first
                  | (refine step_app rfl (.tmp 44) (.tmp 50) 26 rfl w.heap.size 3 i0 (.int .i64 0) 1 8 Try.underlying26 hi hz0 hz1 hz2 rfl (by decide) (.slice (some ⟨g, 0, none⟩) 0 cap) 0 ((S.take 0).map (Value.int .i64)) (by simp [Act.eval]) (HV1.out w1 hg1) (some ⟨g1, 0, none⟩) (1 + (S.length - 0)) cap1 ([Value.int .i64 vk] ++ (S.drop 0).map (Value.int .i64)) (by simp [Act.eval]) (fun h => by cases h) hl2.out (own_news ho1) hone.out (by unfold maxLen; omega) (by omega) hs2.out ?_; intro v2 w2 ho2 hg2 ha2)
                  | (refine step_app rfl (.tmp 46) (.tmp 49) 26 rfl w.heap.size 3 i0 (.int .i64 0) 1 8 Try.underlying26 hi hz0 hz1 hz2 rfl (by decide) (.slice (some ⟨wr.heap.size, 0, none⟩) 1 1) 1 [.int .i64 vk] (by simp [Act.eval]) HO.out (some ⟨g, 0, none⟩) (S.length - 0) (cap - 0) ((S.drop 0).map (Value.int .i64)) (by simp [Act.eval]) (fun h => by cases h) hlen.out hnews.out (ints_oneCell .i64 _) (by unfold maxLen; omega) (by omega) hs1.out ?_; intro v1 w1 ho1 hg1 ha1; obtain ⟨g1, cap1, rfl, hgb1, hgl1⟩ := ho1.form (by omega); have hs2 : Hid (w.heap.size ≤ w1.heap.size) := Nat.le_trans hs1.out hg1.size))
                have HF : Hid (Below w.heap.size w w2) := below_grown (below_grown (below_drew (hb.out.trans (((Below.refl wr.heap.size wr).alloc (Nat.le_refl _) (.cells #[.int .i64 vk] 3)).mono hws))) (Nat.le_refl _) hg1 hws) (Nat.le_refl _) hg2 hbg
                have HGn : Hid (Got w2 w.heap.size v2 (S.take 0 ++ vk :: S.drop 0)) := got_ins (by omega) ho2
                have HZn : Hid ((S.take 0 ++ vk :: S.drop 0).length = 0 → v2 = .slice none 0 0) := fun h => by simp at h
                clear hg1 hg2 ha1 ha2 HO HV1 ho1 ho2
                go_wp2
                go_roundw
                case rel => exact ⟨k + 1, _, _, rfl, by omega, by go_num, HGn, HZn, HPn, HF⟩
                case measure => simp [intOf]; omega
              · have e5 := HD.out (j - 1) (by omega)
                rw [Nat.zero_add] at e5
                have hj1 : (0 : Int) < (j : Int) := by omega
                have hjl2 : (((j - 1 : Nat)) : Int) < ((S.length : Nat) : Int) := by omega
                have hd : decide (vk < Ca.lx S (j - 1)) = false := decide_eq_false (by show ¬ vk < S.getD (j - 1) 0; omega)
                clear hle
                go_upto_region 11 with (fail)
                go_region_law (first
                  | (refine step_app rfl (.tmp 44) (.tmp 50) 26 rfl w.heap.size 3 i0 (.int .i64 0) 1 8 Try.underlying26 hi hz0 hz1 hz2 rfl (by decide) (.slice (some ⟨g, 0, none⟩) j cap) j ((S.take j).map (Value.int .i64)) (by simp [Act.eval]) (HV1.out w1 hg1) (some ⟨g1, 0, none⟩) (1 + (S.length - j)) cap1 ([Value.int .i64 vk] ++ (S.drop j).map (Value.int .i64)) (by simp [Act.eval]) (fun h => by cases h) hl2.out (own_news ho1) hone.out (by unfold maxLen; omega) (by omega) hs2.out ?_; intro v2 w2 ho2 hg2 ha2)
                  | (refine step_app rfl (.tmp 46) (.tmp 49) 26 rfl w.heap.size 3 i0 (.int .i64 0) 1 8 Try.underlying26 hi hz0 hz1 hz2 rfl (by decide) (.slice (some ⟨wr.heap.size, 0, none⟩) 1 1) 1 [.int .i64 vk] (by simp [Act.eval]) HO.out (some A) (S.length - j) (cap - j) ((S.drop j).map (Value.int .i64)) (by simp [Act.eval]) (fun h => by cases h) hlen.out hnews.out (ints_oneCell .i64 _) (by unfold maxLen; omega) (by omega) hs1.out ?_; intro v1 w1 ho1 hg1 ha1; obtain ⟨g1, cap1, rfl, hgb1, hgl1⟩ := ho1.form (by omega); have hs2 : Hid (w.heap.size ≤ w1.heap.size) := Nat.le_trans hs1.out hg1.size))
                have HF : Hid (Below w.heap.size w w2) := below_grown (below_grown (below_drew (hb.out.trans (((Below.refl wr.heap.size wr).alloc (Nat.le_refl _) (.cells #[.int .i64 vk] 3)).mono hws))) (Nat.le_refl _) hg1 hws) (Nat.le_refl _) hg2 hbg
                have HGn : Hid (Got w2 w.heap.size v2 (S.take j ++ vk :: S.drop j)) := got_ins (by omega) ho2
                have HZn : Hid ((S.take j ++ vk :: S.drop j).length = 0 → v2 = .slice none 0 0) := fun h => by simp at h
                clear hg1 hg2 ha1 ha2 HO HV1 ho1 ho2
                go_wp2
                go_roundw
                case rel => exact ⟨k + 1, _, _, rfl, by omega, by go_num, HGn, HZn, HPn, HF⟩
                case measure => simp [intOf]; omega
    · obtain rfl : k = n := by omega
      have HQ : S = srt (gdL V G k) := srt_eq hS.out.1 hS.out.2
      have hLl : S.length = (gdL V G k).length := hS.out.2.length_eq
      by_cases hL : S.length = 0
      · obtain ⟨e1, e2⟩ := vt_none (V := V) (G := G) (n := k) (by omega)
        have E1 := Lib.hid e1
        have E2 := Lib.hid e2
        clear e1 e2 HQ hLl
        obtain rfl := hnl.out hL
        go_wp2
        go_ret2
        rw [E1.out, E2.out]
        exact ⟨rfl, hb.out⟩
      · have hT : vtB V G k = true := decide_eq_true (by omega)
        have HM : Hid (vtI V G k = S.getD ((S.length - 1) / 2) 0) := by
          show (srt (gdL V G k)).getD (((gdL V G k).length - 1) / 2) 0 = _
          rw [← HQ, ← hLl]
        have HT := Lib.hid hT
        clear HQ hLl hT
        obtain ⟨g, cap, rfl, hbg, hgl⟩ := World.ownsRow.form hv.out (by omega)
        obtain ⟨p2, cap2, e3, hrd⟩ := got_rd hv.out
        simp only [Value.slice.injEq] at e3
        obtain ⟨rfl, _, rfl⟩ := e3
        obtain ⟨b3, o3, e3, l3, d3⟩ := hrd (by omega)
        cases e3
        generalize vtI V G k = M at *
        generalize vtB V G k = T at *
        have chi : wr.cell? ⟨g, (S.length - 1) / 2, none⟩ = some (.int .i64 M) := by
          have := d3 ((S.length - 1) / 2) (by omega)
          rw [Nat.zero_add] at this
          rw [this, HM.out]
          rfl
        clear d3 hrd hv hS hnl HM
        generalize S.length = N at *
        have hN : (1 : Int) ≤ (N : Int) := by omega
        have hz : ((N : Int) == 0) = false := by simp; omega
        have hNi : (N : Int) ≤ 1000000 := by omega
        have hmi : (((N - 1) / 2 : Nat) : Int) < (N : Int) := by omega
        go_wp2
        go_ret2
        rw [HT.out]
        exact ⟨rfl, hb.out⟩
theorem rvt_any (p q : Option Addr) (n m c d : Nat) (V : Nat → Int) (G : Nat → Bool) (w : World) (hn : n ≤ 1000000) (hm : m ≤ 9223372036854775807) (hr : Rd w p n V) (hg : RdL w q m G) :
    Calls Try.prog 23 #[.slice p n c, .slice q m d] w (Ekt (if n = m then vtI V G n else 0) (if n = m then vtB V G n else false) w) := by
  by_cases h : n = m
  · subst h
    rw [if_pos rfl, if_pos rfl]
    exact rvt_ok p q n c d V G w hn hr hg
  · rw [if_neg h, if_neg h]
    exact rvt_len p q n m c d w h hn hm
end Go.Proofs.Ytkflgiopkopeeaa.Ql

/-
  The contract of Smooth of package inflow, for every list of at most 4096 numbers and every width.
-/
import Derived.Test.YtbcjigociliflaaIfGrp
import Derived.Test.YtbcjigociliflaaIfLay
import Derived.Test.YtbcjigociliflaaQuGot
import Derived.Lib.OwnBridge
import Derived.RangeFuncBox
namespace Go.Proofs.Ytbcjigociliflaa.If
open Go.ChangeShapes Go.WideShapes Go.ChangeAt Go.RowKit Go.Shelf
open Go.Proofs.Ytbcjigociliflaa.Qu (sumZ sumZ_congr Rd)
set_option linter.unusedVariables false
attribute [local go_sem] Oper.semAt_some

/-- What a call returns: a list in new memory or none, and an error. -/
def LcP (c : Int) (N : Nat) (f : Nat → Int) (w : World) (e : Ending) (w' : World) : Prop :=
  ∃ p cap, e = .returned (.tuple #[.slice p N cap, .int .i64 c]) ∧ Rd w' p N f ∧ Below w.heap.size w w'
theorem rd_zero (w : World) (a : Option Addr) (z : Nat → Int) : Rd w a 0 z := fun h => absurd h (Nat.lt_irrefl _)

def ClP (w : World) (n : Nat) (V : Nat → Int) (e : Ending) (w' : World) : Prop :=
  ∃ p cap, e = .returned (.slice p n cap) ∧ (0 < n → ∃ g, p = some ⟨g, 0, none⟩ ∧ w.heap.size ≤ g ∧ Qu.Own w' g n V) ∧ n ≤ cap ∧ cap ≤ 9223372036854775807 ∧ Below w.heap.size w w'
theorem clone_some (b off n c : Nat) (V : Nat → Int) (w : World) (hn0 : 0 < n) (hn : n ≤ 4096) (hc : ∀ i, i < n → w.cell? ⟨b, off + i, none⟩ = some (.int .i64 (V i))) :
    Calls Try.prog 30 #[.slice (some ⟨b, off, none⟩) n c] w (ClP w n V) := by
  have hl : ((List.range n).map V).length = n := by simp
  have hg : ∀ i, i < n → ((List.range n).map V).getD i 0 = V i := fun i hi => by rw [List.getD_eq_getElem?_getD, List.getElem?_map, List.getElem?_range hi]; rfl
  refine Calls.mono (Any.slices_Clone_int Try.cloneL b off n c ((List.range n).map V) w (by rw [hl]; exact Nat.le_refl _) (by omega) (fun j hj => by rw [hg j (by rw [hl] at hj; exact hj)]; exact hc j (by rw [hl] at hj; exact hj))) ?_
  rintro e w' ⟨v', rfl, hown, hnn, hb⟩
  rw [List.take_of_length_le (by rw [hl]; exact Nat.le_refl _)] at hown
  obtain ⟨g, cap, rfl, hbg, hgl, hncap, hcm, hlen, hH⟩ := Lib.holds_of_ownsRow hown hnn
  refine ⟨_, cap, rfl, fun _ => ⟨g, rfl, hbg, hgl, fun i hi => ?_⟩, hncap, by unfold maxLen at hcm; omega, hb⟩
  obtain ⟨e1, e2⟩ := hH i (by simpa using hi)
  rw [Nat.zero_add] at e1 e2
  refine ⟨?_, e2⟩
  rw [e1]
  simp [List.getElem?_range hi]
theorem clone_zero (p : Option Addr) (c : Nat) (V : Nat → Int) (w : World) : Calls Try.prog 30 #[.slice p 0 c] w (ClP w 0 V) := by
  cases p with
  | none =>
    refine Calls.mono (Any.slices_Clone_int_nil Try.cloneL 0 c w) ?_
    rintro e w' ⟨rfl, rfl⟩
    exact ⟨_, _, rfl, (fun h => absurd h (Nat.lt_irrefl _)), Nat.le_refl _, by omega, Below.refl _ _⟩
  | some a =>
    refine Calls.mono (Any.slices_Clone_int_zero Try.cloneL a c w) ?_
    rintro e w' ⟨v', rfl, hown, hnn, hb⟩
    obtain ⟨g, cap, rfl, hbg, hgl, hncap, hcm, _, _⟩ := Lib.holds_of_ownsRow (enc := Value.int .i64) (zs := []) hown hnn
    exact ⟨_, _, rfl, (fun h => absurd h (Nat.lt_irrefl _)), hncap, by unfold maxLen at hcm; omega, hb⟩
theorem clone_any (p : Option Addr) (n c : Nat) (V : Nat → Int) (w : World) (hn : n ≤ 4096) (hr : Rd w p n V) : Calls Try.prog 30 #[.slice p n c] w (ClP w n V) := by
  by_cases h : 0 < n
  · obtain ⟨b, off, rfl, _, hc⟩ := hr h
    exact clone_some b off n c V w h hn hc
  · obtain rfl : n = 0 := by omega
    exact clone_zero p c V w

set_option maxHeartbeats 400000 in
theorem groups_any (p : Option Addr) (n c w : Nat) (W : World) :
    Calls Try.prog 31 #[.slice p n c, .int .i64 (w : Int)] W fun e W' =>
      e = .returned (.func (.func 37) #[] #[.pointer (some ⟨W.heap.size, 0, none⟩), .pointer (some ⟨W.heap.size + 1, 0, none⟩)]) ∧ W' = (W.alloc (.cells #[.slice p n c] 22)).alloc (.cells #[.int .i64 (w : Int)] 3) := by
  go_enter Try.func31, Try.ntmps31
  go_wp2
  go_ret
  exact ⟨by simp, rfl⟩

theorem grp_stops (F : Fence) (nn : Nat) (hF : F.fn 37) (hro : F.round = none) (hnn : 1 ≤ nn) (B1 B2 g n cap w : Nat) (p : Option Addr) (hp : 0 < n → p = some ⟨g, 0, none⟩) (hw : 1 ≤ w ∧ w ≤ 4096) (hn : n ≤ 4096) (hcap : n ≤ cap) (hcap2 : cap ≤ 9223372036854775807)
    (W0 : World) (hB1 : B1 < W0.heap.size) (hB2 : B2 < W0.heap.size) (h1 : W0.cell? ⟨B1, 0, none⟩ = some (.slice p n cap)) (h2 : W0.cell? ⟨B2, 0, none⟩ = some (.int .i64 (w : Int))) :
    SeqStopsK F nn Try.prog 37 #[.pointer (some ⟨B1, 0, none⟩), .pointer (some ⟨B2, 0, none⟩)] (fun x : Grp n w => #[grpS g n cap w (x.1 * w)]) (KpB B1 B2)
      (fun ys => ∃ G, ys.map (fun x => x.1) = List.range G ∧ n ≤ G * w) (fun _ => True) n W0 := fun l J Jx W hW _ _ hY h0 =>
  grp1_in F nn hF hro hnn l B1 B2 g n cap w p hp hw hn hcap hcap2 J Jx hY W ((hW.cell (p := ⟨B1, 0, none⟩) hB1).trans h1) ((hW.cell (p := ⟨B2, 0, none⟩) hB2).trans h2) h0

/-- The first k groups are smoothed. -/
def part (z : Nat → Int) (n w k i : Nat) : Int := if i < k * w then sm z n w i else z i
theorem part_zero (z : Nat → Int) (n w i : Nat) : part z n w 0 i = z i := if_neg (by omega)
theorem part_all (z : Nat → Int) (n w k i : Nat) (hi : i < n) (h : n ≤ k * w) : part z n w k i = sm z n w i := if_pos (by omega)
theorem part_next (z s : Nat → Int) (n w k i : Nat) (hw : 1 ≤ w) (hk : k * w < n) (hi : i < n) (hs : ∀ i, i < n → s i = part z n w k i) : lvl s (k * w) (gl w n (k * w)) (gl w n (k * w)) i = part z n w (k + 1) i := by
  have hg : gsum s (k * w) (gl w n (k * w)) = gsum z (k * w) (gl w n (k * w)) := gsum_congr (fun j hj => by
    rw [hs _ (by unfold gl at hj; omega)]
    exact if_neg (by omega))
  have hkw : (k + 1) * w = k * w + w := by rw [Nat.add_mul, Nat.one_mul]
  unfold lvl
  by_cases h : k * w ≤ i ∧ i < k * w + gl w n (k * w)
  · rw [if_pos h]
    unfold part
    rw [hkw, if_pos (by unfold gl at h; omega)]
    have := sm_at z n w k (i - k * w) hw (by unfold gl at h; omega)
    rw [show k * w + (i - k * w) = i by omega] at this
    rw [this]
    unfold lev rem avg
    rw [hg]
  · rw [if_neg h, hs i hi]
    unfold part
    rw [hkw]
    by_cases h2 : i < k * w
    · rw [if_pos h2, if_pos (by omega)]
    · rw [if_neg h2, if_neg (by unfold gl at h; omega)]
theorem lvl_bd (s : Nat → Int) (off L n i : Nat) (hL : 1 ≤ L) (hoL : off + L ≤ n) (hi : i < n) (hs : ∀ i, i < n → -274877906944 ≤ s i ∧ s i ≤ 274877906944) : -274877906944 ≤ lvl s off L L i ∧ lvl s off L L i ≤ 274877906944 := by
  unfold lvl
  split
  · exact lev_bd s off L _ hL (fun j hj => hs _ (by omega))
  · exact hs i hi

/-- P9.3: the error of Smooth. -/
def smC (z : Nat → Int) (n : Nat) (w : Int) : Int := if btB 1 w 4096 = true ∧ allW (-274877906944) 274877906944 z n = true then 0 else 1
def smN (z : Nat → Int) (n : Nat) (w : Int) : Nat := if smC z n w = 0 then n else 0
theorem smC_ok {z : Nat → Int} {n : Nat} {w : Int} (h1 : btB 1 w 4096 = true) (h2 : allW (-274877906944) 274877906944 z n = true) : smC z n w = 0 ∧ smN z n w = n := by
  have e : smC z n w = 0 := if_pos ⟨h1, h2⟩
  exact ⟨e, by unfold smN; rw [e]; rfl⟩
theorem smC_w {z : Nat → Int} {n : Nat} {w : Int} (h1 : btB 1 w 4096 = false) : smC z n w = 1 ∧ smN z n w = 0 := by
  have e : smC z n w = 1 := by unfold smC; rw [h1]; simp
  exact ⟨e, by unfold smN; rw [e]; rfl⟩
theorem smC_z {z : Nat → Int} {n : Nat} {w : Int} (h2 : allW (-274877906944) 274877906944 z n = false) : smC z n w = 1 ∧ smN z n w = 0 := by
  have e : smC z n w = 1 := by unfold smC; rw [h2]; simp
  exact ⟨e, by unfold smN; rw [e]; rfl⟩
/-- What Smooth returns. -/
def SmP (z : Nat → Int) (n : Nat) (w : Int) (W : World) (e : Ending) (W' : World) : Prop := LcP (smC z n w) (smN z n w) (sm z n w.toNat) W e W'

set_option maxHeartbeats 400000 in
theorem smo_err (p : Option Addr) (n c : Nat) (z : Nat → Int) (w : Int) (W : World) (hn : n ≤ 4096) (hr : Rd W p n z) (h : btB 1 w 4096 = false ∨ allW (-274877906944) 274877906944 z n = false) :
    Calls Try.prog 20 #[.slice p n c, .int .i64 w] W (SmP z n w W) := by
  have H1 := Lib.hid (fun X => bt_any 1 w 4096 X)
  have H2 := Lib.hid (fun X (hX : X = W) => (show X = W from hX) ▸ ab_any (-274877906944) 274877906944 p n c z W (by omega) hr)
  unfold SmP
  clear hr
  cases hb : btB 1 w 4096 with
  | false =>
    rw [(smC_w hb).1, (smC_w hb).2]
    rw [hb] at H1
    clear h hb H2
    go_enter Try.func20, Try.ntmps20
    go_wp2_with (go_at_call 28; refine (H1.out _).mono ?_; rintro e w' ⟨rfl, rfl⟩)
    go_ret2
    exact ⟨_, _, rfl, rd_zero _ _ _, Below.refl _ _⟩
  | true =>
    have h2 : allW (-274877906944) 274877906944 z n = false := by rcases h with h | h; · rw [hb] at h; cases h
                                                                  · exact h
    rw [(smC_z h2).1, (smC_z h2).2]
    rw [hb] at H1
    rw [h2] at H2
    clear h hb h2
    go_enter Try.func20, Try.ntmps20
    go_wp2_with (first | (go_at_call 28; refine (H1.out _).mono ?_; rintro e w' ⟨rfl, rfl⟩) | (go_at_call 26; refine (H2.out _ rfl).mono ?_; rintro e w' ⟨rfl, rfl⟩))
    go_ret2
    exact ⟨_, _, rfl, rd_zero _ _ _, Below.refl _ _⟩
end Go.Proofs.Ytbcjigociliflaa.If

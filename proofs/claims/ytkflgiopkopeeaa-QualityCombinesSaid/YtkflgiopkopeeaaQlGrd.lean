/-
  What the opened arguments of a law say of a list of checks and of a list of lists of readings.
-/
import Derived.Test.YtkflgiopkopeeaaQlCmb
import Derived.Test.YtkflgiopkopeeaaQlRow
import Derived.Deep.Slices
import Derived.SizedLaws
namespace Go.Proofs.Ytkflgiopkopeeaa.Ql
open Go.ChangeShapes Go.WideShapes Go.ChangeAt Go.RowKit
open Go.Proofs.Ytkflgiopkopeeaa.Gg (RdR Rs)
set_option linter.unusedVariables false

section
variable {H : Type} {enc : TypeId × Value → H} {P : Program} {w : World} {base : Nat} {spare : Nat → Bool} {held : Bool}

/-- A slice of structs of four integers, opened. -/
theorem open_fours {t e ti : TypeId} {f0 f1 f2 f3 : Field} {fuel : Nat} {cs : List Value} {x : DataW H × List MemPlace} (ht : P.underlying t = some (.slice e)) (he : P.underlying e = some (.struct #[f0, f1, f2, f3]))
    (hi : P.underlying ti = some (.int .i64)) (ce : P.cellsOf e = 4) (ci : P.cellsOf ti = 1) (t0 : f0.type = ti) (t1 : f1.type = ti) (t2 : f2.type = ti) (t3 : f3.type = ti) (o0 : f0.offset = 0) (o1 : f1.offset = 1) (o2 : f2.offset = 2) (o3 : f3.offset = 3)
    (h : DataW.trod enc P w base spare held fuel t cs = some x) :
    (cs = [.slice none 0 0] ∧ x.1 = .nil) ∨
    ∃ (a : Addr) (len cap : Nat) (elems spr : List (DataW H)) (R : Nat → Nat → Int), cs = [.slice (some a) len cap] ∧ len ≤ cap ∧ x.1 = .slice elems spr ∧ elems.length = len ∧ ∀ i, i < len → ∀ j, j < 4 → w.cell? (a.add (i * 4 + j)) = some (.int .i64 (R i j)) := by
  rcases Go.Deep.open_slice ht h with ⟨h0, h1⟩ | ⟨a, len, cap, m, n, D, Pl, rfl, hb, hl, hm, hmm, rfl, hx⟩
  · exact .inl ⟨h0, by rw [h1]⟩
  right
  have hlm : len ≤ m := by rw [hmm]; split <;> omega
  have each : ∀ i, i < len → ∃ r : Nat → Int, ∀ j, j < 4 → w.cell? (a.add (i * 4 + j)) = some (.int .i64 (r j)) := by
    intro i hil
    obtain ⟨cs', h1, h2⟩ := hx i (by omega)
    rw [ce] at h1
    obtain ⟨_, hlen, hcell⟩ := World.cells?_some h1
    obtain ⟨xs, k, hk, hxy, _, hxl, hf⟩ := DataW.trod_struct he h2
    match xs, hxl, cs', hlen with
    | [y0, y1, y2, y3], _, [v0, v1, v2, v3], _ =>
      have g0 := hf 0 f0 rfl
      have g1 := hf 1 f1 rfl
      have g2 := hf 2 f2 rfl
      have g3 := hf 3 f3 rfl
      rw [t0] at g0
      rw [t1] at g1
      rw [t2] at g2
      rw [t3] at g3
      simp [o0, o1, o2, o3, ci] at g0 g1 g2 g3
      obtain ⟨r0, q0, _, _⟩ := DataW.trod_int hi g0
      obtain ⟨r1, q1, _, _⟩ := DataW.trod_int hi g1
      obtain ⟨r2, q2, _, _⟩ := DataW.trod_int hi g2
      obtain ⟨r3, q3, _, _⟩ := DataW.trod_int hi g3
      simp at q0 q1 q2 q3
      subst q0 q1 q2 q3
      refine ⟨fun j => if j = 0 then r0 else if j = 1 then r1 else if j = 2 then r2 else r3, fun j hj => ?_⟩
      have e := hcell j (by omega)
      rw [Go.Deep.add_add] at e
      have hc : j = 0 ∨ j = 1 ∨ j = 2 ∨ j = 3 := by omega
      rcases hc with rfl | rfl | rfl | rfl <;> simpa using e
  obtain ⟨R, hR⟩ := Go.Deep.choose_lt each
  exact ⟨a, len, cap, _, _, R, rfl, hl, rfl, by simp, hR⟩
theorem fours_rd {a : Addr} {n : Nat} {R : Nat → Nat → Int} (h : ∀ i, i < n → ∀ j, j < 4 → w.cell? (a.add (i * 4 + j)) = some (.int .i64 (R i j))) : RdR w (some a) n R := fun hn => by
  obtain ⟨b, off, spot⟩ := a
  have hspot : spot = none := by simpa [Addr.add] using World.cell?_spot (h 0 hn 0 (by omega))
  subst hspot
  have h6 : ∀ i, i < n → ∀ j, j < 4 → w.cell? ⟨b, off + i * 4 + j, none⟩ = some (.int .i64 (R i j)) := fun i hi j hj => by
    have := h i hi j hj
    rw [add_plain] at this
    rw [Nat.add_assoc]; exact this
  exact ⟨b, off, rfl, World.block_lt_of_cell? _ _ (h6 0 hn 0 (by omega)), h6⟩
theorem open_four {t e ti : TypeId} {f0 f1 f2 f3 : Field} {fuel : Nat} {p : Option Addr} {n c : Nat} {x : DataW H × List MemPlace} (ht : P.underlying t = some (.slice e)) (he : P.underlying e = some (.struct #[f0, f1, f2, f3]))
    (hi : P.underlying ti = some (.int .i64)) (ce : P.cellsOf e = 4) (ci : P.cellsOf ti = 1) (t0 : f0.type = ti) (t1 : f1.type = ti) (t2 : f2.type = ti) (t3 : f3.type = ti) (o0 : f0.offset = 0) (o1 : f1.offset = 1) (o2 : f2.offset = 2) (o3 : f3.offset = 3)
    (h : DataW.trod enc P w base spare held fuel t [.slice p n c] = some x) : (∃ R, RdR w p n R) ∧ ((n = 0 ∧ x.1 = .nil) ∨ ∃ elems spr, x.1 = .slice elems spr ∧ elems.length = n) := by
  rcases open_fours ht he hi ce ci t0 t1 t2 t3 o0 o1 o2 o3 h with ⟨h0, h1⟩ | ⟨a, len, cap, elems, spr, R, h0, hl, hx, hel, hR⟩
  · simp at h0
    obtain ⟨rfl, rfl, rfl⟩ := h0
    exact ⟨⟨fun _ _ => 0, fun hn => absurd hn (Nat.lt_irrefl _)⟩, .inl ⟨rfl, h1⟩⟩
  · simp at h0
    obtain ⟨rfl, rfl, rfl⟩ := h0
    exact ⟨⟨R, fours_rd hR⟩, .inr ⟨elems, spr, hx, hel⟩⟩
theorem weights_elem {e : TypeId} {d : DataW H} : ∀ {l : List (DataW H)}, d ∈ l → ∀ n ∈ d.weights P e, n ∈ DataW.weightsAll P e l
  | [], hd, _, _ => absurd hd (by simp)
  | a :: l, hd, n, hn => by
    simp only [DataW.weightsAll, List.mem_append]
    rcases List.mem_cons.1 hd with rfl | hd
    · exact .inl hn
    · exact .inr (weights_elem hd n hn)
/-- A slice of such slices, opened; the weight of each. -/
theorem open_rows {t e q ti : TypeId} {f0 f1 f2 f3 : Field} {fuel : Nat} {p : Option Addr} {n c : Nat} {x : DataW H × List MemPlace} (ht : P.underlying t = some (.slice e)) (hq : P.underlying e = some (.slice q)) (he : P.underlying q = some (.struct #[f0, f1, f2, f3]))
    (hi : P.underlying ti = some (.int .i64)) (c1 : P.cellsOf e = 1) (ce : P.cellsOf q = 4) (ci : P.cellsOf ti = 1) (t0 : f0.type = ti) (t1 : f1.type = ti) (t2 : f2.type = ti) (t3 : f3.type = ti) (o0 : f0.offset = 0) (o1 : f1.offset = 1) (o2 : f2.offset = 2) (o3 : f3.offset = 3)
    (hby : P.bytesOf q = 32)
    (h : DataW.trod enc P w base spare held fuel t [.slice p n c] = some x) (hw : ∀ k ∈ x.1.weights P t, k ≤ reachBytes) : ∃ P' Ln Cp RR, LL w p n P' Ln Cp RR ∧ ∀ i, i < n → Ln i ≤ 17592186044416 := by
  rcases Go.Deep.open_slice1 ht c1 h with ⟨h0, h1⟩ | ⟨a, len, cap, m, k, V, D, Pl, h0, hb, hl, hm, hmm, rfl, hx⟩
  · simp at h0
    obtain ⟨rfl, rfl, rfl⟩ := h0
    exact ⟨fun _ => none, fun _ => 0, fun _ => 0, fun _ _ _ => 0, ⟨fun hn => absurd hn (Nat.lt_irrefl _), fun i hi => absurd hi (Nat.not_lt_zero _)⟩, fun i hi => absurd hi (Nat.not_lt_zero _)⟩
  · simp at h0
    obtain ⟨rfl, rfl, rfl⟩ := h0
    have hlm : n ≤ m := by rw [hmm]; split <;> omega
    have each : ∀ i, i < n → ∃ y : Option Addr × Nat × Nat × (Nat → Nat → Int), w.cell? (a.add i) = some (.slice y.1 y.2.1 y.2.2.1) ∧ RdR w y.1 y.2.1 y.2.2.2 ∧ y.2.1 ≤ 17592186044416 := by
      intro i hin
      obtain ⟨hc, htr⟩ := hx i (by omega)
      obtain ⟨pi, ni, ci', hV⟩ : ∃ pi ni ci', V i = .slice pi ni ci' := by
        rcases open_fours hq he hi ce ci t0 t1 t2 t3 o0 o1 o2 o3 htr with ⟨h0, _⟩ | ⟨a', l', c', _, _, _, h0, _⟩
        · exact ⟨_, _, _, by simpa using h0⟩
        · exact ⟨_, _, _, by simpa using h0⟩
      rw [hV] at hc htr
      obtain ⟨⟨R, hR⟩, hd⟩ := open_four hq he hi ce ci t0 t1 t2 t3 o0 o1 o2 o3 htr
      refine ⟨(pi, ni, ci', R), hc, hR, ?_⟩
      rcases hd with ⟨rfl, _⟩ | ⟨es, sp, hdd, hln⟩
      · exact Nat.zero_le _
      · have hdd' : D i = .slice es sp := hdd
        have hmem : D i ∈ (List.range n).map D := List.mem_map.2 ⟨i, List.mem_range.2 hin, rfl⟩
        have h1 : (es.length + sp.length) * P.bytesOf q ∈ (D i).weights P e := by rw [hdd']; simp [DataW.weights, hq]
        have h2 := hw ((es.length + sp.length) * P.bytesOf q) (by
          simp only [DataW.weights, ht]
          exact List.mem_cons_of_mem _ (List.mem_append.2 (.inl (weights_elem hmem _ h1))))
        rw [hby] at h2
        have h3 := reachBytes_lt
        show ni ≤ _
        omega
    obtain ⟨y, hy⟩ := Go.Deep.choose_lt each
    refine ⟨fun i => (y i).1, fun i => (y i).2.1, fun i => (y i).2.2.1, fun i => (y i).2.2.2, ⟨fun hn => ?_, fun i hi => (hy i hi).2.1⟩, fun i hi => (hy i hi).2.2⟩
    obtain ⟨b, off, spot⟩ := a
    have hspot : spot = none := by simpa [Addr.add] using World.cell?_spot (hy 0 hn).1
    subst hspot
    have h6 : ∀ i, i < n → w.cell? ⟨b, off + i, none⟩ = some (.slice (y i).1 (y i).2.1 (y i).2.2.1) := fun i hi => by rw [← add_plain]; exact (hy i hi).1
    exact ⟨b, off, rfl, World.block_lt_of_cell? _ _ (h6 0 hn), h6⟩
end
end Go.Proofs.Ytkflgiopkopeeaa.Ql

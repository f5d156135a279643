/-
  A list that a law gathers by append: its shape and what can be read of it.
-/
import Derived.Test.YtbcjigociliflaaQuOwn
namespace Go.Proofs.Ytbcjigociliflaa.Qu
open Go.ChangeShapes Go.WideShapes Go.ChangeAt Go.RowKit

/-- v is a list of the call's own with the n integers f 0, .., f (n - 1). -/
def Got (w : World) (base : Nat) (v : Value) (n : Nat) (f : Nat → Int) : Prop := w.ownsRow base 3 1 v n ((List.range n).map fun i => Value.int .i64 (f i))
theorem got_nil (w : World) (base : Nat) (f : Nat → Int) : Got w base (.slice none 0 0) 0 f := World.ownsRow_nil w base 3 1
theorem got_news (f : Nat → Int) (k : Nat) (x : Int) (hx : x = f k) : ((List.range k).map fun i => Value.int .i64 (f i)) ++ [.int .i64 x] = (List.range (k + 1)).map fun i => Value.int .i64 (f i) := by
  rw [List.range_succ, List.map_append, hx]; rfl
theorem got_rd {w : World} {base : Nat} {v : Value} {n : Nat} {f : Nat → Int} (h : Got w base v n f) : ∃ p cap, v = .slice p n cap ∧ Rd w p n f := by
  rcases h.2 with ⟨rfl, rfl⟩ | ⟨g, cap, cur, rfl, hb, hg, _, _, _, _⟩
  · exact ⟨none, 0, rfl, fun h => absurd h (Nat.lt_irrefl _)⟩
  · refine ⟨some ⟨g, 0, none⟩, cap, rfl, fun _ => ⟨g, 0, rfl, ?_, fun i hi => ?_⟩⟩
    · exact (h.lt g rfl).2
    · rw [Nat.zero_add, h.cellAt i (by omega)]
      simp [hi]
theorem got_next {w : World} {base : Nat} {v : Value} {k : Nat} {f : Nat → Int} {x : Int} (h : w.ownsRow base 3 1 v (k + 1) (((List.range k).map fun i => Value.int .i64 (f i)) ++ [.int .i64 x])) (hx : x = f k) :
    ∃ g cap, v = .slice (some ⟨g, 0, none⟩) (k + 1) cap ∧ w.cell? ⟨g, k, none⟩ = some (.int .i64 x) ∧ Got w base v (k + 1) f := by
  rw [got_news f k x hx] at h
  obtain ⟨p, cap, hv, hr⟩ := got_rd (f := f) (show Got w base v (k + 1) f from h)
  obtain ⟨g, off, rfl, _, hc⟩ := hr (by omega)
  rcases h.2 with ⟨h1, h2⟩ | ⟨g', cap', cur, h1, _⟩
  · omega
  · rw [h1] at hv
    simp only [Value.slice.injEq, Option.some.injEq, Addr.mk.injEq] at hv
    obtain ⟨⟨rfl, rfl, _⟩, _, rfl⟩ := hv
    have := hc k (by omega)
    rw [Nat.zero_add] at this
    exact ⟨g', cap', h1, by rw [hx]; exact this, h⟩
theorem got_block {w : World} {base : Nat} {v : Value} {n : Nat} {f : Nat → Int} (h : Got w base v n f) : ∀ k, v.ownBlock = some k → base ≤ k := fun k hk => (h.lt k hk).1
end Go.Proofs.Ytbcjigociliflaa.Qu

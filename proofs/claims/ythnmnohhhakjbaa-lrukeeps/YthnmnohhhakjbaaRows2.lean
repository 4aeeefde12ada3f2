/-
  A slice that a call has handed back, as its reader meets it. No walk.
-/
import Derived.Test.YthnmnohhhakjbaaFrame
namespace Go.Proofs.Ythnmnohhhakjbaa
open Go.RowKit Go.Maps

/-- A slice value, and what its cells hold. -/
structure Reads (w : World) (a : Option Addr) (xs : List Value) : Prop where
  row : 0 < xs.length → ∃ g, a = some ⟨g, 0, none⟩ ∧ g < w.heap.size ∧ ∀ (j : Nat) (u : Value), xs[j]? = some u → w.cell? ⟨g, j, none⟩ = some u

theorem reads_of {w : World} {base : Nat} {e : TypeId} {v : Value} {n : Nat} {xs : List Value} (h : w.ownsRow base e 1 v n xs) : ∃ a c, v = .slice a n c ∧ Reads w a xs := by
  rcases h.2 with ⟨rfl, rfl⟩ | ⟨g, cap, cur, rfl, _, hg, _⟩
  · refine ⟨none, 0, rfl, ⟨fun h0 => ?_⟩⟩
    have := h.1
    omega
  · refine ⟨some ⟨g, 0, none⟩, cap, rfl, ⟨fun _ => ⟨g, rfl, (Array.getElem?_eq_some_iff.1 hg).1, fun j u hj => ?_⟩⟩⟩
    have := h.cells (g := g) rfl j u hj
    have e : (⟨g, 0, none⟩ : Addr).add j = ⟨g, j, none⟩ := by unfold Addr.add; split <;> simp_all
    rw [e] at this
    exact this

theorem Reads.below {w w' : World} {a : Option Addr} {xs : List Value} (h : Reads w a xs) (hb : Below w.heap.size w w') : Reads w' a xs := by
  refine ⟨fun h0 => ?_⟩
  obtain ⟨g, h1, h2, h3⟩ := h.row h0
  exact ⟨g, h1, Nat.lt_of_lt_of_le h2 hb.size, fun j u hj => (hb.cell (p := ⟨g, j, none⟩) h2).trans (h3 j u hj)⟩

/-- Where its block is not among those that turn. -/
theorem Reads.kept {S : Nat → Prop} {w w' : World} {a : Option Addr} {xs : List Value} (h : Reads w a xs) (hk : KeptBut S w w') (hn : ∀ g, a = some ⟨g, 0, none⟩ → ¬ S g) : Reads w' a xs := by
  refine ⟨fun h0 => ?_⟩
  obtain ⟨g, h1, h2, h3⟩ := h.row h0
  refine ⟨g, h1, Nat.lt_of_lt_of_le h2 hk.size, fun j u hj => ?_⟩
  exact (World.cell?_of_block (hk.block g h2 (hn g h1))).trans (h3 j u hj)

end Go.Proofs.Ythnmnohhhakjbaa

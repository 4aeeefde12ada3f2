/-
  Slices of integers that came in, as a walk is told of them; a slice that was handed back, with where it lies. No walk.
-/
import Derived.Test.YthnmnohhhakjbaaRows2
import Derived.ProofKit
import Derived.SizedLaws
import Derived.OpenShut
import Derived.ChangeOld
namespace Go.Proofs.Ythnmnohhhakjbaa
open Go.ChangeShapes Go.WideShapes Go.ChangeAt Go.RowKit

/-- What the walk is told of a slice of integers that came in: its elements are zs, and each lies in its cell, below block B. -/
structure Ints (k : IntKind) (w : World) (B : Nat) (a : Option Addr) (zs : List Int) : Prop where
  cell : ∀ (i : Nat) (z : Int), zs[i]? = some z → ∃ b off, a = some ⟨b, off, none⟩ ∧ b < B ∧ w.cell? ⟨b, off + i, none⟩ = some (.int k z)
  wf : ∀ (i : Nat) (z : Int), zs[i]? = some z → (Lit.int k z).wf = true
  len : zs.length ≤ 9223372036854775807

/-- A slice of integers that was read, as the walk is told of it. -/
theorem ints_of {H : Type} {enc : TypeId × Value → H} {W : World} {a0 : Option Addr} {len cap : Nat} {d : DataW H} {p : List MemPlace} {t e : TypeId} {k : IntKind} (ht : Try.prog.underlying t = some (.slice e)) (he : Try.prog.underlying e = some (.int k)) (hc : Try.prog.cellsOf e = 1)
    (h : DataW.Trod enc Try.prog W 0 (fun _ => true) true t (.slice a0 len cap) d p)
    (hlt : ∀ x ∈ p, x.block < W.heap.size) : ∃ zs : List Int, zs.length = len ∧ Ints k W W.heap.size a0 zs := by
  obtain ⟨fuel, hf⟩ := h
  rcases open_ints ht he hc hf with ⟨hcs, hx⟩ | ⟨a, len', cap', zs, hcs, _, hl, hm, hz, hx, hcell, hwf⟩
  · simp [Value.cells] at hcs
    obtain ⟨rfl, rfl, rfl⟩ := hcs
    exact ⟨[], rfl, ⟨fun i s hs => by simp at hs, fun i s hs => by simp at hs, by simp⟩⟩
  · simp [Value.cells] at hcs
    obtain ⟨rfl, rfl, rfl⟩ := hcs
    simp only [Prod.mk.injEq] at hx
    obtain ⟨rfl, rfl⟩ := hx
    simp only [if_true] at hz
    have hlen : (zs.take len).length = len := by rw [List.length_take]; omega
    refine ⟨zs.take len, hlen, ⟨fun i s hs => ?_, fun i s hs => ?_, ?_⟩⟩
    · have hi : i < len := by have := (List.getElem?_eq_some_iff.1 hs).1; omega
      have hs' : zs.getD i 0 = s := by
        rw [List.getElem?_take, if_pos hi] at hs
        simp [List.getD, hs]
      obtain ⟨b, off, rfl, hcell'⟩ := ints_at hcell (by omega)
      have hc := hcell' i (by omega)
      rw [hs'] at hc
      exact ⟨b, off, rfl, hlt (.cell b off) (MemPlace.mem_row.2 ⟨0, by omega, by simp⟩), hc⟩
    · exact hwf s (List.mem_of_mem_take (List.mem_of_getElem? hs))
    · rw [hlen]; simp only [maxLen] at hm; omega

theorem reads_from {w : World} {base : Nat} {e : TypeId} {v : Value} {n : Nat} {xs : List Value} (h : w.ownsRow base e 1 v n xs) : ∃ a c, v = .slice a n c ∧ Reads w a xs ∧ ∀ g, a = some ⟨g, 0, none⟩ → base ≤ g := by
  have hr := reads_of h
  rcases h.2 with ⟨rfl, rfl⟩ | ⟨g, cap, cur, rfl, hb, hg, _⟩
  · obtain ⟨a, c, e1, e2⟩ := hr
    cases e1
    exact ⟨none, 0, rfl, e2, fun g e => by cases e⟩
  · obtain ⟨a, c, e1, e2⟩ := hr
    cases e1
    exact ⟨_, _, rfl, e2, fun g' e => by cases e; exact hb⟩

/-- Of a filtered list the element that stood at i. -/
theorem filter_get {α : Type} (p : α → Bool) {l : List α} {i : Nat} {z : α} (h : l[i]? = some z) (hp : p z = true) : (l.filter p)[((l.take i).filter p).length]? = some z := by
  obtain ⟨h1, rfl⟩ := List.getElem?_eq_some_iff.1 h
  have e : l = l.take i ++ l[i] :: l.drop (i + 1) := by simp [List.take_append_drop]
  have e2 : l.filter p = (l.take i).filter p ++ l[i] :: (l.drop (i + 1)).filter p := by
    conv => lhs; rw [e]
    rw [List.filter_append, List.filter_cons, if_pos hp]
  rw [e2, List.getElem?_append_right (Nat.le_refl _)]
  simp

theorem filter_step {α : Type} (p : α → Bool) {l : List α} {i : Nat} {z : α} (h : l[i]? = some z) : ((l.take (i + 1)).filter p).length = ((l.take i).filter p).length + (if p z then 1 else 0) := by
  obtain ⟨h1, rfl⟩ := List.getElem?_eq_some_iff.1 h
  rw [List.take_succ_eq_append_getElem h1, List.filter_append, List.length_append]
  congr 1
  by_cases hp : p l[i] = true <;> simp [List.filter, hp]

theorem below_drawn {b : Nat} {w w' : World} (h : Below b w w') (n : Nat) : Below b w (w'.drewN n) := ⟨h.os, h.tape, h.output, h.size, h.block⟩

end Go.Proofs.Ythnmnohhhakjbaa

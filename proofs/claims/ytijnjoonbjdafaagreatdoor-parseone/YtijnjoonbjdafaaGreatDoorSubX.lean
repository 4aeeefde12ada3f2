/-
  Slices of data, wherever they lie. No walk.
-/
import Derived.Test.YtijnjoonbjdafaaGreatDoorMem
namespace Go.Proofs.YtijnjoonbjdafaaGreatDoor
set_option maxRecDepth 20000
open Go.RowKit Go.Shelf
theorem row_slice {w : World} {base : Nat} {e : TypeId} {size : Nat} {v : Value} {n : Nat} {xs : List Value} (h : w.ownsRow base e size v n xs) : ∃ a c, v = .slice a n c := by
  rcases h.2 with ⟨rfl, rfl⟩ | ⟨g, cap, cur, rfl, _⟩
  · exact ⟨_, _, rfl⟩
  · exact ⟨_, _, rfl⟩
theorem row_cells {A : Nat → Prop} {w : World} {e : TypeId} {size n : Nat} {l : List Dt} {v : Value} (h : IsC A w (.row e size n l) v) (hn : n ≠ 0) : ∃ g c xs, v = .slice (some ⟨g, 0, none⟩) n c ∧ A g ∧ g < w.heap.size ∧ IsCs A w l xs ∧ ∀ j x, j < n * size → xs[j]? = some x → w.cell? ⟨g, j, none⟩ = some x := by
  obtain ⟨xs, h1, h2, h3⟩ := h.unrow
  rcases h1.2 with ⟨_, e⟩ | ⟨g, c, cur, rfl, hb, hg, rest⟩
  · exact absurd e hn
  · exact ⟨g, c, xs, rfl, h2 g rfl, (Array.getElem?_eq_some_iff.1 hg).1, h3, fun j x hj hx => by rw [h1.cellAt j hj]; exact hx⟩
def Sub (A : Nat → Prop) (w : World) (l : List Dt) (n : Nat) (v : Value) : Prop :=
  ∃ a0 cap xs, v = .slice a0 n cap ∧ IsCs A w l xs ∧ (n ≠ 0 → ∃ g o, a0 = some ⟨g, o, none⟩ ∧ g < w.heap.size ∧ ∀ j x, xs[j]? = some x → w.cell? ⟨g, o + j, none⟩ = some x)
theorem Sub.of_row {A : Nat → Prop} {w : World} {e : TypeId} {k n : Nat} {l : List Dt} {v : Value} (h : IsC A w (.row e k n l) v) (hl : l.length = n * k) : Sub A w l n v := by
  obtain ⟨xs, h1, h2, h3⟩ := h.unrow
  obtain ⟨a0, cap, rfl⟩ := row_slice h1
  refine ⟨a0, cap, xs, rfl, h3, fun hn => ?_⟩
  obtain ⟨g, c, ys, hv, hA, hg, hcs, hcell⟩ := row_cells h hn
  cases hv
  refine ⟨g, 0, rfl, hg, fun j x hx => ?_⟩
  have hj : j < n * k := by
    have := (List.getElem?_eq_some_iff.1 hx).1
    rw [IsCs.length _ _ h3] at this
    omega
  rw [Nat.zero_add, h1.cellAt j hj]
  exact hx
theorem Sub.below {A : Nat → Prop} {w w' : World} {n : Nat} {l : List Dt} {v : Value} (h : Sub A w l n v) (hb : Below w.heap.size w w') : Sub A w' l n v := by
  obtain ⟨a0, cap, xs, h1, h2, h3⟩ := h
  refine ⟨a0, cap, xs, h1, h2.below hb, fun hn => ?_⟩
  obtain ⟨g, o, e1, e2, e3⟩ := h3 hn
  exact ⟨g, o, e1, Nat.lt_of_lt_of_le e2 hb.size, fun j x hx => (hb.cell (p := ⟨g, o + j, none⟩) e2).trans (e3 j x hx)⟩
theorem Sub.mono {A A' : Nat → Prop} {w : World} {n : Nat} {l : List Dt} {v : Value} (h : Sub A w l n v) (hA : ∀ b, b < w.heap.size → A b → A' b) : Sub A' w l n v := by
  obtain ⟨a0, cap, xs, h1, h2, h3⟩ := h
  exact ⟨a0, cap, xs, h1, h2.mono hA, h3⟩
theorem IsCs.at {α : Type} {f : α → List Dt} {k : Nat} (hf : ∀ x, (f x).length = k) {A : Nat → Prop} {w : World} : ∀ (l : List α) (i : Nat) (t : α) (xs : List Value), IsCs A w (l.flatMap f) xs → l[i]? = some t → ∃ cs, IsCs A w (f t) cs ∧ ∀ j x, cs[j]? = some x → xs[i * k + j]? = some x
  | [], i, t, xs, _, h => by simp at h
  | y :: r, 0, t, xs, hc, h => by
    simp at h
    subst h
    rw [List.flatMap_cons] at hc
    obtain ⟨a, b, rfl, h1, h2⟩ := hc.split
    refine ⟨a, h1, fun j x hx => ?_⟩
    rw [Nat.zero_mul, Nat.zero_add, List.getElem?_append_left (List.getElem?_eq_some_iff.1 hx).1]
    exact hx
  | y :: r, i + 1, t, xs, hc, h => by
    rw [List.flatMap_cons] at hc
    obtain ⟨a, b, rfl, h1, h2⟩ := hc.split
    obtain ⟨cs, h3, h4⟩ := IsCs.at hf r i t b h2 (by simpa using h)
    refine ⟨cs, h3, fun j x hx => ?_⟩
    have hl : a.length = k := by rw [IsCs.length _ _ h1, hf]
    rw [List.getElem?_append_right (by rw [hl, Nat.succ_mul]; omega), hl, show (i + 1) * k + j - k = i * k + j by rw [Nat.succ_mul]; omega]
    exact h4 j x hx
theorem encTs_flat (e : TypeId) : ∀ l, encTs e l = l.flatMap (encT e)
  | [] => by rw [encTs]; rfl
  | t :: r => by rw [encTs, encTs_flat e r]; rfl
theorem encEs_flat (e f : TypeId) : ∀ l, encEs e f l = l.flatMap (encE e f)
  | [] => by rw [encEs]; rfl
  | t :: r => by rw [encEs, encEs_flat e f r]; rfl
theorem flat_length {α : Type} {f : α → List Dt} {k : Nat} (hf : ∀ x, (f x).length = k) : ∀ l : List α, (l.flatMap f).length = l.length * k
  | [] => by simp
  | x :: r => by rw [List.flatMap_cons, List.length_append, flat_length hf r, hf, List.length_cons, Nat.succ_mul]; omega
theorem Sub.at {α : Type} {f : α → List Dt} {k : Nat} (hf : ∀ x, (f x).length = k) {A : Nat → Prop} {w : World} {l : List α} {a0 : Option Addr} {n cap : Nat} (h : Sub A w (l.flatMap f) n (.slice a0 n cap)) {i : Nat} {t : α} (hi : l[i]? = some t) (hn : n ≠ 0) :
    ∃ g o cs, a0 = some ⟨g, o, none⟩ ∧ g < w.heap.size ∧ IsCs A w (f t) cs ∧ ∀ j x, cs[j]? = some x → w.cell? ⟨g, o + i * k + j, none⟩ = some x := by
  obtain ⟨b0, c2, xs, h1, h2, h3⟩ := h
  cases h1
  obtain ⟨g, o, e1, e2, e3⟩ := h3 hn
  obtain ⟨cs, e4, e5⟩ := IsCs.at hf l i t xs h2 hi
  exact ⟨g, o, cs, e1, e2, e4, fun j x hx => by rw [Nat.add_assoc]; exact e3 _ x (e5 j x hx)⟩
theorem Sub.take {α : Type} {f : α → List Dt} {A : Nat → Prop} {w : World} {l : List α} {a0 : Option Addr} {n cap : Nat} (h : Sub A w (l.flatMap f) n (.slice a0 n cap)) (j : Nat) (hj : j ≤ n) : Sub A w ((l.take j).flatMap f) j (.slice a0 j cap) := by
  obtain ⟨b0, c2, xs, h1, h2, h3⟩ := h
  cases h1
  rw [← List.take_append_drop j l, List.flatMap_append] at h2
  obtain ⟨a, b, rfl, e1, e2⟩ := h2.split
  refine ⟨_, _, a, rfl, e1, fun hn => ?_⟩
  obtain ⟨g, o, e3, e4, e5⟩ := h3 (by omega)
  exact ⟨g, o, e3, e4, fun i x hx => e5 i x (by rw [List.getElem?_append_left (List.getElem?_eq_some_iff.1 hx).1]; exact hx)⟩
theorem Sub.drop {α : Type} {f : α → List Dt} {k : Nat} (hf : ∀ x, (f x).length = k) {A : Nat → Prop} {w : World} {l : List α} {g o n cap : Nat} (h : Sub A w (l.flatMap f) n (.slice (some ⟨g, o, none⟩) n cap)) (j : Nat) (hj : j ≤ l.length) (m : Nat) (cap' : Nat) (hm : m ≠ 0 → n ≠ 0) : Sub A w ((l.drop j).flatMap f) m (.slice (some ⟨g, o + j * k, none⟩) m cap') := by
  obtain ⟨b0, c2, xs, h1, h2, h3⟩ := h
  cases h1
  rw [← List.take_append_drop j l, List.flatMap_append] at h2
  obtain ⟨a, b, rfl, e1, e2⟩ := h2.split
  refine ⟨_, _, b, rfl, e2, fun hn => ?_⟩
  obtain ⟨g', o', e3, e4, e5⟩ := h3 (hm hn)
  cases e3
  have hl : a.length = j * k := by rw [IsCs.length _ _ e1, flat_length hf, List.length_take, Nat.min_eq_left hj]
  refine ⟨g, o + j * k, rfl, e4, fun i x hx => ?_⟩
  rw [Nat.add_assoc]
  exact e5 _ x (by rw [List.getElem?_append_right (by omega), hl, Nat.add_sub_cancel_left]; exact hx)
end Go.Proofs.YtijnjoonbjdafaaGreatDoor

/-
  A caller's view of Lex: its two lists as rows of triples; the pieces by reckoning.
-/
import Derived.Test.YthpoffklhpbdoaaGreatDoorLex
namespace Go.Proofs.YthpoffklhpbdoaaGreatDoor
set_option maxRecDepth 20000
open Go.RowKit Go.Shelf

abbrev Tri : Type := Value × Value × Value
def Tri.cells (x : Tri) : List Value := [x.1, x.2.1, x.2.2]
def Tk.tri (t : Tk) : Tri := (.int .i64 t.k, .int .i64 t.a, .string ⟨t.t.toArray⟩)
def Dg.tri (t : Dg) : Tri := (.int .i64 t.a, .int .i64 t.d, .string ⟨#[]⟩)

theorem tri_get : ∀ (L : List Tri) (i : Nat) (x : Tri), L[i]? = some x → (L.flatMap Tri.cells)[3 * i]? = some x.1 ∧ (L.flatMap Tri.cells)[3 * i + 1]? = some x.2.1 ∧ (L.flatMap Tri.cells)[3 * i + 2]? = some x.2.2
  | [], i, x, h => by simp at h
  | y :: r, 0, x, h => by
    simp at h
    subst h
    simp [Tri.cells]
  | y :: r, i + 1, x, h => by
    have ih := tri_get r i x (by simpa using h)
    have e : ∀ k, ((y :: r).flatMap Tri.cells)[3 * (i + 1) + k]? = (r.flatMap Tri.cells)[3 * i + k]? := by
      intro k
      rw [List.flatMap_cons, List.getElem?_append_right (by simp [Tri.cells]; omega)]
      congr 1
      simp [Tri.cells]
      omega
    exact ⟨(e 0).trans ih.1, (e 1).trans ih.2.1, (e 2).trans ih.2.2⟩

theorem tk_flat (l : List Tk) : tkCells l = (l.map Tk.tri).flatMap Tri.cells := by
  induction l with
  | nil => rfl
  | cons x r ih => simp only [tkCells, List.flatMap_cons, List.map_cons] at ih ⊢; rw [ih]; rfl
theorem dg_flat (l : List Dg) : dgCells l = (l.map Dg.tri).flatMap Tri.cells := by
  induction l with
  | nil => rfl
  | cons x r ih => simp only [dgCells, List.flatMap_cons, List.map_cons] at ih ⊢; rw [ih]; rfl

/-- A list of triples that lies at an address, a cell behind the other. -/
def Tris (W : World) (a0 : Option Addr) (L : List Tri) : Prop :=
  ∀ i x, L[i]? = some x → ∃ g o, a0 = some ⟨g, o, none⟩ ∧ g < W.heap.size ∧ W.cell? ⟨g, o + 3 * i, none⟩ = some x.1 ∧ W.cell? ⟨g, o + 3 * i + 1, none⟩ = some x.2.1 ∧ W.cell? ⟨g, o + 3 * i + 2, none⟩ = some x.2.2

theorem Tris.below {W W' : World} {a0 : Option Addr} {L : List Tri} (h : Tris W a0 L) (hb : Below W.heap.size W W') : Tris W' a0 L := by
  intro i x hx
  obtain ⟨g, o, h1, h2, h3, h4, h5⟩ := h i x hx
  exact ⟨g, o, h1, Nat.lt_of_lt_of_le h2 hb.size, (hb.cell (p := ⟨g, _, none⟩) h2).trans h3, (hb.cell (p := ⟨g, _, none⟩) h2).trans h4, (hb.cell (p := ⟨g, _, none⟩) h2).trans h5⟩

theorem Tris.nil (W : World) (a0 : Option Addr) : Tris W a0 [] := fun i x h => by simp at h

/-- What is behind the first few. -/
theorem Tris.drop {W : World} {g o : Nat} {L : List Tri} (h : Tris W (some ⟨g, o, none⟩) L) (k : Nat) : Tris W (some ⟨g, o + 3 * k, none⟩) (L.drop k) := by
  intro i x hx
  rw [List.getElem?_drop] at hx
  obtain ⟨g', o', h1, h2, h3, h4, h5⟩ := h (k + i) x hx
  cases h1
  refine ⟨g, o + 3 * k, rfl, h2, ?_, ?_, ?_⟩
  · rw [show o + 3 * k + 3 * i = o + 3 * (k + i) by omega]; exact h3
  · rw [show o + 3 * k + 3 * i + 1 = o + 3 * (k + i) + 1 by omega]; exact h4
  · rw [show o + 3 * k + 3 * i + 2 = o + 3 * (k + i) + 2 by omega]; exact h5
theorem Tris.take {W : World} {a0 : Option Addr} {L : List Tri} (h : Tris W a0 L) (k : Nat) : Tris W a0 (L.take k) := by
  intro i x hx
  rw [List.getElem?_take] at hx
  split at hx
  · exact h i x hx
  · cases hx

/-- The row, as a caller sees it. -/
theorem tris_of {W : World} {base : Nat} {e : TypeId} {v : Value} {n : Nat} {L : List Tri} (h : W.ownsRow base e 3 v n (L.flatMap Tri.cells)) (hn : n = L.length) :
    ∃ a0 cap, v = .slice a0 L.length cap ∧ L.length ≤ cap ∧ cap ≤ maxLen ∧ (a0 = none → L = [] ∧ cap = 0) ∧ (∀ a, a0 = some a → ∃ g, a = ⟨g, 0, none⟩ ∧ g < W.heap.size) ∧ Tris W a0 L := by
  subst hn
  rcases h.2 with ⟨hv, hn⟩ | ⟨g, cap, cur, hv, hb, hg, hc, hm, hs, ht⟩
  · have hL : L = [] := List.eq_nil_of_length_eq_zero hn
    subst hL
    exact ⟨none, 0, hv, Nat.le_refl _, Nat.zero_le _, fun _ => ⟨rfl, rfl⟩, (fun a h => by cases h), Tris.nil _ _⟩
  · refine ⟨some ⟨g, 0, none⟩, cap, hv, hc, hm, (fun h => by cases h), (fun a h => by cases h; exact ⟨g, rfl, (Array.getElem?_eq_some_iff.1 hg).1⟩), fun i x hx => ?_⟩
    obtain ⟨h1, h2, h3⟩ := tri_get L i x hx
    have hc : ∀ j y, (L.flatMap Tri.cells)[j]? = some y → W.cell? ⟨g, j, none⟩ = some y := by
      intro j y hy
      have := h.cells (g := g) (by rw [hv]; rfl) j y hy
      rw [add_zero] at this
      exact this
    refine ⟨g, 0, rfl, (Array.getElem?_eq_some_iff.1 hg).1, ?_, ?_, ?_⟩
    · rw [Nat.zero_add]; exact hc _ _ h1
    · rw [Nat.zero_add]; exact hc _ _ h2
    · rw [Nat.zero_add]; exact hc _ _ h3

/-- All tokens of a source, the end last; what is told. -/
def toks (l : Bs) : List Tk := toksOf (pieces 0 l) ++ [⟨6, l.length, []⟩]
def told (l : Bs) : List Dg := toldOf (pieces 0 l)

theorem toks_pos (l : Bs) : 0 < (toks l).length := by simp [toks]

/-- A slice of triples, as a caller sees it. -/
structure Sl (W : World) (a0 : Option Addr) (cap : Nat) (L : List Tri) : Prop where
  hcap : L.length ≤ cap
  hmax : cap ≤ maxLen
  hnone : a0 = none → L = [] ∧ cap = 0
  hsome : ∀ a, a0 = some a → ∃ g, a = ⟨g, 0, none⟩ ∧ g < W.heap.size
  tris : Tris W a0 L

theorem Sl.below {W W' : World} {a0 : Option Addr} {cap : Nat} {L : List Tri} (h : Sl W a0 cap L) (hb : Below W.heap.size W W') : Sl W' a0 cap L :=
  ⟨h.hcap, h.hmax, h.hnone, (fun a ha => by obtain ⟨g, h1, h2⟩ := h.hsome a ha; exact ⟨g, h1, Nat.lt_of_lt_of_le h2 hb.size⟩), h.tris.below hb⟩

theorem lex_is (s : ByteArray) (hs : s.size ≤ 1000000) (w : World) :
    Calls Tryz.prog 72 #[.string s] w fun e W' => ∃ a0 c0 a1 c1, e = .returned (.tuple #[.slice a0 (toks s.data.toList).length c0, .slice a1 (told s.data.toList).length c1]) ∧
      Sl W' a0 c0 ((toks s.data.toList).map Tk.tri) ∧ Sl W' a1 c1 ((told s.data.toList).map Dg.tri) ∧ Below w.heap.size w W' := by
  refine (lex_any s hs w).mono ?_
  rintro e W' ⟨v, u, rfl, h1, h2, h3⟩
  rw [tk_flat] at h1
  rw [dg_flat] at h2
  obtain ⟨a0, c0, rfl, p1, p2, p3, p4, p5⟩ := tris_of h1 (by simp)
  obtain ⟨a1, c1, rfl, q1, q2, q3, q4, q5⟩ := tris_of h2 (by simp)
  rw [Lib.size_eq] at p1 p3 p5
  refine ⟨a0, c0, a1, c1, ?_, ⟨p1, p2, p3, p4, p5⟩, ⟨q1, q2, q3, q4, q5⟩, h3⟩
  simp only [List.length_map, toks, told, Lib.size_eq]

/-! The pieces by reckoning. -/
def pcsF : Nat → Nat → Bs → List Pc
  | 0, _, _ => []
  | _ + 1, _, [] => []
  | f + 1, a, c :: r => ⟨a, stepOf (c :: r)⟩ :: pcsF f (a + (stepOf (c :: r)).n) ((c :: r).drop (stepOf (c :: r)).n)
theorem pcs_eqF : ∀ (f a : Nat) (l : Bs), l.length ≤ f → pcs a l = pcsF f a l
  | 0, a, l, h => by
    have : l = [] := List.eq_nil_of_length_eq_zero (by omega)
    subst this
    simp [pcs_nil, pcsF]
  | f + 1, a, [], h => by simp [pcs_nil, pcsF]
  | f + 1, a, c :: r, h => by
    have hn := stepOf_n (c :: r) (by simp)
    rw [pcs_cons a (c :: r) (by simp), pcsF, pcs_eqF f _ _ (by rw [List.length_drop]; omega)]

def toksF (l : Bs) : List (Nat × Nat × Bs) := (toksOf ((pcsF l.length 0 l).filter Pc.isPiece) ++ [(⟨6, l.length, []⟩ : Tk)]).map (fun t : Tk => (t.k, t.a, t.t))
theorem toks_eqF (l : Bs) : (toks l).map (fun t => (t.k, t.a, t.t)) = toksF l := by
  rw [toks, toksF, pieces, pcs_eqF _ 0 l (Nat.le_refl _)]
def toldF (l : Bs) : List (Nat × Nat) := (toldOf ((pcsF l.length 0 l).filter Pc.isPiece)).map (fun t : Dg => (t.a, t.d))
theorem told_eqF (l : Bs) : (told l).map (fun t => (t.a, t.d)) = toldF l := by
  rw [told, toldF, pieces, pcs_eqF _ 0 l (Nat.le_refl _)]

end Go.Proofs.YthpoffklhpbdoaaGreatDoor

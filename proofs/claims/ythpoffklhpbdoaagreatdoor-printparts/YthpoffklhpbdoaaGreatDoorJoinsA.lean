/-
  Places of what is told; places play no part in what is alike; what is told, in memory. No walk.
-/
import Derived.Test.YthpoffklhpbdoaaGreatDoorSmX
namespace Go.Proofs.YthpoffklhpbdoaaGreatDoor
open Go.RowKit Go.Shelf

mutual
theorem pl_pl (φ : Nat → Nat) : ∀ x : PE, PE.pl (fun _ => 0) (PE.pl φ x) = PE.pl (fun _ => 0) x
  | .mk k a n m ns l ts => by rw [PE.pl, PE.pl, PE.pl, pls_pls φ l]
theorem pls_pls (φ : Nat → Nat) : ∀ l : List PE, PE.pls (fun _ => 0) (PE.pls φ l) = PE.pls (fun _ => 0) l
  | [] => by rw [PE.pls]
  | x :: r => by rw [PE.pls, PE.pls, PE.pls, pl_pl φ x, pls_pls φ r]
end
theorem eqD_pl (φ : Nat → Nat) (l : List PD) : EqD false (l.map (PD.pl φ)) l := by
  refine ⟨?_, fun h => by cases h⟩
  rw [List.map_map]
  refine List.map_congr_left fun d _ => ?_
  simp only [Function.comp, PD.pl, pls_pls]
theorem szDs_pl (φ : Nat → Nat) (l : List PD) : szDs (l.map (PD.pl φ)) = szDs l := by
  unfold szDs
  rw [List.map_map]
  congr 1
  refine List.map_congr_left fun d _ => ?_
  simp only [Function.comp, szD, PD.pl, szEs_pl]

theorem pieces_at : ∀ (N a : Nat) (l : Bs), l.length ≤ N → ∀ x ∈ pieces a l, x.at_ ≤ a + l.length
  | N, a, [], _ => by simp [pieces_nil]
  | 0, a, c :: r, h => by simp at h
  | N + 1, a, c :: r, h => by
    have hn := stepOf_n (c :: r) (by simp)
    have ih := pieces_at N (a + (stepOf (c :: r)).n) ((c :: r).drop (stepOf (c :: r)).n) (by rw [List.length_drop]; omega)
    rw [List.length_drop] at ih
    by_cases hp : (stepOf (c :: r)).k ≠ 0 ∨ (stepOf (c :: r)).d ≠ 0
    · rw [pieces_piece a (c :: r) (by simp) hp]
      intro x hx
      rcases List.mem_cons.1 hx with rfl | hx
      · simp
      · have := ih x hx
        omega
    · rw [pieces_gap a (c :: r) (by simp) (by omega) (by omega)]
      intro x hx
      have := ih x hx
      omega
theorem toks_at (l : Bs) : ∀ t ∈ toks l, t.a ≤ l.length := by
  intro t ht
  rw [toks_tk] at ht
  rcases List.mem_append.1 ht with ht | ht
  · simp only [tk, toksOf] at ht
    obtain ⟨x, hx, he⟩ := List.mem_filterMap.1 ht
    have := pieces_at l.length 0 l (Nat.le_refl _) x hx
    split at he
    · cases he
    · cases he
      simpa using this
  · simp only [List.mem_singleton] at ht
    subst ht
    exact Nat.le_refl _
theorem dns_at (l : Bs) : ∀ d ∈ dns l, d.a ≤ l.length := by
  intro d hd
  simp only [dns, told, toldOf] at hd
  obtain ⟨y, hy, rfl⟩ := List.mem_map.1 hd
  obtain ⟨x, hx, he⟩ := List.mem_filterMap.1 hy
  have := pieces_at l.length 0 l (Nat.le_refl _) x hx
  split at he
  · cases he
  · cases he
    simpa using this
/-- What is told has places within the source. -/
theorem all_at (l : Bs) : ∀ d ∈ (parseAll l).2, d.a ≤ l.length := by
  intro d hd
  rcases List.mem_append.1 hd with hd | hd
  · exact dns_at l d hd
  · have hE : En (toks l) := ⟨⟨6, l.length, []⟩, by rw [toks_tk]; simp, rfl⟩
    have h := parse_pl (φ := fun z => min z l.length) (toks l).length (toks l) hE
    have e : (toks l).map (Tk.pl fun z => min z l.length) = toks l := by
      conv => rhs; rw [← List.map_id (toks l)]
      refine List.map_congr_left fun t ht => ?_
      have := toks_at l t ht
      simp only [Tk.pl, id]
      rw [Nat.min_eq_left this]
    rw [e] at h
    have h2 := congrArg Prod.snd h
    simp only at h2
    rw [h2] at hd
    obtain ⟨y, _, rfl⟩ := List.mem_map.1 hd
    exact Nat.min_le_right _ _

theorem dn_get : ∀ (L : List Dn) (i : Nat) (x : Dn), L[i]? = some x → (dnCells L)[i * 3]? = some (.int .i64 (x.a : Nat)) ∧ (dnCells L)[i * 3 + 1]? = some (.int .i64 (x.d : Nat)) ∧ (dnCells L)[i * 3 + 2]? = some (.string ⟨x.n.toArray⟩)
  | [], i, x, h => by simp at h
  | y :: r, 0, x, h => by
    simp at h
    subst h
    simp [dnCells, Dn.cells]
  | y :: r, i + 1, x, h => by
    have ih := dn_get r i x (by simpa using h)
    have e : ∀ k, (dnCells (y :: r))[(i + 1) * 3 + k]? = (dnCells r)[i * 3 + k]? := by
      intro k
      rw [dnCells, List.flatMap_cons, List.getElem?_append_right (by simp [Dn.cells]; omega)]
      congr 1
      simp [Dn.cells]
      omega
    exact ⟨(e 0).trans ih.1, (e 1).trans ih.2.1, (e 2).trans ih.2.2⟩
theorem row_dn {w : World} {base : Nat} {a0 : Option Addr} {n c : Nat} {l : List Dn} {i : Nat} {x : Dn} (h : w.ownsRow base 113 3 (.slice a0 n c) n (dnCells l)) (hn : n = l.length) (hi : l[i]? = some x) :
    ∃ g, a0 = some ⟨g, 0, none⟩ ∧ g < w.heap.size ∧ w.cell? ⟨g, i * 3, none⟩ = some (.int .i64 (x.a : Nat)) ∧ w.cell? ⟨g, i * 3 + 1, none⟩ = some (.int .i64 (x.d : Nat)) ∧ w.cell? ⟨g, i * 3 + 2, none⟩ = some (.string ⟨x.n.toArray⟩) := by
  have hlt := (List.getElem?_eq_some_iff.1 hi).1
  obtain ⟨h0, h1, h2⟩ := dn_get l i x hi
  rcases h.2 with ⟨hv, e⟩ | ⟨g, cap, cur, hv, hb, hg, rest⟩
  · omega
  · cases hv
    refine ⟨g, rfl, (Array.getElem?_eq_some_iff.1 hg).1, ?_, ?_, ?_⟩
    · rw [h.cellAt (i * 3) (by omega)]; exact h0
    · rw [h.cellAt (i * 3 + 1) (by omega)]; exact h1
    · rw [h.cellAt (i * 3 + 2) (by omega)]; exact h2
end Go.Proofs.YthpoffklhpbdoaaGreatDoor

/-
  What is so of all tokens of a source: how many, how long, the digits of numbers; the end is last. No walk.
-/
import Derived.Test.YtijnjoonbjdafaaGreatDoorExC
namespace Go.Proofs.YtijnjoonbjdafaaGreatDoor
theorem pcs_all {Q : Step → Prop} (hQ : ∀ l : Bs, l ≠ [] → Q (stepOf l)) : ∀ (N a : Nat) (l : Bs), l.length ≤ N → ∀ x ∈ pcs a l, Q x.s
  | 0, a, l, h, x, hx => by
    obtain rfl : l = [] := List.eq_nil_of_length_eq_zero (by omega)
    rw [pcs_nil] at hx
    cases hx
  | N + 1, a, l, h, x, hx => by
    by_cases hl : l = []
    · subst hl; rw [pcs_nil] at hx; cases hx
    · rw [pcs_cons a l hl] at hx
      rcases List.mem_cons.1 hx with rfl | hx
      · exact hQ l hl
      · have := stepOf_n l hl
        exact pcs_all hQ N _ _ (by rw [List.length_drop]; omega) x hx
theorem pcs_length : ∀ (N a : Nat) (l : Bs), l.length ≤ N → (pcs a l).length ≤ l.length
  | 0, a, l, h => by
    obtain rfl : l = [] := List.eq_nil_of_length_eq_zero (by omega)
    rw [pcs_nil]; exact Nat.le_refl _
  | N + 1, a, l, h => by
    by_cases hl : l = []
    · subst hl; rw [pcs_nil]; exact Nat.le_refl _
    · rw [pcs_cons a l hl]
      have h1 := stepOf_n l hl
      have := pcs_length N (a + (stepOf l).n) (l.drop (stepOf l).n) (by rw [List.length_drop]; omega)
      rw [List.length_drop] at this
      simp only [List.length_cons]
      omega
def TokQ (s : Step) : Prop := s.k ≤ 5 ∧ (s.k = 3 → NumT s.t) ∧ (s.d ≠ 0 → s.k = 0 ∨ s.k = 3)
theorem span_digits : ∀ (l : Bs) (c : UInt8), c ∈ l.take (spanLen isDig l) → 48 ≤ c.toNat ∧ c.toNat ≤ 57 := by
  intro l c hc
  obtain ⟨i, hi, rfl⟩ := List.getElem_of_mem hc
  have h1 : i < spanLen isDig l := by rw [List.length_take] at hi; omega
  obtain ⟨c, hc, hp⟩ := spanLen_all isDig l i h1
  have h2 : i < l.length := by rw [List.length_take] at hi; omega
  rw [List.getElem_take]
  rw [List.getElem?_eq_getElem h2] at hc
  cases hc
  simpa [isDig] using hp
theorem step_tok : ∀ l : Bs, l ≠ [] → TokQ (stepOf l)
  | [], h => absurd rfl h
  | c :: r, _ => by
    simp only [stepOf]
    split
    · exact ⟨by simp, by simp, by simp⟩
    split
    · exact ⟨by simp, by simp, by simp⟩
    split
    · refine ⟨?_, fun h => ?_, by simp⟩
      · show wordKind _ ≤ 5
        unfold wordKind; split <;> simp
      · exfalso
        have h' : wordKind ((c :: r).take (spanLen isPart (c :: r))) = 3 := h
        unfold wordKind at h'
        split at h' <;> cases h'
    split
    next hd =>
      split
      · exact ⟨by simp, fun _ => ⟨by simp, by simp, by simp⟩, by simp⟩
      next hn =>
        refine ⟨by simp, fun _ => ⟨?_, ?_, span_digits (c :: r)⟩, by simp⟩
        · intro e
          have e0 : (c :: r).take (spanLen isDig (c :: r)) = [] := e
          have e1 : ((c :: r).take (spanLen isDig (c :: r))).length = 0 := by rw [e0]; rfl
          rw [List.length_take] at e1
          have := spanLen_pos r hd
          simp at e1
          omega
        · show ((c :: r).take (spanLen isDig (c :: r))).length ≤ 18
          rw [List.length_take]; omega
    split
    · split
      · exact ⟨by simp, by simp, by simp⟩
      · exact ⟨by simp, by simp, by simp⟩
    split
    · exact ⟨by simp, by simp, by simp⟩
    split
    · exact ⟨by simp, by simp, by simp⟩
    · exact ⟨by simp, by simp, by simp⟩
theorem toks_mem {l : Bs} {t : Tk} (h : t ∈ toks l) : t = ⟨6, l.length, []⟩ ∨ ∃ x ∈ pcs 0 l, x.s.k ≠ 0 ∧ t = ⟨x.s.k, x.at_, x.s.t⟩ := by
  unfold toks at h
  rcases List.mem_append.1 h with h | h
  · right
    unfold toksOf at h
    obtain ⟨x, hx, hx2⟩ := List.mem_filterMap.1 h
    refine ⟨x, (List.mem_filter.1 hx).1, ?_⟩
    split at hx2
    · cases hx2
    next hk => cases hx2; exact ⟨hk, rfl⟩
  · left
    simpa using h
theorem toks_num (l : Bs) : ∀ t ∈ toks l, t.k = 3 → NumT t.t := by
  intro t ht hk
  rcases toks_mem ht with rfl | ⟨x, hx, -, rfl⟩
  · cases hk
  · exact (pcs_all step_tok l.length 0 l (Nat.le_refl _) x hx).2.1 hk
theorem toks_text (l : Bs) : ∀ t ∈ toks l, t.t.length ≤ l.length := by
  intro t ht
  rcases toks_mem ht with rfl | ⟨x, hx, -, rfl⟩
  · simp
  · exact pcs_t l.length 0 l (Nat.le_refl _) x hx
theorem toks_len (l : Bs) : (toks l).length ≤ l.length + 1 := by
  unfold toks
  rw [List.length_append]
  have h1 := toksOf_le (pieces 0 l)
  have h2 : (pieces 0 l).length ≤ (pcs 0 l).length := List.length_filter_le _ _
  have h3 := pcs_length l.length 0 l (Nat.le_refl _)
  simp only [List.length_cons, List.length_nil]
  omega
theorem told_len (l : Bs) : (told l).length ≤ l.length := by
  unfold told
  have h1 := toldOf_le (pieces 0 l)
  have h2 : (pieces 0 l).length ≤ (pcs 0 l).length := List.length_filter_le _ _
  have h3 := pcs_length l.length 0 l (Nat.le_refl _)
  omega
def dns (l : Bs) : List Dn := (told l).map fun d => ⟨d.a, d.d, []⟩
theorem dns_cells (l : List Dg) : dnCells (l.map fun d => ⟨d.a, d.d, []⟩) = dgCells l := by
  induction l with
  | nil => rfl
  | cons x r ih => simp only [dnCells, dgCells, List.map_cons, List.flatMap_cons] at ih ⊢; rw [ih]; rfl
end Go.Proofs.YtijnjoonbjdafaaGreatDoor

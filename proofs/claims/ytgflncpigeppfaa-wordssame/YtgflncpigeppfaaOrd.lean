/-
  Plain lists: the numbers that a table gives are in the order of first uses. No walk.
-/
import Derived.Test.YtgflncpigeppfaaTab
namespace Go.Proofs.Ytgflncpigeppfaa

def puts (L ss : List ByteArray) : List ByteArray := ss.foldl put L

theorem puts_snoc (L ss : List ByteArray) (s : ByteArray) : puts L (ss ++ [s]) = put (puts L ss) s := by simp [puts]

theorem puts_length (ss : List ByteArray) : ∀ L : List ByteArray, (puts L ss).length ≤ L.length + ss.length := by
  induction ss with
  | nil => intro L; simp [puts]
  | cons s r ih =>
    intro L
    have h1 := ih (put L s)
    have h2 := put_length L s
    simp only [puts, List.foldl_cons, List.length_cons] at h1 ⊢
    omega

theorem puts_take (ss : List ByteArray) (k : Nat) (s : ByteArray) (h : ss[k]? = some s) : puts [] (ss.take (k + 1)) = put (puts [] (ss.take k)) s := by
  obtain ⟨hk, rfl⟩ := List.getElem?_eq_some_iff.1 h
  rw [List.take_succ_eq_append_getElem hk, puts_snoc]

theorem num_get_of_mem {L : List ByteArray} {s : ByteArray} {j : Nat} (h : num L s = j + 1) : L[j]? = some s := by
  have := num_get L s (by omega)
  rw [h] at this
  simpa using this

/-- Each text that came has a number, and numbers come in the order of first uses. -/
structure InOrder (ss T : List ByteArray) : Prop where
  there : ∀ (i : Nat) (x : ByteArray), ss[i]? = some x → num T x ≠ 0
  first : ∀ (j : Nat) (x : ByteArray), T[j]? = some x → ∃ i : Nat, ss[i]? = some x ∧ num T x = j + 1 ∧ ∀ (i' : Nat) (x' : ByteArray), i' < i → ss[i']? = some x' → num T x' ≤ j

theorem InOrder.snoc {ss T : List ByteArray} (h : InOrder ss T) (s : ByteArray) : InOrder (ss ++ [s]) (put T s) := by
  have split : ∀ (i : Nat) (x : ByteArray), (ss ++ [s])[i]? = some x → (i < ss.length ∧ ss[i]? = some x) ∨ (i = ss.length ∧ x = s) := by
    intro i x hx
    by_cases hi : i < ss.length
    · rw [List.getElem?_append_left hi] at hx; exact .inl ⟨hi, hx⟩
    · rw [List.getElem?_append_right (by omega)] at hx
      by_cases h0 : i - ss.length = 0
      · rw [h0] at hx; simp at hx; exact .inr ⟨by omega, hx.symm⟩
      · obtain ⟨m, hm⟩ : ∃ m, i - ss.length = m + 1 := ⟨i - ss.length - 1, by omega⟩
        rw [hm] at hx; simp at hx
  have keep : ∀ (i : Nat) (x : ByteArray), ss[i]? = some x → num (put T s) x = num T x := fun i x hx => num_put_there T s x (h.there i x hx)
  constructor
  · intro i x hx
    rcases split i x hx with ⟨_, hx⟩ | ⟨_, rfl⟩
    · rw [keep i x hx]; exact h.there i x hx
    · rw [num_put]; split <;> omega
  · intro j x hx
    by_cases hnew : num T s = 0
    · have e : put T s = T ++ [s] := by simp [put, hnew]
      by_cases hj : j < T.length
      · rw [e, List.getElem?_append_left hj] at hx
        obtain ⟨i, h1, h2, h3⟩ := h.first j x hx
        have hi : i < ss.length := (List.getElem?_eq_some_iff.1 h1).1
        refine ⟨i, by rw [List.getElem?_append_left hi]; exact h1, by rw [keep i x h1]; exact h2, fun i' x' hi' hx' => ?_⟩
        rw [List.getElem?_append_left (by omega)] at hx'
        rw [keep i' x' hx']
        exact h3 i' x' hi' hx'
      · have hj' : j = T.length ∧ x = s := by
          rw [e, List.getElem?_append_right (by omega)] at hx
          by_cases h0 : j - T.length = 0
          · rw [h0] at hx; simp at hx; exact ⟨by omega, hx.symm⟩
          · obtain ⟨m, hm⟩ : ∃ m, j - T.length = m + 1 := ⟨j - T.length - 1, by omega⟩
            rw [hm] at hx; simp at hx
        obtain ⟨rfl, rfl⟩ := hj'
        refine ⟨ss.length, by simp, by rw [e]; exact num_snoc_same T x hnew, fun i' x' hi' hx' => ?_⟩
        rw [List.getElem?_append_left hi'] at hx'
        rw [keep i' x' hx']
        exact num_le T x'
    · have e : put T s = T := by simp [put, hnew]
      rw [e] at hx ⊢
      obtain ⟨i, h1, h2, h3⟩ := h.first j x hx
      have hi : i < ss.length := (List.getElem?_eq_some_iff.1 h1).1
      refine ⟨i, by rw [List.getElem?_append_left hi]; exact h1, h2, fun i' x' hi' hx' => ?_⟩
      rw [List.getElem?_append_left (by omega)] at hx'
      exact h3 i' x' hi' hx'

theorem InOrder.append {rest : List ByteArray} : ∀ {ss T : List ByteArray}, InOrder ss T → InOrder (ss ++ rest) (puts T rest) := by
  induction rest with
  | nil => intro ss T h; simpa [puts] using h
  | cons s r ih =>
    intro ss T h
    have := ih (h.snoc s)
    simpa [puts] using this

theorem ord_puts (ss : List ByteArray) : InOrder ss (puts [] ss) := by
  have h0 : InOrder [] [] := ⟨fun i x h => by simp at h, fun j x h => by simp at h⟩
  simpa using h0.append (rest := ss)

end Go.Proofs.Ytgflncpigeppfaa

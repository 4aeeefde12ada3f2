/-
  Going along the linked places, from the first one on and from the last one on. No walk.
-/
import Derived.Test.YthnmnohhhakjbaaPure
namespace Go.Proofs.Ythnmnohhhakjbaa
variable {K : Type}

/-- The places and the keys that are still to come. -/
def Tail (P : List (Pl K)) (ix : List Nat) (ks : List K) (j : Nat) (a : Int) : Prop :=
  (j = ix.length ∧ a = 0) ∨ ∃ (x : Nat) (k : K), ix[j]? = some x ∧ ks[j]? = some k ∧ a = x ∧ x ≠ 0 ∧ x < P.length ∧ keyAt P x = some k

theorem Inv.tail {P : List (Pl K)} {sp : Int} {ks : List K} {M : K → Nat} {ix fr : List Nat} (h : Inv P sp ks M ix fr) :
    (∃ a : Int, bhAt P 0 = some a ∧ Tail P ix ks 0 a) ∧ ∀ j x, ix[j]? = some x → ∃ a : Int, bhAt P x = some a ∧ Tail P ix ks (j + 1) a := by
  have hlt := Lnk_lt _ h.lnk
  have hdl : (0 :: (ix ++ [0])).dropLast = 0 :: ix := by rw [← List.cons_append, List.dropLast_concat]
  rw [hdl] at hlt
  have hmk : ∀ (j x : Nat), ix[j]? = some x → Tail P ix ks j (x : Nat) := by
    intro j x hx
    have hmem : x ∈ ix := List.mem_of_getElem? hx
    have hk : (ix.map (keyAt P))[j]? = some (keyAt P x) := by simp [hx]
    rw [h.keys] at hk
    simp only [List.getElem?_map, Option.map_eq_some_iff] at hk
    obtain ⟨k, hk1, hk2⟩ := hk
    refine .inr ⟨x, k, hx, hk1, rfl, ?_, hlt x (by simp [hmem]), hk2.symm⟩
    rintro rfl
    have := h.nd
    simp at this
    exact this.1.1 hmem
  have key : ∀ (A B : List Nat) (x : Nat), 0 :: ix = A ++ x :: B → ∃ a : Int, bhAt P x = some a ∧ Tail P ix ks A.length a := by
    intro A B x hAB
    have e : (0 :: (ix ++ [0])) = A ++ x :: (B ++ [0]) := by rw [← List.cons_append, hAB]; simp
    have hl := h.lnk
    rw [e, Lnk_split] at hl
    have hlen : ix.length = A.length + B.length := by have := congrArg List.length hAB; simp at this; omega
    cases B with
    | nil =>
      obtain ⟨h1, _⟩ := hl.2
      exact ⟨0, h1, .inl ⟨by simpa using hlen.symm, rfl⟩⟩
    | cons y r =>
      obtain ⟨h1, _⟩ := hl.2
      refine ⟨(y : Nat), h1, hmk _ _ ?_⟩
      cases A with
      | nil =>
        simp only [List.nil_append, List.cons.injEq] at hAB
        rw [hAB.2]; rfl
      | cons z A =>
        simp only [List.cons_append, List.cons.injEq] at hAB
        rw [hAB.2]
        simp
  refine ⟨key [] ix 0 rfl, fun j x hx => ?_⟩
  obtain ⟨hj, rfl⟩ := List.getElem?_eq_some_iff.1 hx
  have := key (0 :: ix.take j) (ix.drop (j + 1)) ix[j] (by simp [List.take_append_drop])
  simpa [Nat.min_eq_left (Nat.le_of_lt hj)] using this

/-- The same from the last one on. -/
theorem Inv.tailA {P : List (Pl K)} {sp : Int} {ks : List K} {M : K → Nat} {ix fr : List Nat} (h : Inv P sp ks M ix fr) :
    (∃ a : Int, ahAt P 0 = some a ∧ Tail P ix.reverse ks.reverse 0 a) ∧ ∀ j x, ix.reverse[j]? = some x → ∃ a : Int, ahAt P x = some a ∧ Tail P ix.reverse ks.reverse (j + 1) a := by
  have hlt := Lnk_lt _ h.lnk
  have hdl : (0 :: (ix ++ [0])).dropLast = 0 :: ix := by rw [← List.cons_append, List.dropLast_concat]
  rw [hdl] at hlt
  have hmk : ∀ (j x : Nat), ix.reverse[j]? = some x → Tail P ix.reverse ks.reverse j (x : Nat) := by
    intro j x hx
    have hmem : x ∈ ix := by have := List.mem_of_getElem? hx; simpa using this
    have hk : (ix.reverse.map (keyAt P))[j]? = some (keyAt P x) := by rw [List.getElem?_map, hx]; rfl
    rw [List.map_reverse, h.keys, ← List.map_reverse] at hk
    simp only [List.getElem?_map, Option.map_eq_some_iff] at hk
    obtain ⟨k, hk1, hk2⟩ := hk
    refine .inr ⟨x, k, hx, hk1, rfl, ?_, hlt x (by simp [hmem]), hk2.symm⟩
    rintro rfl
    have := h.nd
    simp at this
    exact this.1.1 hmem
  have key : ∀ (A B : List Nat) (x : Nat), ix ++ [0] = A ++ x :: B → ∃ a : Int, ahAt P x = some a ∧ Tail P ix.reverse ks.reverse B.length a := by
    intro A B x hAB
    have hlen : ix.length = A.length + B.length := by have := congrArg List.length hAB; simp at this; omega
    have hl := h.lnk
    rw [hAB] at hl
    rcases List.eq_nil_or_concat A with rfl | ⟨A', y, rfl⟩
    · obtain ⟨_, h1, _⟩ := hl
      exact ⟨0, h1, .inl ⟨by simpa using hlen.symm, rfl⟩⟩
    · have e : 0 :: (A' ++ [y] ++ x :: B) = (0 :: A') ++ y :: (x :: B) := by simp
      have hl' : Lnk P ((0 :: A') ++ y :: (x :: B)) := by rw [← e]; simpa using hl
      rw [Lnk_split] at hl'
      obtain ⟨_, _, h1, _⟩ := hl'
      refine ⟨(y : Nat), h1, hmk _ _ ?_⟩
      have hA : A'.length < ix.length := by simp at hlen; omega
      have hy : ix[A'.length]? = some y := by
        have : (ix ++ [0])[A'.length]? = some y := by rw [hAB]; simp
        rwa [List.getElem?_append_left hA] at this
      have hBl : B.length < ix.length := by simp at hlen; omega
      rw [List.getElem?_reverse hBl]
      rw [show ix.length - 1 - B.length = A'.length by simp at hlen; omega]
      exact hy
  refine ⟨key ix [] 0 rfl, fun j x hx => ?_⟩
  have hj : j < ix.length := by have := (List.getElem?_eq_some_iff.1 hx).1; simpa using this
  rw [List.getElem?_reverse hj] at hx
  obtain ⟨hj', rfl⟩ := List.getElem?_eq_some_iff.1 hx
  have := key (ix.take (ix.length - 1 - j)) (ix.drop (ix.length - 1 - j + 1) ++ [0]) ix[ix.length - 1 - j] (by
    rw [← List.cons_append, ← List.append_assoc]; simp [List.take_append_drop])
  have e : (ix.drop (ix.length - 1 - j + 1) ++ [0]).length = j + 1 := by simp; omega
  rwa [e] at this

end Go.Proofs.Ythnmnohhhakjbaa

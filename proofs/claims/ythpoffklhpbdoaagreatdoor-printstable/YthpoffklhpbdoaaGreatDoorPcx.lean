/-
  Any expression is printed.
-/
import Derived.Test.YthpoffklhpbdoaaGreatDoorPch
namespace Go.Proofs.YthpoffklhpbdoaaGreatDoor
set_option maxRecDepth 100000

theorem sq_le {a b : Nat} (h : a ≤ b) : a * a ≤ b * b := Nat.mul_le_mul h h
theorem sq_chain {M N x : Nat} (h : M + N ≤ x + 1) : M * M + N * M ≤ (x + 2) * (x + 2) := by
  have h1 : (M + N) * (M + N) ≤ (x + 2) * (x + 2) := sq_le (by omega)
  have h2 : (M + N) * (M + N) = M * M + M * N + (N * M + N * N) := by rw [Nat.add_mul, Nat.mul_add, Nat.mul_add]
  omega
theorem prE_02 (x : PE) : (prE 0 x).length ≤ (prE 2 x).length := by
  obtain ⟨k, a, n, m, ns, l, ts⟩ := x
  rw [prE_mk, prE_mk, markE, if_neg (Nat.not_lt_zero _), markE]
  split <;> simp
  omega
theorem lnk_max : ∀ ls : List PE, ls ≠ [] → ∃ M, (∀ y ∈ ls, (lnk y).length ≤ M) ∧ M + ls.length ≤ (ls.flatMap lnk).length + 1
  | [], h => absurd rfl h
  | [y], _ => ⟨(lnk y).length, by simp, by simp⟩
  | y :: z :: r, _ => by
    obtain ⟨M, h1, h2⟩ := lnk_max (z :: r) (by simp)
    have hz := lnks_ge (z :: r)
    have hy := lnk_pos y
    rcases Nat.le_total M (lnk y).length with h | h
    · refine ⟨(lnk y).length, fun u hu => ?_, ?_⟩
      · rcases List.mem_cons.1 hu with rfl | hu
        · exact Nat.le_refl _
        · exact Nat.le_trans (h1 u hu) h
      · rw [List.flatMap_cons, List.length_append, List.length_cons]; omega
    · refine ⟨M, fun u hu => ?_, ?_⟩
      · rcases List.mem_cons.1 hu with rfl | hu
        · exact h
        · exact h1 u hu
      · rw [List.flatMap_cons, List.length_append, List.length_cons]; omega

/-- What is so of an expression: with slack enough, it is printed. -/
def Qx (x : PE) : Prop := ∀ S : Nat, ((prE 0 x).length + 2) * ((prE 0 x).length + 2) ≤ S → ExOk S x

theorem qx_zero : Qx zPE := by
  intro S _
  refine ex_step 0 0 [] 0 [] [] [] (by decide) ?_ (fun hk => by omega)
  intro p _ hlen
  exact absurd hlen (by rw [show prE 0 (.mk 0 0 [] 0 [] [] []) = [] by rw [prE_mk]; rfl]; exact Nat.not_lt_zero _)
theorem qx_step {x : PE} (hx : NE x) (ih : ∀ y, SizeOf.sizeOf y < SizeOf.sizeOf x → NE y → Qx y) : Qx x := by
  intro S hS
  obtain ⟨ls, bb, hch⟩ := chn_ex x
  obtain ⟨k, a, n, m, ns, l, ts⟩ := x
  cases hx with
  | mk h1 h2 =>
    refine ex_step k a n m ns l ts h1 ?_ ?_
    · rintro p (hp | rfl) hlen
      · refine ih p ?_ (h2 p hp) S (Nat.le_trans (sq_le (by omega)) hS)
        have := List.sizeOf_lt_of_mem hp
        simp only [PE.mk.sizeOf_spec]
        omega
      · exact qx_zero S (Nat.le_trans (sq_le (by omega)) hS)
    · intro hk A cs
      have hzz : Qx zPE := qx_zero
      have hne : ls ≠ [] := by
        obtain ⟨r, e, -⟩ := chn_next hch hk
        rw [e]; simp
      obtain ⟨hb, hp⟩ := chn_all (Q := Qx) hch hzz (.mk h1 h2) ih hk
      obtain ⟨M, hM, hMN⟩ := lnk_max ls hne
      have ht := chn_text hch
      have hl : (prE 2 (.mk k a n m ns l ts)).length = (prE 2 bb).length + (ls.flatMap lnk).length := by
        rw [ht, List.length_append, rev_len]
      have h02 : (prE 0 (.mk k a n m ns l ts)).length = (prE 2 (.mk k a n m ns l ts)).length := by
        rw [prE_mk, prE_mk, markE, if_neg (Nat.not_lt_zero _), markE, if_neg]
        rcases hk with rfl | rfl <;> decide
      have hbl := prE_02 bb
      rw [h02] at hS
      refine chain_any (S' := M * M) (M := M) k a n m ns l ts ls bb hk hch (hb S (Nat.le_trans (sq_le (by omega)) hS)) ?_ hM ?_ ?_ A cs
      · intro y hy p hpp hlen
        have hm := hM y hy
        have hq : Qx p := by
          rcases hpp with hpp | rfl
          · obtain ⟨i, hi, rfl⟩ := List.getElem_of_mem hpp
            have := hp y hy i
            simpa [List.getElem?_eq_getElem hi] using this
          · exact hzz
        exact hq _ (sq_le (by omega))
      · exact Nat.le_trans (sq_chain (by omega)) hS
      · exact Nat.le_trans (sq_le (by omega)) hS
theorem qx_all : ∀ (N : Nat) (x : PE), SizeOf.sizeOf x ≤ N → NE x → Qx x
  | 0, x, h, hx => qx_step hx fun y hy _ => by omega
  | N + 1, x, h, hx => qx_step hx fun y hy hn => qx_all N y (by omega) hn
/-- Any expression is printed. -/
theorem ex_any {S : Nat} (x : PE) (hx : NE x) (hS : ((prE 0 x).length + 2) * ((prE 0 x).length + 2) ≤ S) : ExOk S x := qx_all _ x (Nat.le_refl _) hx S hS
end Go.Proofs.YthpoffklhpbdoaaGreatDoor

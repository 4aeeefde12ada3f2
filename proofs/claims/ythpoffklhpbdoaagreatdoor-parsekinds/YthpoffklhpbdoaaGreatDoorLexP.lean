/-
  What Lex's round turns: frames and rows. No walk.
-/
import Derived.Test.YthpoffklhpbdoaaGreatDoorIter
namespace Go.Proofs.YthpoffklhpbdoaaGreatDoor
set_option maxRecDepth 20000
open Go.RowKit Go.Shelf

/-- A token; what is told. -/
structure Tk where
  k : Nat
  a : Nat
  t : Bs
structure Dg where
  a : Nat
  d : Nat

def toksOf (l : List Pc) : List Tk := l.filterMap fun x => if x.s.k = 0 then none else some ⟨x.s.k, x.at_, x.s.t⟩
def toldOf (l : List Pc) : List Dg := l.filterMap fun x => if x.s.d = 0 then none else some ⟨x.at_, x.s.d⟩
def Tk.cells (t : Tk) : List Value := [.int .i64 t.k, .int .i64 t.a, .string ⟨t.t.toArray⟩]
def Dg.cells (t : Dg) : List Value := [.int .i64 t.a, .int .i64 t.d, .string ⟨#[]⟩]
def tkCells (l : List Tk) : List Value := l.flatMap Tk.cells
def dgCells (l : List Dg) : List Value := l.flatMap Dg.cells

theorem toksOf_snoc (l : List Pc) (x : Pc) : toksOf (l ++ [x]) = toksOf l ++ (if x.s.k = 0 then [] else [⟨x.s.k, x.at_, x.s.t⟩]) := by
  simp only [toksOf, List.filterMap_append, List.filterMap_cons, List.filterMap_nil]
  split <;> simp_all
theorem toldOf_snoc (l : List Pc) (x : Pc) : toldOf (l ++ [x]) = toldOf l ++ (if x.s.d = 0 then [] else [⟨x.at_, x.s.d⟩]) := by
  simp only [toldOf, List.filterMap_append, List.filterMap_cons, List.filterMap_nil]
  split <;> simp_all
theorem tkCells_snoc (l : List Tk) (t : Tk) : tkCells (l ++ [t]) = tkCells l ++ t.cells := by simp [tkCells]
theorem dgCells_snoc (l : List Dg) (t : Dg) : dgCells (l ++ [t]) = dgCells l ++ t.cells := by simp [dgCells]
theorem toksOf_le (l : List Pc) : (toksOf l).length ≤ l.length := List.length_filterMap_le _ _
theorem toldOf_le (l : List Pc) : (toldOf l).length ≤ l.length := List.length_filterMap_le _ _

/-- What Lex's round may turn: of what was there only its two slices and their rows, and these not below n₀. -/
structure Rd (n₀ : Nat) (W W' : World) : Prop where
  os : W'.os = W.os
  tape : W'.tape = W.tape
  output : W'.output = W.output
  size : W.heap.size ≤ W'.heap.size
  block : ∀ (k : Nat) (o : Obj), W.heap[k]? = some o → (k < n₀ ∨ ∀ c t fz, o = .cells c t fz → t ≠ 93 ∧ t ≠ 51 ∧ t ≠ 88 ∧ t ≠ 113) → W'.heap[k]? = some o

theorem Rd.refl (n₀ : Nat) (W : World) : Rd n₀ W W := ⟨rfl, rfl, rfl, Nat.le_refl _, fun _ _ h _ => h⟩
theorem Rd.trans {n₀ : Nat} {A B C : World} (h : Rd n₀ A B) (k : Rd n₀ B C) : Rd n₀ A C :=
  ⟨k.os.trans h.os, k.tape.trans h.tape, k.output.trans h.output, Nat.le_trans h.size k.size, fun i o hi hd => k.block i o (h.block i o hi hd) hd⟩
theorem Rd.of_below {n₀ : Nat} {W W' : World} (h : Below W.heap.size W W') : Rd n₀ W W' :=
  ⟨h.os, h.tape, h.output, h.size, fun k _ hk _ => (h.block k (Array.getElem?_eq_some_iff.1 hk).1).trans hk⟩
theorem Rd.alloc {n₀ : Nat} {w W : World} (h : Rd n₀ w W) (o : Obj) : Rd n₀ w (W.alloc o) := h.trans (Rd.of_below ((Below.refl _ _).alloc (Nat.le_refl _) _))
theorem Rd.below {n₀ : Nat} {w W W' : World} (h : Rd n₀ w W) (hb : Below W.heap.size W W') : Rd n₀ w W' := h.trans (Rd.of_below hb)
/-- A store into a block that was not there. -/
theorem Rd.setNew {n₀ : Nat} {w W : World} (h : Rd n₀ w W) {b i : Nat} (hb : w.heap.size ≤ b) (v : Value) : Rd n₀ w (W.setCell ⟨b, i, none⟩ v) :=
  ⟨h.os, h.tape, h.output, by simpa [World.setCell] using h.size, fun k o hk hd => (Below.heap_setCell W ⟨b, i, none⟩ v k (by have := (Array.getElem?_eq_some_iff.1 hk).1; simp; omega)).trans (h.block k o hk hd)⟩
/-- A store of what is there already. -/
theorem Rd.setSame {n₀ : Nat} {w W : World} (h : Rd n₀ w W) {b : Nat} {v0 v1 v2 v3 v4 : Value} (h5 : Five W b v0 v1 v2 v3 v4) : Rd n₀ w (W.setCell ⟨b, 2, none⟩ v2) :=
  ⟨h.os, h.tape, h.output, by simpa [World.setCell] using h.size, fun k o hk hd => by
    have hk' := h.block k o hk hd
    by_cases e : k = b
    · subst e
      have h6 : (W.setCell ⟨k, 2, none⟩ v2).heap[k]? = some (.cells #[v0, v1, v2, v3, v4] 149 (0, 0)) := heap_setCell_same W k 2 _ _ v2 h5
      rw [show W.heap[k]? = some (.cells #[v0, v1, v2, v3, v4] 149 (0, 0)) from h5] at hk'
      rw [h6, ← hk']
    · exact (Below.heap_setCell W ⟨b, 2, none⟩ v2 k e).trans hk'⟩
/-- A store into one of the two slices. -/
theorem Rd.setVar {n₀ : Nat} {w W : World} (h : Rd n₀ w W) {b i : Nat} {c : Array Value} {t : TypeId} {fz : Nat × Nat} (hb : w.heap[b]? = some (.cells c t fz)) (ht : t = 93 ∨ t = 51) (hn : n₀ ≤ b) (v : Value) : Rd n₀ w (W.setCell ⟨b, i, none⟩ v) :=
  ⟨h.os, h.tape, h.output, by simpa [World.setCell] using h.size, fun k o hk hd => (Below.heap_setCell W ⟨b, i, none⟩ v k (by
    intro e
    have e' : k = b := e
    subst e'
    rw [hb] at hk
    cases hk
    rcases hd with hd | hd
    · omega
    · have := hd c t fz rfl
      rcases ht with rfl | rfl
      · exact absurd rfl this.1
      · exact absurd rfl this.2.1)).trans (h.block k o hk hd)⟩
/-- A row of one of the two slices has grown. -/
theorem Rd.grown {n₀ : Nat} {w W W' : World} (h : Rd n₀ w W) {e : TypeId} {v : Value} {n : Nat} {xs : List Value} (hr : W.ownsRow n₀ e 3 v n xs) (ht : e = 88 ∨ e = 113) (hg : W.grownBy W' v.ownBlock) : Rd n₀ w W' := by
  refine ⟨hg.os.trans h.os, hg.tape.trans h.tape, hg.output.trans h.output, Nat.le_trans h.size hg.size, fun k o hk hd => ?_⟩
  have hk' := h.block k o hk hd
  refine (hg.block k (Array.getElem?_eq_some_iff.1 hk').1 ?_).trans hk'
  intro e1
  rcases hr.2 with ⟨rfl, _⟩ | ⟨g, cap, cur, rfl, hb, hgg, _⟩
  · cases e1
  · simp only [Value.ownBlock, Option.some.injEq] at e1
    subst e1
    rw [hgg] at hk'
    cases hk'
    rcases hd with hd | hd
    · omega
    · have := hd _ _ _ rfl
      rcases ht with rfl | rfl
      · exact absurd rfl this.2.2.1
      · exact absurd rfl this.2.2.2

theorem Rd.others {n₀ : Nat} {W W' : World} (h : Rd n₀ W W') : KeepsOthers W W' :=
  ⟨h.size, fun k o hk hc => h.block k o hk (.inr fun c t fz e => by subst e; simp [Obj.isCells] at hc)⟩
theorem Rd.belows {n₀ : Nat} {W W' : World} (h : Rd n₀ W W') (hn : n₀ ≤ W.heap.size) : Below n₀ W W' :=
  ⟨h.os, h.tape, h.output, h.size, fun k hk => by
    obtain ⟨o, ho⟩ : ∃ o, W.heap[k]? = some o := ⟨_, Array.getElem?_eq_getElem (by omega)⟩
    rw [ho]; exact h.block k o ho (.inl hk)⟩
theorem Rd.kc {n₀ : Nat} {W W' : World} (h : Rd n₀ W W') (hn : n₀ ≤ W.heap.size) : Kc n₀ W W' :=
  ⟨h.belows hn, fun k c t fz ht hk => h.block k _ hk (.inr fun c' t' fz' e => by cases e; rcases ht with rfl | rfl <;> decide)⟩

/-- The two slices and their rows. -/
structure St (B : Nat) (v : Value) (n : Nat) (xs : List Value) (u : Value) (m : Nat) (ys : List Value) (W : World) : Prop where
  c0 : W.heap[B]? = some (.cells #[v] 93 (0, 0))
  c1 : W.heap[B + 1]? = some (.cells #[u] 51 (0, 0))
  r0 : W.ownsRow B 88 3 v n xs
  r1 : W.ownsRow B 113 3 u m ys

theorem ownsRow_same {w w' : World} {base : Nat} {e : TypeId} {size : Nat} {v : Value} {n : Nat} {xs : List Value} (h : w.ownsRow base e size v n xs) (hk : ∀ (k : Nat) (c : Array Value), w.heap[k]? = some (.cells c e (0, 0)) → w'.heap[k]? = some (.cells c e (0, 0))) : w'.ownsRow base e size v n xs := by
  refine ⟨h.1, ?_⟩
  rcases h.2 with hn' | ⟨g, cap, cur, rfl, hb, hgg, rest⟩
  · exact .inl hn'
  · exact .inr ⟨g, cap, cur, rfl, hb, hk g cur hgg, rest⟩

theorem St.same {B : Nat} {v : Value} {n : Nat} {xs : List Value} {u : Value} {m : Nat} {ys : List Value} {W W' : World} (h : St B v n xs u m ys W)
    (hk : ∀ (k : Nat) (c : Array Value) (t : TypeId), t = 93 ∨ t = 51 ∨ t = 88 ∨ t = 113 → W.heap[k]? = some (.cells c t (0, 0)) → W'.heap[k]? = some (.cells c t (0, 0))) : St B v n xs u m ys W' :=
  ⟨hk _ _ _ (by simp) h.c0, hk _ _ _ (by simp) h.c1, ownsRow_same h.r0 (fun k c hc => hk k c 88 (by simp) hc), ownsRow_same h.r1 (fun k c hc => hk k c 113 (by simp) hc)⟩

theorem St.below {B : Nat} {v : Value} {n : Nat} {xs : List Value} {u : Value} {m : Nat} {ys : List Value} {W W' : World} (h : St B v n xs u m ys W) (hb : Below W.heap.size W W') : St B v n xs u m ys W' :=
  h.same fun k _ _ _ hk => (hb.block k (Array.getElem?_eq_some_iff.1 hk).1).trans hk
theorem St.alloc {B : Nat} {v : Value} {n : Nat} {xs : List Value} {u : Value} {m : Nat} {ys : List Value} {W : World} (h : St B v n xs u m ys W) (o : Obj) : St B v n xs u m ys (W.alloc o) :=
  h.below ((Below.refl _ _).alloc (Nat.le_refl _) _)
theorem St.setOther {B : Nat} {v : Value} {n : Nat} {xs : List Value} {u : Value} {m : Nat} {ys : List Value} {W : World} (h : St B v n xs u m ys W) {b i : Nat} {c : Array Value} (hb : W.heap[b]? = some (.cells c 149 (0, 0))) (x : Value) : St B v n xs u m ys (W.setCell ⟨b, i, none⟩ x) :=
  h.same fun k c' t ht hk => (Below.heap_setCell W ⟨b, i, none⟩ x k (by
    intro e
    have e' : k = b := e
    subst e'
    rw [hb] at hk
    cases hk
    simp at ht)).trans hk

/-- Behind an append to the first slice, ahead of its store. -/
theorem St.toks {B : Nat} {v v' : Value} {n : Nat} {xs : List Value} {u : Value} {m : Nat} {ys : List Value} {W W' : World} (h : St B v n xs u m ys W) {n' : Nat} {xs' : List Value} (hr : W'.ownsRow B 88 3 v' n' xs') (hg : W.grownBy W' v.ownBlock) :
    W'.heap[B]? = some (.cells #[v] 93 (0, 0)) ∧ St B v' n' xs' u m ys (W'.setCell ⟨B, 0, none⟩ v') := by
  have hne : ∀ (k : Nat) (c : Array Value) (t : TypeId), t ≠ 88 → W.heap[k]? = some (.cells c t (0, 0)) → W'.heap[k]? = some (.cells c t (0, 0)) := by
    intro k c t ht hk
    refine (hg.block k (Array.getElem?_eq_some_iff.1 hk).1 ?_).trans hk
    intro e
    rcases h.r0.2 with ⟨rfl, _⟩ | ⟨g, cap, cur, rfl, hb, hgg, _⟩
    · cases e
    · simp only [Value.ownBlock, Option.some.injEq] at e
      subst e
      rw [hgg] at hk
      cases hk
      exact ht rfl
  have h0 := hne _ _ _ (by decide) h.c0
  have hs : ∀ (k : Nat) (c : Array Value) (t : TypeId), t ≠ 93 → W'.heap[k]? = some (.cells c t (0, 0)) → (W'.setCell ⟨B, 0, none⟩ v').heap[k]? = some (.cells c t (0, 0)) := by
    intro k c t ht hk
    refine (Below.heap_setCell W' ⟨B, 0, none⟩ v' k ?_).trans hk
    intro e
    have e' : k = B := e
    subst e'
    rw [h0] at hk
    cases hk
    exact ht rfl
  refine ⟨h0, one_setCell h0, hs _ _ _ (by decide) (hne _ _ _ (by decide) h.c1), ownsRow_same hr (fun k c hc => hs k c 88 (by decide) hc), ownsRow_same h.r1 (fun k c hc => hs k c 113 (by decide) (hne k c 113 (by decide) hc))⟩

theorem St.told {B : Nat} {v u' : Value} {n : Nat} {xs : List Value} {u : Value} {m : Nat} {ys : List Value} {W W' : World} (h : St B v n xs u m ys W) {n' : Nat} {xs' : List Value} (hr : W'.ownsRow B 113 3 u' n' xs') (hg : W.grownBy W' u.ownBlock) :
    W'.heap[B + 1]? = some (.cells #[u] 51 (0, 0)) ∧ St B v n xs u' n' xs' (W'.setCell ⟨B + 1, 0, none⟩ u') := by
  have hne : ∀ (k : Nat) (c : Array Value) (t : TypeId), t ≠ 113 → W.heap[k]? = some (.cells c t (0, 0)) → W'.heap[k]? = some (.cells c t (0, 0)) := by
    intro k c t ht hk
    refine (hg.block k (Array.getElem?_eq_some_iff.1 hk).1 ?_).trans hk
    intro e
    rcases h.r1.2 with ⟨rfl, _⟩ | ⟨g, cap, cur, rfl, hb, hgg, _⟩
    · cases e
    · simp only [Value.ownBlock, Option.some.injEq] at e
      subst e
      rw [hgg] at hk
      cases hk
      exact ht rfl
  have h1 := hne _ _ _ (by decide) h.c1
  have hs : ∀ (k : Nat) (c : Array Value) (t : TypeId), t ≠ 51 → W'.heap[k]? = some (.cells c t (0, 0)) → (W'.setCell ⟨B + 1, 0, none⟩ u').heap[k]? = some (.cells c t (0, 0)) := by
    intro k c t ht hk
    refine (Below.heap_setCell W' ⟨B + 1, 0, none⟩ u' k ?_).trans hk
    intro e
    have e' : k = B + 1 := e
    subst e'
    rw [h1] at hk
    cases hk
    exact ht rfl
  refine ⟨h1, hs _ _ _ (by decide) (hne _ _ _ (by decide) h.c0), one_setCell h1, ownsRow_same h.r0 (fun k c hc => hs k c 88 (by decide) (hne k c 88 (by decide) hc)), ownsRow_same hr (fun k c hc => hs k c 113 (by decide) hc)⟩

/-- A block of cells that no append and no store into the two slices turns. -/
theorem five_grown {W W' : World} {b B : Nat} {e : TypeId} {v : Value} {n : Nat} {xs : List Value} {v0 v1 v2 v3 v4 : Value} (h : Five W b v0 v1 v2 v3 v4) (hr : W.ownsRow B e 3 v n xs) (he : e ≠ 149) (hg : W.grownBy W' v.ownBlock) : Five W' b v0 v1 v2 v3 v4 := by
  unfold Five at *
  refine (hg.block b (Array.getElem?_eq_some_iff.1 h).1 ?_).trans h
  intro e1
  rcases hr.2 with ⟨rfl, _⟩ | ⟨g, cap, cur, rfl, hb, hgg, _⟩
  · cases e1
  · simp only [Value.ownBlock, Option.some.injEq] at e1
    subst e1
    rw [hgg] at h
    cases h
    exact he rfl
theorem five_setVar {W : World} {b B i : Nat} {c : Array Value} {t : TypeId} {v0 v1 v2 v3 v4 : Value} (h : Five W b v0 v1 v2 v3 v4) (hB : W.heap[B]? = some (.cells c t (0, 0))) (ht : t ≠ 149) (x : Value) : Five (W.setCell ⟨B, i, none⟩ x) b v0 v1 v2 v3 v4 := by
  unfold Five at *
  refine (Below.heap_setCell W ⟨B, i, none⟩ x b ?_).trans h
  intro e
  have e' : b = B := e
  subst e'
  rw [hB] at h
  cases h
  exact ht rfl
theorem five_text {W : World} {b : Nat} {v0 v1 v2 v3 v4 : Value} (h : Five W b v0 v1 v2 v3 v4) (x : Value) : Five (W.setCell ⟨b, 2, none⟩ x) b v0 v1 x v3 v4 := heap_setCell_same W b 2 _ _ x h

end Go.Proofs.YthpoffklhpbdoaaGreatDoor

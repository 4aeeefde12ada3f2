/-
  Data with depth in memory (numbers, strings, slices of such in slices), what a reader may turn, and the reader's own state. No walk.
-/
import Derived.Test.YtijnjoonbjdafaaGreatDoorLxM
import Derived.Test.YtijnjoonbjdafaaGreatDoorGrM
namespace Go.Proofs.YtijnjoonbjdafaaGreatDoor
open Go.RowKit Go.Shelf
def stT (t : TypeId) : Bool := t == 153 || t == 112 || t == 92 || t == 192
inductive Dt where
  | num (n : Int)
  | str (s : Bs)
  | row (e : TypeId) (size n : Nat) (l : List Dt)
mutual
def IsC (A : Nat → Prop) (w : World) : Dt → Value → Prop
  | .num n, v => v = .int .i64 n
  | .str s, v => v = .string ⟨s.toArray⟩
  | .row e size n l, v => ∃ xs, stT e = false ∧ w.ownsRow 0 e size v n xs ∧ (∀ b, v.ownBlock = some b → A b) ∧ IsCs A w l xs
def IsCs (A : Nat → Prop) (w : World) : List Dt → List Value → Prop
  | [], xs => xs = []
  | d :: r, xs => ∃ x ys, xs = x :: ys ∧ IsC A w d x ∧ IsCs A w r ys
end
structure Fr (n₀ : Nat) (W W' : World) : Prop where
  os : W'.os = W.os
  tape : W'.tape = W.tape
  output : W'.output = W.output
  size : W.heap.size ≤ W'.heap.size
  block : ∀ (k : Nat) (o : Obj), W.heap[k]? = some o → (k < n₀ ∨ ∀ c t fz, o = .cells c t fz → stT t = false) → W'.heap[k]? = some o
theorem Fr.refl (n₀ : Nat) (W : World) : Fr n₀ W W := ⟨rfl, rfl, rfl, Nat.le_refl _, fun _ _ h _ => h⟩
theorem Fr.trans {n₀ : Nat} {A B C : World} (h : Fr n₀ A B) (k : Fr n₀ B C) : Fr n₀ A C :=
  ⟨k.os.trans h.os, k.tape.trans h.tape, k.output.trans h.output, Nat.le_trans h.size k.size, fun i o hi hd => k.block i o (h.block i o hi hd) hd⟩
theorem Fr.of_below {n₀ : Nat} {W W' : World} (h : Below W.heap.size W W') : Fr n₀ W W' :=
  ⟨h.os, h.tape, h.output, h.size, fun k _ hk _ => (h.block k (Array.getElem?_eq_some_iff.1 hk).1).trans hk⟩
theorem Fr.alloc {n₀ : Nat} {w W : World} (h : Fr n₀ w W) (o : Obj) : Fr n₀ w (W.alloc o) := h.trans (Fr.of_below ((Below.refl _ _).alloc (Nat.le_refl _) _))
theorem Fr.drew {n₀ : Nat} {w W : World} (h : Fr n₀ w W) : Fr n₀ w W.drew := ⟨h.os, h.tape, h.output, h.size, h.block⟩
theorem Fr.below {n₀ : Nat} {w W W' : World} (h : Fr n₀ w W) (hb : Below W.heap.size W W') : Fr n₀ w W' := h.trans (Fr.of_below hb)
theorem Fr.alike {n₀ : Nat} {w W W' : World} (h : Fr n₀ w W) (e : W'.heap = W.heap) (e1 : W'.os = W.os) (e2 : W'.tape = W.tape) (e3 : W'.output = W.output) : Fr n₀ w W' :=
  ⟨e1.trans h.os, e2.trans h.tape, e3.trans h.output, by rw [e]; exact h.size, fun k o hk hd => by rw [e]; exact h.block k o hk hd⟩
theorem Fr.setNew {n₀ : Nat} {w W : World} (h : Fr n₀ w W) {b i : Nat} (hb : w.heap.size ≤ b) (v : Value) : Fr n₀ w (W.setCell ⟨b, i, none⟩ v) :=
  ⟨h.os, h.tape, h.output, by simpa [World.setCell] using h.size, fun k o hk hd => (Below.heap_setCell W ⟨b, i, none⟩ v k (by have := (Array.getElem?_eq_some_iff.1 hk).1; simp; omega)).trans (h.block k o hk hd)⟩
theorem Fr.setOwn {n₀ : Nat} {w W : World} (h : Fr n₀ w W) {b i : Nat} {c : Array Value} {t : TypeId} {fz : Nat × Nat} (hb : W.heap[b]? = some (.cells c t fz)) (ht : stT t = true) (hn : n₀ ≤ b) (v : Value) : Fr n₀ w (W.setCell ⟨b, i, none⟩ v) :=
  ⟨h.os, h.tape, h.output, by simpa [World.setCell] using h.size, fun k o hk hd => by
    have hk' := h.block k o hk hd
    refine (Below.heap_setCell W ⟨b, i, none⟩ v k ?_).trans hk'
    intro e
    have e' : k = b := e
    subst e'
    rw [hb] at hk'
    cases hk'
    rcases hd with hd | hd
    · omega
    · rw [hd _ _ _ rfl] at ht; cases ht⟩
theorem Fr.grown {n₀ : Nat} {w W W' : World} (h : Fr n₀ w W) {e : TypeId} {sz : Nat} {v : Value} {n : Nat} {xs : List Value} (hr : W.ownsRow n₀ e sz v n xs) (ht : stT e = true ∨ ∀ b, v.ownBlock = some b → w.heap.size ≤ b) (hg : W.grownBy W' v.ownBlock) : Fr n₀ w W' := by
  refine ⟨hg.os.trans h.os, hg.tape.trans h.tape, hg.output.trans h.output, Nat.le_trans h.size hg.size, fun k o hk hd => ?_⟩
  have hk' := h.block k o hk hd
  refine (hg.block k (Array.getElem?_eq_some_iff.1 hk').1 ?_).trans hk'
  intro e1
  rcases hr.2 with ⟨rfl, _⟩ | ⟨g, cap, cur, rfl, hb, hgg, _⟩
  · cases e1
  · simp only [Value.ownBlock, Option.some.injEq] at e1
    subst e1
    rw [hgg] at hk'
    cases hk'
    rcases ht with ht | ht
    · rcases hd with hd | hd
      · omega
      · rw [hd _ _ _ rfl] at ht; cases ht
    · have := ht k rfl
      have := (Array.getElem?_eq_some_iff.1 hk).1
      omega
theorem Fr.belows {n₀ : Nat} {W W' : World} (h : Fr n₀ W W') (hn : n₀ ≤ W.heap.size) : Below n₀ W W' :=
  ⟨h.os, h.tape, h.output, h.size, fun k hk => by
    obtain ⟨o, ho⟩ : ∃ o, W.heap[k]? = some o := ⟨_, Array.getElem?_eq_getElem (by omega)⟩
    rw [ho]; exact h.block k o ho (.inl hk)⟩
theorem Fr.mono {n₀ n₁ : Nat} {W W' : World} (h : Fr n₀ W W') (hn : n₁ ≤ n₀) : Fr n₁ W W' :=
  ⟨h.os, h.tape, h.output, h.size, fun k o hk hd => h.block k o hk (hd.imp (fun h => by omega) id)⟩
theorem Fr.cells {n₀ : Nat} {W W' : World} (h : Fr n₀ W W') {b : Nat} {c : Array Value} {t : TypeId} {fz : Nat × Nat} (hb : W.heap[b]? = some (.cells c t fz)) (ht : stT t = false) : W'.heap[b]? = some (.cells c t fz) :=
  h.block b _ hb (.inr fun _ _ _ e => by cases e; exact ht)
theorem Fr.row {n₀ : Nat} {W W' : World} (h : Fr n₀ W W') {base : Nat} {e : TypeId} {size : Nat} {v : Value} {n : Nat} {xs : List Value} (hr : W.ownsRow base e size v n xs) (ht : stT e = false) : W'.ownsRow base e size v n xs := by
  refine ⟨hr.1, ?_⟩
  rcases hr.2 with hn | ⟨g, cap, cur, hv, hb, hg, rest⟩
  · exact .inl hn
  · exact .inr ⟨g, cap, cur, hv, hb, h.cells hg ht, rest⟩
theorem row_kept {S : Nat → Prop} {w w' : World} {base : Nat} {e : TypeId} {size : Nat} {v : Value} {n : Nat} {xs : List Value} (h : w.ownsRow base e size v n xs) (_hs : w.heap.size ≤ w'.heap.size) (k : ∀ i, i < w.heap.size → ¬ S i → w'.heap[i]? = w.heap[i]?) (hn : ∀ b, v.ownBlock = some b → ¬ S b) : w'.ownsRow base e size v n xs := by
  refine ⟨h.1, ?_⟩
  rcases h.2 with hn' | ⟨g, cap, cur, rfl, hb, hgg, rest⟩
  · exact .inl hn'
  · exact .inr ⟨g, cap, cur, rfl, hb, (k g (Array.getElem?_eq_some_iff.1 hgg).1 (hn g rfl)).trans hgg, rest⟩
mutual
theorem IsC.fr {A : Nat → Prop} {n₀ : Nat} {w w' : World} (hF : Fr n₀ w w') : ∀ (d : Dt) (v : Value), IsC A w d v → IsC A w' d v
  | .num n, v, h => by simpa only [IsC] using h
  | .str s, v, h => by simpa only [IsC] using h
  | .row e size n l, v, h => by
    simp only [IsC] at h ⊢
    obtain ⟨xs, h1, h2, h3, h4⟩ := h
    exact ⟨xs, h1, hF.row h2 h1, h3, IsCs.fr hF l xs h4⟩
theorem IsCs.fr {A : Nat → Prop} {n₀ : Nat} {w w' : World} (hF : Fr n₀ w w') : ∀ (l : List Dt) (xs : List Value), IsCs A w l xs → IsCs A w' l xs
  | [], xs, h => by simpa only [IsCs] using h
  | d :: r, xs, h => by
    simp only [IsCs] at h ⊢
    obtain ⟨x, ys, h1, h2, h3⟩ := h
    exact ⟨x, ys, h1, IsC.fr hF d x h2, IsCs.fr hF r ys h3⟩
end
mutual
theorem IsC.kept {A S : Nat → Prop} {w w' : World} (hs : w.heap.size ≤ w'.heap.size) (hk : ∀ i, i < w.heap.size → ¬ S i → w'.heap[i]? = w.heap[i]?) (hA : ∀ b, A b → ¬ S b) : ∀ (d : Dt) (v : Value), IsC A w d v → IsC A w' d v
  | .num n, v, h => by simpa only [IsC] using h
  | .str s, v, h => by simpa only [IsC] using h
  | .row e size n l, v, h => by
    simp only [IsC] at h ⊢
    obtain ⟨xs, h1, h2, h3, h4⟩ := h
    exact ⟨xs, h1, row_kept h2 hs hk (fun b hb => hA b (h3 b hb)), h3, IsCs.kept hs hk hA l xs h4⟩
theorem IsCs.kept {A S : Nat → Prop} {w w' : World} (hs : w.heap.size ≤ w'.heap.size) (hk : ∀ i, i < w.heap.size → ¬ S i → w'.heap[i]? = w.heap[i]?) (hA : ∀ b, A b → ¬ S b) : ∀ (l : List Dt) (xs : List Value), IsCs A w l xs → IsCs A w' l xs
  | [], xs, h => by simpa only [IsCs] using h
  | d :: r, xs, h => by
    simp only [IsCs] at h ⊢
    obtain ⟨x, ys, h1, h2, h3⟩ := h
    exact ⟨x, ys, h1, IsC.kept hs hk hA d x h2, IsCs.kept hs hk hA r ys h3⟩
end
mutual
theorem IsC.mono {A A' : Nat → Prop} {w : World} (hA : ∀ b, b < w.heap.size → A b → A' b) : ∀ (d : Dt) (v : Value), IsC A w d v → IsC A' w d v
  | .num n, v, h => by simpa only [IsC] using h
  | .str s, v, h => by simpa only [IsC] using h
  | .row e size n l, v, h => by
    simp only [IsC] at h ⊢
    obtain ⟨xs, h1, h2, h3, h4⟩ := h
    exact ⟨xs, h1, h2, fun b hb => hA b (h2.lt b hb).2 (h3 b hb), IsCs.mono hA l xs h4⟩
theorem IsCs.mono {A A' : Nat → Prop} {w : World} (hA : ∀ b, b < w.heap.size → A b → A' b) : ∀ (l : List Dt) (xs : List Value), IsCs A w l xs → IsCs A' w l xs
  | [], xs, h => by simpa only [IsCs] using h
  | d :: r, xs, h => by
    simp only [IsCs] at h ⊢
    obtain ⟨x, ys, h1, h2, h3⟩ := h
    exact ⟨x, ys, h1, IsC.mono hA d x h2, IsCs.mono hA r ys h3⟩
end
theorem IsC.one {A : Nat → Prop} {w : World} : ∀ (d : Dt) (v : Value), IsC A w d v → v.oneCell' = true
  | .num n, v, h => by simp only [IsC] at h; subst h; rfl
  | .str s, v, h => by simp only [IsC] at h; subst h; rfl
  | .row e size n l, v, h => by
    simp only [IsC] at h
    obtain ⟨xs, h1, h2, h3, h4⟩ := h
    rcases h2.2 with ⟨rfl, _⟩ | ⟨g, cap, cur, rfl, _⟩ <;> rfl
theorem IsCs.one {A : Nat → Prop} {w : World} : ∀ (l : List Dt) (xs : List Value), IsCs A w l xs → ∀ u ∈ xs, u.oneCell' = true
  | [], xs, h => by simp only [IsCs] at h; subst h; simp
  | d :: r, xs, h => by
    simp only [IsCs] at h
    obtain ⟨x, ys, rfl, h2, h3⟩ := h
    intro u hu
    rcases List.mem_cons.1 hu with rfl | hu
    · exact IsC.one d _ h2
    · exact IsCs.one r ys h3 u hu
theorem IsCs.length {A : Nat → Prop} {w : World} : ∀ (l : List Dt) (xs : List Value), IsCs A w l xs → xs.length = l.length
  | [], xs, h => by simp only [IsCs] at h; subst h; rfl
  | d :: r, xs, h => by
    simp only [IsCs] at h
    obtain ⟨x, ys, rfl, h2, h3⟩ := h
    simp [IsCs.length r ys h3]
theorem IsCs.append {A : Nat → Prop} {w : World} : ∀ (l m : List Dt) (xs ys : List Value), IsCs A w l xs → IsCs A w m ys → IsCs A w (l ++ m) (xs ++ ys)
  | [], m, xs, ys, h, k => by simp only [IsCs] at h; subst h; simpa using k
  | d :: r, m, xs, ys, h, k => by
    simp only [IsCs] at h
    obtain ⟨x, zs, rfl, h2, h3⟩ := h
    simp only [List.cons_append, IsCs]
    exact ⟨x, zs ++ ys, rfl, h2, IsCs.append r m zs ys h3 k⟩
theorem IsCs.split {A : Nat → Prop} {w : World} : ∀ (l m : List Dt) (xs : List Value), IsCs A w (l ++ m) xs → ∃ a b, xs = a ++ b ∧ IsCs A w l a ∧ IsCs A w m b
  | [], m, xs, h => ⟨[], xs, rfl, by simp only [IsCs], by simpa using h⟩
  | d :: r, m, xs, h => by
    simp only [List.cons_append, IsCs] at h
    obtain ⟨x, ys, rfl, h2, h3⟩ := h
    obtain ⟨a, b, rfl, h4, h5⟩ := IsCs.split r m ys h3
    exact ⟨x :: a, b, rfl, by simp only [IsCs]; exact ⟨x, a, rfl, h2, h4⟩, h5⟩
theorem IsCs.nil (A : Nat → Prop) (w : World) : IsCs A w [] [] := by simp only [IsCs]
theorem IsCs.cons {A : Nat → Prop} {w : World} {d : Dt} {r : List Dt} {x : Value} {ys : List Value} (h : IsC A w d x) (k : IsCs A w r ys) : IsCs A w (d :: r) (x :: ys) := by
  simp only [IsCs]; exact ⟨x, ys, rfl, h, k⟩
theorem IsCs.uncons {A : Nat → Prop} {w : World} {d : Dt} {r : List Dt} {xs : List Value} (h : IsCs A w (d :: r) xs) : ∃ x ys, xs = x :: ys ∧ IsC A w d x ∧ IsCs A w r ys := by
  simpa only [IsCs] using h
theorem IsC.num (A : Nat → Prop) (w : World) (n : Int) : IsC A w (.num n) (.int .i64 n) := by simp only [IsC]
theorem IsC.str (A : Nat → Prop) (w : World) (s : Bs) : IsC A w (.str s) (.string ⟨s.toArray⟩) := by simp only [IsC]
theorem IsC.none (A : Nat → Prop) (w : World) {e : TypeId} (size : Nat) (he : stT e = false) : IsC A w (.row e size 0 []) (.slice none 0 0) := by
  simp only [IsC]
  exact ⟨[], he, World.ownsRow_nil _ _ _ _, fun b hb => (by cases hb), IsCs.nil _ _⟩
theorem IsC.row {A : Nat → Prop} {w : World} {base : Nat} {e : TypeId} {size n : Nat} {l : List Dt} {v : Value} {xs : List Value} (he : stT e = false) (hr : w.ownsRow base e size v n xs) (hA : ∀ b, v.ownBlock = some b → A b) (hl : IsCs A w l xs) : IsC A w (.row e size n l) v := by
  simp only [IsC]
  refine ⟨xs, he, ⟨hr.1, ?_⟩, hA, hl⟩
  rcases hr.2 with hn | ⟨g, cap, cur, hv, hb, hg, rest⟩
  · exact .inl hn
  · exact .inr ⟨g, cap, cur, hv, Nat.zero_le _, hg, rest⟩
theorem IsC.unrow {A : Nat → Prop} {w : World} {e : TypeId} {size n : Nat} {l : List Dt} {v : Value} (h : IsC A w (.row e size n l) v) : ∃ xs, w.ownsRow 0 e size v n xs ∧ (∀ b, v.ownBlock = some b → A b) ∧ IsCs A w l xs := by
  simp only [IsC] at h
  obtain ⟨xs, h1, h2, h3, h4⟩ := h
  exact ⟨xs, h2, h3, h4⟩
/-! How the trees lie in cells. -/
mutual
def encT (eT : TypeId) : PT → List Dt
  | .mk k n ns l => [.num k, .str n, .row 9 1 ns.length (ns.map .str), .row eT 4 l.length (encTs eT l)]
def encTs (eT : TypeId) : List PT → List Dt
  | [] => []
  | t :: r => encT eT t ++ encTs eT r
end
mutual
def encE (eT eE : TypeId) : PE → List Dt
  | .mk k a n m ns l ts => [.num k, .num a, .str n, .num m, .row 9 1 ns.length (ns.map .str), .row eE 7 l.length (encEs eT eE l), .row eT 4 ts.length (encTs eT ts)]
def encEs (eT eE : TypeId) : List PE → List Dt
  | [] => []
  | x :: r => encE eT eE x ++ encEs eT eE r
end
def encD (eT eE : TypeId) (d : PD) : List Dt := [.num d.k, .num d.a, .str d.n, .row eT 4 d.ts.length (encTs eT d.ts), .row eE 7 d.es.length (encEs eT eE d.es)]
def encDs (eT eE : TypeId) (l : List PD) : List Dt := l.flatMap (encD eT eE)
theorem encTs_append (eT : TypeId) : ∀ l m : List PT, encTs eT (l ++ m) = encTs eT l ++ encTs eT m
  | [], m => by simp [encTs]
  | t :: r, m => by simp [encTs, encTs_append eT r m]
theorem encEs_append (eT eE : TypeId) : ∀ l m : List PE, encEs eT eE (l ++ m) = encEs eT eE l ++ encEs eT eE m
  | [], m => by simp [encEs]
  | t :: r, m => by simp [encEs, encEs_append eT eE r m]
theorem encT_length (eT : TypeId) (t : PT) : (encT eT t).length = 4 := by cases t; simp [encT]
theorem encE_length (eT eE : TypeId) (t : PE) : (encE eT eE t).length = 7 := by cases t; simp [encE]
/-! The reader's state. -/
def Dn.cells (x : Dn) : List Value := [.int .i64 (x.a : Nat), .int .i64 (x.d : Nat), .string ⟨x.n.toArray⟩]
def dnCells (l : List Dn) : List Value := l.flatMap Dn.cells
theorem dnCells_snoc (l : List Dn) (t : Dn) : dnCells (l ++ [t]) = dnCells l ++ t.cells := by simp [dnCells]
structure PS (B M : Nat) (w : World) (pb : Nat) (all ts : List Tk) (told : List Dn) : Prop where
  lo : B ≤ pb
  hi : B ≤ w.heap.size
  fin : ∃ p e, ts = p ++ [e] ∧ e.k = 6
  bd : told.length + ts.length ≤ M
  big : all.length ≤ 1000000
  ex : ∃ (vt vd : Value) (i : Nat), w.heap[pb]? = some (.cells #[vt, .int .i64 (i : Nat), vd] 112 (0, 0)) ∧ w.ownsRow 0 105 3 vt all.length (tkCells all) ∧ w.ownsRow B 153 3 vd told.length (dnCells told) ∧ ts = all.drop i ∧ ∀ b, vt.ownBlock = some b → b < pb
theorem row_below {w w' : World} {base : Nat} {e : TypeId} {size : Nat} {v : Value} {n : Nat} {xs : List Value} (h : w.ownsRow base e size v n xs) (hb : Below w.heap.size w w') : w'.ownsRow base e size v n xs :=
  row_kept (S := fun _ => False) h hb.size (fun i hi _ => hb.block i hi) (fun _ _ h => h)
theorem PS.other {B M : Nat} {w w' : World} {pb : Nat} {all ts : List Tk} {told : List Dn} (h : PS B M w pb all ts told) (hs : w.heap.size ≤ w'.heap.size) (hk : ∀ k o, w.heap[k]? = some o → (k ≤ pb ∨ ∃ c fz, o = .cells c 153 fz) → w'.heap[k]? = some o) : PS B M w' pb all ts told := by
  obtain ⟨h1, h2, h3, h4, h5, vt, vd, i, h6, h7, h8, h9, h10⟩ := h
  refine ⟨h1, Nat.le_trans h2 hs, h3, h4, h5, vt, vd, i, hk _ _ h6 (.inl (Nat.le_refl _)), ⟨h7.1, ?_⟩, ⟨h8.1, ?_⟩, h9, h10⟩
  · rcases h7.2 with hn | ⟨g, cap, cur, hv, hg0, hg, rest⟩
    · exact .inl hn
    · exact .inr ⟨g, cap, cur, hv, hg0, hk _ _ hg (.inl (Nat.le_of_lt (h10 g (by rw [hv]; rfl)))), rest⟩
  · rcases h8.2 with hn | ⟨g, cap, cur, hv, hg0, hg, rest⟩
    · exact .inl hn
    · exact .inr ⟨g, cap, cur, hv, hg0, hk _ _ hg (.inr ⟨_, _, rfl⟩), rest⟩
theorem PS.below {B M : Nat} {w w' : World} {pb : Nat} {all ts : List Tk} {told : List Dn} (h : PS B M w pb all ts told) (hb : Below w.heap.size w w') : PS B M w' pb all ts told :=
  h.other hb.size fun k _ hk _ => (hb.block k (Array.getElem?_eq_some_iff.1 hk).1).trans hk
theorem PS.alloc {B M : Nat} {w : World} {pb : Nat} {all ts : List Tk} {told : List Dn} (h : PS B M w pb all ts told) (o : Obj) : PS B M (w.alloc o) pb all ts told := h.below ((Below.refl _ _).alloc (Nat.le_refl _) _)
theorem PS.lt {B M : Nat} {w : World} {pb : Nat} {all ts : List Tk} {told : List Dn} (h : PS B M w pb all ts told) : pb < w.heap.size := by
  obtain ⟨h1, h2, h3, h4, h5, vt, vd, i, h6, h7, h8, h9⟩ := h
  exact (Array.getElem?_eq_some_iff.1 h6).1
theorem PS.setNew {B M : Nat} {w : World} {pb : Nat} {all ts : List Tk} {told : List Dn} (h : PS B M w pb all ts told) {b : Nat} {c : Array Value} {t : TypeId} {fz : Nat × Nat} (hb : w.heap[b]? = some (.cells c t fz)) (ht : t ≠ 153) (hlt : pb < b) (i : Nat) (v : Value) : PS B M (w.setCell ⟨b, i, none⟩ v) pb all ts told := by
  refine h.other (by simp [World.setCell]) fun k o hk hd => (Below.heap_setCell w ⟨b, i, none⟩ v k ?_).trans hk
  intro e
  have e' : k = b := e
  subst e'
  rcases hd with hd | ⟨c', fz', rfl⟩
  · omega
  · rw [hb] at hk
    cases hk
    exact ht rfl
theorem PS.grown {B M : Nat} {w w' : World} {pb : Nat} {all ts : List Tk} {told : List Dn} (h : PS B M w pb all ts told) {base : Nat} {e : TypeId} {sz : Nat} {v : Value} {n : Nat} {xs : List Value} (hr : w.ownsRow base e sz v n xs) (he : e ≠ 153) (hv : ∀ b, v.ownBlock = some b → pb < b) (hg : w.grownBy w' v.ownBlock) : PS B M w' pb all ts told := by
  refine h.other hg.size fun k o hk hd => (hg.block k (Array.getElem?_eq_some_iff.1 hk).1 ?_).trans hk
  intro e1
  rcases hd with hd | ⟨c', fz', rfl⟩
  · have := hv k e1.symm; omega
  · rcases hr.2 with ⟨rfl, _⟩ | ⟨g, cap, cur, rfl, hb, hgg, _⟩
    · cases e1
    · simp only [Value.ownBlock, Option.some.injEq] at e1
      subst e1
      rw [hgg] at hk
      cases hk
      exact he rfl
theorem PS.first {B M : Nat} {w : World} {pb : Nat} {all ts : List Tk} {told : List Dn} (h : PS B M w pb all ts told) : ∃ (g cap i : Nat) (vd : Value), w.heap[pb]? = some (.cells #[.slice (some ⟨g, 0, none⟩) all.length cap, .int .i64 (i : Nat), vd] 112 (0, 0)) ∧ i < all.length ∧ all.length ≤ 1000000 ∧ g < w.heap.size ∧
    w.cell? ⟨g, i * 3, none⟩ = some (.int .i64 ((hd ts).k : Nat)) ∧ w.cell? ⟨g, i * 3 + 1, none⟩ = some (.int .i64 ((hd ts).a : Nat)) ∧ w.cell? ⟨g, i * 3 + 2, none⟩ = some (.string ⟨(hd ts).t.toArray⟩) ∧
    (∃ r, ts = hd ts :: r ∧ r = all.drop (i + 1)) := by
  obtain ⟨h1, h2, ⟨p, e, h3, h3'⟩, h4, h5, vt, vd, i, h6, h7, h8, h9, -⟩ := h
  have hi : i < all.length := by
    rcases Nat.lt_or_ge i all.length with h | h
    · exact h
    · rw [List.drop_of_length_le h] at h9
      rw [h9] at h3
      simp at h3
  have hx : all[i]? = some (hd ts) := by
    rw [h9, hd, List.headD_eq_head?_getD, List.head?_drop, List.getElem?_eq_getElem hi]
    rfl
  have h7' := h7
  rw [tk_flat, ← List.length_map (f := Tk.tri)] at h7'
  obtain ⟨a0, cap, rfl, q1, q2, q3, q4, q5⟩ := tris_of h7' rfl
  obtain ⟨g, o, rfl, hg, c0, c1, c2⟩ := q5 i (hd ts).tri (by rw [List.getElem?_map, hx]; rfl)
  obtain ⟨g', e1, -⟩ := q4 _ rfl
  cases e1
  rw [List.length_map] at h6
  rw [Nat.zero_add, Nat.mul_comm] at c0 c1 c2
  refine ⟨g, cap, i, vd, h6, hi, h5, hg, c0, c1, c2, all.drop (i + 1), ?_, rfl⟩
  rw [h9, List.drop_eq_getElem_cons hi] at *
  rfl
/-! Stores into all cells of a block. -/
abbrev putL (w : World) (b : Nat) (vs : List Value) : World := w.setCells b 0 vs
theorem setCells_at (b : Nat) : ∀ (vs : List Value) (o : Nat) (w : World) (c : Array Value) (t : TypeId), w.heap[b]? = some (.cells c t (0, 0)) → o + vs.length = c.size → (w.setCells b o vs).heap[b]? = some (.cells (c.toList.take o ++ vs).toArray t (0, 0))
  | [], o, w, c, t, h, hl => by
    simp only [List.length_nil, Nat.add_zero] at hl
    rw [World.setCells, h, List.append_nil, List.take_of_length_le (by rw [Array.length_toList]; omega)]
  | v :: r, o, w, c, t, h, hl => by
    simp only [List.length_cons] at hl
    have h0 := heap_setCell_same w b o c _ v h
    have h1 := setCells_at b r (o + 1) (w.setCell ⟨b, o, none⟩ v) _ _ h0 (by simp; omega)
    rw [World.setCells, h1]
    congr 2
    have ho : o < c.toList.length := by rw [Array.length_toList]; omega
    simp only [Array.toList_setIfInBounds]
    rw [List.take_succ_eq_append_getElem (by simpa using ho)]
    simp [List.take_set_of_le]
theorem putL_at {w : World} {b : Nat} {c : Array Value} {t : TypeId} (h : w.heap[b]? = some (.cells c t (0, 0))) {vs : List Value} (hl : vs.length = c.size) : (putL w b vs).heap[b]? = some (.cells vs.toArray t (0, 0)) := by
  have := setCells_at b vs 0 w c t h (by omega)
  simpa using this
theorem putL_far (b : Nat) : ∀ (vs : List Value) (o : Nat) (w : World) (k : Nat), k ≠ b → (w.setCells b o vs).heap[k]? = w.heap[k]?
  | [], _, _, _, _ => rfl
  | v :: r, o, w, k, h => (putL_far b r (o + 1) _ k h).trans (Below.heap_setCell w ⟨b, o, none⟩ v k h)
theorem putL_same (b : Nat) : ∀ (vs : List Value) (o : Nat) (w : World), (w.setCells b o vs).os = w.os ∧ (w.setCells b o vs).tape = w.tape ∧ (w.setCells b o vs).output = w.output ∧ (w.setCells b o vs).heap.size = w.heap.size
  | [], _, _ => ⟨rfl, rfl, rfl, rfl⟩
  | v :: r, o, w => by
    obtain ⟨h1, h2, h3, h4⟩ := putL_same b r (o + 1) (w.setCell ⟨b, o, none⟩ v)
    exact ⟨h1, h2, h3, h4.trans (by simp [World.setCell])⟩
theorem Fr.putL {n₀ : Nat} {w W : World} (h : Fr n₀ w W) {b : Nat} (hb : w.heap.size ≤ b) (vs : List Value) : Fr n₀ w (putL W b vs) := by
  obtain ⟨h1, h2, h3, h4⟩ := putL_same b vs 0 W
  exact ⟨h1.trans h.os, h2.trans h.tape, h3.trans h.output, by rw [h4]; exact h.size, fun k o hk hd => (putL_far b vs 0 W k (by have := (Array.getElem?_eq_some_iff.1 hk).1; omega)).trans (h.block k o hk hd)⟩
theorem Below.putL {n b : Nat} {w w' : World} (h : Below n w w') (hb : n ≤ b) (vs : List Value) : Below n w (putL w' b vs) := by
  obtain ⟨h1, h2, h3, h4⟩ := putL_same b vs 0 w'
  exact ⟨h1.trans h.os, h2.trans h.tape, h3.trans h.output, by rw [h4]; exact h.size, fun k hk => (putL_far b vs 0 w' k (by omega)).trans (h.block k hk)⟩
theorem PS.putL {B M : Nat} {w : World} {pb : Nat} {all ts : List Tk} {told : List Dn} (h : PS B M w pb all ts told) {b : Nat} {c : Array Value} {t : TypeId} {fz : Nat × Nat} (hb : w.heap[b]? = some (.cells c t fz)) (ht : t ≠ 153) (hlt : pb < b) (vs : List Value) : PS B M (putL w b vs) pb all ts told := by
  obtain ⟨h1, h2, h3, h4⟩ := putL_same b vs 0 w
  refine h.other (by rw [h4]; exact Nat.le_refl _) fun k o hk hd => (putL_far b vs 0 w k ?_).trans hk
  rintro rfl
  rcases hd with hd | ⟨c', fz', rfl⟩
  · omega
  · rw [hb] at hk
    cases hk
    exact ht rfl
theorem IsCs.putL {A : Nat → Prop} {w : World} {l : List Dt} {xs : List Value} (h : IsCs A w l xs) (b : Nat) (hA : ∀ k, A k → k ≠ b) (vs : List Value) : IsCs A (putL w b vs) l xs := by
  obtain ⟨h1, h2, h3, h4⟩ := putL_same b vs 0 w
  exact IsCs.kept (S := fun k => k = b) (by rw [h4]; exact Nat.le_refl _) (fun k _ hk => putL_far b vs 0 w k hk) (fun k hk => hA k hk) l xs h
theorem IsCs.below {A : Nat → Prop} {w w' : World} {l : List Dt} {xs : List Value} (h : IsCs A w l xs) (hb : Below w.heap.size w w') : IsCs A w' l xs :=
  IsCs.kept (S := fun _ => False) hb.size (fun k hk _ => hb.block k hk) (fun _ _ h => h) l xs h
theorem IsCs.grown {A : Nat → Prop} {w w' : World} {row : Option Nat} {l : List Dt} {xs : List Value} (h : IsCs A w l xs) (hg : w.grownBy w' row) (hA : ∀ k, A k → some k ≠ row) : IsCs A w' l xs :=
  IsCs.kept (S := fun k => some k = row) hg.size (fun k hk hn => hg.block k hk hn) hA l xs h
theorem IsC.below {A : Nat → Prop} {w w' : World} {l : Dt} {xs : Value} (h : IsC A w l xs) (hb : Below w.heap.size w w') : IsC A w' l xs :=
  IsC.kept (S := fun _ => False) hb.size (fun k hk _ => hb.block k hk) (fun _ _ h => h) l xs h
end Go.Proofs.YtijnjoonbjdafaaGreatDoor

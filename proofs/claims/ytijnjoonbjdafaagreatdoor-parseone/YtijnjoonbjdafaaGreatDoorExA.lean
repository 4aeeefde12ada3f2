/-
  Expressions in cells, blocks with data that live through calls, and how results are laid. No walk.
-/
import Derived.Test.YtijnjoonbjdafaaGreatDoorFieldsT
import Derived.Test.YtijnjoonbjdafaaGreatDoorSrtP
import Derived.Deep.MidRow
namespace Go.Proofs.YtijnjoonbjdafaaGreatDoor
set_option maxRecDepth 20000
open Go.RowKit Go.Shelf
def Sev (w : World) (b : Nat) (t : TypeId) (v0 v1 v2 v3 v4 v5 v6 : Value) : Prop := w.heap[b]? = some (.cells #[v0, v1, v2, v3, v4, v5, v6] t (0, 0))
theorem sev_of {w : World} {b : Nat} {t : TypeId} {v0 v1 v2 v3 v4 v5 v6 : Value} (h : Sev w b t v0 v1 v2 v3 v4 v5 v6) :
    (w.cell? ⟨b, 0, none⟩ = some v0 ∧ w.cell? ⟨b, 1, none⟩ = some v1 ∧ w.cell? ⟨b, 2, none⟩ = some v2 ∧ w.cell? ⟨b, 3, none⟩ = some v3 ∧ w.cell? ⟨b, 4, none⟩ = some v4 ∧ w.cell? ⟨b, 5, none⟩ = some v5 ∧ w.cell? ⟨b, 6, none⟩ = some v6) ∧
    w.frozen? ⟨b, 0, none⟩ = false ∧ w.frozen? ⟨b, 1, none⟩ = false ∧ w.frozen? ⟨b, 2, none⟩ = false ∧ w.frozen? ⟨b, 3, none⟩ = false ∧ w.frozen? ⟨b, 4, none⟩ = false ∧ w.frozen? ⟨b, 5, none⟩ = false ∧ w.frozen? ⟨b, 6, none⟩ = false := by
  unfold Sev at h
  simp [World.cell?, World.frozen?, h]
theorem ret49 {f : Func} {R : Ending → World → Prop} {a : Act} {w : World} {b s : Nat} {u0 u1 u2 u3 u4 u5 u6 : Value} (hf : f.results = #[.cell s 36]) (ht : a.eval (.tmp s) = .pointer (some ⟨b, 0, none⟩)) (hd : a.defers = [])
    (h : Sev w b 36 u0 u1 u2 u3 u4 u5 u6) (hR : R (.returned (.agg #[u0, u1, u2, u3, u4, u5, u6])) w) : bodyPost Tryz.prog f R Exit.ret a w := by
  obtain ⟨⟨c0, c1, c2, c3, c4, c5, c6⟩, -⟩ := sev_of h
  refine bodyPost_ret ?_ hd hR
  simp [Act.eval] at ht
  simp [results, hf, go_sem, c0, c1, c2, c3, c4, c5, c6, ht]
theorem ret39s {f : Func} {R : Ending → World → Prop} {a : Act} {w : World} {b s : Nat} {u0 u1 u2 u3 : Value} (hf : f.results = #[.cell s 26]) (ht : a.eval (.tmp s) = .pointer (some ⟨b, 0, none⟩)) (hd : a.defers = [])
    (h : Fou w b 26 u0 u1 u2 u3) (hR : R (.returned (.agg #[u0, u1, u2, u3])) w) : bodyPost Tryz.prog f R Exit.ret a w := by
  obtain ⟨⟨c0, c1, c2, c3⟩, -⟩ := fou_of h
  refine bodyPost_ret ?_ hd hR
  simp [Act.eval] at ht
  simp [results, hf, go_sem, c0, c1, c2, c3, ht]
def vE (lo : Nat) (t : PE) (e : Ending) (w' : World) : Prop := ∃ cs, e = .returned (.agg cs.toArray) ∧ IsCs (fun b => lo ≤ b) w' (encE 26 36 t) cs
theorem cells_E {A : Nat → Prop} {w : World} {t : PE} {cs : List Value} (h : IsCs A w (encE 26 36 t) cs) : ∃ (k a : Int) (n : ByteArray) (m : Int) (a4 : Option Addr) (n4 c4 : Nat) (a5 : Option Addr) (n5 c5 : Nat) (a6 : Option Addr) (n6 c6 : Nat), cs = [.int .i64 k, .int .i64 a, .string n, .int .i64 m, .slice a4 n4 c4, .slice a5 n5 c5, .slice a6 n6 c6] := by
  obtain ⟨k, a, n, m, ns, l, ts⟩ := t
  simp only [encE] at h
  obtain ⟨x0, ys, rfl, h0, h⟩ := h.uncons
  obtain ⟨x1, ys, rfl, h1, h⟩ := h.uncons
  obtain ⟨x2, ys, rfl, h2, h⟩ := h.uncons
  obtain ⟨x3, ys, rfl, h3, h⟩ := h.uncons
  obtain ⟨x4, ys, rfl, h4, h⟩ := h.uncons
  obtain ⟨x5, ys, rfl, h5, h⟩ := h.uncons
  obtain ⟨x6, ys, rfl, h6, h⟩ := h.uncons
  simp only [IsCs] at h
  subst h
  simp only [IsC] at h0 h1 h2 h3
  subst h0 h1 h2 h3
  obtain ⟨a4, c4, rfl⟩ := slice_form h4
  obtain ⟨a5, c5, rfl⟩ := slice_form h5
  obtain ⟨a6, c6, rfl⟩ := slice_form h6
  exact ⟨_, _, _, _, _, _, _, _, _, _, _, _, _, rfl⟩
abbrev zE : Obj := .cells #[.int .i64 0, .int .i64 0, .string ⟨#[]⟩, .int .i64 0, .slice none 0 0, .slice none 0 0, .slice none 0 0] 36
structure Lv (w : World) (lo b : Nat) (t : TypeId) (l : List Dt) (cs : List Value) : Prop where
  blk : w.heap[b]? = some (.cells cs.toArray t (0, 0))
  ty : stT t = false
  lt : lo < b
  data : IsCs (fun k => lo < k) w l cs
theorem Lv.fr {n₀ : Nat} {w w' : World} {lo b : Nat} {t : TypeId} {l : List Dt} {cs : List Value} (h : Lv w lo b t l cs) (hF : Fr n₀ w w') : Lv w' lo b t l cs :=
  ⟨hF.cells h.blk h.ty, h.ty, h.lt, IsCs.fr hF _ _ h.data⟩
theorem Lv.alloc {w : World} {lo b : Nat} {t : TypeId} {l : List Dt} {cs : List Value} (h : Lv w lo b t l cs) (o : Obj) : Lv (w.alloc o) lo b t l cs := h.fr (n₀ := 0) ((Fr.refl _ _).alloc o)
theorem Lv.below {w w' : World} {lo b : Nat} {t : TypeId} {l : List Dt} {cs : List Value} (h : Lv w lo b t l cs) (hb : Below w.heap.size w w') : Lv w' lo b t l cs := h.fr (n₀ := 0) (Fr.of_below hb)
theorem Lv.new {w : World} {lo : Nat} {t : TypeId} {l : List Dt} {cs : List Value} (ht : stT t = false) (hlo : lo < w.heap.size) {lo' : Nat} (hl : lo < lo') (h : IsCs (fun k => lo' ≤ k) w l cs) : Lv (w.alloc (.cells cs.toArray t)) lo w.heap.size t l cs :=
  ⟨heap_alloc_new w _, ht, hlo, (h.mono (fun b _ hb => by omega)).below ((Below.refl _ _).alloc (Nat.le_refl _) _)⟩
theorem Lv.newTok {w : World} {lo : Nat} (hlo : lo < w.heap.size) (t : Tk) : Lv (w.alloc (.cells #[.int .i64 (t.k : Nat), .int .i64 (t.a : Nat), .string ⟨t.t.toArray⟩] 105)) lo w.heap.size 105 [.num t.k, .num t.a, .str t.t] [.int .i64 (t.k : Nat), .int .i64 (t.a : Nat), .string ⟨t.t.toArray⟩] :=
  ⟨heap_alloc_new w _, by decide, hlo, .cons (.num _ _ _) (.cons (.num _ _ _) (.cons (.str _ _ _) (.nil _ _)))⟩
theorem there_of {w : World} {b n : Nat} {c : Array Value} {t : TypeId} (h : w.heap[b]? = some (.cells c t (0, 0))) (hn : c.size = n) : w.there b 0 n := by
  intro j hj
  simp only [Nat.zero_add]
  refine ⟨?_, by simp [World.frozen?, h]⟩
  simp [World.cell?, h, hn, hj]
theorem wpList_store_put {P : Program} {ops : Array Oper} {rest : List Oper} {op : Oper} {a : Act} {w : World} {Q : Exit → Act → World → Prop} (hgd : op.guard = none) (ty : TypeId) (x y : Operand) (ho : op.op = .store ty x y)
    (b : Nat) (cells : Array Value) (hx : a.eval x = .pointer (some ⟨b, 0, none⟩)) (hy : a.eval y = .agg cells)
    (ht : w.there b 0 cells.size) (hi : (P.info? ty).map (·.size) = some cells.size) (h1 : cells.all (·.oneCell') = true)
    (h : ∀ w', Hid (w' = putL w b cells.toList) → wpList P ops Q rest (a.put op.dst undef) w') : wpList P ops Q (op :: rest) a w :=
  wpList_store_mid hgd ty x y ho b 0 cells hx hy ht hi h1 (h _ rfl)
theorem size49 : (Tryz.prog.info? 36).map (·.size) = some 7 := by kernel_rfl
theorem size39 : (Tryz.prog.info? 26).map (·.size) = some 4 := by kernel_rfl
theorem tellq {α : Type} {res : R α} {x : R α} (h : res = x) : res = x.tell [] := h.trans (R.tell_nil x).symm
end Go.Proofs.YtijnjoonbjdafaaGreatDoor

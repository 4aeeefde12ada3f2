/-
  Declarations in cells; the contract of the reader of names.
-/
import Derived.Test.YthpoffklhpbdoaaGreatDoorExL
namespace Go.Proofs.YthpoffklhpbdoaaGreatDoor
set_option maxRecDepth 20000
open Go.RowKit Go.Shelf

/-- A block of five cells. -/
def Fiv (w : World) (b : Nat) (t : TypeId) (v0 v1 v2 v3 v4 : Value) : Prop := w.heap[b]? = some (.cells #[v0, v1, v2, v3, v4] t (0, 0))
theorem fiv_of {w : World} {b : Nat} {t : TypeId} {v0 v1 v2 v3 v4 : Value} (h : Fiv w b t v0 v1 v2 v3 v4) :
    (w.cell? ⟨b, 0, none⟩ = some v0 ∧ w.cell? ⟨b, 1, none⟩ = some v1 ∧ w.cell? ⟨b, 2, none⟩ = some v2 ∧ w.cell? ⟨b, 3, none⟩ = some v3 ∧ w.cell? ⟨b, 4, none⟩ = some v4) ∧
    w.frozen? ⟨b, 0, none⟩ = false ∧ w.frozen? ⟨b, 1, none⟩ = false ∧ w.frozen? ⟨b, 2, none⟩ = false ∧ w.frozen? ⟨b, 3, none⟩ = false ∧ w.frozen? ⟨b, 4, none⟩ = false := by
  unfold Fiv at h
  simp [World.cell?, World.frozen?, h]
theorem ret62 {f : Func} {R : Ending → World → Prop} {a : Act} {w : World} {b s : Nat} {u0 u1 u2 u3 u4 : Value} (hf : f.results = #[.cell s 62]) (ht : a.eval (.tmp s) = .pointer (some ⟨b, 0, none⟩)) (hd : a.defers = [])
    (h : Fiv w b 62 u0 u1 u2 u3 u4) (hR : R (.returned (.agg #[u0, u1, u2, u3, u4])) w) : bodyPost Tryz.prog f R Exit.ret a w := by
  obtain ⟨⟨c0, c1, c2, c3, c4⟩, -⟩ := fiv_of h
  refine bodyPost_ret ?_ hd hR
  simp [Act.eval] at ht
  simp [results, hf, go_sem, c0, c1, c2, c3, c4, ht]
theorem size62 : (Tryz.prog.info? 62).map (·.size) = some 5 := by kernel_rfl
abbrev zD : Obj := .cells #[.int .i64 0, .int .i64 0, .string ⟨#[]⟩, .slice none 0 0, .slice none 0 0] 62
/-- A declaration as a value, all of it made from block lo on. -/
def vD (lo : Nat) (t : PD) (e : Ending) (w' : World) : Prop := ∃ cs, e = .returned (.agg cs.toArray) ∧ IsCs (fun b => lo ≤ b) w' (encD 26 36 t) cs
theorem cells_D {A : Nat → Prop} {w : World} {t : PD} {cs : List Value} (h : IsCs A w (encD 26 36 t) cs) : ∃ (k a : Int) (n : ByteArray) (a3 : Option Addr) (n3 c3 : Nat) (a4 : Option Addr) (n4 c4 : Nat), cs = [.int .i64 k, .int .i64 a, .string n, .slice a3 n3 c3, .slice a4 n4 c4] := by
  obtain ⟨k, a, n, l, ts⟩ := t
  simp only [encD] at h
  obtain ⟨x0, ys, rfl, h0, h⟩ := h.uncons
  obtain ⟨x1, ys, rfl, h1, h⟩ := h.uncons
  obtain ⟨x2, ys, rfl, h2, h⟩ := h.uncons
  obtain ⟨x3, ys, rfl, h3, h⟩ := h.uncons
  obtain ⟨x4, ys, rfl, h4, h⟩ := h.uncons
  simp only [IsCs] at h
  subst h
  simp only [IsC] at h0 h1 h2
  subst h0 h1 h2
  obtain ⟨a3, c3, rfl⟩ := slice_form h3
  obtain ⟨a4, c4, rfl⟩ := slice_form h4
  exact ⟨_, _, _, _, _, _, _, _, _, rfl⟩
theorem giveD {α : Type} {B M : Nat} {w W : World} {pb : Nat} {all : List Tk} {told : List Dn} {val : α → PD} {res : R α} {x : α} {r : List Tk} {d : List Dn} {cs : List Value} {rb : Nat} {o : Obj} (hq : res = .ok x r d) (hA : W.heap[rb]? = some o) (ho : ∃ c, o = .cells c 62 (0, 0)) (hlo : w.heap.size ≤ rb) (hF : Fr B w W) (hP : PS B M W pb all r (told ++ d)) (hpb : pb < rb) (hc : IsCs (fun b => w.heap.size ≤ b ∧ b ≠ rb) W (encD 26 36 (val x)) cs) :
    Post B M w pb all told (fun x => vD w.heap.size (val x)) res (.returned (.agg cs.toArray)) (putL W rb cs) := by
  obtain ⟨c, rfl⟩ := ho
  exact .ok hq (hF.putL hlo cs) ⟨cs, rfl, (hc.putL _ (fun b hb => hb.2) cs).mono (fun b _ hb => hb.1)⟩ (hP.putL hA (by decide) hpb cs)
theorem vD_bare (A : Nat → Prop) (w : World) (k a : Nat) (n : Bs) : IsCs A w (encD 26 36 ⟨k, a, n, [], []⟩) [.int .i64 (k : Nat), .int .i64 (a : Nat), .string ⟨n.toArray⟩, .slice none 0 0, .slice none 0 0] := by
  simp only [encD, encEs, encTs, List.length_nil]
  exact .cons (.num _ _ _) (.cons (.num _ _ _) (.cons (.str _ _ _) (.cons (.none _ _ _ (by decide)) (.cons (.none _ _ _ (by decide)) (.nil _ _)))))
theorem Lw.setAlloc {w : World} {lo b : Nat} {t : TypeId} {l l' : List Dt} {cs cs' : List Value} (h : Lw w lo b t l cs) (i : Nat) (v : Value) (o : Obj) (hcs : cs' = cs.set i v) (h' : IsCs (fun k => lo < k ∧ k ≠ b) (w.alloc o) l' cs') : Lw ((w.setCell ⟨b, i, none⟩ v).alloc o) lo b t l' cs' := by
  subst hcs
  have hb := heap_setCell_same w b i _ _ v h.blk
  refine ⟨blk_alloc (by simpa using hb) o, h.ty, h.lt, IsCs.kept (S := fun k => k = b) (by simp [World.setCell]) (fun k hk hn => ?_) (fun k hk => hk.2) _ _ h'⟩
  simp only [World.alloc, Array.getElem?_push]
  have hs : (w.setCell ⟨b, i, none⟩ v).heap.size = w.heap.size := by simp [World.setCell]
  rw [hs]
  split
  · rfl
  · exact Below.heap_setCell w ⟨b, i, none⟩ v k hn

set_option maxHeartbeats 1000000 in
theorem named_any {B M : Nat} {pb : Nat} {all : List Tk} (kind : Nat) (w : World) (ts : List Tk) (told : List Dn) (h : PS B M w pb all ts told) :
    Calls Tryz.prog 74 #[.pointer (some ⟨pb, 0, none⟩), .int .i64 (kind : Nat)] w (Post B M w pb all told (fun nm => vD w.heap.size ⟨kind, nm.a, nm.t, [], []⟩) (wantName ts)) := by
  have HPB := Lib.hid h.lt
  have P0 := Lib.hid (h.alloc zD).nil
  have A0 := Lib.hid (show (w.alloc zD).heap[w.heap.size]? = some zD from heap_alloc_new w zD)
  have F0 := Lib.hid ((Fr.refl B w).alloc zD)
  have Z0 := Lib.hid (show w.heap.size < (w.alloc zD).heap.size by simp)
  clear h
  obtain ⟨res, hres⟩ : ∃ res, res = wantName ts := ⟨_, rfl⟩
  rw [← hres]
  have HQ0 := Lib.hid hres
  clear hres
  go_enter Tryz.func74, Tryz.ntmps74
  go_wp2_with fail
  refine (wantName_any P0.out).mono ?_
  rintro e w1 ⟨f1, h1⟩
  cases hr1 : wantName ts with
  | bad y r d =>
    rw [hr1] at h1
    obtain ⟨rfl, p1⟩ := h1
    go_wp2_with fail
    exact panics rfl (.bad (HQ0.out.trans hr1) (F0.out.trans f1) (p1.told_eq (by simp)))
  | ok nm r d =>
    rw [hr1] at h1
    obtain ⟨h1, p1⟩ := h1
    cases h1
    have HW := Lib.hid (HQ0.out.trans hr1)
    have P1 := Lib.hid ((p1.told_eq (show _ = told ++ d by simp)).alloc (.cells #[.int .i64 (nm.k : Nat), .int .i64 (nm.a : Nat), .string ⟨nm.t.toArray⟩] 88))
    have F1 := Lib.hid ((F0.out.trans f1).alloc (.cells #[.int .i64 (nm.k : Nat), .int .i64 (nm.a : Nat), .string ⟨nm.t.toArray⟩] 88))
    have A1 := Lib.hid (blk_alloc (f1.cells A0.out (by decide)) (.cells #[.int .i64 (nm.k : Nat), .int .i64 (nm.a : Nat), .string ⟨nm.t.toArray⟩] 88))
    have T1 : Thr (w1.alloc (.cells #[.int .i64 (nm.k : Nat), .int .i64 (nm.a : Nat), .string ⟨nm.t.toArray⟩] 88)) w1.heap.size 88 _ _ _ := thr_new w1 88 _ _ _
    have HTH := Lib.hid (there_of A1.out rfl)
    clear hr1 p1 f1 HQ0 P0 F0 A0 Z0
    unfold tokV
    go_upto_region 2 with fail
    obtain ⟨W, hW⟩ : ∃ W, w1.alloc (.cells #[.int .i64 (nm.k : Nat), .int .i64 (nm.a : Nat), .string ⟨nm.t.toArray⟩] 88) = W := ⟨_, rfl⟩
    rw [hW] at P1 F1 A1 T1 HTH
    rw [hW]
    obtain ⟨⟨t0, t1, t2⟩, -⟩ := thr_of T1
    clear hW T1
    go_wp2_with (first | (refine wpList_store_put rfl 62 (.tmp 4) (.tmp 13) rfl w.heap.size _ rfl rfl HTH.out size62 (all_oneCell_toArray (by simp [Value.oneCell'])) ?_; intro W9 hW9))
    have e9 : W9 = putL W w.heap.size [.int .i64 (kind : Nat), .int .i64 (nm.a : Nat), .string ⟨nm.t.toArray⟩, .slice none 0 0, .slice none 0 0] := hW9.out
    subst e9
    exact ret62 rfl rfl rfl (putL_at (vs := [_, _, _, _, _]) A1.out rfl) (giveD (val := fun nm => ⟨kind, nm.a, nm.t, [], []⟩) HW.out A1.out ⟨_, rfl⟩ (Nat.le_refl _) F1.out P1.out HPB.out (vD_bare _ _ kind nm.a nm.t))

end Go.Proofs.YthpoffklhpbdoaaGreatDoor

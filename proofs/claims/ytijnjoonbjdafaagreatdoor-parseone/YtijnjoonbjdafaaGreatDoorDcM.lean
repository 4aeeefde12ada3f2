/-
  Declarations in cells; the contract of the reader of names.
  The contract of the reader of declarations.
-/
import Derived.Test.YtijnjoonbjdafaaGreatDoorExL
namespace Go.Proofs.YtijnjoonbjdafaaGreatDoor
set_option maxRecDepth 20000
open Go.RowKit Go.Shelf
def Fiv (w : World) (b : Nat) (t : TypeId) (v0 v1 v2 v3 v4 : Value) : Prop := w.heap[b]? = some (.cells #[v0, v1, v2, v3, v4] t (0, 0))
theorem fiv_of {w : World} {b : Nat} {t : TypeId} {v0 v1 v2 v3 v4 : Value} (h : Fiv w b t v0 v1 v2 v3 v4) :
    (w.cell? ⟨b, 0, none⟩ = some v0 ∧ w.cell? ⟨b, 1, none⟩ = some v1 ∧ w.cell? ⟨b, 2, none⟩ = some v2 ∧ w.cell? ⟨b, 3, none⟩ = some v3 ∧ w.cell? ⟨b, 4, none⟩ = some v4) ∧
    w.frozen? ⟨b, 0, none⟩ = false ∧ w.frozen? ⟨b, 1, none⟩ = false ∧ w.frozen? ⟨b, 2, none⟩ = false ∧ w.frozen? ⟨b, 3, none⟩ = false ∧ w.frozen? ⟨b, 4, none⟩ = false := by
  unfold Fiv at h
  simp [World.cell?, World.frozen?, h]
theorem ret62 {f : Func} {R : Ending → World → Prop} {a : Act} {w : World} {b s : Nat} {u0 u1 u2 u3 u4 : Value} (hf : f.results = #[.cell s 61]) (ht : a.eval (.tmp s) = .pointer (some ⟨b, 0, none⟩)) (hd : a.defers = [])
    (h : Fiv w b 61 u0 u1 u2 u3 u4) (hR : R (.returned (.agg #[u0, u1, u2, u3, u4])) w) : bodyPost Tryz.prog f R Exit.ret a w := by
  obtain ⟨⟨c0, c1, c2, c3, c4⟩, -⟩ := fiv_of h
  refine bodyPost_ret ?_ hd hR
  simp [Act.eval] at ht
  simp [results, hf, go_sem, c0, c1, c2, c3, c4, ht]
theorem size62 : (Tryz.prog.info? 61).map (·.size) = some 5 := by kernel_rfl
abbrev zD : Obj := .cells #[.int .i64 0, .int .i64 0, .string ⟨#[]⟩, .slice none 0 0, .slice none 0 0] 61
def vD (lo : Nat) (t : PD) (e : Ending) (w' : World) : Prop := ∃ cs, e = .returned (.agg cs.toArray) ∧ IsCs (fun b => lo ≤ b) w' (encD 26 36 t) cs
theorem cells_D {A : Nat → Prop} {w : World} {t : PD} {cs : List Value} (h : IsCs A w (encD 26 36 t) cs) : ∃ (k a : Int) (n : ByteArray) (a3 : Option Addr) (n3 c3 : Nat) (a4 : Option Addr) (n4 c4 : Nat), cs = [.int .i64 k, .int .i64 a, .string n, .slice a3 n3 c3, .slice a4 n4 c4] := by
  obtain ⟨k, a, n, l, ts⟩ := t
  simp only [encD] at h
  obtain ⟨x0, ys, rfl, h0, h⟩ := h.uncons
  obtain ⟨x1, ys, rfl, h1, h⟩ := h.uncons
  obtain ⟨x2, ys, rfl, h2, h⟩ := h.uncons
  obtain ⟨x3, ys, rfl, h3, h⟩ := h.uncons
  obtain ⟨x4, ys, rfl, h4, h⟩ := h.uncons
  simp only [IsCs] at h
  subst h
  simp only [IsC] at h0 h1 h2
  subst h0 h1 h2
  obtain ⟨a3, c3, rfl⟩ := slice_form h3
  obtain ⟨a4, c4, rfl⟩ := slice_form h4
  exact ⟨_, _, _, _, _, _, _, _, _, rfl⟩
theorem giveD {α : Type} {B M : Nat} {w W : World} {pb : Nat} {all : List Tk} {told : List Dn} {val : α → PD} {res : R α} {x : α} {r : List Tk} {d : List Dn} {cs : List Value} {rb : Nat} {o : Obj} (hq : res = .ok x r d) (hA : W.heap[rb]? = some o) (ho : ∃ c, o = .cells c 61 (0, 0)) (hlo : w.heap.size ≤ rb) (hF : Fr B w W) (hP : PS B M W pb all r (told ++ d)) (hpb : pb < rb) (hc : IsCs (fun b => w.heap.size ≤ b ∧ b ≠ rb) W (encD 26 36 (val x)) cs) :
    Post B M w pb all told (fun x => vD w.heap.size (val x)) res (.returned (.agg cs.toArray)) (putL W rb cs) := by
  obtain ⟨c, rfl⟩ := ho
  exact .ok hq (hF.putL hlo cs) ⟨cs, rfl, (hc.putL _ (fun b hb => hb.2) cs).mono (fun b _ hb => hb.1)⟩ (hP.putL hA (by decide) hpb cs)
theorem vD_bare (A : Nat → Prop) (w : World) (k a : Nat) (n : Bs) : IsCs A w (encD 26 36 ⟨k, a, n, [], []⟩) [.int .i64 (k : Nat), .int .i64 (a : Nat), .string ⟨n.toArray⟩, .slice none 0 0, .slice none 0 0] := by
  simp only [encD, encEs, encTs, List.length_nil]
  exact .cons (.num _ _ _) (.cons (.num _ _ _) (.cons (.str _ _ _) (.cons (.none _ _ _ (by decide)) (.cons (.none _ _ _ (by decide)) (.nil _ _)))))
theorem Lw.setAlloc {w : World} {lo b : Nat} {t : TypeId} {l l' : List Dt} {cs cs' : List Value} (h : Lw w lo b t l cs) (i : Nat) (v : Value) (o : Obj) (hcs : cs' = cs.set i v) (h' : IsCs (fun k => lo < k ∧ k ≠ b) (w.alloc o) l' cs') : Lw ((w.setCell ⟨b, i, none⟩ v).alloc o) lo b t l' cs' := by
  subst hcs
  have hb := heap_setCell_same w b i _ _ v h.blk
  refine ⟨blk_alloc (by simpa using hb) o, h.ty, h.lt, IsCs.kept (S := fun k => k = b) (by simp [World.setCell]) (fun k hk hn => ?_) (fun k hk => hk.2) _ _ h'⟩
  simp only [World.alloc, Array.getElem?_push]
  have hs : (w.setCell ⟨b, i, none⟩ v).heap.size = w.heap.size := by simp [World.setCell]
  rw [hs]
  split
  · rfl
  · exact Below.heap_setCell w ⟨b, i, none⟩ v k hn
set_option maxHeartbeats 1000000 in
theorem named_any {B M : Nat} {pb : Nat} {all : List Tk} (kind : Nat) (w : World) (ts : List Tk) (told : List Dn) (h : PS B M w pb all ts told) :
    Calls Tryz.prog 97 #[.pointer (some ⟨pb, 0, none⟩), .int .i64 (kind : Nat)] w (Post B M w pb all told (fun nm => vD w.heap.size ⟨kind, nm.a, nm.t, [], []⟩) (wantName ts)) := by
  have HPB := Lib.hid h.lt
  have P0 := Lib.hid (h.alloc zD).nil
  have A0 := Lib.hid (show (w.alloc zD).heap[w.heap.size]? = some zD from heap_alloc_new w zD)
  have F0 := Lib.hid ((Fr.refl B w).alloc zD)
  have Z0 := Lib.hid (show w.heap.size < (w.alloc zD).heap.size by simp)
  clear h
  obtain ⟨res, hres⟩ : ∃ res, res = wantName ts := ⟨_, rfl⟩
  rw [← hres]
  have HQ0 := Lib.hid hres
  clear hres
  go_enter Tryz.func97, Tryz.ntmps97
  go_wp2_with fail
  refine (wantName_any P0.out).mono ?_
  rintro e w1 ⟨f1, h1⟩
  cases hr1 : wantName ts with
  | bad y r d =>
    rw [hr1] at h1
    obtain ⟨rfl, p1⟩ := h1
    go_wp2_with fail
    exact panics rfl (.bad (HQ0.out.trans hr1) (F0.out.trans f1) (p1.told_eq (by simp)))
  | ok nm r d =>
    rw [hr1] at h1
    obtain ⟨h1, p1⟩ := h1
    cases h1
    have HW := Lib.hid (HQ0.out.trans hr1)
    have P1 := Lib.hid ((p1.told_eq (show _ = told ++ d by simp)).alloc (.cells #[.int .i64 (nm.k : Nat), .int .i64 (nm.a : Nat), .string ⟨nm.t.toArray⟩] 105))
    have F1 := Lib.hid ((F0.out.trans f1).alloc (.cells #[.int .i64 (nm.k : Nat), .int .i64 (nm.a : Nat), .string ⟨nm.t.toArray⟩] 105))
    have A1 := Lib.hid (blk_alloc (f1.cells A0.out (by decide)) (.cells #[.int .i64 (nm.k : Nat), .int .i64 (nm.a : Nat), .string ⟨nm.t.toArray⟩] 105))
    have T1 : Thr (w1.alloc (.cells #[.int .i64 (nm.k : Nat), .int .i64 (nm.a : Nat), .string ⟨nm.t.toArray⟩] 105)) w1.heap.size 105 _ _ _ := thr_new w1 105 _ _ _
    have HTH := Lib.hid (there_of A1.out rfl)
    clear hr1 p1 f1 HQ0 P0 F0 A0 Z0
    unfold tokV
    go_upto_region 2 with fail
    obtain ⟨W, hW⟩ : ∃ W, w1.alloc (.cells #[.int .i64 (nm.k : Nat), .int .i64 (nm.a : Nat), .string ⟨nm.t.toArray⟩] 105) = W := ⟨_, rfl⟩
    rw [hW] at P1 F1 A1 T1 HTH
    rw [hW]
    obtain ⟨⟨t0, t1, t2⟩, -⟩ := thr_of T1
    clear hW T1
    go_wp2_with (first | (refine wpList_store_put rfl 61 (.tmp 4) (.tmp 13) rfl w.heap.size _ rfl rfl HTH.out size62 (all_oneCell_toArray (by simp [Value.oneCell'])) ?_; intro W9 hW9))
    have e9 : W9 = putL W w.heap.size [.int .i64 (kind : Nat), .int .i64 (nm.a : Nat), .string ⟨nm.t.toArray⟩, .slice none 0 0, .slice none 0 0] := hW9.out
    subst e9
    exact ret62 rfl rfl rfl (putL_at (vs := [_, _, _, _, _]) A1.out rfl) (giveD (val := fun nm => ⟨kind, nm.a, nm.t, [], []⟩) HW.out A1.out ⟨_, rfl⟩ (Nat.le_refl _) F1.out P1.out HPB.out (vD_bare _ _ kind nm.a nm.t))
end Go.Proofs.YtijnjoonbjdafaaGreatDoor
namespace Go.Proofs.YtijnjoonbjdafaaGreatDoor
set_option maxRecDepth 20000
open Go.RowKit Go.Shelf
theorem setT {A : Nat → Prop} {w : World} {d : PD} {cs : List Value} {v : Value} {t : PT} (h : IsCs A w (encD 26 36 d) cs) (hv : IsC A w (.row 26 4 1 (encTs 26 [t])) v) : IsCs A w (encD 26 36 ⟨d.k, d.a, d.n, [t], d.es⟩) (cs.set 3 v) := by
  simp only [encD] at h
  obtain ⟨x0, ys, rfl, h0, h⟩ := h.uncons
  obtain ⟨x1, ys, rfl, h1, h⟩ := h.uncons
  obtain ⟨x2, ys, rfl, h2, h⟩ := h.uncons
  obtain ⟨x3, ys, rfl, h3, h⟩ := h.uncons
  exact .cons h0 (.cons h1 (.cons h2 (.cons hv h)))
theorem setE {A : Nat → Prop} {w : World} {d : PD} {cs : List Value} {v : Value} {t : PE} (h : IsCs A w (encD 26 36 d) cs) (hv : IsC A w (.row 36 7 1 (encEs 26 36 [t])) v) : IsCs A w (encD 26 36 ⟨d.k, d.a, d.n, d.ts, [t]⟩) (cs.set 4 v) := by
  simp only [encD] at h
  obtain ⟨x0, ys, rfl, h0, h⟩ := h.uncons
  obtain ⟨x1, ys, rfl, h1, h⟩ := h.uncons
  obtain ⟨x2, ys, rfl, h2, h⟩ := h.uncons
  obtain ⟨x3, ys, rfl, h3, h⟩ := h.uncons
  obtain ⟨x4, ys, rfl, h4, h⟩ := h.uncons
  exact .cons h0 (.cons h1 (.cons h2 (.cons h3 (.cons hv h))))
theorem named_1 {B M : Nat} {pb : Nat} {all : List Tk} {w : World} {ts : List Tk} {told : List Dn} (h : PS B M w pb all ts told) :
    Calls Tryz.prog 97 #[.pointer (some ⟨pb, 0, none⟩), .int .i64 1] w (Post B M w pb all told (fun nm => vD w.heap.size ⟨1, nm.a, nm.t, [], []⟩) (wantName ts)) := named_any 1 w ts told h
theorem named_2 {B M : Nat} {pb : Nat} {all : List Tk} {w : World} {ts : List Tk} {told : List Dn} (h : PS B M w pb all ts told) :
    Calls Tryz.prog 97 #[.pointer (some ⟨pb, 0, none⟩), .int .i64 2] w (Post B M w pb all told (fun nm => vD w.heap.size ⟨2, nm.a, nm.t, [], []⟩) (wantName ts)) := named_any 2 w ts told h
theorem named_3 {B M : Nat} {pb : Nat} {all : List Tk} {w : World} {ts : List Tk} {told : List Dn} (h : PS B M w pb all ts told) :
    Calls Tryz.prog 97 #[.pointer (some ⟨pb, 0, none⟩), .int .i64 3] w (Post B M w pb all told (fun nm => vD w.heap.size ⟨3, nm.a, nm.t, [], []⟩) (wantName ts)) := named_any 3 w ts told h
set_option maxHeartbeats 2000000 in
theorem decl_any {B M : Nat} {pb : Nat} {all : List Tk}
    (HT : ∀ w ts told, PS B M w pb all ts told → Calls Tryz.prog 43 #[.pointer (some ⟨pb, 0, none⟩), .int .i64 1] w (Post B M w pb all told (vT w.heap.size) (typ 64 ts)))
    (HE : ∀ w ts told, PS B M w pb all ts told → Calls Tryz.prog 47 #[.pointer (some ⟨pb, 0, none⟩), .int .i64 1] w (Post B M w pb all told (vE w.heap.size) (exp 64 ts)))
    (w : World) (ts : List Tk) (told : List Dn) (h : PS B M w pb all ts told) :
    Calls Tryz.prog 55 #[.pointer (some ⟨pb, 0, none⟩)] w (Post B M w pb all told (vD w.heap.size) (declP ts)) := by
  have HT := Lib.hid HT
  have HE := Lib.hid HE
  have HPB := Lib.hid h.lt
  obtain ⟨W0, hW0⟩ : ∃ W0, (w.alloc zD).alloc zD = W0 := ⟨_, rfl⟩
  obtain ⟨vb, hvb⟩ : ∃ vb, w.heap.size + 1 = vb := ⟨_, rfl⟩
  have P0 := Lib.hid (show PS B M W0 pb all ts (told ++ []) by rw [← hW0]; exact ((h.alloc zD).alloc zD).nil)
  have A0 := Lib.hid (show W0.heap[w.heap.size]? = some zD by rw [← hW0]; exact blk_alloc (heap_alloc_new w zD) zD)
  have F0 := Lib.hid (show Fr B w W0 by rw [← hW0]; exact ((Fr.refl B w).alloc zD).alloc zD)
  have Z0 := Lib.hid (show w.heap.size < W0.heap.size by rw [← hW0]; simp; omega)
  have Lb0 := Lib.hid (show Lw W0 w.heap.size vb 61 (encD 26 36 ⟨0, 0, [], [], []⟩) [.int .i64 0, .int .i64 0, .string ⟨#[]⟩, .slice none 0 0, .slice none 0 0] from ⟨by
    rw [← hW0, ← hvb]
    have := heap_alloc_new (w.alloc zD) zD
    simpa using this, by decide, by omega, vD_bare _ _ 0 0 []⟩)
  have HVB := Lib.hid (show pb < vb by have := HPB.out; omega)
  have HW0 := Lib.hid hW0
  have HVV := Lib.hid hvb
  obtain ⟨res, hres⟩ : ∃ res, res = declP ts := ⟨_, rfl⟩
  rw [← hres]
  have HQ := Lib.hid hres
  clear h hW0 hvb hres
  go_enter Tryz.func55, Tryz.ntmps55
  go_upto_region 8 with fail
  rw [HW0.out, HVV.out]
  go_wp2_with fail
  refine (takes_any P0.out [117, 115, 101]).mono ?_
  rintro e w1 ⟨rfl, p1, f1⟩
  have F1 := Lib.hid (F0.out.trans f1)
  have A1 := Lib.hid (f1.cells A0.out (by decide))
  have Z1 := Lib.hid (Nat.lt_of_lt_of_le Z0.out f1.size)
  have Lb1 := Lib.hid (Lb0.out.fr f1)
  clear f1 P0 F0 A0 Z0 Lb0
  cases hm1 : isM [117, 115, 101] ts with
  | true =>
    simp only [hm1, if_true] at p1
    have P1 := Lib.hid p1
    have HQ1 := Lib.hid (show res = R.tell [] ((wantName ts.tail).bind fun nm r => (want [59] r).bind fun _ r => .ok ⟨1, nm.a, nm.t, [], []⟩ r []) by rw [HQ.out, R.tell_nil]; simp [declP, hm1])
    clear hm1 p1
    go_wp2_with fail
    refine (named_1 P1.out).mono ?_
    rintro e w2 ⟨f2, h2⟩
    cases hr2 : wantName ts.tail with
    | bad y r d =>
      rw [hr2] at h2
      obtain ⟨rfl, p2⟩ := h2
      go_wp2_with fail
      exact panics rfl (.bad (HQ1.out.trans (by rw [hr2, R.bind_bad, R.tell_bad])) (F1.out.trans f2) p2.assoc)
    | ok nm r2 d2 =>
    rw [hr2] at h2
    obtain ⟨⟨cs2, rfl, hcs2⟩, p2⟩ := h2
    obtain ⟨kd2, ad2, nd2, p32, n32, c32, p42, n42, c42, rfl⟩ := cells_D hcs2
    have HQ2 := Lib.hid (HQ1.out.trans (by rw [hr2, R.bind_ok, R.tell_tell]))
    have hl2 := Lb1.out.fr f2
    have HL2 := Lib.hid hl2
    have HDT2 := Lib.hid (hcs2.mono (A' := fun b => w.heap.size < b ∧ b ≠ vb) (fun b _ hb => by have := (Array.getElem?_eq_some_iff.1 Lb1.out.blk).1; have := Lb1.out.lt; exact ⟨by omega, by omega⟩))
    have HTH2 := Lib.hid (there_of hl2.blk rfl)
    have HP2 := Lib.hid p2.assoc
    have HF2 := Lib.hid (F1.out.trans f2)
    have HA2 := Lib.hid (f2.cells A1.out (by decide))
    have HZ2 := Lib.hid (Nat.lt_of_lt_of_le Z1.out f2.size)
    clear hr2 p2 f2 hcs2 hl2 HQ1 P1 F1 A1 Z1 Lb1
    go_wp2_with (first | (refine wpList_store_put rfl 61 (.tmp 3) (.tmp 24) rfl vb _ rfl rfl HTH2.out size62 (all_oneCell_toArray (by simp [Value.oneCell'])) ?_; intro v2 hv2))
    have e2 : v2 = putL w2 vb [.int .i64 kd2, .int .i64 ad2, .string nd2, .slice p32 n32 c32, .slice p42 n42 c42] := hv2.out
    have Lb2 := Lib.hid (show Lw v2 w.heap.size vb 61 (encD 26 36 ⟨1, nm.a, nm.t, [], []⟩) [.int .i64 kd2, .int .i64 ad2, .string nd2, .slice p32 n32 c32, .slice p42 n42 c42] by rw [e2]; exact HL2.out.put rfl HDT2.out)
    have P2 := Lib.hid (show PS B M v2 pb all r2 _ by rw [e2]; exact HP2.out.putL HL2.out.blk (by decide) HVB.out _)
    have F2 := Lib.hid (show Fr B w v2 by rw [e2]; exact HF2.out.putL (Nat.le_of_lt HL2.out.lt) _)
    have A2 := Lib.hid (show v2.heap[w.heap.size]? = some zD by rw [e2]; exact (putL_far vb _ _ _ _ (Nat.ne_of_lt HL2.out.lt)).trans HA2.out)
    have Z2 := Lib.hid (show w.heap.size < v2.heap.size by rw [e2, (putL_same vb _ 0 w2).2.2.2]; exact HZ2.out)
    clear e2 hv2 HL2 HDT2 HTH2 HP2 HF2 HA2 HZ2
    refine (want_any P2.out [59]).mono ?_
    rintro e w3 ⟨f3, h3⟩
    cases hr3 : want [59] r2 with
    | bad y r d =>
      rw [hr3] at h3
      obtain ⟨rfl, p3⟩ := h3
      go_wp2_with fail
      exact panics rfl (.bad (HQ2.out.trans (by rw [hr3, R.bind_bad, R.tell_bad])) (F2.out.trans f3) p3.assoc)
    | ok x3 r3 d3 =>
    rw [hr3] at h3
    obtain ⟨h3, p3⟩ := h3
    cases h3
    have HQ3 := Lib.hid (HQ2.out.trans (by rw [hr3, R.bind_ok, R.tell_tell]))
    have P3 := Lib.hid p3.assoc
    have F3 := Lib.hid (F2.out.trans f3)
    have A3 := Lib.hid (f3.cells A2.out (by decide))
    have Z3 := Lib.hid (Nat.lt_of_lt_of_le Z2.out f3.size)
    have Lb3 := Lib.hid (Lb2.out.fr f3)
    clear hr3 p3 f3 HQ2 P2 F2 A2 Z2 Lb2
    obtain ⟨⟨g0, g1, g2, g3, g4⟩, -⟩ := fiv_of (show Fiv w3 vb 61 (.int .i64 kd2) (.int .i64 ad2) (.string nd2) (.slice p32 n32 c32) (.slice p42 n42 c42) from Lb3.out.blk)
    have HTH := Lib.hid (there_of A3.out rfl)
    go_wp2_with (first | (refine wpList_store_put rfl 61 (.tmp 2) (.tmp 38) rfl w.heap.size _ rfl rfl HTH.out size62 (all_oneCell_toArray (by simp [Value.oneCell'])) ?_; intro W9 hW9))
    have e9 : W9 = putL w3 w.heap.size [.int .i64 kd2, .int .i64 ad2, .string nd2, .slice p32 n32 c32, .slice p42 n42 c42] := hW9.out
    subst e9
    exact ret62 rfl rfl rfl (putL_at (vs := [_, _, _, _, _]) A3.out rfl) (giveD (val := fun x => x) (HQ3.out.trans (by rw [R.tell_ok, List.append_nil])) A3.out ⟨_, rfl⟩ (Nat.le_refl _) F3.out P3.out HPB.out (Lb3.out.data.mono (fun b _ hb => ⟨Nat.le_of_lt hb.1, Nat.ne_of_gt hb.1⟩)))
  | false =>
  simp only [hm1, Bool.false_eq_true, if_false] at p1
  have P1 := Lib.hid p1
  have HM1 := Lib.hid hm1
  clear hm1 p1
  go_wp2_with fail
  refine (takes_any P1.out [116, 121, 112, 101]).mono ?_
  rintro e w2 ⟨rfl, p2, f2⟩
  have F2 := Lib.hid (F1.out.trans f2)
  have A2 := Lib.hid (f2.cells A1.out (by decide))
  have Z2 := Lib.hid (Nat.lt_of_lt_of_le Z1.out f2.size)
  have Lb2 := Lib.hid (Lb1.out.fr f2)
  clear f2 P1 F1 A1 Z1 Lb1
  cases hm2 : isM [116, 121, 112, 101] ts with
  | true =>
    simp only [hm2, if_true] at p2
    have P2 := Lib.hid p2
    have HQ2 := Lib.hid (show res = R.tell [] ((wantName ts.tail).bind fun nm r => (want [61] r).bind fun _ r => (typ 64 r).bind fun t r => (want [59] r).bind fun _ r => .ok ⟨2, nm.a, nm.t, [t], []⟩ r []) by rw [HQ.out, R.tell_nil]; simp [declP, HM1.out, hm2])
    clear hm2 p2
    go_wp2_with fail
    refine (named_2 P2.out).mono ?_
    rintro e w3 ⟨f3, h3⟩
    cases hr3 : wantName ts.tail with
    | bad y r d =>
      rw [hr3] at h3
      obtain ⟨rfl, p3⟩ := h3
      go_wp2_with fail
      exact panics rfl (.bad (HQ2.out.trans (by rw [hr3, R.bind_bad, R.tell_bad])) (F2.out.trans f3) p3.assoc)
    | ok nm r3 d3 =>
    rw [hr3] at h3
    obtain ⟨⟨cs3, rfl, hcs3⟩, p3⟩ := h3
    obtain ⟨kd3, ad3, nd3, p33, n33, c33, p43, n43, c43, rfl⟩ := cells_D hcs3
    have HQ3 := Lib.hid (HQ2.out.trans (by rw [hr3, R.bind_ok, R.tell_tell]))
    have hl3 := Lb2.out.fr f3
    have HL3 := Lib.hid hl3
    have HDT3 := Lib.hid (hcs3.mono (A' := fun b => w.heap.size < b ∧ b ≠ vb) (fun b _ hb => by have := (Array.getElem?_eq_some_iff.1 Lb2.out.blk).1; have := Lb2.out.lt; exact ⟨by omega, by omega⟩))
    have HTH3 := Lib.hid (there_of hl3.blk rfl)
    have HP3 := Lib.hid p3.assoc
    have HF3 := Lib.hid (F2.out.trans f3)
    have HA3 := Lib.hid (f3.cells A2.out (by decide))
    have HZ3 := Lib.hid (Nat.lt_of_lt_of_le Z2.out f3.size)
    clear hr3 p3 f3 hcs3 hl3 HQ2 P2 F2 A2 Z2 Lb2
    go_wp2_with (first | (refine wpList_store_put rfl 61 (.tmp 3) (.tmp 29) rfl vb _ rfl rfl HTH3.out size62 (all_oneCell_toArray (by simp [Value.oneCell'])) ?_; intro v3 hv3))
    have e3 : v3 = putL w3 vb [.int .i64 kd3, .int .i64 ad3, .string nd3, .slice p33 n33 c33, .slice p43 n43 c43] := hv3.out
    have Lb3 := Lib.hid (show Lw v3 w.heap.size vb 61 (encD 26 36 ⟨2, nm.a, nm.t, [], []⟩) [.int .i64 kd3, .int .i64 ad3, .string nd3, .slice p33 n33 c33, .slice p43 n43 c43] by rw [e3]; exact HL3.out.put rfl HDT3.out)
    have P3 := Lib.hid (show PS B M v3 pb all r3 _ by rw [e3]; exact HP3.out.putL HL3.out.blk (by decide) HVB.out _)
    have F3 := Lib.hid (show Fr B w v3 by rw [e3]; exact HF3.out.putL (Nat.le_of_lt HL3.out.lt) _)
    have A3 := Lib.hid (show v3.heap[w.heap.size]? = some zD by rw [e3]; exact (putL_far vb _ _ _ _ (Nat.ne_of_lt HL3.out.lt)).trans HA3.out)
    have Z3 := Lib.hid (show w.heap.size < v3.heap.size by rw [e3, (putL_same vb _ 0 w3).2.2.2]; exact HZ3.out)
    clear e3 hv3 HL3 HDT3 HTH3 HP3 HF3 HA3 HZ3
    refine (want_any P3.out [61]).mono ?_
    rintro e w4 ⟨f4, h4⟩
    cases hr4 : want [61] r3 with
    | bad y r d =>
      rw [hr4] at h4
      obtain ⟨rfl, p4⟩ := h4
      go_wp2_with fail
      exact panics rfl (.bad (HQ3.out.trans (by rw [hr4, R.bind_bad, R.tell_bad])) (F3.out.trans f4) p4.assoc)
    | ok x4 r4 d4 =>
    rw [hr4] at h4
    obtain ⟨h4, p4⟩ := h4
    cases h4
    have HQ4 := Lib.hid (HQ3.out.trans (by rw [hr4, R.bind_ok, R.tell_tell]))
    have P4 := Lib.hid p4.assoc
    have F4 := Lib.hid (F3.out.trans f4)
    have A4 := Lib.hid (f4.cells A3.out (by decide))
    have Z4 := Lib.hid (Nat.lt_of_lt_of_le Z3.out f4.size)
    have Lb4 := Lib.hid (Lb3.out.fr f4)
    clear hr4 p4 f4 HQ3 P3 F3 A3 Z3 Lb3
    go_wp2_with fail
    refine (HT.out _ _ _ P4.out).mono ?_
    rintro e w5 ⟨f5, h5⟩
    cases hr5 : typ 64 r4 with
    | bad y r d =>
      rw [hr5] at h5
      obtain ⟨rfl, p5⟩ := h5
      go_wp2_with fail
      exact panics rfl (.bad (HQ4.out.trans (by rw [hr5, R.bind_bad, R.tell_bad])) (F4.out.trans f5) p5.assoc)
    | ok t r5 d5 =>
    rw [hr5] at h5
    obtain ⟨⟨cs5, rfl, hcs5⟩, p5⟩ := h5
    obtain ⟨kt5, nt5, q25, m25, e25, q35, m35, e35, rfl⟩ := cells_T hcs5
    have HQ5 := Lib.hid (HQ4.out.trans (by rw [hr5, R.bind_ok, R.tell_tell]))
    have hl5 := Lb4.out.fr f5
    have HL5 := Lib.hid hl5
    have HDT5 := Lib.hid (hcs5.mono (A' := fun b => w.heap.size < b ∧ b ≠ vb) (fun b _ hb => by have := (Array.getElem?_eq_some_iff.1 Lb4.out.blk).1; have := Lb4.out.lt; exact ⟨by omega, by omega⟩))
    obtain ⟨⟨g0, g1, g2, g3, g4⟩, z0, z1, z2, z3, z4⟩ := fiv_of (show Fiv w5 vb 61 (.int .i64 kd3) (.int .i64 ad3) (.string nd3) (.slice p33 n33 c33) (.slice p43 n43 c43) from hl5.blk)
    have hvl5 : vb < w5.heap.size := (Array.getElem?_eq_some_iff.1 hl5.blk).1
    have hvn5 : ¬ vb = w5.heap.size := Nat.ne_of_lt hvl5
    have HP5 := Lib.hid p5.assoc
    have HF5 := Lib.hid (F4.out.trans f5)
    have HA5 := Lib.hid (f5.cells A4.out (by decide))
    have HZ5 := Lib.hid (Nat.lt_of_lt_of_le Z4.out f5.size)
    clear hr5 p5 f5 hcs5 hl5 HQ4 P4 F4 A4 Z4 Lb4
    go_wp2_with fail
    obtain ⟨v5, hv5⟩ : ∃ v, (w5.setCell ⟨vb, 3, none⟩ (.slice (some ⟨w5.heap.size, 0, none⟩) 1 1)).alloc (.cells #[.int .i64 kt5, .string nt5, .slice q25 m25 e25, .slice q35 m35 e35] 26) = v := ⟨_, rfl⟩
    have Lb5 := Lib.hid (show Lw v5 w.heap.size vb 61 (encD 26 36 ⟨2, nm.a, nm.t, [t], []⟩) [.int .i64 kd3, .int .i64 ad3, .string nd3, .slice (some ⟨w5.heap.size, 0, none⟩) 1 1, .slice p43 n43 c43] by
      rw [← hv5]
      refine HL5.out.setAlloc 3 (.slice (some ⟨w5.heap.size, 0, none⟩) 1 1) (.cells #[.int .i64 kt5, .string nt5, .slice q25 m25 e25, .slice q35 m35 e35] 26) rfl (setT (d := ⟨2, nm.a, nm.t, [], []⟩) (HL5.out.data.below ((Below.refl _ _).alloc (Nat.le_refl _) _)) ?_)
      exact row_lit (e := 26) (size := 4) (n := 1) (g := w5.heap.size) (by decide) rfl ⟨HZ5.out, Nat.ne_of_gt hvl5⟩ (by decide) rfl (by have := HDT5.out; simpa [encTs] using this))
    have P5 := Lib.hid (show PS B M v5 pb all r5 _ by rw [← hv5]; exact (HP5.out.setNew HL5.out.blk (by decide) HVB.out 3 _).alloc _)
    have F5 := Lib.hid (show Fr B w v5 by rw [← hv5]; exact (HF5.out.setNew (b := vb) (i := 3) (Nat.le_of_lt HL5.out.lt) _).alloc _)
    have A5 := Lib.hid (show v5.heap[w.heap.size]? = some zD by rw [← hv5]; exact blk_alloc ((Below.heap_setCell _ _ _ _ (Nat.ne_of_lt HL5.out.lt)).trans HA5.out) _)
    have Z5 := Lib.hid (show w.heap.size < v5.heap.size by rw [← hv5]; have := HZ5.out; simp [World.setCell]; omega)
    rw [hv5]
    clear hv5 HL5 HDT5 HP5 HF5 HA5 HZ5 g0 g1 g2 g3 g4 z0 z1 z2 z3 z4 hvl5 hvn5
    refine (want_any P5.out [59]).mono ?_
    rintro e w6 ⟨f6, h6⟩
    cases hr6 : want [59] r5 with
    | bad y r d =>
      rw [hr6] at h6
      obtain ⟨rfl, p6⟩ := h6
      go_wp2_with fail
      exact panics rfl (.bad (HQ5.out.trans (by rw [hr6, R.bind_bad, R.tell_bad])) (F5.out.trans f6) p6.assoc)
    | ok x6 r6 d6 =>
    rw [hr6] at h6
    obtain ⟨h6, p6⟩ := h6
    cases h6
    have HQ6 := Lib.hid (HQ5.out.trans (by rw [hr6, R.bind_ok, R.tell_tell]))
    have P6 := Lib.hid p6.assoc
    have F6 := Lib.hid (F5.out.trans f6)
    have A6 := Lib.hid (f6.cells A5.out (by decide))
    have Z6 := Lib.hid (Nat.lt_of_lt_of_le Z5.out f6.size)
    have Lb6 := Lib.hid (Lb5.out.fr f6)
    clear hr6 p6 f6 HQ5 P5 F5 A5 Z5 Lb5
    obtain ⟨⟨g0, g1, g2, g3, g4⟩, -⟩ := fiv_of (show Fiv w6 vb 61 (.int .i64 kd3) (.int .i64 ad3) (.string nd3) (.slice (some ⟨w5.heap.size, 0, none⟩) 1 1) (.slice p43 n43 c43) from Lb6.out.blk)
    have HTH := Lib.hid (there_of A6.out rfl)
    go_wp2_with (first | (refine wpList_store_put rfl 61 (.tmp 2) (.tmp 38) rfl w.heap.size _ rfl rfl HTH.out size62 (all_oneCell_toArray (by simp [Value.oneCell'])) ?_; intro W9 hW9))
    have e9 : W9 = putL w6 w.heap.size [.int .i64 kd3, .int .i64 ad3, .string nd3, .slice (some ⟨w5.heap.size, 0, none⟩) 1 1, .slice p43 n43 c43] := hW9.out
    subst e9
    exact ret62 rfl rfl rfl (putL_at (vs := [_, _, _, _, _]) A6.out rfl) (giveD (val := fun x => x) (HQ6.out.trans (by rw [R.tell_ok, List.append_nil])) A6.out ⟨_, rfl⟩ (Nat.le_refl _) F6.out P6.out HPB.out (Lb6.out.data.mono (fun b _ hb => ⟨Nat.le_of_lt hb.1, Nat.ne_of_gt hb.1⟩)))
  | false =>
  simp only [hm2, Bool.false_eq_true, if_false] at p2
  have P2 := Lib.hid p2
  have HM2 := Lib.hid hm2
  clear hm2 p2
  have HQ2 := Lib.hid (show res = R.tell [] ((want [108, 101, 116] ts).bind fun _ r => (wantName r).bind fun nm r =>
      if isM [58] r then (typ 64 r.tail).bind fun t r => (want [61] r).bind fun _ r => (exp 64 r).bind fun e r => (want [59] r).bind fun _ r => .ok ⟨3, nm.a, nm.t, [t], [e]⟩ r []
      else (want [61] r).bind fun _ r => (exp 64 r).bind fun e r => (want [59] r).bind fun _ r => .ok ⟨3, nm.a, nm.t, [], [e]⟩ r []) by rw [HQ.out, R.tell_nil]; simp [declP, HM1.out, HM2.out])
  go_wp2_with fail
  refine (want_any P2.out [108, 101, 116]).mono ?_
  rintro e w3 ⟨f3, h3⟩
  cases hr3 : want [108, 101, 116] ts with
  | bad y r d =>
    rw [hr3] at h3
    obtain ⟨rfl, p3⟩ := h3
    go_wp2_with fail
    exact panics rfl (.bad (HQ2.out.trans (by rw [hr3, R.bind_bad, R.tell_bad])) (F2.out.trans f3) p3.assoc)
  | ok x3 r3 d3 =>
  rw [hr3] at h3
  obtain ⟨h3, p3⟩ := h3
  cases h3
  have HQ3 := Lib.hid (HQ2.out.trans (by rw [hr3, R.bind_ok, R.tell_tell]))
  have P3 := Lib.hid p3.assoc
  have F3 := Lib.hid (F2.out.trans f3)
  have A3 := Lib.hid (f3.cells A2.out (by decide))
  have Z3 := Lib.hid (Nat.lt_of_lt_of_le Z2.out f3.size)
  have Lb3 := Lib.hid (Lb2.out.fr f3)
  clear hr3 p3 f3 HQ2 P2 F2 A2 Z2 Lb2
  go_wp2_with fail
  refine (named_3 P3.out).mono ?_
  rintro e w4 ⟨f4, h4⟩
  cases hr4 : wantName r3 with
  | bad y r d =>
    rw [hr4] at h4
    obtain ⟨rfl, p4⟩ := h4
    go_wp2_with fail
    exact panics rfl (.bad (HQ3.out.trans (by rw [hr4, R.bind_bad, R.tell_bad])) (F3.out.trans f4) p4.assoc)
  | ok nm r4 d4 =>
  rw [hr4] at h4
  obtain ⟨⟨cs4, rfl, hcs4⟩, p4⟩ := h4
  obtain ⟨kd4, ad4, nd4, p34, n34, c34, p44, n44, c44, rfl⟩ := cells_D hcs4
  have HQ4 := Lib.hid (HQ3.out.trans (by rw [hr4, R.bind_ok, R.tell_tell]))
  have hl4 := Lb3.out.fr f4
  have HL4 := Lib.hid hl4
  have HDT4 := Lib.hid (hcs4.mono (A' := fun b => w.heap.size < b ∧ b ≠ vb) (fun b _ hb => by have := (Array.getElem?_eq_some_iff.1 Lb3.out.blk).1; have := Lb3.out.lt; exact ⟨by omega, by omega⟩))
  have HTH4 := Lib.hid (there_of hl4.blk rfl)
  have HP4 := Lib.hid p4.assoc
  have HF4 := Lib.hid (F3.out.trans f4)
  have HA4 := Lib.hid (f4.cells A3.out (by decide))
  have HZ4 := Lib.hid (Nat.lt_of_lt_of_le Z3.out f4.size)
  clear hr4 p4 f4 hcs4 hl4 HQ3 P3 F3 A3 Z3 Lb3
  go_wp2_with (first | (refine wpList_store_put rfl 61 (.tmp 3) (.tmp 7) rfl vb _ rfl rfl HTH4.out size62 (all_oneCell_toArray (by simp [Value.oneCell'])) ?_; intro v4 hv4))
  have e4 : v4 = putL w4 vb [.int .i64 kd4, .int .i64 ad4, .string nd4, .slice p34 n34 c34, .slice p44 n44 c44] := hv4.out
  have Lb4 := Lib.hid (show Lw v4 w.heap.size vb 61 (encD 26 36 ⟨3, nm.a, nm.t, [], []⟩) [.int .i64 kd4, .int .i64 ad4, .string nd4, .slice p34 n34 c34, .slice p44 n44 c44] by rw [e4]; exact HL4.out.put rfl HDT4.out)
  have P4 := Lib.hid (show PS B M v4 pb all r4 _ by rw [e4]; exact HP4.out.putL HL4.out.blk (by decide) HVB.out _)
  have F4 := Lib.hid (show Fr B w v4 by rw [e4]; exact HF4.out.putL (Nat.le_of_lt HL4.out.lt) _)
  have A4 := Lib.hid (show v4.heap[w.heap.size]? = some zD by rw [e4]; exact (putL_far vb _ _ _ _ (Nat.ne_of_lt HL4.out.lt)).trans HA4.out)
  have Z4 := Lib.hid (show w.heap.size < v4.heap.size by rw [e4, (putL_same vb _ 0 w4).2.2.2]; exact HZ4.out)
  clear e4 hv4 HL4 HDT4 HTH4 HP4 HF4 HA4 HZ4
  refine (takes_any P4.out [58]).mono ?_
  rintro e w5 ⟨rfl, p5, f5⟩
  have F5 := Lib.hid (F4.out.trans f5)
  have A5 := Lib.hid (f5.cells A4.out (by decide))
  have Z5 := Lib.hid (Nat.lt_of_lt_of_le Z4.out f5.size)
  have Lb5 := Lib.hid (Lb4.out.fr f5)
  clear f5 P4 F4 A4 Z4 Lb4
  cases hm5 : isM [58] r4 with
  | true =>
    simp only [hm5, if_true] at p5
    have P5 := Lib.hid p5
    have HQ5 := Lib.hid (HQ4.out.trans (by rw [hm5, if_pos rfl]))
    clear hm5 p5
    go_wp2_with fail
    refine (HT.out _ _ _ P5.out).mono ?_
    rintro e w6 ⟨f6, h6⟩
    cases hr6 : typ 64 r4.tail with
    | bad y r d =>
      rw [hr6] at h6
      obtain ⟨rfl, p6⟩ := h6
      go_wp2_with fail
      exact panics rfl (.bad (HQ5.out.trans (by rw [hr6, R.bind_bad, R.tell_bad])) (F5.out.trans f6) p6.assoc)
    | ok t r6 d6 =>
    rw [hr6] at h6
    obtain ⟨⟨cs6, rfl, hcs6⟩, p6⟩ := h6
    obtain ⟨kt6, nt6, q26, m26, e26, q36, m36, e36, rfl⟩ := cells_T hcs6
    have HQ6 := Lib.hid (HQ5.out.trans (by rw [hr6, R.bind_ok, R.tell_tell]))
    have hl6 := Lb5.out.fr f6
    have HL6 := Lib.hid hl6
    have HDT6 := Lib.hid (hcs6.mono (A' := fun b => w.heap.size < b ∧ b ≠ vb) (fun b _ hb => by have := (Array.getElem?_eq_some_iff.1 Lb5.out.blk).1; have := Lb5.out.lt; exact ⟨by omega, by omega⟩))
    obtain ⟨⟨g0, g1, g2, g3, g4⟩, z0, z1, z2, z3, z4⟩ := fiv_of (show Fiv w6 vb 61 (.int .i64 kd4) (.int .i64 ad4) (.string nd4) (.slice p34 n34 c34) (.slice p44 n44 c44) from hl6.blk)
    have hvl6 : vb < w6.heap.size := (Array.getElem?_eq_some_iff.1 hl6.blk).1
    have hvn6 : ¬ vb = w6.heap.size := Nat.ne_of_lt hvl6
    have HP6 := Lib.hid p6.assoc
    have HF6 := Lib.hid (F5.out.trans f6)
    have HA6 := Lib.hid (f6.cells A5.out (by decide))
    have HZ6 := Lib.hid (Nat.lt_of_lt_of_le Z5.out f6.size)
    clear hr6 p6 f6 hcs6 hl6 HQ5 P5 F5 A5 Z5 Lb5
    go_wp2_with fail
    obtain ⟨v6, hv6⟩ : ∃ v, (w6.setCell ⟨vb, 3, none⟩ (.slice (some ⟨w6.heap.size, 0, none⟩) 1 1)).alloc (.cells #[.int .i64 kt6, .string nt6, .slice q26 m26 e26, .slice q36 m36 e36] 26) = v := ⟨_, rfl⟩
    have Lb6 := Lib.hid (show Lw v6 w.heap.size vb 61 (encD 26 36 ⟨3, nm.a, nm.t, [t], []⟩) [.int .i64 kd4, .int .i64 ad4, .string nd4, .slice (some ⟨w6.heap.size, 0, none⟩) 1 1, .slice p44 n44 c44] by
      rw [← hv6]
      refine HL6.out.setAlloc 3 (.slice (some ⟨w6.heap.size, 0, none⟩) 1 1) (.cells #[.int .i64 kt6, .string nt6, .slice q26 m26 e26, .slice q36 m36 e36] 26) rfl (setT (d := ⟨3, nm.a, nm.t, [], []⟩) (HL6.out.data.below ((Below.refl _ _).alloc (Nat.le_refl _) _)) ?_)
      exact row_lit (e := 26) (size := 4) (n := 1) (g := w6.heap.size) (by decide) rfl ⟨HZ6.out, Nat.ne_of_gt hvl6⟩ (by decide) rfl (by have := HDT6.out; simpa [encTs] using this))
    have P6 := Lib.hid (show PS B M v6 pb all r6 _ by rw [← hv6]; exact (HP6.out.setNew HL6.out.blk (by decide) HVB.out 3 _).alloc _)
    have F6 := Lib.hid (show Fr B w v6 by rw [← hv6]; exact (HF6.out.setNew (b := vb) (i := 3) (Nat.le_of_lt HL6.out.lt) _).alloc _)
    have A6 := Lib.hid (show v6.heap[w.heap.size]? = some zD by rw [← hv6]; exact blk_alloc ((Below.heap_setCell _ _ _ _ (Nat.ne_of_lt HL6.out.lt)).trans HA6.out) _)
    have Z6 := Lib.hid (show w.heap.size < v6.heap.size by rw [← hv6]; have := HZ6.out; simp [World.setCell]; omega)
    rw [hv6]
    clear hv6 HL6 HDT6 HP6 HF6 HA6 HZ6 g0 g1 g2 g3 g4 z0 z1 z2 z3 z4 hvl6 hvn6
    refine (want_any P6.out [61]).mono ?_
    rintro e w7 ⟨f7, h7⟩
    cases hr7 : want [61] r6 with
    | bad y r d =>
      rw [hr7] at h7
      obtain ⟨rfl, p7⟩ := h7
      go_wp2_with fail
      exact panics rfl (.bad (HQ6.out.trans (by rw [hr7, R.bind_bad, R.tell_bad])) (F6.out.trans f7) p7.assoc)
    | ok x7 r7 d7 =>
    rw [hr7] at h7
    obtain ⟨h7, p7⟩ := h7
    cases h7
    have HQ7 := Lib.hid (HQ6.out.trans (by rw [hr7, R.bind_ok, R.tell_tell]))
    have P7 := Lib.hid p7.assoc
    have F7 := Lib.hid (F6.out.trans f7)
    have A7 := Lib.hid (f7.cells A6.out (by decide))
    have Z7 := Lib.hid (Nat.lt_of_lt_of_le Z6.out f7.size)
    have Lb7 := Lib.hid (Lb6.out.fr f7)
    clear hr7 p7 f7 HQ6 P6 F6 A6 Z6 Lb6
    go_wp2_with fail
    refine (HE.out _ _ _ P7.out).mono ?_
    rintro e w8 ⟨f8, h8⟩
    cases hr8 : exp 64 r7 with
    | bad y r d =>
      rw [hr8] at h8
      obtain ⟨rfl, p8⟩ := h8
      go_wp2_with fail
      exact panics rfl (.bad (HQ7.out.trans (by rw [hr8, R.bind_bad, R.tell_bad])) (F7.out.trans f8) p8.assoc)
    | ok x r8 d8 =>
    rw [hr8] at h8
    obtain ⟨⟨cs8, rfl, hcs8⟩, p8⟩ := h8
    obtain ⟨ke8, ae8, ne8, me8, q48, m48, e48, q58, m58, e58, q68, m68, e68, rfl⟩ := cells_E hcs8
    have HQ8 := Lib.hid (HQ7.out.trans (by rw [hr8, R.bind_ok, R.tell_tell]))
    have hl8 := Lb7.out.fr f8
    have HL8 := Lib.hid hl8
    have HDT8 := Lib.hid (hcs8.mono (A' := fun b => w.heap.size < b ∧ b ≠ vb) (fun b _ hb => by have := (Array.getElem?_eq_some_iff.1 Lb7.out.blk).1; have := Lb7.out.lt; exact ⟨by omega, by omega⟩))
    obtain ⟨⟨g0, g1, g2, g3, g4⟩, z0, z1, z2, z3, z4⟩ := fiv_of (show Fiv w8 vb 61 (.int .i64 kd4) (.int .i64 ad4) (.string nd4) (.slice (some ⟨w6.heap.size, 0, none⟩) 1 1) (.slice p44 n44 c44) from hl8.blk)
    have hvl8 : vb < w8.heap.size := (Array.getElem?_eq_some_iff.1 hl8.blk).1
    have hvn8 : ¬ vb = w8.heap.size := Nat.ne_of_lt hvl8
    have HP8 := Lib.hid p8.assoc
    have HF8 := Lib.hid (F7.out.trans f8)
    have HA8 := Lib.hid (f8.cells A7.out (by decide))
    have HZ8 := Lib.hid (Nat.lt_of_lt_of_le Z7.out f8.size)
    clear hr8 p8 f8 hcs8 hl8 HQ7 P7 F7 A7 Z7 Lb7
    go_wp2_with fail
    obtain ⟨v8, hv8⟩ : ∃ v, (w8.setCell ⟨vb, 4, none⟩ (.slice (some ⟨w8.heap.size, 0, none⟩) 1 1)).alloc (.cells #[.int .i64 ke8, .int .i64 ae8, .string ne8, .int .i64 me8, .slice q48 m48 e48, .slice q58 m58 e58, .slice q68 m68 e68] 36) = v := ⟨_, rfl⟩
    have Lb8 := Lib.hid (show Lw v8 w.heap.size vb 61 (encD 26 36 ⟨3, nm.a, nm.t, [t], [x]⟩) [.int .i64 kd4, .int .i64 ad4, .string nd4, .slice (some ⟨w6.heap.size, 0, none⟩) 1 1, .slice (some ⟨w8.heap.size, 0, none⟩) 1 1] by
      rw [← hv8]
      refine HL8.out.setAlloc 4 (.slice (some ⟨w8.heap.size, 0, none⟩) 1 1) (.cells #[.int .i64 ke8, .int .i64 ae8, .string ne8, .int .i64 me8, .slice q48 m48 e48, .slice q58 m58 e58, .slice q68 m68 e68] 36) rfl (setE (d := ⟨3, nm.a, nm.t, [t], []⟩) (HL8.out.data.below ((Below.refl _ _).alloc (Nat.le_refl _) _)) ?_)
      exact row_lit (e := 36) (size := 7) (n := 1) (g := w8.heap.size) (by decide) rfl ⟨HZ8.out, Nat.ne_of_gt hvl8⟩ (by decide) rfl (by have := HDT8.out; simpa [encEs] using this))
    have P8 := Lib.hid (show PS B M v8 pb all r8 _ by rw [← hv8]; exact (HP8.out.setNew HL8.out.blk (by decide) HVB.out 4 _).alloc _)
    have F8 := Lib.hid (show Fr B w v8 by rw [← hv8]; exact (HF8.out.setNew (b := vb) (i := 4) (Nat.le_of_lt HL8.out.lt) _).alloc _)
    have A8 := Lib.hid (show v8.heap[w.heap.size]? = some zD by rw [← hv8]; exact blk_alloc ((Below.heap_setCell _ _ _ _ (Nat.ne_of_lt HL8.out.lt)).trans HA8.out) _)
    have Z8 := Lib.hid (show w.heap.size < v8.heap.size by rw [← hv8]; have := HZ8.out; simp [World.setCell]; omega)
    rw [hv8]
    clear hv8 HL8 HDT8 HP8 HF8 HA8 HZ8 g0 g1 g2 g3 g4 z0 z1 z2 z3 z4 hvl8 hvn8
    refine (want_any P8.out [59]).mono ?_
    rintro e w9 ⟨f9, h9⟩
    cases hr9 : want [59] r8 with
    | bad y r d =>
      rw [hr9] at h9
      obtain ⟨rfl, p9⟩ := h9
      go_wp2_with fail
      exact panics rfl (.bad (HQ8.out.trans (by rw [hr9, R.bind_bad, R.tell_bad])) (F8.out.trans f9) p9.assoc)
    | ok x9 r9 d9 =>
    rw [hr9] at h9
    obtain ⟨h9, p9⟩ := h9
    cases h9
    have HQ9 := Lib.hid (HQ8.out.trans (by rw [hr9, R.bind_ok, R.tell_tell]))
    have P9 := Lib.hid p9.assoc
    have F9 := Lib.hid (F8.out.trans f9)
    have A9 := Lib.hid (f9.cells A8.out (by decide))
    have Z9 := Lib.hid (Nat.lt_of_lt_of_le Z8.out f9.size)
    have Lb9 := Lib.hid (Lb8.out.fr f9)
    clear hr9 p9 f9 HQ8 P8 F8 A8 Z8 Lb8
    obtain ⟨⟨g0, g1, g2, g3, g4⟩, -⟩ := fiv_of (show Fiv w9 vb 61 (.int .i64 kd4) (.int .i64 ad4) (.string nd4) (.slice (some ⟨w6.heap.size, 0, none⟩) 1 1) (.slice (some ⟨w8.heap.size, 0, none⟩) 1 1) from Lb9.out.blk)
    have HTH := Lib.hid (there_of A9.out rfl)
    go_wp2_with (first | (refine wpList_store_put rfl 61 (.tmp 2) (.tmp 38) rfl w.heap.size _ rfl rfl HTH.out size62 (all_oneCell_toArray (by simp [Value.oneCell'])) ?_; intro W9 hW9))
    have e9 : W9 = putL w9 w.heap.size [.int .i64 kd4, .int .i64 ad4, .string nd4, .slice (some ⟨w6.heap.size, 0, none⟩) 1 1, .slice (some ⟨w8.heap.size, 0, none⟩) 1 1] := hW9.out
    subst e9
    exact ret62 rfl rfl rfl (putL_at (vs := [_, _, _, _, _]) A9.out rfl) (giveD (val := fun x => x) (HQ9.out.trans (by rw [R.tell_ok, List.append_nil])) A9.out ⟨_, rfl⟩ (Nat.le_refl _) F9.out P9.out HPB.out (Lb9.out.data.mono (fun b _ hb => ⟨Nat.le_of_lt hb.1, Nat.ne_of_gt hb.1⟩)))
  | false =>
    simp only [hm5, Bool.false_eq_true, if_false] at p5
    have P5 := Lib.hid p5
    have HQ5 := Lib.hid (HQ4.out.trans (by rw [hm5, if_neg (by decide)]))
    clear hm5 p5
    go_wp2_with fail
    refine (want_any P5.out [61]).mono ?_
    rintro e w6 ⟨f6, h6⟩
    cases hr6 : want [61] r4 with
    | bad y r d =>
      rw [hr6] at h6
      obtain ⟨rfl, p6⟩ := h6
      go_wp2_with fail
      exact panics rfl (.bad (HQ5.out.trans (by rw [hr6, R.bind_bad, R.tell_bad])) (F5.out.trans f6) p6.assoc)
    | ok x6 r6 d6 =>
    rw [hr6] at h6
    obtain ⟨h6, p6⟩ := h6
    cases h6
    have HQ6 := Lib.hid (HQ5.out.trans (by rw [hr6, R.bind_ok, R.tell_tell]))
    have P6 := Lib.hid p6.assoc
    have F6 := Lib.hid (F5.out.trans f6)
    have A6 := Lib.hid (f6.cells A5.out (by decide))
    have Z6 := Lib.hid (Nat.lt_of_lt_of_le Z5.out f6.size)
    have Lb6 := Lib.hid (Lb5.out.fr f6)
    clear hr6 p6 f6 HQ5 P5 F5 A5 Z5 Lb5
    go_wp2_with fail
    refine (HE.out _ _ _ P6.out).mono ?_
    rintro e w7 ⟨f7, h7⟩
    cases hr7 : exp 64 r6 with
    | bad y r d =>
      rw [hr7] at h7
      obtain ⟨rfl, p7⟩ := h7
      go_wp2_with fail
      exact panics rfl (.bad (HQ6.out.trans (by rw [hr7, R.bind_bad, R.tell_bad])) (F6.out.trans f7) p7.assoc)
    | ok x r7 d7 =>
    rw [hr7] at h7
    obtain ⟨⟨cs7, rfl, hcs7⟩, p7⟩ := h7
    obtain ⟨ke7, ae7, ne7, me7, q47, m47, e47, q57, m57, e57, q67, m67, e67, rfl⟩ := cells_E hcs7
    have HQ7 := Lib.hid (HQ6.out.trans (by rw [hr7, R.bind_ok, R.tell_tell]))
    have hl7 := Lb6.out.fr f7
    have HL7 := Lib.hid hl7
    have HDT7 := Lib.hid (hcs7.mono (A' := fun b => w.heap.size < b ∧ b ≠ vb) (fun b _ hb => by have := (Array.getElem?_eq_some_iff.1 Lb6.out.blk).1; have := Lb6.out.lt; exact ⟨by omega, by omega⟩))
    obtain ⟨⟨g0, g1, g2, g3, g4⟩, z0, z1, z2, z3, z4⟩ := fiv_of (show Fiv w7 vb 61 (.int .i64 kd4) (.int .i64 ad4) (.string nd4) (.slice p34 n34 c34) (.slice p44 n44 c44) from hl7.blk)
    have hvl7 : vb < w7.heap.size := (Array.getElem?_eq_some_iff.1 hl7.blk).1
    have hvn7 : ¬ vb = w7.heap.size := Nat.ne_of_lt hvl7
    have HP7 := Lib.hid p7.assoc
    have HF7 := Lib.hid (F6.out.trans f7)
    have HA7 := Lib.hid (f7.cells A6.out (by decide))
    have HZ7 := Lib.hid (Nat.lt_of_lt_of_le Z6.out f7.size)
    clear hr7 p7 f7 hcs7 hl7 HQ6 P6 F6 A6 Z6 Lb6
    go_wp2_with fail
    obtain ⟨v7, hv7⟩ : ∃ v, (w7.setCell ⟨vb, 4, none⟩ (.slice (some ⟨w7.heap.size, 0, none⟩) 1 1)).alloc (.cells #[.int .i64 ke7, .int .i64 ae7, .string ne7, .int .i64 me7, .slice q47 m47 e47, .slice q57 m57 e57, .slice q67 m67 e67] 36) = v := ⟨_, rfl⟩
    have Lb7 := Lib.hid (show Lw v7 w.heap.size vb 61 (encD 26 36 ⟨3, nm.a, nm.t, [], [x]⟩) [.int .i64 kd4, .int .i64 ad4, .string nd4, .slice p34 n34 c34, .slice (some ⟨w7.heap.size, 0, none⟩) 1 1] by
      rw [← hv7]
      refine HL7.out.setAlloc 4 (.slice (some ⟨w7.heap.size, 0, none⟩) 1 1) (.cells #[.int .i64 ke7, .int .i64 ae7, .string ne7, .int .i64 me7, .slice q47 m47 e47, .slice q57 m57 e57, .slice q67 m67 e67] 36) rfl (setE (d := ⟨3, nm.a, nm.t, [], []⟩) (HL7.out.data.below ((Below.refl _ _).alloc (Nat.le_refl _) _)) ?_)
      exact row_lit (e := 36) (size := 7) (n := 1) (g := w7.heap.size) (by decide) rfl ⟨HZ7.out, Nat.ne_of_gt hvl7⟩ (by decide) rfl (by have := HDT7.out; simpa [encEs] using this))
    have P7 := Lib.hid (show PS B M v7 pb all r7 _ by rw [← hv7]; exact (HP7.out.setNew HL7.out.blk (by decide) HVB.out 4 _).alloc _)
    have F7 := Lib.hid (show Fr B w v7 by rw [← hv7]; exact (HF7.out.setNew (b := vb) (i := 4) (Nat.le_of_lt HL7.out.lt) _).alloc _)
    have A7 := Lib.hid (show v7.heap[w.heap.size]? = some zD by rw [← hv7]; exact blk_alloc ((Below.heap_setCell _ _ _ _ (Nat.ne_of_lt HL7.out.lt)).trans HA7.out) _)
    have Z7 := Lib.hid (show w.heap.size < v7.heap.size by rw [← hv7]; have := HZ7.out; simp [World.setCell]; omega)
    rw [hv7]
    clear hv7 HL7 HDT7 HP7 HF7 HA7 HZ7 g0 g1 g2 g3 g4 z0 z1 z2 z3 z4 hvl7 hvn7
    refine (want_any P7.out [59]).mono ?_
    rintro e w8 ⟨f8, h8⟩
    cases hr8 : want [59] r7 with
    | bad y r d =>
      rw [hr8] at h8
      obtain ⟨rfl, p8⟩ := h8
      go_wp2_with fail
      exact panics rfl (.bad (HQ7.out.trans (by rw [hr8, R.bind_bad, R.tell_bad])) (F7.out.trans f8) p8.assoc)
    | ok x8 r8 d8 =>
    rw [hr8] at h8
    obtain ⟨h8, p8⟩ := h8
    cases h8
    have HQ8 := Lib.hid (HQ7.out.trans (by rw [hr8, R.bind_ok, R.tell_tell]))
    have P8 := Lib.hid p8.assoc
    have F8 := Lib.hid (F7.out.trans f8)
    have A8 := Lib.hid (f8.cells A7.out (by decide))
    have Z8 := Lib.hid (Nat.lt_of_lt_of_le Z7.out f8.size)
    have Lb8 := Lib.hid (Lb7.out.fr f8)
    clear hr8 p8 f8 HQ7 P7 F7 A7 Z7 Lb7
    obtain ⟨⟨g0, g1, g2, g3, g4⟩, -⟩ := fiv_of (show Fiv w8 vb 61 (.int .i64 kd4) (.int .i64 ad4) (.string nd4) (.slice p34 n34 c34) (.slice (some ⟨w7.heap.size, 0, none⟩) 1 1) from Lb8.out.blk)
    have HTH := Lib.hid (there_of A8.out rfl)
    go_wp2_with (first | (refine wpList_store_put rfl 61 (.tmp 2) (.tmp 38) rfl w.heap.size _ rfl rfl HTH.out size62 (all_oneCell_toArray (by simp [Value.oneCell'])) ?_; intro W9 hW9))
    have e9 : W9 = putL w8 w.heap.size [.int .i64 kd4, .int .i64 ad4, .string nd4, .slice p34 n34 c34, .slice (some ⟨w7.heap.size, 0, none⟩) 1 1] := hW9.out
    subst e9
    exact ret62 rfl rfl rfl (putL_at (vs := [_, _, _, _, _]) A8.out rfl) (giveD (val := fun x => x) (HQ8.out.trans (by rw [R.tell_ok, List.append_nil])) A8.out ⟨_, rfl⟩ (Nat.le_refl _) F8.out P8.out HPB.out (Lb8.out.data.mono (fun b _ hb => ⟨Nat.le_of_lt hb.1, Nat.ne_of_gt hb.1⟩)))
end Go.Proofs.YtijnjoonbjdafaaGreatDoor

/-
  The contract of the reader of record types, and so the one of the readers of all types, level by level.
-/
import Derived.Test.YtijnjoonbjdafaaGreatDoorSrt
namespace Go.Proofs.YtijnjoonbjdafaaGreatDoor
set_option maxRecDepth 20000
open Go.RowKit Go.Shelf
theorem sort_any {A : Nat → Prop} (w : World) (fs : List (Bs × PT)) (v : Value) (xs : List Value) (hr : w.ownsRow 0 252 5 v fs.length xs) (hc : IsCs A w (encFT fs) xs) (hA : ∀ b, A b → some b ≠ v.ownBlock) (hn : fs.length ≤ 1000000) (hd : (fs.map (·.1)).Nodup) :
    Calls Tryz.prog 192 #[v, .func (.func 193) #[] #[]] w fun e w' => e = .returned (.tuple #[]) ∧ w.grownBy w' v.ownBlock ∧ ∃ xs', w'.ownsRow 0 252 5 v fs.length xs' ∧ IsCs A w' (encFT (sortF fs)) xs' := by
  rcases hr.2 with ⟨rfl, e⟩ | ⟨g, cap, cur, rfl, _⟩
  · obtain rfl : fs = [] := List.eq_nil_of_length_eq_zero e
    refine (sort_none _ w).mono ?_
    rintro e w' ⟨rfl, rfl⟩
    exact ⟨rfl, ⟨rfl, rfl, rfl, Nat.le_refl _, fun _ _ _ => rfl⟩, xs, hr, hc⟩
  · exact sort_T w fs g cap xs hr hc (fun b hb e => hA b hb (by rw [e]; rfl)) hn hd
def Bx2 (pb b0 b1 d : Nat) (w : World) : Prop := w.heap[b0]? = some (.cells #[.pointer (some ⟨pb, 0, none⟩)] 89 (0, 0)) ∧ w.heap[b1]? = some (.cells #[.int .i64 (d : Nat)] 3 (0, 0))
theorem Bx2.fr {B pb b0 b1 d : Nat} (w w' : World) (h : Bx2 pb b0 b1 d w) (hF : Fr B w w') : Bx2 pb b0 b1 d w' := ⟨hF.cells h.1 (by decide), hF.cells h.2 (by decide)⟩
set_option maxHeartbeats 1000000 in
theorem clos_T {B M : Nat} {pb : Nat} {all : List Tk} (k d : Nat) (hd64 : d ≤ 64)
    (HT : ∀ w ts told, PS B M w pb all ts told → Calls Tryz.prog 43 #[.pointer (some ⟨pb, 0, none⟩), .int .i64 ((d + 1 : Nat) : Int)] w (Post B M w pb all told (vT w.heap.size) (typ k ts)))
    (b0 b1 : Nat) (w : World) (ts : List Tk) (told : List Dn) (h : PS B M w pb all ts told) (hb : Bx2 pb b0 b1 d w) :
    Calls Tryz.prog 191 #[.pointer (some ⟨b0, 0, none⟩), .pointer (some ⟨b1, 0, none⟩)] w (Post B M w pb all told (vT w.heap.size) (typ k ts)) := by
  have HT := Lib.hid HT
  have HPB := Lib.hid h.lt
  have P0 := Lib.hid (h.alloc zT)
  have A0 := Lib.hid (show (w.alloc zT).heap[w.heap.size]? = some zT from heap_alloc_new w zT)
  have F0 := Lib.hid ((Fr.refl B w).alloc zT)
  obtain ⟨h0, h1⟩ := hb
  have c0 : w.cell? ⟨b0, 0, none⟩ = some (.pointer (some ⟨pb, 0, none⟩)) := by simp [World.cell?, h0]
  have c1 : w.cell? ⟨b1, 0, none⟩ = some (.int .i64 (d : Nat)) := by simp [World.cell?, h1]
  have l0 : b0 < w.heap.size := (Array.getElem?_eq_some_iff.1 h0).1
  have l1 : b1 < w.heap.size := (Array.getElem?_eq_some_iff.1 h1).1
  have m0 : ¬ b0 = w.heap.size := Nat.ne_of_lt l0
  have m1 : ¬ b1 = w.heap.size := Nat.ne_of_lt l1
  clear h h0 h1
  obtain ⟨res, hres⟩ : ∃ res, res = typ k ts := ⟨_, rfl⟩
  rw [← hres]
  have HQ := Lib.hid hres
  clear hres
  have HD := Lib.hid (show ((d : Int) + 1) = ((d + 1 : Nat) : Int) by omega)
  go_enter Tryz.func191, Tryz.ntmps191
  go_wp2_with fail
  rw [HD.out]
  refine (HT.out _ _ _ P0.out).mono ?_
  rintro e w9 ⟨f9, h9⟩
  cases hr : typ k ts with
  | bad y rest ds =>
    rw [hr] at h9
    obtain ⟨rfl, p9⟩ := h9
    go_wp2_with fail
    exact panics rfl (.bad (HQ.out.trans hr) (F0.out.trans f9) p9)
  | ok x rest ds =>
    have HW := Lib.hid (HQ.out.trans hr)
    rw [hr] at h9
    obtain ⟨⟨cs, rfl, hcs⟩, p9⟩ := h9
    obtain ⟨tk, tn, a2, n2, c2, a3, n3, c3, rfl⟩ := cells_T hcs
    have hA9 := f9.cells A0.out (by decide)
    have F := Lib.hid (F0.out.trans f9)
    have P := Lib.hid p9
    have C := Lib.hid hcs
    obtain ⟨⟨q0, q1, q2, q3⟩, u0, u1, u2, u3⟩ := fou_of (t := 26) hA9
    clear hr f9 p9 hcs
    go_wp2_with fail
    exact ret39s rfl rfl rfl (putL_at hA9 (vs := [_, _, _, _]) rfl) (.ok HW.out (F.out.putL (Nat.le_refl _) [_, _, _, _]) ⟨[.int .i64 tk, .string tn, .slice a2 n2 c2, .slice a3 n3 c3], rfl, (C.out.mono (A' := fun b => w.heap.size ≤ b ∧ b ≠ w.heap.size) (fun b _ hb => by simp at hb; exact ⟨by omega, by omega⟩)).putL _ (fun k hk => hk.2) [_, _, _, _] |>.mono (fun b _ hb => hb.1)⟩ (P.out.putL hA9 (by decide) HPB.out [_, _, _, _]))
abbrev bxP (pb : Nat) : Obj := .cells #[.pointer (some ⟨pb, 0, none⟩)] 89
abbrev bxD (d : Nat) : Obj := .cells #[.int .i64 (d : Nat)] 3
theorem IsCs.setCell {A : Nat → Prop} {w : World} {l : List Dt} {xs : List Value} (h : IsCs A w l xs) (b i : Nat) (hA : ∀ k, A k → k ≠ b) (v : Value) : IsCs A (w.setCell ⟨b, i, none⟩ v) l xs :=
  IsCs.kept (S := fun k => k = b) (by simp [World.setCell]) (fun k _ hk => Below.heap_setCell w ⟨b, i, none⟩ v k hk) (fun k hk => hA k hk) l xs h
set_option maxHeartbeats 400000 in
theorem rec_any {B M : Nat} {pb : Nat} {all : List Tk} (hM : M ≤ 10000000) (hall : ∀ t ∈ all, t.t.length ≤ 1000000) (k d : Nat) (hd64 : d ≤ 64)
    (HT : ∀ w ts told, PS B M w pb all ts told → Calls Tryz.prog 43 #[.pointer (some ⟨pb, 0, none⟩), .int .i64 ((d + 1 : Nat) : Int)] w (Post B M w pb all told (vT w.heap.size) (typ k ts)))
    (w : World) (ts : List Tk) (told : List Dn) (h : PS B M w pb all ts told) :
    Calls Tryz.prog 166 #[.pointer (some ⟨pb, 0, none⟩), .int .i64 (d : Nat)] w (Post B M w pb all told (vT w.heap.size) ((readP [58] (typ k) ts).bind fun fs r => .ok (recT fs) r [])) := by
  have HPB := Lib.hid h.lt
  have HLEN := Lib.hid h.len
  obtain ⟨W0, hW0⟩ : ∃ W0, ((w.alloc (bxP pb)).alloc (bxD d)).alloc zT = W0 := ⟨_, rfl⟩
  have HS0 := Lib.hid (show W0.heap.size = w.heap.size + 3 by rw [← hW0]; simp)
  have HC := fun (w' : World) ts' told' hp hb => clos_T k d hd64 HT w.heap.size (w.heap.size + 1) w' ts' told' hp hb
  have hb0 : Bx2 pb w.heap.size (w.heap.size + 1) d W0 := by
    rw [← hW0]
    refine ⟨blk_alloc (blk_alloc (heap_alloc_new w _) _) _, blk_alloc ?_ _⟩
    have := heap_alloc_new (w.alloc (bxP pb)) (bxD d)
    simpa using this
  have HA0 := Lib.hid (show W0.heap[w.heap.size + 2]? = some zT by
    rw [← hW0]
    have := heap_alloc_new ((w.alloc (bxP pb)).alloc (bxD d)) zT
    simpa using this)
  have HF0 := Lib.hid (show Fr B w W0 by rw [← hW0]; exact (((Fr.refl B w).alloc _).alloc _).alloc _)
  have hp0 : PS B M W0 pb all ts told := by rw [← hW0]; exact ((h.alloc _).alloc _).alloc _
  have HCALL := Lib.hid (fields_T hM hall [58] (typ k) (lvT_shr k).1 w.heap.size (w.heap.size + 1) (Bx2 pb w.heap.size (w.heap.size + 1) d) Bx2.fr HC W0 ts told hp0 hb0)
  have hc0 : W0.cell? ⟨w.heap.size, 0, none⟩ = some (.pointer (some ⟨pb, 0, none⟩)) := by simp [World.cell?, hb0.1]
  have HW0 := Lib.hid hW0
  clear h hp0 hb0 HC hW0 hM hall
  obtain ⟨res, hres⟩ : ∃ res, res = (readP [58] (typ k) ts).bind fun fs r => .ok (recT fs) r [] := ⟨_, rfl⟩
  rw [← hres]
  have HQ := Lib.hid hres
  clear hres
  go_enter Tryz.func166, Tryz.ntmps166
  go_upto_region 1 with fail
  rw [HW0.out]
  go_wp2_with fail
  refine HCALL.out.mono ?_
  rintro e w1 ⟨f1, h1⟩
  cases hr : readP [58] (typ k) ts with
  | bad y rest ds =>
    rw [hr] at h1
    obtain ⟨rfl, p1⟩ := h1
    go_wp2_with fail
    exact panics rfl (.bad (HQ.out.trans (by rw [hr, R.bind_bad])) (HF0.out.trans f1) p1)
  | ok fs rest ds =>
    have HND := Lib.hid (read_nodup hr)
    have HFL := Lib.hid (read_len' (lvT_shr k).1 hr)
    rw [hr] at h1
    obtain ⟨⟨v, xs, rfl, hrow, hown, hcs⟩, p1⟩ := h1
    have HW := Lib.hid (HQ.out.trans (by rw [hr, R.bind_ok, R.tell_ok, List.append_nil]))
    have P1 := Lib.hid p1
    have F1 := Lib.hid (HF0.out.trans f1)
    have A1 := Lib.hid (f1.cells HA0.out (by decide))
    have Z1 := Lib.hid (show w.heap.size + 3 ≤ w1.heap.size by have := f1.size; have := HS0.out; omega)
    have HN := Lib.hid (show fs.length ≤ 1000000 by have := HFL.out; have := HLEN.out.1; omega)
    have HS := Lib.hid (sort_any w1 fs v xs hrow hcs (fun b hb => hb.2) HN.out HND.out)
    have OW := Lib.hid hown
    have RW := Lib.hid hrow
    clear hr f1 p1 hrow hown hcs hc0 HCALL
    go_wp2_with fail
    refine HS.out.mono ?_
    rintro e w2 ⟨rfl, hg2, xs2, hr2, hc2⟩
    have P2 := Lib.hid ((P1.out.grown RW.out (by decide) (fun b hb => by have := OW.out b hb; have := HPB.out; have := HS0.out; omega) hg2).alloc (.cells #[.int .i64 5, .string ⟨#[]⟩, .slice none 0 0, .slice none 0 0] 26))
    have F2 := Lib.hid ((F1.out.grownNew hg2 (fun b hb => by have := OW.out b hb; have := HS0.out; omega)).alloc (.cells #[.int .i64 5, .string ⟨#[]⟩, .slice none 0 0, .slice none 0 0] 26))
    have A2 := Lib.hid (blk_alloc (blk_grown A1.out hg2 (fun e => by have := OW.out _ e.symm; have := HS0.out; omega)) (.cells #[.int .i64 5, .string ⟨#[]⟩, .slice none 0 0, .slice none 0 0] 26))
    have Z2 := Lib.hid (show w.heap.size + 3 ≤ w2.heap.size by have := hg2.size; have := Z1.out; omega)
    have HS2 := Lib.hid (split_T (A := fun b => W0.heap.size ≤ b ∧ b ≠ w2.heap.size) (w2.alloc (.cells #[.int .i64 5, .string ⟨#[]⟩, .slice none 0 0, .slice none 0 0] 26)) (sortF fs) v xs2 (by rw [sortF_length]; exact hr2.alloc _) ((hc2.mono (A' := fun b => W0.heap.size ≤ b ∧ b ≠ w2.heap.size) (fun b hb hb' => ⟨hb'.1, Nat.ne_of_lt hb⟩)).below ((Below.refl _ _).alloc (Nat.le_refl _) _)) (by rw [sortF_length]; exact HN.out))
    clear hg2 hr2 hc2 HS P1 F1 A1 RW OW
    go_wp2_with fail
    refine HS2.out.mono ?_
    rintro e w4 ⟨b4, vn, vv, rfl, hcs⟩
    obtain ⟨n1, hn1⟩ : ∃ n1, n1 = ((sortF fs).map (·.1)).length := ⟨_, rfl⟩
    obtain ⟨m1, hm1⟩ : ∃ m1, m1 = ((sortF fs).map (·.2)).length := ⟨_, rfl⟩
    obtain ⟨x0, ys, e0, k0, hcs'⟩ := hcs.uncons
    obtain ⟨x1, ys', e1, k1, -⟩ := hcs'.uncons
    obtain ⟨a2, c2, e2⟩ := slice_form k0
    obtain ⟨a3, c3, e3⟩ := slice_form k1
    cases e0
    cases e1
    subst e2 e3
    rw [← hn1, ← hm1] at hcs ⊢
    have C4 := Lib.hid hcs
    have P4 := Lib.hid (P2.out.below b4)
    have F4 := Lib.hid (F2.out.below b4)
    have hA4 : Fou w4 (w.heap.size + 2) 26 _ _ _ _ := (b4.block _ (by simp; have := Z2.out; omega)).trans A2.out
    have hB4 : Fou w4 w2.heap.size 26 _ _ _ _ := (b4.block _ (by simp)).trans (heap_alloc_new w2 (.cells #[.int .i64 5, .string ⟨#[]⟩, .slice none 0 0, .slice none 0 0] 26))
    have Z4 := Lib.hid (show w2.heap.size + 1 ≤ w4.heap.size by have := b4.size; simpa using this)
    obtain ⟨⟨q0, q1, q2, q3⟩, u0, u1, u2, u3⟩ := fou_of hB4
    have hne : ¬ w.heap.size + 2 = w2.heap.size := by have := Z2.out; omega
    have hne' : ¬ w2.heap.size = w.heap.size + 2 := by omega
    have HA4 := Lib.hid hA4
    have HB4 := Lib.hid hB4
    have HA5 := Lib.hid (show ((w4.setCell ⟨w2.heap.size, 2, none⟩ (.slice a2 n1 c2)).setCell ⟨w2.heap.size, 3, none⟩ (.slice a3 m1 c3)).heap[w.heap.size + 2]? = some zT from (Below.heap_setCell _ _ _ _ hne).trans ((Below.heap_setCell _ _ _ _ hne).trans HA4.out))
    have HTH := Lib.hid (there_of HA5.out rfl)
    have HN1 := Lib.hid hn1
    have HM1 := Lib.hid hm1
    clear hcs hcs' k0 k1 b4 hA4 hB4 hn1 hm1
    go_wp2_with (first | (refine wpList_store_put rfl 26 (.tmp 4) (.tmp 20) rfl (w.heap.size + 2) _ rfl rfl HTH.out size39 (all_oneCell_toArray (by simp [Value.oneCell'])) ?_; intro W9 hW9))
    have e9 : W9 = putL ((w4.setCell ⟨w2.heap.size, 2, none⟩ (.slice a2 n1 c2)).setCell ⟨w2.heap.size, 3, none⟩ (.slice a3 m1 c3)) (w.heap.size + 2) [.int .i64 5, .string ⟨#[]⟩, .slice a2 n1 c2, .slice a3 m1 c3] := hW9.out
    subst e9
    have ee : encT 26 (recT fs) = [.num 5, .str [], .row 9 1 n1 (List.map Dt.str (List.map (fun x => x.fst) (sortF fs))), .row 26 4 m1 (encTs 26 (List.map (fun x => x.snd) (sortF fs)))] := by rw [HN1.out, HM1.out]; rfl
    have c5 := ((C4.out.mono (A' := fun b => W0.heap.size ≤ b ∧ b ≠ w2.heap.size) (fun b _ hb => by
      rcases hb with hb | hb
      · exact hb.1
      · simp at hb
        have := Z2.out; have := HS0.out
        exact ⟨by omega, by omega⟩)).setCell w2.heap.size 2 (fun b hb => hb.2) (.slice a2 n1 c2)).setCell w2.heap.size 3 (fun b hb => hb.2) (.slice a3 m1 c3)
    have c6 : IsCs (fun b => w.heap.size + 2 < b) ((w4.setCell ⟨w2.heap.size, 2, none⟩ (.slice a2 n1 c2)).setCell ⟨w2.heap.size, 3, none⟩ (.slice a3 m1 c3)) (encT 26 (recT fs)) [.int .i64 5, .string ⟨#[]⟩, .slice a2 n1 c2, .slice a3 m1 c3] := ee ▸ .cons (.num _ _ _) (.cons (.str _ _ _) (c5.mono (A' := fun b => w.heap.size + 2 < b) (fun b _ hb => by have := HS0.out; have := hb.1; omega)))
    have f5 := (F4.out.setNew (b := w2.heap.size) (i := 2) (by have := Z2.out; omega) (.slice a2 n1 c2)).setNew (b := w2.heap.size) (i := 3) (by have := Z2.out; omega) (.slice a3 m1 c3)
    have hb5 := heap_setCell_same w4 w2.heap.size 2 _ _ (.slice a2 n1 c2) HB4.out
    have hpl : pb < w2.heap.size := by have := HPB.out; have := Z2.out; omega
    have p5 := (P4.out.setNew HB4.out (by decide) hpl 2 (.slice a2 n1 c2)).setNew hb5 (by decide) hpl 3 (.slice a3 m1 c3)
    exact ret39s rfl rfl rfl (putL_at (vs := [.int .i64 5, .string ⟨#[]⟩, .slice a2 n1 c2, .slice a3 m1 c3]) HA5.out rfl) (.ok HW.out (f5.putL (by omega) _) ⟨_, rfl, (c6.putL _ (fun b hb => Nat.ne_of_gt hb) _).mono (fun b _ hb => by omega)⟩ (p5.putL HA5.out (by decide) (by have := HPB.out; omega) _))
end Go.Proofs.YtijnjoonbjdafaaGreatDoor

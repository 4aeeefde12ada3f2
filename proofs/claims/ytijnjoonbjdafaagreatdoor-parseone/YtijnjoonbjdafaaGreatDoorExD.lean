/-
  The contracts of the readers of records and of whole expressions.
-/
import Derived.Test.YtijnjoonbjdafaaGreatDoorExC
namespace Go.Proofs.YtijnjoonbjdafaaGreatDoor
set_option maxRecDepth 20000
open Go.RowKit Go.Shelf
set_option maxHeartbeats 1000000 in
theorem clos_E {B M : Nat} {pb : Nat} {all : List Tk} (k d : Nat) (hd64 : d ≤ 64)
    (HT : ∀ w ts told, PS B M w pb all ts told → Calls Tryz.prog 47 #[.pointer (some ⟨pb, 0, none⟩), .int .i64 ((d + 1 : Nat) : Int)] w (Post B M w pb all told (vE w.heap.size) (exp k ts)))
    (b0 b1 : Nat) (w : World) (ts : List Tk) (told : List Dn) (h : PS B M w pb all ts told) (hb : Bx2 pb b0 b1 d w) :
    Calls Tryz.prog 199 #[.pointer (some ⟨b0, 0, none⟩), .pointer (some ⟨b1, 0, none⟩)] w (Post B M w pb all told (vE w.heap.size) (exp k ts)) := by
  have HT := Lib.hid HT
  have HPB := Lib.hid h.lt
  have P0 := Lib.hid (h.alloc zE)
  have A0 := Lib.hid (show (w.alloc zE).heap[w.heap.size]? = some zE from heap_alloc_new w zE)
  have F0 := Lib.hid ((Fr.refl B w).alloc zE)
  obtain ⟨h0, h1⟩ := hb
  have c0 : w.cell? ⟨b0, 0, none⟩ = some (.pointer (some ⟨pb, 0, none⟩)) := by simp [World.cell?, h0]
  have c1 : w.cell? ⟨b1, 0, none⟩ = some (.int .i64 (d : Nat)) := by simp [World.cell?, h1]
  have l0 : b0 < w.heap.size := (Array.getElem?_eq_some_iff.1 h0).1
  have l1 : b1 < w.heap.size := (Array.getElem?_eq_some_iff.1 h1).1
  have m0 : ¬ b0 = w.heap.size := Nat.ne_of_lt l0
  have m1 : ¬ b1 = w.heap.size := Nat.ne_of_lt l1
  clear h h0 h1
  obtain ⟨res, hres⟩ : ∃ res, res = exp k ts := ⟨_, rfl⟩
  rw [← hres]
  have HQ := Lib.hid hres
  clear hres
  have HD := Lib.hid (show ((d : Int) + 1) = ((d + 1 : Nat) : Int) by omega)
  go_enter Tryz.func199, Tryz.ntmps199
  go_wp2_with fail
  rw [HD.out]
  refine (HT.out _ _ _ P0.out).mono ?_
  rintro e w9 ⟨f9, h9⟩
  cases hr : exp k ts with
  | bad y rest ds =>
    rw [hr] at h9
    obtain ⟨rfl, p9⟩ := h9
    go_wp2_with fail
    exact panics rfl (.bad (HQ.out.trans hr) (F0.out.trans f9) p9)
  | ok x rest ds =>
    have HW := Lib.hid (HQ.out.trans hr)
    rw [hr] at h9
    obtain ⟨⟨cs, rfl, hcs⟩, p9⟩ := h9
    obtain ⟨ek, ea, en, em, a4, n4, c4, a5, n5, c5, a6, n6, c6, rfl⟩ := cells_E hcs
    have A9 := Lib.hid (f9.cells A0.out (by decide))
    have F9 := Lib.hid (F0.out.trans f9)
    have P9 := Lib.hid p9
    have C9 := Lib.hid (hcs.mono (A' := fun b => w.heap.size < b) (fun b _ hb => by simp at hb; omega))
    have HTH := Lib.hid (there_of A9.out rfl)
    clear hr f9 p9 hcs
    go_wp2_with (first | (refine wpList_store_put rfl 36 (.tmp 2) (.tmp 6) rfl w.heap.size _ rfl rfl HTH.out size49 (all_oneCell_toArray (by simp [Value.oneCell'])) ?_; intro W9 hW9))
    have e9 : W9 = putL w9 w.heap.size [.int .i64 ek, .int .i64 ea, .string en, .int .i64 em, .slice a4 n4 c4, .slice a5 n5 c5, .slice a6 n6 c6] := hW9.out
    subst e9
    exact ret49 rfl rfl rfl (putL_at (vs := [_, _, _, _, _, _, _]) A9.out rfl) (giveE HW.out A9.out F9.out P9.out HPB.out C9.out)
abbrev vbE (a : Nat) : Obj := .cells #[.int .i64 5, .int .i64 (a : Nat), .string ⟨#[]⟩, .int .i64 0, .slice none 0 0, .slice none 0 0, .slice none 0 0] 36
set_option maxHeartbeats 1000000 in
theorem recE_any {B M : Nat} {pb : Nat} {all : List Tk} (hM : M ≤ 10000000) (hall : ∀ t ∈ all, t.t.length ≤ 1000000) (k d : Nat) (hd64 : d ≤ 64)
    (HE : ∀ w ts told, PS B M w pb all ts told → Calls Tryz.prog 47 #[.pointer (some ⟨pb, 0, none⟩), .int .i64 ((d + 1 : Nat) : Int)] w (Post B M w pb all told (vE w.heap.size) (exp k ts)))
    (at_ : Nat) (w : World) (ts : List Tk) (told : List Dn) (h : PS B M w pb all ts told) :
    Calls Tryz.prog 169 #[.pointer (some ⟨pb, 0, none⟩), .int .i64 (at_ : Nat), .int .i64 (d : Nat)] w (Post B M w pb all told (vE w.heap.size) ((readP [61] (exp k) ts).bind fun fs r => .ok (recE at_ fs) r [])) := by
  have HPB := Lib.hid h.lt
  have HLEN := Lib.hid h.len
  obtain ⟨W0, hW0⟩ : ∃ W0, (((w.alloc (bxP pb)).alloc (bxD d)).alloc zE).alloc (vbE at_) = W0 := ⟨_, rfl⟩
  have HS0 := Lib.hid (show W0.heap.size = w.heap.size + 4 by rw [← hW0]; simp)
  have HC := fun (w' : World) ts' told' hp hb => clos_E k d hd64 HE w.heap.size (w.heap.size + 1) w' ts' told' hp hb
  have hb0 : Bx2 pb w.heap.size (w.heap.size + 1) d W0 := by
    rw [← hW0]
    refine ⟨blk_alloc (blk_alloc (blk_alloc (heap_alloc_new w _) _) _) _, blk_alloc (blk_alloc ?_ _) _⟩
    have := heap_alloc_new (w.alloc (bxP pb)) (bxD d)
    simpa using this
  have HA0 := Lib.hid (show W0.heap[w.heap.size + 2]? = some zE by
    rw [← hW0]
    have := blk_alloc (heap_alloc_new ((w.alloc (bxP pb)).alloc (bxD d)) zE) (vbE at_)
    simpa using this)
  have HV0 := Lib.hid (show W0.heap[w.heap.size + 3]? = some (vbE at_) by
    rw [← hW0]
    have := heap_alloc_new (((w.alloc (bxP pb)).alloc (bxD d)).alloc zE) (vbE at_)
    simpa using this)
  have HF0 := Lib.hid (show Fr B w W0 by rw [← hW0]; exact ((((Fr.refl B w).alloc _).alloc _).alloc _).alloc _)
  have hp0 : PS B M W0 pb all ts told := by rw [← hW0]; exact (((h.alloc _).alloc _).alloc _).alloc _
  have HCALL := Lib.hid (fields_E hM hall [61] (exp k) (exp_shr k) w.heap.size (w.heap.size + 1) (Bx2 pb w.heap.size (w.heap.size + 1) d) Bx2.fr HC W0 ts told hp0 hb0)
  have hc0 : W0.cell? ⟨w.heap.size, 0, none⟩ = some (.pointer (some ⟨pb, 0, none⟩)) := by simp [World.cell?, hb0.1]
  have HW0 := Lib.hid hW0
  clear h hp0 hb0 HC hW0 hM hall
  obtain ⟨res, hres⟩ : ∃ res, res = (readP [61] (exp k) ts).bind fun fs r => .ok (recE at_ fs) r [] := ⟨_, rfl⟩
  rw [← hres]
  have HQ := Lib.hid hres
  clear hres
  go_enter Tryz.func169, Tryz.ntmps169
  go_upto_region 2 with fail
  rw [HW0.out]
  go_wp2_with fail
  refine HCALL.out.mono ?_
  rintro e w1 ⟨f1, h1⟩
  cases hr : readP [61] (exp k) ts with
  | bad y rest ds =>
    rw [hr] at h1
    obtain ⟨rfl, p1⟩ := h1
    go_wp2_with fail
    exact panics rfl (.bad (HQ.out.trans (by rw [hr, R.bind_bad])) (HF0.out.trans f1) p1)
  | ok fs rest ds =>
    have HFL := Lib.hid (read_len' (exp_shr k) hr)
    rw [hr] at h1
    obtain ⟨⟨v, xs, rfl, hrow, hown, hcs⟩, p1⟩ := h1
    have HW := Lib.hid (HQ.out.trans (by rw [hr, R.bind_ok, R.tell_ok, List.append_nil]))
    have P1 := Lib.hid p1
    have F1 := Lib.hid (HF0.out.trans f1)
    have A1 := Lib.hid (f1.cells HA0.out (by decide))
    have V1 := Lib.hid (f1.cells HV0.out (by decide))
    have Z1 := Lib.hid (show w.heap.size + 4 ≤ w1.heap.size by have := f1.size; have := HS0.out; omega)
    have HN := Lib.hid (show fs.length ≤ 1000000 by have := HFL.out; have := HLEN.out.1; omega)
    have HS2 := Lib.hid (split_E (A := fun b => W0.heap.size ≤ b) w1 fs v xs hrow (hcs.mono (fun b _ hb => hb.1)) HN.out)
    clear hr f1 p1 hrow hown hcs hc0 HCALL
    go_wp2_with fail
    refine HS2.out.mono ?_
    rintro e w4 ⟨b4, vn, vv, rfl, hcs⟩
    obtain ⟨n1, hn1⟩ : ∃ n1, n1 = (fs.map (·.1)).length := ⟨_, rfl⟩
    obtain ⟨m1, hm1⟩ : ∃ m1, m1 = (fs.map (·.2)).length := ⟨_, rfl⟩
    obtain ⟨x0, ys, e0, k0, hcs'⟩ := hcs.uncons
    obtain ⟨x1, ys', e1, k1, -⟩ := hcs'.uncons
    obtain ⟨a2, c2, e2⟩ := slice_form k0
    obtain ⟨a3, c3, e3⟩ := slice_form k1
    cases e0
    cases e1
    subst e2 e3
    rw [← hn1, ← hm1] at hcs ⊢
    have C4 := Lib.hid hcs
    have P4 := Lib.hid (P1.out.below b4)
    have F4 := Lib.hid (F1.out.below b4)
    have hA4 := (b4.block _ (Array.getElem?_eq_some_iff.1 A1.out).1).trans A1.out
    have hB4 : Sev w4 (w.heap.size + 3) 36 _ _ _ _ _ _ _ := (b4.block _ (Array.getElem?_eq_some_iff.1 V1.out).1).trans V1.out
    obtain ⟨⟨q0, q1, q2, q3, q4, q5, q6⟩, u0, u1, u2, u3, u4, u5, u6⟩ := sev_of hB4
    have hne : ¬ w.heap.size + 2 = w.heap.size + 3 := by omega
    have HA4 := Lib.hid hA4
    have HB4 := Lib.hid hB4
    have HA5 := Lib.hid (show ((w4.setCell ⟨w.heap.size + 3, 4, none⟩ (.slice a2 n1 c2)).setCell ⟨w.heap.size + 3, 5, none⟩ (.slice a3 m1 c3)).heap[w.heap.size + 2]? = some zE from (Below.heap_setCell _ _ _ _ hne).trans ((Below.heap_setCell _ _ _ _ hne).trans HA4.out))
    have HTH := Lib.hid (there_of HA5.out rfl)
    have HN1 := Lib.hid hn1
    have HM1 := Lib.hid hm1
    clear hcs hcs' k0 k1 b4 hA4 hB4 hn1 hm1
    go_wp2_with (first | (refine wpList_store_put rfl 36 (.tmp 6) (.tmp 19) rfl (w.heap.size + 2) _ rfl rfl HTH.out size49 (all_oneCell_toArray (by simp [Value.oneCell'])) ?_; intro W9 hW9))
    have e9 : W9 = putL ((w4.setCell ⟨w.heap.size + 3, 4, none⟩ (.slice a2 n1 c2)).setCell ⟨w.heap.size + 3, 5, none⟩ (.slice a3 m1 c3)) (w.heap.size + 2) [.int .i64 5, .int .i64 (at_ : Nat), .string ⟨#[]⟩, .int .i64 0, .slice a2 n1 c2, .slice a3 m1 c3, .slice none 0 0] := hW9.out
    subst e9
    have ee : encE 26 36 (recE at_ fs) = [.num 5, .num at_, .str [], .num 0, .row 9 1 n1 (List.map Dt.str (List.map (fun x => x.fst) fs)), .row 36 7 m1 (encEs 26 36 (List.map (fun x => x.snd) fs)), .row 26 4 0 []] := by rw [HN1.out, HM1.out]; rfl
    have c5 := ((C4.out.mono (A' := fun b => w.heap.size + 3 < b) (fun b _ hb => by
      have := HS0.out; have := Z1.out
      rcases hb with hb | hb
      · omega
      · omega)).setCell (w.heap.size + 3) 4 (fun b hb => Nat.ne_of_gt hb) (.slice a2 n1 c2)).setCell (w.heap.size + 3) 5 (fun b hb => Nat.ne_of_gt hb) (.slice a3 m1 c3)
    have c7 := c5.append _ _ _ _ (.cons (.none _ _ 4 (e := 26) (by decide)) (.nil _ _))
    have c6 : IsCs (fun b => w.heap.size + 3 < b) ((w4.setCell ⟨w.heap.size + 3, 4, none⟩ (.slice a2 n1 c2)).setCell ⟨w.heap.size + 3, 5, none⟩ (.slice a3 m1 c3)) (encE 26 36 (recE at_ fs)) [.int .i64 5, .int .i64 (at_ : Nat), .string ⟨#[]⟩, .int .i64 0, .slice a2 n1 c2, .slice a3 m1 c3, .slice none 0 0] := ee ▸ .cons (.num _ _ _) (.cons (.num _ _ _) (.cons (.str _ _ _) (.cons (.num _ _ _) c7)))
    have f5 := (F4.out.setNew (b := w.heap.size + 3) (i := 4) (by omega) (.slice a2 n1 c2)).setNew (b := w.heap.size + 3) (i := 5) (by omega) (.slice a3 m1 c3)
    have hb5 := heap_setCell_same w4 (w.heap.size + 3) 4 _ _ (.slice a2 n1 c2) HB4.out
    have hpl : pb < w.heap.size + 3 := by have := HPB.out; omega
    have p5 := (P4.out.setNew HB4.out (by decide) hpl 4 (.slice a2 n1 c2)).setNew hb5 (by decide) hpl 5 (.slice a3 m1 c3)
    exact ret49 rfl rfl rfl (putL_at (vs := [.int .i64 5, .int .i64 (at_ : Nat), .string ⟨#[]⟩, .int .i64 0, .slice a2 n1 c2, .slice a3 m1 c3, .slice none 0 0]) HA5.out rfl) (.ok HW.out (f5.putL (by omega) _) ⟨_, rfl, (c6.putL _ (fun b hb => by omega) _).mono (fun b _ hb => by omega)⟩ (p5.putL HA5.out (by decide) (by have := HPB.out; omega) _))
set_option maxHeartbeats 1000000 in
theorem expr_any {B M : Nat} {pb : Nat} {all : List Tk} (k d : Nat) (hd64 : d ≤ 64)
    (HF : ∀ (a : Nat) w ts told, PS B M w pb all ts told → Calls Tryz.prog 89 #[.pointer (some ⟨pb, 0, none⟩), .int .i64 (a : Nat), .int .i64 (d : Nat)] w (Post B M w pb all told (vE w.heap.size) (funP (typ k) (exp k) a ts)))
    (HL : ∀ (a : Nat) w ts told, PS B M w pb all ts told → Calls Tryz.prog 90 #[.pointer (some ⟨pb, 0, none⟩), .int .i64 (a : Nat), .int .i64 (d : Nat)] w (Post B M w pb all told (vE w.heap.size) (letP (exp k) a ts)))
    (HI : ∀ (a : Nat) w ts told, PS B M w pb all ts told → Calls Tryz.prog 91 #[.pointer (some ⟨pb, 0, none⟩), .int .i64 (a : Nat), .int .i64 (d : Nat)] w (Post B M w pb all told (vE w.heap.size) (ifP (exp k) a ts)))
    (HC : ∀ w ts told, PS B M w pb all ts told → Calls Tryz.prog 92 #[.pointer (some ⟨pb, 0, none⟩), .int .i64 (d : Nat)] w (Post B M w pb all told (vE w.heap.size) ((basicP (typ k) (exp k) ts).bind fun e r => callP (exp k) r.length e r)))
    (w : World) (ts : List Tk) (told : List Dn) (h : PS B M w pb all ts told) :
    Calls Tryz.prog 47 #[.pointer (some ⟨pb, 0, none⟩), .int .i64 (d : Nat)] w (Post B M w pb all told (vE w.heap.size) (exprP (typ k) (exp k) ts)) := by
  have HF := Lib.hid HF
  have HL := Lib.hid HL
  have HI := Lib.hid HI
  have HC := Lib.hid HC
  have HPB := Lib.hid h.lt
  have HN := Lib.hid (now_any (h.alloc zE))
  have HD := Lib.hid (depth_ok (h.alloc zE) d hd64)
  have P0 := Lib.hid (h.alloc zE)
  have A0 := Lib.hid (show (w.alloc zE).heap[w.heap.size]? = some zE from heap_alloc_new w zE)
  have F0 := Lib.hid ((Fr.refl B w).alloc zE)
  have hfl := fld72_1
  clear h
  obtain ⟨res, hres⟩ : ∃ res, res = exprP (typ k) (exp k) ts := ⟨_, rfl⟩
  rw [← hres]
  have HQ := Lib.hid hres
  clear hres
  obtain ⟨t, ht⟩ : ∃ t, t = hd ts := ⟨_, rfl⟩
  have HT := Lib.hid ht
  rw [← ht] at HN
  clear ht
  go_enter Tryz.func47, Tryz.ntmps47
  go_wp2_with fail
  refine HD.out.mono ?_
  rintro e w1 ⟨rfl, rfl⟩
  go_wp2_with fail
  refine HN.out.mono ?_
  rintro e w1 ⟨rfl, b1⟩
  have A1 := Lib.hid ((b1.block _ (by simp)).trans A0.out)
  have F1 := Lib.hid (F0.out.below b1)
  have P1 := Lib.hid (P0.out.below b1)
  clear b1 A0 F0 P0
  unfold tokV
  go_wp2_with fail
  clear hfl
  refine (takes_any P1.out [102, 117, 110]).mono ?_
  rintro e w2 ⟨rfl, p2, f2⟩
  have A2 := Lib.hid (f2.cells A1.out (by decide))
  have F2 := Lib.hid (F1.out.trans f2)
  clear f2 A1 F1 P1
  cases hm2 : isM [102, 117, 110] ts with
  | true =>
    simp only [hm2, if_true] at p2
    have P2 := Lib.hid p2
    have HW := Lib.hid (show res = funP (typ k) (exp k) t.a ts.tail by rw [HQ.out]; simp [exprP, hm2, HT.out])
    clear hm2 p2
    go_wp2_with fail
    refine (HF.out t.a _ _ _ P2.out).mono ?_
    rintro e w9 ⟨f9, h9⟩
    cases hr : (funP (typ k) (exp k) t.a ts.tail) with
    | bad y rest ds =>
      rw [hr] at h9
      obtain ⟨rfl, p9⟩ := h9
      go_wp2_with fail
      exact panics rfl (.bad (HW.out.trans hr) (F2.out.trans f9) p9)
    | ok x rest ds =>
      have HW := Lib.hid (HW.out.trans hr)
      rw [hr] at h9
      obtain ⟨⟨cs, rfl, hcs⟩, p9⟩ := h9
      obtain ⟨ek, ea, en, em, a4, n4, c4, a5, n5, c5, a6, n6, c6, rfl⟩ := cells_E hcs
      have A9 := Lib.hid (f9.cells A2.out (by decide))
      have F9 := Lib.hid (F2.out.trans f9)
      have P9 := Lib.hid p9
      have C9 := Lib.hid (hcs.mono (A' := fun b => w.heap.size < b) (fun b _ hb => by have := Nat.lt_of_lt_of_le (Array.getElem?_eq_some_iff.1 A2.out).1 hb; omega))
      have HTH := Lib.hid (there_of A9.out rfl)
      clear hr f9 p9 hcs
      go_wp2_with (first | (refine wpList_store_put rfl 36 (.tmp 4) (.tmp 18) rfl w.heap.size _ rfl rfl HTH.out size49 (all_oneCell_toArray (by simp [Value.oneCell'])) ?_; intro W9 hW9))
      have e9 : W9 = putL w9 w.heap.size [.int .i64 ek, .int .i64 ea, .string en, .int .i64 em, .slice a4 n4 c4, .slice a5 n5 c5, .slice a6 n6 c6] := hW9.out
      subst e9
      exact ret49 rfl rfl rfl (putL_at (vs := [_, _, _, _, _, _, _]) A9.out rfl) (giveE HW.out A9.out F9.out P9.out HPB.out C9.out)
  | false =>
  simp only [hm2, Bool.false_eq_true, if_false] at p2
  have P2 := Lib.hid p2
  have HM2 := Lib.hid hm2
  clear hm2 p2
  go_wp2_with fail
  refine (takes_any P2.out [108, 101, 116]).mono ?_
  rintro e w3 ⟨rfl, p3, f3⟩
  have A3 := Lib.hid (f3.cells A2.out (by decide))
  have F3 := Lib.hid (F2.out.trans f3)
  clear f3 A2 F2 P2
  cases hm3 : isM [108, 101, 116] ts with
  | true =>
    simp only [hm3, if_true] at p3
    have P3 := Lib.hid p3
    have HW := Lib.hid (show res = letP (exp k) t.a ts.tail by rw [HQ.out]; simp [exprP, HM2.out, hm3, HT.out])
    clear hm3 p3
    go_wp2_with fail
    refine (HL.out t.a _ _ _ P3.out).mono ?_
    rintro e w9 ⟨f9, h9⟩
    cases hr : (letP (exp k) t.a ts.tail) with
    | bad y rest ds =>
      rw [hr] at h9
      obtain ⟨rfl, p9⟩ := h9
      go_wp2_with fail
      exact panics rfl (.bad (HW.out.trans hr) (F3.out.trans f9) p9)
    | ok x rest ds =>
      have HW := Lib.hid (HW.out.trans hr)
      rw [hr] at h9
      obtain ⟨⟨cs, rfl, hcs⟩, p9⟩ := h9
      obtain ⟨ek, ea, en, em, a4, n4, c4, a5, n5, c5, a6, n6, c6, rfl⟩ := cells_E hcs
      have A9 := Lib.hid (f9.cells A3.out (by decide))
      have F9 := Lib.hid (F3.out.trans f9)
      have P9 := Lib.hid p9
      have C9 := Lib.hid (hcs.mono (A' := fun b => w.heap.size < b) (fun b _ hb => by have := Nat.lt_of_lt_of_le (Array.getElem?_eq_some_iff.1 A3.out).1 hb; omega))
      have HTH := Lib.hid (there_of A9.out rfl)
      clear hr f9 p9 hcs
      go_wp2_with (first | (refine wpList_store_put rfl 36 (.tmp 4) (.tmp 25) rfl w.heap.size _ rfl rfl HTH.out size49 (all_oneCell_toArray (by simp [Value.oneCell'])) ?_; intro W9 hW9))
      have e9 : W9 = putL w9 w.heap.size [.int .i64 ek, .int .i64 ea, .string en, .int .i64 em, .slice a4 n4 c4, .slice a5 n5 c5, .slice a6 n6 c6] := hW9.out
      subst e9
      exact ret49 rfl rfl rfl (putL_at (vs := [_, _, _, _, _, _, _]) A9.out rfl) (giveE HW.out A9.out F9.out P9.out HPB.out C9.out)
  | false =>
  simp only [hm3, Bool.false_eq_true, if_false] at p3
  have P3 := Lib.hid p3
  have HM3 := Lib.hid hm3
  clear hm3 p3
  go_wp2_with fail
  refine (takes_any P3.out [105, 102]).mono ?_
  rintro e w4 ⟨rfl, p4, f4⟩
  have A4 := Lib.hid (f4.cells A3.out (by decide))
  have F4 := Lib.hid (F3.out.trans f4)
  clear f4 A3 F3 P3
  cases hm4 : isM [105, 102] ts with
  | true =>
    simp only [hm4, if_true] at p4
    have P4 := Lib.hid p4
    have HW := Lib.hid (show res = ifP (exp k) t.a ts.tail by rw [HQ.out]; simp [exprP, HM2.out, HM3.out, hm4, HT.out])
    clear hm4 p4
    go_wp2_with fail
    refine (HI.out t.a _ _ _ P4.out).mono ?_
    rintro e w9 ⟨f9, h9⟩
    cases hr : (ifP (exp k) t.a ts.tail) with
    | bad y rest ds =>
      rw [hr] at h9
      obtain ⟨rfl, p9⟩ := h9
      go_wp2_with fail
      exact panics rfl (.bad (HW.out.trans hr) (F4.out.trans f9) p9)
    | ok x rest ds =>
      have HW := Lib.hid (HW.out.trans hr)
      rw [hr] at h9
      obtain ⟨⟨cs, rfl, hcs⟩, p9⟩ := h9
      obtain ⟨ek, ea, en, em, a4, n4, c4, a5, n5, c5, a6, n6, c6, rfl⟩ := cells_E hcs
      have A9 := Lib.hid (f9.cells A4.out (by decide))
      have F9 := Lib.hid (F4.out.trans f9)
      have P9 := Lib.hid p9
      have C9 := Lib.hid (hcs.mono (A' := fun b => w.heap.size < b) (fun b _ hb => by have := Nat.lt_of_lt_of_le (Array.getElem?_eq_some_iff.1 A4.out).1 hb; omega))
      have HTH := Lib.hid (there_of A9.out rfl)
      clear hr f9 p9 hcs
      go_wp2_with (first | (refine wpList_store_put rfl 36 (.tmp 4) (.tmp 32) rfl w.heap.size _ rfl rfl HTH.out size49 (all_oneCell_toArray (by simp [Value.oneCell'])) ?_; intro W9 hW9))
      have e9 : W9 = putL w9 w.heap.size [.int .i64 ek, .int .i64 ea, .string en, .int .i64 em, .slice a4 n4 c4, .slice a5 n5 c5, .slice a6 n6 c6] := hW9.out
      subst e9
      exact ret49 rfl rfl rfl (putL_at (vs := [_, _, _, _, _, _, _]) A9.out rfl) (giveE HW.out A9.out F9.out P9.out HPB.out C9.out)
  | false =>
  simp only [hm4, Bool.false_eq_true, if_false] at p4
  have P4 := Lib.hid p4
  have HM4 := Lib.hid hm4
  clear hm4 p4
  have HW := Lib.hid (show res = ((basicP (typ k) (exp k) ts).bind fun e r => callP (exp k) r.length e r) by rw [HQ.out]; simp [exprP, HM2.out, HM3.out, HM4.out])
  go_wp2_with fail
  refine (HC.out _ _ _ P4.out).mono ?_
  rintro e w9 ⟨f9, h9⟩
  cases hr : ((basicP (typ k) (exp k) ts).bind fun e r => callP (exp k) r.length e r) with
  | bad y rest ds =>
    rw [hr] at h9
    obtain ⟨rfl, p9⟩ := h9
    go_wp2_with fail
    exact panics rfl (.bad (HW.out.trans hr) (F4.out.trans f9) p9)
  | ok x rest ds =>
    have HW := Lib.hid (HW.out.trans hr)
    rw [hr] at h9
    obtain ⟨⟨cs, rfl, hcs⟩, p9⟩ := h9
    obtain ⟨ek, ea, en, em, a4, n4, c4, a5, n5, c5, a6, n6, c6, rfl⟩ := cells_E hcs
    have A9 := Lib.hid (f9.cells A4.out (by decide))
    have F9 := Lib.hid (F4.out.trans f9)
    have P9 := Lib.hid p9
    have C9 := Lib.hid (hcs.mono (A' := fun b => w.heap.size < b) (fun b _ hb => by have := Nat.lt_of_lt_of_le (Array.getElem?_eq_some_iff.1 A4.out).1 hb; omega))
    have HTH := Lib.hid (there_of A9.out rfl)
    clear hr f9 p9 hcs
    go_wp2_with (first | (refine wpList_store_put rfl 36 (.tmp 4) (.tmp 35) rfl w.heap.size _ rfl rfl HTH.out size49 (all_oneCell_toArray (by simp [Value.oneCell'])) ?_; intro W9 hW9))
    have e9 : W9 = putL w9 w.heap.size [.int .i64 ek, .int .i64 ea, .string en, .int .i64 em, .slice a4 n4 c4, .slice a5 n5 c5, .slice a6 n6 c6] := hW9.out
    subst e9
    exact ret49 rfl rfl rfl (putL_at (vs := [_, _, _, _, _, _, _]) A9.out rfl) (giveE HW.out A9.out F9.out P9.out HPB.out C9.out)
set_option maxHeartbeats 1000000 in
theorem expr_deep {B M : Nat} {pb : Nat} {all : List Tk} (d : Nat) (hd : 64 < d) (w : World) (ts : List Tk) (told : List Dn) (h : PS B M w pb all ts told) :
    Calls Tryz.prog 47 #[.pointer (some ⟨pb, 0, none⟩), .int .i64 (d : Nat)] w (Post B M w pb all told (vE w.heap.size) (exp 0 ts)) := by
  have HD := Lib.hid (depth_bad (h.alloc zE) d hd)
  have p0 := Lib.hid (h.alloc zE)
  have hF0 := Lib.hid ((Fr.refl B w).alloc zE)
  have HQ := Lib.hid (show exp 0 ts = .bad (deep ts) ts [] from rfl)
  obtain ⟨res, hres⟩ : ∃ res, res = exp 0 ts := ⟨_, rfl⟩
  rw [← hres]
  have HR := Lib.hid (hres.trans HQ.out)
  clear h hres HQ hd
  go_enter Tryz.func47, Tryz.ntmps47
  go_wp2_with fail
  refine HD.out.mono ?_
  rintro e w1 ⟨rfl, b1⟩
  go_wp2_with fail
  exact panics rfl (.bad HR.out (hF0.out.below b1) (p0.out.below b1).nil)
end Go.Proofs.YtijnjoonbjdafaaGreatDoor

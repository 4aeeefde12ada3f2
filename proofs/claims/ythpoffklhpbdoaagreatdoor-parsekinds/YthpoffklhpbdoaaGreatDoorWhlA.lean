/-
  The contracts of the closures that read a source that is just one type, or expression.
-/
import Derived.Test.YthpoffklhpbdoaaGreatDoorPrsA
namespace Go.Proofs.YthpoffklhpbdoaaGreatDoor
set_option maxRecDepth 20000
open Go.RowKit Go.Shelf

/-- What is just one such thing: it, and then the end. -/
def readW {α : Type} (read : List Tk → R α) (ts : List Tk) : R α := (read ts).bind fun x r => if (hd r).k = 6 then .ok x r [] else .bad (syn r) r []
/-- The boxes of such a closure: the reading function, and the reader. -/
def BxW (pb b3 b6 rd : Nat) (fty : TypeId) (w : World) : Prop := w.heap[b3]? = some (.cells #[.func (.func rd) #[] #[]] fty (0, 0)) ∧ w.heap[b6]? = some (.cells #[.pointer (some ⟨pb, 0, none⟩)] 72 (0, 0)) ∧ stT fty = false
theorem Bx2W.fr {B pb b3 b6 rd : Nat} {fty : TypeId} (w w' : World) (h : BxW pb b3 b6 rd fty w) (hF : Fr B w w') : BxW pb b3 b6 rd fty w' := ⟨hF.cells h.1 h.2.2, hF.cells h.2.1 (by decide), h.2.2⟩

set_option maxHeartbeats 500000 in
theorem whole1_T {B M : Nat} {pb : Nat} {all : List Tk}
    (HT : ∀ w ts told, PS B M w pb all ts told → Calls Tryz.prog 33 #[.pointer (some ⟨pb, 0, none⟩), .int .i64 1] w (Post B M w pb all told (vT w.heap.size) (typ 64 ts)))
    (b3 b6 : Nat) (w : World) (ts : List Tk) (told : List Dn) (h : PS B M w pb all ts told) (hb : BxW pb b3 b6 33 70 w) :
    Calls Tryz.prog 55 #[.pointer (some ⟨b3, 0, none⟩), .pointer (some ⟨b6, 0, none⟩)] w (Post B M w pb all told (vT w.heap.size) (readW (typ 64) ts)) := by
  have HT := Lib.hid HT
  have HPB := Lib.hid h.lt
  have P0 := Lib.hid (h.alloc zT)
  have A0 := Lib.hid (show (w.alloc zT).heap[w.heap.size]? = some zT from heap_alloc_new w zT)
  have F0 := Lib.hid ((Fr.refl B w).alloc zT)
  have HBW := Lib.hid hb
  obtain ⟨h0, h1, -⟩ := hb
  have c0 : w.cell? ⟨b3, 0, none⟩ = some (.func (.func 33) #[] #[]) := by simp [World.cell?, h0]
  have c1 : w.cell? ⟨b6, 0, none⟩ = some (.pointer (some ⟨pb, 0, none⟩)) := by simp [World.cell?, h1]
  have l0 : b3 < w.heap.size := (Array.getElem?_eq_some_iff.1 h0).1
  have l1 : b6 < w.heap.size := (Array.getElem?_eq_some_iff.1 h1).1
  have m0 : ¬ b3 = w.heap.size := Nat.ne_of_lt l0
  have m1 : ¬ b6 = w.heap.size := Nat.ne_of_lt l1
  have hfl := fld72_0
  have HFL := Lib.hid hfl
  clear h h0 h1 hfl
  obtain ⟨res, hres⟩ : ∃ res, res = readW (typ 64) ts := ⟨_, rfl⟩
  rw [← hres]
  have HQ := Lib.hid hres
  clear hres
  go_enter Tryz.func55, Tryz.ntmps55
  go_wp2_with fail
  refine (HT.out _ _ _ P0.out).mono ?_
  rintro e w1 ⟨f1, h1⟩
  cases hr : typ 64 ts with
  | bad y rest ds =>
    rw [hr] at h1
    obtain ⟨rfl, p1⟩ := h1
    go_wp2_with fail
    exact panics rfl (.bad (HQ.out.trans (by rw [readW, hr, R.bind_bad])) (F0.out.trans f1) p1)
  | ok x rest ds =>
    have HQ1 := Lib.hid (show res = R.tell ds (if (hd rest).k = 6 then .ok x rest [] else .bad (syn rest) rest []) from HQ.out.trans (by rw [readW, hr, R.bind_ok]))
    rw [hr] at h1
    obtain ⟨⟨cs, rfl, hcs⟩, p1⟩ := h1
    obtain ⟨tk, tn, a2, n2, c2, a3, n3, c3, rfl⟩ := cells_T hcs
    have hb1 := Bx2W.fr (B := B) _ _ HBW.out (((Fr.refl B w).alloc zT).trans f1 |>.alloc (.cells #[.int .i64 tk, .string tn, .slice a2 n2 c2, .slice a3 n3 c3] 26))
    have c1' : (w1.alloc (.cells #[.int .i64 tk, .string tn, .slice a2 n2 c2, .slice a3 n3 c3] 26)).cell? ⟨b6, 0, none⟩ = some (.pointer (some ⟨pb, 0, none⟩)) := by
      have := hb1.2.1
      simp [World.cell?, this]
    have HB1 := Lib.hid hb1
    have P1 := Lib.hid (p1.alloc (.cells #[.int .i64 tk, .string tn, .slice a2 n2 c2, .slice a3 n3 c3] 26))
    have F1 := Lib.hid ((F0.out.trans f1).alloc (.cells #[.int .i64 tk, .string tn, .slice a2 n2 c2, .slice a3 n3 c3] 26))
    have A1 := Lib.hid (blk_alloc (f1.cells A0.out (by decide)) (.cells #[.int .i64 tk, .string tn, .slice a2 n2 c2, .slice a3 n3 c3] 26))
    have Z1 := Lib.hid (show w.heap.size < w1.heap.size by have := f1.size; simp at this; omega)
    have L1 := Lib.hid (Lv.new (t := 26) (by decide) Z1.out (show w.heap.size < (w.alloc zT).heap.size by simp) hcs)
    clear hr f1 p1 hcs hb1 HQ c0 c1 l0 l1 m0 m1
    go_upto_region 2 with fail
    obtain ⟨W, hW⟩ : ∃ W, w1.alloc (.cells #[.int .i64 tk, .string tn, .slice a2 n2 c2, .slice a3 n3 c3] 26) = W := ⟨_, rfl⟩
    rw [hW] at P1 F1 A1 L1 HB1 c1'
    rw [hW]
    clear hW
    have HNW := Lib.hid (now_any P1.out)
    obtain ⟨t, ht⟩ : ∃ t, t = hd rest := ⟨_, rfl⟩
    have HTT := Lib.hid ht
    rw [← ht] at HNW
    clear ht
    have hfl := HFL.out
    by_cases hk : t.k = 6
    · have hk1 : (t.k : Int) = 6 := by omega
      have hk2 : ((t.k : Int) != 6) = false := by simpa using hk1
      have HW := Lib.hid (show res = .ok x rest ds by rw [HQ1.out, if_pos (by rw [← HTT.out]; exact hk), R.tell_ok, List.append_nil])
      clear hk1 hk
      go_wp2_with fail
      refine HNW.out.mono ?_
      rintro e w2 ⟨rfl, b2⟩
      have P2 := Lib.hid (P1.out.below b2)
      have F2 := Lib.hid (F1.out.below b2)
      have A2 := Lib.hid ((b2.block _ (Array.getElem?_eq_some_iff.1 A1.out).1).trans A1.out)
      have L2 := Lib.hid (L1.out.below b2)
      have HTH := Lib.hid (there_of A2.out rfl)
      obtain ⟨⟨q0, q1, q2, q3⟩, -⟩ := fou_of (t := 26) L2.out.blk
      clear b2
      unfold tokV
      go_wp2_with (first | (refine wpList_store_put rfl 26 (.tmp 2) (.tmp 14) rfl w.heap.size _ rfl rfl HTH.out size39 (all_oneCell_toArray (by simp [Value.oneCell'])) ?_; intro W9 hW9))
      have e9 : W9 = putL w2 w.heap.size [.int .i64 tk, .string tn, .slice a2 n2 c2, .slice a3 n3 c3] := hW9.out
      subst e9
      exact ret39s rfl rfl rfl (putL_at (vs := [.int .i64 tk, .string tn, .slice a2 n2 c2, .slice a3 n3 c3]) A2.out rfl) (.ok HW.out (F2.out.putL (Nat.le_refl _) _) ⟨_, rfl, (L2.out.data.putL _ (fun b hb => Nat.ne_of_gt hb) _).mono (fun b _ hb => Nat.le_of_lt hb)⟩ (P2.out.putL A2.out (by decide) HPB.out _))
    · have hk1 : ¬ (t.k : Int) = 6 := by omega
      have hk2 : ((t.k : Int) != 6) = true := by simpa using hk1
      have HW := Lib.hid (show res = .bad (syn rest) rest ds by rw [HQ1.out, if_neg (by rw [← HTT.out]; exact hk), R.tell_bad, List.append_nil])
      clear hk1 hk
      go_wp2_with fail
      refine HNW.out.mono ?_
      rintro e w2 ⟨rfl, b2⟩
      have P2 := Lib.hid (P1.out.below b2)
      have F2 := Lib.hid (F1.out.below b2)
      have hb2 := Bx2W.fr (B := B) _ _ HB1.out (Fr.of_below b2)
      have c2 : w2.cell? ⟨b6, 0, none⟩ = some (.pointer (some ⟨pb, 0, none⟩)) := by
        have := hb2.2.1
        simp [World.cell?, this]
      clear b2 hb2
      unfold tokV
      go_wp2_with fail
      refine (unwanted_any P2.out).mono ?_
      rintro e w3 ⟨rfl, b3'⟩
      unfold gvV
      go_wp2_with fail
      exact panics rfl (.bad HW.out (F2.out.below b3') (P2.out.below b3'))

set_option maxHeartbeats 500000 in
theorem whole1_E {B M : Nat} {pb : Nat} {all : List Tk}
    (HT : ∀ w ts told, PS B M w pb all ts told → Calls Tryz.prog 37 #[.pointer (some ⟨pb, 0, none⟩), .int .i64 1] w (Post B M w pb all told (vE w.heap.size) (exp 64 ts)))
    (b3 b6 : Nat) (w : World) (ts : List Tk) (told : List Dn) (h : PS B M w pb all ts told) (hb : BxW pb b3 b6 37 81 w) :
    Calls Tryz.prog 64 #[.pointer (some ⟨b3, 0, none⟩), .pointer (some ⟨b6, 0, none⟩)] w (Post B M w pb all told (vE w.heap.size) (readW (exp 64) ts)) := by
  have HT := Lib.hid HT
  have HPB := Lib.hid h.lt
  have P0 := Lib.hid (h.alloc zE)
  have A0 := Lib.hid (show (w.alloc zE).heap[w.heap.size]? = some zE from heap_alloc_new w zE)
  have F0 := Lib.hid ((Fr.refl B w).alloc zE)
  have HBW := Lib.hid hb
  obtain ⟨h0, h1, -⟩ := hb
  have c0 : w.cell? ⟨b3, 0, none⟩ = some (.func (.func 37) #[] #[]) := by simp [World.cell?, h0]
  have c1 : w.cell? ⟨b6, 0, none⟩ = some (.pointer (some ⟨pb, 0, none⟩)) := by simp [World.cell?, h1]
  have l0 : b3 < w.heap.size := (Array.getElem?_eq_some_iff.1 h0).1
  have l1 : b6 < w.heap.size := (Array.getElem?_eq_some_iff.1 h1).1
  have m0 : ¬ b3 = w.heap.size := Nat.ne_of_lt l0
  have m1 : ¬ b6 = w.heap.size := Nat.ne_of_lt l1
  have hfl := fld72_0
  have HFL := Lib.hid hfl
  clear h h0 h1 hfl
  obtain ⟨res, hres⟩ : ∃ res, res = readW (exp 64) ts := ⟨_, rfl⟩
  rw [← hres]
  have HQ := Lib.hid hres
  clear hres
  go_enter Tryz.func64, Tryz.ntmps64
  go_wp2_with fail
  refine (HT.out _ _ _ P0.out).mono ?_
  rintro e w1 ⟨f1, h1⟩
  cases hr : exp 64 ts with
  | bad y rest ds =>
    rw [hr] at h1
    obtain ⟨rfl, p1⟩ := h1
    go_wp2_with fail
    exact panics rfl (.bad (HQ.out.trans (by rw [readW, hr, R.bind_bad])) (F0.out.trans f1) p1)
  | ok x rest ds =>
    have HQ1 := Lib.hid (show res = R.tell ds (if (hd rest).k = 6 then .ok x rest [] else .bad (syn rest) rest []) from HQ.out.trans (by rw [readW, hr, R.bind_ok]))
    rw [hr] at h1
    obtain ⟨⟨cs, rfl, hcs⟩, p1⟩ := h1
    obtain ⟨ek, ea, en, em, a4, n4, c4, a5, n5, c5, a6, n6, c6, rfl⟩ := cells_E hcs
    have hb1 := Bx2W.fr (B := B) _ _ HBW.out (((Fr.refl B w).alloc zE).trans f1 |>.alloc (.cells #[.int .i64 ek, .int .i64 ea, .string en, .int .i64 em, .slice a4 n4 c4, .slice a5 n5 c5, .slice a6 n6 c6] 36))
    have c1' : (w1.alloc (.cells #[.int .i64 ek, .int .i64 ea, .string en, .int .i64 em, .slice a4 n4 c4, .slice a5 n5 c5, .slice a6 n6 c6] 36)).cell? ⟨b6, 0, none⟩ = some (.pointer (some ⟨pb, 0, none⟩)) := by
      have := hb1.2.1
      simp [World.cell?, this]
    have HB1 := Lib.hid hb1
    have P1 := Lib.hid (p1.alloc (.cells #[.int .i64 ek, .int .i64 ea, .string en, .int .i64 em, .slice a4 n4 c4, .slice a5 n5 c5, .slice a6 n6 c6] 36))
    have F1 := Lib.hid ((F0.out.trans f1).alloc (.cells #[.int .i64 ek, .int .i64 ea, .string en, .int .i64 em, .slice a4 n4 c4, .slice a5 n5 c5, .slice a6 n6 c6] 36))
    have A1 := Lib.hid (blk_alloc (f1.cells A0.out (by decide)) (.cells #[.int .i64 ek, .int .i64 ea, .string en, .int .i64 em, .slice a4 n4 c4, .slice a5 n5 c5, .slice a6 n6 c6] 36))
    have Z1 := Lib.hid (show w.heap.size < w1.heap.size by have := f1.size; simp at this; omega)
    have L1 := Lib.hid (Lv.new (t := 36) (by decide) Z1.out (show w.heap.size < (w.alloc zE).heap.size by simp) hcs)
    clear hr f1 p1 hcs hb1 HQ c0 c1 l0 l1 m0 m1
    go_upto_region 2 with fail
    obtain ⟨W, hW⟩ : ∃ W, w1.alloc (.cells #[.int .i64 ek, .int .i64 ea, .string en, .int .i64 em, .slice a4 n4 c4, .slice a5 n5 c5, .slice a6 n6 c6] 36) = W := ⟨_, rfl⟩
    rw [hW] at P1 F1 A1 L1 HB1 c1'
    rw [hW]
    clear hW
    have HNW := Lib.hid (now_any P1.out)
    obtain ⟨t, ht⟩ : ∃ t, t = hd rest := ⟨_, rfl⟩
    have HTT := Lib.hid ht
    rw [← ht] at HNW
    clear ht
    have hfl := HFL.out
    by_cases hk : t.k = 6
    · have hk1 : (t.k : Int) = 6 := by omega
      have hk2 : ((t.k : Int) != 6) = false := by simpa using hk1
      have HW := Lib.hid (show res = .ok x rest ds by rw [HQ1.out, if_pos (by rw [← HTT.out]; exact hk), R.tell_ok, List.append_nil])
      clear hk1 hk
      go_wp2_with fail
      refine HNW.out.mono ?_
      rintro e w2 ⟨rfl, b2⟩
      have P2 := Lib.hid (P1.out.below b2)
      have F2 := Lib.hid (F1.out.below b2)
      have A2 := Lib.hid ((b2.block _ (Array.getElem?_eq_some_iff.1 A1.out).1).trans A1.out)
      have L2 := Lib.hid (L1.out.below b2)
      have HTH := Lib.hid (there_of A2.out rfl)
      obtain ⟨⟨q0, q1, q2, q3, q4, q5, q6⟩, -⟩ := sev_of (t := 36) L2.out.blk
      clear b2
      unfold tokV
      go_wp2_with (first | (refine wpList_store_put rfl 36 (.tmp 2) (.tmp 14) rfl w.heap.size _ rfl rfl HTH.out size49 (all_oneCell_toArray (by simp [Value.oneCell'])) ?_; intro W9 hW9))
      have e9 : W9 = putL w2 w.heap.size [.int .i64 ek, .int .i64 ea, .string en, .int .i64 em, .slice a4 n4 c4, .slice a5 n5 c5, .slice a6 n6 c6] := hW9.out
      subst e9
      exact ret49 rfl rfl rfl (putL_at (vs := [.int .i64 ek, .int .i64 ea, .string en, .int .i64 em, .slice a4 n4 c4, .slice a5 n5 c5, .slice a6 n6 c6]) A2.out rfl) (.ok HW.out (F2.out.putL (Nat.le_refl _) _) ⟨_, rfl, (L2.out.data.putL _ (fun b hb => Nat.ne_of_gt hb) _).mono (fun b _ hb => Nat.le_of_lt hb)⟩ (P2.out.putL A2.out (by decide) HPB.out _))
    · have hk1 : ¬ (t.k : Int) = 6 := by omega
      have hk2 : ((t.k : Int) != 6) = true := by simpa using hk1
      have HW := Lib.hid (show res = .bad (syn rest) rest ds by rw [HQ1.out, if_neg (by rw [← HTT.out]; exact hk), R.tell_bad, List.append_nil])
      clear hk1 hk
      go_wp2_with fail
      refine HNW.out.mono ?_
      rintro e w2 ⟨rfl, b2⟩
      have P2 := Lib.hid (P1.out.below b2)
      have F2 := Lib.hid (F1.out.below b2)
      have hb2 := Bx2W.fr (B := B) _ _ HB1.out (Fr.of_below b2)
      have c2 : w2.cell? ⟨b6, 0, none⟩ = some (.pointer (some ⟨pb, 0, none⟩)) := by
        have := hb2.2.1
        simp [World.cell?, this]
      clear b2 hb2
      unfold tokV
      go_wp2_with fail
      refine (unwanted_any P2.out).mono ?_
      rintro e w3 ⟨rfl, b3'⟩
      unfold gvV
      go_wp2_with fail
      exact panics rfl (.bad HW.out (F2.out.below b3') (P2.out.below b3'))


end Go.Proofs.YthpoffklhpbdoaaGreatDoor

/-
  The contract of the reader of what stands in brackets.
-/
import Derived.Test.YtijnjoonbjdafaaGreatDoorExE
namespace Go.Proofs.YtijnjoonbjdafaaGreatDoor
set_option maxRecDepth 20000
open Go.RowKit Go.Shelf
def BrIs (B M : Nat) (w : World) (pb : Nat) (all r : List Tk) (tl : List Dn) (vb : Nat) (y : PE) (wx : World) : Prop :=
  PS B M wx pb all r tl ∧ Fr B w wx ∧ wx.heap[w.heap.size]? = some zE ∧ ∃ cs, Lv wx w.heap.size vb 36 (encE 26 36 y) cs
section
variable {B M : Nat} {w w3 : World} {pb : Nat} {all r : List Tk} {tl : List Dn} {vb a : Nat} {x : PE} {t : PT} {csx cst : List Value}
abbrev brV (a gx gt : Nat) : List Value := [.int .i64 11, .int .i64 (a : Nat), .string ⟨#[]⟩, .int .i64 0, .slice none 0 0, .slice (some ⟨gx, 0, none⟩) 1 1, .slice (some ⟨gt, 0, none⟩) 1 1]
theorem br_end {W : World} {gx gt : Nat} (hF : Fr B w W) (hP : PS B M W pb all r tl) (hA : W.heap[w.heap.size]? = some zE) {cs : List Value} (hb : W.heap[vb]? = some (.cells (brV a gx gt).toArray 36 (0, 0))) (hlt : w.heap.size < vb) (_ : cs = brV a gx gt)
    (hx : IsC (fun b => w.heap.size < b ∧ b ≠ vb) W (.row 36 7 1 (encEs 26 36 [x])) (.slice (some ⟨gx, 0, none⟩) 1 1)) (ht : IsC (fun b => w.heap.size < b ∧ b ≠ vb) W (.row 26 4 1 (encTs 26 [t])) (.slice (some ⟨gt, 0, none⟩) 1 1)) :
    BrIs B M w pb all r tl vb (.mk 11 a [] 0 [] [x] [t]) W :=
  ⟨hP, hF, hA, brV a gx gt, hb, by decide, hlt, (IsCs.cons (IsC.num _ _ 11) (IsCs.cons (IsC.num _ _ a) (IsCs.cons (IsC.str _ _ []) (IsCs.cons (IsC.num _ _ 0) (IsCs.cons (IsC.none _ _ 1 (e := 9) (by decide)) (IsCs.cons hx (IsCs.cons ht (IsCs.nil _ _)))))))).mono (fun b _ hb => hb.1)⟩
variable (hF : Fr B w w3) (hP : PS B M w3 pb all r tl) (hA : w3.heap[w.heap.size]? = some zE) (hL : Lw w3 w.heap.size vb 36 (encE 26 36 x) csx) (hT : IsCs (fun b => w.heap.size < b ∧ b ≠ vb) w3 (encT 26 t) cst) (hpb : pb < vb)
include hF hP hA hL hT hpb
theorem br_put (vs : List Value) : Fr B w (putL w3 vb vs) ∧ PS B M (putL w3 vb vs) pb all r tl ∧ (putL w3 vb vs).heap[w.heap.size]? = some zE ∧ (putL w3 vb vs).heap.size = w3.heap.size ∧ (vs.length = 7 → (putL w3 vb vs).heap[vb]? = some (.cells vs.toArray 36 (0, 0))) ∧ IsCs (fun b => w.heap.size < b ∧ b ≠ vb) (putL w3 vb vs) (encEs 26 36 [x]) csx ∧ IsCs (fun b => w.heap.size < b ∧ b ≠ vb) (putL w3 vb vs) (encTs 26 [t]) cst ∧ csx.length = 1 * 7 ∧ cst.length = 1 * 4 ∧ vb < w3.heap.size := by
  have h7 : csx.length = 7 := by rw [hL.data.length, encE_length]
  refine ⟨hF.putL (Nat.le_of_lt hL.lt) vs, hP.putL hL.blk (by decide) hpb vs, (putL_far vb _ _ _ _ (Nat.ne_of_lt hL.lt)).trans hA, (putL_same vb vs 0 w3).2.2.2, fun h => putL_at hL.blk (by simp [h, h7]), ?_, ?_, by omega, by rw [hT.length, encT_length], (Array.getElem?_eq_some_iff.1 hL.blk).1⟩
  · have := hL.data.putL vb (fun k hk => hk.2) vs
    simpa [encEs] using this
  · have := hT.putL vb (fun k hk => hk.2) vs
    simpa [encTs] using this
theorem br_xt : BrIs B M w pb all r tl vb (.mk 11 a [] 0 [] [x] [t]) (((((((((w3.setCell ⟨vb, 0, none⟩ (.int .i64 11)).setCell ⟨vb, 1, none⟩ (.int .i64 (a : Nat))).setCell ⟨vb, 2, none⟩ (.string ⟨#[]⟩)).setCell ⟨vb, 3, none⟩ (.int .i64 0)).setCell ⟨vb, 4, none⟩ (.slice none 0 0)).setCell ⟨vb, 5, none⟩ (.slice (some ⟨w3.heap.size, 0, none⟩) 1 1)).setCell ⟨vb, 6, none⟩ (.slice (some ⟨w3.heap.size + 1, 0, none⟩) 1 1)).alloc (.cells csx.toArray 36)).alloc (.cells cst.toArray 26)) := by
  show BrIs B M w pb all r tl vb (.mk 11 a [] 0 [] [x] [t]) (((putL w3 vb (brV a w3.heap.size (w3.heap.size + 1))).alloc (.cells csx.toArray 36)).alloc (.cells cst.toArray 26))
  obtain ⟨f, p, a1, s, hb, dx, dt, lx, lt, hv⟩ := br_put hF hP hA hL hT hpb (brV a w3.heap.size (w3.heap.size + 1))
  have hz := hL.lt
  have rx := row_lit (e := 36) (size := 7) (n := 1) (g := w3.heap.size) (by decide) s ⟨by omega, by omega⟩ (by decide) lx dx
  have rt := row_lit (e := 26) (size := 4) (n := 1) (g := w3.heap.size + 1) (by decide) (by rw [World.size_alloc, s]) ⟨by omega, by omega⟩ (by decide) lt (dt.below ((Below.refl _ _).alloc (Nat.le_refl _) (.cells csx.toArray 36)))
  exact br_end ((f.alloc _).alloc _) ((p.alloc _).alloc _) (blk_alloc (blk_alloc a1 _) _) (blk_alloc (blk_alloc (hb rfl) _) _) hL.lt rfl (rx.below ((Below.refl _ _).alloc (Nat.le_refl _) _)) rt
theorem br_tx : BrIs B M w pb all r tl vb (.mk 11 a [] 0 [] [x] [t]) (((((((((w3.setCell ⟨vb, 0, none⟩ (.int .i64 11)).setCell ⟨vb, 1, none⟩ (.int .i64 (a : Nat))).setCell ⟨vb, 2, none⟩ (.string ⟨#[]⟩)).setCell ⟨vb, 3, none⟩ (.int .i64 0)).setCell ⟨vb, 4, none⟩ (.slice none 0 0)).setCell ⟨vb, 5, none⟩ (.slice (some ⟨w3.heap.size + 1, 0, none⟩) 1 1)).setCell ⟨vb, 6, none⟩ (.slice (some ⟨w3.heap.size, 0, none⟩) 1 1)).alloc (.cells cst.toArray 26)).alloc (.cells csx.toArray 36)) := by
  show BrIs B M w pb all r tl vb (.mk 11 a [] 0 [] [x] [t]) (((putL w3 vb (brV a (w3.heap.size + 1) w3.heap.size)).alloc (.cells cst.toArray 26)).alloc (.cells csx.toArray 36))
  obtain ⟨f, p, a1, s, hb, dx, dt, lx, lt, hv⟩ := br_put hF hP hA hL hT hpb (brV a (w3.heap.size + 1) w3.heap.size)
  have hz := hL.lt
  have rt := row_lit (e := 26) (size := 4) (n := 1) (g := w3.heap.size) (by decide) s ⟨by omega, by omega⟩ (by decide) lt dt
  have rx := row_lit (e := 36) (size := 7) (n := 1) (g := w3.heap.size + 1) (by decide) (by rw [World.size_alloc, s]) ⟨by omega, by omega⟩ (by decide) lx (dx.below ((Below.refl _ _).alloc (Nat.le_refl _) (.cells cst.toArray 26)))
  exact br_end ((f.alloc _).alloc _) ((p.alloc _).alloc _) (blk_alloc (blk_alloc a1 _) _) (blk_alloc (blk_alloc (hb rfl) _) _) hL.lt rfl rx (rt.below ((Below.refl _ _).alloc (Nat.le_refl _) _))
theorem br_t {gx : Nat} (hX : w3.heap[gx]? = some (.cells csx.toArray 36 (0, 0))) (hgx : vb < gx) : BrIs B M w pb all r tl vb (.mk 11 a [] 0 [] [x] [t]) ((((((((w3.setCell ⟨vb, 0, none⟩ (.int .i64 11)).setCell ⟨vb, 1, none⟩ (.int .i64 (a : Nat))).setCell ⟨vb, 2, none⟩ (.string ⟨#[]⟩)).setCell ⟨vb, 3, none⟩ (.int .i64 0)).setCell ⟨vb, 4, none⟩ (.slice none 0 0)).setCell ⟨vb, 5, none⟩ (.slice (some ⟨gx, 0, none⟩) 1 1)).setCell ⟨vb, 6, none⟩ (.slice (some ⟨w3.heap.size, 0, none⟩) 1 1)).alloc (.cells cst.toArray 26)) := by
  show BrIs B M w pb all r tl vb (.mk 11 a [] 0 [] [x] [t]) ((putL w3 vb (brV a gx w3.heap.size)).alloc (.cells cst.toArray 26))
  obtain ⟨f, p, a1, s, hb, dx, dt, lx, lt, hv⟩ := br_put hF hP hA hL hT hpb (brV a gx w3.heap.size)
  have hz := hL.lt
  have rt := row_lit (e := 26) (size := 4) (n := 1) (g := w3.heap.size) (by decide) s ⟨by omega, by omega⟩ (by decide) lt dt
  have hX' : (putL w3 vb (brV a gx w3.heap.size)).heap[gx]? = some (.cells csx.toArray 36 (0, 0)) := (putL_far vb _ _ _ _ (Nat.ne_of_gt hgx)).trans hX
  have rx : IsC (fun b => w.heap.size < b ∧ b ≠ vb) (putL w3 vb (brV a gx w3.heap.size)) (.row 36 7 1 (encEs 26 36 [x])) (.slice (some ⟨gx, 0, none⟩) 1 1) :=
    IsC.row (base := 0) (xs := csx) (by decide) ⟨lx, .inr ⟨gx, 1, csx.toArray, rfl, Nat.zero_le _, hX', Nat.le_refl _, by decide, by simpa using lx, by rw [← lx]; simp⟩⟩ (fun b hb => by have e : gx = b := Option.some.inj hb; subst e; exact ⟨by omega, by omega⟩) dx
  exact br_end (f.alloc _) (p.alloc _) (blk_alloc a1 _) (blk_alloc (hb rfl) _) hL.lt rfl (rx.below ((Below.refl _ _).alloc (Nat.le_refl _) _)) rt
end
set_option maxHeartbeats 1000000 in
theorem brack_any {B M : Nat} {pb : Nat} {all : List Tk} (k d : Nat) (hd64 : d ≤ 64)
    (HE : ∀ w ts told, PS B M w pb all ts told → Calls Tryz.prog 47 #[.pointer (some ⟨pb, 0, none⟩), .int .i64 ((d + 1 : Nat) : Int)] w (Post B M w pb all told (vE w.heap.size) (exp k ts)))
    (HT : ∀ w ts told, PS B M w pb all ts told → Calls Tryz.prog 43 #[.pointer (some ⟨pb, 0, none⟩), .int .i64 ((d + 1 : Nat) : Int)] w (Post B M w pb all told (vT w.heap.size) (typ k ts)))
    (at_ : Nat)
    (w : World) (ts : List Tk) (told : List Dn) (h : PS B M w pb all ts told) :
    Calls Tryz.prog 170 #[.pointer (some ⟨pb, 0, none⟩), .int .i64 (at_ : Nat), .int .i64 (d : Nat)] w (Post B M w pb all told (vE w.heap.size) ((exp k ts).bind fun e r => if isM [58] r then (typ k r.tail).bind fun t r => (want [41] r).bind fun _ r => .ok (.mk 11 at_ [] 0 [] [e] [t]) r [] else (want [41] r).bind fun _ r => .ok e r [])) := by
  have HE := Lib.hid HE
  have HT := Lib.hid HT
  have HPB := Lib.hid h.lt
  have P0 := Lib.hid (h.alloc zE).nil
  have A0 := Lib.hid (show (w.alloc zE).heap[w.heap.size]? = some zE from heap_alloc_new w zE)
  have F0 := Lib.hid ((Fr.refl B w).alloc zE)
  have Z0 := Lib.hid (show w.heap.size < (w.alloc zE).heap.size by simp)
  clear h
  obtain ⟨res, hres⟩ : ∃ res, res = (exp k ts).bind fun e r => if isM [58] r then (typ k r.tail).bind fun t r => (want [41] r).bind fun _ r => .ok (.mk 11 at_ [] 0 [] [e] [t]) r [] else (want [41] r).bind fun _ r => .ok e r [] := ⟨_, rfl⟩
  rw [← hres]
  have HQ0 := Lib.hid (tellq hres)
  clear hres
  have HD := Lib.hid (show ((d : Int) + 1) = ((d + 1 : Nat) : Int) by omega)
  have HD1 := Lib.hid (show IntKind.i64.wrap ((d : Int) + 1) = ((d + 1 : Nat) : Int) by rw [IntKind.wrap_i64]; omega)
  go_enter Tryz.func170, Tryz.ntmps170
  go_wp2_with fail
  rw [HD.out]
  refine (HE.out _ _ _ P0.out).mono ?_
  rintro e w1 ⟨f1, h1⟩
  cases hr1 : exp k ts with
  | bad y r d =>
    rw [hr1] at h1
    obtain ⟨rfl, p1⟩ := h1
    go_wp2_with fail
    exact panics rfl (.bad (HQ0.out.trans (by rw [hr1, R.bind_bad, R.tell_bad])) (F0.out.trans f1) p1.assoc)
  | ok x r1 d1 =>
  rw [hr1] at h1
  obtain ⟨⟨cs1, rfl, hcs1⟩, p1⟩ := h1
  obtain ⟨kLx, aLx, nLx, mLx, p4Lx, n4Lx, c4Lx, p5Lx, n5Lx, c5Lx, p6Lx, n6Lx, c6Lx, rfl⟩ := cells_E hcs1
  have HQ1 := Lib.hid (HQ0.out.trans (by rw [hr1, R.bind_ok, R.tell_tell]))
  have P1 := Lib.hid (p1.assoc.alloc (.cells #[.int .i64 kLx, .int .i64 aLx, .string nLx, .int .i64 mLx, .slice p4Lx n4Lx c4Lx, .slice p5Lx n5Lx c5Lx, .slice p6Lx n6Lx c6Lx] 36))
  have F1 := Lib.hid ((F0.out.trans f1).alloc (.cells #[.int .i64 kLx, .int .i64 aLx, .string nLx, .int .i64 mLx, .slice p4Lx n4Lx c4Lx, .slice p5Lx n5Lx c5Lx, .slice p6Lx n6Lx c6Lx] 36))
  have A1 := Lib.hid (blk_alloc (f1.cells A0.out (by decide)) (.cells #[.int .i64 kLx, .int .i64 aLx, .string nLx, .int .i64 mLx, .slice p4Lx n4Lx c4Lx, .slice p5Lx n5Lx c5Lx, .slice p6Lx n6Lx c6Lx] 36))
  have hz1 := Nat.lt_of_lt_of_le Z0.out f1.size
  have Z1 := Lib.hid (show w.heap.size < (w1.alloc (.cells #[.int .i64 kLx, .int .i64 aLx, .string nLx, .int .i64 mLx, .slice p4Lx n4Lx c4Lx, .slice p5Lx n5Lx c5Lx, .slice p6Lx n6Lx c6Lx] 36)).heap.size by simp; omega)
  have Lx1 := Lib.hid (Lw.new (t := 36) (by decide) hz1 Z0.out hcs1)
  clear hr1 p1 f1 HQ0 P0 F0 A0 Z0
  clear hz1 hcs1
  go_wp2_with fail
  obtain ⟨vb, hvb⟩ : ∃ vb, w1.heap.size = vb := ⟨_, rfl⟩
  rw [hvb] at Lx1
  rw [hvb]
  have HVB := Lib.hid (show pb < vb by have := Lx1.out.lt; have := HPB.out; omega)
  clear hvb
  refine (takes_any P1.out [58]).mono ?_
  rintro e w2 ⟨rfl, p2, f2⟩
  have F2 := Lib.hid (F1.out.trans f2)
  have A2 := Lib.hid (f2.cells A1.out (by decide))
  have Z2 := Lib.hid (Nat.lt_of_lt_of_le Z1.out f2.size)
  have Lx2 := Lib.hid (Lx1.out.fr f2)
  clear f2 P1 F1 A1 Z1 Lx1
  cases hm : isM [58] r1 with
  | false =>
    simp only [hm, Bool.false_eq_true, if_false] at p2
    have P2 := Lib.hid p2
    have Ly2 := Lib.hid (show Lv w2 w.heap.size vb 36 (encE 26 36 x) _ from ⟨Lx2.out.blk, Lx2.out.ty, Lx2.out.lt, Lx2.out.data.mono (fun b _ hb => hb.1)⟩)
    have HQ2 := Lib.hid (show res = R.tell ([] ++ d1) ((want [41] r1).bind fun _ r => .ok x r []) by rw [HQ1.out, hm]; rfl)
    obtain ⟨rr2, hrr⟩ : ∃ rr2, rr2 = r1 := ⟨_, rfl⟩
    rw [← hrr] at P2 HQ2
    clear hm p2 hrr HQ1
    go_wp2_with fail
    refine (want_any P2.out [41]).mono ?_
    rintro e w3 ⟨f3, h3⟩
    cases hr3 : want [41] rr2 with
    | bad y r d =>
      rw [hr3] at h3
      obtain ⟨rfl, p3⟩ := h3
      go_wp2_with fail
      exact panics rfl (.bad (HQ2.out.trans (by rw [hr3, R.bind_bad, R.tell_bad])) (F2.out.trans f3) p3.assoc)
    | ok x3 r3 d3 =>
    rw [hr3] at h3
    obtain ⟨h3, p3⟩ := h3
    cases h3
    have HQ3 := Lib.hid (HQ2.out.trans (by rw [hr3, R.bind_ok, R.tell_tell]))
    have P3 := Lib.hid p3.assoc
    have F3 := Lib.hid (F2.out.trans f3)
    have A3 := Lib.hid (f3.cells A2.out (by decide))
    have Z3 := Lib.hid (Nat.lt_of_lt_of_le Z2.out f3.size)
    have Ly3 := Lib.hid (Ly2.out.fr f3)
    clear hr3 p3 f3 HQ2 P2 F2 A2 Z2 Ly2
    obtain ⟨⟨g0, g1, g2, g3, g4, g5, g6⟩, -⟩ := sev_of (t := 36) Ly3.out.blk
    have HTH := Lib.hid (there_of A3.out rfl)
    go_wp2_with (first | (refine wpList_store_put rfl 36 (.tmp 6) (.tmp 25) rfl w.heap.size _ rfl rfl HTH.out size49 (all_oneCell_toArray (by simp [Value.oneCell'])) ?_; intro W9 hW9))
    have e9 : W9 = putL w3 w.heap.size [.int .i64 kLx, .int .i64 aLx, .string nLx, .int .i64 mLx, .slice p4Lx n4Lx c4Lx, .slice p5Lx n5Lx c5Lx, .slice p6Lx n6Lx c6Lx] := hW9.out
    subst e9
    exact ret49 rfl rfl rfl (putL_at (vs := [_, _, _, _, _, _, _]) A3.out rfl) (giveE (HQ3.out.trans (by rw [R.tell_ok, List.append_nil])) A3.out F3.out P3.out HPB.out Ly3.out.data)
  | true =>
    simp only [hm, if_true] at p2
    have P2 := Lib.hid p2
    have HQ2 := Lib.hid (show res = R.tell ([] ++ d1) ((typ k r1.tail).bind fun t r => (want [41] r).bind fun _ r => .ok (.mk 11 at_ [] 0 [] [x] [t]) r []) by rw [HQ1.out, hm]; rfl)
    have hbl : ∀ o : Obj, Below w2.heap.size w2 (w2.drew.alloc o) := fun o => (Below.refl _ w2).drew.alloc (Nat.le_refl _) o
    have HBL := Lib.hid hbl
    have HSV := Lib.hid (show ∀ W w', Below w2.heap.size w2 W → Fr B W w' → Sev w' vb 36 (.int .i64 kLx) (.int .i64 aLx) (.string nLx) (.int .i64 mLx) (.slice p4Lx n4Lx c4Lx) (.slice p5Lx n5Lx c5Lx) (.slice p6Lx n6Lx c6Lx) from fun W w' hW hf => (Lx2.out.below hW).fr hf |>.blk)
    clear hm p2 HQ1 hbl
    cases hr : typ k r1.tail with
    | bad y r3 d3 =>
      have HC : Hid (∀ W, Below w2.heap.size w2 W → Calls Tryz.prog 43 #[.pointer (some ⟨pb, 0, none⟩), .int .i64 (IntKind.i64.wrap ((d : Int) + 1))] W fun e w' => e = .panicked [gv y] ∧ Fr B w2 w' ∧ PS B M w' pb all r3 (told ++ ([] ++ d1) ++ d3)) := by
        intro W hW
        rw [HD1.out]
        refine (HT.out W r1.tail _ (P2.out.below hW)).mono ?_
        rintro e w' ⟨f, h⟩
        rw [hr] at h
        exact ⟨h.1, (Fr.of_below hW).trans f, h.2⟩
      have HW := Lib.hid (HQ2.out.trans (by rw [hr, R.bind_bad, R.tell_bad]))
      obtain ⟨⟨g0, g1, g2, g3, g4, g5, g6⟩, -⟩ := sev_of (show Sev w2 vb 36 (.int .i64 kLx) (.int .i64 aLx) (.string nLx) (.int .i64 mLx) (.slice p4Lx n4Lx c4Lx) (.slice p5Lx n5Lx c5Lx) (.slice p6Lx n6Lx c6Lx) from Lx2.out.blk)
      clear hr
      go_wp2_with fail
      go_region_dies
      all_goals
        refine (HC.out _ ?_).mono ?_
        · first | exact (Below.refl _ w2).drew | exact HBL.out _ | exact ((Below.refl _ w2).alloc (Nat.le_refl _) _).drew
        rintro e w3 ⟨rfl, f3, p3⟩
        exact panics rfl (.bad HW.out (F2.out.trans f3) p3.assoc)
    | ok t r3 d3 =>
      have HC : Hid (∀ W, Below w2.heap.size w2 W → Calls Tryz.prog 43 #[.pointer (some ⟨pb, 0, none⟩), .int .i64 (IntKind.i64.wrap ((d : Int) + 1))] W fun e w' => ((∃ cs, e = .returned (.agg cs.toArray) ∧ IsCs (fun b => W.heap.size ≤ b) w' (encT 26 t) cs) ∧ Fr B W w' ∧ PS B M w' pb all r3 (told ++ ([] ++ d1) ++ d3)) ∧ Below w2.heap.size w2 W) := by
        intro W hW
        rw [HD1.out]
        refine (HT.out W r1.tail _ (P2.out.below hW)).mono ?_
        rintro e w' ⟨f, h⟩
        rw [hr] at h
        obtain ⟨⟨cs, h1, h2⟩, h3⟩ := h
        exact ⟨⟨⟨cs, h1, h2⟩, f, h3⟩, hW⟩
      have HQ3 := Lib.hid (HQ2.out.trans (by rw [hr, R.bind_ok, R.tell_tell]))
      obtain ⟨⟨g0, g1, g2, g3, g4, g5, g6⟩, gz0, gz1, gz2, gz3, gz4, gz5, gz6⟩ := sev_of (show Sev w2 vb 36 (.int .i64 kLx) (.int .i64 aLx) (.string nLx) (.int .i64 mLx) (.slice p4Lx n4Lx c4Lx) (.slice p5Lx n5Lx c5Lx) (.slice p6Lx n6Lx c6Lx) from Lx2.out.blk)
      have hvl : vb < w2.heap.size := (Array.getElem?_eq_some_iff.1 Lx2.out.blk).1
      have hvn : ¬ vb = w2.heap.size := Nat.ne_of_lt hvl
      clear hr
      go_upto_region 3 with fail
      go_cut [] from 14 to 22 (fun wx => BrIs B M w pb all r3 (told ++ ([] ++ d1 ++ d3)) vb (.mk 11 at_ [] 0 [] [x] [t]) wx)
      case first =>
        go_region_with (go_at_call 43; refine (HC.out _ ?_).mono ?_; (first | exact (Below.refl _ w2).drew | exact HBL.out _ | exact ((Below.refl _ w2).alloc (Nat.le_refl _) _).drew); rintro e w3 ⟨⟨⟨cs, rfl, hcs⟩, f3, p3⟩, hW⟩; obtain ⟨tk, tn, a2, n2, c2, a3, n3, c3, rfl⟩ := cells_T hcs; obtain ⟨⟨s0, s1, s2, s3, s4, s5, s6⟩, v0, v1, v2, v3, v4, v5, v6⟩ := sev_of (HSV.out _ _ hW f3); (have HCS := Lib.hid hcs); (have F3 := Lib.hid f3); (have P3 := Lib.hid p3); (have HWB := Lib.hid hW); (have hv3 : vb < w3.heap.size := by have := hW.size; have := f3.size; omega); (have hv3' : ¬ vb = w3.heap.size := Nat.ne_of_lt hv3); clear hcs f3 p3 hW)
        all_goals
          go_wp2_with fail
          go_meet
          have f := (Fr.of_below (n₀ := B) HWB.out).trans F3.out
          have hF := F2.out.trans f
          have hA := f.cells A2.out (by decide)
          have hL := Lx2.out.fr f
          have hT := HCS.out.mono (A' := fun b => w.heap.size < b ∧ b ≠ vb) (fun b _ hb => by have := HWB.out.size; have := Lx2.out.lt; exact ⟨by omega, by omega⟩)
          first
            | with_reducible exact br_xt hF P3.out.assoc hA hL hT HVB.out
            | with_reducible exact br_tx hF P3.out.assoc hA hL hT HVB.out
            | exact br_t hF P3.out.assoc hA hL hT HVB.out (F3.out.cells (heap_alloc_new w2 _) (by decide)) hvl
      case rest =>
        obtain ⟨hp, hf, ha, cs, hl⟩ := hcut
        obtain ⟨ky, ay, ny, my, p4y, n4y, c4y, p5y, n5y, c5y, p6y, n6y, c6y, rfl⟩ := cells_E hl.data
        obtain ⟨w3, rfl⟩ : ∃ w3, w3 = wc := ⟨_, rfl⟩
        have P3 := Lib.hid hp
        have F3 := Lib.hid hf
        have A3 := Lib.hid ha
        have Z3 := Lib.hid (Array.getElem?_eq_some_iff.1 ha).1
        have Ly3 := Lib.hid hl
        obtain ⟨rr3, hrr⟩ : ∃ rr3, rr3 = r3 := ⟨_, rfl⟩
        rw [← hrr] at P3 HQ3
        clear hp hf ha hl hrr HQ2 P2 F2 A2 Z2 Lx2 g0 g1 g2 g3 g4 g5 g6 gz0 gz1 gz2 gz3 gz4 gz5 gz6
        go_wp2_with fail
        refine (want_any P3.out [41]).mono ?_
        rintro e w4 ⟨f4, h4⟩
        cases hr4 : want [41] rr3 with
        | bad y r d =>
          rw [hr4] at h4
          obtain ⟨rfl, p4⟩ := h4
          go_wp2_with fail
          exact panics rfl (.bad (HQ3.out.trans (by rw [hr4, R.bind_bad, R.tell_bad])) (F3.out.trans f4) p4.assoc)
        | ok x4 r4 d4 =>
        rw [hr4] at h4
        obtain ⟨h4, p4⟩ := h4
        cases h4
        have HQ4 := Lib.hid (HQ3.out.trans (by rw [hr4, R.bind_ok, R.tell_tell]))
        have P4 := Lib.hid p4.assoc
        have F4 := Lib.hid (F3.out.trans f4)
        have A4 := Lib.hid (f4.cells A3.out (by decide))
        have Z4 := Lib.hid (Nat.lt_of_lt_of_le Z3.out f4.size)
        have Ly4 := Lib.hid (Ly3.out.fr f4)
        clear hr4 p4 f4 HQ3 P3 F3 A3 Z3 Ly3
        obtain ⟨⟨g0, g1, g2, g3, g4, g5, g6⟩, -⟩ := sev_of (t := 36) Ly4.out.blk
        have HTH := Lib.hid (there_of A4.out rfl)
        go_wp2_with (first | (refine wpList_store_put rfl 36 (.tmp 6) (.tmp 25) rfl w.heap.size _ rfl rfl HTH.out size49 (all_oneCell_toArray (by simp [Value.oneCell'])) ?_; intro W9 hW9))
        have e9 : W9 = putL w4 w.heap.size [.int .i64 ky, .int .i64 ay, .string ny, .int .i64 my, .slice p4y n4y c4y, .slice p5y n5y c5y, .slice p6y n6y c6y] := hW9.out
        subst e9
        exact ret49 rfl rfl rfl (putL_at (vs := [_, _, _, _, _, _, _]) A4.out rfl) (giveE (HQ4.out.trans (by rw [R.tell_ok, List.append_nil])) A4.out F4.out P4.out HPB.out Ly4.out.data)
end Go.Proofs.YtijnjoonbjdafaaGreatDoor

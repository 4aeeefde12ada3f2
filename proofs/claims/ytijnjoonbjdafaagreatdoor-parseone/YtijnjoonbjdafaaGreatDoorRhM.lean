/-
  The document's reader of expressions: whole ones: too deep, given up, if, let.
  The document's reader of expressions: whole ones: fun.
  The document's reader of expressions: whole ones: fun, the walk.
  The document's reader of expressions: whole ones: calls and fields.
-/
import Derived.Test.YtijnjoonbjdafaaGreatDoorReM
import Derived.Test.YtijnjoonbjdafaaGreatDoorArrow
import Derived.Deep.RegionHeld3
namespace Go.Proofs.YtijnjoonbjdafaaGreatDoor
set_option maxRecDepth 20000
open Go.RowKit Go.Shelf
set_option maxHeartbeats 4000000 in
theorem qexpr_deep {B M rb : Nat} {all : List Tk} (hM : M ≤ 10000000) : RdsE 48 B M rb all 65 (fun s => (qE0, s.give)) := by
  intro w s h
  have HRB := Lib.hid h.lt
  obtain ⟨W1, hW1⟩ : ∃ W1, zSev w = W1 := ⟨_, rfl⟩
  have a1 := zsev w
  rw [hW1] at a1
  have HA1 := Lib.hid a1
  have F1 := Lib.hid (show Fr B w W1 by rw [← hW1]; exact (Fr.refl B w).alloc _)
  have Q1 := Lib.hid (show QS B M W1 rb all s by rw [← hW1]; exact h.alloc _)
  have HG := Lib.hid (qgive_any hM Q1.out 3)
  have HW1 := Lib.hid (show w.alloc (.cells #[.int .i64 0, .int .i64 0, .string ⟨#[]⟩, .int .i64 0, .slice none 0 0, .slice none 0 0, .slice none 0 0] 41) = W1 from hW1)
  clear h hW1 a1
  go_enter Tryz.func48, Tryz.ntmps48
  go_upto_region 1 with fail
  rw [HW1.out]
  go_wp2_with fail
  refine HG.out.mono ?_
  rintro e w2 ⟨rfl, q2, f2⟩
  obtain ⟨g, cap, i, vd, h6, -⟩ := q2.first
  rw [give_is] at h6
  obtain ⟨⟨p0, p1, p2, p3⟩, -⟩ := fou_of h6
  have HA2 := Lib.hid (show Sev w2 w.heap.size 41 _ _ _ _ _ _ _ from f2.cells HA1.out (by decide))
  have Q2 := Lib.hid q2
  have F2 := Lib.hid (F1.out.trans f2)
  have HTH := Lib.hid (there_of HA2.out rfl)
  clear q2 f2 h6 HG
  go_wp2_with (first | (refine wpList_store_put rfl 41 (.tmp 4) (.tmp 25) rfl w.heap.size _ rfl rfl HTH.out sizeEq (all_oneCell_toArray (by simp [Value.oneCell'])) ?_; intro W9 hW9))
  exact endEq rfl rfl rfl HA2.out F2.out Q2.out HRB.out (bareEq _ _ 0 0 [] 0) hW9
set_option maxHeartbeats 8000000 in
theorem qexpr_bad {B M rb : Nat} {all : List Tk} (d : Nat) (hd64 : d ≤ 64) (w : World) (s : Q) (h : QS B M w rb all s) (hb0 : s.bad = true) :
    Calls Tryz.prog 48 #[.pointer (some ⟨rb, 0, none⟩), .int .i64 (d : Nat)] w (QPE B M w rb all (qE0, s)) := by
  have HRB := Lib.hid h.lt
  obtain ⟨W1, hW1⟩ : ∃ W1, zSev w = W1 := ⟨_, rfl⟩
  have a1 := zsev w
  rw [hW1] at a1
  have HA1 := Lib.hid a1
  have F1 := Lib.hid (show Fr B w W1 by rw [← hW1]; exact (Fr.refl B w).alloc _)
  have q1 := (show QS B M W1 rb all s by rw [← hW1]; exact h.alloc _)
  have Q1 := Lib.hid q1
  have HW1 := Lib.hid (show w.alloc (.cells #[.int .i64 0, .int .i64 0, .string ⟨#[]⟩, .int .i64 0, .slice none 0 0, .slice none 0 0, .slice none 0 0] 41) = W1 from hW1)
  obtain ⟨g, cap, i, vd, h6, -⟩ := q1.first
  obtain ⟨⟨p0, p1, p2, p3⟩, -⟩ := fou_of h6
  rw [hb0] at p3
  have HTH := Lib.hid (there_of HA1.out rfl)
  clear h hW1 a1 q1 h6 hb0
  go_enter Tryz.func48, Tryz.ntmps48
  go_upto_region 1 with fail
  rw [HW1.out]
  go_wp2_with (first | (refine wpList_store_put rfl 41 (.tmp 4) (.tmp 25) rfl w.heap.size _ rfl rfl HTH.out sizeEq (all_oneCell_toArray (by simp [Value.oneCell'])) ?_; intro W9 hW9))
  exact endEq rfl rfl rfl HA1.out F1.out Q1.out HRB.out (bareEq _ _ 0 0 [] 0) hW9
set_option maxHeartbeats 20000000 in
theorem qexpr_if {B M rb : Nat} {all : List Tk} (d : Nat) (hd64 : d ≤ 64) (hM : M ≤ 10000000) (qe : Q → PE × Q) (HE : RdsE 48 B M rb all (d + 1) qe) (w : World) (s : Q) (h : QS B M w rb all s) (hb0 : s.bad = false) (hf : s.is [102, 117, 110] = false) (hl : s.is [108, 101, 116] = false) (hi : s.is [105, 102] = true) :
    Calls Tryz.prog 48 #[.pointer (some ⟨rb, 0, none⟩), .int .i64 (d : Nat)] w (QPE B M w rb all (ifS (hd s.ts).a qe s)) := by
  obtain ⟨out, hout⟩ : ∃ out, out = ifS (hd s.ts).a qe s := ⟨_, rfl⟩
  rw [← hout]
  have HRB := Lib.hid h.lt
  have HIF := Lib.hid hf
  have HIL := Lib.hid hl
  have HII := Lib.hid hi
  have HE0 := Lib.hid HE
  have HON := Lib.hid hout
  obtain ⟨W1, hW1⟩ : ∃ W1, zSev w = W1 := ⟨_, rfl⟩
  have a1 := zsev w
  rw [hW1] at a1
  have HA1 := Lib.hid a1
  have F1 := Lib.hid (show Fr B w W1 by rw [← hW1]; exact (Fr.refl B w).alloc _)
  have q1 := (show QS B M W1 rb all s by rw [← hW1]; exact h.alloc _)
  have Q1 := Lib.hid q1
  have HW1 := Lib.hid (show w.alloc (.cells #[.int .i64 0, .int .i64 0, .string ⟨#[]⟩, .int .i64 0, .slice none 0 0, .slice none 0 0, .slice none 0 0] 41) = W1 from hW1)
  clear hi
  obtain ⟨g, cap, i, vd, h6, hi, hb, hg, c0, c1, c2, -⟩ := q1.first
  obtain ⟨⟨p0, p1, p2, p3⟩, -⟩ := fou_of h6
  obtain ⟨⟨tk, ta, tt⟩, ht⟩ : ∃ t, t = hd s.ts := ⟨_, rfl⟩
  rw [← ht] at c0 c1 c2
  have HTA := Lib.hid (show (hd s.ts).a = ta by rw [← ht])
  simp only at c0 c1 c2
  rw [hb0] at p3
  have HBD := Lib.hid hb0
  clear h hW1 a1 q1 h6 ht hb0 hf hl HE hout
  go_enter Tryz.func48, Tryz.ntmps48
  go_upto_region 1 with fail
  rw [HW1.out]
  go_upto_region 5 with fail
  go_region
  go_upto_region 6 with fail
  obtain ⟨W2, hW2⟩ : ∃ W2, W1.drew = W2 := ⟨_, rfl⟩
  rw [hW2]
  have Q2 := Lib.hid (show QS B M W2 rb all s by rw [← hW2]; exact Q1.out.drew)
  have F2 := Lib.hid (show Fr B w W2 by rw [← hW2]; exact F1.out.drew)
  have A2 := Lib.hid (show Sev W2 w.heap.size 41 (.int .i64 0) (.int .i64 0) (.string ⟨#[]⟩) (.int .i64 0) (.slice none 0 0) (.slice none 0 0) (.slice none 0 0) by rw [← hW2]; exact HA1.out)
  clear hW2 p0 p1 p2 p3 c0 c1 c2 hi hb hg
  have HI3 := Lib.hid (qis_any Q2.out [102, 117, 110])
  rw [HIF.out] at HI3
  go_wp2_with fail
  refine HI3.out.mono ?_
  rintro e w3 ⟨rfl, b⟩
  have Q3 := Lib.hid (Q2.out.below b)
  have F3 := Lib.hid (F2.out.below b)
  have A3 := Lib.hid (show Sev w3 w.heap.size 41 _ _ _ _ _ _ _ from (b.block _ (Array.getElem?_eq_some_iff.1 A2.out).1).trans A2.out)
  clear b HI3
  have HI4 := Lib.hid (qis_any Q3.out [108, 101, 116])
  rw [HIL.out] at HI4
  go_wp2_with fail
  refine HI4.out.mono ?_
  rintro e w4 ⟨rfl, b⟩
  have Q4 := Lib.hid (Q3.out.below b)
  have F4 := Lib.hid (F3.out.below b)
  have A4 := Lib.hid (show Sev w4 w.heap.size 41 _ _ _ _ _ _ _ from (b.block _ (Array.getElem?_eq_some_iff.1 A3.out).1).trans A3.out)
  clear b HI4
  have HI5 := Lib.hid (qis_any Q4.out [105, 102])
  rw [HII.out] at HI5
  go_wp2_with fail
  refine HI5.out.mono ?_
  rintro e w5 ⟨rfl, b⟩
  have Q5 := Lib.hid (Q4.out.below b)
  have F5 := Lib.hid (F4.out.below b)
  have A5 := Lib.hid (show Sev w5 w.heap.size 41 _ _ _ _ _ _ _ from (b.block _ (Array.getElem?_eq_some_iff.1 A4.out).1).trans A4.out)
  clear b HI5
  have HK6 := Lib.hid (qtake_any hM Q5.out [105, 102])
  go_wp2_with fail
  refine HK6.out.mono ?_
  rintro e w6 ⟨rfl, q, f⟩
  have Q6 := Lib.hid q
  have F6 := Lib.hid (F5.out.trans f)
  have A6 := Lib.hid (show Sev w6 w.heap.size 41 _ _ _ _ _ _ _ from f.cells A5.out (by decide))
  clear q f HK6
  obtain ⟨s4, hs4⟩ : ∃ x, x = (s).take [105, 102] := ⟨_, rfl⟩
  have Q6a := Lib.hid (show QS B M w6 rb all s4 by rw [hs4]; exact Q6.out)
  have Hs4 := Lib.hid hs4
  clear hs4
  obtain ⟨⟨x, s5⟩, hx⟩ : ∃ p, p = qe s4 := ⟨_, rfl⟩
  obtain ⟨xk, xa, xn, xm, xns, xl, xts⟩ := x
  have HK7 := Lib.hid (rdsE_flat HE0.out w6 s4 Q6a.out xk xa xn xm xns xl xts s5 hx)
  have HX7 := Lib.hid hx
  have HL7 := Lib.hid (show w.heap.size < w6.heap.size from (Array.getElem?_eq_some_iff.1 A6.out).1)
  clear hx
  go_wp2_with fail
  refine HK7.out.mono ?_
  rintro e w7 ⟨xb4, xe4, xb5, xe5, xb6, xe6, rfl, f, i, q⟩
  obtain ⟨W7, hW7⟩ : ∃ W, w7.alloc (.cells #[.int .i64 (xk : Nat), .int .i64 (xa : Nat), .string ⟨xn.toArray⟩, .int .i64 (xm : Nat), .slice xb4 xns.length xe4, .slice xb5 xl.length xe5, .slice xb6 xts.length xe6] 41) = W := ⟨_, rfl⟩
  have b : Below w7.heap.size w7 W7 := by rw [← hW7]; exact (Below.refl _ _).alloc (Nat.le_refl _) _
  have X7 := Lib.hid (show Sev W7 w7.heap.size 41 (.int .i64 (xk : Nat)) (.int .i64 (xa : Nat)) (.string ⟨xn.toArray⟩) (.int .i64 (xm : Nat)) (.slice xb4 xns.length xe4) (.slice xb5 xl.length xe5) (.slice xb6 xts.length xe6) by rw [← hW7]; exact heap_alloc_new w7 _)
  have Q7 := Lib.hid (q.below b)
  have fb := f.below b
  have F7 := Lib.hid (F6.out.trans fb)
  have A7 := Lib.hid (show Sev W7 w.heap.size 41 _ _ _ _ _ _ _ from fb.cells A6.out (by decide))
  have UX7 := Lib.hid (show IsCs (fun b => w.heap.size < b) W7 (encE 31 41 (.mk xk xa xn xm xns xl xts)) [.int .i64 (xk : Nat), .int .i64 (xa : Nat), .string ⟨xn.toArray⟩, .int .i64 (xm : Nat), .slice xb4 xns.length xe4, .slice xb5 xl.length xe5, .slice xb6 xts.length xe6] from (i.mono (fun b _ hb => Nat.lt_of_lt_of_le HL7.out hb)).below b)
  have HW7 := Lib.hid hW7
  clear q f fb b i hW7 HK7
  go_upto_region 29 with fail
  rw [HW7.out]
  have HK8 := Lib.hid (qtake_any hM Q7.out [116, 104, 101, 110])
  go_wp2_with fail
  refine HK8.out.mono ?_
  rintro e w8 ⟨rfl, q, f⟩
  have Q8 := Lib.hid q
  have F8 := Lib.hid (F7.out.trans f)
  have A8 := Lib.hid (show Sev w8 w.heap.size 41 _ _ _ _ _ _ _ from f.cells A7.out (by decide))
  have X8 := Lib.hid (show Sev w8 w7.heap.size 41 _ _ _ _ _ _ _ from f.cells X7.out (by decide))
  have UX8 := Lib.hid (UX7.out.frA f)
  clear q f HK8
  obtain ⟨s6, hs6⟩ : ∃ x, x = (s5).take [116, 104, 101, 110] := ⟨_, rfl⟩
  have Q8a := Lib.hid (show QS B M w8 rb all s6 by rw [hs6]; exact Q8.out)
  have Hs6 := Lib.hid hs6
  clear hs6
  obtain ⟨⟨x, s7⟩, hx⟩ : ∃ p, p = qe s6 := ⟨_, rfl⟩
  obtain ⟨yk, ya, yn, ym, yns, yl, yts⟩ := x
  have HK9 := Lib.hid (rdsE_flat HE0.out w8 s6 Q8a.out yk ya yn ym yns yl yts s7 hx)
  have HX9 := Lib.hid hx
  have HL9 := Lib.hid (show w.heap.size < w8.heap.size from (Array.getElem?_eq_some_iff.1 A8.out).1)
  clear hx
  go_wp2_with fail
  refine HK9.out.mono ?_
  rintro e w9 ⟨yb4, ye4, yb5, ye5, yb6, ye6, rfl, f, i, q⟩
  obtain ⟨W9, hW9⟩ : ∃ W, w9.alloc (.cells #[.int .i64 (yk : Nat), .int .i64 (ya : Nat), .string ⟨yn.toArray⟩, .int .i64 (ym : Nat), .slice yb4 yns.length ye4, .slice yb5 yl.length ye5, .slice yb6 yts.length ye6] 41) = W := ⟨_, rfl⟩
  have b : Below w9.heap.size w9 W9 := by rw [← hW9]; exact (Below.refl _ _).alloc (Nat.le_refl _) _
  have Y9 := Lib.hid (show Sev W9 w9.heap.size 41 (.int .i64 (yk : Nat)) (.int .i64 (ya : Nat)) (.string ⟨yn.toArray⟩) (.int .i64 (ym : Nat)) (.slice yb4 yns.length ye4) (.slice yb5 yl.length ye5) (.slice yb6 yts.length ye6) by rw [← hW9]; exact heap_alloc_new w9 _)
  have Q9 := Lib.hid (q.below b)
  have fb := f.below b
  have F9 := Lib.hid (F8.out.trans fb)
  have A9 := Lib.hid (show Sev W9 w.heap.size 41 _ _ _ _ _ _ _ from fb.cells A8.out (by decide))
  have X9 := Lib.hid (show Sev W9 w7.heap.size 41 _ _ _ _ _ _ _ from fb.cells X8.out (by decide))
  have UX9 := Lib.hid (UX8.out.frA fb)
  have UY9 := Lib.hid (show IsCs (fun b => w.heap.size < b) W9 (encE 31 41 (.mk yk ya yn ym yns yl yts)) [.int .i64 (yk : Nat), .int .i64 (ya : Nat), .string ⟨yn.toArray⟩, .int .i64 (ym : Nat), .slice yb4 yns.length ye4, .slice yb5 yl.length ye5, .slice yb6 yts.length ye6] from (i.mono (fun b _ hb => Nat.lt_of_lt_of_le HL9.out hb)).below b)
  have HW9 := Lib.hid hW9
  clear q f fb b i hW9 HK9
  go_upto_region 31 with fail
  rw [HW9.out]
  have HK10 := Lib.hid (qtake_any hM Q9.out [101, 108, 115, 101])
  go_wp2_with fail
  refine HK10.out.mono ?_
  rintro e w10 ⟨rfl, q, f⟩
  have Q10 := Lib.hid q
  have F10 := Lib.hid (F9.out.trans f)
  have A10 := Lib.hid (show Sev w10 w.heap.size 41 _ _ _ _ _ _ _ from f.cells A9.out (by decide))
  have X10 := Lib.hid (show Sev w10 w7.heap.size 41 _ _ _ _ _ _ _ from f.cells X9.out (by decide))
  have UX10 := Lib.hid (UX9.out.frA f)
  have Y10 := Lib.hid (show Sev w10 w9.heap.size 41 _ _ _ _ _ _ _ from f.cells Y9.out (by decide))
  have UY10 := Lib.hid (UY9.out.frA f)
  clear q f HK10
  obtain ⟨s8, hs8⟩ : ∃ x, x = (s7).take [101, 108, 115, 101] := ⟨_, rfl⟩
  have Q10a := Lib.hid (show QS B M w10 rb all s8 by rw [hs8]; exact Q10.out)
  have Hs8 := Lib.hid hs8
  clear hs8
  obtain ⟨⟨x, s9⟩, hx⟩ : ∃ p, p = qe s8 := ⟨_, rfl⟩
  obtain ⟨zk, za, zn, zm, zns, zl, zts⟩ := x
  have HK11 := Lib.hid (rdsE_flat HE0.out w10 s8 Q10a.out zk za zn zm zns zl zts s9 hx)
  have HX11 := Lib.hid hx
  have HL11 := Lib.hid (show w.heap.size < w10.heap.size from (Array.getElem?_eq_some_iff.1 A10.out).1)
  clear hx
  go_wp2_with fail
  refine HK11.out.mono ?_
  rintro e w11 ⟨zb4, ze4, zb5, ze5, zb6, ze6, rfl, f, i, q⟩
  obtain ⟨W11, hW11⟩ : ∃ W, w11.alloc (.cells #[.int .i64 (zk : Nat), .int .i64 (za : Nat), .string ⟨zn.toArray⟩, .int .i64 (zm : Nat), .slice zb4 zns.length ze4, .slice zb5 zl.length ze5, .slice zb6 zts.length ze6] 41) = W := ⟨_, rfl⟩
  have b : Below w11.heap.size w11 W11 := by rw [← hW11]; exact (Below.refl _ _).alloc (Nat.le_refl _) _
  have Z11 := Lib.hid (show Sev W11 w11.heap.size 41 (.int .i64 (zk : Nat)) (.int .i64 (za : Nat)) (.string ⟨zn.toArray⟩) (.int .i64 (zm : Nat)) (.slice zb4 zns.length ze4) (.slice zb5 zl.length ze5) (.slice zb6 zts.length ze6) by rw [← hW11]; exact heap_alloc_new w11 _)
  have Q11 := Lib.hid (q.below b)
  have fb := f.below b
  have F11 := Lib.hid (F10.out.trans fb)
  have A11 := Lib.hid (show Sev W11 w.heap.size 41 _ _ _ _ _ _ _ from fb.cells A10.out (by decide))
  have X11 := Lib.hid (show Sev W11 w7.heap.size 41 _ _ _ _ _ _ _ from fb.cells X10.out (by decide))
  have UX11 := Lib.hid (UX10.out.frA fb)
  have Y11 := Lib.hid (show Sev W11 w9.heap.size 41 _ _ _ _ _ _ _ from fb.cells Y10.out (by decide))
  have UY11 := Lib.hid (UY10.out.frA fb)
  have UZ11 := Lib.hid (show IsCs (fun b => w.heap.size < b) W11 (encE 31 41 (.mk zk za zn zm zns zl zts)) [.int .i64 (zk : Nat), .int .i64 (za : Nat), .string ⟨zn.toArray⟩, .int .i64 (zm : Nat), .slice zb4 zns.length ze4, .slice zb5 zl.length ze5, .slice zb6 zts.length ze6] from (i.mono (fun b _ hb => Nat.lt_of_lt_of_le HL11.out hb)).below b)
  have HW11 := Lib.hid hW11
  clear q f fb b i hW11 HK11
  have e4 := Hs4.out
  have e6 := Hs6.out
  have e8 := Hs8.out
  have HOUT := Lib.hid (show out = (.mk 10 ta [] 0 [] [.mk xk xa xn xm xns xl xts, .mk yk ya yn ym yns yl yts, .mk zk za zn zm zns zl zts] [], s9) by
    rw [HON.out, HTA.out]
    unfold ifS if3 if2 if1
    rw [← e4, ← HX7.out, ← e6, ← HX9.out, ← e8, ← HX11.out])
  clear e4 e6 e8
  go_upto_region 33 with fail
  rw [HW11.out]
  obtain ⟨⟨Xx0, Xx1, Xx2, Xx3, Xx4, Xx5, Xx6⟩, -⟩ := sev_of (t := 41) X11.out
  obtain ⟨⟨Yx0, Yx1, Yx2, Yx3, Yx4, Yx5, Yx6⟩, -⟩ := sev_of (t := 41) Y11.out
  obtain ⟨⟨Zx0, Zx1, Zx2, Zx3, Zx4, Zx5, Zx6⟩, -⟩ := sev_of (t := 41) Z11.out
  obtain ⟨WL, hWL⟩ : ∃ WL, W11.alloc (.cells #[.int .i64 (xk : Nat), .int .i64 (xa : Nat), .string ⟨xn.toArray⟩, .int .i64 (xm : Nat), .slice xb4 xns.length xe4, .slice xb5 xl.length xe5, .slice xb6 xts.length xe6, .int .i64 (yk : Nat), .int .i64 (ya : Nat), .string ⟨yn.toArray⟩, .int .i64 (ym : Nat), .slice yb4 yns.length ye4, .slice yb5 yl.length ye5, .slice yb6 yts.length ye6, .int .i64 (zk : Nat), .int .i64 (za : Nat), .string ⟨zn.toArray⟩, .int .i64 (zm : Nat), .slice zb4 zns.length ze4, .slice zb5 zl.length ze5, .slice zb6 zts.length ze6] 41) = WL := ⟨_, rfl⟩
  have bL : Below W11.heap.size W11 WL := by rw [← hWL]; exact (Below.refl _ _).alloc (Nat.le_refl _) _
  have rx := row_lit (e := 41) (size := 7) (n := 3) (g := W11.heap.size) (A := fun b => w.heap.size < b) (l := encEs 31 41 [.mk xk xa xn xm xns xl xts, .mk yk ya yn ym yns yl yts, .mk zk za zn zm zns zl zts]) (cs := [.int .i64 (xk : Nat), .int .i64 (xa : Nat), .string ⟨xn.toArray⟩, .int .i64 (xm : Nat), .slice xb4 xns.length xe4, .slice xb5 xl.length xe5, .slice xb6 xts.length xe6, .int .i64 (yk : Nat), .int .i64 (ya : Nat), .string ⟨yn.toArray⟩, .int .i64 (ym : Nat), .slice yb4 yns.length ye4, .slice yb5 yl.length ye5, .slice yb6 yts.length ye6, .int .i64 (zk : Nat), .int .i64 (za : Nat), .string ⟨zn.toArray⟩, .int .i64 (zm : Nat), .slice zb4 zns.length ze4, .slice zb5 zl.length ze5, .slice zb6 zts.length ze6]) (by decide) rfl (Array.getElem?_eq_some_iff.1 A11.out).1 (by decide) (by rfl) (by rw [encEs, encEs, encEs, encEs, List.append_nil]; exact (UX11.out.append _ _ _ _ (UY11.out.append _ _ _ _ UZ11.out)))
  have RX := Lib.hid (show IsC (fun b => w.heap.size < b) WL _ _ by rw [← hWL]; exact rx)
  have QL := Lib.hid (Q11.out.below bL)
  have FL := Lib.hid (F11.out.below bL)
  have AL := Lib.hid ((bL.block _ (Array.getElem?_eq_some_iff.1 A11.out).1).trans A11.out)
  have HTH := Lib.hid (there_of AL.out rfl)
  subst hWL
  clear rx bL
  go_wp2_with (first | (refine wpList_store_put rfl 41 (.tmp 4) (.tmp 124) rfl w.heap.size _ rfl rfl HTH.out sizeEq (all_oneCell_toArray (by simp [Value.oneCell'])) ?_; intro WF hWF))
  rw [HOUT.out]
  exact endEq rfl rfl rfl AL.out FL.out QL.out HRB.out (IsCs.cons (IsC.num _ _ 10) (IsCs.cons (IsC.num _ _ ta) (IsCs.cons (IsC.str _ _ []) (IsCs.cons (IsC.num _ _ 0) (IsCs.cons (IsC.none _ _ 1 (e := 9) (by decide)) (IsCs.cons RX.out (IsCs.cons (IsC.none _ _ 4 (by decide)) (IsCs.nil _ _)))))))) hWF
set_option maxHeartbeats 20000000 in
theorem qexpr_let {B M rb : Nat} {all : List Tk} (d : Nat) (hd64 : d ≤ 64) (hM : M ≤ 10000000) (qe : Q → PE × Q) (HE : RdsE 48 B M rb all (d + 1) qe) (w : World) (s : Q) (h : QS B M w rb all s) (hb0 : s.bad = false) (hf : s.is [102, 117, 110] = false) (hl : s.is [108, 101, 116] = true) :
    Calls Tryz.prog 48 #[.pointer (some ⟨rb, 0, none⟩), .int .i64 (d : Nat)] w (QPE B M w rb all (letS (hd s.ts).a qe s)) := by
  obtain ⟨out, hout⟩ : ∃ out, out = letS (hd s.ts).a qe s := ⟨_, rfl⟩
  rw [← hout]
  have HRB := Lib.hid h.lt
  have HIF := Lib.hid hf
  have HIL := Lib.hid hl
  have HE0 := Lib.hid HE
  have HON := Lib.hid hout
  obtain ⟨W1, hW1⟩ : ∃ W1, zSev w = W1 := ⟨_, rfl⟩
  have a1 := zsev w
  rw [hW1] at a1
  have HA1 := Lib.hid a1
  have F1 := Lib.hid (show Fr B w W1 by rw [← hW1]; exact (Fr.refl B w).alloc _)
  have q1 := (show QS B M W1 rb all s by rw [← hW1]; exact h.alloc _)
  have Q1 := Lib.hid q1
  have HW1 := Lib.hid (show w.alloc (.cells #[.int .i64 0, .int .i64 0, .string ⟨#[]⟩, .int .i64 0, .slice none 0 0, .slice none 0 0, .slice none 0 0] 41) = W1 from hW1)
  obtain ⟨g, cap, i, vd, h6, hi, hb, hg, c0, c1, c2, -⟩ := q1.first
  obtain ⟨⟨p0, p1, p2, p3⟩, -⟩ := fou_of h6
  obtain ⟨⟨tk, ta, tt⟩, ht⟩ : ∃ t, t = hd s.ts := ⟨_, rfl⟩
  rw [← ht] at c0 c1 c2
  have HTA := Lib.hid (show (hd s.ts).a = ta by rw [← ht])
  simp only at c0 c1 c2
  rw [hb0] at p3
  have HBD := Lib.hid hb0
  clear h hW1 a1 q1 h6 ht hb0 hf hl HE hout
  go_enter Tryz.func48, Tryz.ntmps48
  go_upto_region 1 with fail
  rw [HW1.out]
  go_upto_region 5 with fail
  go_region
  go_upto_region 6 with fail
  obtain ⟨W2, hW2⟩ : ∃ W2, W1.drew = W2 := ⟨_, rfl⟩
  rw [hW2]
  have Q2 := Lib.hid (show QS B M W2 rb all s by rw [← hW2]; exact Q1.out.drew)
  have F2 := Lib.hid (show Fr B w W2 by rw [← hW2]; exact F1.out.drew)
  have A2 := Lib.hid (show Sev W2 w.heap.size 41 (.int .i64 0) (.int .i64 0) (.string ⟨#[]⟩) (.int .i64 0) (.slice none 0 0) (.slice none 0 0) (.slice none 0 0) by rw [← hW2]; exact HA1.out)
  clear hW2 p0 p1 p2 p3 c0 c1 c2 hi hb hg
  have HI3 := Lib.hid (qis_any Q2.out [102, 117, 110])
  rw [HIF.out] at HI3
  go_wp2_with fail
  refine HI3.out.mono ?_
  rintro e w3 ⟨rfl, b⟩
  have Q3 := Lib.hid (Q2.out.below b)
  have F3 := Lib.hid (F2.out.below b)
  have A3 := Lib.hid (show Sev w3 w.heap.size 41 _ _ _ _ _ _ _ from (b.block _ (Array.getElem?_eq_some_iff.1 A2.out).1).trans A2.out)
  clear b HI3
  have HI4 := Lib.hid (qis_any Q3.out [108, 101, 116])
  rw [HIL.out] at HI4
  go_wp2_with fail
  refine HI4.out.mono ?_
  rintro e w4 ⟨rfl, b⟩
  have Q4 := Lib.hid (Q3.out.below b)
  have F4 := Lib.hid (F3.out.below b)
  have A4 := Lib.hid (show Sev w4 w.heap.size 41 _ _ _ _ _ _ _ from (b.block _ (Array.getElem?_eq_some_iff.1 A3.out).1).trans A3.out)
  clear b HI4
  have HK5 := Lib.hid (qtake_any hM Q4.out [108, 101, 116])
  go_wp2_with fail
  refine HK5.out.mono ?_
  rintro e w5 ⟨rfl, q, f⟩
  have Q5 := Lib.hid q
  have F5 := Lib.hid (F4.out.trans f)
  have A5 := Lib.hid (show Sev w5 w.heap.size 41 _ _ _ _ _ _ _ from f.cells A4.out (by decide))
  clear q f HK5
  have HK6 := Lib.hid (qname_any hM Q5.out)
  go_wp2_with fail
  refine HK6.out.mono ?_
  rintro e w6 ⟨rfl, q, f⟩
  obtain ⟨⟨nk, na, nt⟩, hn⟩ : ∃ t, t = ((s).take [108, 101, 116]).name.1 := ⟨_, rfl⟩
  rw [← hn]
  unfold tokV
  obtain ⟨W6, hW6⟩ : ∃ W, w6.alloc (.cells #[.int .i64 (nk : Nat), .int .i64 (na : Nat), .string ⟨nt.toArray⟩] 96) = W := ⟨_, rfl⟩
  have b : Below w6.heap.size w6 W6 := by rw [← hW6]; exact (Below.refl _ _).alloc (Nat.le_refl _) _
  have T6 := Lib.hid (show Thr W6 w6.heap.size 96 (.int .i64 (nk : Nat)) (.int .i64 (na : Nat)) (.string ⟨nt.toArray⟩) by rw [← hW6]; exact thr_new w6 _ _ _ _)
  have Q6 := Lib.hid (q.below b)
  have fb := f.below b
  have F6 := Lib.hid (F5.out.trans fb)
  have A6 := Lib.hid (show Sev W6 w.heap.size 41 _ _ _ _ _ _ _ from fb.cells A5.out (by decide))
  have HN6 := Lib.hid hn
  have HW6 := Lib.hid hW6
  clear q f fb b hn hW6 HK6
  go_upto_region 21 with fail
  rw [HW6.out]
  have HK7 := Lib.hid (qtake_any hM Q6.out [61])
  go_wp2_with fail
  refine HK7.out.mono ?_
  rintro e w7 ⟨rfl, q, f⟩
  have Q7 := Lib.hid q
  have F7 := Lib.hid (F6.out.trans f)
  have A7 := Lib.hid (show Sev w7 w.heap.size 41 _ _ _ _ _ _ _ from f.cells A6.out (by decide))
  have T7 := Lib.hid (show Thr w7 w6.heap.size 96 _ _ _ from f.cells T6.out (by decide))
  clear q f HK7
  obtain ⟨s4, hs4⟩ : ∃ x, x = (((s).take [108, 101, 116]).name.2).take [61] := ⟨_, rfl⟩
  have Q7a := Lib.hid (show QS B M w7 rb all s4 by rw [hs4]; exact Q7.out)
  have Hs4 := Lib.hid hs4
  clear hs4
  obtain ⟨⟨x, s5⟩, hx⟩ : ∃ p, p = qe s4 := ⟨_, rfl⟩
  obtain ⟨xk, xa, xn, xm, xns, xl, xts⟩ := x
  have HK8 := Lib.hid (rdsE_flat HE0.out w7 s4 Q7a.out xk xa xn xm xns xl xts s5 hx)
  have HX8 := Lib.hid hx
  have HL8 := Lib.hid (show w.heap.size < w7.heap.size from (Array.getElem?_eq_some_iff.1 A7.out).1)
  clear hx
  go_wp2_with fail
  refine HK8.out.mono ?_
  rintro e w8 ⟨xb4, xe4, xb5, xe5, xb6, xe6, rfl, f, i, q⟩
  obtain ⟨W8, hW8⟩ : ∃ W, w8.alloc (.cells #[.int .i64 (xk : Nat), .int .i64 (xa : Nat), .string ⟨xn.toArray⟩, .int .i64 (xm : Nat), .slice xb4 xns.length xe4, .slice xb5 xl.length xe5, .slice xb6 xts.length xe6] 41) = W := ⟨_, rfl⟩
  have b : Below w8.heap.size w8 W8 := by rw [← hW8]; exact (Below.refl _ _).alloc (Nat.le_refl _) _
  have X8 := Lib.hid (show Sev W8 w8.heap.size 41 (.int .i64 (xk : Nat)) (.int .i64 (xa : Nat)) (.string ⟨xn.toArray⟩) (.int .i64 (xm : Nat)) (.slice xb4 xns.length xe4) (.slice xb5 xl.length xe5) (.slice xb6 xts.length xe6) by rw [← hW8]; exact heap_alloc_new w8 _)
  have Q8 := Lib.hid (q.below b)
  have fb := f.below b
  have F8 := Lib.hid (F7.out.trans fb)
  have A8 := Lib.hid (show Sev W8 w.heap.size 41 _ _ _ _ _ _ _ from fb.cells A7.out (by decide))
  have T8 := Lib.hid (show Thr W8 w6.heap.size 96 _ _ _ from fb.cells T7.out (by decide))
  have UX8 := Lib.hid (show IsCs (fun b => w.heap.size < b) W8 (encE 31 41 (.mk xk xa xn xm xns xl xts)) [.int .i64 (xk : Nat), .int .i64 (xa : Nat), .string ⟨xn.toArray⟩, .int .i64 (xm : Nat), .slice xb4 xns.length xe4, .slice xb5 xl.length xe5, .slice xb6 xts.length xe6] from (i.mono (fun b _ hb => Nat.lt_of_lt_of_le HL8.out hb)).below b)
  have HW8 := Lib.hid hW8
  clear q f fb b i hW8 HK8
  go_upto_region 23 with fail
  rw [HW8.out]
  have HK9 := Lib.hid (qtake_any hM Q8.out [105, 110])
  go_wp2_with fail
  refine HK9.out.mono ?_
  rintro e w9 ⟨rfl, q, f⟩
  have Q9 := Lib.hid q
  have F9 := Lib.hid (F8.out.trans f)
  have A9 := Lib.hid (show Sev w9 w.heap.size 41 _ _ _ _ _ _ _ from f.cells A8.out (by decide))
  have T9 := Lib.hid (show Thr w9 w6.heap.size 96 _ _ _ from f.cells T8.out (by decide))
  have X9 := Lib.hid (show Sev w9 w8.heap.size 41 _ _ _ _ _ _ _ from f.cells X8.out (by decide))
  have UX9 := Lib.hid (UX8.out.frA f)
  clear q f HK9
  obtain ⟨s6, hs6⟩ : ∃ x, x = (s5).take [105, 110] := ⟨_, rfl⟩
  have Q9a := Lib.hid (show QS B M w9 rb all s6 by rw [hs6]; exact Q9.out)
  have Hs6 := Lib.hid hs6
  clear hs6
  obtain ⟨⟨x, s7⟩, hx⟩ : ∃ p, p = qe s6 := ⟨_, rfl⟩
  obtain ⟨yk, ya, yn, ym, yns, yl, yts⟩ := x
  have HK10 := Lib.hid (rdsE_flat HE0.out w9 s6 Q9a.out yk ya yn ym yns yl yts s7 hx)
  have HX10 := Lib.hid hx
  have HL10 := Lib.hid (show w.heap.size < w9.heap.size from (Array.getElem?_eq_some_iff.1 A9.out).1)
  clear hx
  go_wp2_with fail
  refine HK10.out.mono ?_
  rintro e w10 ⟨yb4, ye4, yb5, ye5, yb6, ye6, rfl, f, i, q⟩
  obtain ⟨W10, hW10⟩ : ∃ W, w10.alloc (.cells #[.int .i64 (yk : Nat), .int .i64 (ya : Nat), .string ⟨yn.toArray⟩, .int .i64 (ym : Nat), .slice yb4 yns.length ye4, .slice yb5 yl.length ye5, .slice yb6 yts.length ye6] 41) = W := ⟨_, rfl⟩
  have b : Below w10.heap.size w10 W10 := by rw [← hW10]; exact (Below.refl _ _).alloc (Nat.le_refl _) _
  have Y10 := Lib.hid (show Sev W10 w10.heap.size 41 (.int .i64 (yk : Nat)) (.int .i64 (ya : Nat)) (.string ⟨yn.toArray⟩) (.int .i64 (ym : Nat)) (.slice yb4 yns.length ye4) (.slice yb5 yl.length ye5) (.slice yb6 yts.length ye6) by rw [← hW10]; exact heap_alloc_new w10 _)
  have Q10 := Lib.hid (q.below b)
  have fb := f.below b
  have F10 := Lib.hid (F9.out.trans fb)
  have A10 := Lib.hid (show Sev W10 w.heap.size 41 _ _ _ _ _ _ _ from fb.cells A9.out (by decide))
  have T10 := Lib.hid (show Thr W10 w6.heap.size 96 _ _ _ from fb.cells T9.out (by decide))
  have X10 := Lib.hid (show Sev W10 w8.heap.size 41 _ _ _ _ _ _ _ from fb.cells X9.out (by decide))
  have UX10 := Lib.hid (UX9.out.frA fb)
  have UY10 := Lib.hid (show IsCs (fun b => w.heap.size < b) W10 (encE 31 41 (.mk yk ya yn ym yns yl yts)) [.int .i64 (yk : Nat), .int .i64 (ya : Nat), .string ⟨yn.toArray⟩, .int .i64 (ym : Nat), .slice yb4 yns.length ye4, .slice yb5 yl.length ye5, .slice yb6 yts.length ye6] from (i.mono (fun b _ hb => Nat.lt_of_lt_of_le HL10.out hb)).below b)
  have HW10 := Lib.hid hW10
  clear q f fb b i hW10 HK10
  have HOUT := Lib.hid (show out = (.mk 9 ta nt 0 [] [.mk xk xa xn xm xns xl xts, .mk yk ya yn ym yns yl yts] [], s7) by
    rw [HON.out, HTA.out]
    unfold letS letHd
    simp only
    rw [← Hs4.out, ← HX8.out, ← Hs6.out, ← HX10.out, ← HN6.out])
  go_upto_region 25 with fail
  rw [HW10.out]
  obtain ⟨⟨t0, t1, t2⟩, -⟩ := thr_of T10.out
  obtain ⟨⟨Xx0, Xx1, Xx2, Xx3, Xx4, Xx5, Xx6⟩, -⟩ := sev_of (t := 41) X10.out
  obtain ⟨⟨Yx0, Yx1, Yx2, Yx3, Yx4, Yx5, Yx6⟩, -⟩ := sev_of (t := 41) Y10.out
  obtain ⟨WL, hWL⟩ : ∃ WL, W10.alloc (.cells #[.int .i64 (xk : Nat), .int .i64 (xa : Nat), .string ⟨xn.toArray⟩, .int .i64 (xm : Nat), .slice xb4 xns.length xe4, .slice xb5 xl.length xe5, .slice xb6 xts.length xe6, .int .i64 (yk : Nat), .int .i64 (ya : Nat), .string ⟨yn.toArray⟩, .int .i64 (ym : Nat), .slice yb4 yns.length ye4, .slice yb5 yl.length ye5, .slice yb6 yts.length ye6] 41) = WL := ⟨_, rfl⟩
  have bL : Below W10.heap.size W10 WL := by rw [← hWL]; exact (Below.refl _ _).alloc (Nat.le_refl _) _
  have rx := row_lit (e := 41) (size := 7) (n := 2) (g := W10.heap.size) (A := fun b => w.heap.size < b) (l := encEs 31 41 [.mk xk xa xn xm xns xl xts, .mk yk ya yn ym yns yl yts]) (cs := [.int .i64 (xk : Nat), .int .i64 (xa : Nat), .string ⟨xn.toArray⟩, .int .i64 (xm : Nat), .slice xb4 xns.length xe4, .slice xb5 xl.length xe5, .slice xb6 xts.length xe6, .int .i64 (yk : Nat), .int .i64 (ya : Nat), .string ⟨yn.toArray⟩, .int .i64 (ym : Nat), .slice yb4 yns.length ye4, .slice yb5 yl.length ye5, .slice yb6 yts.length ye6]) (by decide) rfl (Array.getElem?_eq_some_iff.1 A10.out).1 (by decide) (by rfl) (by rw [encEs, encEs, encEs, List.append_nil]; exact (UX10.out.append _ _ _ _ UY10.out))
  have RX := Lib.hid (show IsC (fun b => w.heap.size < b) WL _ _ by rw [← hWL]; exact rx)
  have QL := Lib.hid (Q10.out.below bL)
  have FL := Lib.hid (F10.out.below bL)
  have AL := Lib.hid ((bL.block _ (Array.getElem?_eq_some_iff.1 A10.out).1).trans A10.out)
  have HTH := Lib.hid (there_of AL.out rfl)
  subst hWL
  clear rx bL
  go_wp2_with (first | (refine wpList_store_put rfl 41 (.tmp 4) (.tmp 98) rfl w.heap.size _ rfl rfl HTH.out sizeEq (all_oneCell_toArray (by simp [Value.oneCell'])) ?_; intro WF hWF))
  rw [HOUT.out]
  exact endEq rfl rfl rfl AL.out FL.out QL.out HRB.out (IsCs.cons (IsC.num _ _ 9) (IsCs.cons (IsC.num _ _ ta) (IsCs.cons (IsC.str _ _ nt) (IsCs.cons (IsC.num _ _ 0) (IsCs.cons (IsC.none _ _ 1 (e := 9) (by decide)) (IsCs.cons RX.out (IsCs.cons (IsC.none _ _ 4 (by decide)) (IsCs.nil _ _)))))))) hWF
end Go.Proofs.YtijnjoonbjdafaaGreatDoor
namespace Go.Proofs.YtijnjoonbjdafaaGreatDoor
set_option maxRecDepth 20000
open Go.RowKit Go.Shelf
set_option maxHeartbeats 20000000 in
theorem qexpr_fun_a {B M rb : Nat} {all : List Tk} (d : Nat) (hd64 : d ≤ 64) (hM : M ≤ 10000000) (w : World) (s : Q) (out : PE × Q) (h : QS B M w rb all s) (hb0 : s.bad = false) (hf : s.is [102, 117, 110] = true) (hh : (funHd s).2.bad = true) (hout : out = (qE0, (funHd s).2)) :
    Calls Tryz.prog 48 #[.pointer (some ⟨rb, 0, none⟩), .int .i64 (d : Nat)] w (QPE B M w rb all out) := by
  have HRB := Lib.hid h.lt
  have HIF := Lib.hid hf
  have HHB := Lib.hid hh
  have HON := Lib.hid hout
  obtain ⟨W1, hW1⟩ : ∃ W1, zSev w = W1 := ⟨_, rfl⟩
  have a1 := zsev w
  rw [hW1] at a1
  have HA1 := Lib.hid a1
  have F1 := Lib.hid (show Fr B w W1 by rw [← hW1]; exact (Fr.refl B w).alloc _)
  have q1 := (show QS B M W1 rb all s by rw [← hW1]; exact h.alloc _)
  have Q1 := Lib.hid q1
  have HW1 := Lib.hid (show w.alloc (.cells #[.int .i64 0, .int .i64 0, .string ⟨#[]⟩, .int .i64 0, .slice none 0 0, .slice none 0 0, .slice none 0 0] 41) = W1 from hW1)
  obtain ⟨g, cap, i, vd, h6, hi, hb, hg, c0, c1, c2, -⟩ := q1.first
  obtain ⟨⟨p0, p1, p2, p3⟩, -⟩ := fou_of h6
  obtain ⟨⟨tk, ta, tt⟩, ht⟩ : ∃ t, t = hd s.ts := ⟨_, rfl⟩
  rw [← ht] at c0 c1 c2
  have HTA := Lib.hid (show (hd s.ts).a = ta by rw [← ht])
  simp only at c0 c1 c2
  rw [hb0] at p3
  have HBD := Lib.hid hb0
  clear h hW1 a1 q1 h6 ht hb0 hf hh hout
  go_enter Tryz.func48, Tryz.ntmps48
  go_upto_region 1 with fail
  rw [HW1.out]
  go_upto_region 5 with fail
  go_region
  go_upto_region 6 with fail
  obtain ⟨W2, hW2⟩ : ∃ W2, W1.drew = W2 := ⟨_, rfl⟩
  rw [hW2]
  have Q2 := Lib.hid (show QS B M W2 rb all s by rw [← hW2]; exact Q1.out.drew)
  have F2 := Lib.hid (show Fr B w W2 by rw [← hW2]; exact F1.out.drew)
  have A2 := Lib.hid (show Sev W2 w.heap.size 41 (.int .i64 0) (.int .i64 0) (.string ⟨#[]⟩) (.int .i64 0) (.slice none 0 0) (.slice none 0 0) (.slice none 0 0) by rw [← hW2]; exact HA1.out)
  clear hW2 p0 p1 p2 p3 c0 c1 c2 hi hb hg
  have HI3 := Lib.hid (qis_any Q2.out [102, 117, 110])
  rw [HIF.out] at HI3
  go_wp2_with fail
  refine HI3.out.mono ?_
  rintro e w3 ⟨rfl, b⟩
  have Q3 := Lib.hid (Q2.out.below b)
  have F3 := Lib.hid (F2.out.below b)
  have A3 := Lib.hid (show Sev w3 w.heap.size 41 _ _ _ _ _ _ _ from (b.block _ (Array.getElem?_eq_some_iff.1 A2.out).1).trans A2.out)
  clear b HI3
  have HK4 := Lib.hid (qtake_any hM Q3.out [102, 117, 110])
  go_wp2_with fail
  refine HK4.out.mono ?_
  rintro e w4 ⟨rfl, q, f⟩
  have Q4 := Lib.hid q
  have F4 := Lib.hid (F3.out.trans f)
  have A4 := Lib.hid (show Sev w4 w.heap.size 41 _ _ _ _ _ _ _ from f.cells A3.out (by decide))
  clear q f HK4
  have HK5 := Lib.hid (qtake_any hM Q4.out [40])
  go_wp2_with fail
  refine HK5.out.mono ?_
  rintro e w5 ⟨rfl, q, f⟩
  have Q5 := Lib.hid q
  have F5 := Lib.hid (F4.out.trans f)
  have A5 := Lib.hid (show Sev w5 w.heap.size 41 _ _ _ _ _ _ _ from f.cells A4.out (by decide))
  clear q f HK5
  have HK6 := Lib.hid (qname_any hM Q5.out)
  go_wp2_with fail
  refine HK6.out.mono ?_
  rintro e w6 ⟨rfl, q, f⟩
  obtain ⟨⟨nk, na, nt⟩, hn⟩ : ∃ t, t = (((s).take [102, 117, 110]).take [40]).name.1 := ⟨_, rfl⟩
  rw [← hn]
  unfold tokV
  obtain ⟨W6, hW6⟩ : ∃ W, w6.alloc (.cells #[.int .i64 (nk : Nat), .int .i64 (na : Nat), .string ⟨nt.toArray⟩] 96) = W := ⟨_, rfl⟩
  have b : Below w6.heap.size w6 W6 := by rw [← hW6]; exact (Below.refl _ _).alloc (Nat.le_refl _) _
  have T6 := Lib.hid (show Thr W6 w6.heap.size 96 (.int .i64 (nk : Nat)) (.int .i64 (na : Nat)) (.string ⟨nt.toArray⟩) by rw [← hW6]; exact thr_new w6 _ _ _ _)
  have Q6 := Lib.hid (q.below b)
  have fb := f.below b
  have F6 := Lib.hid (F5.out.trans fb)
  have A6 := Lib.hid (show Sev W6 w.heap.size 41 _ _ _ _ _ _ _ from fb.cells A5.out (by decide))
  have HN6 := Lib.hid hn
  have HW6 := Lib.hid hW6
  clear q f fb b hn hW6 HK6
  go_upto_region 10 with fail
  rw [HW6.out]
  have HK7 := Lib.hid (qtake_any hM Q6.out [58])
  go_wp2_with fail
  refine HK7.out.mono ?_
  rintro e w7 ⟨rfl, q, f⟩
  have Q7 := Lib.hid q
  have F7 := Lib.hid (F6.out.trans f)
  have A7 := Lib.hid (show Sev w7 w.heap.size 41 _ _ _ _ _ _ _ from f.cells A6.out (by decide))
  have T7 := Lib.hid (show Thr w7 w6.heap.size 96 _ _ _ from f.cells T6.out (by decide))
  clear q f HK7
  obtain ⟨s5, hs5⟩ : ∃ x, x = ((((s).take [102, 117, 110]).take [40]).name.2).take [58] := ⟨_, rfl⟩
  have Q7a := Lib.hid (show QS B M w7 rb all s5 by rw [hs5]; exact Q7.out)
  have Hs5 := Lib.hid hs5
  clear hs5
  have HBB := Lib.hid (show s5.bad = true by rw [Hs5.out]; exact HHB.out)
  have HOUT := Lib.hid (show out = (qE0, s5) by rw [HON.out, Hs5.out]; rfl)
  obtain ⟨g', cap', i', vd', h7, -⟩ := Q7a.out.first
  obtain ⟨⟨p0, p1, p2, p3⟩, -⟩ := fou_of h7
  rw [HBB.out] at p3
  clear h7
  have HTH := Lib.hid (there_of A7.out rfl)
  go_wp2_with (first | (refine wpList_store_put rfl 41 (.tmp 4) (.tmp 51) rfl w.heap.size _ rfl rfl HTH.out sizeEq (all_oneCell_toArray (by simp [Value.oneCell'])) ?_; intro WF hWF))
  rw [HOUT.out]
  exact endEq rfl rfl rfl A7.out F7.out Q7a.out HRB.out (bareEq _ _ 0 0 [] 0) hWF
set_option maxHeartbeats 20000000 in
theorem qexpr_fun_b {B M rb : Nat} {all : List Tk} (d : Nat) (hd64 : d ≤ 64) (hM : M ≤ 10000000) (qt : Q → PT × Q) (HT : RdsT 45 B M rb all (d + 1) qt) (w : World) (s : Q) (out : PE × Q) (h : QS B M w rb all s) (hb0 : s.bad = false) (hf : s.is [102, 117, 110] = true) (hh : (funHd s).2.bad = false) (hq : ((qt (funHd s).2).2.take [41]).bad = true) (hout : out = (qE0, (qt (funHd s).2).2.take [41])) :
    Calls Tryz.prog 48 #[.pointer (some ⟨rb, 0, none⟩), .int .i64 (d : Nat)] w (QPE B M w rb all out) := by
  have HRB := Lib.hid h.lt
  have HIF := Lib.hid hf
  have HHB := Lib.hid hh
  have HQB := Lib.hid hq
  have HT0 := Lib.hid HT
  have HON := Lib.hid hout
  obtain ⟨W1, hW1⟩ : ∃ W1, zSev w = W1 := ⟨_, rfl⟩
  have a1 := zsev w
  rw [hW1] at a1
  have HA1 := Lib.hid a1
  have F1 := Lib.hid (show Fr B w W1 by rw [← hW1]; exact (Fr.refl B w).alloc _)
  have q1 := (show QS B M W1 rb all s by rw [← hW1]; exact h.alloc _)
  have Q1 := Lib.hid q1
  have HW1 := Lib.hid (show w.alloc (.cells #[.int .i64 0, .int .i64 0, .string ⟨#[]⟩, .int .i64 0, .slice none 0 0, .slice none 0 0, .slice none 0 0] 41) = W1 from hW1)
  obtain ⟨g, cap, i, vd, h6, hi, hb, hg, c0, c1, c2, -⟩ := q1.first
  obtain ⟨⟨p0, p1, p2, p3⟩, -⟩ := fou_of h6
  obtain ⟨⟨tk, ta, tt⟩, ht⟩ : ∃ t, t = hd s.ts := ⟨_, rfl⟩
  rw [← ht] at c0 c1 c2
  have HTA := Lib.hid (show (hd s.ts).a = ta by rw [← ht])
  simp only at c0 c1 c2
  rw [hb0] at p3
  have HBD := Lib.hid hb0
  clear h hW1 a1 q1 h6 ht hb0 hf hh hq HT hout
  go_enter Tryz.func48, Tryz.ntmps48
  go_upto_region 1 with fail
  rw [HW1.out]
  go_upto_region 5 with fail
  go_region
  go_upto_region 6 with fail
  obtain ⟨W2, hW2⟩ : ∃ W2, W1.drew = W2 := ⟨_, rfl⟩
  rw [hW2]
  have Q2 := Lib.hid (show QS B M W2 rb all s by rw [← hW2]; exact Q1.out.drew)
  have F2 := Lib.hid (show Fr B w W2 by rw [← hW2]; exact F1.out.drew)
  have A2 := Lib.hid (show Sev W2 w.heap.size 41 (.int .i64 0) (.int .i64 0) (.string ⟨#[]⟩) (.int .i64 0) (.slice none 0 0) (.slice none 0 0) (.slice none 0 0) by rw [← hW2]; exact HA1.out)
  clear hW2 p0 p1 p2 p3 c0 c1 c2 hi hb hg
  have HI3 := Lib.hid (qis_any Q2.out [102, 117, 110])
  rw [HIF.out] at HI3
  go_wp2_with fail
  refine HI3.out.mono ?_
  rintro e w3 ⟨rfl, b⟩
  have Q3 := Lib.hid (Q2.out.below b)
  have F3 := Lib.hid (F2.out.below b)
  have A3 := Lib.hid (show Sev w3 w.heap.size 41 _ _ _ _ _ _ _ from (b.block _ (Array.getElem?_eq_some_iff.1 A2.out).1).trans A2.out)
  clear b HI3
  have HK4 := Lib.hid (qtake_any hM Q3.out [102, 117, 110])
  go_wp2_with fail
  refine HK4.out.mono ?_
  rintro e w4 ⟨rfl, q, f⟩
  have Q4 := Lib.hid q
  have F4 := Lib.hid (F3.out.trans f)
  have A4 := Lib.hid (show Sev w4 w.heap.size 41 _ _ _ _ _ _ _ from f.cells A3.out (by decide))
  clear q f HK4
  have HK5 := Lib.hid (qtake_any hM Q4.out [40])
  go_wp2_with fail
  refine HK5.out.mono ?_
  rintro e w5 ⟨rfl, q, f⟩
  have Q5 := Lib.hid q
  have F5 := Lib.hid (F4.out.trans f)
  have A5 := Lib.hid (show Sev w5 w.heap.size 41 _ _ _ _ _ _ _ from f.cells A4.out (by decide))
  clear q f HK5
  have HK6 := Lib.hid (qname_any hM Q5.out)
  go_wp2_with fail
  refine HK6.out.mono ?_
  rintro e w6 ⟨rfl, q, f⟩
  obtain ⟨⟨nk, na, nt⟩, hn⟩ : ∃ t, t = (((s).take [102, 117, 110]).take [40]).name.1 := ⟨_, rfl⟩
  rw [← hn]
  unfold tokV
  obtain ⟨W6, hW6⟩ : ∃ W, w6.alloc (.cells #[.int .i64 (nk : Nat), .int .i64 (na : Nat), .string ⟨nt.toArray⟩] 96) = W := ⟨_, rfl⟩
  have b : Below w6.heap.size w6 W6 := by rw [← hW6]; exact (Below.refl _ _).alloc (Nat.le_refl _) _
  have T6 := Lib.hid (show Thr W6 w6.heap.size 96 (.int .i64 (nk : Nat)) (.int .i64 (na : Nat)) (.string ⟨nt.toArray⟩) by rw [← hW6]; exact thr_new w6 _ _ _ _)
  have Q6 := Lib.hid (q.below b)
  have fb := f.below b
  have F6 := Lib.hid (F5.out.trans fb)
  have A6 := Lib.hid (show Sev W6 w.heap.size 41 _ _ _ _ _ _ _ from fb.cells A5.out (by decide))
  have HN6 := Lib.hid hn
  have HW6 := Lib.hid hW6
  clear q f fb b hn hW6 HK6
  go_upto_region 10 with fail
  rw [HW6.out]
  have HK7 := Lib.hid (qtake_any hM Q6.out [58])
  go_wp2_with fail
  refine HK7.out.mono ?_
  rintro e w7 ⟨rfl, q, f⟩
  have Q7 := Lib.hid q
  have F7 := Lib.hid (F6.out.trans f)
  have A7 := Lib.hid (show Sev w7 w.heap.size 41 _ _ _ _ _ _ _ from f.cells A6.out (by decide))
  have T7 := Lib.hid (show Thr w7 w6.heap.size 96 _ _ _ from f.cells T6.out (by decide))
  clear q f HK7
  obtain ⟨s5, hs5⟩ : ∃ x, x = ((((s).take [102, 117, 110]).take [40]).name.2).take [58] := ⟨_, rfl⟩
  have Q7a := Lib.hid (show QS B M w7 rb all s5 by rw [hs5]; exact Q7.out)
  have Hs5 := Lib.hid hs5
  clear hs5
  have HBB := Lib.hid (show s5.bad = false by rw [Hs5.out]; exact HHB.out)
  obtain ⟨g', cap', i', vd', h7, -⟩ := Q7a.out.first
  obtain ⟨⟨p0, p1, p2, p3⟩, -⟩ := fou_of h7
  rw [HBB.out] at p3
  clear h7
  obtain ⟨⟨x, s6⟩, hx⟩ : ∃ p, p = qt s5 := ⟨_, rfl⟩
  obtain ⟨uk, un, uns, ul⟩ := x
  have HK8 := Lib.hid (rdsT_flat HT0.out w7 s5 Q7a.out uk un uns ul s6 hx)
  have HX8 := Lib.hid hx
  have HL8 := Lib.hid (show w.heap.size < w7.heap.size from (Array.getElem?_eq_some_iff.1 A7.out).1)
  clear hx
  go_wp2_with fail
  refine HK8.out.mono ?_
  rintro e w8 ⟨ua2, uc2, ua3, uc3, rfl, f, i, q⟩
  obtain ⟨W8, hW8⟩ : ∃ W, w8.alloc (.cells #[.int .i64 (uk : Nat), .string ⟨un.toArray⟩, .slice ua2 uns.length uc2, .slice ua3 ul.length uc3] 31) = W := ⟨_, rfl⟩
  have b : Below w8.heap.size w8 W8 := by rw [← hW8]; exact (Below.refl _ _).alloc (Nat.le_refl _) _
  have Y8 := Lib.hid (show Fou W8 w8.heap.size 31 (.int .i64 (uk : Nat)) (.string ⟨un.toArray⟩) (.slice ua2 uns.length uc2) (.slice ua3 ul.length uc3) by rw [← hW8]; exact heap_alloc_new w8 _)
  have Q8 := Lib.hid (q.below b)
  have fb := f.below b
  have F8 := Lib.hid (F7.out.trans fb)
  have A8 := Lib.hid (show Sev W8 w.heap.size 41 _ _ _ _ _ _ _ from fb.cells A7.out (by decide))
  have T8 := Lib.hid (show Thr W8 w6.heap.size 96 _ _ _ from fb.cells T7.out (by decide))
  have UY8 := Lib.hid (show IsCs (fun b => w.heap.size < b) W8 (encT 31 (.mk uk un uns ul)) [.int .i64 (uk : Nat), .string ⟨un.toArray⟩, .slice ua2 uns.length uc2, .slice ua3 ul.length uc3] from (i.mono (fun b _ hb => Nat.lt_of_lt_of_le HL8.out hb)).below b)
  have HW8 := Lib.hid hW8
  clear q f fb b i hW8 HK8 p0 p1 p2 p3
  go_upto_region 14 with fail
  rw [HW8.out]
  have HK9 := Lib.hid (qtake_any hM Q8.out [41])
  go_wp2_with fail
  refine HK9.out.mono ?_
  rintro e w9 ⟨rfl, q, f⟩
  have Q9 := Lib.hid q
  have F9 := Lib.hid (F8.out.trans f)
  have A9 := Lib.hid (show Sev w9 w.heap.size 41 _ _ _ _ _ _ _ from f.cells A8.out (by decide))
  have T9 := Lib.hid (show Thr w9 w6.heap.size 96 _ _ _ from f.cells T8.out (by decide))
  have Y9 := Lib.hid (show Fou w9 w8.heap.size 31 _ _ _ _ from f.cells Y8.out (by decide))
  have UY9 := Lib.hid (UY8.out.frA f)
  clear q f HK9
  obtain ⟨s7, hs7⟩ : ∃ x, x = (s6).take [41] := ⟨_, rfl⟩
  have Q9a := Lib.hid (show QS B M w9 rb all s7 by rw [hs7]; exact Q9.out)
  have Hs7 := Lib.hid hs7
  clear hs7
  have e5 := Hs5.out
  have HCC := Lib.hid (show s7.bad = true by rw [Hs7.out, show s6 = (qt s5).2 by rw [← HX8.out], e5]; exact HQB.out)
  have HOUT := Lib.hid (show out = (qE0, s7) by rw [HON.out, Hs7.out, show s6 = (qt s5).2 by rw [← HX8.out], e5]; rfl)
  clear e5
  obtain ⟨g', cap', i', vd', h7, -⟩ := Q9a.out.first
  obtain ⟨⟨p0, p1, p2, p3⟩, -⟩ := fou_of h7
  rw [HCC.out] at p3
  clear h7
  have HTH := Lib.hid (there_of A9.out rfl)
  go_wp2_with (first | (refine wpList_store_put rfl 41 (.tmp 4) (.tmp 62) rfl w.heap.size _ rfl rfl HTH.out sizeEq (all_oneCell_toArray (by simp [Value.oneCell'])) ?_; intro WF hWF))
  rw [HOUT.out]
  exact endEq rfl rfl rfl A9.out F9.out Q9a.out HRB.out (bareEq _ _ 0 0 [] 0) hWF
def FuOk (B M : Nat) (w : World) (rb : Nat) (all : List Tk) (p : PE × Q) (W : World) : Prop := ∃ u0 u1 u2 u3 u4 u5 u6, Fr B w W ∧ Sev W w.heap.size 41 u0 u1 u2 u3 u4 u5 u6 ∧ QS B M W rb all p.2 ∧ IsCs (fun b => w.heap.size < b) W (encE 31 41 p.1) [u0, u1, u2, u3, u4, u5, u6]
theorem FuOk.ret {f : Func} {a : Act} {B M rb : Nat} {all : List Tk} {w W : World} {p : PE × Q} (hf : f.results = #[.cell 4 41]) (ht : a.eval (.tmp 4) = .pointer (some ⟨w.heap.size, 0, none⟩)) (hd : a.defers = []) (h : FuOk B M w rb all p W) : bodyPost Tryz.prog f (QPE B M w rb all p) Exit.ret a W := by
  obtain ⟨u0, u1, u2, u3, u4, u5, u6, h1, h2, h3, h4⟩ := h
  exact retEq hf ht hd h2 ⟨h1, ⟨[u0, u1, u2, u3, u4, u5, u6], rfl, h4.mono (fun _ _ hk => Nat.le_of_lt hk)⟩, h3⟩
section
variable {B M : Nat} {w w3 : World} {rb : Nat} {all : List Tk} {q : Q} {a : Nat} {n : Bs} {x : PE} {t : PT} {csx cst : List Value} {v0 v1 v2 v3 v4 v5 v6 : Value}
abbrev fuV (a : Nat) (n : Bs) (gx gt : Nat) : List Value := [.int .i64 8, .int .i64 (a : Nat), .string ⟨n.toArray⟩, .int .i64 0, .slice none 0 0, .slice (some ⟨gx, 0, none⟩) 1 1, .slice (some ⟨gt, 0, none⟩) 1 1]
theorem fu_end {W : World} {gx gt : Nat} (hF : Fr B w W) (hP : QS B M W rb all q) (hb : W.heap[w.heap.size]? = some (.cells (fuV a n gx gt).toArray 41 (0, 0)))
    (hx : IsC (fun b => w.heap.size < b) W (.row 41 7 1 (encEs 31 41 [x])) (.slice (some ⟨gx, 0, none⟩) 1 1)) (ht : IsC (fun b => w.heap.size < b) W (.row 31 4 1 (encTs 31 [t])) (.slice (some ⟨gt, 0, none⟩) 1 1)) :
    FuOk B M w rb all (.mk 8 a n 0 [] [x] [t], q) W :=
  ⟨_, _, _, _, _, _, _, hF, hb, hP, IsCs.cons (IsC.num _ _ 8) (IsCs.cons (IsC.num _ _ a) (IsCs.cons (IsC.str _ _ n) (IsCs.cons (IsC.num _ _ 0) (IsCs.cons (IsC.none _ _ 1 (e := 9) (by decide)) (IsCs.cons hx (IsCs.cons ht (IsCs.nil _ _)))))))⟩
variable (hF : Fr B w w3) (hP : QS B M w3 rb all q) (hA : Sev w3 w.heap.size 41 v0 v1 v2 v3 v4 v5 v6) (hX : IsCs (fun b => w.heap.size < b) w3 (encE 31 41 x) csx) (hT : IsCs (fun b => w.heap.size < b) w3 (encT 31 t) cst) (hpb : rb < w.heap.size)
include hF hP hA hX hT hpb
theorem fu_put (vs : List Value) : Fr B w (putL w3 w.heap.size vs) ∧ QS B M (putL w3 w.heap.size vs) rb all q ∧ (putL w3 w.heap.size vs).heap.size = w3.heap.size ∧ (vs.length = 7 → (putL w3 w.heap.size vs).heap[w.heap.size]? = some (.cells vs.toArray 41 (0, 0))) ∧ IsCs (fun b => w.heap.size < b) (putL w3 w.heap.size vs) (encEs 31 41 [x]) csx ∧ IsCs (fun b => w.heap.size < b) (putL w3 w.heap.size vs) (encTs 31 [t]) cst ∧ csx.length = 1 * 7 ∧ cst.length = 1 * 4 ∧ w.heap.size < w3.heap.size := by
  refine ⟨hF.putL (Nat.le_refl _) vs, hP.putL hA (by decide) hpb vs, (putL_same w.heap.size vs 0 w3).2.2.2, fun h => putL_at hA (by simp [h]), ?_, ?_, by rw [hX.length, encE_length], by rw [hT.length, encT_length], (Array.getElem?_eq_some_iff.1 hA).1⟩
  · have := hX.putL w.heap.size (fun k hk => Nat.ne_of_gt hk) vs
    simpa [encEs] using this
  · have := hT.putL w.heap.size (fun k hk => Nat.ne_of_gt hk) vs
    simpa [encTs] using this
theorem fu_xt : FuOk B M w rb all (.mk 8 a n 0 [] [x] [t], q) (((((((((w3.setCell ⟨w.heap.size, 0, none⟩ (.int .i64 8)).setCell ⟨w.heap.size, 1, none⟩ (.int .i64 (a : Nat))).setCell ⟨w.heap.size, 2, none⟩ (.string ⟨n.toArray⟩)).setCell ⟨w.heap.size, 3, none⟩ (.int .i64 0)).setCell ⟨w.heap.size, 4, none⟩ (.slice none 0 0)).setCell ⟨w.heap.size, 5, none⟩ (.slice (some ⟨w3.heap.size, 0, none⟩) 1 1)).setCell ⟨w.heap.size, 6, none⟩ (.slice (some ⟨w3.heap.size + 1, 0, none⟩) 1 1)).alloc (.cells csx.toArray 41)).alloc (.cells cst.toArray 31)) := by
  show FuOk B M w rb all (.mk 8 a n 0 [] [x] [t], q) (((putL w3 w.heap.size (fuV a n w3.heap.size (w3.heap.size + 1))).alloc (.cells csx.toArray 41)).alloc (.cells cst.toArray 31))
  obtain ⟨f, p, s, hb, dx, dt, lx, lt, hv⟩ := fu_put hF hP hA hX hT hpb (fuV a n w3.heap.size (w3.heap.size + 1))
  have rx := row_lit (e := 41) (size := 7) (n := 1) (g := w3.heap.size) (by decide) s hv (by decide) lx dx
  have rt := row_lit (e := 31) (size := 4) (n := 1) (g := w3.heap.size + 1) (by decide) (by rw [World.size_alloc, s]) (by omega) (by decide) lt (dt.below ((Below.refl _ _).alloc (Nat.le_refl _) (.cells csx.toArray 41)))
  exact fu_end ((f.alloc _).alloc _) ((p.alloc _).alloc _) (blk_alloc (blk_alloc (hb rfl) _) _) (rx.bel ((Below.refl _ _).alloc (Nat.le_refl _) _)) rt
theorem fu_tx : FuOk B M w rb all (.mk 8 a n 0 [] [x] [t], q) (((((((((w3.setCell ⟨w.heap.size, 0, none⟩ (.int .i64 8)).setCell ⟨w.heap.size, 1, none⟩ (.int .i64 (a : Nat))).setCell ⟨w.heap.size, 2, none⟩ (.string ⟨n.toArray⟩)).setCell ⟨w.heap.size, 3, none⟩ (.int .i64 0)).setCell ⟨w.heap.size, 4, none⟩ (.slice none 0 0)).setCell ⟨w.heap.size, 5, none⟩ (.slice (some ⟨w3.heap.size + 1, 0, none⟩) 1 1)).setCell ⟨w.heap.size, 6, none⟩ (.slice (some ⟨w3.heap.size, 0, none⟩) 1 1)).alloc (.cells cst.toArray 31)).alloc (.cells csx.toArray 41)) := by
  show FuOk B M w rb all (.mk 8 a n 0 [] [x] [t], q) (((putL w3 w.heap.size (fuV a n (w3.heap.size + 1) w3.heap.size)).alloc (.cells cst.toArray 31)).alloc (.cells csx.toArray 41))
  obtain ⟨f, p, s, hb, dx, dt, lx, lt, hv⟩ := fu_put hF hP hA hX hT hpb (fuV a n (w3.heap.size + 1) w3.heap.size)
  have rt := row_lit (e := 31) (size := 4) (n := 1) (g := w3.heap.size) (by decide) s hv (by decide) lt dt
  have rx := row_lit (e := 41) (size := 7) (n := 1) (g := w3.heap.size + 1) (by decide) (by rw [World.size_alloc, s]) (by omega) (by decide) lx (dx.below ((Below.refl _ _).alloc (Nat.le_refl _) (.cells cst.toArray 31)))
  exact fu_end ((f.alloc _).alloc _) ((p.alloc _).alloc _) (blk_alloc (blk_alloc (hb rfl) _) _) rx (rt.bel ((Below.refl _ _).alloc (Nat.le_refl _) _))
theorem fu_x {gt : Nat} (hG : w3.heap[gt]? = some (.cells cst.toArray 31 (0, 0))) (hgt : w.heap.size < gt) : FuOk B M w rb all (.mk 8 a n 0 [] [x] [t], q) ((((((((w3.setCell ⟨w.heap.size, 0, none⟩ (.int .i64 8)).setCell ⟨w.heap.size, 1, none⟩ (.int .i64 (a : Nat))).setCell ⟨w.heap.size, 2, none⟩ (.string ⟨n.toArray⟩)).setCell ⟨w.heap.size, 3, none⟩ (.int .i64 0)).setCell ⟨w.heap.size, 4, none⟩ (.slice none 0 0)).setCell ⟨w.heap.size, 5, none⟩ (.slice (some ⟨w3.heap.size, 0, none⟩) 1 1)).setCell ⟨w.heap.size, 6, none⟩ (.slice (some ⟨gt, 0, none⟩) 1 1)).alloc (.cells csx.toArray 41)) := by
  show FuOk B M w rb all (.mk 8 a n 0 [] [x] [t], q) ((putL w3 w.heap.size (fuV a n w3.heap.size gt)).alloc (.cells csx.toArray 41))
  obtain ⟨f, p, s, hb, dx, dt, lx, lt, hv⟩ := fu_put hF hP hA hX hT hpb (fuV a n w3.heap.size gt)
  have rx := row_lit (e := 41) (size := 7) (n := 1) (g := w3.heap.size) (by decide) s hv (by decide) lx dx
  have hG' : (putL w3 w.heap.size (fuV a n w3.heap.size gt)).heap[gt]? = some (.cells cst.toArray 31 (0, 0)) := (putL_far w.heap.size _ _ _ _ (Nat.ne_of_gt hgt)).trans hG
  have rt : IsC (fun b => w.heap.size < b) (putL w3 w.heap.size (fuV a n w3.heap.size gt)) (.row 31 4 1 (encTs 31 [t])) (.slice (some ⟨gt, 0, none⟩) 1 1) :=
    IsC.row (base := 0) (xs := cst) (by decide) ⟨lt, .inr ⟨gt, 1, cst.toArray, rfl, Nat.zero_le _, hG', Nat.le_refl _, by decide, by simpa using lt, by rw [← lt]; simp⟩⟩ (fun b hb => by have e : gt = b := Option.some.inj hb; subst e; exact hgt) dt
  exact fu_end (f.alloc _) (p.alloc _) (blk_alloc (hb rfl) _) rx (rt.bel ((Below.refl _ _).alloc (Nat.le_refl _) _))
end
end Go.Proofs.YtijnjoonbjdafaaGreatDoor
namespace Go.Proofs.YtijnjoonbjdafaaGreatDoor
set_option maxRecDepth 20000
open Go.RowKit Go.Shelf
set_option maxHeartbeats 2400000 in
theorem qexpr_fun_c {B M rb : Nat} {all : List Tk} (d : Nat) (hd64 : d ≤ 64) (hM : M ≤ 10000000) (qt : Q → PT × Q) (HT : RdsT 45 B M rb all (d + 1) qt) (qe : Q → PE × Q) (HE : RdsE 48 B M rb all (d + 1) qe) (w : World) (s : Q) (out : PE × Q) (h : QS B M w rb all s) (hb0 : s.bad = false) (hf : s.is [102, 117, 110] = true) (hh : (funHd s).2.bad = false) (hq : ((qt (funHd s).2).2.take [41]).bad = false) (hout : out = funS (hd s.ts).a qt qe s) :
    Calls Tryz.prog 48 #[.pointer (some ⟨rb, 0, none⟩), .int .i64 (d : Nat)] w (QPE B M w rb all out) := by
  have HRB := Lib.hid h.lt
  have HIF := Lib.hid hf
  have HHB := Lib.hid hh
  have HQB := Lib.hid hq
  have HT0 := Lib.hid HT
  have HE0 := Lib.hid HE
  have HON := Lib.hid hout
  obtain ⟨W1, hW1⟩ : ∃ W1, zSev w = W1 := ⟨_, rfl⟩
  have a1 := zsev w
  rw [hW1] at a1
  have HA1 := Lib.hid a1
  have F1 := Lib.hid (show Fr B w W1 by rw [← hW1]; exact (Fr.refl B w).alloc _)
  have q1 := (show QS B M W1 rb all s by rw [← hW1]; exact h.alloc _)
  have Q1 := Lib.hid q1
  have HW1 := Lib.hid (show w.alloc (.cells #[.int .i64 0, .int .i64 0, .string ⟨#[]⟩, .int .i64 0, .slice none 0 0, .slice none 0 0, .slice none 0 0] 41) = W1 from hW1)
  obtain ⟨g, cap, i, vd, h6, hi, hb, hg, c0, c1, c2, -⟩ := q1.first
  obtain ⟨⟨p0, p1, p2, p3⟩, -⟩ := fou_of h6
  obtain ⟨⟨tk, ta, tt⟩, ht⟩ : ∃ t, t = hd s.ts := ⟨_, rfl⟩
  rw [← ht] at c0 c1 c2
  have HTA := Lib.hid (show (hd s.ts).a = ta by rw [← ht])
  simp only at c0 c1 c2
  rw [hb0] at p3
  have HBD := Lib.hid hb0
  clear h hW1 a1 q1 h6 ht hb0 hf hh hq HT HE hout
  go_enter Tryz.func48, Tryz.ntmps48
  go_upto_region 1 with fail
  rw [HW1.out]
  go_upto_region 5 with fail
  go_region
  go_upto_region 6 with fail
  obtain ⟨W2, hW2⟩ : ∃ W2, W1.drew = W2 := ⟨_, rfl⟩
  rw [hW2]
  have Q2 := Lib.hid (show QS B M W2 rb all s by rw [← hW2]; exact Q1.out.drew)
  have F2 := Lib.hid (show Fr B w W2 by rw [← hW2]; exact F1.out.drew)
  have A2 := Lib.hid (show Sev W2 w.heap.size 41 (.int .i64 0) (.int .i64 0) (.string ⟨#[]⟩) (.int .i64 0) (.slice none 0 0) (.slice none 0 0) (.slice none 0 0) by rw [← hW2]; exact HA1.out)
  clear hW2 p0 p1 p2 p3 c0 c1 c2 hi hb hg
  have HI3 := Lib.hid (qis_any Q2.out [102, 117, 110])
  rw [HIF.out] at HI3
  go_wp2_with fail
  refine HI3.out.mono ?_
  rintro e w3 ⟨rfl, b⟩
  have Q3 := Lib.hid (Q2.out.below b)
  have F3 := Lib.hid (F2.out.below b)
  have A3 := Lib.hid (show Sev w3 w.heap.size 41 _ _ _ _ _ _ _ from (b.block _ (Array.getElem?_eq_some_iff.1 A2.out).1).trans A2.out)
  clear b HI3
  have HK4 := Lib.hid (qtake_any hM Q3.out [102, 117, 110])
  go_wp2_with fail
  refine HK4.out.mono ?_
  rintro e w4 ⟨rfl, q, f⟩
  have Q4 := Lib.hid q
  have F4 := Lib.hid (F3.out.trans f)
  have A4 := Lib.hid (show Sev w4 w.heap.size 41 _ _ _ _ _ _ _ from f.cells A3.out (by decide))
  clear q f HK4
  have HK5 := Lib.hid (qtake_any hM Q4.out [40])
  go_wp2_with fail
  refine HK5.out.mono ?_
  rintro e w5 ⟨rfl, q, f⟩
  have Q5 := Lib.hid q
  have F5 := Lib.hid (F4.out.trans f)
  have A5 := Lib.hid (show Sev w5 w.heap.size 41 _ _ _ _ _ _ _ from f.cells A4.out (by decide))
  clear q f HK5
  have HK6 := Lib.hid (qname_any hM Q5.out)
  go_wp2_with fail
  refine HK6.out.mono ?_
  rintro e w6 ⟨rfl, q, f⟩
  obtain ⟨⟨nk, na, nt⟩, hn⟩ : ∃ t, t = (((s).take [102, 117, 110]).take [40]).name.1 := ⟨_, rfl⟩
  rw [← hn]
  unfold tokV
  obtain ⟨W6, hW6⟩ : ∃ W, w6.alloc (.cells #[.int .i64 (nk : Nat), .int .i64 (na : Nat), .string ⟨nt.toArray⟩] 96) = W := ⟨_, rfl⟩
  have b : Below w6.heap.size w6 W6 := by rw [← hW6]; exact (Below.refl _ _).alloc (Nat.le_refl _) _
  have T6 := Lib.hid (show Thr W6 w6.heap.size 96 (.int .i64 (nk : Nat)) (.int .i64 (na : Nat)) (.string ⟨nt.toArray⟩) by rw [← hW6]; exact thr_new w6 _ _ _ _)
  have Q6 := Lib.hid (q.below b)
  have fb := f.below b
  have F6 := Lib.hid (F5.out.trans fb)
  have A6 := Lib.hid (show Sev W6 w.heap.size 41 _ _ _ _ _ _ _ from fb.cells A5.out (by decide))
  have HN6 := Lib.hid hn
  have HW6 := Lib.hid hW6
  clear q f fb b hn hW6 HK6
  go_upto_region 10 with fail
  rw [HW6.out]
  have HK7 := Lib.hid (qtake_any hM Q6.out [58])
  go_wp2_with fail
  refine HK7.out.mono ?_
  rintro e w7 ⟨rfl, q, f⟩
  have Q7 := Lib.hid q
  have F7 := Lib.hid (F6.out.trans f)
  have A7 := Lib.hid (show Sev w7 w.heap.size 41 _ _ _ _ _ _ _ from f.cells A6.out (by decide))
  have T7 := Lib.hid (show Thr w7 w6.heap.size 96 _ _ _ from f.cells T6.out (by decide))
  clear q f HK7
  obtain ⟨s5, hs5⟩ : ∃ x, x = ((((s).take [102, 117, 110]).take [40]).name.2).take [58] := ⟨_, rfl⟩
  have Q7a := Lib.hid (show QS B M w7 rb all s5 by rw [hs5]; exact Q7.out)
  have Hs5 := Lib.hid hs5
  clear hs5
  have HBB := Lib.hid (show s5.bad = false by rw [Hs5.out]; exact HHB.out)
  obtain ⟨g', cap', i', vd', h7, -⟩ := Q7a.out.first
  obtain ⟨⟨p0, p1, p2, p3⟩, -⟩ := fou_of h7
  rw [HBB.out] at p3
  clear h7
  obtain ⟨⟨x, s6⟩, hx⟩ : ∃ p, p = qt s5 := ⟨_, rfl⟩
  obtain ⟨uk, un, uns, ul⟩ := x
  have HK8 := Lib.hid (rdsT_flat HT0.out w7 s5 Q7a.out uk un uns ul s6 hx)
  have HX8 := Lib.hid hx
  have HL8 := Lib.hid (show w.heap.size < w7.heap.size from (Array.getElem?_eq_some_iff.1 A7.out).1)
  clear hx
  go_wp2_with fail
  refine HK8.out.mono ?_
  rintro e w8 ⟨ua2, uc2, ua3, uc3, rfl, f, i, q⟩
  obtain ⟨W8, hW8⟩ : ∃ W, w8.alloc (.cells #[.int .i64 (uk : Nat), .string ⟨un.toArray⟩, .slice ua2 uns.length uc2, .slice ua3 ul.length uc3] 31) = W := ⟨_, rfl⟩
  have b : Below w8.heap.size w8 W8 := by rw [← hW8]; exact (Below.refl _ _).alloc (Nat.le_refl _) _
  have Y8 := Lib.hid (show Fou W8 w8.heap.size 31 (.int .i64 (uk : Nat)) (.string ⟨un.toArray⟩) (.slice ua2 uns.length uc2) (.slice ua3 ul.length uc3) by rw [← hW8]; exact heap_alloc_new w8 _)
  have Q8 := Lib.hid (q.below b)
  have fb := f.below b
  have F8 := Lib.hid (F7.out.trans fb)
  have A8 := Lib.hid (show Sev W8 w.heap.size 41 _ _ _ _ _ _ _ from fb.cells A7.out (by decide))
  have T8 := Lib.hid (show Thr W8 w6.heap.size 96 _ _ _ from fb.cells T7.out (by decide))
  have UY8 := Lib.hid (show IsCs (fun b => w.heap.size < b) W8 (encT 31 (.mk uk un uns ul)) [.int .i64 (uk : Nat), .string ⟨un.toArray⟩, .slice ua2 uns.length uc2, .slice ua3 ul.length uc3] from (i.mono (fun b _ hb => Nat.lt_of_lt_of_le HL8.out hb)).below b)
  have HW8 := Lib.hid hW8
  clear q f fb b i hW8 HK8 p0 p1 p2 p3
  go_upto_region 14 with fail
  rw [HW8.out]
  have HK9 := Lib.hid (qtake_any hM Q8.out [41])
  go_wp2_with fail
  refine HK9.out.mono ?_
  rintro e w9 ⟨rfl, q, f⟩
  have Q9 := Lib.hid q
  have F9 := Lib.hid (F8.out.trans f)
  have A9 := Lib.hid (show Sev w9 w.heap.size 41 _ _ _ _ _ _ _ from f.cells A8.out (by decide))
  have T9 := Lib.hid (show Thr w9 w6.heap.size 96 _ _ _ from f.cells T8.out (by decide))
  have Y9 := Lib.hid (show Fou w9 w8.heap.size 31 _ _ _ _ from f.cells Y8.out (by decide))
  have UY9 := Lib.hid (UY8.out.frA f)
  clear q f HK9
  obtain ⟨s7, hs7⟩ : ∃ x, x = (s6).take [41] := ⟨_, rfl⟩
  have Q9a := Lib.hid (show QS B M w9 rb all s7 by rw [hs7]; exact Q9.out)
  have Hs7 := Lib.hid hs7
  clear hs7
  have e5 := Hs5.out
  have e6 := (show s6 = (qt s5).2 by rw [← HX8.out])
  have HCC := Lib.hid (show s7.bad = false by rw [Hs7.out, e6, e5]; exact HQB.out)
  obtain ⟨⟨y, s8⟩, hy⟩ : ∃ p, p = qe s7 := ⟨_, rfl⟩
  obtain ⟨yk, ya, yn, ym, yns, yl, yts⟩ := y
  have HOUT := Lib.hid (show out = (.mk 8 ta nt 0 [] [.mk yk ya yn ym yns yl yts] [.mk uk un uns ul], s8) by
    have g1 : (funHd s).2 = s5 := e5.symm
    have g2 : (funHd s).1.t = nt := by show (((s.take [102, 117, 110]).take [40]).name.1).t = nt; rw [← HN6.out]
    have g3 : (qt s5).2.take [41] = s7 := by rw [Hs7.out, e6]
    have g4 : (qt s5).1 = .mk uk un uns ul := by rw [← HX8.out]
    rw [HON.out, HTA.out]
    unfold funS
    rw [g1, if_neg (by rw [HBB.out]; decide), g3, if_neg (by rw [HCC.out]; decide), g2, g4, ← hy])
  clear e5 e6
  obtain ⟨g', cap', i', vd', h7, -⟩ := Q9a.out.first
  obtain ⟨⟨p0, p1, p2, p3⟩, -⟩ := fou_of h7
  rw [HCC.out] at p3
  clear h7
  have HD1 := Lib.hid (show IntKind.i64.wrap ((d : Int) + 1) = ((d + 1 : Nat) : Int) by rw [IntKind.wrap_i64]; omega)
  have HC : Hid (∀ W, Below w9.heap.size w9 W → Calls Tryz.prog 48 #[.pointer (some ⟨rb, 0, none⟩), .int .i64 (IntKind.i64.wrap ((d : Int) + 1))] W fun e w' => (∃ yb4 ye4 yb5 ye5 yb6 ye6, e = .returned (.agg #[.int .i64 (yk : Nat), .int .i64 (ya : Nat), .string ⟨yn.toArray⟩, .int .i64 (ym : Nat), .slice yb4 yns.length ye4, .slice yb5 yl.length ye5, .slice yb6 yts.length ye6]) ∧ Fr B W w' ∧ IsCs (fun b => W.heap.size ≤ b) w' (encE 31 41 (.mk yk ya yn ym yns yl yts)) [.int .i64 (yk : Nat), .int .i64 (ya : Nat), .string ⟨yn.toArray⟩, .int .i64 (ym : Nat), .slice yb4 yns.length ye4, .slice yb5 yl.length ye5, .slice yb6 yts.length ye6] ∧ QS B M w' rb all s8) ∧ Below w9.heap.size w9 W) := by
    intro W' hW
    rw [HD1.out]
    refine (rdsE_flat HE0.out W' s7 (Q9a.out.below hW) yk ya yn ym yns yl yts s8 hy).mono ?_
    rintro e w' h
    exact ⟨h, hW⟩
  have HTW := Lib.hid (show ∀ W w', Below w9.heap.size w9 W → Fr B W w' → Thr w' w6.heap.size 96 (.int .i64 (nk : Nat)) (.int .i64 (na : Nat)) (.string ⟨nt.toArray⟩) from fun W w' hW hf => hf.cells ((hW.block _ (Array.getElem?_eq_some_iff.1 T9.out).1).trans T9.out) (by decide))
  have HYW := Lib.hid (show ∀ W w', Below w9.heap.size w9 W → Fr B W w' → Fou w' w8.heap.size 31 (.int .i64 (uk : Nat)) (.string ⟨un.toArray⟩) (.slice ua2 uns.length uc2) (.slice ua3 ul.length uc3) from fun W w' hW hf => hf.cells ((hW.block _ (Array.getElem?_eq_some_iff.1 Y9.out).1).trans Y9.out) (by decide))
  have HAW := Lib.hid (show ∀ W w', Below w9.heap.size w9 W → Fr B W w' → Sev w' w.heap.size 41 (.int .i64 0) (.int .i64 0) (.string ⟨#[]⟩) (.int .i64 0) (.slice none 0 0) (.slice none 0 0) (.slice none 0 0) from fun W w' hW hf => hf.cells ((hW.block _ (Array.getElem?_eq_some_iff.1 A9.out).1).trans A9.out) (by decide))
  have HLT := Lib.hid (show w6.heap.size < w9.heap.size from (Array.getElem?_eq_some_iff.1 T9.out).1)
  have HLY := Lib.hid (show w8.heap.size < w9.heap.size from (Array.getElem?_eq_some_iff.1 Y9.out).1)
  have HLA := Lib.hid (show w.heap.size < w9.heap.size from (Array.getElem?_eq_some_iff.1 A9.out).1)
  have hnt : ¬ w6.heap.size = w9.heap.size := Nat.ne_of_lt HLT.out
  have hny : ¬ w8.heap.size = w9.heap.size := Nat.ne_of_lt HLY.out
  have hna : ¬ w.heap.size = w9.heap.size := Nat.ne_of_lt HLA.out
  have hlt : w6.heap.size < w9.heap.size := HLT.out
  have hly : w8.heap.size < w9.heap.size := HLY.out
  have hla : w.heap.size < w9.heap.size := HLA.out
  obtain ⟨⟨m0, m1, m2⟩, -⟩ := thr_of T9.out
  obtain ⟨⟨y0, y1, y2, y3⟩, -⟩ := fou_of Y9.out
  have hta : ¬ w6.heap.size = w.heap.size := by
    intro e
    have h1 : w9.heap[w6.heap.size]? = some _ := T9.out
    have h2 : w9.heap[w.heap.size]? = some _ := A9.out
    rw [e, h2] at h1
    simp at h1
  have hya : ¬ w8.heap.size = w.heap.size := by
    intro e
    have h1 : w9.heap[w8.heap.size]? = some _ := Y9.out
    have h2 : w9.heap[w.heap.size]? = some _ := A9.out
    rw [e, h2] at h1
    simp at h1
  have hta' : ¬ w.heap.size = w6.heap.size := fun e => hta e.symm
  have hya' : ¬ w.heap.size = w8.heap.size := fun e => hya e.symm
  clear hy
  go_upto_region 17 with fail
  go_region_held3 (fun w' => w'.cell? ⟨w6.heap.size, 2, none⟩ = some (.string ⟨nt.toArray⟩) ∧ w'.cell? ⟨w8.heap.size, 0, none⟩ = some (.int .i64 (uk : Nat)) ∧ w'.cell? ⟨w8.heap.size, 1, none⟩ = some (.string ⟨un.toArray⟩) ∧ w'.cell? ⟨w8.heap.size, 2, none⟩ = some (.slice ua2 uns.length uc2) ∧ w'.cell? ⟨w8.heap.size, 3, none⟩ = some (.slice ua3 ul.length uc3)) (simp [*, World.cell?_alloc_lt, World.cell?_setCell_far]) (first | (go_at_call 48; refine (HC.out _ ?_).mono ?_; (first | exact (Below.refl _ w9).drew | exact ((Below.refl _ w9).drew).alloc (Nat.le_refl _) _ | exact ((Below.refl _ w9).alloc (Nat.le_refl _) _).drew); rintro e w3 ⟨⟨yb4, ye4, yb5, ye5, yb6, ye6, rfl, f3, i3, q3⟩, hW⟩; obtain ⟨⟨k0, k1, k2⟩, -⟩ := thr_of (HTW.out _ _ hW f3); obtain ⟨⟨j0, j1, j2, j3⟩, -⟩ := fou_of (HYW.out _ _ hW f3); obtain ⟨⟨o0, o1, o2, o3, o4, o5, o6⟩, v0, v1, v2, v3, v4, v5, v6⟩ := sev_of (t := 41) (HAW.out _ _ hW f3); (have F3 := Lib.hid f3); (have Q3 := Lib.hid q3); (have I3 := Lib.hid i3); (have HWB := Lib.hid hW); (have hz3 : w9.heap.size ≤ w3.heap.size := by have := hW.size; have := f3.size; omega); (have hn1 : ¬ w6.heap.size = w3.heap.size := Nat.ne_of_lt (Nat.lt_of_lt_of_le HLT.out hz3)); (have hn2 : ¬ w8.heap.size = w3.heap.size := Nat.ne_of_lt (Nat.lt_of_lt_of_le HLY.out hz3)); (have hn3 : ¬ w.heap.size = w3.heap.size := Nat.ne_of_lt (Nat.lt_of_lt_of_le HLA.out hz3)); (have hl1 : w6.heap.size < w3.heap.size := Nat.lt_of_lt_of_le HLT.out hz3); (have hl2 : w8.heap.size < w3.heap.size := Nat.lt_of_lt_of_le HLY.out hz3); (have hl3 : w.heap.size < w3.heap.size := Nat.lt_of_lt_of_le HLA.out hz3); (have hl4 : w6.heap.size < w3.heap.size + 1 := Nat.lt_succ_of_lt hl1); (have hl5 : w8.heap.size < w3.heap.size + 1 := Nat.lt_succ_of_lt hl2); clear f3 q3 i3 hW hz3))
  all_goals
    rename_i hKK hS
    clear hS
    refine hKK _ _ (wp_ret ?_)
    change bodyPost Tryz.prog _ (QPE B M w rb all out) Exit.ret _ _
    have f := (Fr.of_below (n₀ := B) HWB.out).trans F3.out
    have hF := F9.out.trans f
    have hA := HAW.out _ _ HWB.out F3.out
    have hX := I3.out.mono (A' := fun b => w.heap.size < b) (fun b _ hb => Nat.lt_of_lt_of_le (Nat.lt_of_lt_of_le HLA.out HWB.out.size) hb)
    have hT := UY9.out.frA f
    rw [HOUT.out]
    refine FuOk.ret rfl rfl rfl ?_
    first
      | with_reducible exact fu_xt hF Q3.out hA hX hT HRB.out
      | with_reducible exact fu_tx hF Q3.out hA hX hT HRB.out
      | exact fu_x hF Q3.out hA hX hT HRB.out (F3.out.cells (heap_alloc_new w9 _) (by decide)) HLA.out
end Go.Proofs.YtijnjoonbjdafaaGreatDoor
namespace Go.Proofs.YtijnjoonbjdafaaGreatDoor
set_option maxRecDepth 20000
open Go.RowKit Go.Shelf
theorem take_lt {m : Bs} {s : Q} (h : s.is m = true) (hl : 0 < s.ts.length) : (s.take m).ts.length + 1 ≤ s.ts.length := by
  unfold Q.take
  rw [if_pos h]
  show s.ts.tail.length + 1 ≤ _
  rw [List.length_tail]; omega
theorem name_le (s : Q) : s.name.2.ts.length ≤ s.ts.length := by
  unfold Q.name
  split
  · exact Nat.le_refl _
  · split
    · show s.ts.tail.length ≤ _
      rw [List.length_tail]; omega
    · rw [give_ts]; exact Nat.le_refl _
theorem call_par {qe : Q → PE × Q} {n : Nat} {x : PE} {s : Q} (h : s.is [40] = true) : callS qe (n + 1) x s = callS qe n (.mk 7 (hd s.ts).a [] 0 [] [x, (qe (s.take [40])).1] []) ((qe (s.take [40])).2.take [41]) := by
  rw [callS, if_pos h]
theorem call_dot {qe : Q → PE × Q} {n : Nat} {x : PE} {s : Q} (h : s.is [40] = false) (h2 : s.is [46] = true) : callS qe (n + 1) x s = callS qe n (.mk 6 (s.take [46]).name.1.a (s.take [46]).name.1.t 0 [] [x] []) (s.take [46]).name.2 := by
  rw [callS, if_neg (by rw [h]; decide), if_pos h2]
theorem call_end {qe : Q → PE × Q} {n : Nat} {x : PE} {s : Q} (h : s.is [40] = false) (h2 : s.is [46] = false) : callS qe n x s = (x, s) := by
  cases n with
  | zero => rfl
  | succ n => rw [callS, if_neg (by rw [h]; decide), if_neg (by rw [h2]; decide)]
structure CxQ (qe : Q → PE × Q) (B M rb : Nat) (all : List Tk) (w wr : World) (hx : Nat) (out : PE × Q) (sk : Q) (n : Nat) (x : PE) (xc : List Value) : Prop where
  un : callS qe n x sk = out
  fuel : sk.ts.length ≤ n
  qs : QS B M wr rb all sk
  fr : Fr B w wr
  res : Sev wr w.heap.size 41 (.int .i64 0) (.int .i64 0) (.string ⟨#[]⟩) (.int .i64 0) (.slice none 0 0) (.slice none 0 0) (.slice none 0 0)
  own : wr.heap[hx]? = some (.cells xc.toArray 41 (0, 0))
  cx : IsCs (fun b => w.heap.size < b ∧ b ≠ hx) wr (encE 31 41 x) xc
  rbw : rb < w.heap.size
  hxw : w.heap.size < hx
theorem CxQ.put {qe : Q → PE × Q} {B M rb : Nat} {all : List Tk} {w WL W' : World} {hx : Nat} {out : PE × Q} {s8 : Q} {n : Nat} {X : PE} {u0 u1 u2 u3 u4 u5 u6 v0 v1 v2 v3 v4 v5 v6 : Value} (h3 : Hid (W' = putL WL hx [u0, u1, u2, u3, u4, u5, u6])) (hown : Sev WL hx 41 v0 v1 v2 v3 v4 v5 v6) (hun : callS qe n X s8 = out) (hf : s8.ts.length ≤ n) (hq : QS B M WL rb all s8) (hF : Fr B w WL) (hres : Sev WL w.heap.size 41 (.int .i64 0) (.int .i64 0) (.string ⟨#[]⟩) (.int .i64 0) (.slice none 0 0) (.slice none 0 0) (.slice none 0 0)) (hc : IsCs (fun b => w.heap.size < b ∧ b ≠ hx) WL (encE 31 41 X) [u0, u1, u2, u3, u4, u5, u6]) (hrb : rb < w.heap.size) (hxw : w.heap.size < hx) :
    CxQ qe B M rb all w W' hx out s8 n X [u0, u1, u2, u3, u4, u5, u6] := by
  rw [h3.out]
  exact ⟨hun, hf, hq.putL hown (by decide) (Nat.lt_trans hrb hxw) _, hF.putL (Nat.le_of_lt hxw) _, (putL_far hx _ 0 _ w.heap.size (Nat.ne_of_lt hxw)).trans hres, sev_put hown u0 u1 u2 u3 u4 u5 u6, hc.putL hx (fun k hk => hk.2) _, hrb, hxw⟩
set_option maxHeartbeats 40000000 in
theorem qexpr_chain {B M rb : Nat} {all : List Tk} (d : Nat) (hd64 : d ≤ 64) (hM : M ≤ 10000000) (qe qb : Q → PE × Q) (hqe : ∀ s, (qe s).2.ts.length ≤ s.ts.length) (HE : RdsE 48 B M rb all (d + 1) qe) (HB : RdsE 94 B M rb all d qb) (w : World) (s : Q) (out : PE × Q) (h : QS B M w rb all s) (hb0 : s.bad = false) (hf : s.is [102, 117, 110] = false) (hl : s.is [108, 101, 116] = false) (hif : s.is [105, 102] = false) (hout : out = callS qe (qb s).2.ts.length (qb s).1 (qb s).2) :
    Calls Tryz.prog 48 #[.pointer (some ⟨rb, 0, none⟩), .int .i64 (d : Nat)] w (QPE B M w rb all out) := by
  have HRB := Lib.hid h.lt
  have HIF := Lib.hid hf
  have HIL := Lib.hid hl
  have HII := Lib.hid hif
  have HE0 := Lib.hid HE
  have HB0 := Lib.hid HB
  have HQE := Lib.hid hqe
  have HON := Lib.hid hout
  obtain ⟨W1, hW1⟩ : ∃ W1, zSev w = W1 := ⟨_, rfl⟩
  have a1 := zsev w
  rw [hW1] at a1
  have HA1 := Lib.hid a1
  have F1 := Lib.hid (show Fr B w W1 by rw [← hW1]; exact (Fr.refl B w).alloc _)
  have q1 := (show QS B M W1 rb all s by rw [← hW1]; exact h.alloc _)
  have Q1 := Lib.hid q1
  have HW1 := Lib.hid (show w.alloc (.cells #[.int .i64 0, .int .i64 0, .string ⟨#[]⟩, .int .i64 0, .slice none 0 0, .slice none 0 0, .slice none 0 0] 41) = W1 from hW1)
  obtain ⟨g, cap, i, vd, h6, hi, hb, hg, c0, c1, c2, -⟩ := q1.first
  obtain ⟨⟨p0, p1, p2, p3⟩, -⟩ := fou_of h6
  obtain ⟨⟨tk, ta, tt⟩, ht⟩ : ∃ t, t = hd s.ts := ⟨_, rfl⟩
  rw [← ht] at c0 c1 c2
  have HTA := Lib.hid (show (hd s.ts).a = ta by rw [← ht])
  simp only at c0 c1 c2
  rw [hb0] at p3
  have HBD := Lib.hid hb0
  clear h hW1 a1 q1 h6 ht hb0 hf hl hif HE HB hqe hout
  go_enter Tryz.func48, Tryz.ntmps48
  go_upto_region 1 with fail
  rw [HW1.out]
  go_upto_region 5 with fail
  go_region
  go_upto_region 6 with fail
  obtain ⟨W2, hW2⟩ : ∃ W2, W1.drew = W2 := ⟨_, rfl⟩
  rw [hW2]
  have Q2 := Lib.hid (show QS B M W2 rb all s by rw [← hW2]; exact Q1.out.drew)
  have F2 := Lib.hid (show Fr B w W2 by rw [← hW2]; exact F1.out.drew)
  have A2 := Lib.hid (show Sev W2 w.heap.size 41 (.int .i64 0) (.int .i64 0) (.string ⟨#[]⟩) (.int .i64 0) (.slice none 0 0) (.slice none 0 0) (.slice none 0 0) by rw [← hW2]; exact HA1.out)
  clear hW2 p0 p1 p2 p3 c0 c1 c2 hi hb hg
  have HI3 := Lib.hid (qis_any Q2.out [102, 117, 110])
  rw [HIF.out] at HI3
  go_wp2_with fail
  refine HI3.out.mono ?_
  rintro e w3 ⟨rfl, b⟩
  have Q3 := Lib.hid (Q2.out.below b)
  have F3 := Lib.hid (F2.out.below b)
  have A3 := Lib.hid (show Sev w3 w.heap.size 41 _ _ _ _ _ _ _ from (b.block _ (Array.getElem?_eq_some_iff.1 A2.out).1).trans A2.out)
  clear b HI3
  have HI4 := Lib.hid (qis_any Q3.out [108, 101, 116])
  rw [HIL.out] at HI4
  go_wp2_with fail
  refine HI4.out.mono ?_
  rintro e w4 ⟨rfl, b⟩
  have Q4 := Lib.hid (Q3.out.below b)
  have F4 := Lib.hid (F3.out.below b)
  have A4 := Lib.hid (show Sev w4 w.heap.size 41 _ _ _ _ _ _ _ from (b.block _ (Array.getElem?_eq_some_iff.1 A3.out).1).trans A3.out)
  clear b HI4
  have HI5 := Lib.hid (qis_any Q4.out [105, 102])
  rw [HII.out] at HI5
  go_wp2_with fail
  refine HI5.out.mono ?_
  rintro e w5 ⟨rfl, b⟩
  have Q5 := Lib.hid (Q4.out.below b)
  have F5 := Lib.hid (F4.out.below b)
  have A5 := Lib.hid (show Sev w5 w.heap.size 41 _ _ _ _ _ _ _ from (b.block _ (Array.getElem?_eq_some_iff.1 A4.out).1).trans A4.out)
  clear b HI5
  obtain ⟨⟨x, s5⟩, hq⟩ : ∃ p, p = qb s := ⟨_, rfl⟩
  obtain ⟨xk, xa, xn, xm, xns, xl, xts⟩ := x
  have HK := Lib.hid (rdsE_flat HB0.out w5 s Q5.out xk xa xn xm xns xl xts s5 hq)
  have HREC := Lib.hid (show callS qe s5.ts.length (.mk xk xa xn xm xns xl xts) s5 = out by rw [HON.out, ← hq])
  have HL := Lib.hid (show w.heap.size < w5.heap.size from (Array.getElem?_eq_some_iff.1 A5.out).1)
  clear hq
  go_wp2_with fail
  refine HK.out.mono ?_
  rintro e w6 ⟨xb4, xe4, xb5, xe5, xb6, xe6, rfl, f, i, q⟩
  obtain ⟨hx, hhx⟩ : ∃ hx, hx = w6.heap.size := ⟨_, rfl⟩
  obtain ⟨W6, hW⟩ : ∃ W, w6.alloc (.cells #[.int .i64 (xk : Nat), .int .i64 (xa : Nat), .string ⟨xn.toArray⟩, .int .i64 (xm : Nat), .slice xb4 xns.length xe4, .slice xb5 xl.length xe5, .slice xb6 xts.length xe6] 41) = W := ⟨_, rfl⟩
  have b : Below w6.heap.size w6 W6 := by rw [← hW]; exact (Below.refl _ _).alloc (Nat.le_refl _) _
  have X0 := Lib.hid (show Sev W6 hx 41 (.int .i64 (xk : Nat)) (.int .i64 (xa : Nat)) (.string ⟨xn.toArray⟩) (.int .i64 (xm : Nat)) (.slice xb4 xns.length xe4) (.slice xb5 xl.length xe5) (.slice xb6 xts.length xe6) by rw [← hW, hhx]; exact heap_alloc_new w6 _)
  have Q6 := Lib.hid (q.below b)
  have fb := f.below b
  have F6 := Lib.hid (F5.out.trans fb)
  have HXW := Lib.hid (show w.heap.size < hx by have := HL.out; have := f.size; omega)
  have A6 := Lib.hid (show Sev W6 w.heap.size 41 _ _ _ _ _ _ _ from fb.cells A5.out (by decide))
  have UX0 := Lib.hid (show IsCs (fun b => w.heap.size < b ∧ b ≠ hx) W6 (encE 31 41 (.mk xk xa xn xm xns xl xts)) [.int .i64 (xk : Nat), .int .i64 (xa : Nat), .string ⟨xn.toArray⟩, .int .i64 (xm : Nat), .slice xb4 xns.length xe4, .slice xb5 xl.length xe5, .slice xb6 xts.length xe6] from (i.mono (fun b hb hb' => ⟨Nat.lt_of_lt_of_le HL.out hb', by omega⟩)).below b)
  have HW := Lib.hid hW
  have HSTART : Hid (CxQ qe B M rb all w W6 hx out s5 s5.ts.length (.mk xk xa xn xm xns xl xts) [.int .i64 (xk : Nat), .int .i64 (xa : Nat), .string ⟨xn.toArray⟩, .int .i64 (xm : Nat), .slice xb4 xns.length xe4, .slice xb5 xl.length xe5, .slice xb6 xts.length xe6]) := Lib.hid ⟨HREC.out, Nat.le_refl _, Q6.out, F6.out, A6.out, X0.out, UX0.out, HRB.out, HXW.out⟩
  have HHX := Lib.hid hhx
  clear q f fb b i hW HK hhx
  go_wp2_with fail
  rw [HW.out, ← HHX.out]
  clear HHX HW
  go_loopw [] (fun wr => ∃ (x : PE) (sk : Q) (n : Nat) (xc : List Value), Hid (CxQ qe B M rb all w wr hx out sk n x xc)) (fun wr => left rb all wr)
  case atStart => exact ⟨_, s5, s5.ts.length, _, HSTART⟩
  case round =>
    clear HSTART HREC X0 UX0 Q6 F6 A6 HL
    obtain ⟨⟨xk, xa, xn, xm, xns, xl, xts⟩, sk, n', xc, HR⟩ := hrel
    obtain ⟨xb4, xe4, xb5, xe5, xb6, xe6, hxc, -, -, -⟩ := cells_EEq HR.out.cx
    subst hxc
    have Q0 := Lib.hid HR.out.qs
    have F0 := Lib.hid HR.out.fr
    have A0 := Lib.hid HR.out.res
    have X0 := Lib.hid (show Sev wr hx 41 (.int .i64 (xk : Nat)) (.int .i64 (xa : Nat)) (.string ⟨xn.toArray⟩) (.int .i64 (xm : Nat)) (.slice xb4 xns.length xe4) (.slice xb5 xl.length xe5) (.slice xb6 xts.length xe6) from HR.out.own)
    have UX0 := Lib.hid HR.out.cx
    have HLF := Lib.hid HR.out.qs.left
    obtain ⟨n'', hn''⟩ : ∃ n'', n' = n'' + 1 := ⟨n' - 1, by have := HR.out.fuel; have := HR.out.qs.len.2; omega⟩
    have HNN := Lib.hid hn''
    have HPOS := Lib.hid HR.out.qs.len.2
    clear hn''
    cases h1 : sk.is [40] with
    | true =>
      have H1 := Lib.hid h1
      clear h1
      have HI101 := Lib.hid (qis_any Q0.out [40])
      rw [H1.out] at HI101
      go_wp2_with fail
      refine HI101.out.mono ?_
      rintro e w101 ⟨rfl, b⟩
      have Q101 := Lib.hid (Q0.out.below b)
      have F101 := Lib.hid (F0.out.below b)
      have A101 := Lib.hid (show Sev w101 w.heap.size 41 _ _ _ _ _ _ _ from (b.block _ (Array.getElem?_eq_some_iff.1 A0.out).1).trans A0.out)
      have X101 := Lib.hid (show Sev w101 hx 41 _ _ _ _ _ _ _ from (b.block _ (Array.getElem?_eq_some_iff.1 X0.out).1).trans X0.out)
      have UX101 := Lib.hid (UX0.out.below b)
      clear b HI101
      obtain ⟨g', cap', i', vd', h7, hi', hb', hg', c0, c1, c2, -⟩ := Q101.out.first
      obtain ⟨⟨p0, p1, p2, p3⟩, -⟩ := fou_of h7
      obtain ⟨⟨tk, ta, tt⟩, ht⟩ : ∃ t, t = hd sk.ts := ⟨_, rfl⟩
      rw [← ht] at c0 c1 c2
      have HTA102 := Lib.hid (show (hd sk.ts).a = ta by rw [← ht])
      simp only at c0 c1 c2
      clear h7 ht
      go_upto_region 36 with fail
      go_region
      go_upto_region 37 with fail
      obtain ⟨W102, hW102⟩ : ∃ W2, w101.drew = W2 := ⟨_, rfl⟩
      rw [hW102]
      have b : Below w101.heap.size w101 W102 := by rw [← hW102]; exact (Below.refl _ _).drew
      have Q102 := Lib.hid (Q101.out.below b)
      have F102 := Lib.hid (F101.out.below b)
      have A102 := Lib.hid (show Sev W102 w.heap.size 41 _ _ _ _ _ _ _ from (b.block _ (Array.getElem?_eq_some_iff.1 A101.out).1).trans A101.out)
      have X102 := Lib.hid (show Sev W102 hx 41 _ _ _ _ _ _ _ from (b.block _ (Array.getElem?_eq_some_iff.1 X101.out).1).trans X101.out)
      have UX102 := Lib.hid (UX101.out.below b)
      clear b hW102 p0 p1 p2 p3 c0 c1 c2 hi' hb' hg'
      have HI103 := Lib.hid (qis_any Q102.out [40])
      rw [H1.out] at HI103
      go_wp2_with fail
      refine HI103.out.mono ?_
      rintro e w103 ⟨rfl, b⟩
      have Q103 := Lib.hid (Q102.out.below b)
      have F103 := Lib.hid (F102.out.below b)
      have A103 := Lib.hid (show Sev w103 w.heap.size 41 _ _ _ _ _ _ _ from (b.block _ (Array.getElem?_eq_some_iff.1 A102.out).1).trans A102.out)
      have X103 := Lib.hid (show Sev w103 hx 41 _ _ _ _ _ _ _ from (b.block _ (Array.getElem?_eq_some_iff.1 X102.out).1).trans X102.out)
      have UX103 := Lib.hid (UX102.out.below b)
      clear b HI103
      have HK104 := Lib.hid (qtake_any hM Q103.out [40])
      go_wp2_with fail
      refine HK104.out.mono ?_
      rintro e w104 ⟨rfl, q, f⟩
      have Q104 := Lib.hid q
      have F104 := Lib.hid (F103.out.trans f)
      have A104 := Lib.hid (show Sev w104 w.heap.size 41 _ _ _ _ _ _ _ from f.cells A103.out (by decide))
      have X104 := Lib.hid (show Sev w104 hx 41 _ _ _ _ _ _ _ from f.cells X103.out (by decide))
      have UX104 := Lib.hid (UX103.out.frA f)
      clear q f HK104
      obtain ⟨s6, hs6⟩ : ∃ x, x = (sk).take [40] := ⟨_, rfl⟩
      have Q104a := Lib.hid (show QS B M w104 rb all s6 by rw [hs6]; exact Q104.out)
      have Hs6 := Lib.hid hs6
      clear hs6
      obtain ⟨⟨x, s7⟩, hx'⟩ : ∃ p, p = qe s6 := ⟨_, rfl⟩
      obtain ⟨yk, ya, yn, ym, yns, yl, yts⟩ := x
      have HK105 := Lib.hid (rdsE_flat HE0.out w104 s6 Q104a.out yk ya yn ym yns yl yts s7 hx')
      have HX105 := Lib.hid hx'
      have HL105 := Lib.hid (show hx < w104.heap.size from (Array.getElem?_eq_some_iff.1 X104.out).1)
      clear hx'
      go_wp2_with fail
      refine HK105.out.mono ?_
      rintro e w105 ⟨yb4, ye4, yb5, ye5, yb6, ye6, rfl, f, i, q⟩
      obtain ⟨W105, hW105⟩ : ∃ W, w105.alloc (.cells #[.int .i64 (yk : Nat), .int .i64 (ya : Nat), .string ⟨yn.toArray⟩, .int .i64 (ym : Nat), .slice yb4 yns.length ye4, .slice yb5 yl.length ye5, .slice yb6 yts.length ye6] 41) = W := ⟨_, rfl⟩
      have b : Below w105.heap.size w105 W105 := by rw [← hW105]; exact (Below.refl _ _).alloc (Nat.le_refl _) _
      have Y105 := Lib.hid (show Sev W105 w105.heap.size 41 (.int .i64 (yk : Nat)) (.int .i64 (ya : Nat)) (.string ⟨yn.toArray⟩) (.int .i64 (ym : Nat)) (.slice yb4 yns.length ye4) (.slice yb5 yl.length ye5) (.slice yb6 yts.length ye6) by rw [← hW105]; exact heap_alloc_new w105 _)
      have Q105 := Lib.hid (q.below b)
      have fb := f.below b
      have F105 := Lib.hid (F104.out.trans fb)
      have A105 := Lib.hid (show Sev W105 w.heap.size 41 _ _ _ _ _ _ _ from fb.cells A104.out (by decide))
      have X105 := Lib.hid (show Sev W105 hx 41 _ _ _ _ _ _ _ from fb.cells X104.out (by decide))
      have UX105 := Lib.hid (UX104.out.frA fb)
      have UY105 := Lib.hid (show IsCs (fun b => w.heap.size < b ∧ b ≠ hx) W105 (encE 31 41 (.mk yk ya yn ym yns yl yts)) [.int .i64 (yk : Nat), .int .i64 (ya : Nat), .string ⟨yn.toArray⟩, .int .i64 (ym : Nat), .slice yb4 yns.length ye4, .slice yb5 yl.length ye5, .slice yb6 yts.length ye6] from (i.mono (fun b _ hb => ⟨Nat.lt_of_lt_of_le (Nat.lt_trans HXW.out HL105.out) hb, Nat.ne_of_gt (Nat.lt_of_lt_of_le HL105.out hb)⟩)).below b)
      have HW105 := Lib.hid hW105
      clear q f fb b i hW105 HK105
      go_upto_region 40 with fail
      rw [HW105.out]
      have HK106 := Lib.hid (qtake_any hM Q105.out [41])
      go_wp2_with fail
      refine HK106.out.mono ?_
      rintro e w106 ⟨rfl, q, f⟩
      have Q106 := Lib.hid q
      have F106 := Lib.hid (F105.out.trans f)
      have A106 := Lib.hid (show Sev w106 w.heap.size 41 _ _ _ _ _ _ _ from f.cells A105.out (by decide))
      have X106 := Lib.hid (show Sev w106 hx 41 _ _ _ _ _ _ _ from f.cells X105.out (by decide))
      have UX106 := Lib.hid (UX105.out.frA f)
      have Y106 := Lib.hid (show Sev w106 w105.heap.size 41 _ _ _ _ _ _ _ from f.cells Y105.out (by decide))
      have UY106 := Lib.hid (UY105.out.frA f)
      clear q f HK106
      obtain ⟨s8, hs8⟩ : ∃ x, x = (s7).take [41] := ⟨_, rfl⟩
      have Q106a := Lib.hid (show QS B M w106 rb all s8 by rw [hs8]; exact Q106.out)
      have Hs8 := Lib.hid hs8
      clear hs8
      obtain ⟨⟨Xx0, Xx1, Xx2, Xx3, Xx4, Xx5, Xx6⟩, -⟩ := sev_of (t := 41) X106.out
      obtain ⟨⟨Yx0, Yx1, Yx2, Yx3, Yx4, Yx5, Yx6⟩, -⟩ := sev_of (t := 41) Y106.out
      have hlx := (Array.getElem?_eq_some_iff.1 X106.out).1
      obtain ⟨WL, hWL⟩ : ∃ WL, w106.alloc (.cells #[.int .i64 (xk : Nat), .int .i64 (xa : Nat), .string ⟨xn.toArray⟩, .int .i64 (xm : Nat), .slice xb4 xns.length xe4, .slice xb5 xl.length xe5, .slice xb6 xts.length xe6, .int .i64 (yk : Nat), .int .i64 (ya : Nat), .string ⟨yn.toArray⟩, .int .i64 (ym : Nat), .slice yb4 yns.length ye4, .slice yb5 yl.length ye5, .slice yb6 yts.length ye6] 41) = WL := ⟨_, rfl⟩
      have bL : Below w106.heap.size w106 WL := by rw [← hWL]; exact (Below.refl _ _).alloc (Nat.le_refl _) _
      have rx := row_lit (e := 41) (size := 7) (n := 2) (g := w106.heap.size) (A := (fun b => w.heap.size < b ∧ b ≠ hx)) (l := encEs 31 41 [.mk xk xa xn xm xns xl xts, .mk yk ya yn ym yns yl yts]) (cs := [.int .i64 (xk : Nat), .int .i64 (xa : Nat), .string ⟨xn.toArray⟩, .int .i64 (xm : Nat), .slice xb4 xns.length xe4, .slice xb5 xl.length xe5, .slice xb6 xts.length xe6, .int .i64 (yk : Nat), .int .i64 (ya : Nat), .string ⟨yn.toArray⟩, .int .i64 (ym : Nat), .slice yb4 yns.length ye4, .slice yb5 yl.length ye5, .slice yb6 yts.length ye6]) (by decide) rfl ⟨Nat.lt_trans HXW.out hlx, Nat.ne_of_gt hlx⟩ (by decide) (by rfl) (by rw [encEs, encEs, encEs, List.append_nil]; exact (UX106.out.append _ _ _ _ UY106.out))
      have RX := Lib.hid (show IsC (fun b => w.heap.size < b ∧ b ≠ hx) WL _ _ by rw [← hWL]; exact rx)
      have QL := Lib.hid (Q106a.out.below bL)
      have FL := Lib.hid (F106.out.below bL)
      have AL := Lib.hid (show Sev WL w.heap.size 41 _ _ _ _ _ _ _ from (bL.block _ (Array.getElem?_eq_some_iff.1 A106.out).1).trans A106.out)
      have XL := Lib.hid (show Sev WL hx 41 _ _ _ _ _ _ _ from (bL.block _ hlx).trans X106.out)
      have HTH := Lib.hid (there_of XL.out rfl)
      have HUN := Lib.hid (show callS qe n'' (.mk 7 ta [] 0 [] [.mk xk xa xn xm xns xl xts, .mk yk ya yn ym yns yl yts] []) s8 = out by
        rw [← HR.out.un, HNN.out, call_par H1.out, HTA102.out, ← Hs6.out, ← HX105.out, ← Hs8.out])
      have HT1 := take_lt H1.out HPOS.out
      have HT2 := HQE.out s6
      have HT3 := take_le [41] s7
      rw [← Hs6.out] at HT1
      rw [← HX105.out] at HT2
      rw [← Hs8.out] at HT3
      have HT2 : s7.ts.length ≤ s6.ts.length := HT2
      have HDEC := Lib.hid (show s8.ts.length < sk.ts.length by omega)
      have HFU := Lib.hid (show s8.ts.length ≤ n'' by have := HR.out.fuel; have := HNN.out; omega)
      clear HT1 HT2 HT3
      subst hWL
      clear rx bL hlx
      go_wp2_with (first | (refine wpList_store_put rfl 41 (.tmp 14) (.tmp 159) rfl hx _ rfl rfl HTH.out sizeEq (all_oneCell_toArray (by simp [Value.oneCell'])) ?_; intro WF hWF))
      have HN := CxQ.put hWF XL.out HUN.out HFU.out QL.out FL.out AL.out (IsCs.cons (IsC.num _ _ 7) (IsCs.cons (IsC.num _ _ ta) (IsCs.cons (IsC.str _ _ []) (IsCs.cons (IsC.num _ _ 0) (IsCs.cons (IsC.none _ _ 1 (e := 9) (by decide)) (IsCs.cons RX.out (IsCs.cons (IsC.none _ _ 4 (by decide)) (IsCs.nil _ _)))))))) HRB.out HXW.out
      refine ⟨⟨_, _, _, _, Lib.hid HN⟩, ?_⟩
      rw [HN.qs.left, HLF.out]
      exact HDEC.out
    | false =>
      have H1 := Lib.hid h1
      clear h1
      cases h2 : sk.is [46] with
      | true =>
        have H2 := Lib.hid h2
        clear h2
        have HI101 := Lib.hid (qis_any Q0.out [40])
        rw [H1.out] at HI101
        go_wp2_with fail
        refine HI101.out.mono ?_
        rintro e w101 ⟨rfl, b⟩
        have Q101 := Lib.hid (Q0.out.below b)
        have F101 := Lib.hid (F0.out.below b)
        have A101 := Lib.hid (show Sev w101 w.heap.size 41 _ _ _ _ _ _ _ from (b.block _ (Array.getElem?_eq_some_iff.1 A0.out).1).trans A0.out)
        have X101 := Lib.hid (show Sev w101 hx 41 _ _ _ _ _ _ _ from (b.block _ (Array.getElem?_eq_some_iff.1 X0.out).1).trans X0.out)
        have UX101 := Lib.hid (UX0.out.below b)
        clear b HI101
        have HI102 := Lib.hid (qis_any Q101.out [46])
        rw [H2.out] at HI102
        go_wp2_with fail
        refine HI102.out.mono ?_
        rintro e w102 ⟨rfl, b⟩
        have Q102 := Lib.hid (Q101.out.below b)
        have F102 := Lib.hid (F101.out.below b)
        have A102 := Lib.hid (show Sev w102 w.heap.size 41 _ _ _ _ _ _ _ from (b.block _ (Array.getElem?_eq_some_iff.1 A101.out).1).trans A101.out)
        have X102 := Lib.hid (show Sev w102 hx 41 _ _ _ _ _ _ _ from (b.block _ (Array.getElem?_eq_some_iff.1 X101.out).1).trans X101.out)
        have UX102 := Lib.hid (UX101.out.below b)
        clear b HI102
        obtain ⟨g', cap', i', vd', h7, hi', hb', hg', c0, c1, c2, -⟩ := Q102.out.first
        obtain ⟨⟨p0, p1, p2, p3⟩, -⟩ := fou_of h7
        obtain ⟨⟨tk, ta, tt⟩, ht⟩ : ∃ t, t = hd sk.ts := ⟨_, rfl⟩
        rw [← ht] at c0 c1 c2
        have HTA103 := Lib.hid (show (hd sk.ts).a = ta by rw [← ht])
        simp only at c0 c1 c2
        clear h7 ht
        go_upto_region 36 with fail
        go_region
        go_upto_region 37 with fail
        obtain ⟨W103, hW103⟩ : ∃ W2, w102.drew = W2 := ⟨_, rfl⟩
        rw [hW103]
        have b : Below w102.heap.size w102 W103 := by rw [← hW103]; exact (Below.refl _ _).drew
        have Q103 := Lib.hid (Q102.out.below b)
        have F103 := Lib.hid (F102.out.below b)
        have A103 := Lib.hid (show Sev W103 w.heap.size 41 _ _ _ _ _ _ _ from (b.block _ (Array.getElem?_eq_some_iff.1 A102.out).1).trans A102.out)
        have X103 := Lib.hid (show Sev W103 hx 41 _ _ _ _ _ _ _ from (b.block _ (Array.getElem?_eq_some_iff.1 X102.out).1).trans X102.out)
        have UX103 := Lib.hid (UX102.out.below b)
        clear b hW103 p0 p1 p2 p3 c0 c1 c2 hi' hb' hg'
        have HI104 := Lib.hid (qis_any Q103.out [40])
        rw [H1.out] at HI104
        go_wp2_with fail
        refine HI104.out.mono ?_
        rintro e w104 ⟨rfl, b⟩
        have Q104 := Lib.hid (Q103.out.below b)
        have F104 := Lib.hid (F103.out.below b)
        have A104 := Lib.hid (show Sev w104 w.heap.size 41 _ _ _ _ _ _ _ from (b.block _ (Array.getElem?_eq_some_iff.1 A103.out).1).trans A103.out)
        have X104 := Lib.hid (show Sev w104 hx 41 _ _ _ _ _ _ _ from (b.block _ (Array.getElem?_eq_some_iff.1 X103.out).1).trans X103.out)
        have UX104 := Lib.hid (UX103.out.below b)
        clear b HI104
        have HK105 := Lib.hid (qtake_any hM Q104.out [46])
        go_wp2_with fail
        refine HK105.out.mono ?_
        rintro e w105 ⟨rfl, q, f⟩
        have Q105 := Lib.hid q
        have F105 := Lib.hid (F104.out.trans f)
        have A105 := Lib.hid (show Sev w105 w.heap.size 41 _ _ _ _ _ _ _ from f.cells A104.out (by decide))
        have X105 := Lib.hid (show Sev w105 hx 41 _ _ _ _ _ _ _ from f.cells X104.out (by decide))
        have UX105 := Lib.hid (UX104.out.frA f)
        clear q f HK105
        obtain ⟨s6, hs6⟩ : ∃ x, x = (sk).take [46] := ⟨_, rfl⟩
        have Q105a := Lib.hid (show QS B M w105 rb all s6 by rw [hs6]; exact Q105.out)
        have Hs6 := Lib.hid hs6
        clear hs6
        have HK106 := Lib.hid (qname_any hM Q105a.out)
        go_wp2_with fail
        refine HK106.out.mono ?_
        rintro e w106 ⟨rfl, q, f⟩
        obtain ⟨⟨nk, na, nt⟩, hn⟩ : ∃ t, t = (s6).name.1 := ⟨_, rfl⟩
        rw [← hn]
        unfold tokV
        obtain ⟨W106, hW106⟩ : ∃ W, w106.alloc (.cells #[.int .i64 (nk : Nat), .int .i64 (na : Nat), .string ⟨nt.toArray⟩] 96) = W := ⟨_, rfl⟩
        have b : Below w106.heap.size w106 W106 := by rw [← hW106]; exact (Below.refl _ _).alloc (Nat.le_refl _) _
        have T106 := Lib.hid (show Thr W106 w106.heap.size 96 (.int .i64 (nk : Nat)) (.int .i64 (na : Nat)) (.string ⟨nt.toArray⟩) by rw [← hW106]; exact thr_new w106 _ _ _ _)
        have Q106 := Lib.hid (q.below b)
        have fb := f.below b
        have F106 := Lib.hid (F105.out.trans fb)
        have A106 := Lib.hid (show Sev W106 w.heap.size 41 _ _ _ _ _ _ _ from fb.cells A105.out (by decide))
        have X106 := Lib.hid (show Sev W106 hx 41 _ _ _ _ _ _ _ from fb.cells X105.out (by decide))
        have UX106 := Lib.hid (UX105.out.frA fb)
        have HN106 := Lib.hid hn
        have HW106 := Lib.hid hW106
        clear q f fb b hn hW106 HK106
        go_upto_region 44 with fail
        rw [HW106.out]
        obtain ⟨s8, hs8⟩ : ∃ x, x = (s6).name.2 := ⟨_, rfl⟩
        have Q106a := Lib.hid (show QS B M W106 rb all s8 by rw [hs8]; exact Q106.out)
        have Hs8 := Lib.hid hs8
        clear hs8
        obtain ⟨⟨t0, t1, t2⟩, -⟩ := thr_of T106.out
        obtain ⟨⟨Xx0, Xx1, Xx2, Xx3, Xx4, Xx5, Xx6⟩, -⟩ := sev_of (t := 41) X106.out
        have hlx := (Array.getElem?_eq_some_iff.1 X106.out).1
        obtain ⟨WL, hWL⟩ : ∃ WL, W106.alloc (.cells #[.int .i64 (xk : Nat), .int .i64 (xa : Nat), .string ⟨xn.toArray⟩, .int .i64 (xm : Nat), .slice xb4 xns.length xe4, .slice xb5 xl.length xe5, .slice xb6 xts.length xe6] 41) = WL := ⟨_, rfl⟩
        have bL : Below W106.heap.size W106 WL := by rw [← hWL]; exact (Below.refl _ _).alloc (Nat.le_refl _) _
        have rx := row_lit (e := 41) (size := 7) (n := 1) (g := W106.heap.size) (A := (fun b => w.heap.size < b ∧ b ≠ hx)) (l := encEs 31 41 [.mk xk xa xn xm xns xl xts]) (cs := [.int .i64 (xk : Nat), .int .i64 (xa : Nat), .string ⟨xn.toArray⟩, .int .i64 (xm : Nat), .slice xb4 xns.length xe4, .slice xb5 xl.length xe5, .slice xb6 xts.length xe6]) (by decide) rfl ⟨Nat.lt_trans HXW.out hlx, Nat.ne_of_gt hlx⟩ (by decide) (by rfl) (by rw [encEs, encEs, List.append_nil]; exact UX106.out)
        have RX := Lib.hid (show IsC (fun b => w.heap.size < b ∧ b ≠ hx) WL _ _ by rw [← hWL]; exact rx)
        have QL := Lib.hid (Q106a.out.below bL)
        have FL := Lib.hid (F106.out.below bL)
        have AL := Lib.hid (show Sev WL w.heap.size 41 _ _ _ _ _ _ _ from (bL.block _ (Array.getElem?_eq_some_iff.1 A106.out).1).trans A106.out)
        have XL := Lib.hid (show Sev WL hx 41 _ _ _ _ _ _ _ from (bL.block _ hlx).trans X106.out)
        have HTH := Lib.hid (there_of XL.out rfl)
        have HUN := Lib.hid (show callS qe n'' (.mk 6 na nt 0 [] [.mk xk xa xn xm xns xl xts] []) s8 = out by
          rw [← HR.out.un, HNN.out, call_dot H1.out H2.out, ← Hs6.out, ← HN106.out, ← Hs8.out])
        have HT1 := take_lt H2.out HPOS.out
        have HT2 := name_le s6
        rw [← Hs6.out] at HT1
        rw [← Hs8.out] at HT2
        have HDEC := Lib.hid (show s8.ts.length < sk.ts.length by omega)
        have HFU := Lib.hid (show s8.ts.length ≤ n'' by have := HR.out.fuel; have := HNN.out; omega)
        clear HT1 HT2
        subst hWL
        clear rx bL hlx
        go_wp2_with (first | (refine wpList_store_put rfl 41 (.tmp 14) (.tmp 170) rfl hx _ rfl rfl HTH.out sizeEq (all_oneCell_toArray (by simp [Value.oneCell'])) ?_; intro WF hWF))
        have HN := CxQ.put hWF XL.out HUN.out HFU.out QL.out FL.out AL.out (IsCs.cons (IsC.num _ _ 6) (IsCs.cons (IsC.num _ _ na) (IsCs.cons (IsC.str _ _ nt) (IsCs.cons (IsC.num _ _ 0) (IsCs.cons (IsC.none _ _ 1 (e := 9) (by decide)) (IsCs.cons RX.out (IsCs.cons (IsC.none _ _ 4 (by decide)) (IsCs.nil _ _)))))))) HRB.out HXW.out
        refine ⟨⟨_, _, _, _, Lib.hid HN⟩, ?_⟩
        rw [HN.qs.left, HLF.out]
        exact HDEC.out
      | false =>
        have H2 := Lib.hid h2
        clear h2
        have HI101 := Lib.hid (qis_any Q0.out [40])
        rw [H1.out] at HI101
        go_wp2_with fail
        refine HI101.out.mono ?_
        rintro e w101 ⟨rfl, b⟩
        have Q101 := Lib.hid (Q0.out.below b)
        have F101 := Lib.hid (F0.out.below b)
        have A101 := Lib.hid (show Sev w101 w.heap.size 41 _ _ _ _ _ _ _ from (b.block _ (Array.getElem?_eq_some_iff.1 A0.out).1).trans A0.out)
        have X101 := Lib.hid (show Sev w101 hx 41 _ _ _ _ _ _ _ from (b.block _ (Array.getElem?_eq_some_iff.1 X0.out).1).trans X0.out)
        have UX101 := Lib.hid (UX0.out.below b)
        clear b HI101
        have HI102 := Lib.hid (qis_any Q101.out [46])
        rw [H2.out] at HI102
        go_wp2_with fail
        refine HI102.out.mono ?_
        rintro e w102 ⟨rfl, b⟩
        have Q102 := Lib.hid (Q101.out.below b)
        have F102 := Lib.hid (F101.out.below b)
        have A102 := Lib.hid (show Sev w102 w.heap.size 41 _ _ _ _ _ _ _ from (b.block _ (Array.getElem?_eq_some_iff.1 A101.out).1).trans A101.out)
        have X102 := Lib.hid (show Sev w102 hx 41 _ _ _ _ _ _ _ from (b.block _ (Array.getElem?_eq_some_iff.1 X101.out).1).trans X101.out)
        have UX102 := Lib.hid (UX101.out.below b)
        clear b HI102
        obtain ⟨⟨x0, x1, x2, x3, x4, x5, x6⟩, -⟩ := sev_of (t := 41) X102.out
        have HTH := Lib.hid (there_of A102.out rfl)
        have HOUT := Lib.hid (show out = (.mk xk xa xn xm xns xl xts, sk) by rw [← HR.out.un, call_end H1.out H2.out])
        have UZ := Lib.hid (UX102.out.mono (A' := fun b => w.heap.size < b) (fun b _ hb => hb.1))
        go_wp2_with (first | (refine wpList_store_put rfl 41 (.tmp 4) (.tmp 171) rfl w.heap.size _ rfl rfl HTH.out sizeEq (all_oneCell_toArray (by simp [Value.oneCell'])) ?_; intro WF hWF))
        rw [HOUT.out]
        exact endEq rfl rfl rfl A102.out F102.out Q102.out HRB.out UZ.out hWF
end Go.Proofs.YtijnjoonbjdafaaGreatDoor

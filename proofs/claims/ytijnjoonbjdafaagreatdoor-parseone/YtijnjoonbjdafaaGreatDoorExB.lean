/-
  The contracts of the readers of lets, ifs and functions.
-/
import Derived.Test.YtijnjoonbjdafaaGreatDoorSplitE
namespace Go.Proofs.YtijnjoonbjdafaaGreatDoor
set_option maxRecDepth 20000
open Go.RowKit Go.Shelf
set_option maxHeartbeats 1000000 in
theorem let_any {B M : Nat} {pb : Nat} {all : List Tk} (k d : Nat) (hd64 : d ≤ 64)
    (HE : ∀ w ts told, PS B M w pb all ts told → Calls Tryz.prog 47 #[.pointer (some ⟨pb, 0, none⟩), .int .i64 ((d + 1 : Nat) : Int)] w (Post B M w pb all told (vE w.heap.size) (exp k ts)))
    (at_ : Nat)
    (w : World) (ts : List Tk) (told : List Dn) (h : PS B M w pb all ts told) :
    Calls Tryz.prog 90 #[.pointer (some ⟨pb, 0, none⟩), .int .i64 (at_ : Nat), .int .i64 (d : Nat)] w (Post B M w pb all told (vE w.heap.size) (letP (exp k) at_ ts)) := by
  have HE := Lib.hid HE
  have HPB := Lib.hid h.lt
  have P0 := Lib.hid (h.alloc zE).nil
  have A0 := Lib.hid (show (w.alloc zE).heap[w.heap.size]? = some zE from heap_alloc_new w zE)
  have F0 := Lib.hid ((Fr.refl B w).alloc zE)
  have Z0 := Lib.hid (show w.heap.size < (w.alloc zE).heap.size by simp)
  clear h
  obtain ⟨res, hres⟩ : ∃ res, res = letP (exp k) at_ ts := ⟨_, rfl⟩
  rw [← hres]
  have HQ0 := Lib.hid (tellq (hres.trans (by rw [letP])))
  clear hres
  have HD := Lib.hid (show ((d : Int) + 1) = ((d + 1 : Nat) : Int) by omega)
  go_enter Tryz.func90, Tryz.ntmps90
  go_wp2_with fail
  refine (wantName_any P0.out).mono ?_
  rintro e w1 ⟨f1, h1⟩
  cases hr1 : wantName ts with
  | bad y r d =>
    rw [hr1] at h1
    obtain ⟨rfl, p1⟩ := h1
    go_wp2_with fail
    exact panics rfl (.bad (HQ0.out.trans (by rw [hr1, R.bind_bad, R.tell_bad])) (F0.out.trans f1) p1.assoc)
  | ok nm r1 d1 =>
  rw [hr1] at h1
  obtain ⟨h1, p1⟩ := h1
  cases h1
  unfold tokV
  have HQ1 := Lib.hid (HQ0.out.trans (by rw [hr1, R.bind_ok, R.tell_tell]))
  have P1 := Lib.hid (p1.assoc.alloc (.cells #[.int .i64 (nm.k : Nat), .int .i64 (nm.a : Nat), .string ⟨nm.t.toArray⟩] 105))
  have F1 := Lib.hid ((F0.out.trans f1).alloc (.cells #[.int .i64 (nm.k : Nat), .int .i64 (nm.a : Nat), .string ⟨nm.t.toArray⟩] 105))
  have A1 := Lib.hid (blk_alloc (f1.cells A0.out (by decide)) (.cells #[.int .i64 (nm.k : Nat), .int .i64 (nm.a : Nat), .string ⟨nm.t.toArray⟩] 105))
  have hz1 := Nat.lt_of_lt_of_le Z0.out f1.size
  have Z1 := Lib.hid (show w.heap.size < (w1.alloc (.cells #[.int .i64 (nm.k : Nat), .int .i64 (nm.a : Nat), .string ⟨nm.t.toArray⟩] 105)).heap.size by simp; omega)
  have Ln1 := Lib.hid (Lv.newTok hz1 nm)
  clear hr1 p1 f1 HQ0 P0 F0 A0 Z0
  clear hz1 
  go_wp2_with fail
  refine (want_any P1.out [61]).mono ?_
  rintro e w2 ⟨f2, h2⟩
  cases hr2 : want [61] r1 with
  | bad y r d =>
    rw [hr2] at h2
    obtain ⟨rfl, p2⟩ := h2
    go_wp2_with fail
    exact panics rfl (.bad (HQ1.out.trans (by rw [hr2, R.bind_bad, R.tell_bad])) (F1.out.trans f2) p2.assoc)
  | ok x2 r2 d2 =>
  rw [hr2] at h2
  obtain ⟨h2, p2⟩ := h2
  cases h2
  have HQ2 := Lib.hid (HQ1.out.trans (by rw [hr2, R.bind_ok, R.tell_tell]))
  have P2 := Lib.hid p2.assoc
  have F2 := Lib.hid (F1.out.trans f2)
  have A2 := Lib.hid (f2.cells A1.out (by decide))
  have Z2 := Lib.hid (Nat.lt_of_lt_of_le Z1.out f2.size)
  have Ln2 := Lib.hid (Ln1.out.fr f2)
  clear hr2 p2 f2 HQ1 P1 F1 A1 Z1 Ln1
  go_wp2_with fail
  rw [HD.out]
  refine (HE.out _ _ _ P2.out).mono ?_
  rintro e w3 ⟨f3, h3⟩
  cases hr3 : exp k r2 with
  | bad y r d =>
    rw [hr3] at h3
    obtain ⟨rfl, p3⟩ := h3
    go_wp2_with fail
    exact panics rfl (.bad (HQ2.out.trans (by rw [hr3, R.bind_bad, R.tell_bad])) (F2.out.trans f3) p3.assoc)
  | ok x r3 d3 =>
  rw [hr3] at h3
  obtain ⟨⟨cs3, rfl, hcs3⟩, p3⟩ := h3
  obtain ⟨kLx, aLx, nLx, mLx, p4Lx, n4Lx, c4Lx, p5Lx, n5Lx, c5Lx, p6Lx, n6Lx, c6Lx, rfl⟩ := cells_E hcs3
  have HQ3 := Lib.hid (HQ2.out.trans (by rw [hr3, R.bind_ok, R.tell_tell]))
  have P3 := Lib.hid (p3.assoc.alloc (.cells #[.int .i64 kLx, .int .i64 aLx, .string nLx, .int .i64 mLx, .slice p4Lx n4Lx c4Lx, .slice p5Lx n5Lx c5Lx, .slice p6Lx n6Lx c6Lx] 36))
  have F3 := Lib.hid ((F2.out.trans f3).alloc (.cells #[.int .i64 kLx, .int .i64 aLx, .string nLx, .int .i64 mLx, .slice p4Lx n4Lx c4Lx, .slice p5Lx n5Lx c5Lx, .slice p6Lx n6Lx c6Lx] 36))
  have A3 := Lib.hid (blk_alloc (f3.cells A2.out (by decide)) (.cells #[.int .i64 kLx, .int .i64 aLx, .string nLx, .int .i64 mLx, .slice p4Lx n4Lx c4Lx, .slice p5Lx n5Lx c5Lx, .slice p6Lx n6Lx c6Lx] 36))
  have hz3 := Nat.lt_of_lt_of_le Z2.out f3.size
  have Z3 := Lib.hid (show w.heap.size < (w3.alloc (.cells #[.int .i64 kLx, .int .i64 aLx, .string nLx, .int .i64 mLx, .slice p4Lx n4Lx c4Lx, .slice p5Lx n5Lx c5Lx, .slice p6Lx n6Lx c6Lx] 36)).heap.size by simp; omega)
  have Lx3 := Lib.hid (Lv.new (t := 36) (by decide) hz3 Z2.out hcs3)
  have Ln3 := Lib.hid ((Ln2.out.fr f3).alloc (.cells #[.int .i64 kLx, .int .i64 aLx, .string nLx, .int .i64 mLx, .slice p4Lx n4Lx c4Lx, .slice p5Lx n5Lx c5Lx, .slice p6Lx n6Lx c6Lx] 36))
  clear hr3 p3 f3 HQ2 P2 F2 A2 Z2 Ln2
  clear hz3 hcs3
  go_wp2_with fail
  refine (want_any P3.out [105, 110]).mono ?_
  rintro e w4 ⟨f4, h4⟩
  cases hr4 : want [105, 110] r3 with
  | bad y r d =>
    rw [hr4] at h4
    obtain ⟨rfl, p4⟩ := h4
    go_wp2_with fail
    exact panics rfl (.bad (HQ3.out.trans (by rw [hr4, R.bind_bad, R.tell_bad])) (F3.out.trans f4) p4.assoc)
  | ok x4 r4 d4 =>
  rw [hr4] at h4
  obtain ⟨h4, p4⟩ := h4
  cases h4
  have HQ4 := Lib.hid (HQ3.out.trans (by rw [hr4, R.bind_ok, R.tell_tell]))
  have P4 := Lib.hid p4.assoc
  have F4 := Lib.hid (F3.out.trans f4)
  have A4 := Lib.hid (f4.cells A3.out (by decide))
  have Z4 := Lib.hid (Nat.lt_of_lt_of_le Z3.out f4.size)
  have Ln4 := Lib.hid (Ln3.out.fr f4)
  have Lx4 := Lib.hid (Lx3.out.fr f4)
  clear hr4 p4 f4 HQ3 P3 F3 A3 Z3 Ln3 Lx3
  go_wp2_with fail
  rw [HD.out]
  refine (HE.out _ _ _ P4.out).mono ?_
  rintro e w5 ⟨f5, h5⟩
  cases hr5 : exp k r4 with
  | bad y r d =>
    rw [hr5] at h5
    obtain ⟨rfl, p5⟩ := h5
    go_wp2_with fail
    exact panics rfl (.bad (HQ4.out.trans (by rw [hr5, R.bind_bad, R.tell_bad])) (F4.out.trans f5) p5.assoc)
  | ok y r5 d5 =>
  rw [hr5] at h5
  obtain ⟨⟨cs5, rfl, hcs5⟩, p5⟩ := h5
  obtain ⟨kLy, aLy, nLy, mLy, p4Ly, n4Ly, c4Ly, p5Ly, n5Ly, c5Ly, p6Ly, n6Ly, c6Ly, rfl⟩ := cells_E hcs5
  have HQ5 := Lib.hid (HQ4.out.trans (by rw [hr5, R.bind_ok, R.tell_tell]))
  have P5 := Lib.hid (p5.assoc.alloc (.cells #[.int .i64 kLy, .int .i64 aLy, .string nLy, .int .i64 mLy, .slice p4Ly n4Ly c4Ly, .slice p5Ly n5Ly c5Ly, .slice p6Ly n6Ly c6Ly] 36))
  have F5 := Lib.hid ((F4.out.trans f5).alloc (.cells #[.int .i64 kLy, .int .i64 aLy, .string nLy, .int .i64 mLy, .slice p4Ly n4Ly c4Ly, .slice p5Ly n5Ly c5Ly, .slice p6Ly n6Ly c6Ly] 36))
  have A5 := Lib.hid (blk_alloc (f5.cells A4.out (by decide)) (.cells #[.int .i64 kLy, .int .i64 aLy, .string nLy, .int .i64 mLy, .slice p4Ly n4Ly c4Ly, .slice p5Ly n5Ly c5Ly, .slice p6Ly n6Ly c6Ly] 36))
  have hz5 := Nat.lt_of_lt_of_le Z4.out f5.size
  have Z5 := Lib.hid (show w.heap.size < (w5.alloc (.cells #[.int .i64 kLy, .int .i64 aLy, .string nLy, .int .i64 mLy, .slice p4Ly n4Ly c4Ly, .slice p5Ly n5Ly c5Ly, .slice p6Ly n6Ly c6Ly] 36)).heap.size by simp; omega)
  have Ly5 := Lib.hid (Lv.new (t := 36) (by decide) hz5 Z4.out hcs5)
  have Ln5 := Lib.hid ((Ln4.out.fr f5).alloc (.cells #[.int .i64 kLy, .int .i64 aLy, .string nLy, .int .i64 mLy, .slice p4Ly n4Ly c4Ly, .slice p5Ly n5Ly c5Ly, .slice p6Ly n6Ly c6Ly] 36))
  have Lx5 := Lib.hid ((Lx4.out.fr f5).alloc (.cells #[.int .i64 kLy, .int .i64 aLy, .string nLy, .int .i64 mLy, .slice p4Ly n4Ly c4Ly, .slice p5Ly n5Ly c5Ly, .slice p6Ly n6Ly c6Ly] 36))
  clear hr5 p5 f5 HQ4 P4 F4 A4 Z4 Ln4 Lx4
  clear hz5 hcs5
  go_upto_region 6 with fail
  obtain ⟨W, hW⟩ : ∃ W, w5.alloc (.cells #[.int .i64 kLy, .int .i64 aLy, .string nLy, .int .i64 mLy, .slice p4Ly n4Ly c4Ly, .slice p5Ly n5Ly c5Ly, .slice p6Ly n6Ly c6Ly] 36) = W := ⟨_, rfl⟩
  rw [hW] at P5 F5 A5 Z5 Ln5 Lx5 Ly5
  rw [hW]
  clear hW
  obtain ⟨⟨ga0, ga1, ga2⟩, -⟩ := thr_of (show Thr W _ 105 (.int .i64 (nm.k : Nat)) (.int .i64 (nm.a : Nat)) (.string ⟨nm.t.toArray⟩) from Ln5.out.blk)
  obtain ⟨⟨gb0, gb1, gb2, gb3, gb4, gb5, gb6⟩, -⟩ := sev_of (show Sev W _ 36 (.int .i64 kLx) (.int .i64 aLx) (.string nLx) (.int .i64 mLx) (.slice p4Lx n4Lx c4Lx) (.slice p5Lx n5Lx c5Lx) (.slice p6Lx n6Lx c6Lx) from Lx5.out.blk)
  obtain ⟨⟨gc0, gc1, gc2, gc3, gc4, gc5, gc6⟩, -⟩ := sev_of (show Sev W _ 36 (.int .i64 kLy) (.int .i64 aLy) (.string nLy) (.int .i64 mLy) (.slice p4Ly n4Ly c4Ly) (.slice p5Ly n5Ly c5Ly) (.slice p6Ly n6Ly c6Ly) from Ly5.out.blk)
  have hla : w1.heap.size < W.heap.size := (Array.getElem?_eq_some_iff.1 Ln5.out.blk).1
  have hna : ¬ w1.heap.size = W.heap.size := Nat.ne_of_lt hla
  have hlb : w3.heap.size < W.heap.size := (Array.getElem?_eq_some_iff.1 Lx5.out.blk).1
  have hnb : ¬ w3.heap.size = W.heap.size := Nat.ne_of_lt hlb
  have hlc : w5.heap.size < W.heap.size := (Array.getElem?_eq_some_iff.1 Ly5.out.blk).1
  have hnc : ¬ w5.heap.size = W.heap.size := Nat.ne_of_lt hlc
  have HA' := Lib.hid (show (W.alloc (.cells #[.int .i64 kLx, .int .i64 aLx, .string nLx, .int .i64 mLx, .slice p4Lx n4Lx c4Lx, .slice p5Lx n5Lx c5Lx, .slice p6Lx n6Lx c6Lx, .int .i64 kLy, .int .i64 aLy, .string nLy, .int .i64 mLy, .slice p4Ly n4Ly c4Ly, .slice p5Ly n5Ly c5Ly, .slice p6Ly n6Ly c6Ly] 36)).heap[w.heap.size]? = some zE from (blk_alloc A5.out (.cells #[.int .i64 kLx, .int .i64 aLx, .string nLx, .int .i64 mLx, .slice p4Lx n4Lx c4Lx, .slice p5Lx n5Lx c5Lx, .slice p6Lx n6Lx c6Lx, .int .i64 kLy, .int .i64 aLy, .string nLy, .int .i64 mLy, .slice p4Ly n4Ly c4Ly, .slice p5Ly n5Ly c5Ly, .slice p6Ly n6Ly c6Ly] 36)))
  have HTH := Lib.hid (there_of HA'.out rfl)
  have hz0 : w.heap.size < W.heap.size := Z5.out
  go_wp2_with (first | (refine wpList_store_put rfl 36 (.tmp 6) (.tmp 30) rfl w.heap.size _ rfl rfl HTH.out size49 (all_oneCell_toArray (by simp [Value.oneCell'])) ?_; intro W9 hW9))
  have CC : IsCs (fun b => w.heap.size < b) W (encEs 26 36 [x, y]) [.int .i64 kLx, .int .i64 aLx, .string nLx, .int .i64 mLx, .slice p4Lx n4Lx c4Lx, .slice p5Lx n5Lx c5Lx, .slice p6Lx n6Lx c6Lx, .int .i64 kLy, .int .i64 aLy, .string nLy, .int .i64 mLy, .slice p4Ly n4Ly c4Ly, .slice p5Ly n5Ly c5Ly, .slice p6Ly n6Ly c6Ly] := by
    have := (Lx5.out.data.append _ _ _ _ Ly5.out.data)
    simpa [encEs] using this
  have C2 := row_lit (e := 36) (size := 7) (n := 2) (g := W.heap.size) (by decide) rfl hz0 (by decide) rfl CC
  have C3 := IsCs.cons (IsC.num _ _ 9) (IsCs.cons (IsC.num _ _ at_) (IsCs.cons (IsC.str _ _ nm.t) (IsCs.cons (IsC.num _ _ 0) (IsCs.cons (IsC.none _ _ 1 (e := 9) (by decide)) (IsCs.cons C2 (IsCs.cons (IsC.none _ _ 4 (e := 26) (by decide)) (IsCs.nil _ _)))))))
  have C4 : IsCs (fun b => w.heap.size ≤ b) (putL (W.alloc (.cells #[.int .i64 kLx, .int .i64 aLx, .string nLx, .int .i64 mLx, .slice p4Lx n4Lx c4Lx, .slice p5Lx n5Lx c5Lx, .slice p6Lx n6Lx c6Lx, .int .i64 kLy, .int .i64 aLy, .string nLy, .int .i64 mLy, .slice p4Ly n4Ly c4Ly, .slice p5Ly n5Ly c5Ly, .slice p6Ly n6Ly c6Ly] 36)) w.heap.size [.int .i64 9, .int .i64 at_, .string ⟨nm.t.toArray⟩, .int .i64 0, .slice none 0 0, .slice (some ⟨W.heap.size, 0, none⟩) 2 2, .slice none 0 0]) (encE 26 36 (.mk 9 at_ nm.t 0 [] [x, y] [])) [.int .i64 9, .int .i64 at_, .string ⟨nm.t.toArray⟩, .int .i64 0, .slice none 0 0, .slice (some ⟨W.heap.size, 0, none⟩) 2 2, .slice none 0 0] := (C3.putL w.heap.size (fun b hb => Nat.ne_of_gt hb) [.int .i64 9, .int .i64 at_, .string ⟨nm.t.toArray⟩, .int .i64 0, .slice none 0 0, .slice (some ⟨W.heap.size, 0, none⟩) 2 2, .slice none 0 0]).mono (fun b _ hb => Nat.le_of_lt hb)
  have e9 : W9 = putL (W.alloc (.cells #[.int .i64 kLx, .int .i64 aLx, .string nLx, .int .i64 mLx, .slice p4Lx n4Lx c4Lx, .slice p5Lx n5Lx c5Lx, .slice p6Lx n6Lx c6Lx, .int .i64 kLy, .int .i64 aLy, .string nLy, .int .i64 mLy, .slice p4Ly n4Ly c4Ly, .slice p5Ly n5Ly c5Ly, .slice p6Ly n6Ly c6Ly] 36)) w.heap.size [.int .i64 9, .int .i64 at_, .string ⟨nm.t.toArray⟩, .int .i64 0, .slice none 0 0, .slice (some ⟨W.heap.size, 0, none⟩) 2 2, .slice none 0 0] := hW9.out
  subst e9
  exact ret49 rfl rfl rfl (putL_at (vs := [.int .i64 9, .int .i64 at_, .string ⟨nm.t.toArray⟩, .int .i64 0, .slice none 0 0, .slice (some ⟨W.heap.size, 0, none⟩) 2 2, .slice none 0 0]) HA'.out rfl) (.ok (HQ5.out.trans (by rw [R.tell_ok, List.append_nil])) ((F5.out.alloc (.cells #[.int .i64 kLx, .int .i64 aLx, .string nLx, .int .i64 mLx, .slice p4Lx n4Lx c4Lx, .slice p5Lx n5Lx c5Lx, .slice p6Lx n6Lx c6Lx, .int .i64 kLy, .int .i64 aLy, .string nLy, .int .i64 mLy, .slice p4Ly n4Ly c4Ly, .slice p5Ly n5Ly c5Ly, .slice p6Ly n6Ly c6Ly] 36)).putL (Nat.le_refl _) [.int .i64 9, .int .i64 at_, .string ⟨nm.t.toArray⟩, .int .i64 0, .slice none 0 0, .slice (some ⟨W.heap.size, 0, none⟩) 2 2, .slice none 0 0]) ⟨_, rfl, C4⟩ ((P5.out.alloc (.cells #[.int .i64 kLx, .int .i64 aLx, .string nLx, .int .i64 mLx, .slice p4Lx n4Lx c4Lx, .slice p5Lx n5Lx c5Lx, .slice p6Lx n6Lx c6Lx, .int .i64 kLy, .int .i64 aLy, .string nLy, .int .i64 mLy, .slice p4Ly n4Ly c4Ly, .slice p5Ly n5Ly c5Ly, .slice p6Ly n6Ly c6Ly] 36)).putL HA'.out (by decide) HPB.out [.int .i64 9, .int .i64 at_, .string ⟨nm.t.toArray⟩, .int .i64 0, .slice none 0 0, .slice (some ⟨W.heap.size, 0, none⟩) 2 2, .slice none 0 0]))
set_option maxHeartbeats 1000000 in
theorem if_any {B M : Nat} {pb : Nat} {all : List Tk} (k d : Nat) (hd64 : d ≤ 64)
    (HE : ∀ w ts told, PS B M w pb all ts told → Calls Tryz.prog 47 #[.pointer (some ⟨pb, 0, none⟩), .int .i64 ((d + 1 : Nat) : Int)] w (Post B M w pb all told (vE w.heap.size) (exp k ts)))
    (at_ : Nat)
    (w : World) (ts : List Tk) (told : List Dn) (h : PS B M w pb all ts told) :
    Calls Tryz.prog 91 #[.pointer (some ⟨pb, 0, none⟩), .int .i64 (at_ : Nat), .int .i64 (d : Nat)] w (Post B M w pb all told (vE w.heap.size) (ifP (exp k) at_ ts)) := by
  have HE := Lib.hid HE
  have HPB := Lib.hid h.lt
  have P0 := Lib.hid (h.alloc zE).nil
  have A0 := Lib.hid (show (w.alloc zE).heap[w.heap.size]? = some zE from heap_alloc_new w zE)
  have F0 := Lib.hid ((Fr.refl B w).alloc zE)
  have Z0 := Lib.hid (show w.heap.size < (w.alloc zE).heap.size by simp)
  clear h
  obtain ⟨res, hres⟩ : ∃ res, res = ifP (exp k) at_ ts := ⟨_, rfl⟩
  rw [← hres]
  have HQ0 := Lib.hid (tellq (hres.trans (by rw [ifP])))
  clear hres
  have HD := Lib.hid (show ((d : Int) + 1) = ((d + 1 : Nat) : Int) by omega)
  go_enter Tryz.func91, Tryz.ntmps91
  go_wp2_with fail
  rw [HD.out]
  refine (HE.out _ _ _ P0.out).mono ?_
  rintro e w1 ⟨f1, h1⟩
  cases hr1 : exp k ts with
  | bad y r d =>
    rw [hr1] at h1
    obtain ⟨rfl, p1⟩ := h1
    go_wp2_with fail
    exact panics rfl (.bad (HQ0.out.trans (by rw [hr1, R.bind_bad, R.tell_bad])) (F0.out.trans f1) p1.assoc)
  | ok x r1 d1 =>
  rw [hr1] at h1
  obtain ⟨⟨cs1, rfl, hcs1⟩, p1⟩ := h1
  obtain ⟨kLx, aLx, nLx, mLx, p4Lx, n4Lx, c4Lx, p5Lx, n5Lx, c5Lx, p6Lx, n6Lx, c6Lx, rfl⟩ := cells_E hcs1
  have HQ1 := Lib.hid (HQ0.out.trans (by rw [hr1, R.bind_ok, R.tell_tell]))
  have P1 := Lib.hid (p1.assoc.alloc (.cells #[.int .i64 kLx, .int .i64 aLx, .string nLx, .int .i64 mLx, .slice p4Lx n4Lx c4Lx, .slice p5Lx n5Lx c5Lx, .slice p6Lx n6Lx c6Lx] 36))
  have F1 := Lib.hid ((F0.out.trans f1).alloc (.cells #[.int .i64 kLx, .int .i64 aLx, .string nLx, .int .i64 mLx, .slice p4Lx n4Lx c4Lx, .slice p5Lx n5Lx c5Lx, .slice p6Lx n6Lx c6Lx] 36))
  have A1 := Lib.hid (blk_alloc (f1.cells A0.out (by decide)) (.cells #[.int .i64 kLx, .int .i64 aLx, .string nLx, .int .i64 mLx, .slice p4Lx n4Lx c4Lx, .slice p5Lx n5Lx c5Lx, .slice p6Lx n6Lx c6Lx] 36))
  have hz1 := Nat.lt_of_lt_of_le Z0.out f1.size
  have Z1 := Lib.hid (show w.heap.size < (w1.alloc (.cells #[.int .i64 kLx, .int .i64 aLx, .string nLx, .int .i64 mLx, .slice p4Lx n4Lx c4Lx, .slice p5Lx n5Lx c5Lx, .slice p6Lx n6Lx c6Lx] 36)).heap.size by simp; omega)
  have Lx1 := Lib.hid (Lv.new (t := 36) (by decide) hz1 Z0.out hcs1)
  clear hr1 p1 f1 HQ0 P0 F0 A0 Z0
  clear hz1 hcs1
  go_wp2_with fail
  refine (want_any P1.out [116, 104, 101, 110]).mono ?_
  rintro e w2 ⟨f2, h2⟩
  cases hr2 : want [116, 104, 101, 110] r1 with
  | bad y r d =>
    rw [hr2] at h2
    obtain ⟨rfl, p2⟩ := h2
    go_wp2_with fail
    exact panics rfl (.bad (HQ1.out.trans (by rw [hr2, R.bind_bad, R.tell_bad])) (F1.out.trans f2) p2.assoc)
  | ok x2 r2 d2 =>
  rw [hr2] at h2
  obtain ⟨h2, p2⟩ := h2
  cases h2
  have HQ2 := Lib.hid (HQ1.out.trans (by rw [hr2, R.bind_ok, R.tell_tell]))
  have P2 := Lib.hid p2.assoc
  have F2 := Lib.hid (F1.out.trans f2)
  have A2 := Lib.hid (f2.cells A1.out (by decide))
  have Z2 := Lib.hid (Nat.lt_of_lt_of_le Z1.out f2.size)
  have Lx2 := Lib.hid (Lx1.out.fr f2)
  clear hr2 p2 f2 HQ1 P1 F1 A1 Z1 Lx1
  go_wp2_with fail
  rw [HD.out]
  refine (HE.out _ _ _ P2.out).mono ?_
  rintro e w3 ⟨f3, h3⟩
  cases hr3 : exp k r2 with
  | bad y r d =>
    rw [hr3] at h3
    obtain ⟨rfl, p3⟩ := h3
    go_wp2_with fail
    exact panics rfl (.bad (HQ2.out.trans (by rw [hr3, R.bind_bad, R.tell_bad])) (F2.out.trans f3) p3.assoc)
  | ok y r3 d3 =>
  rw [hr3] at h3
  obtain ⟨⟨cs3, rfl, hcs3⟩, p3⟩ := h3
  obtain ⟨kLy, aLy, nLy, mLy, p4Ly, n4Ly, c4Ly, p5Ly, n5Ly, c5Ly, p6Ly, n6Ly, c6Ly, rfl⟩ := cells_E hcs3
  have HQ3 := Lib.hid (HQ2.out.trans (by rw [hr3, R.bind_ok, R.tell_tell]))
  have P3 := Lib.hid (p3.assoc.alloc (.cells #[.int .i64 kLy, .int .i64 aLy, .string nLy, .int .i64 mLy, .slice p4Ly n4Ly c4Ly, .slice p5Ly n5Ly c5Ly, .slice p6Ly n6Ly c6Ly] 36))
  have F3 := Lib.hid ((F2.out.trans f3).alloc (.cells #[.int .i64 kLy, .int .i64 aLy, .string nLy, .int .i64 mLy, .slice p4Ly n4Ly c4Ly, .slice p5Ly n5Ly c5Ly, .slice p6Ly n6Ly c6Ly] 36))
  have A3 := Lib.hid (blk_alloc (f3.cells A2.out (by decide)) (.cells #[.int .i64 kLy, .int .i64 aLy, .string nLy, .int .i64 mLy, .slice p4Ly n4Ly c4Ly, .slice p5Ly n5Ly c5Ly, .slice p6Ly n6Ly c6Ly] 36))
  have hz3 := Nat.lt_of_lt_of_le Z2.out f3.size
  have Z3 := Lib.hid (show w.heap.size < (w3.alloc (.cells #[.int .i64 kLy, .int .i64 aLy, .string nLy, .int .i64 mLy, .slice p4Ly n4Ly c4Ly, .slice p5Ly n5Ly c5Ly, .slice p6Ly n6Ly c6Ly] 36)).heap.size by simp; omega)
  have Ly3 := Lib.hid (Lv.new (t := 36) (by decide) hz3 Z2.out hcs3)
  have Lx3 := Lib.hid ((Lx2.out.fr f3).alloc (.cells #[.int .i64 kLy, .int .i64 aLy, .string nLy, .int .i64 mLy, .slice p4Ly n4Ly c4Ly, .slice p5Ly n5Ly c5Ly, .slice p6Ly n6Ly c6Ly] 36))
  clear hr3 p3 f3 HQ2 P2 F2 A2 Z2 Lx2
  clear hz3 hcs3
  go_wp2_with fail
  refine (want_any P3.out [101, 108, 115, 101]).mono ?_
  rintro e w4 ⟨f4, h4⟩
  cases hr4 : want [101, 108, 115, 101] r3 with
  | bad y r d =>
    rw [hr4] at h4
    obtain ⟨rfl, p4⟩ := h4
    go_wp2_with fail
    exact panics rfl (.bad (HQ3.out.trans (by rw [hr4, R.bind_bad, R.tell_bad])) (F3.out.trans f4) p4.assoc)
  | ok x4 r4 d4 =>
  rw [hr4] at h4
  obtain ⟨h4, p4⟩ := h4
  cases h4
  have HQ4 := Lib.hid (HQ3.out.trans (by rw [hr4, R.bind_ok, R.tell_tell]))
  have P4 := Lib.hid p4.assoc
  have F4 := Lib.hid (F3.out.trans f4)
  have A4 := Lib.hid (f4.cells A3.out (by decide))
  have Z4 := Lib.hid (Nat.lt_of_lt_of_le Z3.out f4.size)
  have Lx4 := Lib.hid (Lx3.out.fr f4)
  have Ly4 := Lib.hid (Ly3.out.fr f4)
  clear hr4 p4 f4 HQ3 P3 F3 A3 Z3 Lx3 Ly3
  go_wp2_with fail
  rw [HD.out]
  refine (HE.out _ _ _ P4.out).mono ?_
  rintro e w5 ⟨f5, h5⟩
  cases hr5 : exp k r4 with
  | bad y r d =>
    rw [hr5] at h5
    obtain ⟨rfl, p5⟩ := h5
    go_wp2_with fail
    exact panics rfl (.bad (HQ4.out.trans (by rw [hr5, R.bind_bad, R.tell_bad])) (F4.out.trans f5) p5.assoc)
  | ok z r5 d5 =>
  rw [hr5] at h5
  obtain ⟨⟨cs5, rfl, hcs5⟩, p5⟩ := h5
  obtain ⟨kLz, aLz, nLz, mLz, p4Lz, n4Lz, c4Lz, p5Lz, n5Lz, c5Lz, p6Lz, n6Lz, c6Lz, rfl⟩ := cells_E hcs5
  have HQ5 := Lib.hid (HQ4.out.trans (by rw [hr5, R.bind_ok, R.tell_tell]))
  have P5 := Lib.hid (p5.assoc.alloc (.cells #[.int .i64 kLz, .int .i64 aLz, .string nLz, .int .i64 mLz, .slice p4Lz n4Lz c4Lz, .slice p5Lz n5Lz c5Lz, .slice p6Lz n6Lz c6Lz] 36))
  have F5 := Lib.hid ((F4.out.trans f5).alloc (.cells #[.int .i64 kLz, .int .i64 aLz, .string nLz, .int .i64 mLz, .slice p4Lz n4Lz c4Lz, .slice p5Lz n5Lz c5Lz, .slice p6Lz n6Lz c6Lz] 36))
  have A5 := Lib.hid (blk_alloc (f5.cells A4.out (by decide)) (.cells #[.int .i64 kLz, .int .i64 aLz, .string nLz, .int .i64 mLz, .slice p4Lz n4Lz c4Lz, .slice p5Lz n5Lz c5Lz, .slice p6Lz n6Lz c6Lz] 36))
  have hz5 := Nat.lt_of_lt_of_le Z4.out f5.size
  have Z5 := Lib.hid (show w.heap.size < (w5.alloc (.cells #[.int .i64 kLz, .int .i64 aLz, .string nLz, .int .i64 mLz, .slice p4Lz n4Lz c4Lz, .slice p5Lz n5Lz c5Lz, .slice p6Lz n6Lz c6Lz] 36)).heap.size by simp; omega)
  have Lz5 := Lib.hid (Lv.new (t := 36) (by decide) hz5 Z4.out hcs5)
  have Lx5 := Lib.hid ((Lx4.out.fr f5).alloc (.cells #[.int .i64 kLz, .int .i64 aLz, .string nLz, .int .i64 mLz, .slice p4Lz n4Lz c4Lz, .slice p5Lz n5Lz c5Lz, .slice p6Lz n6Lz c6Lz] 36))
  have Ly5 := Lib.hid ((Ly4.out.fr f5).alloc (.cells #[.int .i64 kLz, .int .i64 aLz, .string nLz, .int .i64 mLz, .slice p4Lz n4Lz c4Lz, .slice p5Lz n5Lz c5Lz, .slice p6Lz n6Lz c6Lz] 36))
  clear hr5 p5 f5 HQ4 P4 F4 A4 Z4 Lx4 Ly4
  clear hz5 hcs5
  go_upto_region 6 with fail
  obtain ⟨W, hW⟩ : ∃ W, w5.alloc (.cells #[.int .i64 kLz, .int .i64 aLz, .string nLz, .int .i64 mLz, .slice p4Lz n4Lz c4Lz, .slice p5Lz n5Lz c5Lz, .slice p6Lz n6Lz c6Lz] 36) = W := ⟨_, rfl⟩
  rw [hW] at P5 F5 A5 Z5 Lx5 Ly5 Lz5
  rw [hW]
  clear hW
  obtain ⟨⟨ga0, ga1, ga2, ga3, ga4, ga5, ga6⟩, -⟩ := sev_of (show Sev W _ 36 (.int .i64 kLx) (.int .i64 aLx) (.string nLx) (.int .i64 mLx) (.slice p4Lx n4Lx c4Lx) (.slice p5Lx n5Lx c5Lx) (.slice p6Lx n6Lx c6Lx) from Lx5.out.blk)
  obtain ⟨⟨gb0, gb1, gb2, gb3, gb4, gb5, gb6⟩, -⟩ := sev_of (show Sev W _ 36 (.int .i64 kLy) (.int .i64 aLy) (.string nLy) (.int .i64 mLy) (.slice p4Ly n4Ly c4Ly) (.slice p5Ly n5Ly c5Ly) (.slice p6Ly n6Ly c6Ly) from Ly5.out.blk)
  obtain ⟨⟨gc0, gc1, gc2, gc3, gc4, gc5, gc6⟩, -⟩ := sev_of (show Sev W _ 36 (.int .i64 kLz) (.int .i64 aLz) (.string nLz) (.int .i64 mLz) (.slice p4Lz n4Lz c4Lz) (.slice p5Lz n5Lz c5Lz) (.slice p6Lz n6Lz c6Lz) from Lz5.out.blk)
  have hla : w1.heap.size < W.heap.size := (Array.getElem?_eq_some_iff.1 Lx5.out.blk).1
  have hna : ¬ w1.heap.size = W.heap.size := Nat.ne_of_lt hla
  have hlb : w3.heap.size < W.heap.size := (Array.getElem?_eq_some_iff.1 Ly5.out.blk).1
  have hnb : ¬ w3.heap.size = W.heap.size := Nat.ne_of_lt hlb
  have hlc : w5.heap.size < W.heap.size := (Array.getElem?_eq_some_iff.1 Lz5.out.blk).1
  have hnc : ¬ w5.heap.size = W.heap.size := Nat.ne_of_lt hlc
  have HA' := Lib.hid (show (W.alloc (.cells #[.int .i64 kLx, .int .i64 aLx, .string nLx, .int .i64 mLx, .slice p4Lx n4Lx c4Lx, .slice p5Lx n5Lx c5Lx, .slice p6Lx n6Lx c6Lx, .int .i64 kLy, .int .i64 aLy, .string nLy, .int .i64 mLy, .slice p4Ly n4Ly c4Ly, .slice p5Ly n5Ly c5Ly, .slice p6Ly n6Ly c6Ly, .int .i64 kLz, .int .i64 aLz, .string nLz, .int .i64 mLz, .slice p4Lz n4Lz c4Lz, .slice p5Lz n5Lz c5Lz, .slice p6Lz n6Lz c6Lz] 36)).heap[w.heap.size]? = some zE from (blk_alloc A5.out (.cells #[.int .i64 kLx, .int .i64 aLx, .string nLx, .int .i64 mLx, .slice p4Lx n4Lx c4Lx, .slice p5Lx n5Lx c5Lx, .slice p6Lx n6Lx c6Lx, .int .i64 kLy, .int .i64 aLy, .string nLy, .int .i64 mLy, .slice p4Ly n4Ly c4Ly, .slice p5Ly n5Ly c5Ly, .slice p6Ly n6Ly c6Ly, .int .i64 kLz, .int .i64 aLz, .string nLz, .int .i64 mLz, .slice p4Lz n4Lz c4Lz, .slice p5Lz n5Lz c5Lz, .slice p6Lz n6Lz c6Lz] 36)))
  have HTH := Lib.hid (there_of HA'.out rfl)
  have hz0 : w.heap.size < W.heap.size := Z5.out
  go_wp2_with (first | (refine wpList_store_put rfl 36 (.tmp 6) (.tmp 31) rfl w.heap.size _ rfl rfl HTH.out size49 (all_oneCell_toArray (by simp [Value.oneCell'])) ?_; intro W9 hW9))
  have CC : IsCs (fun b => w.heap.size < b) W (encEs 26 36 [x, y, z]) [.int .i64 kLx, .int .i64 aLx, .string nLx, .int .i64 mLx, .slice p4Lx n4Lx c4Lx, .slice p5Lx n5Lx c5Lx, .slice p6Lx n6Lx c6Lx, .int .i64 kLy, .int .i64 aLy, .string nLy, .int .i64 mLy, .slice p4Ly n4Ly c4Ly, .slice p5Ly n5Ly c5Ly, .slice p6Ly n6Ly c6Ly, .int .i64 kLz, .int .i64 aLz, .string nLz, .int .i64 mLz, .slice p4Lz n4Lz c4Lz, .slice p5Lz n5Lz c5Lz, .slice p6Lz n6Lz c6Lz] := by
    have := (Lx5.out.data.append _ _ _ _ (Ly5.out.data.append _ _ _ _ Lz5.out.data))
    simpa [encEs] using this
  have C2 := row_lit (e := 36) (size := 7) (n := 3) (g := W.heap.size) (by decide) rfl hz0 (by decide) rfl CC
  have C3 := IsCs.cons (IsC.num _ _ 10) (IsCs.cons (IsC.num _ _ at_) (IsCs.cons (IsC.str _ _ []) (IsCs.cons (IsC.num _ _ 0) (IsCs.cons (IsC.none _ _ 1 (e := 9) (by decide)) (IsCs.cons C2 (IsCs.cons (IsC.none _ _ 4 (e := 26) (by decide)) (IsCs.nil _ _)))))))
  have C4 : IsCs (fun b => w.heap.size ≤ b) (putL (W.alloc (.cells #[.int .i64 kLx, .int .i64 aLx, .string nLx, .int .i64 mLx, .slice p4Lx n4Lx c4Lx, .slice p5Lx n5Lx c5Lx, .slice p6Lx n6Lx c6Lx, .int .i64 kLy, .int .i64 aLy, .string nLy, .int .i64 mLy, .slice p4Ly n4Ly c4Ly, .slice p5Ly n5Ly c5Ly, .slice p6Ly n6Ly c6Ly, .int .i64 kLz, .int .i64 aLz, .string nLz, .int .i64 mLz, .slice p4Lz n4Lz c4Lz, .slice p5Lz n5Lz c5Lz, .slice p6Lz n6Lz c6Lz] 36)) w.heap.size [.int .i64 10, .int .i64 at_, .string ⟨#[]⟩, .int .i64 0, .slice none 0 0, .slice (some ⟨W.heap.size, 0, none⟩) 3 3, .slice none 0 0]) (encE 26 36 (.mk 10 at_ [] 0 [] [x, y, z] [])) [.int .i64 10, .int .i64 at_, .string ⟨#[]⟩, .int .i64 0, .slice none 0 0, .slice (some ⟨W.heap.size, 0, none⟩) 3 3, .slice none 0 0] := (C3.putL w.heap.size (fun b hb => Nat.ne_of_gt hb) [.int .i64 10, .int .i64 at_, .string ⟨#[]⟩, .int .i64 0, .slice none 0 0, .slice (some ⟨W.heap.size, 0, none⟩) 3 3, .slice none 0 0]).mono (fun b _ hb => Nat.le_of_lt hb)
  have e9 : W9 = putL (W.alloc (.cells #[.int .i64 kLx, .int .i64 aLx, .string nLx, .int .i64 mLx, .slice p4Lx n4Lx c4Lx, .slice p5Lx n5Lx c5Lx, .slice p6Lx n6Lx c6Lx, .int .i64 kLy, .int .i64 aLy, .string nLy, .int .i64 mLy, .slice p4Ly n4Ly c4Ly, .slice p5Ly n5Ly c5Ly, .slice p6Ly n6Ly c6Ly, .int .i64 kLz, .int .i64 aLz, .string nLz, .int .i64 mLz, .slice p4Lz n4Lz c4Lz, .slice p5Lz n5Lz c5Lz, .slice p6Lz n6Lz c6Lz] 36)) w.heap.size [.int .i64 10, .int .i64 at_, .string ⟨#[]⟩, .int .i64 0, .slice none 0 0, .slice (some ⟨W.heap.size, 0, none⟩) 3 3, .slice none 0 0] := hW9.out
  subst e9
  exact ret49 rfl rfl rfl (putL_at (vs := [.int .i64 10, .int .i64 at_, .string ⟨#[]⟩, .int .i64 0, .slice none 0 0, .slice (some ⟨W.heap.size, 0, none⟩) 3 3, .slice none 0 0]) HA'.out rfl) (.ok (HQ5.out.trans (by rw [R.tell_ok, List.append_nil])) ((F5.out.alloc (.cells #[.int .i64 kLx, .int .i64 aLx, .string nLx, .int .i64 mLx, .slice p4Lx n4Lx c4Lx, .slice p5Lx n5Lx c5Lx, .slice p6Lx n6Lx c6Lx, .int .i64 kLy, .int .i64 aLy, .string nLy, .int .i64 mLy, .slice p4Ly n4Ly c4Ly, .slice p5Ly n5Ly c5Ly, .slice p6Ly n6Ly c6Ly, .int .i64 kLz, .int .i64 aLz, .string nLz, .int .i64 mLz, .slice p4Lz n4Lz c4Lz, .slice p5Lz n5Lz c5Lz, .slice p6Lz n6Lz c6Lz] 36)).putL (Nat.le_refl _) [.int .i64 10, .int .i64 at_, .string ⟨#[]⟩, .int .i64 0, .slice none 0 0, .slice (some ⟨W.heap.size, 0, none⟩) 3 3, .slice none 0 0]) ⟨_, rfl, C4⟩ ((P5.out.alloc (.cells #[.int .i64 kLx, .int .i64 aLx, .string nLx, .int .i64 mLx, .slice p4Lx n4Lx c4Lx, .slice p5Lx n5Lx c5Lx, .slice p6Lx n6Lx c6Lx, .int .i64 kLy, .int .i64 aLy, .string nLy, .int .i64 mLy, .slice p4Ly n4Ly c4Ly, .slice p5Ly n5Ly c5Ly, .slice p6Ly n6Ly c6Ly, .int .i64 kLz, .int .i64 aLz, .string nLz, .int .i64 mLz, .slice p4Lz n4Lz c4Lz, .slice p5Lz n5Lz c5Lz, .slice p6Lz n6Lz c6Lz] 36)).putL HA'.out (by decide) HPB.out [.int .i64 10, .int .i64 at_, .string ⟨#[]⟩, .int .i64 0, .slice none 0 0, .slice (some ⟨W.heap.size, 0, none⟩) 3 3, .slice none 0 0]))
set_option maxHeartbeats 1000000 in
theorem fun_any {B M : Nat} {pb : Nat} {all : List Tk} (k d : Nat) (hd64 : d ≤ 64)
    (HE : ∀ w ts told, PS B M w pb all ts told → Calls Tryz.prog 47 #[.pointer (some ⟨pb, 0, none⟩), .int .i64 ((d + 1 : Nat) : Int)] w (Post B M w pb all told (vE w.heap.size) (exp k ts)))
    (HT : ∀ w ts told, PS B M w pb all ts told → Calls Tryz.prog 43 #[.pointer (some ⟨pb, 0, none⟩), .int .i64 ((d + 1 : Nat) : Int)] w (Post B M w pb all told (vT w.heap.size) (typ k ts)))
    (at_ : Nat)
    (w : World) (ts : List Tk) (told : List Dn) (h : PS B M w pb all ts told) :
    Calls Tryz.prog 89 #[.pointer (some ⟨pb, 0, none⟩), .int .i64 (at_ : Nat), .int .i64 (d : Nat)] w (Post B M w pb all told (vE w.heap.size) (funP (typ k) (exp k) at_ ts)) := by
  have HE := Lib.hid HE
  have HT := Lib.hid HT
  have HPB := Lib.hid h.lt
  have P0 := Lib.hid (h.alloc zE).nil
  have A0 := Lib.hid (show (w.alloc zE).heap[w.heap.size]? = some zE from heap_alloc_new w zE)
  have F0 := Lib.hid ((Fr.refl B w).alloc zE)
  have Z0 := Lib.hid (show w.heap.size < (w.alloc zE).heap.size by simp)
  clear h
  obtain ⟨res, hres⟩ : ∃ res, res = funP (typ k) (exp k) at_ ts := ⟨_, rfl⟩
  rw [← hres]
  have HQ0 := Lib.hid (tellq (hres.trans (by rw [funP])))
  clear hres
  have HD := Lib.hid (show ((d : Int) + 1) = ((d + 1 : Nat) : Int) by omega)
  go_enter Tryz.func89, Tryz.ntmps89
  go_wp2_with fail
  refine (want_any P0.out [40]).mono ?_
  rintro e w1 ⟨f1, h1⟩
  cases hr1 : want [40] ts with
  | bad y r d =>
    rw [hr1] at h1
    obtain ⟨rfl, p1⟩ := h1
    go_wp2_with fail
    exact panics rfl (.bad (HQ0.out.trans (by rw [hr1, R.bind_bad, R.tell_bad])) (F0.out.trans f1) p1.assoc)
  | ok x1 r1 d1 =>
  rw [hr1] at h1
  obtain ⟨h1, p1⟩ := h1
  cases h1
  have HQ1 := Lib.hid (HQ0.out.trans (by rw [hr1, R.bind_ok, R.tell_tell]))
  have P1 := Lib.hid p1.assoc
  have F1 := Lib.hid (F0.out.trans f1)
  have A1 := Lib.hid (f1.cells A0.out (by decide))
  have Z1 := Lib.hid (Nat.lt_of_lt_of_le Z0.out f1.size)
  clear hr1 p1 f1 HQ0 P0 F0 A0 Z0
  go_wp2_with fail
  refine (wantName_any P1.out).mono ?_
  rintro e w2 ⟨f2, h2⟩
  cases hr2 : wantName r1 with
  | bad y r d =>
    rw [hr2] at h2
    obtain ⟨rfl, p2⟩ := h2
    go_wp2_with fail
    exact panics rfl (.bad (HQ1.out.trans (by rw [hr2, R.bind_bad, R.tell_bad])) (F1.out.trans f2) p2.assoc)
  | ok nm r2 d2 =>
  rw [hr2] at h2
  obtain ⟨h2, p2⟩ := h2
  cases h2
  unfold tokV
  have HQ2 := Lib.hid (HQ1.out.trans (by rw [hr2, R.bind_ok, R.tell_tell]))
  have P2 := Lib.hid (p2.assoc.alloc (.cells #[.int .i64 (nm.k : Nat), .int .i64 (nm.a : Nat), .string ⟨nm.t.toArray⟩] 105))
  have F2 := Lib.hid ((F1.out.trans f2).alloc (.cells #[.int .i64 (nm.k : Nat), .int .i64 (nm.a : Nat), .string ⟨nm.t.toArray⟩] 105))
  have A2 := Lib.hid (blk_alloc (f2.cells A1.out (by decide)) (.cells #[.int .i64 (nm.k : Nat), .int .i64 (nm.a : Nat), .string ⟨nm.t.toArray⟩] 105))
  have hz2 := Nat.lt_of_lt_of_le Z1.out f2.size
  have Z2 := Lib.hid (show w.heap.size < (w2.alloc (.cells #[.int .i64 (nm.k : Nat), .int .i64 (nm.a : Nat), .string ⟨nm.t.toArray⟩] 105)).heap.size by simp; omega)
  have Ln2 := Lib.hid (Lv.newTok hz2 nm)
  clear hr2 p2 f2 HQ1 P1 F1 A1 Z1
  clear hz2 
  go_wp2_with fail
  refine (want_any P2.out [58]).mono ?_
  rintro e w3 ⟨f3, h3⟩
  cases hr3 : want [58] r2 with
  | bad y r d =>
    rw [hr3] at h3
    obtain ⟨rfl, p3⟩ := h3
    go_wp2_with fail
    exact panics rfl (.bad (HQ2.out.trans (by rw [hr3, R.bind_bad, R.tell_bad])) (F2.out.trans f3) p3.assoc)
  | ok x3 r3 d3 =>
  rw [hr3] at h3
  obtain ⟨h3, p3⟩ := h3
  cases h3
  have HQ3 := Lib.hid (HQ2.out.trans (by rw [hr3, R.bind_ok, R.tell_tell]))
  have P3 := Lib.hid p3.assoc
  have F3 := Lib.hid (F2.out.trans f3)
  have A3 := Lib.hid (f3.cells A2.out (by decide))
  have Z3 := Lib.hid (Nat.lt_of_lt_of_le Z2.out f3.size)
  have Ln3 := Lib.hid (Ln2.out.fr f3)
  clear hr3 p3 f3 HQ2 P2 F2 A2 Z2 Ln2
  go_wp2_with fail
  rw [HD.out]
  refine (HT.out _ _ _ P3.out).mono ?_
  rintro e w4 ⟨f4, h4⟩
  cases hr4 : typ k r3 with
  | bad y r d =>
    rw [hr4] at h4
    obtain ⟨rfl, p4⟩ := h4
    go_wp2_with fail
    exact panics rfl (.bad (HQ3.out.trans (by rw [hr4, R.bind_bad, R.tell_bad])) (F3.out.trans f4) p4.assoc)
  | ok t r4 d4 =>
  rw [hr4] at h4
  obtain ⟨⟨cs4, rfl, hcs4⟩, p4⟩ := h4
  obtain ⟨kLt, nLt, p2Lt, n2Lt, c2Lt, p3Lt, n3Lt, c3Lt, rfl⟩ := cells_T hcs4
  have HQ4 := Lib.hid (HQ3.out.trans (by rw [hr4, R.bind_ok, R.tell_tell]))
  have P4 := Lib.hid (p4.assoc.alloc (.cells #[.int .i64 kLt, .string nLt, .slice p2Lt n2Lt c2Lt, .slice p3Lt n3Lt c3Lt] 26))
  have F4 := Lib.hid ((F3.out.trans f4).alloc (.cells #[.int .i64 kLt, .string nLt, .slice p2Lt n2Lt c2Lt, .slice p3Lt n3Lt c3Lt] 26))
  have A4 := Lib.hid (blk_alloc (f4.cells A3.out (by decide)) (.cells #[.int .i64 kLt, .string nLt, .slice p2Lt n2Lt c2Lt, .slice p3Lt n3Lt c3Lt] 26))
  have hz4 := Nat.lt_of_lt_of_le Z3.out f4.size
  have Z4 := Lib.hid (show w.heap.size < (w4.alloc (.cells #[.int .i64 kLt, .string nLt, .slice p2Lt n2Lt c2Lt, .slice p3Lt n3Lt c3Lt] 26)).heap.size by simp; omega)
  have Lt4 := Lib.hid (Lv.new (t := 26) (by decide) hz4 Z3.out hcs4)
  have Ln4 := Lib.hid ((Ln3.out.fr f4).alloc (.cells #[.int .i64 kLt, .string nLt, .slice p2Lt n2Lt c2Lt, .slice p3Lt n3Lt c3Lt] 26))
  clear hr4 p4 f4 HQ3 P3 F3 A3 Z3 Ln3
  clear hz4 hcs4
  go_wp2_with fail
  refine (want_any P4.out [41]).mono ?_
  rintro e w5 ⟨f5, h5⟩
  cases hr5 : want [41] r4 with
  | bad y r d =>
    rw [hr5] at h5
    obtain ⟨rfl, p5⟩ := h5
    go_wp2_with fail
    exact panics rfl (.bad (HQ4.out.trans (by rw [hr5, R.bind_bad, R.tell_bad])) (F4.out.trans f5) p5.assoc)
  | ok x5 r5 d5 =>
  rw [hr5] at h5
  obtain ⟨h5, p5⟩ := h5
  cases h5
  have HQ5 := Lib.hid (HQ4.out.trans (by rw [hr5, R.bind_ok, R.tell_tell]))
  have P5 := Lib.hid p5.assoc
  have F5 := Lib.hid (F4.out.trans f5)
  have A5 := Lib.hid (f5.cells A4.out (by decide))
  have Z5 := Lib.hid (Nat.lt_of_lt_of_le Z4.out f5.size)
  have Ln5 := Lib.hid (Ln4.out.fr f5)
  have Lt5 := Lib.hid (Lt4.out.fr f5)
  clear hr5 p5 f5 HQ4 P4 F4 A4 Z4 Ln4 Lt4
  go_wp2_with fail
  rw [HD.out]
  refine (HE.out _ _ _ P5.out).mono ?_
  rintro e w6 ⟨f6, h6⟩
  cases hr6 : exp k r5 with
  | bad y r d =>
    rw [hr6] at h6
    obtain ⟨rfl, p6⟩ := h6
    go_wp2_with fail
    exact panics rfl (.bad (HQ5.out.trans (by rw [hr6, R.bind_bad, R.tell_bad])) (F5.out.trans f6) p6.assoc)
  | ok x r6 d6 =>
  rw [hr6] at h6
  obtain ⟨⟨cs6, rfl, hcs6⟩, p6⟩ := h6
  obtain ⟨kLx, aLx, nLx, mLx, p4Lx, n4Lx, c4Lx, p5Lx, n5Lx, c5Lx, p6Lx, n6Lx, c6Lx, rfl⟩ := cells_E hcs6
  have HQ6 := Lib.hid (HQ5.out.trans (by rw [hr6, R.bind_ok, R.tell_tell]))
  have P6 := Lib.hid (p6.assoc.alloc (.cells #[.int .i64 kLx, .int .i64 aLx, .string nLx, .int .i64 mLx, .slice p4Lx n4Lx c4Lx, .slice p5Lx n5Lx c5Lx, .slice p6Lx n6Lx c6Lx] 36))
  have F6 := Lib.hid ((F5.out.trans f6).alloc (.cells #[.int .i64 kLx, .int .i64 aLx, .string nLx, .int .i64 mLx, .slice p4Lx n4Lx c4Lx, .slice p5Lx n5Lx c5Lx, .slice p6Lx n6Lx c6Lx] 36))
  have A6 := Lib.hid (blk_alloc (f6.cells A5.out (by decide)) (.cells #[.int .i64 kLx, .int .i64 aLx, .string nLx, .int .i64 mLx, .slice p4Lx n4Lx c4Lx, .slice p5Lx n5Lx c5Lx, .slice p6Lx n6Lx c6Lx] 36))
  have hz6 := Nat.lt_of_lt_of_le Z5.out f6.size
  have Z6 := Lib.hid (show w.heap.size < (w6.alloc (.cells #[.int .i64 kLx, .int .i64 aLx, .string nLx, .int .i64 mLx, .slice p4Lx n4Lx c4Lx, .slice p5Lx n5Lx c5Lx, .slice p6Lx n6Lx c6Lx] 36)).heap.size by simp; omega)
  have Lx6 := Lib.hid (Lv.new (t := 36) (by decide) hz6 Z5.out hcs6)
  have Ln6 := Lib.hid ((Ln5.out.fr f6).alloc (.cells #[.int .i64 kLx, .int .i64 aLx, .string nLx, .int .i64 mLx, .slice p4Lx n4Lx c4Lx, .slice p5Lx n5Lx c5Lx, .slice p6Lx n6Lx c6Lx] 36))
  have Lt6 := Lib.hid ((Lt5.out.fr f6).alloc (.cells #[.int .i64 kLx, .int .i64 aLx, .string nLx, .int .i64 mLx, .slice p4Lx n4Lx c4Lx, .slice p5Lx n5Lx c5Lx, .slice p6Lx n6Lx c6Lx] 36))
  clear hr6 p6 f6 HQ5 P5 F5 A5 Z5 Ln5 Lt5
  clear hz6 hcs6
  go_upto_region 7 with fail
  obtain ⟨W, hW⟩ : ∃ W, w6.alloc (.cells #[.int .i64 kLx, .int .i64 aLx, .string nLx, .int .i64 mLx, .slice p4Lx n4Lx c4Lx, .slice p5Lx n5Lx c5Lx, .slice p6Lx n6Lx c6Lx] 36) = W := ⟨_, rfl⟩
  rw [hW] at P6 F6 A6 Z6 Ln6 Lt6 Lx6
  rw [hW]
  clear hW
  obtain ⟨⟨ga0, ga1, ga2⟩, -⟩ := thr_of (show Thr W _ 105 (.int .i64 (nm.k : Nat)) (.int .i64 (nm.a : Nat)) (.string ⟨nm.t.toArray⟩) from Ln6.out.blk)
  obtain ⟨⟨gb0, gb1, gb2, gb3⟩, -⟩ := fou_of (show Fou W _ 26 (.int .i64 kLt) (.string nLt) (.slice p2Lt n2Lt c2Lt) (.slice p3Lt n3Lt c3Lt) from Lt6.out.blk)
  obtain ⟨⟨gc0, gc1, gc2, gc3, gc4, gc5, gc6⟩, -⟩ := sev_of (show Sev W _ 36 (.int .i64 kLx) (.int .i64 aLx) (.string nLx) (.int .i64 mLx) (.slice p4Lx n4Lx c4Lx) (.slice p5Lx n5Lx c5Lx) (.slice p6Lx n6Lx c6Lx) from Lx6.out.blk)
  have hla : w2.heap.size < W.heap.size := (Array.getElem?_eq_some_iff.1 Ln6.out.blk).1
  have hna : ¬ w2.heap.size = W.heap.size := Nat.ne_of_lt hla
  have hlb : w4.heap.size < W.heap.size := (Array.getElem?_eq_some_iff.1 Lt6.out.blk).1
  have hnb : ¬ w4.heap.size = W.heap.size := Nat.ne_of_lt hlb
  have hlc : w6.heap.size < W.heap.size := (Array.getElem?_eq_some_iff.1 Lx6.out.blk).1
  have hnc : ¬ w6.heap.size = W.heap.size := Nat.ne_of_lt hlc
  have HA' := Lib.hid (show ((W.alloc (.cells #[.int .i64 kLx, .int .i64 aLx, .string nLx, .int .i64 mLx, .slice p4Lx n4Lx c4Lx, .slice p5Lx n5Lx c5Lx, .slice p6Lx n6Lx c6Lx] 36)).alloc (.cells #[.int .i64 kLt, .string nLt, .slice p2Lt n2Lt c2Lt, .slice p3Lt n3Lt c3Lt] 26)).heap[w.heap.size]? = some zE from (blk_alloc (blk_alloc A6.out (.cells #[.int .i64 kLx, .int .i64 aLx, .string nLx, .int .i64 mLx, .slice p4Lx n4Lx c4Lx, .slice p5Lx n5Lx c5Lx, .slice p6Lx n6Lx c6Lx] 36)) (.cells #[.int .i64 kLt, .string nLt, .slice p2Lt n2Lt c2Lt, .slice p3Lt n3Lt c3Lt] 26)))
  have HTH := Lib.hid (there_of HA'.out rfl)
  have hz0 : w.heap.size < W.heap.size := Z6.out
  go_wp2_with (first | (refine wpList_store_put rfl 36 (.tmp 6) (.tmp 33) rfl w.heap.size _ rfl rfl HTH.out size49 (all_oneCell_toArray (by simp [Value.oneCell'])) ?_; intro W9 hW9))
  have CC : IsCs (fun b => w.heap.size < b) W (encEs 26 36 [x]) [.int .i64 kLx, .int .i64 aLx, .string nLx, .int .i64 mLx, .slice p4Lx n4Lx c4Lx, .slice p5Lx n5Lx c5Lx, .slice p6Lx n6Lx c6Lx] := by
    have := Lx6.out.data
    simpa [encEs] using this
  have C2 := row_lit (e := 36) (size := 7) (n := 1) (g := W.heap.size) (by decide) rfl hz0 (by decide) rfl CC
  have TC : IsCs (fun b => w.heap.size < b) W (encTs 26 [t]) [.int .i64 kLt, .string nLt, .slice p2Lt n2Lt c2Lt, .slice p3Lt n3Lt c3Lt] := by
    have := Lt6.out.data
    simpa [encTs] using this
  have T2 := row_lit (e := 26) (size := 4) (n := 1) (g := W.heap.size + 1) (by decide) (World.size_alloc W (.cells #[.int .i64 kLx, .int .i64 aLx, .string nLx, .int .i64 mLx, .slice p4Lx n4Lx c4Lx, .slice p5Lx n5Lx c5Lx, .slice p6Lx n6Lx c6Lx] 36)) (by omega) (by decide) rfl (TC.below ((Below.refl _ _).alloc (Nat.le_refl _) (.cells #[.int .i64 kLx, .int .i64 aLx, .string nLx, .int .i64 mLx, .slice p4Lx n4Lx c4Lx, .slice p5Lx n5Lx c5Lx, .slice p6Lx n6Lx c6Lx] 36)))
  have C2 := C2.below ((Below.refl _ _).alloc (Nat.le_refl _) (.cells #[.int .i64 kLt, .string nLt, .slice p2Lt n2Lt c2Lt, .slice p3Lt n3Lt c3Lt] 26))
  have C3 := IsCs.cons (IsC.num _ _ 8) (IsCs.cons (IsC.num _ _ at_) (IsCs.cons (IsC.str _ _ nm.t) (IsCs.cons (IsC.num _ _ 0) (IsCs.cons (IsC.none _ _ 1 (e := 9) (by decide)) (IsCs.cons C2 (IsCs.cons (T2) (IsCs.nil _ _)))))))
  have C4 : IsCs (fun b => w.heap.size ≤ b) (putL ((W.alloc (.cells #[.int .i64 kLx, .int .i64 aLx, .string nLx, .int .i64 mLx, .slice p4Lx n4Lx c4Lx, .slice p5Lx n5Lx c5Lx, .slice p6Lx n6Lx c6Lx] 36)).alloc (.cells #[.int .i64 kLt, .string nLt, .slice p2Lt n2Lt c2Lt, .slice p3Lt n3Lt c3Lt] 26)) w.heap.size [.int .i64 8, .int .i64 at_, .string ⟨nm.t.toArray⟩, .int .i64 0, .slice none 0 0, .slice (some ⟨W.heap.size, 0, none⟩) 1 1, .slice (some ⟨W.heap.size + 1, 0, none⟩) 1 1]) (encE 26 36 (.mk 8 at_ nm.t 0 [] [x] [t])) [.int .i64 8, .int .i64 at_, .string ⟨nm.t.toArray⟩, .int .i64 0, .slice none 0 0, .slice (some ⟨W.heap.size, 0, none⟩) 1 1, .slice (some ⟨W.heap.size + 1, 0, none⟩) 1 1] := (C3.putL w.heap.size (fun b hb => Nat.ne_of_gt hb) [.int .i64 8, .int .i64 at_, .string ⟨nm.t.toArray⟩, .int .i64 0, .slice none 0 0, .slice (some ⟨W.heap.size, 0, none⟩) 1 1, .slice (some ⟨W.heap.size + 1, 0, none⟩) 1 1]).mono (fun b _ hb => Nat.le_of_lt hb)
  have e9 : W9 = putL ((W.alloc (.cells #[.int .i64 kLx, .int .i64 aLx, .string nLx, .int .i64 mLx, .slice p4Lx n4Lx c4Lx, .slice p5Lx n5Lx c5Lx, .slice p6Lx n6Lx c6Lx] 36)).alloc (.cells #[.int .i64 kLt, .string nLt, .slice p2Lt n2Lt c2Lt, .slice p3Lt n3Lt c3Lt] 26)) w.heap.size [.int .i64 8, .int .i64 at_, .string ⟨nm.t.toArray⟩, .int .i64 0, .slice none 0 0, .slice (some ⟨W.heap.size, 0, none⟩) 1 1, .slice (some ⟨W.heap.size + 1, 0, none⟩) 1 1] := hW9.out
  subst e9
  exact ret49 rfl rfl rfl (putL_at (vs := [.int .i64 8, .int .i64 at_, .string ⟨nm.t.toArray⟩, .int .i64 0, .slice none 0 0, .slice (some ⟨W.heap.size, 0, none⟩) 1 1, .slice (some ⟨W.heap.size + 1, 0, none⟩) 1 1]) HA'.out rfl) (.ok (HQ6.out.trans (by rw [R.tell_ok, List.append_nil])) (((F6.out.alloc (.cells #[.int .i64 kLx, .int .i64 aLx, .string nLx, .int .i64 mLx, .slice p4Lx n4Lx c4Lx, .slice p5Lx n5Lx c5Lx, .slice p6Lx n6Lx c6Lx] 36)).alloc (.cells #[.int .i64 kLt, .string nLt, .slice p2Lt n2Lt c2Lt, .slice p3Lt n3Lt c3Lt] 26)).putL (Nat.le_refl _) [.int .i64 8, .int .i64 at_, .string ⟨nm.t.toArray⟩, .int .i64 0, .slice none 0 0, .slice (some ⟨W.heap.size, 0, none⟩) 1 1, .slice (some ⟨W.heap.size + 1, 0, none⟩) 1 1]) ⟨_, rfl, C4⟩ (((P6.out.alloc (.cells #[.int .i64 kLx, .int .i64 aLx, .string nLx, .int .i64 mLx, .slice p4Lx n4Lx c4Lx, .slice p5Lx n5Lx c5Lx, .slice p6Lx n6Lx c6Lx] 36)).alloc (.cells #[.int .i64 kLt, .string nLt, .slice p2Lt n2Lt c2Lt, .slice p3Lt n3Lt c3Lt] 26)).putL HA'.out (by decide) HPB.out [.int .i64 8, .int .i64 at_, .string ⟨nm.t.toArray⟩, .int .i64 0, .slice none 0 0, .slice (some ⟨W.heap.size, 0, none⟩) 1 1, .slice (some ⟨W.heap.size + 1, 0, none⟩) 1 1]))
end Go.Proofs.YtijnjoonbjdafaaGreatDoor

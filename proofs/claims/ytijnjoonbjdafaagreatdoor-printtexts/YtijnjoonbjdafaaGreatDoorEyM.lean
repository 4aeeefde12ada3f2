import Derived.Test.YtijnjoonbjdafaaGreatDoorSeM
namespace Go.Proofs.YtijnjoonbjdafaaGreatDoor
set_option maxHeartbeats 20000000
set_option maxRecDepth 20000
open Go.RowKit Go.Shelf
theorem ZoG{B M:Nat}{pb:Nat}{all:List Tk}(k d:Nat)(hd64:d≤64)
  (HE:∀w ts told,PS B M w pb all ts told→Calls Tryz.prog 47 #[.pointer (some ⟨pb,0,none⟩),.int .i64 ((d+1:Nat):Int)] w (Post B M w pb all told (vE w.heap.size) (exp k ts)))
  (at_:Nat)
  (w:World) (ts:List Tk) (told:List Dn) (h:PS B M w pb all ts told) :
  Calls Tryz.prog 90 #[.pointer (some ⟨pb,0,none⟩),.int .i64 at_,.int .i64 d] w (Post B M w pb all told (vE w.heap.size) (letP (exp k) at_ ts)):=by
 have HE:=Hd HE;have HPB:=Hd h.lt;have P0:=Hd (h.alloc zE).nil;have A0:=Hd (show (w.alloc zE).heap[w.heap.size]?=some zE from hN w zE);have F0:=Hd ((Fr.refl B w).alloc zE);have Z0:=Hd (show w.heap.size<(w.alloc zE).heap.size by simp);clear h;obtain⟨res,hres⟩:=eX (letP (exp k) at_ ts);rw[←hres];have HQ0:=Hd (ZjZ (hres.trans (by rw[letP])));clear hres;have HD:=Hd (show ((d:Int)+1)=((d+1:Nat):Int) by omega);go_enter Tryz.func90,Tryz.ntmps90
 go_wp2_with fail
 refine (ZbW P0.out).mono ?_;rintro e w1 ⟨f1,h1⟩;cases hr1:Zaj ts with
 | bad y r d=>
  rw[hr1] at h1;obtain⟨rfl,p1⟩:=h1;go_wp2_with fail
  exact Zap rfl (.bad (HQ0.out.trans (by rw[hr1,R.bind_bad,R.tell_bad])) (F0.out.trans f1) p1.assoc)
 | ok nm r1 d1=>
 rw[hr1] at h1;obtain⟨h1,p1⟩:=h1;cases h1;unfold tokV;have HQ1:=Hd (HQ0.out.trans (by rw[hr1,R.bind_ok,R.tell_tell]));have P1:=Hd (p1.assoc.alloc (.cells #[.int .i64 nm.k,.int .i64 nm.a,.string ⟨nm.t.toArray⟩] 105));have F1:=Hd ((F0.out.trans f1).alloc (.cells #[.int .i64 nm.k,.int .i64 nm.a,.string ⟨nm.t.toArray⟩] 105));have A1:=Hd (Zab (f1.cells A0.out (by decide)) (.cells #[.int .i64 nm.k,.int .i64 nm.a,.string ⟨nm.t.toArray⟩] 105));have hz1:=ll Z0.out f1.size;have Z1:=Hd (show w.heap.size<(w1.alloc (.cells #[.int .i64 nm.k,.int .i64 nm.a,.string ⟨nm.t.toArray⟩] 105)).heap.size by simp;omega);have Ln1:=Hd (Lv.newTok hz1 nm);clear hr1 p1 f1 HQ0 P0 F0 A0 Z0;clear hz1;go_wp2_with fail
 refine (ZaU P1.out [61]).mono ?_;rintro e w2 ⟨f2,h2⟩;cases hr2:want [61] r1 with
 | bad y r d=>
  rw[hr2] at h2;obtain⟨rfl,p2⟩:=h2;go_wp2_with fail
  exact Zap rfl (.bad (HQ1.out.trans (by rw[hr2,R.bind_bad,R.tell_bad])) (F1.out.trans f2) p2.assoc)
 | ok x2 r2 d2=>
 rw[hr2] at h2;obtain⟨h2,p2⟩:=h2;cases h2;have HQ2:=Hd (HQ1.out.trans (by rw[hr2,R.bind_ok,R.tell_tell]));have P2:=Hd p2.assoc;have F2:=Hd (F1.out.trans f2);have A2:=Hd (f2.cells A1.out (by decide));have Z2:=Hd (ll Z1.out f2.size);have Ln2:=Hd (Ln1.out.fr f2);clear hr2 p2 f2 HQ1 P1 F1 A1 Z1 Ln1;go_wp2_with fail
 rw[HD.out];refine (HE.out _ _ _ P2.out).mono ?_;rintro e w3 ⟨f3,h3⟩;cases hr3:exp k r2 with
 | bad y r d=>
  rw[hr3] at h3;obtain⟨rfl,p3⟩:=h3;go_wp2_with fail
  exact Zap rfl (.bad (HQ2.out.trans (by rw[hr3,R.bind_bad,R.tell_bad])) (F2.out.trans f3) p3.assoc)
 | ok x r3 d3=>
 rw[hr3] at h3;obtain⟨⟨cs3,rfl,hcs3⟩,p3⟩:=h3;obtain⟨kLx,aLx,nLx,mLx,p4Lx,n4Lx,c4Lx,p5Lx,n5Lx,c5Lx,p6Lx,n6Lx,c6Lx,rfl⟩:=ZaT hcs3;have HQ3:=Hd (HQ2.out.trans (by rw[hr3,R.bind_ok,R.tell_tell]));have P3:=Hd (p3.assoc.alloc (.cells #[.int .i64 kLx,.int .i64 aLx,.string nLx,.int .i64 mLx,.slice p4Lx n4Lx c4Lx,.slice p5Lx n5Lx c5Lx,.slice p6Lx n6Lx c6Lx] 36));have F3:=Hd ((F2.out.trans f3).alloc (.cells #[.int .i64 kLx,.int .i64 aLx,.string nLx,.int .i64 mLx,.slice p4Lx n4Lx c4Lx,.slice p5Lx n5Lx c5Lx,.slice p6Lx n6Lx c6Lx] 36));have A3:=Hd (Zab (f3.cells A2.out (by decide)) (.cells #[.int .i64 kLx,.int .i64 aLx,.string nLx,.int .i64 mLx,.slice p4Lx n4Lx c4Lx,.slice p5Lx n5Lx c5Lx,.slice p6Lx n6Lx c6Lx] 36));have hz3:=ll Z2.out f3.size;have Z3:=Hd (show w.heap.size<(w3.alloc (.cells #[.int .i64 kLx,.int .i64 aLx,.string nLx,.int .i64 mLx,.slice p4Lx n4Lx c4Lx,.slice p5Lx n5Lx c5Lx,.slice p6Lx n6Lx c6Lx] 36)).heap.size by simp;omega);have Lx3:=Hd (Lv.new (t:=36) (by decide) hz3 Z2.out hcs3);have Ln3:=Hd ((Ln2.out.fr f3).alloc (.cells #[.int .i64 kLx,.int .i64 aLx,.string nLx,.int .i64 mLx,.slice p4Lx n4Lx c4Lx,.slice p5Lx n5Lx c5Lx,.slice p6Lx n6Lx c6Lx] 36));clear hr3 p3 f3 HQ2 P2 F2 A2 Z2 Ln2;clear hz3 hcs3;go_wp2_with fail
 refine (ZaU P3.out [105,110]).mono ?_;rintro e w4 ⟨f4,h4⟩;cases hr4:want [105,110] r3 with
 | bad y r d=>
  rw[hr4] at h4;obtain⟨rfl,p4⟩:=h4;go_wp2_with fail
  exact Zap rfl (.bad (HQ3.out.trans (by rw[hr4,R.bind_bad,R.tell_bad])) (F3.out.trans f4) p4.assoc)
 | ok x4 r4 d4=>
 rw[hr4] at h4;obtain⟨h4,p4⟩:=h4;cases h4;have HQ4:=Hd (HQ3.out.trans (by rw[hr4,R.bind_ok,R.tell_tell]));have P4:=Hd p4.assoc;have F4:=Hd (F3.out.trans f4);have A4:=Hd (f4.cells A3.out (by decide));have Z4:=Hd (ll Z3.out f4.size);have Ln4:=Hd (Ln3.out.fr f4);have Lx4:=Hd (Lx3.out.fr f4);clear hr4 p4 f4 HQ3 P3 F3 A3 Z3 Ln3 Lx3;go_wp2_with fail
 rw[HD.out];refine (HE.out _ _ _ P4.out).mono ?_;rintro e w5 ⟨f5,h5⟩;cases hr5:exp k r4 with
 | bad y r d=>
  rw[hr5] at h5;obtain⟨rfl,p5⟩:=h5;go_wp2_with fail
  exact Zap rfl (.bad (HQ4.out.trans (by rw[hr5,R.bind_bad,R.tell_bad])) (F4.out.trans f5) p5.assoc)
 | ok y r5 d5=>
 rw[hr5] at h5;obtain⟨⟨cs5,rfl,hcs5⟩,p5⟩:=h5;obtain⟨kLy,aLy,nLy,mLy,p4Ly,n4Ly,c4Ly,p5Ly,n5Ly,c5Ly,p6Ly,n6Ly,c6Ly,rfl⟩:=ZaT hcs5;have HQ5:=Hd (HQ4.out.trans (by rw[hr5,R.bind_ok,R.tell_tell]));have P5:=Hd (p5.assoc.alloc (.cells #[.int .i64 kLy,.int .i64 aLy,.string nLy,.int .i64 mLy,.slice p4Ly n4Ly c4Ly,.slice p5Ly n5Ly c5Ly,.slice p6Ly n6Ly c6Ly] 36));have F5:=Hd ((F4.out.trans f5).alloc (.cells #[.int .i64 kLy,.int .i64 aLy,.string nLy,.int .i64 mLy,.slice p4Ly n4Ly c4Ly,.slice p5Ly n5Ly c5Ly,.slice p6Ly n6Ly c6Ly] 36));have A5:=Hd (Zab (f5.cells A4.out (by decide)) (.cells #[.int .i64 kLy,.int .i64 aLy,.string nLy,.int .i64 mLy,.slice p4Ly n4Ly c4Ly,.slice p5Ly n5Ly c5Ly,.slice p6Ly n6Ly c6Ly] 36));have hz5:=ll Z4.out f5.size;have Z5:=Hd (show w.heap.size<(w5.alloc (.cells #[.int .i64 kLy,.int .i64 aLy,.string nLy,.int .i64 mLy,.slice p4Ly n4Ly c4Ly,.slice p5Ly n5Ly c5Ly,.slice p6Ly n6Ly c6Ly] 36)).heap.size by simp;omega);have Ly5:=Hd (Lv.new (t:=36) (by decide) hz5 Z4.out hcs5);have Ln5:=Hd ((Ln4.out.fr f5).alloc (.cells #[.int .i64 kLy,.int .i64 aLy,.string nLy,.int .i64 mLy,.slice p4Ly n4Ly c4Ly,.slice p5Ly n5Ly c5Ly,.slice p6Ly n6Ly c6Ly] 36));have Lx5:=Hd ((Lx4.out.fr f5).alloc (.cells #[.int .i64 kLy,.int .i64 aLy,.string nLy,.int .i64 mLy,.slice p4Ly n4Ly c4Ly,.slice p5Ly n5Ly c5Ly,.slice p6Ly n6Ly c6Ly] 36));clear hr5 p5 f5 HQ4 P4 F4 A4 Z4 Ln4 Lx4;clear hz5 hcs5;go_upto_region 6 with fail
 obtain⟨W,hW⟩:=eY (w5.alloc (.cells #[.int .i64 kLy,.int .i64 aLy,.string nLy,.int .i64 mLy,.slice p4Ly n4Ly c4Ly,.slice p5Ly n5Ly c5Ly,.slice p6Ly n6Ly c6Ly] 36));rw[hW] at P5 F5 A5 Z5 Ln5 Lx5 Ly5;rw[hW];clear hW;obtain⟨⟨ga0,ga1,ga2⟩,-⟩:=Zan (show Thr W _ 105 (.int .i64 nm.k) (.int .i64 nm.a) (.string ⟨nm.t.toArray⟩) from Ln5.out.blk);obtain⟨⟨gb0,gb1,gb2,gb3,gb4,gb5,gb6⟩,-⟩:=Zai (show Sev W _ 36 (.int .i64 kLx) (.int .i64 aLx) (.string nLx) (.int .i64 mLx) (.slice p4Lx n4Lx c4Lx) (.slice p5Lx n5Lx c5Lx) (.slice p6Lx n6Lx c6Lx) from Lx5.out.blk);obtain⟨⟨gc0,gc1,gc2,gc3,gc4,gc5,gc6⟩,-⟩:=Zai (show Sev W _ 36 (.int .i64 kLy) (.int .i64 aLy) (.string nLy) (.int .i64 mLy) (.slice p4Ly n4Ly c4Ly) (.slice p5Ly n5Ly c5Ly) (.slice p6Ly n6Ly c6Ly) from Ly5.out.blk);have hla:w1.heap.size<W.heap.size:=(gE Ln5.out.blk).1;have hna:¬w1.heap.size=W.heap.size:=Nat.ne_of_lt hla;have hlb:w3.heap.size<W.heap.size:=(gE Lx5.out.blk).1;have hnb:¬w3.heap.size=W.heap.size:=Nat.ne_of_lt hlb;have hlc:w5.heap.size<W.heap.size:=(gE Ly5.out.blk).1;have hnc:¬w5.heap.size=W.heap.size:=Nat.ne_of_lt hlc;have HA':=Hd (show (W.alloc (.cells #[.int .i64 kLx,.int .i64 aLx,.string nLx,.int .i64 mLx,.slice p4Lx n4Lx c4Lx,.slice p5Lx n5Lx c5Lx,.slice p6Lx n6Lx c6Lx,.int .i64 kLy,.int .i64 aLy,.string nLy,.int .i64 mLy,.slice p4Ly n4Ly c4Ly,.slice p5Ly n5Ly c5Ly,.slice p6Ly n6Ly c6Ly] 36)).heap[w.heap.size]?=some zE from (Zab A5.out (.cells #[.int .i64 kLx,.int .i64 aLx,.string nLx,.int .i64 mLx,.slice p4Lx n4Lx c4Lx,.slice p5Lx n5Lx c5Lx,.slice p6Lx n6Lx c6Lx,.int .i64 kLy,.int .i64 aLy,.string nLy,.int .i64 mLy,.slice p4Ly n4Ly c4Ly,.slice p5Ly n5Ly c5Ly,.slice p6Ly n6Ly c6Ly] 36)));have HTH:=Hd (Zaf HA'.out rfl);have hz0:w.heap.size<W.heap.size:=Z5.out;go_wp2_with (first | (refine Zaa rfl 36 (.tmp 6) (.tmp 30) rfl w.heap.size _ rfl rfl HTH.out Zbi (all_oneCell_toArray (by simp[Value.oneCell'])) ?_;intro W9 hW9))
 have CC:IsCs (fun b=>w.heap.size<b) W (Zaw 26 36 [x,y]) [.int .i64 kLx,.int .i64 aLx,.string nLx,.int .i64 mLx,.slice p4Lx n4Lx c4Lx,.slice p5Lx n5Lx c5Lx,.slice p6Lx n6Lx c6Lx,.int .i64 kLy,.int .i64 aLy,.string nLy,.int .i64 mLy,.slice p4Ly n4Ly c4Ly,.slice p5Ly n5Ly c5Ly,.slice p6Ly n6Ly c6Ly]:=by
  have:=(Lx5.out.data.append _ _ _ _ Ly5.out.data)
  simpa[Zaw] using this
 have C2:=ZaK (e:=36) (size:=7) (n:=2) (g:=W.heap.size) (by decide) rfl hz0 (by decide) rfl CC;have C3:=IsCs.cons (IsC.num _ _ 9) (IsCs.cons (IsC.num _ _ at_) (IsCs.cons (IsC.str _ _ nm.t) (IsCs.cons (IsC.num _ _ 0) (IsCs.cons (IsC.none _ _ 1 (e:=9) (by decide)) (IsCs.cons C2 (IsCs.cons (IsC.none _ _ 4 (e:=26) (by decide)) (IsCs.nil _ _)))))));have C4:IsCs (fun b=>w.heap.size≤b) (putL (W.alloc (.cells #[.int .i64 kLx,.int .i64 aLx,.string nLx,.int .i64 mLx,.slice p4Lx n4Lx c4Lx,.slice p5Lx n5Lx c5Lx,.slice p6Lx n6Lx c6Lx,.int .i64 kLy,.int .i64 aLy,.string nLy,.int .i64 mLy,.slice p4Ly n4Ly c4Ly,.slice p5Ly n5Ly c5Ly,.slice p6Ly n6Ly c6Ly] 36)) w.heap.size [.int .i64 9,.int .i64 at_,.string ⟨nm.t.toArray⟩,.int .i64 0,.slice none 0 0,.slice (some ⟨W.heap.size,0,none⟩) 2 2,.slice none 0 0]) (encE 26 36 (.mk 9 at_ nm.t 0 [] [x,y] [])) [.int .i64 9,.int .i64 at_,.string ⟨nm.t.toArray⟩,.int .i64 0,.slice none 0 0,.slice (some ⟨W.heap.size,0,none⟩) 2 2,.slice none 0 0]:=(C3.putL w.heap.size (fun b hb=>Nat.ne_of_gt hb) [.int .i64 9,.int .i64 at_,.string ⟨nm.t.toArray⟩,.int .i64 0,.slice none 0 0,.slice (some ⟨W.heap.size,0,none⟩) 2 2,.slice none 0 0]).mono (fun b _ hb=>Nat.le_of_lt hb);have e9:W9=putL (W.alloc (.cells #[.int .i64 kLx,.int .i64 aLx,.string nLx,.int .i64 mLx,.slice p4Lx n4Lx c4Lx,.slice p5Lx n5Lx c5Lx,.slice p6Lx n6Lx c6Lx,.int .i64 kLy,.int .i64 aLy,.string nLy,.int .i64 mLy,.slice p4Ly n4Ly c4Ly,.slice p5Ly n5Ly c5Ly,.slice p6Ly n6Ly c6Ly] 36)) w.heap.size [.int .i64 9,.int .i64 at_,.string ⟨nm.t.toArray⟩,.int .i64 0,.slice none 0 0,.slice (some ⟨W.heap.size,0,none⟩) 2 2,.slice none 0 0]:=hW9.out;subst e9;exact ZcC rfl rfl rfl (Zam (vs:=[.int .i64 9,.int .i64 at_,.string ⟨nm.t.toArray⟩,.int .i64 0,.slice none 0 0,.slice (some ⟨W.heap.size,0,none⟩) 2 2,.slice none 0 0]) HA'.out rfl) (.ok (HQ5.out.trans (by rw[R.tell_ok,List.append_nil])) ((F5.out.alloc (.cells #[.int .i64 kLx,.int .i64 aLx,.string nLx,.int .i64 mLx,.slice p4Lx n4Lx c4Lx,.slice p5Lx n5Lx c5Lx,.slice p6Lx n6Lx c6Lx,.int .i64 kLy,.int .i64 aLy,.string nLy,.int .i64 mLy,.slice p4Ly n4Ly c4Ly,.slice p5Ly n5Ly c5Ly,.slice p6Ly n6Ly c6Ly] 36)).putL (nl _) [.int .i64 9,.int .i64 at_,.string ⟨nm.t.toArray⟩,.int .i64 0,.slice none 0 0,.slice (some ⟨W.heap.size,0,none⟩) 2 2,.slice none 0 0]) ⟨_,rfl,C4⟩ ((P5.out.alloc (.cells #[.int .i64 kLx,.int .i64 aLx,.string nLx,.int .i64 mLx,.slice p4Lx n4Lx c4Lx,.slice p5Lx n5Lx c5Lx,.slice p6Lx n6Lx c6Lx,.int .i64 kLy,.int .i64 aLy,.string nLy,.int .i64 mLy,.slice p4Ly n4Ly c4Ly,.slice p5Ly n5Ly c5Ly,.slice p6Ly n6Ly c6Ly] 36)).putL HA'.out (by decide) HPB.out [.int .i64 9,.int .i64 at_,.string ⟨nm.t.toArray⟩,.int .i64 0,.slice none 0 0,.slice (some ⟨W.heap.size,0,none⟩) 2 2,.slice none 0 0]))
theorem if_any{B M:Nat}{pb:Nat}{all:List Tk}(k d:Nat)(hd64:d≤64)
  (HE:∀w ts told,PS B M w pb all ts told→Calls Tryz.prog 47 #[.pointer (some ⟨pb,0,none⟩),.int .i64 ((d+1:Nat):Int)] w (Post B M w pb all told (vE w.heap.size) (exp k ts)))
  (at_:Nat)
  (w:World) (ts:List Tk) (told:List Dn) (h:PS B M w pb all ts told) :
  Calls Tryz.prog 91 #[.pointer (some ⟨pb,0,none⟩),.int .i64 at_,.int .i64 d] w (Post B M w pb all told (vE w.heap.size) (ifP (exp k) at_ ts)):=by
 have HE:=Hd HE;have HPB:=Hd h.lt;have P0:=Hd (h.alloc zE).nil;have A0:=Hd (show (w.alloc zE).heap[w.heap.size]?=some zE from hN w zE);have F0:=Hd ((Fr.refl B w).alloc zE);have Z0:=Hd (show w.heap.size<(w.alloc zE).heap.size by simp);clear h;obtain⟨res,hres⟩:=eX (ifP (exp k) at_ ts);rw[←hres];have HQ0:=Hd (ZjZ (hres.trans (by rw[ifP])));clear hres;have HD:=Hd (show ((d:Int)+1)=((d+1:Nat):Int) by omega);go_enter Tryz.func91,Tryz.ntmps91
 go_wp2_with fail
 rw[HD.out];refine (HE.out _ _ _ P0.out).mono ?_;rintro e w1 ⟨f1,h1⟩;cases hr1:exp k ts with
 | bad y r d=>
  rw[hr1] at h1;obtain⟨rfl,p1⟩:=h1;go_wp2_with fail
  exact Zap rfl (.bad (HQ0.out.trans (by rw[hr1,R.bind_bad,R.tell_bad])) (F0.out.trans f1) p1.assoc)
 | ok x r1 d1=>
 rw[hr1] at h1;obtain⟨⟨cs1,rfl,hcs1⟩,p1⟩:=h1;obtain⟨kLx,aLx,nLx,mLx,p4Lx,n4Lx,c4Lx,p5Lx,n5Lx,c5Lx,p6Lx,n6Lx,c6Lx,rfl⟩:=ZaT hcs1;have HQ1:=Hd (HQ0.out.trans (by rw[hr1,R.bind_ok,R.tell_tell]));have P1:=Hd (p1.assoc.alloc (.cells #[.int .i64 kLx,.int .i64 aLx,.string nLx,.int .i64 mLx,.slice p4Lx n4Lx c4Lx,.slice p5Lx n5Lx c5Lx,.slice p6Lx n6Lx c6Lx] 36));have F1:=Hd ((F0.out.trans f1).alloc (.cells #[.int .i64 kLx,.int .i64 aLx,.string nLx,.int .i64 mLx,.slice p4Lx n4Lx c4Lx,.slice p5Lx n5Lx c5Lx,.slice p6Lx n6Lx c6Lx] 36));have A1:=Hd (Zab (f1.cells A0.out (by decide)) (.cells #[.int .i64 kLx,.int .i64 aLx,.string nLx,.int .i64 mLx,.slice p4Lx n4Lx c4Lx,.slice p5Lx n5Lx c5Lx,.slice p6Lx n6Lx c6Lx] 36));have hz1:=ll Z0.out f1.size;have Z1:=Hd (show w.heap.size<(w1.alloc (.cells #[.int .i64 kLx,.int .i64 aLx,.string nLx,.int .i64 mLx,.slice p4Lx n4Lx c4Lx,.slice p5Lx n5Lx c5Lx,.slice p6Lx n6Lx c6Lx] 36)).heap.size by simp;omega);have Lx1:=Hd (Lv.new (t:=36) (by decide) hz1 Z0.out hcs1);clear hr1 p1 f1 HQ0 P0 F0 A0 Z0;clear hz1 hcs1;go_wp2_with fail
 refine (ZaU P1.out [116,104,101,110]).mono ?_;rintro e w2 ⟨f2,h2⟩;cases hr2:want [116,104,101,110] r1 with
 | bad y r d=>
  rw[hr2] at h2;obtain⟨rfl,p2⟩:=h2;go_wp2_with fail
  exact Zap rfl (.bad (HQ1.out.trans (by rw[hr2,R.bind_bad,R.tell_bad])) (F1.out.trans f2) p2.assoc)
 | ok x2 r2 d2=>
 rw[hr2] at h2;obtain⟨h2,p2⟩:=h2;cases h2;have HQ2:=Hd (HQ1.out.trans (by rw[hr2,R.bind_ok,R.tell_tell]));have P2:=Hd p2.assoc;have F2:=Hd (F1.out.trans f2);have A2:=Hd (f2.cells A1.out (by decide));have Z2:=Hd (ll Z1.out f2.size);have Lx2:=Hd (Lx1.out.fr f2);clear hr2 p2 f2 HQ1 P1 F1 A1 Z1 Lx1;go_wp2_with fail
 rw[HD.out];refine (HE.out _ _ _ P2.out).mono ?_;rintro e w3 ⟨f3,h3⟩;cases hr3:exp k r2 with
 | bad y r d=>
  rw[hr3] at h3;obtain⟨rfl,p3⟩:=h3;go_wp2_with fail
  exact Zap rfl (.bad (HQ2.out.trans (by rw[hr3,R.bind_bad,R.tell_bad])) (F2.out.trans f3) p3.assoc)
 | ok y r3 d3=>
 rw[hr3] at h3;obtain⟨⟨cs3,rfl,hcs3⟩,p3⟩:=h3;obtain⟨kLy,aLy,nLy,mLy,p4Ly,n4Ly,c4Ly,p5Ly,n5Ly,c5Ly,p6Ly,n6Ly,c6Ly,rfl⟩:=ZaT hcs3;have HQ3:=Hd (HQ2.out.trans (by rw[hr3,R.bind_ok,R.tell_tell]));have P3:=Hd (p3.assoc.alloc (.cells #[.int .i64 kLy,.int .i64 aLy,.string nLy,.int .i64 mLy,.slice p4Ly n4Ly c4Ly,.slice p5Ly n5Ly c5Ly,.slice p6Ly n6Ly c6Ly] 36));have F3:=Hd ((F2.out.trans f3).alloc (.cells #[.int .i64 kLy,.int .i64 aLy,.string nLy,.int .i64 mLy,.slice p4Ly n4Ly c4Ly,.slice p5Ly n5Ly c5Ly,.slice p6Ly n6Ly c6Ly] 36));have A3:=Hd (Zab (f3.cells A2.out (by decide)) (.cells #[.int .i64 kLy,.int .i64 aLy,.string nLy,.int .i64 mLy,.slice p4Ly n4Ly c4Ly,.slice p5Ly n5Ly c5Ly,.slice p6Ly n6Ly c6Ly] 36));have hz3:=ll Z2.out f3.size;have Z3:=Hd (show w.heap.size<(w3.alloc (.cells #[.int .i64 kLy,.int .i64 aLy,.string nLy,.int .i64 mLy,.slice p4Ly n4Ly c4Ly,.slice p5Ly n5Ly c5Ly,.slice p6Ly n6Ly c6Ly] 36)).heap.size by simp;omega);have Ly3:=Hd (Lv.new (t:=36) (by decide) hz3 Z2.out hcs3);have Lx3:=Hd ((Lx2.out.fr f3).alloc (.cells #[.int .i64 kLy,.int .i64 aLy,.string nLy,.int .i64 mLy,.slice p4Ly n4Ly c4Ly,.slice p5Ly n5Ly c5Ly,.slice p6Ly n6Ly c6Ly] 36));clear hr3 p3 f3 HQ2 P2 F2 A2 Z2 Lx2;clear hz3 hcs3;go_wp2_with fail
 refine (ZaU P3.out [101,108,115,101]).mono ?_;rintro e w4 ⟨f4,h4⟩;cases hr4:want [101,108,115,101] r3 with
 | bad y r d=>
  rw[hr4] at h4;obtain⟨rfl,p4⟩:=h4;go_wp2_with fail
  exact Zap rfl (.bad (HQ3.out.trans (by rw[hr4,R.bind_bad,R.tell_bad])) (F3.out.trans f4) p4.assoc)
 | ok x4 r4 d4=>
 rw[hr4] at h4;obtain⟨h4,p4⟩:=h4;cases h4;have HQ4:=Hd (HQ3.out.trans (by rw[hr4,R.bind_ok,R.tell_tell]));have P4:=Hd p4.assoc;have F4:=Hd (F3.out.trans f4);have A4:=Hd (f4.cells A3.out (by decide));have Z4:=Hd (ll Z3.out f4.size);have Lx4:=Hd (Lx3.out.fr f4);have Ly4:=Hd (Ly3.out.fr f4);clear hr4 p4 f4 HQ3 P3 F3 A3 Z3 Lx3 Ly3;go_wp2_with fail
 rw[HD.out];refine (HE.out _ _ _ P4.out).mono ?_;rintro e w5 ⟨f5,h5⟩;cases hr5:exp k r4 with
 | bad y r d=>
  rw[hr5] at h5;obtain⟨rfl,p5⟩:=h5;go_wp2_with fail
  exact Zap rfl (.bad (HQ4.out.trans (by rw[hr5,R.bind_bad,R.tell_bad])) (F4.out.trans f5) p5.assoc)
 | ok z r5 d5=>
 rw[hr5] at h5;obtain⟨⟨cs5,rfl,hcs5⟩,p5⟩:=h5;obtain⟨kLz,aLz,nLz,mLz,p4Lz,n4Lz,c4Lz,p5Lz,n5Lz,c5Lz,p6Lz,n6Lz,c6Lz,rfl⟩:=ZaT hcs5;have HQ5:=Hd (HQ4.out.trans (by rw[hr5,R.bind_ok,R.tell_tell]));have P5:=Hd (p5.assoc.alloc (.cells #[.int .i64 kLz,.int .i64 aLz,.string nLz,.int .i64 mLz,.slice p4Lz n4Lz c4Lz,.slice p5Lz n5Lz c5Lz,.slice p6Lz n6Lz c6Lz] 36));have F5:=Hd ((F4.out.trans f5).alloc (.cells #[.int .i64 kLz,.int .i64 aLz,.string nLz,.int .i64 mLz,.slice p4Lz n4Lz c4Lz,.slice p5Lz n5Lz c5Lz,.slice p6Lz n6Lz c6Lz] 36));have A5:=Hd (Zab (f5.cells A4.out (by decide)) (.cells #[.int .i64 kLz,.int .i64 aLz,.string nLz,.int .i64 mLz,.slice p4Lz n4Lz c4Lz,.slice p5Lz n5Lz c5Lz,.slice p6Lz n6Lz c6Lz] 36));have hz5:=ll Z4.out f5.size;have Z5:=Hd (show w.heap.size<(w5.alloc (.cells #[.int .i64 kLz,.int .i64 aLz,.string nLz,.int .i64 mLz,.slice p4Lz n4Lz c4Lz,.slice p5Lz n5Lz c5Lz,.slice p6Lz n6Lz c6Lz] 36)).heap.size by simp;omega);have Lz5:=Hd (Lv.new (t:=36) (by decide) hz5 Z4.out hcs5);have Lx5:=Hd ((Lx4.out.fr f5).alloc (.cells #[.int .i64 kLz,.int .i64 aLz,.string nLz,.int .i64 mLz,.slice p4Lz n4Lz c4Lz,.slice p5Lz n5Lz c5Lz,.slice p6Lz n6Lz c6Lz] 36));have Ly5:=Hd ((Ly4.out.fr f5).alloc (.cells #[.int .i64 kLz,.int .i64 aLz,.string nLz,.int .i64 mLz,.slice p4Lz n4Lz c4Lz,.slice p5Lz n5Lz c5Lz,.slice p6Lz n6Lz c6Lz] 36));clear hr5 p5 f5 HQ4 P4 F4 A4 Z4 Lx4 Ly4;clear hz5 hcs5;go_upto_region 6 with fail
 obtain⟨W,hW⟩:=eY (w5.alloc (.cells #[.int .i64 kLz,.int .i64 aLz,.string nLz,.int .i64 mLz,.slice p4Lz n4Lz c4Lz,.slice p5Lz n5Lz c5Lz,.slice p6Lz n6Lz c6Lz] 36));rw[hW] at P5 F5 A5 Z5 Lx5 Ly5 Lz5;rw[hW];clear hW;obtain⟨⟨ga0,ga1,ga2,ga3,ga4,ga5,ga6⟩,-⟩:=Zai (show Sev W _ 36 (.int .i64 kLx) (.int .i64 aLx) (.string nLx) (.int .i64 mLx) (.slice p4Lx n4Lx c4Lx) (.slice p5Lx n5Lx c5Lx) (.slice p6Lx n6Lx c6Lx) from Lx5.out.blk);obtain⟨⟨gb0,gb1,gb2,gb3,gb4,gb5,gb6⟩,-⟩:=Zai (show Sev W _ 36 (.int .i64 kLy) (.int .i64 aLy) (.string nLy) (.int .i64 mLy) (.slice p4Ly n4Ly c4Ly) (.slice p5Ly n5Ly c5Ly) (.slice p6Ly n6Ly c6Ly) from Ly5.out.blk);obtain⟨⟨gc0,gc1,gc2,gc3,gc4,gc5,gc6⟩,-⟩:=Zai (show Sev W _ 36 (.int .i64 kLz) (.int .i64 aLz) (.string nLz) (.int .i64 mLz) (.slice p4Lz n4Lz c4Lz) (.slice p5Lz n5Lz c5Lz) (.slice p6Lz n6Lz c6Lz) from Lz5.out.blk);have hla:w1.heap.size<W.heap.size:=(gE Lx5.out.blk).1;have hna:¬w1.heap.size=W.heap.size:=Nat.ne_of_lt hla;have hlb:w3.heap.size<W.heap.size:=(gE Ly5.out.blk).1;have hnb:¬w3.heap.size=W.heap.size:=Nat.ne_of_lt hlb;have hlc:w5.heap.size<W.heap.size:=(gE Lz5.out.blk).1;have hnc:¬w5.heap.size=W.heap.size:=Nat.ne_of_lt hlc;have HA':=Hd (show (W.alloc (.cells #[.int .i64 kLx,.int .i64 aLx,.string nLx,.int .i64 mLx,.slice p4Lx n4Lx c4Lx,.slice p5Lx n5Lx c5Lx,.slice p6Lx n6Lx c6Lx,.int .i64 kLy,.int .i64 aLy,.string nLy,.int .i64 mLy,.slice p4Ly n4Ly c4Ly,.slice p5Ly n5Ly c5Ly,.slice p6Ly n6Ly c6Ly,.int .i64 kLz,.int .i64 aLz,.string nLz,.int .i64 mLz,.slice p4Lz n4Lz c4Lz,.slice p5Lz n5Lz c5Lz,.slice p6Lz n6Lz c6Lz] 36)).heap[w.heap.size]?=some zE from (Zab A5.out (.cells #[.int .i64 kLx,.int .i64 aLx,.string nLx,.int .i64 mLx,.slice p4Lx n4Lx c4Lx,.slice p5Lx n5Lx c5Lx,.slice p6Lx n6Lx c6Lx,.int .i64 kLy,.int .i64 aLy,.string nLy,.int .i64 mLy,.slice p4Ly n4Ly c4Ly,.slice p5Ly n5Ly c5Ly,.slice p6Ly n6Ly c6Ly,.int .i64 kLz,.int .i64 aLz,.string nLz,.int .i64 mLz,.slice p4Lz n4Lz c4Lz,.slice p5Lz n5Lz c5Lz,.slice p6Lz n6Lz c6Lz] 36)));have HTH:=Hd (Zaf HA'.out rfl);have hz0:w.heap.size<W.heap.size:=Z5.out;go_wp2_with (first | (refine Zaa rfl 36 (.tmp 6) (.tmp 31) rfl w.heap.size _ rfl rfl HTH.out Zbi (all_oneCell_toArray (by simp[Value.oneCell'])) ?_;intro W9 hW9))
 have CC:IsCs (fun b=>w.heap.size<b) W (Zaw 26 36 [x,y,z]) [.int .i64 kLx,.int .i64 aLx,.string nLx,.int .i64 mLx,.slice p4Lx n4Lx c4Lx,.slice p5Lx n5Lx c5Lx,.slice p6Lx n6Lx c6Lx,.int .i64 kLy,.int .i64 aLy,.string nLy,.int .i64 mLy,.slice p4Ly n4Ly c4Ly,.slice p5Ly n5Ly c5Ly,.slice p6Ly n6Ly c6Ly,.int .i64 kLz,.int .i64 aLz,.string nLz,.int .i64 mLz,.slice p4Lz n4Lz c4Lz,.slice p5Lz n5Lz c5Lz,.slice p6Lz n6Lz c6Lz]:=by
  have:=(Lx5.out.data.append _ _ _ _ (Ly5.out.data.append _ _ _ _ Lz5.out.data))
  simpa[Zaw] using this
 have C2:=ZaK (e:=36) (size:=7) (n:=3) (g:=W.heap.size) (by decide) rfl hz0 (by decide) rfl CC;have C3:=IsCs.cons (IsC.num _ _ 10) (IsCs.cons (IsC.num _ _ at_) (IsCs.cons (IsC.str _ _ []) (IsCs.cons (IsC.num _ _ 0) (IsCs.cons (IsC.none _ _ 1 (e:=9) (by decide)) (IsCs.cons C2 (IsCs.cons (IsC.none _ _ 4 (e:=26) (by decide)) (IsCs.nil _ _)))))));have C4:IsCs (fun b=>w.heap.size≤b) (putL (W.alloc (.cells #[.int .i64 kLx,.int .i64 aLx,.string nLx,.int .i64 mLx,.slice p4Lx n4Lx c4Lx,.slice p5Lx n5Lx c5Lx,.slice p6Lx n6Lx c6Lx,.int .i64 kLy,.int .i64 aLy,.string nLy,.int .i64 mLy,.slice p4Ly n4Ly c4Ly,.slice p5Ly n5Ly c5Ly,.slice p6Ly n6Ly c6Ly,.int .i64 kLz,.int .i64 aLz,.string nLz,.int .i64 mLz,.slice p4Lz n4Lz c4Lz,.slice p5Lz n5Lz c5Lz,.slice p6Lz n6Lz c6Lz] 36)) w.heap.size [.int .i64 10,.int .i64 at_,.string ⟨#[]⟩,.int .i64 0,.slice none 0 0,.slice (some ⟨W.heap.size,0,none⟩) 3 3,.slice none 0 0]) (encE 26 36 (.mk 10 at_ [] 0 [] [x,y,z] [])) [.int .i64 10,.int .i64 at_,.string ⟨#[]⟩,.int .i64 0,.slice none 0 0,.slice (some ⟨W.heap.size,0,none⟩) 3 3,.slice none 0 0]:=(C3.putL w.heap.size (fun b hb=>Nat.ne_of_gt hb) [.int .i64 10,.int .i64 at_,.string ⟨#[]⟩,.int .i64 0,.slice none 0 0,.slice (some ⟨W.heap.size,0,none⟩) 3 3,.slice none 0 0]).mono (fun b _ hb=>Nat.le_of_lt hb);have e9:W9=putL (W.alloc (.cells #[.int .i64 kLx,.int .i64 aLx,.string nLx,.int .i64 mLx,.slice p4Lx n4Lx c4Lx,.slice p5Lx n5Lx c5Lx,.slice p6Lx n6Lx c6Lx,.int .i64 kLy,.int .i64 aLy,.string nLy,.int .i64 mLy,.slice p4Ly n4Ly c4Ly,.slice p5Ly n5Ly c5Ly,.slice p6Ly n6Ly c6Ly,.int .i64 kLz,.int .i64 aLz,.string nLz,.int .i64 mLz,.slice p4Lz n4Lz c4Lz,.slice p5Lz n5Lz c5Lz,.slice p6Lz n6Lz c6Lz] 36)) w.heap.size [.int .i64 10,.int .i64 at_,.string ⟨#[]⟩,.int .i64 0,.slice none 0 0,.slice (some ⟨W.heap.size,0,none⟩) 3 3,.slice none 0 0]:=hW9.out;subst e9;exact ZcC rfl rfl rfl (Zam (vs:=[.int .i64 10,.int .i64 at_,.string ⟨#[]⟩,.int .i64 0,.slice none 0 0,.slice (some ⟨W.heap.size,0,none⟩) 3 3,.slice none 0 0]) HA'.out rfl) (.ok (HQ5.out.trans (by rw[R.tell_ok,List.append_nil])) ((F5.out.alloc (.cells #[.int .i64 kLx,.int .i64 aLx,.string nLx,.int .i64 mLx,.slice p4Lx n4Lx c4Lx,.slice p5Lx n5Lx c5Lx,.slice p6Lx n6Lx c6Lx,.int .i64 kLy,.int .i64 aLy,.string nLy,.int .i64 mLy,.slice p4Ly n4Ly c4Ly,.slice p5Ly n5Ly c5Ly,.slice p6Ly n6Ly c6Ly,.int .i64 kLz,.int .i64 aLz,.string nLz,.int .i64 mLz,.slice p4Lz n4Lz c4Lz,.slice p5Lz n5Lz c5Lz,.slice p6Lz n6Lz c6Lz] 36)).putL (nl _) [.int .i64 10,.int .i64 at_,.string ⟨#[]⟩,.int .i64 0,.slice none 0 0,.slice (some ⟨W.heap.size,0,none⟩) 3 3,.slice none 0 0]) ⟨_,rfl,C4⟩ ((P5.out.alloc (.cells #[.int .i64 kLx,.int .i64 aLx,.string nLx,.int .i64 mLx,.slice p4Lx n4Lx c4Lx,.slice p5Lx n5Lx c5Lx,.slice p6Lx n6Lx c6Lx,.int .i64 kLy,.int .i64 aLy,.string nLy,.int .i64 mLy,.slice p4Ly n4Ly c4Ly,.slice p5Ly n5Ly c5Ly,.slice p6Ly n6Ly c6Ly,.int .i64 kLz,.int .i64 aLz,.string nLz,.int .i64 mLz,.slice p4Lz n4Lz c4Lz,.slice p5Lz n5Lz c5Lz,.slice p6Lz n6Lz c6Lz] 36)).putL HA'.out (by decide) HPB.out [.int .i64 10,.int .i64 at_,.string ⟨#[]⟩,.int .i64 0,.slice none 0 0,.slice (some ⟨W.heap.size,0,none⟩) 3 3,.slice none 0 0]))
theorem ZoT{B M:Nat}{pb:Nat}{all:List Tk}(k d:Nat)(hd64:d≤64)
  (HE:∀w ts told,PS B M w pb all ts told→Calls Tryz.prog 47 #[.pointer (some ⟨pb,0,none⟩),.int .i64 ((d+1:Nat):Int)] w (Post B M w pb all told (vE w.heap.size) (exp k ts)))
  (HT:∀w ts told,PS B M w pb all ts told→Calls Tryz.prog 43 #[.pointer (some ⟨pb,0,none⟩),.int .i64 ((d+1:Nat):Int)] w (Post B M w pb all told (vT w.heap.size) (typ k ts)))
  (at_:Nat)
  (w:World) (ts:List Tk) (told:List Dn) (h:PS B M w pb all ts told) :
  Calls Tryz.prog 89 #[.pointer (some ⟨pb,0,none⟩),.int .i64 at_,.int .i64 d] w (Post B M w pb all told (vE w.heap.size) (funP (typ k) (exp k) at_ ts)):=by
 have HE:=Hd HE;have HT:=Hd HT;have HPB:=Hd h.lt;have P0:=Hd (h.alloc zE).nil;have A0:=Hd (show (w.alloc zE).heap[w.heap.size]?=some zE from hN w zE);have F0:=Hd ((Fr.refl B w).alloc zE);have Z0:=Hd (show w.heap.size<(w.alloc zE).heap.size by simp);clear h;obtain⟨res,hres⟩:=eX (funP (typ k) (exp k) at_ ts);rw[←hres];have HQ0:=Hd (ZjZ (hres.trans (by rw[funP])));clear hres;have HD:=Hd (show ((d:Int)+1)=((d+1:Nat):Int) by omega);go_enter Tryz.func89,Tryz.ntmps89
 go_wp2_with fail
 refine (ZaU P0.out [40]).mono ?_;rintro e w1 ⟨f1,h1⟩;cases hr1:want [40] ts with
 | bad y r d=>
  rw[hr1] at h1;obtain⟨rfl,p1⟩:=h1;go_wp2_with fail
  exact Zap rfl (.bad (HQ0.out.trans (by rw[hr1,R.bind_bad,R.tell_bad])) (F0.out.trans f1) p1.assoc)
 | ok x1 r1 d1=>
 rw[hr1] at h1;obtain⟨h1,p1⟩:=h1;cases h1;have HQ1:=Hd (HQ0.out.trans (by rw[hr1,R.bind_ok,R.tell_tell]));have P1:=Hd p1.assoc;have F1:=Hd (F0.out.trans f1);have A1:=Hd (f1.cells A0.out (by decide));have Z1:=Hd (ll Z0.out f1.size);clear hr1 p1 f1 HQ0 P0 F0 A0 Z0;go_wp2_with fail
 refine (ZbW P1.out).mono ?_;rintro e w2 ⟨f2,h2⟩;cases hr2:Zaj r1 with
 | bad y r d=>
  rw[hr2] at h2;obtain⟨rfl,p2⟩:=h2;go_wp2_with fail
  exact Zap rfl (.bad (HQ1.out.trans (by rw[hr2,R.bind_bad,R.tell_bad])) (F1.out.trans f2) p2.assoc)
 | ok nm r2 d2=>
 rw[hr2] at h2;obtain⟨h2,p2⟩:=h2;cases h2;unfold tokV;have HQ2:=Hd (HQ1.out.trans (by rw[hr2,R.bind_ok,R.tell_tell]));have P2:=Hd (p2.assoc.alloc (.cells #[.int .i64 nm.k,.int .i64 nm.a,.string ⟨nm.t.toArray⟩] 105));have F2:=Hd ((F1.out.trans f2).alloc (.cells #[.int .i64 nm.k,.int .i64 nm.a,.string ⟨nm.t.toArray⟩] 105));have A2:=Hd (Zab (f2.cells A1.out (by decide)) (.cells #[.int .i64 nm.k,.int .i64 nm.a,.string ⟨nm.t.toArray⟩] 105));have hz2:=ll Z1.out f2.size;have Z2:=Hd (show w.heap.size<(w2.alloc (.cells #[.int .i64 nm.k,.int .i64 nm.a,.string ⟨nm.t.toArray⟩] 105)).heap.size by simp;omega);have Ln2:=Hd (Lv.newTok hz2 nm);clear hr2 p2 f2 HQ1 P1 F1 A1 Z1;clear hz2;go_wp2_with fail
 refine (ZaU P2.out [58]).mono ?_;rintro e w3 ⟨f3,h3⟩;cases hr3:want [58] r2 with
 | bad y r d=>
  rw[hr3] at h3;obtain⟨rfl,p3⟩:=h3;go_wp2_with fail
  exact Zap rfl (.bad (HQ2.out.trans (by rw[hr3,R.bind_bad,R.tell_bad])) (F2.out.trans f3) p3.assoc)
 | ok x3 r3 d3=>
 rw[hr3] at h3;obtain⟨h3,p3⟩:=h3;cases h3;have HQ3:=Hd (HQ2.out.trans (by rw[hr3,R.bind_ok,R.tell_tell]));have P3:=Hd p3.assoc;have F3:=Hd (F2.out.trans f3);have A3:=Hd (f3.cells A2.out (by decide));have Z3:=Hd (ll Z2.out f3.size);have Ln3:=Hd (Ln2.out.fr f3);clear hr3 p3 f3 HQ2 P2 F2 A2 Z2 Ln2;go_wp2_with fail
 rw[HD.out];refine (HT.out _ _ _ P3.out).mono ?_;rintro e w4 ⟨f4,h4⟩;cases hr4:typ k r3 with
 | bad y r d=>
  rw[hr4] at h4;obtain⟨rfl,p4⟩:=h4;go_wp2_with fail
  exact Zap rfl (.bad (HQ3.out.trans (by rw[hr4,R.bind_bad,R.tell_bad])) (F3.out.trans f4) p4.assoc)
 | ok t r4 d4=>
 rw[hr4] at h4;obtain⟨⟨cs4,rfl,hcs4⟩,p4⟩:=h4;obtain⟨kLt,nLt,p2Lt,n2Lt,c2Lt,p3Lt,n3Lt,c3Lt,rfl⟩:=Zbq hcs4;have HQ4:=Hd (HQ3.out.trans (by rw[hr4,R.bind_ok,R.tell_tell]));have P4:=Hd (p4.assoc.alloc (.cells #[.int .i64 kLt,.string nLt,.slice p2Lt n2Lt c2Lt,.slice p3Lt n3Lt c3Lt] 26));have F4:=Hd ((F3.out.trans f4).alloc (.cells #[.int .i64 kLt,.string nLt,.slice p2Lt n2Lt c2Lt,.slice p3Lt n3Lt c3Lt] 26));have A4:=Hd (Zab (f4.cells A3.out (by decide)) (.cells #[.int .i64 kLt,.string nLt,.slice p2Lt n2Lt c2Lt,.slice p3Lt n3Lt c3Lt] 26));have hz4:=ll Z3.out f4.size;have Z4:=Hd (show w.heap.size<(w4.alloc (.cells #[.int .i64 kLt,.string nLt,.slice p2Lt n2Lt c2Lt,.slice p3Lt n3Lt c3Lt] 26)).heap.size by simp;omega);have Lt4:=Hd (Lv.new (t:=26) (by decide) hz4 Z3.out hcs4);have Ln4:=Hd ((Ln3.out.fr f4).alloc (.cells #[.int .i64 kLt,.string nLt,.slice p2Lt n2Lt c2Lt,.slice p3Lt n3Lt c3Lt] 26));clear hr4 p4 f4 HQ3 P3 F3 A3 Z3 Ln3;clear hz4 hcs4;go_wp2_with fail
 refine (ZaU P4.out [41]).mono ?_;rintro e w5 ⟨f5,h5⟩;cases hr5:want [41] r4 with
 | bad y r d=>
  rw[hr5] at h5;obtain⟨rfl,p5⟩:=h5;go_wp2_with fail
  exact Zap rfl (.bad (HQ4.out.trans (by rw[hr5,R.bind_bad,R.tell_bad])) (F4.out.trans f5) p5.assoc)
 | ok x5 r5 d5=>
 rw[hr5] at h5;obtain⟨h5,p5⟩:=h5;cases h5;have HQ5:=Hd (HQ4.out.trans (by rw[hr5,R.bind_ok,R.tell_tell]));have P5:=Hd p5.assoc;have F5:=Hd (F4.out.trans f5);have A5:=Hd (f5.cells A4.out (by decide));have Z5:=Hd (ll Z4.out f5.size);have Ln5:=Hd (Ln4.out.fr f5);have Lt5:=Hd (Lt4.out.fr f5);clear hr5 p5 f5 HQ4 P4 F4 A4 Z4 Ln4 Lt4;go_wp2_with fail
 rw[HD.out];refine (HE.out _ _ _ P5.out).mono ?_;rintro e w6 ⟨f6,h6⟩;cases hr6:exp k r5 with
 | bad y r d=>
  rw[hr6] at h6;obtain⟨rfl,p6⟩:=h6;go_wp2_with fail
  exact Zap rfl (.bad (HQ5.out.trans (by rw[hr6,R.bind_bad,R.tell_bad])) (F5.out.trans f6) p6.assoc)
 | ok x r6 d6=>
 rw[hr6] at h6;obtain⟨⟨cs6,rfl,hcs6⟩,p6⟩:=h6;obtain⟨kLx,aLx,nLx,mLx,p4Lx,n4Lx,c4Lx,p5Lx,n5Lx,c5Lx,p6Lx,n6Lx,c6Lx,rfl⟩:=ZaT hcs6;have HQ6:=Hd (HQ5.out.trans (by rw[hr6,R.bind_ok,R.tell_tell]));have P6:=Hd (p6.assoc.alloc (.cells #[.int .i64 kLx,.int .i64 aLx,.string nLx,.int .i64 mLx,.slice p4Lx n4Lx c4Lx,.slice p5Lx n5Lx c5Lx,.slice p6Lx n6Lx c6Lx] 36));have F6:=Hd ((F5.out.trans f6).alloc (.cells #[.int .i64 kLx,.int .i64 aLx,.string nLx,.int .i64 mLx,.slice p4Lx n4Lx c4Lx,.slice p5Lx n5Lx c5Lx,.slice p6Lx n6Lx c6Lx] 36));have A6:=Hd (Zab (f6.cells A5.out (by decide)) (.cells #[.int .i64 kLx,.int .i64 aLx,.string nLx,.int .i64 mLx,.slice p4Lx n4Lx c4Lx,.slice p5Lx n5Lx c5Lx,.slice p6Lx n6Lx c6Lx] 36));have hz6:=ll Z5.out f6.size;have Z6:=Hd (show w.heap.size<(w6.alloc (.cells #[.int .i64 kLx,.int .i64 aLx,.string nLx,.int .i64 mLx,.slice p4Lx n4Lx c4Lx,.slice p5Lx n5Lx c5Lx,.slice p6Lx n6Lx c6Lx] 36)).heap.size by simp;omega);have Lx6:=Hd (Lv.new (t:=36) (by decide) hz6 Z5.out hcs6);have Ln6:=Hd ((Ln5.out.fr f6).alloc (.cells #[.int .i64 kLx,.int .i64 aLx,.string nLx,.int .i64 mLx,.slice p4Lx n4Lx c4Lx,.slice p5Lx n5Lx c5Lx,.slice p6Lx n6Lx c6Lx] 36));have Lt6:=Hd ((Lt5.out.fr f6).alloc (.cells #[.int .i64 kLx,.int .i64 aLx,.string nLx,.int .i64 mLx,.slice p4Lx n4Lx c4Lx,.slice p5Lx n5Lx c5Lx,.slice p6Lx n6Lx c6Lx] 36));clear hr6 p6 f6 HQ5 P5 F5 A5 Z5 Ln5 Lt5;clear hz6 hcs6;go_upto_region 7 with fail
 obtain⟨W,hW⟩:=eY (w6.alloc (.cells #[.int .i64 kLx,.int .i64 aLx,.string nLx,.int .i64 mLx,.slice p4Lx n4Lx c4Lx,.slice p5Lx n5Lx c5Lx,.slice p6Lx n6Lx c6Lx] 36));rw[hW] at P6 F6 A6 Z6 Ln6 Lt6 Lx6;rw[hW];clear hW;obtain⟨⟨ga0,ga1,ga2⟩,-⟩:=Zan (show Thr W _ 105 (.int .i64 nm.k) (.int .i64 nm.a) (.string ⟨nm.t.toArray⟩) from Ln6.out.blk);obtain⟨⟨gb0,gb1,gb2,gb3⟩,-⟩:=Zae (show Fou W _ 26 (.int .i64 kLt) (.string nLt) (.slice p2Lt n2Lt c2Lt) (.slice p3Lt n3Lt c3Lt) from Lt6.out.blk);obtain⟨⟨gc0,gc1,gc2,gc3,gc4,gc5,gc6⟩,-⟩:=Zai (show Sev W _ 36 (.int .i64 kLx) (.int .i64 aLx) (.string nLx) (.int .i64 mLx) (.slice p4Lx n4Lx c4Lx) (.slice p5Lx n5Lx c5Lx) (.slice p6Lx n6Lx c6Lx) from Lx6.out.blk);have hla:w2.heap.size<W.heap.size:=(gE Ln6.out.blk).1;have hna:¬w2.heap.size=W.heap.size:=Nat.ne_of_lt hla;have hlb:w4.heap.size<W.heap.size:=(gE Lt6.out.blk).1;have hnb:¬w4.heap.size=W.heap.size:=Nat.ne_of_lt hlb;have hlc:w6.heap.size<W.heap.size:=(gE Lx6.out.blk).1;have hnc:¬w6.heap.size=W.heap.size:=Nat.ne_of_lt hlc;have HA':=Hd (show ((W.alloc (.cells #[.int .i64 kLx,.int .i64 aLx,.string nLx,.int .i64 mLx,.slice p4Lx n4Lx c4Lx,.slice p5Lx n5Lx c5Lx,.slice p6Lx n6Lx c6Lx] 36)).alloc (.cells #[.int .i64 kLt,.string nLt,.slice p2Lt n2Lt c2Lt,.slice p3Lt n3Lt c3Lt] 26)).heap[w.heap.size]?=some zE from (Zab (Zab A6.out (.cells #[.int .i64 kLx,.int .i64 aLx,.string nLx,.int .i64 mLx,.slice p4Lx n4Lx c4Lx,.slice p5Lx n5Lx c5Lx,.slice p6Lx n6Lx c6Lx] 36)) (.cells #[.int .i64 kLt,.string nLt,.slice p2Lt n2Lt c2Lt,.slice p3Lt n3Lt c3Lt] 26)));have HTH:=Hd (Zaf HA'.out rfl);have hz0:w.heap.size<W.heap.size:=Z6.out;go_wp2_with (first | (refine Zaa rfl 36 (.tmp 6) (.tmp 33) rfl w.heap.size _ rfl rfl HTH.out Zbi (all_oneCell_toArray (by simp[Value.oneCell'])) ?_;intro W9 hW9))
 have CC:IsCs (fun b=>w.heap.size<b) W (Zaw 26 36 [x]) [.int .i64 kLx,.int .i64 aLx,.string nLx,.int .i64 mLx,.slice p4Lx n4Lx c4Lx,.slice p5Lx n5Lx c5Lx,.slice p6Lx n6Lx c6Lx]:=by
  have:=Lx6.out.data
  simpa[Zaw] using this
 have C2:=ZaK (e:=36) (size:=7) (n:=1) (g:=W.heap.size) (by decide) rfl hz0 (by decide) rfl CC;have TC:IsCs (fun b=>w.heap.size<b) W (Zau 26 [t]) [.int .i64 kLt,.string nLt,.slice p2Lt n2Lt c2Lt,.slice p3Lt n3Lt c3Lt]:=by
  have:=Lt6.out.data
  simpa[Zau] using this
 have T2:=ZaK (e:=26) (size:=4) (n:=1) (g:=W.heap.size+1) (by decide) (World.size_alloc W (.cells #[.int .i64 kLx,.int .i64 aLx,.string nLx,.int .i64 mLx,.slice p4Lx n4Lx c4Lx,.slice p5Lx n5Lx c5Lx,.slice p6Lx n6Lx c6Lx] 36)) (by omega) (by decide) rfl (TC.below ((Below.refl _ _).alloc (nl _) (.cells #[.int .i64 kLx,.int .i64 aLx,.string nLx,.int .i64 mLx,.slice p4Lx n4Lx c4Lx,.slice p5Lx n5Lx c5Lx,.slice p6Lx n6Lx c6Lx] 36)));have C2:=C2.below ((Below.refl _ _).alloc (nl _) (.cells #[.int .i64 kLt,.string nLt,.slice p2Lt n2Lt c2Lt,.slice p3Lt n3Lt c3Lt] 26));have C3:=IsCs.cons (IsC.num _ _ 8) (IsCs.cons (IsC.num _ _ at_) (IsCs.cons (IsC.str _ _ nm.t) (IsCs.cons (IsC.num _ _ 0) (IsCs.cons (IsC.none _ _ 1 (e:=9) (by decide)) (IsCs.cons C2 (IsCs.cons (T2) (IsCs.nil _ _)))))));have C4:IsCs (fun b=>w.heap.size≤b) (putL ((W.alloc (.cells #[.int .i64 kLx,.int .i64 aLx,.string nLx,.int .i64 mLx,.slice p4Lx n4Lx c4Lx,.slice p5Lx n5Lx c5Lx,.slice p6Lx n6Lx c6Lx] 36)).alloc (.cells #[.int .i64 kLt,.string nLt,.slice p2Lt n2Lt c2Lt,.slice p3Lt n3Lt c3Lt] 26)) w.heap.size [.int .i64 8,.int .i64 at_,.string ⟨nm.t.toArray⟩,.int .i64 0,.slice none 0 0,.slice (some ⟨W.heap.size,0,none⟩) 1 1,.slice (some ⟨W.heap.size+1,0,none⟩) 1 1]) (encE 26 36 (.mk 8 at_ nm.t 0 [] [x] [t])) [.int .i64 8,.int .i64 at_,.string ⟨nm.t.toArray⟩,.int .i64 0,.slice none 0 0,.slice (some ⟨W.heap.size,0,none⟩) 1 1,.slice (some ⟨W.heap.size+1,0,none⟩) 1 1]:=(C3.putL w.heap.size (fun b hb=>Nat.ne_of_gt hb) [.int .i64 8,.int .i64 at_,.string ⟨nm.t.toArray⟩,.int .i64 0,.slice none 0 0,.slice (some ⟨W.heap.size,0,none⟩) 1 1,.slice (some ⟨W.heap.size+1,0,none⟩) 1 1]).mono (fun b _ hb=>Nat.le_of_lt hb);have e9:W9=putL ((W.alloc (.cells #[.int .i64 kLx,.int .i64 aLx,.string nLx,.int .i64 mLx,.slice p4Lx n4Lx c4Lx,.slice p5Lx n5Lx c5Lx,.slice p6Lx n6Lx c6Lx] 36)).alloc (.cells #[.int .i64 kLt,.string nLt,.slice p2Lt n2Lt c2Lt,.slice p3Lt n3Lt c3Lt] 26)) w.heap.size [.int .i64 8,.int .i64 at_,.string ⟨nm.t.toArray⟩,.int .i64 0,.slice none 0 0,.slice (some ⟨W.heap.size,0,none⟩) 1 1,.slice (some ⟨W.heap.size+1,0,none⟩) 1 1]:=hW9.out;subst e9;exact ZcC rfl rfl rfl (Zam (vs:=[.int .i64 8,.int .i64 at_,.string ⟨nm.t.toArray⟩,.int .i64 0,.slice none 0 0,.slice (some ⟨W.heap.size,0,none⟩) 1 1,.slice (some ⟨W.heap.size+1,0,none⟩) 1 1]) HA'.out rfl) (.ok (HQ6.out.trans (by rw[R.tell_ok,List.append_nil])) (((F6.out.alloc (.cells #[.int .i64 kLx,.int .i64 aLx,.string nLx,.int .i64 mLx,.slice p4Lx n4Lx c4Lx,.slice p5Lx n5Lx c5Lx,.slice p6Lx n6Lx c6Lx] 36)).alloc (.cells #[.int .i64 kLt,.string nLt,.slice p2Lt n2Lt c2Lt,.slice p3Lt n3Lt c3Lt] 26)).putL (nl _) [.int .i64 8,.int .i64 at_,.string ⟨nm.t.toArray⟩,.int .i64 0,.slice none 0 0,.slice (some ⟨W.heap.size,0,none⟩) 1 1,.slice (some ⟨W.heap.size+1,0,none⟩) 1 1]) ⟨_,rfl,C4⟩ (((P6.out.alloc (.cells #[.int .i64 kLx,.int .i64 aLx,.string nLx,.int .i64 mLx,.slice p4Lx n4Lx c4Lx,.slice p5Lx n5Lx c5Lx,.slice p6Lx n6Lx c6Lx] 36)).alloc (.cells #[.int .i64 kLt,.string nLt,.slice p2Lt n2Lt c2Lt,.slice p3Lt n3Lt c3Lt] 26)).putL HA'.out (by decide) HPB.out [.int .i64 8,.int .i64 at_,.string ⟨nm.t.toArray⟩,.int .i64 0,.slice none 0 0,.slice (some ⟨W.heap.size,0,none⟩) 1 1,.slice (some ⟨W.heap.size+1,0,none⟩) 1 1]))
def NumT (l:Bs):Prop:=l≠[]∧l.length≤18∧∀c∈l,48≤c.toNat∧c.toNat≤57
theorem ZeH:∀(l:Bs) (acc k:Nat),(∀c∈l,48≤c.toNat∧c.toNat≤57)→acc<10 ^ k→k+l.length≤18→Lib.parseUintM (2 ^ 64-1) acc l=.ok (l.foldl (fun n c=>10*n+(c.toNat-48)) acc)∧l.foldl (fun n c=>10*n+(c.toNat-48)) acc<10 ^ 18
 | [],acc,k,_,ha,hk=>by
  refine⟨rfl,ll ha (Nat.pow_le_pow_right (by decide) (by simpa using hk))⟩
 | c::r,acc,k,hd,ha,hk=>by
  obtain⟨h1,h2⟩:=hd c List.mem_cons_self;have hk':k≤17:=by simp at hk;omega
  have hp:10 ^ k≤10 ^ 17:=Nat.pow_le_pow_right (by decide) hk';have h17:(10:Nat) ^ 17=100000000000000000:=by decide
  have ha':acc*10+(c.toNat-48)<10 ^ (k+1):=by rw[Nat.pow_succ];omega
  have ih:=ZeH r (acc*10+(c.toNat-48)) (k+1) (fun x hx=>hd x (List.mem_cons_of_mem _ hx)) ha' (by simp at hk;omega);rw[Nat.mul_comm acc 10] at ih;rw[Lib.parseUintM,if_pos ⟨h1,h2⟩,if_neg (by omega),if_neg (by omega),List.foldl_cons,Nat.mul_comm acc 10];exact ih
theorem Zjr{l:Bs}(h:NumT l):Lib.parseIntB 64 l=.ok (ZbM l:Nat):=by
 obtain⟨h1,h2,h3⟩:=h;obtain⟨a1,a2⟩:=ZeH l 0 0 h3 (by decide) (by omega);cases l with
 | nil=>exact absurd rfl h1
 | cons c r=>
  obtain⟨c1,c2⟩:=h3 c List.mem_cons_self;have h18:(10:Nat) ^ 18=1000000000000000000:=by decide
  rw[h18] at a2;rw[Lib.parseIntB,if_neg (by omega),Lib.parseUintB,if_neg (by simp),a1];simp only;rw[if_neg (by rintro ⟨_,h⟩;omega),if_neg (by rintro ⟨h,_⟩;omega),if_neg (by omega)];rfl
theorem Zop (l:Bs)(h:NumT l)(w:World):Calls Tryz.prog 168 #[.string ⟨l.toArray⟩] w fun e w'=>e=.returned (.int .i64 (ZbM l:Nat))∧Below w.heap.size w w':=by
 have HC:=Hd (strconv_ParseInt_10_at64_ok ⟨l.toArray⟩ (by rw[Lib.size_eq];have:=h.2.1;simp;omega) (ZbM l:Nat) (by simpa using Zjr h) w)
 generalize (ZbM l:Int)=n at HC⊢
 clear h;go_enter Tryz.func168,Tryz.ntmps168
 go_wp2_with fail
 refine HC.out.mono ?_;rintro e w1 ⟨rfl,h1⟩;have B1:Hid (Below w.heap.size w w1):=by
  rcases h1 with rfl | ⟨t,rfl⟩
  ·exact Below.refl _ _
  ·exact Lib.bytesWorld_below w 5 t
 clear h1;go_wp2_with fail
 go_ret
 exact⟨rfl,B1.out⟩
theorem ZeF (A:Nat→Prop)(w:World)(k a:Nat)(n:Bs)(m:Nat):IsCs A w (encE 26 36 (.mk k a n m [] [] [])) [.int .i64 k,.int .i64 a,.string ⟨n.toArray⟩,.int .i64 m,.slice none 0 0,.slice none 0 0,.slice none 0 0]:=by
 simp only[encE,Zaw,Zau,List.map_nil,lN];exact .cons (.num _ _ _) (.cons (.num _ _ _) (.cons (.str _ _ _) (.cons (.num _ _ _) (.cons (.none _ _ _ (by decide)) (.cons (.none _ _ _ (by decide)) (.cons (.none _ _ _ (by decide)) (.nil _ _)))))))
theorem ZdE{B M:Nat}{w W:World}{pb:Nat}{all:List Tk}{told:List Dn}{res:R PE}{x:PE}{r:List Tk}{d:List Dn}{cs:List Value}(hq:res=.ok x r d)(hA:W.heap[w.heap.size]?=some zE)(hF:Fr B w W)(hP:PS B M W pb all r (told++d))(hpb:pb<w.heap.size)(hc:IsCs (fun b=>w.heap.size<b) W (encE 26 36 x) cs) :
  Post B M w pb all told (vE w.heap.size) res (.returned (.agg cs.toArray)) (putL W w.heap.size cs):=
 .ok hq (hF.putL (nl _) cs) ⟨cs,rfl,(hc.putL _ (fun b hb=>Nat.ne_of_gt hb) cs).mono (fun b _ hb=>Nat.le_of_lt hb)⟩ (hP.putL hA (by decide) hpb cs)
theorem ZlG{B M:Nat}{pb:Nat}{all:List Tk}(k d:Nat)(_hd64:d≤64)
  (hnum:∀t∈all,t.k=3→NumT t.t)
  (HR:∀(a:Nat) w ts told,PS B M w pb all ts told→Calls Tryz.prog 169 #[.pointer (some ⟨pb,0,none⟩),.int .i64 a,.int .i64 d] w (Post B M w pb all told (vE w.heap.size) ((Zbh [61] (exp k) ts).bind fun fs r=>.ok (recE a fs) r [])))
  (HB:∀(a:Nat) w ts told,PS B M w pb all ts told→Calls Tryz.prog 170 #[.pointer (some ⟨pb,0,none⟩),.int .i64 a,.int .i64 d] w (Post B M w pb all told (vE w.heap.size) ((exp k ts).bind fun e r=>if isM [58] r then (typ k r.tail).bind fun t r=>(want [41] r).bind fun _ r=>.ok (.mk 11 a [] 0 [] [e] [t]) r [] else (want [41] r).bind fun _ r=>.ok e r [])))
  (w:World) (ts:List Tk) (told:List Dn) (h:PS B M w pb all ts told) :
  Calls Tryz.prog 137 #[.pointer (some ⟨pb,0,none⟩),.int .i64 d] w (Post B M w pb all told (vE w.heap.size) (Za0 (typ k) (exp k) ts)):=by
 have HR:=Hd HR;have HB:=Hd HB;have HPB:=Hd h.lt;have HNUM:=Hd (hnum _ h.hd_mem);have HN:=Hd (Zcl (h.alloc zE));have P0:=Hd (h.alloc zE);have A0:=Hd (show (w.alloc zE).heap[w.heap.size]?=some zE from hN w zE);have F0:=Hd ((Fr.refl B w).alloc zE);clear h hnum;obtain⟨res,hres⟩:=eX (Za0 (typ k) (exp k) ts);rw[←hres];have HQ:=Hd hres;clear hres;obtain⟨t,ht⟩:=eX (hd ts);have HT:=Hd ht;rw[←ht] at HN HNUM;clear ht;by_cases h3:t.k=3
 ·have HK:=Hd (show (hd ts).k≠6 by rw[←HT.out];omega);have HW:=Hd (show res=.ok (.mk 1 t.a [] (ZbM t.t) [] [] []) ts.tail [] by rw[HQ.out];simp[Za0,←HT.out,h3]);have HNU:=Hd (HNUM.out h3);go_enter Tryz.func137,Tryz.ntmps137
  go_wp2_with fail
  refine HN.out.mono ?_;rintro e w1 ⟨rfl,b1⟩;have A1:=Hd ((b1.block _ (by simp)).trans A0.out);have F1:=Hd (F0.out.below b1);have P1:=Hd (P0.out.below b1);have HLT:=Hd (show w.heap.size<w1.heap.size by have:=b1.size;simp at this;omega);clear b1 A0 F0 P0;unfold tokV;have e3:(t.k:Int)=3:=by omega
  have f3:((t.k:Int)==3)=true:=by simpa using e3
  clear h3;go_wp2_with fail
  refine (ZcS (P1.out.alloc _) HK.out).mono ?_;rintro e w2 ⟨rfl,p2,f2⟩;have A2:=Hd (f2.cells (Zab A1.out _) (by decide));have F2:=Hd ((F1.out.alloc _).trans f2);have P2:=Hd p2;have T2:Thr w2 w1.heap.size 105 _ _ _:=f2.cells (ZaI w1 105 _ _ _) (by decide);have TH:=Hd T2;clear p2 f2 A1 F1 P1 T2;go_upto_region 5 with fail
  obtain⟨⟨t0,t1,t2⟩,-⟩:=Zan (t:=105) TH.out;have hn0:¬w1.heap.size=w.heap.size:=Nat.ne_of_gt HLT.out;have hn1:¬w.heap.size=w1.heap.size:=Nat.ne_of_lt HLT.out;have HC:Hid (∀W,Drawn w2 W→Calls Tryz.prog 168 #[.string ⟨t.t.toArray⟩] W fun e w'=>e=.returned (.int .i64 (ZbM t.t:Nat))∧Below w2.heap.size w2 w'):=by
   rintro W ⟨e1,e2,e3,e4⟩;refine (Zop t.t HNU.out W).mono ?_;rintro e w' ⟨rfl,b⟩;rw[e1] at b;exact⟨rfl,⟨b.os.trans e2,b.tape.trans e3,b.output.trans e4,by have:=b.size;rw[e1] at this;exact this,fun k hk=>(b.block k hk).trans (by rw[e1])⟩⟩
  go_region_held3 (fun w'=>w'.cell? ⟨w1.heap.size,1,none⟩=some (.int .i64 t.a)∧w'.cell? ⟨w1.heap.size,2,none⟩=some (.string ⟨t.t.toArray⟩)) (go_keep)
   (first | (go_at_call 168;refine (HC.out _ ?_).mono ?_;exact⟨rfl,rfl,rfl,rfl⟩;rintro e w5 ⟨rfl,b5⟩;(have T5:Thr w5 w1.heap.size 105 _ _ _:=(b5.block _ (gE TH.out).1).trans TH.out);obtain⟨⟨s0,s1,s2⟩,-⟩:=Zan T5;(have hA5:=(b5.block _ (gE A2.out).1).trans A2.out);obtain⟨⟨q0,q1,q2,q3,q4,q5,q6⟩,v0,v1,v2,v3,v4,v5,v6⟩:=Zai (t:=36) hA5;(have A5:=Hd hA5);(have F5:=Hd (F2.out.below b5));(have P5:=Hd (P2.out.below b5));clear b5 T5 hA5))
  all_goals
   go_wp2_with fail
   exact ZcC rfl rfl rfl (Zam (vs:=[_,_,_,_,_,_,_]) A5.out rfl) (ZdE HW.out A5.out F5.out P5.out.nil HPB.out (ZeF _ _ 1 t.a [] (ZbM t.t)))
 by_cases h4:t.k=4
 ·have HK:=Hd (show (hd ts).k≠6 by rw[←HT.out];omega);have HW:=Hd (show res=.ok (.mk 2 t.a t.t 0 [] [] []) ts.tail [] by rw[HQ.out];simp[Za0,←HT.out,h4]);go_enter Tryz.func137,Tryz.ntmps137
  go_wp2_with fail
  refine HN.out.mono ?_;rintro e w1 ⟨rfl,b1⟩;have A1:=Hd ((b1.block _ (by simp)).trans A0.out);have F1:=Hd (F0.out.below b1);have P1:=Hd (P0.out.below b1);have HLT:=Hd (show w.heap.size<w1.heap.size by have:=b1.size;simp at this;omega);clear b1 A0 F0 P0;unfold tokV;have n3:¬(t.k:Int)=3:=by omega
  have m3:((t.k:Int)==3)=false:=by simpa using n3
  have e4:(t.k:Int)=4:=by omega
  have f4:((t.k:Int)==4)=true:=by simpa using e4
  clear h3 h4;go_wp2_with fail
  refine (ZcS (P1.out.alloc _) HK.out).mono ?_;rintro e w2 ⟨rfl,p2,f2⟩;have A2:=Hd (f2.cells (Zab A1.out _) (by decide));have F2:=Hd ((F1.out.alloc _).trans f2);have P2:=Hd p2;have T2:Thr w2 w1.heap.size 105 _ _ _:=f2.cells (ZaI w1 105 _ _ _) (by decide);obtain⟨⟨t0,t1,t2⟩,-⟩:=Zan T2;have HTH:=Hd (Zaf A2.out rfl);clear p2 f2 A1 F1 P1 T2;go_wp2_with (first | (refine Zaa rfl 36 (.tmp 4) (.tmp 28) rfl (w.heap.size) _ rfl rfl HTH.out Zbi (all_oneCell_toArray (by simp[Value.oneCell'])) ?_;intro W9 hW9))
  have e9:W9=putL w2 w.heap.size [.int .i64 2,.int .i64 t.a,.string ⟨t.t.toArray⟩,.int .i64 0,.slice none 0 0,.slice none 0 0,.slice none 0 0]:=hW9.out;subst e9;exact ZcC rfl rfl rfl (Zam (vs:=[_,_,_,_,_,_,_]) A2.out rfl) (ZdE HW.out A2.out F2.out P2.out.nil HPB.out (ZeF _ _ 2 t.a t.t 0))
 by_cases h1:t.k=1
 ·have HK:=Hd (show (hd ts).k≠6 by rw[←HT.out];omega);have HW:=Hd (show res=.ok (.mk 4 t.a t.t 0 [] [] []) ts.tail [] by rw[HQ.out];simp[Za0,←HT.out,h1]);go_enter Tryz.func137,Tryz.ntmps137
  go_wp2_with fail
  refine HN.out.mono ?_;rintro e w1 ⟨rfl,b1⟩;have A1:=Hd ((b1.block _ (by simp)).trans A0.out);have F1:=Hd (F0.out.below b1);have P1:=Hd (P0.out.below b1);have HLT:=Hd (show w.heap.size<w1.heap.size by have:=b1.size;simp at this;omega);clear b1 A0 F0 P0;unfold tokV;have n3:¬(t.k:Int)=3:=by omega
  have m3:((t.k:Int)==3)=false:=by simpa using n3
  have n4:¬(t.k:Int)=4:=by omega
  have m4:((t.k:Int)==4)=false:=by simpa using n4
  have e1:(t.k:Int)=1:=by omega
  have f1:((t.k:Int)==1)=true:=by simpa using e1
  clear h3 h4 h1;go_wp2_with fail
  refine (ZcS (P1.out.alloc _) HK.out).mono ?_;rintro e w2 ⟨rfl,p2,f2⟩;have A2:=Hd (f2.cells (Zab A1.out _) (by decide));have F2:=Hd ((F1.out.alloc _).trans f2);have P2:=Hd p2;have T2:Thr w2 w1.heap.size 105 _ _ _:=f2.cells (ZaI w1 105 _ _ _) (by decide);obtain⟨⟨t0,t1,t2⟩,-⟩:=Zan T2;have HTH:=Hd (Zaf A2.out rfl);clear p2 f2 A1 F1 P1 T2;go_wp2_with (first | (refine Zaa rfl 36 (.tmp 4) (.tmp 37) rfl (w.heap.size) _ rfl rfl HTH.out Zbi (all_oneCell_toArray (by simp[Value.oneCell'])) ?_;intro W9 hW9))
  have e9:W9=putL w2 w.heap.size [.int .i64 4,.int .i64 t.a,.string ⟨t.t.toArray⟩,.int .i64 0,.slice none 0 0,.slice none 0 0,.slice none 0 0]:=hW9.out;subst e9;exact ZcC rfl rfl rfl (Zam (vs:=[_,_,_,_,_,_,_]) A2.out rfl) (ZdE HW.out A2.out F2.out P2.out.nil HPB.out (ZeF _ _ 4 t.a t.t 0))
 have HK3:=Hd (show ¬(hd ts).k=3 by rw[←HT.out];exact h3);have HK4:=Hd (show ¬(hd ts).k=4 by rw[←HT.out];exact h4);have HK1:=Hd (show ¬(hd ts).k=1 by rw[←HT.out];exact h1);go_enter Tryz.func137,Tryz.ntmps137
 go_wp2_with fail
 refine HN.out.mono ?_;rintro e w1 ⟨rfl,b1⟩;have hA1:=Zab ((b1.block _ (by simp)).trans A0.out) (.cells #[.int .i64 t.k,.int .i64 t.a,.string ⟨t.t.toArray⟩] 105);have A1:=Hd hA1;have F1:=Hd ((F0.out.below b1).alloc (.cells #[.int .i64 t.k,.int .i64 t.a,.string ⟨t.t.toArray⟩] 105));have P1:=Hd ((P0.out.below b1).alloc (.cells #[.int .i64 t.k,.int .i64 t.a,.string ⟨t.t.toArray⟩] 105));have Z1:=Hd (show w.heap.size<w1.heap.size by have:=b1.size;simp at this;omega);have T1:=Hd (show (w1.alloc (.cells #[.int .i64 t.k,.int .i64 t.a,.string ⟨t.t.toArray⟩] 105)).heap[w1.heap.size]?=some (.cells #[.int .i64 t.k,.int .i64 t.a,.string ⟨t.t.toArray⟩] 105) from hN w1 _);clear b1 hA1 A0 F0 P0;unfold tokV;have n3:¬(t.k:Int)=3:=by omega
 have m3:((t.k:Int)==3)=false:=by simpa using n3
 have n4:¬(t.k:Int)=4:=by omega
 have m4:((t.k:Int)==4)=false:=by simpa using n4
 have n1:¬(t.k:Int)=1:=by omega
 have m1:((t.k:Int)==1)=false:=by simpa using n1
 clear h3 h4 h1;go_wp2_with fail
 clear n3 n4 n1 m3 m4 m1;refine (Zay P1.out [116,114,117,101]).mono ?_;rintro e w2 ⟨rfl,p2,f2⟩;have A2:=Hd (f2.cells A1.out (by decide));have F2:=Hd (F1.out.trans f2);have T2:=Hd (f2.cells T1.out (by decide));clear f2 A1 F1 P1 T1;cases hm2:isM [116,114,117,101] ts with
 | true=>
  simp only[hm2,if_true] at p2;have P2:=Hd p2;have HW:=Hd (show res=.ok (.mk 3 t.a [] 1 [] [] []) ts.tail [] by rw[HQ.out];simp[Za0,HK3.out,HK4.out,HK1.out,hm2,HT.out]);obtain⟨⟨t0,t1,t2⟩,-⟩:=Zan (show Thr w2 w1.heap.size 105 (.int .i64 t.k) (.int .i64 t.a) (.string ⟨t.t.toArray⟩) from T2.out);have HTH:=Hd (Zaf A2.out rfl);clear hm2 p2;go_wp2_with (first | (refine Zaa rfl 36 (.tmp 4) (.tmp 43) rfl (w.heap.size) _ rfl rfl HTH.out Zbi (all_oneCell_toArray (by simp[Value.oneCell'])) ?_;intro W9 hW9))
  have e9:W9=putL w2 w.heap.size [.int .i64 3,.int .i64 t.a,.string ⟨#[]⟩,.int .i64 1,.slice none 0 0,.slice none 0 0,.slice none 0 0]:=hW9.out;subst e9;exact ZcC rfl rfl rfl (Zam (vs:=[_,_,_,_,_,_,_]) A2.out rfl) (ZdE HW.out A2.out F2.out P2.out.nil HPB.out (ZeF _ _ 3 t.a [] 1))
 | false=>
 simp only[hm2,ff,if_false] at p2;have P2:=Hd p2;have HM2:=Hd hm2;clear hm2 p2;go_wp2_with fail
 refine (Zay P2.out [102,97,108,115,101]).mono ?_;rintro e w3 ⟨rfl,p3,f3⟩;have A3:=Hd (f3.cells A2.out (by decide));have F3:=Hd (F2.out.trans f3);have T3:=Hd (f3.cells T2.out (by decide));clear f3 A2 F2 P2 T2;cases hm3:isM [102,97,108,115,101] ts with
 | true=>
  simp only[hm3,if_true] at p3;have P3:=Hd p3;have HW:=Hd (show res=.ok (.mk 3 t.a [] 0 [] [] []) ts.tail [] by rw[HQ.out];simp[Za0,HK3.out,HK4.out,HK1.out,HM2.out,hm3,HT.out]);obtain⟨⟨t0,t1,t2⟩,-⟩:=Zan (show Thr w3 w1.heap.size 105 (.int .i64 t.k) (.int .i64 t.a) (.string ⟨t.t.toArray⟩) from T3.out);have HTH:=Hd (Zaf A3.out rfl);clear hm3 p3;go_wp2_with (first | (refine Zaa rfl 36 (.tmp 4) (.tmp 49) rfl (w.heap.size) _ rfl rfl HTH.out Zbi (all_oneCell_toArray (by simp[Value.oneCell'])) ?_;intro W9 hW9))
  have e9:W9=putL w3 w.heap.size [.int .i64 3,.int .i64 t.a,.string ⟨#[]⟩,.int .i64 0,.slice none 0 0,.slice none 0 0,.slice none 0 0]:=hW9.out;subst e9;exact ZcC rfl rfl rfl (Zam (vs:=[_,_,_,_,_,_,_]) A3.out rfl) (ZdE HW.out A3.out F3.out P3.out.nil HPB.out (ZeF _ _ 3 t.a [] 0))
 | false=>
 simp only[hm3,ff,if_false] at p3;have P3:=Hd p3;have HM3:=Hd hm3;clear hm3 p3;go_wp2_with fail
 refine (Zay P3.out [123]).mono ?_;rintro e w4 ⟨rfl,p4,f4⟩;have A4:=Hd (f4.cells A3.out (by decide));have F4:=Hd (F3.out.trans f4);have T4:=Hd (f4.cells T3.out (by decide));clear f4 A3 F3 P3 T3;cases hm4:isM [123] ts with
 | true=>
  simp only[hm4,if_true] at p4;have P4:=Hd p4;have HW:=Hd (show res=((Zbh [61] (exp k) ts.tail).bind fun fs r=>R.ok (recE t.a fs) r []) by rw[HQ.out];simp[Za0,HK3.out,HK4.out,HK1.out,HM2.out,HM3.out,hm4,HT.out]);obtain⟨⟨t0,t1,t2⟩,-⟩:=Zan (show Thr w4 w1.heap.size 105 (.int .i64 t.k) (.int .i64 t.a) (.string ⟨t.t.toArray⟩) from T4.out);clear hm4 p4;go_wp2_with fail
  refine (HR.out t.a _ _ _ P4.out).mono ?_;rintro e w9 ⟨f9,h9⟩;cases hr:((Zbh [61] (exp k) ts.tail).bind fun fs r=>R.ok (recE t.a fs) r []) with
  | bad y rest ds=>
   rw[hr] at h9;obtain⟨rfl,p9⟩:=h9;go_wp2_with fail
   exact Zap rfl (.bad (HW.out.trans hr) (F4.out.trans f9) p9)
  | ok x rest ds=>
   have HW:=Hd (HW.out.trans hr);rw[hr] at h9;obtain⟨⟨cs,rfl,hcs⟩,p9⟩:=h9;obtain⟨ek,ea,en,em,a4,n4,c4,a5,n5,c5,a6,n6,c6,rfl⟩:=ZaT hcs;have A9:=Hd (f9.cells A4.out (by decide));have F9:=Hd (F4.out.trans f9);have P9:=Hd p9;have C9:=Hd (hcs.mono (A':=fun b=>w.heap.size<b) (fun b _ hb=>by have:=ll (gE A4.out).1 hb;omega));have HTH:=Hd (Zaf A9.out rfl);clear hr f9 p9 hcs;go_wp2_with (first | (refine Zaa rfl 36 (.tmp 4) (.tmp 57) rfl (w.heap.size) _ rfl rfl HTH.out Zbi (all_oneCell_toArray (by simp[Value.oneCell'])) ?_;intro W9 hW9))
   have e9:W9=putL w9 w.heap.size [.int .i64 ek,.int .i64 ea,.string en,.int .i64 em,.slice a4 n4 c4,.slice a5 n5 c5,.slice a6 n6 c6]:=hW9.out;subst e9;exact ZcC rfl rfl rfl (Zam (vs:=[_,_,_,_,_,_,_]) A9.out rfl) (ZdE HW.out A9.out F9.out P9.out HPB.out C9.out)
 | false=>
 simp only[hm4,ff,if_false] at p4;have P4:=Hd p4;have HM4:=Hd hm4;clear hm4 p4;go_wp2_with fail
 refine (Zay P4.out [40]).mono ?_;rintro e w5 ⟨rfl,p5,f5⟩;have A5:=Hd (f5.cells A4.out (by decide));have F5:=Hd (F4.out.trans f5);have T5:=Hd (f5.cells T4.out (by decide));clear f5 A4 F4 P4 T4;cases hm5:isM [40] ts with
 | true=>
  simp only[hm5,if_true] at p5;have P5:=Hd p5;have HW:=Hd (show res=((exp k ts.tail).bind fun e r=>if isM [58] r then (typ k r.tail).bind fun t2 r=>(want [41] r).bind fun _ r=>.ok (.mk 11 t.a [] 0 [] [e] [t2]) r [] else (want [41] r).bind fun _ r=>.ok e r []) by rw[HQ.out];simp[Za0,HK3.out,HK4.out,HK1.out,HM2.out,HM3.out,HM4.out,hm5,HT.out]);obtain⟨⟨t0,t1,t2⟩,-⟩:=Zan (show Thr w5 w1.heap.size 105 (.int .i64 t.k) (.int .i64 t.a) (.string ⟨t.t.toArray⟩) from T5.out);clear hm5 p5;go_wp2_with fail
  refine (HB.out t.a _ _ _ P5.out).mono ?_;rintro e w9 ⟨f9,h9⟩;cases hr:((exp k ts.tail).bind fun e r=>if isM [58] r then (typ k r.tail).bind fun t2 r=>(want [41] r).bind fun _ r=>.ok (.mk 11 t.a [] 0 [] [e] [t2]) r [] else (want [41] r).bind fun _ r=>.ok e r []) with
  | bad y rest ds=>
   rw[hr] at h9;obtain⟨rfl,p9⟩:=h9;go_wp2_with fail
   exact Zap rfl (.bad (HW.out.trans hr) (F5.out.trans f9) p9)
  | ok x rest ds=>
   have HW:=Hd (HW.out.trans hr);rw[hr] at h9;obtain⟨⟨cs,rfl,hcs⟩,p9⟩:=h9;obtain⟨ek,ea,en,em,a4,n4,c4,a5,n5,c5,a6,n6,c6,rfl⟩:=ZaT hcs;have A9:=Hd (f9.cells A5.out (by decide));have F9:=Hd (F5.out.trans f9);have P9:=Hd p9;have C9:=Hd (hcs.mono (A':=fun b=>w.heap.size<b) (fun b _ hb=>by have:=ll (gE A5.out).1 hb;omega));have HTH:=Hd (Zaf A9.out rfl);clear hr f9 p9 hcs;go_wp2_with (first | (refine Zaa rfl 36 (.tmp 4) (.tmp 65) rfl (w.heap.size) _ rfl rfl HTH.out Zbi (all_oneCell_toArray (by simp[Value.oneCell'])) ?_;intro W9 hW9))
   have e9:W9=putL w9 w.heap.size [.int .i64 ek,.int .i64 ea,.string en,.int .i64 em,.slice a4 n4 c4,.slice a5 n5 c5,.slice a6 n6 c6]:=hW9.out;subst e9;exact ZcC rfl rfl rfl (Zam (vs:=[_,_,_,_,_,_,_]) A9.out rfl) (ZdE HW.out A9.out F9.out P9.out HPB.out C9.out)
 | false=>
 simp only[hm5,ff,if_false] at p5;have P5:=Hd p5;have HM5:=Hd hm5;clear hm5 p5;go_wp2_with fail
 have HW:=Hd (show res=.bad (syn ts) ts [] by rw[HQ.out];simp[Za0,HK3.out,HK4.out,HK1.out,HM2.out,HM3.out,HM4.out,HM5.out]);refine (ZbX P5.out).mono ?_;rintro e w9 ⟨rfl,b9⟩;unfold gvV;go_wp2_with fail
 exact Zap rfl (.bad HW.out (F5.out.below b9) (P5.out.below b9).nil)
theorem clos_E{B M:Nat}{pb:Nat}{all:List Tk}(k d:Nat)(hd64:d≤64)
  (HT:∀w ts told,PS B M w pb all ts told→Calls Tryz.prog 47 #[.pointer (some ⟨pb,0,none⟩),.int .i64 ((d+1:Nat):Int)] w (Post B M w pb all told (vE w.heap.size) (exp k ts)))
  (b0 b1:Nat) (w:World) (ts:List Tk) (told:List Dn) (h:PS B M w pb all ts told) (hb:Bx2 pb b0 b1 d w) :
  Calls Tryz.prog 199 #[.pointer (some ⟨b0,0,none⟩),.pointer (some ⟨b1,0,none⟩)] w (Post B M w pb all told (vE w.heap.size) (exp k ts)):=by
 have HT:=Hd HT;have HPB:=Hd h.lt;have P0:=Hd (h.alloc zE);have A0:=Hd (show (w.alloc zE).heap[w.heap.size]?=some zE from hN w zE);have F0:=Hd ((Fr.refl B w).alloc zE);obtain⟨h0,h1⟩:=hb;have c0:w.cell? ⟨b0,0,none⟩=some (.pointer (some ⟨pb,0,none⟩)):=by simp[World.cell?,h0]
 have c1:w.cell? ⟨b1,0,none⟩=some (.int .i64 d):=by simp[World.cell?,h1]
 have l0:b0<w.heap.size:=(gE h0).1;have l1:b1<w.heap.size:=(gE h1).1;have m0:¬b0=w.heap.size:=Nat.ne_of_lt l0;have m1:¬b1=w.heap.size:=Nat.ne_of_lt l1;clear h h0 h1;obtain⟨res,hres⟩:=eX (exp k ts);rw[←hres];have HQ:=Hd hres;clear hres;have HD:=Hd (show ((d:Int)+1)=((d+1:Nat):Int) by omega);go_enter Tryz.func199,Tryz.ntmps199
 go_wp2_with fail
 rw[HD.out];refine (HT.out _ _ _ P0.out).mono ?_;rintro e w9 ⟨f9,h9⟩;cases hr:exp k ts with
 | bad y rest ds=>
  rw[hr] at h9;obtain⟨rfl,p9⟩:=h9;go_wp2_with fail
  exact Zap rfl (.bad (HQ.out.trans hr) (F0.out.trans f9) p9)
 | ok x rest ds=>
  have HW:=Hd (HQ.out.trans hr);rw[hr] at h9;obtain⟨⟨cs,rfl,hcs⟩,p9⟩:=h9;obtain⟨ek,ea,en,em,a4,n4,c4,a5,n5,c5,a6,n6,c6,rfl⟩:=ZaT hcs;have A9:=Hd (f9.cells A0.out (by decide));have F9:=Hd (F0.out.trans f9);have P9:=Hd p9;have C9:=Hd (hcs.mono (A':=fun b=>w.heap.size<b) (fun b _ hb=>by simp at hb;omega));have HTH:=Hd (Zaf A9.out rfl);clear hr f9 p9 hcs;go_wp2_with (first | (refine Zaa rfl 36 (.tmp 2) (.tmp 6) rfl w.heap.size _ rfl rfl HTH.out Zbi (all_oneCell_toArray (by simp[Value.oneCell'])) ?_;intro W9 hW9))
  have e9:W9=putL w9 w.heap.size [.int .i64 ek,.int .i64 ea,.string en,.int .i64 em,.slice a4 n4 c4,.slice a5 n5 c5,.slice a6 n6 c6]:=hW9.out;subst e9;exact ZcC rfl rfl rfl (Zam (vs:=[_,_,_,_,_,_,_]) A9.out rfl) (ZdE HW.out A9.out F9.out P9.out HPB.out C9.out)
abbrev vbE (a:Nat):Obj:=.cells #[.int .i64 5,.int .i64 a,.string ⟨#[]⟩,.int .i64 0,.slice none 0 0,.slice none 0 0,.slice none 0 0] 36
theorem Zmf{B M:Nat}{pb:Nat}{all:List Tk}(hM:M≤10000000)(hall:∀t∈all,t.t.length≤1000000)(k d:Nat)(hd64:d≤64)
  (HE:∀w ts told,PS B M w pb all ts told→Calls Tryz.prog 47 #[.pointer (some ⟨pb,0,none⟩),.int .i64 ((d+1:Nat):Int)] w (Post B M w pb all told (vE w.heap.size) (exp k ts)))
  (at_:Nat) (w:World) (ts:List Tk) (told:List Dn) (h:PS B M w pb all ts told) :
  Calls Tryz.prog 169 #[.pointer (some ⟨pb,0,none⟩),.int .i64 at_,.int .i64 d] w (Post B M w pb all told (vE w.heap.size) ((Zbh [61] (exp k) ts).bind fun fs r=>.ok (recE at_ fs) r [])):=by
 have HPB:=Hd h.lt;have HLEN:=Hd h.len;obtain⟨W0,hW0⟩:=eY ((((w.alloc (bxP pb)).alloc (bxD d)).alloc zE).alloc (vbE at_));have HS0:=Hd (show W0.heap.size=w.heap.size+4 by rw[←hW0];simp);have HC:=fun (w':World) ts' told' hp hb=>clos_E k d hd64 HE w.heap.size (w.heap.size+1) w' ts' told' hp hb
 have hb0:Bx2 pb w.heap.size (w.heap.size+1) d W0:=by
  rw[←hW0];refine⟨Zab (Zab (Zab (hN w _) _) _) _,Zab (Zab ?_ _) _⟩;have:=hN (w.alloc (bxP pb)) (bxD d)
  simpa using this
 have HA0:=Hd (show W0.heap[w.heap.size+2]?=some zE by
  rw[←hW0];have:=Zab (hN ((w.alloc (bxP pb)).alloc (bxD d)) zE) (vbE at_)
  simpa using this)
 have HV0:=Hd (show W0.heap[w.heap.size+3]?=some (vbE at_) by
  rw[←hW0];have:=hN (((w.alloc (bxP pb)).alloc (bxD d)).alloc zE) (vbE at_)
  simpa using this)
 have HF0:=Hd (show Fr B w W0 by rw[←hW0];exact ((((Fr.refl B w).alloc _).alloc _).alloc _).alloc _);have hp0:PS B M W0 pb all ts told:=by rw[←hW0];exact (((h.alloc _).alloc _).alloc _).alloc _
 have HCALL:=Hd (ZmM hM hall [61] (exp k) (Zdd k) w.heap.size (w.heap.size+1) (Bx2 pb w.heap.size (w.heap.size+1) d) Bx2.fr HC W0 ts told hp0 hb0);have hc0:W0.cell? ⟨w.heap.size,0,none⟩=some (.pointer (some ⟨pb,0,none⟩)):=by simp[World.cell?,hb0.1]
 have HW0:=Hd hW0;clear h hp0 hb0 HC hW0 hM hall;obtain⟨res,hres⟩:=eX ((Zbh [61] (exp k) ts).bind fun fs r=>.ok (recE at_ fs) r []);rw[←hres];have HQ:=Hd hres;clear hres;go_enter Tryz.func169,Tryz.ntmps169
 go_upto_region 2 with fail
 rw[HW0.out];go_wp2_with fail
 refine HCALL.out.mono ?_;rintro e w1 ⟨f1,h1⟩;cases hr:Zbh [61] (exp k) ts with
 | bad y rest ds=>
  rw[hr] at h1;obtain⟨rfl,p1⟩:=h1;go_wp2_with fail
  exact Zap rfl (.bad (HQ.out.trans (by rw[hr,R.bind_bad])) (HF0.out.trans f1) p1)
 | ok fs rest ds=>
  have HFL:=Hd (ZgR (Zdd k) hr);rw[hr] at h1;obtain⟨⟨v,xs,rfl,hrow,hown,hcs⟩,p1⟩:=h1;have HW:=Hd (HQ.out.trans (by rw[hr,R.bind_ok,R.tell_ok,List.append_nil]));have P1:=Hd p1;have F1:=Hd (HF0.out.trans f1);have A1:=Hd (f1.cells HA0.out (by decide));have V1:=Hd (f1.cells HV0.out (by decide));have Z1:=Hd (show w.heap.size+4≤w1.heap.size by have:=f1.size;have:=HS0.out;omega);have HN:=Hd (show fs.length≤1000000 by have:=HFL.out;have:=HLEN.out.1;omega);have HS2:=Hd (ZnW (A:=fun b=>W0.heap.size≤b) w1 fs v xs hrow (hcs.mono (fun b _ hb=>hb.1)) HN.out);clear hr f1 p1 hrow hown hcs hc0 HCALL;go_wp2_with fail
  refine HS2.out.mono ?_;rintro e w4 ⟨b4,vn,vv,rfl,hcs⟩;obtain⟨n1,hn1⟩:=eX ((fs.map (·.1)).length);obtain⟨m1,hm1⟩:=eX ((fs.map (·.2)).length);obtain⟨x0,ys,e0,k0,hcs'⟩:=hcs.uncons;obtain⟨x1,ys',e1,k1,-⟩:=hcs'.uncons;obtain⟨a2,c2,e2⟩:=Zbb k0;obtain⟨a3,c3,e3⟩:=Zbb k1;cases e0;cases e1;subst e2 e3;rw[←hn1,←hm1] at hcs⊢;have C4:=Hd hcs;have P4:=Hd (P1.out.below b4);have F4:=Hd (F1.out.below b4);have hA4:=(b4.block _ (gE A1.out).1).trans A1.out;have hB4:Sev w4 (w.heap.size+3) 36 _ _ _ _ _ _ _:=(b4.block _ (gE V1.out).1).trans V1.out;obtain⟨⟨q0,q1,q2,q3,q4,q5,q6⟩,u0,u1,u2,u3,u4,u5,u6⟩:=Zai hB4;have hne:¬w.heap.size+2=w.heap.size+3:=by omega
  have HA4:=Hd hA4;have HB4:=Hd hB4;have HA5:=Hd (show ((w4.setCell ⟨w.heap.size+3,4,none⟩ (.slice a2 n1 c2)).setCell ⟨w.heap.size+3,5,none⟩ (.slice a3 m1 c3)).heap[w.heap.size+2]?=some zE from (Below.heap_setCell _ _ _ _ hne).trans ((Below.heap_setCell _ _ _ _ hne).trans HA4.out));have HTH:=Hd (Zaf HA5.out rfl);have HN1:=Hd hn1;have HM1:=Hd hm1;clear hcs hcs' k0 k1 b4 hA4 hB4 hn1 hm1;go_wp2_with (first | (refine Zaa rfl 36 (.tmp 6) (.tmp 19) rfl (w.heap.size+2) _ rfl rfl HTH.out Zbi (all_oneCell_toArray (by simp[Value.oneCell'])) ?_;intro W9 hW9))
  have e9:W9=putL ((w4.setCell ⟨w.heap.size+3,4,none⟩ (.slice a2 n1 c2)).setCell ⟨w.heap.size+3,5,none⟩ (.slice a3 m1 c3)) (w.heap.size+2) [.int .i64 5,.int .i64 at_,.string ⟨#[]⟩,.int .i64 0,.slice a2 n1 c2,.slice a3 m1 c3,.slice none 0 0]:=hW9.out;subst e9;have ee:encE 26 36 (recE at_ fs)=[.num 5,.num at_,.str [],.num 0,.row 9 1 n1 (List.map Dt.str (List.map (fun x=>x.fst) fs)),.row 36 7 m1 (Zaw 26 36 (List.map (fun x=>x.snd) fs)),.row 26 4 0 []]:=by rw[HN1.out,HM1.out];rfl
  have c5:=((C4.out.mono (A':=fun b=>w.heap.size+3<b) (fun b _ hb=>by
   have:=HS0.out;have:=Z1.out
   rcases hb with hb | hb
   ·omega
   ·omega)).setCell (w.heap.size+3) 4 (fun b hb=>Nat.ne_of_gt hb) (.slice a2 n1 c2)).setCell (w.heap.size+3) 5 (fun b hb=>Nat.ne_of_gt hb) (.slice a3 m1 c3)
  have c7:=c5.append _ _ _ _ (.cons (.none _ _ 4 (e:=26) (by decide)) (.nil _ _));have c6:IsCs (fun b=>w.heap.size+3<b) ((w4.setCell ⟨w.heap.size+3,4,none⟩ (.slice a2 n1 c2)).setCell ⟨w.heap.size+3,5,none⟩ (.slice a3 m1 c3)) (encE 26 36 (recE at_ fs)) [.int .i64 5,.int .i64 at_,.string ⟨#[]⟩,.int .i64 0,.slice a2 n1 c2,.slice a3 m1 c3,.slice none 0 0]:=ee▸.cons (.num _ _ _) (.cons (.num _ _ _) (.cons (.str _ _ _) (.cons (.num _ _ _) c7)));have f5:=(F4.out.setNew (b:=w.heap.size+3) (i:=4) (by omega) (.slice a2 n1 c2)).setNew (b:=w.heap.size+3) (i:=5) (by omega) (.slice a3 m1 c3);have hb5:=heap_setCell_same w4 (w.heap.size+3) 4 _ _ (.slice a2 n1 c2) HB4.out;have hpl:pb<w.heap.size+3:=by have:=HPB.out;omega
  have p5:=(P4.out.setNew HB4.out (by decide) hpl 4 (.slice a2 n1 c2)).setNew hb5 (by decide) hpl 5 (.slice a3 m1 c3);exact ZcC rfl rfl rfl (Zam (vs:=[.int .i64 5,.int .i64 at_,.string ⟨#[]⟩,.int .i64 0,.slice a2 n1 c2,.slice a3 m1 c3,.slice none 0 0]) HA5.out rfl) (.ok HW.out (f5.putL (by omega) _) ⟨_,rfl,(c6.putL _ (fun b hb=>by omega) _).mono (fun b _ hb=>by omega)⟩ (p5.putL HA5.out (by decide) (by have:=HPB.out;omega) _))
theorem ZmP{B M:Nat}{pb:Nat}{all:List Tk}(k d:Nat)(hd64:d≤64)
  (HF:∀(a:Nat) w ts told,PS B M w pb all ts told→Calls Tryz.prog 89 #[.pointer (some ⟨pb,0,none⟩),.int .i64 a,.int .i64 d] w (Post B M w pb all told (vE w.heap.size) (funP (typ k) (exp k) a ts)))
  (HL:∀(a:Nat) w ts told,PS B M w pb all ts told→Calls Tryz.prog 90 #[.pointer (some ⟨pb,0,none⟩),.int .i64 a,.int .i64 d] w (Post B M w pb all told (vE w.heap.size) (letP (exp k) a ts)))
  (HI:∀(a:Nat) w ts told,PS B M w pb all ts told→Calls Tryz.prog 91 #[.pointer (some ⟨pb,0,none⟩),.int .i64 a,.int .i64 d] w (Post B M w pb all told (vE w.heap.size) (ifP (exp k) a ts)))
  (HC:∀w ts told,PS B M w pb all ts told→Calls Tryz.prog 92 #[.pointer (some ⟨pb,0,none⟩),.int .i64 d] w (Post B M w pb all told (vE w.heap.size) ((Za0 (typ k) (exp k) ts).bind fun e r=>ZbD (exp k) r.length e r)))
  (w:World) (ts:List Tk) (told:List Dn) (h:PS B M w pb all ts told) :
  Calls Tryz.prog 47 #[.pointer (some ⟨pb,0,none⟩),.int .i64 d] w (Post B M w pb all told (vE w.heap.size) (ZcI (typ k) (exp k) ts)):=by
 have HF:=Hd HF;have HL:=Hd HL;have HI:=Hd HI;have HC:=Hd HC;have HPB:=Hd h.lt;have HN:=Hd (Zcl (h.alloc zE));have HD:=Hd (ZiR (h.alloc zE) d hd64);have P0:=Hd (h.alloc zE);have A0:=Hd (show (w.alloc zE).heap[w.heap.size]?=some zE from hN w zE);have F0:=Hd ((Fr.refl B w).alloc zE);have hfl:=ZhZ;clear h;obtain⟨res,hres⟩:=eX (ZcI (typ k) (exp k) ts);rw[←hres];have HQ:=Hd hres;clear hres;obtain⟨t,ht⟩:=eX (hd ts);have HT:=Hd ht;rw[←ht] at HN;clear ht;go_enter Tryz.func47,Tryz.ntmps47
 go_wp2_with fail
 refine HD.out.mono ?_;rintro e w1 ⟨rfl,rfl⟩;go_wp2_with fail
 refine HN.out.mono ?_;rintro e w1 ⟨rfl,b1⟩;have A1:=Hd ((b1.block _ (by simp)).trans A0.out);have F1:=Hd (F0.out.below b1);have P1:=Hd (P0.out.below b1);clear b1 A0 F0 P0;unfold tokV;go_wp2_with fail
 clear hfl;refine (Zay P1.out [102,117,110]).mono ?_;rintro e w2 ⟨rfl,p2,f2⟩;have A2:=Hd (f2.cells A1.out (by decide));have F2:=Hd (F1.out.trans f2);clear f2 A1 F1 P1;cases hm2:isM [102,117,110] ts with
 | true=>
  simp only[hm2,if_true] at p2;have P2:=Hd p2;have HW:=Hd (show res=funP (typ k) (exp k) t.a ts.tail by rw[HQ.out];simp[ZcI,hm2,HT.out]);clear hm2 p2;go_wp2_with fail
  refine (HF.out t.a _ _ _ P2.out).mono ?_;rintro e w9 ⟨f9,h9⟩;cases hr:(funP (typ k) (exp k) t.a ts.tail) with
  | bad y rest ds=>
   rw[hr] at h9;obtain⟨rfl,p9⟩:=h9;go_wp2_with fail
   exact Zap rfl (.bad (HW.out.trans hr) (F2.out.trans f9) p9)
  | ok x rest ds=>
   have HW:=Hd (HW.out.trans hr);rw[hr] at h9;obtain⟨⟨cs,rfl,hcs⟩,p9⟩:=h9;obtain⟨ek,ea,en,em,a4,n4,c4,a5,n5,c5,a6,n6,c6,rfl⟩:=ZaT hcs;have A9:=Hd (f9.cells A2.out (by decide));have F9:=Hd (F2.out.trans f9);have P9:=Hd p9;have C9:=Hd (hcs.mono (A':=fun b=>w.heap.size<b) (fun b _ hb=>by have:=ll (gE A2.out).1 hb;omega));have HTH:=Hd (Zaf A9.out rfl);clear hr f9 p9 hcs;go_wp2_with (first | (refine Zaa rfl 36 (.tmp 4) (.tmp 18) rfl w.heap.size _ rfl rfl HTH.out Zbi (all_oneCell_toArray (by simp[Value.oneCell'])) ?_;intro W9 hW9))
   have e9:W9=putL w9 w.heap.size [.int .i64 ek,.int .i64 ea,.string en,.int .i64 em,.slice a4 n4 c4,.slice a5 n5 c5,.slice a6 n6 c6]:=hW9.out;subst e9;exact ZcC rfl rfl rfl (Zam (vs:=[_,_,_,_,_,_,_]) A9.out rfl) (ZdE HW.out A9.out F9.out P9.out HPB.out C9.out)
 | false=>
 simp only[hm2,ff,if_false] at p2;have P2:=Hd p2;have HM2:=Hd hm2;clear hm2 p2;go_wp2_with fail
 refine (Zay P2.out [108,101,116]).mono ?_;rintro e w3 ⟨rfl,p3,f3⟩;have A3:=Hd (f3.cells A2.out (by decide));have F3:=Hd (F2.out.trans f3);clear f3 A2 F2 P2;cases hm3:isM [108,101,116] ts with
 | true=>
  simp only[hm3,if_true] at p3;have P3:=Hd p3;have HW:=Hd (show res=letP (exp k) t.a ts.tail by rw[HQ.out];simp[ZcI,HM2.out,hm3,HT.out]);clear hm3 p3;go_wp2_with fail
  refine (HL.out t.a _ _ _ P3.out).mono ?_;rintro e w9 ⟨f9,h9⟩;cases hr:(letP (exp k) t.a ts.tail) with
  | bad y rest ds=>
   rw[hr] at h9;obtain⟨rfl,p9⟩:=h9;go_wp2_with fail
   exact Zap rfl (.bad (HW.out.trans hr) (F3.out.trans f9) p9)
  | ok x rest ds=>
   have HW:=Hd (HW.out.trans hr);rw[hr] at h9;obtain⟨⟨cs,rfl,hcs⟩,p9⟩:=h9;obtain⟨ek,ea,en,em,a4,n4,c4,a5,n5,c5,a6,n6,c6,rfl⟩:=ZaT hcs;have A9:=Hd (f9.cells A3.out (by decide));have F9:=Hd (F3.out.trans f9);have P9:=Hd p9;have C9:=Hd (hcs.mono (A':=fun b=>w.heap.size<b) (fun b _ hb=>by have:=ll (gE A3.out).1 hb;omega));have HTH:=Hd (Zaf A9.out rfl);clear hr f9 p9 hcs;go_wp2_with (first | (refine Zaa rfl 36 (.tmp 4) (.tmp 25) rfl w.heap.size _ rfl rfl HTH.out Zbi (all_oneCell_toArray (by simp[Value.oneCell'])) ?_;intro W9 hW9))
   have e9:W9=putL w9 w.heap.size [.int .i64 ek,.int .i64 ea,.string en,.int .i64 em,.slice a4 n4 c4,.slice a5 n5 c5,.slice a6 n6 c6]:=hW9.out;subst e9;exact ZcC rfl rfl rfl (Zam (vs:=[_,_,_,_,_,_,_]) A9.out rfl) (ZdE HW.out A9.out F9.out P9.out HPB.out C9.out)
 | false=>
 simp only[hm3,ff,if_false] at p3;have P3:=Hd p3;have HM3:=Hd hm3;clear hm3 p3;go_wp2_with fail
 refine (Zay P3.out [105,102]).mono ?_;rintro e w4 ⟨rfl,p4,f4⟩;have A4:=Hd (f4.cells A3.out (by decide));have F4:=Hd (F3.out.trans f4);clear f4 A3 F3 P3;cases hm4:isM [105,102] ts with
 | true=>
  simp only[hm4,if_true] at p4;have P4:=Hd p4;have HW:=Hd (show res=ifP (exp k) t.a ts.tail by rw[HQ.out];simp[ZcI,HM2.out,HM3.out,hm4,HT.out]);clear hm4 p4;go_wp2_with fail
  refine (HI.out t.a _ _ _ P4.out).mono ?_;rintro e w9 ⟨f9,h9⟩;cases hr:(ifP (exp k) t.a ts.tail) with
  | bad y rest ds=>
   rw[hr] at h9;obtain⟨rfl,p9⟩:=h9;go_wp2_with fail
   exact Zap rfl (.bad (HW.out.trans hr) (F4.out.trans f9) p9)
  | ok x rest ds=>
   have HW:=Hd (HW.out.trans hr);rw[hr] at h9;obtain⟨⟨cs,rfl,hcs⟩,p9⟩:=h9;obtain⟨ek,ea,en,em,a4,n4,c4,a5,n5,c5,a6,n6,c6,rfl⟩:=ZaT hcs;have A9:=Hd (f9.cells A4.out (by decide));have F9:=Hd (F4.out.trans f9);have P9:=Hd p9;have C9:=Hd (hcs.mono (A':=fun b=>w.heap.size<b) (fun b _ hb=>by have:=ll (gE A4.out).1 hb;omega));have HTH:=Hd (Zaf A9.out rfl);clear hr f9 p9 hcs;go_wp2_with (first | (refine Zaa rfl 36 (.tmp 4) (.tmp 32) rfl w.heap.size _ rfl rfl HTH.out Zbi (all_oneCell_toArray (by simp[Value.oneCell'])) ?_;intro W9 hW9))
   have e9:W9=putL w9 w.heap.size [.int .i64 ek,.int .i64 ea,.string en,.int .i64 em,.slice a4 n4 c4,.slice a5 n5 c5,.slice a6 n6 c6]:=hW9.out;subst e9;exact ZcC rfl rfl rfl (Zam (vs:=[_,_,_,_,_,_,_]) A9.out rfl) (ZdE HW.out A9.out F9.out P9.out HPB.out C9.out)
 | false=>
 simp only[hm4,ff,if_false] at p4;have P4:=Hd p4;have HM4:=Hd hm4;clear hm4 p4;have HW:=Hd (show res=((Za0 (typ k) (exp k) ts).bind fun e r=>ZbD (exp k) r.length e r) by rw[HQ.out];simp[ZcI,HM2.out,HM3.out,HM4.out]);go_wp2_with fail
 refine (HC.out _ _ _ P4.out).mono ?_;rintro e w9 ⟨f9,h9⟩;cases hr:((Za0 (typ k) (exp k) ts).bind fun e r=>ZbD (exp k) r.length e r) with
 | bad y rest ds=>
  rw[hr] at h9;obtain⟨rfl,p9⟩:=h9;go_wp2_with fail
  exact Zap rfl (.bad (HW.out.trans hr) (F4.out.trans f9) p9)
 | ok x rest ds=>
  have HW:=Hd (HW.out.trans hr);rw[hr] at h9;obtain⟨⟨cs,rfl,hcs⟩,p9⟩:=h9;obtain⟨ek,ea,en,em,a4,n4,c4,a5,n5,c5,a6,n6,c6,rfl⟩:=ZaT hcs;have A9:=Hd (f9.cells A4.out (by decide));have F9:=Hd (F4.out.trans f9);have P9:=Hd p9;have C9:=Hd (hcs.mono (A':=fun b=>w.heap.size<b) (fun b _ hb=>by have:=ll (gE A4.out).1 hb;omega));have HTH:=Hd (Zaf A9.out rfl);clear hr f9 p9 hcs;go_wp2_with (first | (refine Zaa rfl 36 (.tmp 4) (.tmp 35) rfl w.heap.size _ rfl rfl HTH.out Zbi (all_oneCell_toArray (by simp[Value.oneCell'])) ?_;intro W9 hW9))
  have e9:W9=putL w9 w.heap.size [.int .i64 ek,.int .i64 ea,.string en,.int .i64 em,.slice a4 n4 c4,.slice a5 n5 c5,.slice a6 n6 c6]:=hW9.out;subst e9;exact ZcC rfl rfl rfl (Zam (vs:=[_,_,_,_,_,_,_]) A9.out rfl) (ZdE HW.out A9.out F9.out P9.out HPB.out C9.out)
theorem Zlj{B M:Nat}{pb:Nat}{all:List Tk}(d:Nat)(hd:64<d)(w:World)(ts:List Tk)(told:List Dn)(h:PS B M w pb all ts told) :
  Calls Tryz.prog 47 #[.pointer (some ⟨pb,0,none⟩),.int .i64 d] w (Post B M w pb all told (vE w.heap.size) (exp 0 ts)):=by
 have HD:=Hd (Zhj (h.alloc zE) d hd);have p0:=Hd (h.alloc zE);have hF0:=Hd ((Fr.refl B w).alloc zE);have HQ:=Hd (show exp 0 ts=.bad (deep ts) ts [] from rfl);obtain⟨res,hres⟩:=eX (exp 0 ts);rw[←hres];have HR:=Hd (hres.trans HQ.out);clear h hres HQ hd;go_enter Tryz.func47,Tryz.ntmps47
 go_wp2_with fail
 refine HD.out.mono ?_;rintro e w1 ⟨rfl,b1⟩;go_wp2_with fail
 exact Zap rfl (.bad HR.out (hF0.out.below b1) (p0.out.below b1).nil)
structure Lw (w:World)(lo b:Nat)(t:TypeId)(l:List Dt)(cs:List Value):Prop where
 blk:w.heap[b]?=some (.cells cs.toArray t (0,0))
 ty:stT t=false
 lt:lo<b
 data:IsCs (fun k=>lo<k∧k≠b) w l cs
theorem Lw.fr{n₀:Nat}{w w':World}{lo b:Nat}{t:TypeId}{l:List Dt}{cs:List Value}(h:Lw w lo b t l cs)(hF:Fr n₀ w w'):Lw w' lo b t l cs:=
 ⟨hF.cells h.blk h.ty,h.ty,h.lt,IsCs.fr hF _ _ h.data⟩
theorem Lw.alloc{w:World}{lo b:Nat}{t:TypeId}{l:List Dt}{cs:List Value}(h:Lw w lo b t l cs)(o:Obj):Lw (w.alloc o) lo b t l cs:=h.fr (n₀:=0) ((Fr.refl _ _).alloc o)
theorem Lw.below{w w':World}{lo b:Nat}{t:TypeId}{l:List Dt}{cs:List Value}(h:Lw w lo b t l cs)(hb:Below w.heap.size w w'):Lw w' lo b t l cs:=h.fr (n₀:=0) (Fr.of_below hb)
theorem Lw.new{w:World}{lo:Nat}{t:TypeId}{l:List Dt}{cs:List Value}(ht:stT t=false)(hlo:lo<w.heap.size){lo':Nat}(hl:lo<lo')(h:IsCs (fun k=>lo'≤k) w l cs):Lw (w.alloc (.cells cs.toArray t)) lo w.heap.size t l cs:=
 ⟨hN w _,ht,hlo,(h.mono (A':=fun k=>lo<k∧k≠w.heap.size) (fun b hb' hb=>⟨by omega,by omega⟩)).below ((Below.refl _ _).alloc (nl _) _)⟩
theorem Lw.put{w:World}{lo b:Nat}{t:TypeId}{l l':List Dt}{cs cs':List Value}(h:Lw w lo b t l cs)(hl:cs'.length=cs.length)(h':IsCs (fun k=>lo<k∧k≠b) w l' cs'):Lw (putL w b cs') lo b t l' cs':=
 ⟨Zam h.blk (by simpa using hl),h.ty,h.lt,h'.putL b (fun k hk=>hk.2) cs'⟩
theorem Zm8{B M:Nat}{pb:Nat}{all:List Tk}(k d:Nat)(hd64:d≤64)
  (HE:∀w ts told,PS B M w pb all ts told→Calls Tryz.prog 47 #[.pointer (some ⟨pb,0,none⟩),.int .i64 ((d+1:Nat):Int)] w (Post B M w pb all told (vE w.heap.size) (exp k ts)))
  (HBA:∀w ts told,PS B M w pb all ts told→Calls Tryz.prog 137 #[.pointer (some ⟨pb,0,none⟩),.int .i64 d] w (Post B M w pb all told (vE w.heap.size) (Za0 (typ k) (exp k) ts)))
  (w:World) (ts:List Tk) (told:List Dn) (h:PS B M w pb all ts told) :
  Calls Tryz.prog 92 #[.pointer (some ⟨pb,0,none⟩),.int .i64 d] w (Post B M w pb all told (vE w.heap.size) ((Za0 (typ k) (exp k) ts).bind fun e r=>ZbD (exp k) r.length e r)):=by
 have HBA:=Hd HBA;have HLEN:=Hd h.len;have HE:=Hd HE;have HPB:=Hd h.lt;have P0:=Hd (h.alloc zE).nil;have A0:=Hd (show (w.alloc zE).heap[w.heap.size]?=some zE from hN w zE);have F0:=Hd ((Fr.refl B w).alloc zE);have Z0:=Hd (show w.heap.size<(w.alloc zE).heap.size by simp);clear h;obtain⟨res,hres⟩:=eX ((Za0 (typ k) (exp k) ts).bind fun e r=>ZbD (exp k) r.length e r);rw[←hres];have HQ0:=Hd (ZjZ hres);clear hres;have HD:=Hd (show ((d:Int)+1)=((d+1:Nat):Int) by omega);go_enter Tryz.func92,Tryz.ntmps92
 go_wp2_with fail
 refine (HBA.out _ _ _ P0.out).mono ?_;rintro e w1 ⟨f1,h1⟩;cases hr1:Za0 (typ k) (exp k) ts with
 | bad y r d=>
  rw[hr1] at h1;obtain⟨rfl,p1⟩:=h1;go_wp2_with fail
  exact Zap rfl (.bad (HQ0.out.trans (by rw[hr1,R.bind_bad,R.tell_bad])) (F0.out.trans f1) p1.assoc)
 | ok x1 r1 d1=>
 have HS1:=Hd (show r1.length≤ts.length by have:=Zhn (typ k) (exp k) (Zcz k).1 (Zdd k) ts;rw[hr1] at this;exact this);rw[hr1] at h1;obtain⟨⟨cs1,rfl,hcs1⟩,p1⟩:=h1;obtain⟨kb,ab,nb,mb,p4b,n4b,c4b,p5b,n5b,c5b,p6b,n6b,c6b,rfl⟩:=ZaT hcs1;have HQ1:=Hd (HQ0.out.trans (by rw[hr1,R.bind_ok,R.tell_tell]));have P1:=Hd (p1.assoc.alloc (.cells #[.int .i64 kb,.int .i64 ab,.string nb,.int .i64 mb,.slice p4b n4b c4b,.slice p5b n5b c5b,.slice p6b n6b c6b] 36));have F1:=Hd ((F0.out.trans f1).alloc (.cells #[.int .i64 kb,.int .i64 ab,.string nb,.int .i64 mb,.slice p4b n4b c4b,.slice p5b n5b c5b,.slice p6b n6b c6b] 36));have A1:=Hd (Zab (f1.cells A0.out (by decide)) (.cells #[.int .i64 kb,.int .i64 ab,.string nb,.int .i64 mb,.slice p4b n4b c4b,.slice p5b n5b c5b,.slice p6b n6b c6b] 36));have hz1:=ll Z0.out f1.size;have Z1:=Hd (show w.heap.size<(w1.alloc (.cells #[.int .i64 kb,.int .i64 ab,.string nb,.int .i64 mb,.slice p4b n4b c4b,.slice p5b n5b c5b,.slice p6b n6b c6b] 36)).heap.size by simp;omega);have Lb1:=Hd (Lw.new (t:=36) (by decide) hz1 Z0.out hcs1);clear hr1 p1 f1 HQ0 P0 F0 A0 Z0;clear hz1 hcs1;go_wp2_with fail
 have hfl:=ZhZ;have HFL:=Hd hfl;clear hfl;obtain⟨vb,hvb⟩:=eY (w1.heap.size);rw[hvb] at Lb1;rw[hvb];have HVB:=Hd (show pb<vb by have:=Lb1.out.lt;have:=HPB.out;omega);clear hvb;go_loopw [] (fun wr=>∃(e:PE) (ts':List Tk) (ds':List Dn) (n:Nat),ts'.length≤n∧PS B M wr pb all ts' (told++ds')∧Fr B w wr∧wr.heap[w.heap.size]?=some zE∧w.heap.size<wr.heap.size∧(∃cs,Lw wr w.heap.size vb 36 (encE 26 36 e) cs)∧Hid (res=(ZbD (exp k) n e ts').tell ds')) (fun wr=>left pb all wr)
 case atStart=>
  exact⟨x1,r1,_,r1.length,nl _,P1.out,F1.out,A1.out,Z1.out,⟨_,Lb1.out⟩,HQ1⟩
 case round=>
  obtain⟨e,ts',ds',n,hn,hp,hF,hA,hz,⟨cs,hLb⟩,hq⟩:=hrel;obtain⟨ke,ae,ne,me,p4e,n4e,c4e,p5e,n5e,c5e,p6e,n6e,c6e,rfl⟩:=ZaT hLb.data;have HN:=Hd hn;have HLE:=Hd hp.left;have HL':=Hd hp.len;have HTL:=Hd (ZdA hp.len.2);have HNW:=Hd (Zcl hp);have P0:=Hd hp;have F0:=Hd hF;have A0:=Hd hA;have Z0:=Hd hz;have Lb0:=Hd hLb;clear hn hp hF hA hz hLb P1 F1 A1 Z1 Lb1 HQ1;obtain⟨t,ht⟩:=eX (hd ts');have HT:=Hd ht;rw[←ht] at HNW;clear ht;have hfl:=HFL.out;go_wp2_with fail
  refine HNW.out.mono ?_;rintro e' w2 ⟨rfl,b2⟩;have P2:=Hd (P0.out.below b2);have F2:=Hd (F0.out.below b2);have A2:=Hd ((b2.block _ (gE A0.out).1).trans A0.out);have Z2:=Hd (ll Z0.out b2.size);have Lb2:=Hd (Lb0.out.below b2);clear b2 P0 F0 A0 Z0 Lb0;unfold tokV;go_wp2_with fail
  clear hfl;refine (Zay P2.out [40]).mono ?_;rintro e' w3 ⟨rfl,p3,f3⟩;have F3:=Hd (F2.out.trans f3);have A3:=Hd (f3.cells A2.out (by decide));have Z3:=Hd (ll Z2.out f3.size);have Lb3:=Hd (Lb2.out.fr f3);clear f3 P2 F2 A2 Z2 Lb2;cases hm:isM [40] ts' with
  | true=>
   simp only[hm,if_true] at p3;have P3:=Hd p3;obtain⟨n',rfl⟩:∃n',n=n'+1:=⟨n-1,by have:=HN.out;have:=HL'.out.2;omega⟩;have HQ3:=Hd (show res=R.tell ds' ((exp k ts'.tail).bind fun g r=>(want [41] r).bind fun _ r=>ZbD (exp k) n' (.mk 7 t.a [] 0 [] [e,g] []) r) by rw[hq.out,ZbD,hm,if_pos rfl,HT.out]);clear hm p3 hq;go_wp2_with fail
   rw[HD.out];refine (HE.out _ _ _ P3.out).mono ?_;rintro e w4 ⟨f4,h4⟩;cases hr4:exp k ts'.tail with
   | bad y r d=>
    rw[hr4] at h4;obtain⟨rfl,p4⟩:=h4;go_wp2_with fail
    exact Zap rfl (.bad (HQ3.out.trans (by rw[hr4,R.bind_bad,R.tell_bad])) (F3.out.trans f4) p4.assoc)
   | ok y r4 d4=>
   have HS4:=Hd (show r4.length≤ts'.tail.length by have:=Zdd k ts'.tail;rw[hr4] at this;exact this);rw[hr4] at h4;obtain⟨⟨cs4,rfl,hcs4⟩,p4⟩:=h4;obtain⟨kLg,aLg,nLg,mLg,p4Lg,n4Lg,c4Lg,p5Lg,n5Lg,c5Lg,p6Lg,n6Lg,c6Lg,rfl⟩:=ZaT hcs4;have HQ4:=Hd (HQ3.out.trans (by rw[hr4,R.bind_ok,R.tell_tell]));have P4:=Hd (p4.assoc.alloc (.cells #[.int .i64 kLg,.int .i64 aLg,.string nLg,.int .i64 mLg,.slice p4Lg n4Lg c4Lg,.slice p5Lg n5Lg c5Lg,.slice p6Lg n6Lg c6Lg] 36));have F4:=Hd ((F3.out.trans f4).alloc (.cells #[.int .i64 kLg,.int .i64 aLg,.string nLg,.int .i64 mLg,.slice p4Lg n4Lg c4Lg,.slice p5Lg n5Lg c5Lg,.slice p6Lg n6Lg c6Lg] 36));have A4:=Hd (Zab (f4.cells A3.out (by decide)) (.cells #[.int .i64 kLg,.int .i64 aLg,.string nLg,.int .i64 mLg,.slice p4Lg n4Lg c4Lg,.slice p5Lg n5Lg c5Lg,.slice p6Lg n6Lg c6Lg] 36));have hz4:=ll Z3.out f4.size;have Z4:=Hd (show w.heap.size<(w4.alloc (.cells #[.int .i64 kLg,.int .i64 aLg,.string nLg,.int .i64 mLg,.slice p4Lg n4Lg c4Lg,.slice p5Lg n5Lg c5Lg,.slice p6Lg n6Lg c6Lg] 36)).heap.size by simp;omega);have Lg4:=Hd (Lv.new (t:=36) (by decide) (ll (gE Lb3.out.blk).1 f4.size) (gE Lb3.out.blk).1 hcs4);have Lb4:=Hd ((Lb3.out.fr f4).alloc (.cells #[.int .i64 kLg,.int .i64 aLg,.string nLg,.int .i64 mLg,.slice p4Lg n4Lg c4Lg,.slice p5Lg n5Lg c5Lg,.slice p6Lg n6Lg c6Lg] 36));clear hr4 p4 f4 HQ3 P3 F3 A3 Z3 Lb3;clear hz4 hcs4;go_wp2_with fail
   refine (ZaU P4.out [41]).mono ?_;rintro e w5 ⟨f5,h5⟩;cases hr5:want [41] r4 with
   | bad y r d=>
    rw[hr5] at h5;obtain⟨rfl,p5⟩:=h5;go_wp2_with fail
    exact Zap rfl (.bad (HQ4.out.trans (by rw[hr5,R.bind_bad,R.tell_bad])) (F4.out.trans f5) p5.assoc)
   | ok x5 r5 d5=>
   have HS5:=Hd (show r5.length≤r4.length by have:=ZaQ [41] r4;rw[hr5] at this;exact this);rw[hr5] at h5;obtain⟨h5,p5⟩:=h5;cases h5;have HQ5:=Hd (HQ4.out.trans (by rw[hr5,R.bind_ok,R.tell_tell]));have P5:=Hd p5.assoc;have F5:=Hd (F4.out.trans f5);have A5:=Hd (f5.cells A4.out (by decide));have Z5:=Hd (ll Z4.out f5.size);have Lb5:=Hd (Lb4.out.fr f5);have Lg5:=Hd (Lg4.out.fr f5);clear hr5 p5 f5 HQ4 P4 F4 A4 Z4 Lb4 Lg4;go_upto_region 7 with fail
   have HSX:=Hd (show r5.length≤ts'.tail.length by have a1:=HS4.out;have a2:=HS5.out;omega);obtain⟨W,rfl⟩:=eX (w5);obtain⟨⟨gg0,gg1,gg2,gg3,gg4,gg5,gg6⟩,-⟩:=Zai (show Sev W _ 36 (.int .i64 kLg) (.int .i64 aLg) (.string nLg) (.int .i64 mLg) (.slice p4Lg n4Lg c4Lg) (.slice p5Lg n5Lg c5Lg) (.slice p6Lg n6Lg c6Lg) from Lg5.out.blk);obtain⟨⟨gx0,gx1,gx2,gx3,gx4,gx5,gx6⟩,-⟩:=Zai (show Sev W vb 36 (.int .i64 ke) (.int .i64 ae) (.string ne) (.int .i64 me) (.slice p4e n4e c4e) (.slice p5e n5e c5e) (.slice p6e n6e c6e) from Lb5.out.blk);have hvl:vb<W.heap.size:=(gE Lb5.out.blk).1;have hvn:¬vb=W.heap.size:=Nat.ne_of_lt hvl;have HTH:=Hd (Zaf (Lb5.out.alloc (.cells #[.int .i64 ke,.int .i64 ae,.string ne,.int .i64 me,.slice p4e n4e c4e,.slice p5e n5e c5e,.slice p6e n6e c6e,.int .i64 kLg,.int .i64 aLg,.string nLg,.int .i64 mLg,.slice p4Lg n4Lg c4Lg,.slice p5Lg n5Lg c5Lg,.slice p6Lg n6Lg c6Lg] 36)).blk rfl);go_wp2_with (first | (refine Zaa rfl 36 (.tmp 5) (.tmp 29) rfl vb _ rfl rfl HTH.out Zbi (all_oneCell_toArray (by simp[Value.oneCell'])) ?_;intro W9 hW9))
   have e9:W9=putL (W.alloc (.cells #[.int .i64 ke,.int .i64 ae,.string ne,.int .i64 me,.slice p4e n4e c4e,.slice p5e n5e c5e,.slice p6e n6e c6e,.int .i64 kLg,.int .i64 aLg,.string nLg,.int .i64 mLg,.slice p4Lg n4Lg c4Lg,.slice p5Lg n5Lg c5Lg,.slice p6Lg n6Lg c6Lg] 36)) vb [.int .i64 7,.int .i64 t.a,.string ⟨#[]⟩,.int .i64 0,.slice none 0 0,.slice (some ⟨W.heap.size,0,none⟩) 2 2,.slice none 0 0]:=hW9.out;subst e9;have CC:IsCs (fun b=>w.heap.size<b∧b≠vb) W (Zaw 26 36 [e,y]) [.int .i64 ke,.int .i64 ae,.string ne,.int .i64 me,.slice p4e n4e c4e,.slice p5e n5e c5e,.slice p6e n6e c6e,.int .i64 kLg,.int .i64 aLg,.string nLg,.int .i64 mLg,.slice p4Lg n4Lg c4Lg,.slice p5Lg n5Lg c5Lg,.slice p6Lg n6Lg c6Lg]:=by
    have:=(Lb5.out.data.append _ _ _ _ (Lg5.out.data.mono (A':=fun b=>w.heap.size<b∧b≠vb) (fun b _ hb=>⟨Nat.lt_trans Lb5.out.lt hb,Nat.ne_of_gt hb⟩)))
    simpa[Zaw] using this
   have C2:=ZaK (e:=36) (size:=7) (n:=2) (g:=W.heap.size) (by decide) rfl ⟨Z5.out,Nat.ne_of_gt hvl⟩ (by decide) rfl CC;have C3:=IsCs.cons (IsC.num _ _ 7) (IsCs.cons (IsC.num _ _ t.a) (IsCs.cons (IsC.str _ _ []) (IsCs.cons (IsC.num _ _ 0) (IsCs.cons (IsC.none _ _ 1 (e:=9) (by decide)) (IsCs.cons C2 (IsCs.cons (IsC.none _ _ 4 (e:=26) (by decide)) (IsCs.nil _ _)))))));have lw:Lw (putL (W.alloc (.cells #[.int .i64 ke,.int .i64 ae,.string ne,.int .i64 me,.slice p4e n4e c4e,.slice p5e n5e c5e,.slice p6e n6e c6e,.int .i64 kLg,.int .i64 aLg,.string nLg,.int .i64 mLg,.slice p4Lg n4Lg c4Lg,.slice p5Lg n5Lg c5Lg,.slice p6Lg n6Lg c6Lg] 36)) vb [.int .i64 7,.int .i64 t.a,.string ⟨#[]⟩,.int .i64 0,.slice none 0 0,.slice (some ⟨W.heap.size,0,none⟩) 2 2,.slice none 0 0]) w.heap.size vb 36 (encE 26 36 (.mk 7 t.a [] 0 [] [e,y] [])) [.int .i64 7,.int .i64 t.a,.string ⟨#[]⟩,.int .i64 0,.slice none 0 0,.slice (some ⟨W.heap.size,0,none⟩) 2 2,.slice none 0 0]:=(Lb5.out.alloc (.cells #[.int .i64 ke,.int .i64 ae,.string ne,.int .i64 me,.slice p4e n4e c4e,.slice p5e n5e c5e,.slice p6e n6e c6e,.int .i64 kLg,.int .i64 aLg,.string nLg,.int .i64 mLg,.slice p4Lg n4Lg c4Lg,.slice p5Lg n5Lg c5Lg,.slice p6Lg n6Lg c6Lg] 36)).put rfl C3;have pp:=(P5.out.alloc (.cells #[.int .i64 ke,.int .i64 ae,.string ne,.int .i64 me,.slice p4e n4e c4e,.slice p5e n5e c5e,.slice p6e n6e c6e,.int .i64 kLg,.int .i64 aLg,.string nLg,.int .i64 mLg,.slice p4Lg n4Lg c4Lg,.slice p5Lg n5Lg c5Lg,.slice p6Lg n6Lg c6Lg] 36)).putL (Lb5.out.alloc (.cells #[.int .i64 ke,.int .i64 ae,.string ne,.int .i64 me,.slice p4e n4e c4e,.slice p5e n5e c5e,.slice p6e n6e c6e,.int .i64 kLg,.int .i64 aLg,.string nLg,.int .i64 mLg,.slice p4Lg n4Lg c4Lg,.slice p5Lg n5Lg c5Lg,.slice p6Lg n6Lg c6Lg] 36)).blk (by decide) HVB.out [.int .i64 7,.int .i64 t.a,.string ⟨#[]⟩,.int .i64 0,.slice none 0 0,.slice (some ⟨W.heap.size,0,none⟩) 2 2,.slice none 0 0];refine⟨⟨.mk 7 t.a [] 0 [] [e,y] [],r5,_,n',?_,pp,(F5.out.alloc (.cells #[.int .i64 ke,.int .i64 ae,.string ne,.int .i64 me,.slice p4e n4e c4e,.slice p5e n5e c5e,.slice p6e n6e c6e,.int .i64 kLg,.int .i64 aLg,.string nLg,.int .i64 mLg,.slice p4Lg n4Lg c4Lg,.slice p5Lg n5Lg c5Lg,.slice p6Lg n6Lg c6Lg] 36)).putL (Nat.le_of_lt Lb5.out.lt) [.int .i64 7,.int .i64 t.a,.string ⟨#[]⟩,.int .i64 0,.slice none 0 0,.slice (some ⟨W.heap.size,0,none⟩) 2 2,.slice none 0 0],(ZaS vb _ _ _ _ (Nat.ne_of_lt Lb5.out.lt)).trans (Zab A5.out (.cells #[.int .i64 ke,.int .i64 ae,.string ne,.int .i64 me,.slice p4e n4e c4e,.slice p5e n5e c5e,.slice p6e n6e c6e,.int .i64 kLg,.int .i64 aLg,.string nLg,.int .i64 mLg,.slice p4Lg n4Lg c4Lg,.slice p5Lg n5Lg c5Lg,.slice p6Lg n6Lg c6Lg] 36)),?_,⟨_,lw⟩,HQ5⟩,?_⟩
   ·have:=HSX.out;have:=HTL.out;have:=HN.out;omega
   ·rw[(ZaW vb [.int .i64 7,.int .i64 t.a,.string ⟨#[]⟩,.int .i64 0,.slice none 0 0,.slice (some ⟨W.heap.size,0,none⟩) 2 2,.slice none 0 0] 0 (W.alloc (.cells #[.int .i64 ke,.int .i64 ae,.string ne,.int .i64 me,.slice p4e n4e c4e,.slice p5e n5e c5e,.slice p6e n6e c6e,.int .i64 kLg,.int .i64 aLg,.string nLg,.int .i64 mLg,.slice p4Lg n4Lg c4Lg,.slice p5Lg n5Lg c5Lg,.slice p6Lg n6Lg c6Lg] 36))).2.2.2];have:=Z5.out;simp;omega
   ·rw[pp.left,HLE.out];have:=HSX.out;have:=HTL.out;omega
  | false=>
   simp only[hm,ff,if_false] at p3;have P3:=Hd p3;have HM3:=Hd hm;clear hm p3;go_wp2_with fail
   refine (Zay P3.out [46]).mono ?_;rintro e' w4 ⟨rfl,p4,f4⟩;have F4:=Hd (F3.out.trans f4);have A4:=Hd (f4.cells A3.out (by decide));have Z4:=Hd (ll Z3.out f4.size);have Lb4:=Hd (Lb3.out.fr f4);clear f4 P3 F3 A3 Z3 Lb3;cases hm:isM [46] ts' with
   | true=>
    simp only[hm,if_true] at p4;have P4:=Hd p4;obtain⟨n',rfl⟩:∃n',n=n'+1:=⟨n-1,by have:=HN.out;have:=HL'.out.2;omega⟩;have HQ4:=Hd (show res=R.tell ds' ((Zaj ts'.tail).bind fun nm r=>ZbD (exp k) n' (.mk 6 nm.a nm.t 0 [] [e] []) r) by rw[hq.out,ZbD,HM3.out,hm];rfl);clear hm p4 hq;go_wp2_with fail
    refine (ZbW P4.out).mono ?_;rintro e w5 ⟨f5,h5⟩;cases hr5:Zaj ts'.tail with
    | bad y r d=>
     rw[hr5] at h5;obtain⟨rfl,p5⟩:=h5;go_wp2_with fail
     exact Zap rfl (.bad (HQ4.out.trans (by rw[hr5,R.bind_bad,R.tell_bad])) (F4.out.trans f5) p5.assoc)
    | ok nm r5 d5=>
    have HS5:=Hd (show r5.length≤ts'.tail.length by have:=Zbk ts'.tail;rw[hr5] at this;exact this);rw[hr5] at h5;obtain⟨h5,p5⟩:=h5;cases h5;unfold tokV;have HQ5:=Hd (HQ4.out.trans (by rw[hr5,R.bind_ok,R.tell_tell]));have P5:=Hd (p5.assoc.alloc (.cells #[.int .i64 nm.k,.int .i64 nm.a,.string ⟨nm.t.toArray⟩] 105));have F5:=Hd ((F4.out.trans f5).alloc (.cells #[.int .i64 nm.k,.int .i64 nm.a,.string ⟨nm.t.toArray⟩] 105));have A5:=Hd (Zab (f5.cells A4.out (by decide)) (.cells #[.int .i64 nm.k,.int .i64 nm.a,.string ⟨nm.t.toArray⟩] 105));have hz5:=ll Z4.out f5.size;have Z5:=Hd (show w.heap.size<(w5.alloc (.cells #[.int .i64 nm.k,.int .i64 nm.a,.string ⟨nm.t.toArray⟩] 105)).heap.size by simp;omega);have Ln5:=Hd (Lv.newTok hz5 nm);have Lb5:=Hd ((Lb4.out.fr f5).alloc (.cells #[.int .i64 nm.k,.int .i64 nm.a,.string ⟨nm.t.toArray⟩] 105));clear hr5 p5 f5 HQ4 P4 F4 A4 Z4 Lb4;clear hz5;go_upto_region 10 with fail
    have HSX:=Hd (show r5.length≤ts'.tail.length from HS5.out);obtain⟨W,hW⟩:=eY (w5.alloc (.cells #[.int .i64 nm.k,.int .i64 nm.a,.string ⟨nm.t.toArray⟩] 105));rw[hW] at P5 F5 A5 Z5 Lb5 Ln5;rw[hW];clear hW;obtain⟨⟨gg0,gg1,gg2⟩,-⟩:=Zan (show Thr W _ 105 (.int .i64 nm.k) (.int .i64 nm.a) (.string ⟨nm.t.toArray⟩) from Ln5.out.blk);obtain⟨⟨gx0,gx1,gx2,gx3,gx4,gx5,gx6⟩,-⟩:=Zai (show Sev W vb 36 (.int .i64 ke) (.int .i64 ae) (.string ne) (.int .i64 me) (.slice p4e n4e c4e) (.slice p5e n5e c5e) (.slice p6e n6e c6e) from Lb5.out.blk);have hvl:vb<W.heap.size:=(gE Lb5.out.blk).1;have hvn:¬vb=W.heap.size:=Nat.ne_of_lt hvl;have HTH:=Hd (Zaf (Lb5.out.alloc (.cells #[.int .i64 ke,.int .i64 ae,.string ne,.int .i64 me,.slice p4e n4e c4e,.slice p5e n5e c5e,.slice p6e n6e c6e] 36)).blk rfl);go_wp2_with (first | (refine Zaa rfl 36 (.tmp 5) (.tmp 41) rfl vb _ rfl rfl HTH.out Zbi (all_oneCell_toArray (by simp[Value.oneCell'])) ?_;intro W9 hW9))
    have e9:W9=putL (W.alloc (.cells #[.int .i64 ke,.int .i64 ae,.string ne,.int .i64 me,.slice p4e n4e c4e,.slice p5e n5e c5e,.slice p6e n6e c6e] 36)) vb [.int .i64 6,.int .i64 nm.a,.string ⟨nm.t.toArray⟩,.int .i64 0,.slice none 0 0,.slice (some ⟨W.heap.size,0,none⟩) 1 1,.slice none 0 0]:=hW9.out;subst e9;have CC:IsCs (fun b=>w.heap.size<b∧b≠vb) W (Zaw 26 36 [e]) [.int .i64 ke,.int .i64 ae,.string ne,.int .i64 me,.slice p4e n4e c4e,.slice p5e n5e c5e,.slice p6e n6e c6e]:=by
     have:=Lb5.out.data
     simpa[Zaw] using this
    have C2:=ZaK (e:=36) (size:=7) (n:=1) (g:=W.heap.size) (by decide) rfl ⟨Z5.out,Nat.ne_of_gt hvl⟩ (by decide) rfl CC;have C3:=IsCs.cons (IsC.num _ _ 6) (IsCs.cons (IsC.num _ _ nm.a) (IsCs.cons (IsC.str _ _ nm.t) (IsCs.cons (IsC.num _ _ 0) (IsCs.cons (IsC.none _ _ 1 (e:=9) (by decide)) (IsCs.cons C2 (IsCs.cons (IsC.none _ _ 4 (e:=26) (by decide)) (IsCs.nil _ _)))))));have lw:Lw (putL (W.alloc (.cells #[.int .i64 ke,.int .i64 ae,.string ne,.int .i64 me,.slice p4e n4e c4e,.slice p5e n5e c5e,.slice p6e n6e c6e] 36)) vb [.int .i64 6,.int .i64 nm.a,.string ⟨nm.t.toArray⟩,.int .i64 0,.slice none 0 0,.slice (some ⟨W.heap.size,0,none⟩) 1 1,.slice none 0 0]) w.heap.size vb 36 (encE 26 36 (.mk 6 nm.a nm.t 0 [] [e] [])) [.int .i64 6,.int .i64 nm.a,.string ⟨nm.t.toArray⟩,.int .i64 0,.slice none 0 0,.slice (some ⟨W.heap.size,0,none⟩) 1 1,.slice none 0 0]:=(Lb5.out.alloc (.cells #[.int .i64 ke,.int .i64 ae,.string ne,.int .i64 me,.slice p4e n4e c4e,.slice p5e n5e c5e,.slice p6e n6e c6e] 36)).put rfl C3;have pp:=(P5.out.alloc (.cells #[.int .i64 ke,.int .i64 ae,.string ne,.int .i64 me,.slice p4e n4e c4e,.slice p5e n5e c5e,.slice p6e n6e c6e] 36)).putL (Lb5.out.alloc (.cells #[.int .i64 ke,.int .i64 ae,.string ne,.int .i64 me,.slice p4e n4e c4e,.slice p5e n5e c5e,.slice p6e n6e c6e] 36)).blk (by decide) HVB.out [.int .i64 6,.int .i64 nm.a,.string ⟨nm.t.toArray⟩,.int .i64 0,.slice none 0 0,.slice (some ⟨W.heap.size,0,none⟩) 1 1,.slice none 0 0];refine⟨⟨.mk 6 nm.a nm.t 0 [] [e] [],r5,_,n',?_,pp,(F5.out.alloc (.cells #[.int .i64 ke,.int .i64 ae,.string ne,.int .i64 me,.slice p4e n4e c4e,.slice p5e n5e c5e,.slice p6e n6e c6e] 36)).putL (Nat.le_of_lt Lb5.out.lt) [.int .i64 6,.int .i64 nm.a,.string ⟨nm.t.toArray⟩,.int .i64 0,.slice none 0 0,.slice (some ⟨W.heap.size,0,none⟩) 1 1,.slice none 0 0],(ZaS vb _ _ _ _ (Nat.ne_of_lt Lb5.out.lt)).trans (Zab A5.out (.cells #[.int .i64 ke,.int .i64 ae,.string ne,.int .i64 me,.slice p4e n4e c4e,.slice p5e n5e c5e,.slice p6e n6e c6e] 36)),?_,⟨_,lw⟩,HQ5⟩,?_⟩
    ·have:=HSX.out;have:=HTL.out;have:=HN.out;omega
    ·rw[(ZaW vb [.int .i64 6,.int .i64 nm.a,.string ⟨nm.t.toArray⟩,.int .i64 0,.slice none 0 0,.slice (some ⟨W.heap.size,0,none⟩) 1 1,.slice none 0 0] 0 (W.alloc (.cells #[.int .i64 ke,.int .i64 ae,.string ne,.int .i64 me,.slice p4e n4e c4e,.slice p5e n5e c5e,.slice p6e n6e c6e] 36))).2.2.2];have:=Z5.out;simp;omega
    ·rw[pp.left,HLE.out];have:=HSX.out;have:=HTL.out;omega
   | false=>
    simp only[hm,ff,if_false] at p4;have P4:=Hd p4;have hun:ZbD (exp k) n e ts'=.ok e ts' []:=by
     cases n with
     | zero=>rfl
     | succ n=>rw[ZbD,HM3.out,hm];rfl
    have HW:=Hd (show res=.ok e ts' (ds'++[]) by rw[hq.out,hun];rfl);have HTH:=Hd (Zaf A4.out rfl);obtain⟨⟨g0,g1,g2,g3,g4,g5,g6⟩,-⟩:=Zai (t:=36) Lb4.out.blk;clear hm p4 hq hun;go_wp2_with (first | (refine Zaa rfl 36 (.tmp 4) (.tmp 15) rfl w.heap.size _ rfl rfl HTH.out Zbi (all_oneCell_toArray (by simp[Value.oneCell'])) ?_;intro W9 hW9))
    have e9:W9=putL w4 w.heap.size [.int .i64 ke,.int .i64 ae,.string ne,.int .i64 me,.slice p4e n4e c4e,.slice p5e n5e c5e,.slice p6e n6e c6e]:=hW9.out;subst e9;exact ZcC rfl rfl rfl (Zam (vs:=[_,_,_,_,_,_,_]) A4.out rfl) (ZdE HW.out A4.out F4.out (P4.out.told_eq (by simp)) HPB.out (Lb4.out.data.mono (fun b _ hb=>hb.1)))
def BrIs (B M:Nat)(w:World)(pb:Nat)(all r:List Tk)(tl:List Dn)(vb:Nat)(y:PE)(wx:World):Prop:=
 PS B M wx pb all r tl∧Fr B w wx∧wx.heap[w.heap.size]?=some zE∧∃cs,Lv wx w.heap.size vb 36 (encE 26 36 y) cs
section
variable {B M : Nat} {w w3 : World} {pb : Nat} {all r : List Tk} {tl : List Dn} {vb a : Nat} {x : PE} {t : PT} {csx cst : List Value}
abbrev brV (a gx gt:Nat):List Value:=[.int .i64 11,.int .i64 a,.string ⟨#[]⟩,.int .i64 0,.slice none 0 0,.slice (some ⟨gx,0,none⟩) 1 1,.slice (some ⟨gt,0,none⟩) 1 1]
theorem ZlE{W:World}{gx gt:Nat}(hF:Fr B w W)(hP:PS B M W pb all r tl)(hA:W.heap[w.heap.size]?=some zE){cs:List Value}(hb:W.heap[vb]?=some (.cells (brV a gx gt).toArray 36 (0,0)))(hlt:w.heap.size<vb)(_:cs=brV a gx gt)
  (hx:IsC (fun b=>w.heap.size<b∧b≠vb) W (.row 36 7 1 (Zaw 26 36 [x])) (.slice (some ⟨gx,0,none⟩) 1 1)) (ht:IsC (fun b=>w.heap.size<b∧b≠vb) W (.row 26 4 1 (Zau 26 [t])) (.slice (some ⟨gt,0,none⟩) 1 1)) :
  BrIs B M w pb all r tl vb (.mk 11 a [] 0 [] [x] [t]) W:=
 ⟨hP,hF,hA,brV a gx gt,hb,by decide,hlt,(IsCs.cons (IsC.num _ _ 11) (IsCs.cons (IsC.num _ _ a) (IsCs.cons (IsC.str _ _ []) (IsCs.cons (IsC.num _ _ 0) (IsCs.cons (IsC.none _ _ 1 (e:=9) (by decide)) (IsCs.cons hx (IsCs.cons ht (IsCs.nil _ _)))))))).mono (fun b _ hb=>hb.1)⟩
variable (hF : Fr B w w3) (hP : PS B M w3 pb all r tl) (hA : w3.heap[w.heap.size]? = some zE) (hL : Lw w3 w.heap.size vb 36 (encE 26 36 x) csx) (hT : IsCs (fun b => w.heap.size < b ∧ b ≠ vb) w3 (encT 26 t) cst) (hpb : pb < vb)
include hF hP hA hL hT hpb
theorem ZlD (vs:List Value):Fr B w (putL w3 vb vs)∧PS B M (putL w3 vb vs) pb all r tl∧(putL w3 vb vs).heap[w.heap.size]?=some zE∧(putL w3 vb vs).heap.size=w3.heap.size∧(vs.length=7→(putL w3 vb vs).heap[vb]?=some (.cells vs.toArray 36 (0,0)))∧IsCs (fun b=>w.heap.size<b∧b≠vb) (putL w3 vb vs) (Zaw 26 36 [x]) csx∧IsCs (fun b=>w.heap.size<b∧b≠vb) (putL w3 vb vs) (Zau 26 [t]) cst∧csx.length=1*7∧cst.length=1*4∧vb<w3.heap.size:=by
 have h7:csx.length=7:=by rw[hL.data.length,ZaB]
 refine⟨hF.putL (Nat.le_of_lt hL.lt) vs,hP.putL hL.blk (by decide) hpb vs,(ZaS vb _ _ _ _ (Nat.ne_of_lt hL.lt)).trans hA,(ZaW vb vs 0 w3).2.2.2,fun h=>Zam hL.blk (by simp[h,h7]),?_,?_,by omega,by rw[hT.length,Zas],(gE hL.blk).1⟩
 ·have:=hL.data.putL vb (fun k hk=>hk.2) vs
  simpa[Zaw] using this
 ·have:=hT.putL vb (fun k hk=>hk.2) vs
  simpa[Zau] using this
theorem br_xt:BrIs B M w pb all r tl vb (.mk 11 a [] 0 [] [x] [t]) (((((((((w3.setCell ⟨vb,0,none⟩ (.int .i64 11)).setCell ⟨vb,1,none⟩ (.int .i64 a)).setCell ⟨vb,2,none⟩ (.string ⟨#[]⟩)).setCell ⟨vb,3,none⟩ (.int .i64 0)).setCell ⟨vb,4,none⟩ (.slice none 0 0)).setCell ⟨vb,5,none⟩ (.slice (some ⟨w3.heap.size,0,none⟩) 1 1)).setCell ⟨vb,6,none⟩ (.slice (some ⟨w3.heap.size+1,0,none⟩) 1 1)).alloc (.cells csx.toArray 36)).alloc (.cells cst.toArray 26)):=by
 show BrIs B M w pb all r tl vb (.mk 11 a [] 0 [] [x] [t]) (((putL w3 vb (brV a w3.heap.size (w3.heap.size+1))).alloc (.cells csx.toArray 36)).alloc (.cells cst.toArray 26));obtain⟨f,p,a1,s,hb,dx,dt,lx,lt,hv⟩:=ZlD hF hP hA hL hT hpb (brV a w3.heap.size (w3.heap.size+1));have hz:=hL.lt;have rx:=ZaK (e:=36) (size:=7) (n:=1) (g:=w3.heap.size) (by decide) s ⟨by omega,by omega⟩ (by decide) lx dx;have rt:=ZaK (e:=26) (size:=4) (n:=1) (g:=w3.heap.size+1) (by decide) (by rw[World.size_alloc,s]) ⟨by omega,by omega⟩ (by decide) lt (dt.below ((Below.refl _ _).alloc (nl _) (.cells csx.toArray 36)));exact ZlE ((f.alloc _).alloc _) ((p.alloc _).alloc _) (Zab (Zab a1 _) _) (Zab (Zab (hb rfl) _) _) hL.lt rfl (rx.below ((Below.refl _ _).alloc (nl _) _)) rt
theorem br_tx:BrIs B M w pb all r tl vb (.mk 11 a [] 0 [] [x] [t]) (((((((((w3.setCell ⟨vb,0,none⟩ (.int .i64 11)).setCell ⟨vb,1,none⟩ (.int .i64 a)).setCell ⟨vb,2,none⟩ (.string ⟨#[]⟩)).setCell ⟨vb,3,none⟩ (.int .i64 0)).setCell ⟨vb,4,none⟩ (.slice none 0 0)).setCell ⟨vb,5,none⟩ (.slice (some ⟨w3.heap.size+1,0,none⟩) 1 1)).setCell ⟨vb,6,none⟩ (.slice (some ⟨w3.heap.size,0,none⟩) 1 1)).alloc (.cells cst.toArray 26)).alloc (.cells csx.toArray 36)):=by
 show BrIs B M w pb all r tl vb (.mk 11 a [] 0 [] [x] [t]) (((putL w3 vb (brV a (w3.heap.size+1) w3.heap.size)).alloc (.cells cst.toArray 26)).alloc (.cells csx.toArray 36));obtain⟨f,p,a1,s,hb,dx,dt,lx,lt,hv⟩:=ZlD hF hP hA hL hT hpb (brV a (w3.heap.size+1) w3.heap.size);have hz:=hL.lt;have rt:=ZaK (e:=26) (size:=4) (n:=1) (g:=w3.heap.size) (by decide) s ⟨by omega,by omega⟩ (by decide) lt dt;have rx:=ZaK (e:=36) (size:=7) (n:=1) (g:=w3.heap.size+1) (by decide) (by rw[World.size_alloc,s]) ⟨by omega,by omega⟩ (by decide) lx (dx.below ((Below.refl _ _).alloc (nl _) (.cells cst.toArray 26)));exact ZlE ((f.alloc _).alloc _) ((p.alloc _).alloc _) (Zab (Zab a1 _) _) (Zab (Zab (hb rfl) _) _) hL.lt rfl rx (rt.below ((Below.refl _ _).alloc (nl _) _))
theorem br_t{gx:Nat}(hX:w3.heap[gx]?=some (.cells csx.toArray 36 (0,0)))(hgx:vb<gx):BrIs B M w pb all r tl vb (.mk 11 a [] 0 [] [x] [t]) ((((((((w3.setCell ⟨vb,0,none⟩ (.int .i64 11)).setCell ⟨vb,1,none⟩ (.int .i64 a)).setCell ⟨vb,2,none⟩ (.string ⟨#[]⟩)).setCell ⟨vb,3,none⟩ (.int .i64 0)).setCell ⟨vb,4,none⟩ (.slice none 0 0)).setCell ⟨vb,5,none⟩ (.slice (some ⟨gx,0,none⟩) 1 1)).setCell ⟨vb,6,none⟩ (.slice (some ⟨w3.heap.size,0,none⟩) 1 1)).alloc (.cells cst.toArray 26)):=by
 show BrIs B M w pb all r tl vb (.mk 11 a [] 0 [] [x] [t]) ((putL w3 vb (brV a gx w3.heap.size)).alloc (.cells cst.toArray 26));obtain⟨f,p,a1,s,hb,dx,dt,lx,lt,hv⟩:=ZlD hF hP hA hL hT hpb (brV a gx w3.heap.size);have hz:=hL.lt;have rt:=ZaK (e:=26) (size:=4) (n:=1) (g:=w3.heap.size) (by decide) s ⟨by omega,by omega⟩ (by decide) lt dt;have hX':(putL w3 vb (brV a gx w3.heap.size)).heap[gx]?=some (.cells csx.toArray 36 (0,0)):=(ZaS vb _ _ _ _ (Nat.ne_of_gt hgx)).trans hX;have rx:IsC (fun b=>w.heap.size<b∧b≠vb) (putL w3 vb (brV a gx w3.heap.size)) (.row 36 7 1 (Zaw 26 36 [x])) (.slice (some ⟨gx,0,none⟩) 1 1):=
  IsC.row (base:=0) (xs:=csx) (by decide) ⟨lx,.inr ⟨gx,1,csx.toArray,rfl,Nat.zero_le _,hX',nl _,by decide,by simpa using lx,by rw[←lx];simp⟩⟩ (fun b hb=>by have e:gx=b:=Option.some.inj hb;subst e;exact⟨by omega,by omega⟩) dx
 exact ZlE (f.alloc _) (p.alloc _) (Zab a1 _) (Zab (hb rfl) _) hL.lt rfl (rx.below ((Below.refl _ _).alloc (nl _) _)) rt
end
theorem ZlC{B M:Nat}{pb:Nat}{all:List Tk}(k d:Nat)(hd64:d≤64)
  (HE:∀w ts told,PS B M w pb all ts told→Calls Tryz.prog 47 #[.pointer (some ⟨pb,0,none⟩),.int .i64 ((d+1:Nat):Int)] w (Post B M w pb all told (vE w.heap.size) (exp k ts)))
  (HT:∀w ts told,PS B M w pb all ts told→Calls Tryz.prog 43 #[.pointer (some ⟨pb,0,none⟩),.int .i64 ((d+1:Nat):Int)] w (Post B M w pb all told (vT w.heap.size) (typ k ts)))
  (at_:Nat)
  (w:World) (ts:List Tk) (told:List Dn) (h:PS B M w pb all ts told) :
  Calls Tryz.prog 170 #[.pointer (some ⟨pb,0,none⟩),.int .i64 at_,.int .i64 d] w (Post B M w pb all told (vE w.heap.size) ((exp k ts).bind fun e r=>if isM [58] r then (typ k r.tail).bind fun t r=>(want [41] r).bind fun _ r=>.ok (.mk 11 at_ [] 0 [] [e] [t]) r [] else (want [41] r).bind fun _ r=>.ok e r [])):=by
 have HE:=Hd HE;have HT:=Hd HT;have HPB:=Hd h.lt;have P0:=Hd (h.alloc zE).nil;have A0:=Hd (show (w.alloc zE).heap[w.heap.size]?=some zE from hN w zE);have F0:=Hd ((Fr.refl B w).alloc zE);have Z0:=Hd (show w.heap.size<(w.alloc zE).heap.size by simp);clear h;obtain⟨res,hres⟩:=eX ((exp k ts).bind fun e r=>if isM [58] r then (typ k r.tail).bind fun t r=>(want [41] r).bind fun _ r=>.ok (.mk 11 at_ [] 0 [] [e] [t]) r [] else (want [41] r).bind fun _ r=>.ok e r []);rw[←hres];have HQ0:=Hd (ZjZ hres);clear hres;have HD:=Hd (show ((d:Int)+1)=((d+1:Nat):Int) by omega);have HD1:=Hd (show IntKind.i64.wrap ((d:Int)+1)=((d+1:Nat):Int) by rw[IntKind.wrap_i64];omega);go_enter Tryz.func170,Tryz.ntmps170
 go_wp2_with fail
 rw[HD.out];refine (HE.out _ _ _ P0.out).mono ?_;rintro e w1 ⟨f1,h1⟩;cases hr1:exp k ts with
 | bad y r d=>
  rw[hr1] at h1;obtain⟨rfl,p1⟩:=h1;go_wp2_with fail
  exact Zap rfl (.bad (HQ0.out.trans (by rw[hr1,R.bind_bad,R.tell_bad])) (F0.out.trans f1) p1.assoc)
 | ok x r1 d1=>
 rw[hr1] at h1;obtain⟨⟨cs1,rfl,hcs1⟩,p1⟩:=h1;obtain⟨kLx,aLx,nLx,mLx,p4Lx,n4Lx,c4Lx,p5Lx,n5Lx,c5Lx,p6Lx,n6Lx,c6Lx,rfl⟩:=ZaT hcs1;have HQ1:=Hd (HQ0.out.trans (by rw[hr1,R.bind_ok,R.tell_tell]));have P1:=Hd (p1.assoc.alloc (.cells #[.int .i64 kLx,.int .i64 aLx,.string nLx,.int .i64 mLx,.slice p4Lx n4Lx c4Lx,.slice p5Lx n5Lx c5Lx,.slice p6Lx n6Lx c6Lx] 36));have F1:=Hd ((F0.out.trans f1).alloc (.cells #[.int .i64 kLx,.int .i64 aLx,.string nLx,.int .i64 mLx,.slice p4Lx n4Lx c4Lx,.slice p5Lx n5Lx c5Lx,.slice p6Lx n6Lx c6Lx] 36));have A1:=Hd (Zab (f1.cells A0.out (by decide)) (.cells #[.int .i64 kLx,.int .i64 aLx,.string nLx,.int .i64 mLx,.slice p4Lx n4Lx c4Lx,.slice p5Lx n5Lx c5Lx,.slice p6Lx n6Lx c6Lx] 36));have hz1:=ll Z0.out f1.size;have Z1:=Hd (show w.heap.size<(w1.alloc (.cells #[.int .i64 kLx,.int .i64 aLx,.string nLx,.int .i64 mLx,.slice p4Lx n4Lx c4Lx,.slice p5Lx n5Lx c5Lx,.slice p6Lx n6Lx c6Lx] 36)).heap.size by simp;omega);have Lx1:=Hd (Lw.new (t:=36) (by decide) hz1 Z0.out hcs1);clear hr1 p1 f1 HQ0 P0 F0 A0 Z0;clear hz1 hcs1;go_wp2_with fail
 obtain⟨vb,hvb⟩:=eY (w1.heap.size);rw[hvb] at Lx1;rw[hvb];have HVB:=Hd (show pb<vb by have:=Lx1.out.lt;have:=HPB.out;omega);clear hvb;refine (Zay P1.out [58]).mono ?_;rintro e w2 ⟨rfl,p2,f2⟩;have F2:=Hd (F1.out.trans f2);have A2:=Hd (f2.cells A1.out (by decide));have Z2:=Hd (ll Z1.out f2.size);have Lx2:=Hd (Lx1.out.fr f2);clear f2 P1 F1 A1 Z1 Lx1;cases hm:isM [58] r1 with
 | false=>
  simp only[hm,ff,if_false] at p2;have P2:=Hd p2;have Ly2:=Hd (show Lv w2 w.heap.size vb 36 (encE 26 36 x) _ from⟨Lx2.out.blk,Lx2.out.ty,Lx2.out.lt,Lx2.out.data.mono (fun b _ hb=>hb.1)⟩);have HQ2:=Hd (show res=R.tell ([]++d1) ((want [41] r1).bind fun _ r=>.ok x r []) by rw[HQ1.out,hm];rfl);obtain⟨rr2,hrr⟩:=eX (r1);rw[←hrr] at P2 HQ2;clear hm p2 hrr HQ1;go_wp2_with fail
  refine (ZaU P2.out [41]).mono ?_;rintro e w3 ⟨f3,h3⟩;cases hr3:want [41] rr2 with
  | bad y r d=>
   rw[hr3] at h3;obtain⟨rfl,p3⟩:=h3;go_wp2_with fail
   exact Zap rfl (.bad (HQ2.out.trans (by rw[hr3,R.bind_bad,R.tell_bad])) (F2.out.trans f3) p3.assoc)
  | ok x3 r3 d3=>
  rw[hr3] at h3;obtain⟨h3,p3⟩:=h3;cases h3;have HQ3:=Hd (HQ2.out.trans (by rw[hr3,R.bind_ok,R.tell_tell]));have P3:=Hd p3.assoc;have F3:=Hd (F2.out.trans f3);have A3:=Hd (f3.cells A2.out (by decide));have Z3:=Hd (ll Z2.out f3.size);have Ly3:=Hd (Ly2.out.fr f3);clear hr3 p3 f3 HQ2 P2 F2 A2 Z2 Ly2;obtain⟨⟨g0,g1,g2,g3,g4,g5,g6⟩,-⟩:=Zai (t:=36) Ly3.out.blk;have HTH:=Hd (Zaf A3.out rfl);go_wp2_with (first | (refine Zaa rfl 36 (.tmp 6) (.tmp 25) rfl w.heap.size _ rfl rfl HTH.out Zbi (all_oneCell_toArray (by simp[Value.oneCell'])) ?_;intro W9 hW9))
  have e9:W9=putL w3 w.heap.size [.int .i64 kLx,.int .i64 aLx,.string nLx,.int .i64 mLx,.slice p4Lx n4Lx c4Lx,.slice p5Lx n5Lx c5Lx,.slice p6Lx n6Lx c6Lx]:=hW9.out;subst e9;exact ZcC rfl rfl rfl (Zam (vs:=[_,_,_,_,_,_,_]) A3.out rfl) (ZdE (HQ3.out.trans (by rw[R.tell_ok,List.append_nil])) A3.out F3.out P3.out HPB.out Ly3.out.data)
 | true=>
  simp only[hm,if_true] at p2;have P2:=Hd p2;have HQ2:=Hd (show res=R.tell ([]++d1) ((typ k r1.tail).bind fun t r=>(want [41] r).bind fun _ r=>.ok (.mk 11 at_ [] 0 [] [x] [t]) r []) by rw[HQ1.out,hm];rfl);have hbl:∀o:Obj,Below w2.heap.size w2 (w2.drew.alloc o):=fun o=>(Below.refl _ w2).drew.alloc (nl _) o
  have HBL:=Hd hbl;have HSV:=Hd (show ∀W w',Below w2.heap.size w2 W→Fr B W w'→Sev w' vb 36 (.int .i64 kLx) (.int .i64 aLx) (.string nLx) (.int .i64 mLx) (.slice p4Lx n4Lx c4Lx) (.slice p5Lx n5Lx c5Lx) (.slice p6Lx n6Lx c6Lx) from fun W w' hW hf=>(Lx2.out.below hW).fr hf |>.blk);clear hm p2 HQ1 hbl;cases hr:typ k r1.tail with
  | bad y r3 d3=>
   have HC:Hid (∀W,Below w2.heap.size w2 W→Calls Tryz.prog 43 #[.pointer (some ⟨pb,0,none⟩),.int .i64 (IntKind.i64.wrap ((d:Int)+1))] W fun e w'=>e=.panicked [gv y]∧Fr B w2 w'∧PS B M w' pb all r3 (told++([]++d1)++d3)):=by
    intro W hW;rw[HD1.out];refine (HT.out W r1.tail _ (P2.out.below hW)).mono ?_;rintro e w' ⟨f,h⟩;rw[hr] at h;exact⟨h.1,(Fr.of_below hW).trans f,h.2⟩
   have HW:=Hd (HQ2.out.trans (by rw[hr,R.bind_bad,R.tell_bad]));obtain⟨⟨g0,g1,g2,g3,g4,g5,g6⟩,-⟩:=Zai (show Sev w2 vb 36 (.int .i64 kLx) (.int .i64 aLx) (.string nLx) (.int .i64 mLx) (.slice p4Lx n4Lx c4Lx) (.slice p5Lx n5Lx c5Lx) (.slice p6Lx n6Lx c6Lx) from Lx2.out.blk);clear hr;go_wp2_with fail
   go_region_dies
   all_goals
    refine (HC.out _ ?_).mono ?_
    ·first | exact (Below.refl _ w2).drew | exact HBL.out _ | exact ((Below.refl _ w2).alloc (nl _) _).drew
    rintro e w3 ⟨rfl,f3,p3⟩;exact Zap rfl (.bad HW.out (F2.out.trans f3) p3.assoc)
  | ok t r3 d3=>
   have HC:Hid (∀W,Below w2.heap.size w2 W→Calls Tryz.prog 43 #[.pointer (some ⟨pb,0,none⟩),.int .i64 (IntKind.i64.wrap ((d:Int)+1))] W fun e w'=>((∃cs,e=.returned (.agg cs.toArray)∧IsCs (fun b=>W.heap.size≤b) w' (encT 26 t) cs)∧Fr B W w'∧PS B M w' pb all r3 (told++([]++d1)++d3))∧Below w2.heap.size w2 W):=by
    intro W hW;rw[HD1.out];refine (HT.out W r1.tail _ (P2.out.below hW)).mono ?_;rintro e w' ⟨f,h⟩;rw[hr] at h;obtain⟨⟨cs,h1,h2⟩,h3⟩:=h;exact⟨⟨⟨cs,h1,h2⟩,f,h3⟩,hW⟩
   have HQ3:=Hd (HQ2.out.trans (by rw[hr,R.bind_ok,R.tell_tell]));obtain⟨⟨g0,g1,g2,g3,g4,g5,g6⟩,gz0,gz1,gz2,gz3,gz4,gz5,gz6⟩:=Zai (show Sev w2 vb 36 (.int .i64 kLx) (.int .i64 aLx) (.string nLx) (.int .i64 mLx) (.slice p4Lx n4Lx c4Lx) (.slice p5Lx n5Lx c5Lx) (.slice p6Lx n6Lx c6Lx) from Lx2.out.blk);have hvl:vb<w2.heap.size:=(gE Lx2.out.blk).1;have hvn:¬vb=w2.heap.size:=Nat.ne_of_lt hvl;clear hr;go_upto_region 3 with fail
   go_cut [] from 14 to 22 (fun wx=>BrIs B M w pb all r3 (told++([]++d1++d3)) vb (.mk 11 at_ [] 0 [] [x] [t]) wx)
   case first=>
    go_region_with (go_at_call 43;refine (HC.out _ ?_).mono ?_;(first | exact (Below.refl _ w2).drew | exact HBL.out _ | exact ((Below.refl _ w2).alloc (nl _) _).drew);rintro e w3 ⟨⟨⟨cs,rfl,hcs⟩,f3,p3⟩,hW⟩;obtain⟨tk,tn,a2,n2,c2,a3,n3,c3,rfl⟩:=Zbq hcs;obtain⟨⟨s0,s1,s2,s3,s4,s5,s6⟩,v0,v1,v2,v3,v4,v5,v6⟩:=Zai (HSV.out _ _ hW f3);(have HCS:=Hd hcs);(have F3:=Hd f3);(have P3:=Hd p3);(have HWB:=Hd hW);(have hv3:vb<w3.heap.size:=by have:=hW.size;have:=f3.size;omega);(have hv3':¬vb=w3.heap.size:=Nat.ne_of_lt hv3);clear hcs f3 p3 hW)
    all_goals
     go_wp2_with fail
     go_meet
     have f:=(Fr.of_below (n₀:=B) HWB.out).trans F3.out;have hF:=F2.out.trans f;have hA:=f.cells A2.out (by decide);have hL:=Lx2.out.fr f;have hT:=HCS.out.mono (A':=fun b=>w.heap.size<b∧b≠vb) (fun b _ hb=>by have:=HWB.out.size;have:=Lx2.out.lt;exact⟨by omega,by omega⟩)
     first
      | with_reducible exact br_xt hF P3.out.assoc hA hL hT HVB.out
      | with_reducible exact br_tx hF P3.out.assoc hA hL hT HVB.out
      | exact br_t hF P3.out.assoc hA hL hT HVB.out (F3.out.cells (hN w2 _) (by decide)) hvl
   case rest=>
    obtain⟨hp,hf,ha,cs,hl⟩:=hcut;obtain⟨ky,ay,ny,my,p4y,n4y,c4y,p5y,n5y,c5y,p6y,n6y,c6y,rfl⟩:=ZaT hl.data;obtain⟨w3,rfl⟩:=eX (wc);have P3:=Hd hp;have F3:=Hd hf;have A3:=Hd ha;have Z3:=Hd (gE ha).1;have Ly3:=Hd hl;obtain⟨rr3,hrr⟩:=eX (r3);rw[←hrr] at P3 HQ3;clear hp hf ha hl hrr HQ2 P2 F2 A2 Z2 Lx2 g0 g1 g2 g3 g4 g5 g6 gz0 gz1 gz2 gz3 gz4 gz5 gz6;go_wp2_with fail
    refine (ZaU P3.out [41]).mono ?_;rintro e w4 ⟨f4,h4⟩;cases hr4:want [41] rr3 with
    | bad y r d=>
     rw[hr4] at h4;obtain⟨rfl,p4⟩:=h4;go_wp2_with fail
     exact Zap rfl (.bad (HQ3.out.trans (by rw[hr4,R.bind_bad,R.tell_bad])) (F3.out.trans f4) p4.assoc)
    | ok x4 r4 d4=>
    rw[hr4] at h4;obtain⟨h4,p4⟩:=h4;cases h4;have HQ4:=Hd (HQ3.out.trans (by rw[hr4,R.bind_ok,R.tell_tell]));have P4:=Hd p4.assoc;have F4:=Hd (F3.out.trans f4);have A4:=Hd (f4.cells A3.out (by decide));have Z4:=Hd (ll Z3.out f4.size);have Ly4:=Hd (Ly3.out.fr f4);clear hr4 p4 f4 HQ3 P3 F3 A3 Z3 Ly3;obtain⟨⟨g0,g1,g2,g3,g4,g5,g6⟩,-⟩:=Zai (t:=36) Ly4.out.blk;have HTH:=Hd (Zaf A4.out rfl);go_wp2_with (first | (refine Zaa rfl 36 (.tmp 6) (.tmp 25) rfl w.heap.size _ rfl rfl HTH.out Zbi (all_oneCell_toArray (by simp[Value.oneCell'])) ?_;intro W9 hW9))
    have e9:W9=putL w4 w.heap.size [.int .i64 ky,.int .i64 ay,.string ny,.int .i64 my,.slice p4y n4y c4y,.slice p5y n5y c5y,.slice p6y n6y c6y]:=hW9.out;subst e9;exact ZcC rfl rfl rfl (Zam (vs:=[_,_,_,_,_,_,_]) A4.out rfl) (ZdE (HQ4.out.trans (by rw[R.tell_ok,List.append_nil])) A4.out F4.out P4.out HPB.out Ly4.out.data)
theorem ZjH{B M:Nat}{pb:Nat}{all:List Tk}(d:Nat)(hd:64<d)(w:World)(ts:List Tk)(told:List Dn)(h:PS B M w pb all ts told) :
  Calls Tryz.prog 80 #[.pointer (some ⟨pb,0,none⟩),.int .i64 d] w (Post B M w pb all told (vT w.heap.size) (arr 0 ts)):=by
 have HD:=Hd (Zhj (h.alloc zT) d hd);have p0:=Hd (h.alloc zT);have hF0:=Hd ((Fr.refl B w).alloc zT);have HQ:=Hd (show arr 0 ts=.bad (deep ts) ts [] from rfl);obtain⟨res,hres⟩:=eX (arr 0 ts);rw[←hres];have HR:=Hd (hres.trans HQ.out);clear h hres HQ hd;go_enter Tryz.func80,Tryz.ntmps80
 go_wp2_with fail
 refine HD.out.mono ?_;rintro e w1 ⟨rfl,b1⟩;go_wp2_with fail
 exact Zap rfl (.bad HR.out (hF0.out.below b1) (p0.out.below b1).nil)
theorem Zge{B M:Nat}{pb:Nat}{all:List Tk}(hM:M≤10000000)(hall:∀t∈all,t.t.length≤1000000):∀(n d:Nat),d+n=65→
  (∀w ts told,PS B M w pb all ts told→Calls Tryz.prog 80 #[.pointer (some ⟨pb,0,none⟩),.int .i64 d] w (Post B M w pb all told (vT w.heap.size) (arr n ts)))∧
  (∀w ts told,PS B M w pb all ts told→Calls Tryz.prog 43 #[.pointer (some ⟨pb,0,none⟩),.int .i64 d] w (Post B M w pb all told (vT w.heap.size) (typ n ts)))
 | 0,d,h=>by
  have ha:=fun w ts told (hp:PS B M w pb all ts told)=>ZjH d (by omega) w ts told hp
  exact⟨ha,fun w ts told hp=>ZjR 0 d ha w ts told hp⟩
 | n+1,d,h=>by
  obtain⟨ha,ht⟩:=Zge hM hall n (d+1) (by omega);have hr:=fun w ts told (hp:PS B M w pb all ts told)=>Zoa hM hall n d (by omega) ht w ts told hp
  have hpl:=fun w ts told (hp:PS B M w pb all ts told)=>ZkG n d (by omega) ht hr w ts told hp
  have har:∀w ts told,PS B M w pb all ts told→Calls Tryz.prog 80 #[.pointer (some ⟨pb,0,none⟩),.int .i64 d] w (Post B M w pb all told (vT w.heap.size) (arr (n+1) ts)):=fun w ts told hp=>ZlM n d (by omega) hpl ha w ts told hp
  exact⟨har,fun w ts told hp=>ZjR (n+1) d har w ts told hp⟩
theorem ZhN{B M:Nat}{pb:Nat}{all:List Tk}(hM:M≤10000000)(hall:∀t∈all,t.t.length≤1000000)(hnum:∀t∈all,t.k=3→NumT t.t):∀(n d:Nat),d+n=65→
  ∀w ts told,PS B M w pb all ts told→Calls Tryz.prog 47 #[.pointer (some ⟨pb,0,none⟩),.int .i64 d] w (Post B M w pb all told (vE w.heap.size) (exp n ts))
 | 0,d,h=>fun w ts told hp=>Zlj d (by omega) w ts told hp
 | n+1,d,h=>by
  have he:=ZhN (B:=B) (pb:=pb) hM hall hnum n (d+1) (by omega);have ht:=(Zge (B:=B) (pb:=pb) hM hall n (d+1) (by omega)).2;have hd:d≤64:=by omega
  have hr:=fun (a:Nat) w ts told (hp:PS B M w pb all ts told)=>Zmf hM hall n d hd he a w ts told hp
  have hb:=fun (a:Nat) w ts told (hp:PS B M w pb all ts told)=>ZlC n d hd he ht a w ts told hp
  have hba:=fun w ts told (hp:PS B M w pb all ts told)=>ZlG n d hd hnum hr hb w ts told hp
  have hc:=fun w ts told (hp:PS B M w pb all ts told)=>Zm8 n d hd he hba w ts told hp
  have hf:=fun (a:Nat) w ts told (hp:PS B M w pb all ts told)=>ZoT n d hd he ht a w ts told hp
  have hl:=fun (a:Nat) w ts told (hp:PS B M w pb all ts told)=>ZoG n d hd he a w ts told hp
  have hi:=fun (a:Nat) w ts told (hp:PS B M w pb all ts told)=>if_any n d hd he a w ts told hp
  exact fun w ts told hp=>ZmP n d hd hf hl hi hc w ts told hp
end Go.Proofs.YtijnjoonbjdafaaGreatDoor

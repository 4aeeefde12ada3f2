import Derived.Test.YtijnjoonbjdafaaGreatDoorEyM
import Derived.Test.YtijnjoonbjdafaaGreatDoorRxM
namespace Go.Proofs.YtijnjoonbjdafaaGreatDoor
set_option maxHeartbeats 20000000
set_option maxRecDepth 20000
open Go.RowKit Go.Shelf
def Fiv (w:World)(b:Nat)(t:TypeId)(v0 v1 v2 v3 v4:Value):Prop:=w.heap[b]?=some (.cells #[v0,v1,v2,v3,v4] t (0,0))
theorem Zat{w:World}{b:Nat}{t:TypeId}{v0 v1 v2 v3 v4:Value}(h:Fiv w b t v0 v1 v2 v3 v4) :
  (w.cell? ⟨b,0,none⟩=some v0∧w.cell? ⟨b,1,none⟩=some v1∧w.cell? ⟨b,2,none⟩=some v2∧w.cell? ⟨b,3,none⟩=some v3∧w.cell? ⟨b,4,none⟩=some v4)∧
  w.frozen? ⟨b,0,none⟩=false∧w.frozen? ⟨b,1,none⟩=false∧w.frozen? ⟨b,2,none⟩=false∧w.frozen? ⟨b,3,none⟩=false∧w.frozen? ⟨b,4,none⟩=false:=by
 unfold Fiv at h;simp[World.cell?,World.frozen?,h]
theorem Zkk{f:Func}{R:Ending→World→Prop}{a:Act}{w:World}{b s:Nat}{u0 u1 u2 u3 u4:Value}(hf:f.results=#[.cell s 61])(ht:a.eval (.tmp s)=.pointer (some ⟨b,0,none⟩))(hd:a.defers=[])
  (h:Fiv w b 61 u0 u1 u2 u3 u4) (hR:R (.returned (.agg #[u0,u1,u2,u3,u4])) w):bodyPost Tryz.prog f R Exit.ret a w:=by
 obtain⟨⟨c0,c1,c2,c3,c4⟩,-⟩:=Zat h;refine bodyPost_ret ?_ hd hR;simp[Act.eval] at ht;simp[results,hf,go_sem,c0,c1,c2,c3,c4,ht]
theorem ZdN:(Tryz.prog.info? 61).map (·.size)=some 5:=by kernel_rfl
abbrev zD:Obj:=.cells #[.int .i64 0,.int .i64 0,.string ⟨#[]⟩,.slice none 0 0,.slice none 0 0] 61
def vD (lo:Nat)(t:PD)(e:Ending)(w':World):Prop:=∃cs,e=.returned (.agg cs.toArray)∧IsCs (fun b=>lo≤b) w' (encD 26 36 t) cs
theorem Zfi{A:Nat→Prop}{w:World}{t:PD}{cs:List Value}(h:IsCs A w (encD 26 36 t) cs):∃(k a:Int) (n:ByteArray) (a3:Option Addr) (n3 c3:Nat) (a4:Option Addr) (n4 c4:Nat),cs=[.int .i64 k,.int .i64 a,.string n,.slice a3 n3 c3,.slice a4 n4 c4]:=by
 obtain⟨k,a,n,l,ts⟩:=t;simp only[encD] at h;obtain⟨x0,ys,rfl,h0,h⟩:=h.uncons;obtain⟨x1,ys,rfl,h1,h⟩:=h.uncons;obtain⟨x2,ys,rfl,h2,h⟩:=h.uncons;obtain⟨x3,ys,rfl,h3,h⟩:=h.uncons;obtain⟨x4,ys,rfl,h4,h⟩:=h.uncons;simp only[IsCs] at h;subst h;simp only[IsC] at h0 h1 h2;subst h0 h1 h2;obtain⟨a3,c3,rfl⟩:=Zbb h3;obtain⟨a4,c4,rfl⟩:=Zbb h4;exact⟨_,_,_,_,_,_,_,_,_,rfl⟩
theorem Zlc{α:Type}{B M:Nat}{w W:World}{pb:Nat}{all:List Tk}{told:List Dn}{val:α→PD}{res:R α}{x:α}{r:List Tk}{d:List Dn}{cs:List Value}{rb:Nat}{o:Obj}(hq:res=.ok x r d)(hA:W.heap[rb]?=some o)(ho:∃c,o=.cells c 61 (0,0))(hlo:w.heap.size≤rb)(hF:Fr B w W)(hP:PS B M W pb all r (told++d))(hpb:pb<rb)(hc:IsCs (fun b=>w.heap.size≤b∧b≠rb) W (encD 26 36 (val x)) cs) :
  Post B M w pb all told (fun x=>vD w.heap.size (val x)) res (.returned (.agg cs.toArray)) (putL W rb cs):=by
 obtain⟨c,rfl⟩:=ho;exact .ok hq (hF.putL hlo cs) ⟨cs,rfl,(hc.putL _ (fun b hb=>hb.2) cs).mono (fun b _ hb=>hb.1)⟩ (hP.putL hA (by decide) hpb cs)
theorem ZjO (A:Nat→Prop)(w:World)(k a:Nat)(n:Bs):IsCs A w (encD 26 36 ⟨k,a,n,[],[]⟩) [.int .i64 k,.int .i64 a,.string ⟨n.toArray⟩,.slice none 0 0,.slice none 0 0]:=by
 simp only[encD,Zaw,Zau,lN];exact .cons (.num _ _ _) (.cons (.num _ _ _) (.cons (.str _ _ _) (.cons (.none _ _ _ (by decide)) (.cons (.none _ _ _ (by decide)) (.nil _ _)))))
theorem Lw.setAlloc{w:World}{lo b:Nat}{t:TypeId}{l l':List Dt}{cs cs':List Value}(h:Lw w lo b t l cs)(i:Nat)(v:Value)(o:Obj)(hcs:cs'=cs.set i v)(h':IsCs (fun k=>lo<k∧k≠b) (w.alloc o) l' cs'):Lw ((w.setCell ⟨b,i,none⟩ v).alloc o) lo b t l' cs':=by
 subst hcs;have hb:=heap_setCell_same w b i _ _ v h.blk;refine⟨Zab (by simpa using hb) o,h.ty,h.lt,IsCs.kept (S:=fun k=>k=b) (by simp[World.setCell]) (fun k hk hn=>?_) (fun k hk=>hk.2) _ _ h'⟩;simp only[World.alloc,Array.getElem?_push];have hs:(w.setCell ⟨b,i,none⟩ v).heap.size=w.heap.size:=by simp[World.setCell]
 rw[hs];split
 ·rfl
 ·exact Below.heap_setCell w ⟨b,i,none⟩ v k hn
theorem Ze3{B M:Nat}{pb:Nat}{all:List Tk}(kind:Nat)(w:World)(ts:List Tk)(told:List Dn)(h:PS B M w pb all ts told) :
  Calls Tryz.prog 97 #[.pointer (some ⟨pb,0,none⟩),.int .i64 kind] w (Post B M w pb all told (fun nm=>vD w.heap.size ⟨kind,nm.a,nm.t,[],[]⟩) (Zaj ts)):=by
 have HPB:=Hd h.lt;have P0:=Hd (h.alloc zD).nil;have A0:=Hd (show (w.alloc zD).heap[w.heap.size]?=some zD from hN w zD);have F0:=Hd ((Fr.refl B w).alloc zD);have Z0:=Hd (show w.heap.size<(w.alloc zD).heap.size by simp);clear h;obtain⟨res,hres⟩:=eX (Zaj ts);rw[←hres];have HQ0:=Hd hres;clear hres;go_enter Tryz.func97,Tryz.ntmps97
 go_wp2_with fail
 refine (ZbW P0.out).mono ?_;rintro e w1 ⟨f1,h1⟩;cases hr1:Zaj ts with
 | bad y r d=>
  rw[hr1] at h1;obtain⟨rfl,p1⟩:=h1;go_wp2_with fail
  exact Zap rfl (.bad (HQ0.out.trans hr1) (F0.out.trans f1) (p1.told_eq (by simp)))
 | ok nm r d=>
  rw[hr1] at h1;obtain⟨h1,p1⟩:=h1;cases h1;have HW:=Hd (HQ0.out.trans hr1);have P1:=Hd ((p1.told_eq (show _=told++d by simp)).alloc (.cells #[.int .i64 nm.k,.int .i64 nm.a,.string ⟨nm.t.toArray⟩] 105));have F1:=Hd ((F0.out.trans f1).alloc (.cells #[.int .i64 nm.k,.int .i64 nm.a,.string ⟨nm.t.toArray⟩] 105));have A1:=Hd (Zab (f1.cells A0.out (by decide)) (.cells #[.int .i64 nm.k,.int .i64 nm.a,.string ⟨nm.t.toArray⟩] 105));have T1:Thr (w1.alloc (.cells #[.int .i64 nm.k,.int .i64 nm.a,.string ⟨nm.t.toArray⟩] 105)) w1.heap.size 105 _ _ _:=ZaI w1 105 _ _ _;have HTH:=Hd (Zaf A1.out rfl);clear hr1 p1 f1 HQ0 P0 F0 A0 Z0;unfold tokV;go_upto_region 2 with fail
  obtain⟨W,hW⟩:=eY (w1.alloc (.cells #[.int .i64 nm.k,.int .i64 nm.a,.string ⟨nm.t.toArray⟩] 105));rw[hW] at P1 F1 A1 T1 HTH;rw[hW];obtain⟨⟨t0,t1,t2⟩,-⟩:=Zan T1;clear hW T1;go_wp2_with (first | (refine Zaa rfl 61 (.tmp 4) (.tmp 13) rfl w.heap.size _ rfl rfl HTH.out ZdN (all_oneCell_toArray (by simp[Value.oneCell'])) ?_;intro W9 hW9))
  have e9:W9=putL W w.heap.size [.int .i64 kind,.int .i64 nm.a,.string ⟨nm.t.toArray⟩,.slice none 0 0,.slice none 0 0]:=hW9.out;subst e9;exact Zkk rfl rfl rfl (Zam (vs:=[_,_,_,_,_]) A1.out rfl) (Zlc (val:=fun nm=>⟨kind,nm.a,nm.t,[],[]⟩) HW.out A1.out ⟨_,rfl⟩ (nl _) F1.out P1.out HPB.out (ZjO _ _ kind nm.a nm.t))
theorem mF5 {n₀:Nat}{W W':World}{b:Nat}{t:TypeId}{u0 u1 u2 u3 u4:Value}(hF:Fr n₀ W W') (h:Hid (Fiv W b t u0 u1 u2 u3 u4)) (ht:stT t=false):Hid (Fiv W' b t u0 u1 u2 u3 u4):=Hd (show Fiv W' b t u0 u1 u2 u3 u4 from hF.cells h.out ht)
theorem mB5 {W W':World}{b:Nat}{t:TypeId}{u0 u1 u2 u3 u4:Value}(hb:Below W.heap.size W W') (h:Hid (Fiv W b t u0 u1 u2 u3 u4)):Hid (Fiv W' b t u0 u1 u2 u3 u4):=Hd (show Fiv W' b t u0 u1 u2 u3 u4 from (hb.block _ (gE h.out).1).trans h.out)
theorem setT{A:Nat→Prop}{w:World}{d:PD}{cs:List Value}{v:Value}{t:PT}(h:IsCs A w (encD 26 36 d) cs)(hv:IsC A w (.row 26 4 1 (Zau 26 [t])) v):IsCs A w (encD 26 36 ⟨d.k,d.a,d.n,[t],d.es⟩) (cs.set 3 v):=by
 simp only[encD] at h;obtain⟨x0,ys,rfl,h0,h⟩:=h.uncons;obtain⟨x1,ys,rfl,h1,h⟩:=h.uncons;obtain⟨x2,ys,rfl,h2,h⟩:=h.uncons;obtain⟨x3,ys,rfl,h3,h⟩:=h.uncons;exact .cons h0 (.cons h1 (.cons h2 (.cons hv h)))
theorem setE{A:Nat→Prop}{w:World}{d:PD}{cs:List Value}{v:Value}{t:PE}(h:IsCs A w (encD 26 36 d) cs)(hv:IsC A w (.row 36 7 1 (Zaw 26 36 [t])) v):IsCs A w (encD 26 36 ⟨d.k,d.a,d.n,d.ts,[t]⟩) (cs.set 4 v):=by
 simp only[encD] at h;obtain⟨x0,ys,rfl,h0,h⟩:=h.uncons;obtain⟨x1,ys,rfl,h1,h⟩:=h.uncons;obtain⟨x2,ys,rfl,h2,h⟩:=h.uncons;obtain⟨x3,ys,rfl,h3,h⟩:=h.uncons;obtain⟨x4,ys,rfl,h4,h⟩:=h.uncons;exact .cons h0 (.cons h1 (.cons h2 (.cons h3 (.cons hv h))))
theorem Zou{B M:Nat}{pb:Nat}{all:List Tk}{w:World}{ts:List Tk}{told:List Dn}(h:PS B M w pb all ts told) :
  Calls Tryz.prog 97 #[.pointer (some ⟨pb,0,none⟩),.int .i64 1] w (Post B M w pb all told (fun nm=>vD w.heap.size ⟨1,nm.a,nm.t,[],[]⟩) (Zaj ts)):=Ze3 1 w ts told h
theorem Zot{B M:Nat}{pb:Nat}{all:List Tk}{w:World}{ts:List Tk}{told:List Dn}(h:PS B M w pb all ts told) :
  Calls Tryz.prog 97 #[.pointer (some ⟨pb,0,none⟩),.int .i64 2] w (Post B M w pb all told (fun nm=>vD w.heap.size ⟨2,nm.a,nm.t,[],[]⟩) (Zaj ts)):=Ze3 2 w ts told h
theorem Zos{B M:Nat}{pb:Nat}{all:List Tk}{w:World}{ts:List Tk}{told:List Dn}(h:PS B M w pb all ts told) :
  Calls Tryz.prog 97 #[.pointer (some ⟨pb,0,none⟩),.int .i64 3] w (Post B M w pb all told (fun nm=>vD w.heap.size ⟨3,nm.a,nm.t,[],[]⟩) (Zaj ts)):=Ze3 3 w ts told h
theorem ZmT{B M:Nat}{pb:Nat}{all:List Tk}
  (HT:∀w ts told,PS B M w pb all ts told→Calls Tryz.prog 43 #[.pointer (some ⟨pb,0,none⟩),.int .i64 1] w (Post B M w pb all told (vT w.heap.size) (typ 64 ts)))
  (HE:∀w ts told,PS B M w pb all ts told→Calls Tryz.prog 47 #[.pointer (some ⟨pb,0,none⟩),.int .i64 1] w (Post B M w pb all told (vE w.heap.size) (exp 64 ts)))
  (w:World) (ts:List Tk) (told:List Dn) (h:PS B M w pb all ts told) :
  Calls Tryz.prog 55 #[.pointer (some ⟨pb,0,none⟩)] w (Post B M w pb all told (vD w.heap.size) (ZbI ts)):=by
 have HT:=Hd HT;have HE:=Hd HE;have HPB:=Hd h.lt;obtain⟨W0,hW0⟩:=eY ((w.alloc zD).alloc zD);obtain⟨vb,hvb⟩:=eY (w.heap.size+1);have P0:=Hd (show PS B M W0 pb all ts (told++[]) by rw[←hW0];exact ((h.alloc zD).alloc zD).nil);have A0:=Hd (show W0.heap[w.heap.size]?=some zD by rw[←hW0];exact Zab (hN w zD) zD);have F0:=Hd (show Fr B w W0 by rw[←hW0];exact ((Fr.refl B w).alloc zD).alloc zD);have Z0:=Hd (show w.heap.size<W0.heap.size by rw[←hW0];simp;omega);have Lb0:=Hd (show Lw W0 w.heap.size vb 61 (encD 26 36 ⟨0,0,[],[],[]⟩) [.int .i64 0,.int .i64 0,.string ⟨#[]⟩,.slice none 0 0,.slice none 0 0] from⟨by
  rw[←hW0,←hvb];have:=hN (w.alloc zD) zD
  simpa using this,by decide,by omega,ZjO _ _ 0 0 []⟩)
 have HVB:=Hd (show pb<vb by have:=HPB.out;omega);have HW0:=Hd hW0;have HVV:=Hd hvb;obtain⟨res,hres⟩:=eX (ZbI ts);rw[←hres];have HQ:=Hd hres;clear h hW0 hvb hres;go_enter Tryz.func55,Tryz.ntmps55
 go_upto_region 8 with fail
 rw[HW0.out,HVV.out];go_wp2_with fail
 refine (Zay P0.out [117,115,101]).mono ?_;rintro e w1 ⟨rfl,p1,f1⟩;have F1:=Hd (F0.out.trans f1);have A1:=Hd (f1.cells A0.out (by decide));have Z1:=Hd (ll Z0.out f1.size);have Lb1:=Hd (Lb0.out.fr f1);clear f1 P0 F0 A0 Z0 Lb0;cases hm1:isM [117,115,101] ts with
 | true=>
  simp only[hm1,if_true] at p1;have P1:=Hd p1;have HQ1:=Hd (show res=R.tell [] ((Zaj ts.tail).bind fun nm r=>(want [59] r).bind fun _ r=>.ok ⟨1,nm.a,nm.t,[],[]⟩ r []) by rw[HQ.out,R.tell_nil];simp[ZbI,hm1]);clear hm1 p1;go_wp2_with fail
  refine (Zou P1.out).mono ?_;rintro e w2 ⟨f2,h2⟩;cases hr2:Zaj ts.tail with
  | bad y r d=>
   rw[hr2] at h2;obtain⟨rfl,p2⟩:=h2;go_wp2_with fail
   exact Zap rfl (.bad (HQ1.out.trans (by rw[hr2,R.bind_bad,R.tell_bad])) (F1.out.trans f2) p2.assoc)
  | ok nm r2 d2=>
  rw[hr2] at h2;obtain⟨⟨cs2,rfl,hcs2⟩,p2⟩:=h2;obtain⟨kd2,ad2,nd2,p32,n32,c32,p42,n42,c42,rfl⟩:=Zfi hcs2;have HQ2:=Hd (HQ1.out.trans (by rw[hr2,R.bind_ok,R.tell_tell]));have hl2:=Lb1.out.fr f2;have HL2:=Hd hl2;have HDT2:=Hd (hcs2.mono (A':=fun b=>w.heap.size<b∧b≠vb) (fun b _ hb=>by have:=(gE Lb1.out.blk).1;have:=Lb1.out.lt;exact⟨by omega,by omega⟩));have HTH2:=Hd (Zaf hl2.blk rfl);have HP2:=Hd p2.assoc;have HF2:=Hd (F1.out.trans f2);have HA2:=Hd (f2.cells A1.out (by decide));have HZ2:=Hd (ll Z1.out f2.size);clear hr2 p2 f2 hcs2 hl2 HQ1 P1 F1 A1 Z1 Lb1;go_wp2_with (first | (refine Zaa rfl 61 (.tmp 3) (.tmp 24) rfl vb _ rfl rfl HTH2.out ZdN (all_oneCell_toArray (by simp[Value.oneCell'])) ?_;intro v2 hv2))
  have e2:v2=putL w2 vb [.int .i64 kd2,.int .i64 ad2,.string nd2,.slice p32 n32 c32,.slice p42 n42 c42]:=hv2.out;have Lb2:=Hd (show Lw v2 w.heap.size vb 61 (encD 26 36 ⟨1,nm.a,nm.t,[],[]⟩) [.int .i64 kd2,.int .i64 ad2,.string nd2,.slice p32 n32 c32,.slice p42 n42 c42] by rw[e2];exact HL2.out.put rfl HDT2.out);have P2:=Hd (show PS B M v2 pb all r2 _ by rw[e2];exact HP2.out.putL HL2.out.blk (by decide) HVB.out _);have F2:=Hd (show Fr B w v2 by rw[e2];exact HF2.out.putL (Nat.le_of_lt HL2.out.lt) _);have A2:=Hd (show v2.heap[w.heap.size]?=some zD by rw[e2];exact (ZaS vb _ _ _ _ (Nat.ne_of_lt HL2.out.lt)).trans HA2.out);have Z2:=Hd (show w.heap.size<v2.heap.size by rw[e2,(ZaW vb _ 0 w2).2.2.2];exact HZ2.out);clear e2 hv2 HL2 HDT2 HTH2 HP2 HF2 HA2 HZ2;refine (ZaU P2.out [59]).mono ?_;rintro e w3 ⟨f3,h3⟩;cases hr3:want [59] r2 with
  | bad y r d=>
   rw[hr3] at h3;obtain⟨rfl,p3⟩:=h3;go_wp2_with fail
   exact Zap rfl (.bad (HQ2.out.trans (by rw[hr3,R.bind_bad,R.tell_bad])) (F2.out.trans f3) p3.assoc)
  | ok x3 r3 d3=>
  rw[hr3] at h3;obtain⟨h3,p3⟩:=h3;cases h3;have HQ3:=Hd (HQ2.out.trans (by rw[hr3,R.bind_ok,R.tell_tell]));have P3:=Hd p3.assoc;have F3:=Hd (F2.out.trans f3);have A3:=Hd (f3.cells A2.out (by decide));have Z3:=Hd (ll Z2.out f3.size);have Lb3:=Hd (Lb2.out.fr f3);clear hr3 p3 f3 HQ2 P2 F2 A2 Z2 Lb2;obtain⟨⟨g0,g1,g2,g3,g4⟩,-⟩:=Zat (show Fiv w3 vb 61 (.int .i64 kd2) (.int .i64 ad2) (.string nd2) (.slice p32 n32 c32) (.slice p42 n42 c42) from Lb3.out.blk);have HTH:=Hd (Zaf A3.out rfl);go_wp2_with (first | (refine Zaa rfl 61 (.tmp 2) (.tmp 38) rfl w.heap.size _ rfl rfl HTH.out ZdN (all_oneCell_toArray (by simp[Value.oneCell'])) ?_;intro W9 hW9))
  have e9:W9=putL w3 w.heap.size [.int .i64 kd2,.int .i64 ad2,.string nd2,.slice p32 n32 c32,.slice p42 n42 c42]:=hW9.out;subst e9;exact Zkk rfl rfl rfl (Zam (vs:=[_,_,_,_,_]) A3.out rfl) (Zlc (val:=fun x=>x) (HQ3.out.trans (by rw[R.tell_ok,List.append_nil])) A3.out ⟨_,rfl⟩ (nl _) F3.out P3.out HPB.out (Lb3.out.data.mono (fun b _ hb=>⟨Nat.le_of_lt hb.1,Nat.ne_of_gt hb.1⟩)))
 | false=>
 simp only[hm1,ff,if_false] at p1;have P1:=Hd p1;have HM1:=Hd hm1;clear hm1 p1;go_wp2_with fail
 refine (Zay P1.out [116,121,112,101]).mono ?_;rintro e w2 ⟨rfl,p2,f2⟩;have F2:=Hd (F1.out.trans f2);have A2:=Hd (f2.cells A1.out (by decide));have Z2:=Hd (ll Z1.out f2.size);have Lb2:=Hd (Lb1.out.fr f2);clear f2 P1 F1 A1 Z1 Lb1;cases hm2:isM [116,121,112,101] ts with
 | true=>
  simp only[hm2,if_true] at p2;have P2:=Hd p2;have HQ2:=Hd (show res=R.tell [] ((Zaj ts.tail).bind fun nm r=>(want [61] r).bind fun _ r=>(typ 64 r).bind fun t r=>(want [59] r).bind fun _ r=>.ok ⟨2,nm.a,nm.t,[t],[]⟩ r []) by rw[HQ.out,R.tell_nil];simp[ZbI,HM1.out,hm2]);clear hm2 p2;go_wp2_with fail
  refine (Zot P2.out).mono ?_;rintro e w3 ⟨f3,h3⟩;cases hr3:Zaj ts.tail with
  | bad y r d=>
   rw[hr3] at h3;obtain⟨rfl,p3⟩:=h3;go_wp2_with fail
   exact Zap rfl (.bad (HQ2.out.trans (by rw[hr3,R.bind_bad,R.tell_bad])) (F2.out.trans f3) p3.assoc)
  | ok nm r3 d3=>
  rw[hr3] at h3;obtain⟨⟨cs3,rfl,hcs3⟩,p3⟩:=h3;obtain⟨kd3,ad3,nd3,p33,n33,c33,p43,n43,c43,rfl⟩:=Zfi hcs3;have HQ3:=Hd (HQ2.out.trans (by rw[hr3,R.bind_ok,R.tell_tell]));have hl3:=Lb2.out.fr f3;have HL3:=Hd hl3;have HDT3:=Hd (hcs3.mono (A':=fun b=>w.heap.size<b∧b≠vb) (fun b _ hb=>by have:=(gE Lb2.out.blk).1;have:=Lb2.out.lt;exact⟨by omega,by omega⟩));have HTH3:=Hd (Zaf hl3.blk rfl);have HP3:=Hd p3.assoc;have HF3:=Hd (F2.out.trans f3);have HA3:=Hd (f3.cells A2.out (by decide));have HZ3:=Hd (ll Z2.out f3.size);clear hr3 p3 f3 hcs3 hl3 HQ2 P2 F2 A2 Z2 Lb2;go_wp2_with (first | (refine Zaa rfl 61 (.tmp 3) (.tmp 29) rfl vb _ rfl rfl HTH3.out ZdN (all_oneCell_toArray (by simp[Value.oneCell'])) ?_;intro v3 hv3))
  have e3:v3=putL w3 vb [.int .i64 kd3,.int .i64 ad3,.string nd3,.slice p33 n33 c33,.slice p43 n43 c43]:=hv3.out;have Lb3:=Hd (show Lw v3 w.heap.size vb 61 (encD 26 36 ⟨2,nm.a,nm.t,[],[]⟩) [.int .i64 kd3,.int .i64 ad3,.string nd3,.slice p33 n33 c33,.slice p43 n43 c43] by rw[e3];exact HL3.out.put rfl HDT3.out);have P3:=Hd (show PS B M v3 pb all r3 _ by rw[e3];exact HP3.out.putL HL3.out.blk (by decide) HVB.out _);have F3:=Hd (show Fr B w v3 by rw[e3];exact HF3.out.putL (Nat.le_of_lt HL3.out.lt) _);have A3:=Hd (show v3.heap[w.heap.size]?=some zD by rw[e3];exact (ZaS vb _ _ _ _ (Nat.ne_of_lt HL3.out.lt)).trans HA3.out);have Z3:=Hd (show w.heap.size<v3.heap.size by rw[e3,(ZaW vb _ 0 w3).2.2.2];exact HZ3.out);clear e3 hv3 HL3 HDT3 HTH3 HP3 HF3 HA3 HZ3;refine (ZaU P3.out [61]).mono ?_;rintro e w4 ⟨f4,h4⟩;cases hr4:want [61] r3 with
  | bad y r d=>
   rw[hr4] at h4;obtain⟨rfl,p4⟩:=h4;go_wp2_with fail
   exact Zap rfl (.bad (HQ3.out.trans (by rw[hr4,R.bind_bad,R.tell_bad])) (F3.out.trans f4) p4.assoc)
  | ok x4 r4 d4=>
  rw[hr4] at h4;obtain⟨h4,p4⟩:=h4;cases h4;have HQ4:=Hd (HQ3.out.trans (by rw[hr4,R.bind_ok,R.tell_tell]));have P4:=Hd p4.assoc;have F4:=Hd (F3.out.trans f4);have A4:=Hd (f4.cells A3.out (by decide));have Z4:=Hd (ll Z3.out f4.size);have Lb4:=Hd (Lb3.out.fr f4);clear hr4 p4 f4 HQ3 P3 F3 A3 Z3 Lb3;go_wp2_with fail
  refine (HT.out _ _ _ P4.out).mono ?_;rintro e w5 ⟨f5,h5⟩;cases hr5:typ 64 r4 with
  | bad y r d=>
   rw[hr5] at h5;obtain⟨rfl,p5⟩:=h5;go_wp2_with fail
   exact Zap rfl (.bad (HQ4.out.trans (by rw[hr5,R.bind_bad,R.tell_bad])) (F4.out.trans f5) p5.assoc)
  | ok t r5 d5=>
  rw[hr5] at h5;obtain⟨⟨cs5,rfl,hcs5⟩,p5⟩:=h5;obtain⟨kt5,nt5,q25,m25,e25,q35,m35,e35,rfl⟩:=Zbq hcs5;have HQ5:=Hd (HQ4.out.trans (by rw[hr5,R.bind_ok,R.tell_tell]));have hl5:=Lb4.out.fr f5;have HL5:=Hd hl5;have HDT5:=Hd (hcs5.mono (A':=fun b=>w.heap.size<b∧b≠vb) (fun b _ hb=>by have:=(gE Lb4.out.blk).1;have:=Lb4.out.lt;exact⟨by omega,by omega⟩));obtain⟨⟨g0,g1,g2,g3,g4⟩,z0,z1,z2,z3,z4⟩:=Zat (show Fiv w5 vb 61 (.int .i64 kd3) (.int .i64 ad3) (.string nd3) (.slice p33 n33 c33) (.slice p43 n43 c43) from hl5.blk);have hvl5:vb<w5.heap.size:=(gE hl5.blk).1;have hvn5:¬vb=w5.heap.size:=Nat.ne_of_lt hvl5;have HP5:=Hd p5.assoc;have HF5:=Hd (F4.out.trans f5);have HA5:=Hd (f5.cells A4.out (by decide));have HZ5:=Hd (ll Z4.out f5.size);clear hr5 p5 f5 hcs5 hl5 HQ4 P4 F4 A4 Z4 Lb4;go_wp2_with fail
  obtain⟨v5,hv5⟩:=eY ((w5.setCell ⟨vb,3,none⟩ (.slice (some ⟨w5.heap.size,0,none⟩) 1 1)).alloc (.cells #[.int .i64 kt5,.string nt5,.slice q25 m25 e25,.slice q35 m35 e35] 26));have Lb5:=Hd (show Lw v5 w.heap.size vb 61 (encD 26 36 ⟨2,nm.a,nm.t,[t],[]⟩) [.int .i64 kd3,.int .i64 ad3,.string nd3,.slice (some ⟨w5.heap.size,0,none⟩) 1 1,.slice p43 n43 c43] by
   rw[←hv5];refine HL5.out.setAlloc 3 (.slice (some ⟨w5.heap.size,0,none⟩) 1 1) (.cells #[.int .i64 kt5,.string nt5,.slice q25 m25 e25,.slice q35 m35 e35] 26) rfl (setT (d:=⟨2,nm.a,nm.t,[],[]⟩) (HL5.out.data.below ((Below.refl _ _).alloc (nl _) _)) ?_);exact ZaK (e:=26) (size:=4) (n:=1) (g:=w5.heap.size) (by decide) rfl ⟨HZ5.out,Nat.ne_of_gt hvl5⟩ (by decide) rfl (by have:=HDT5.out;simpa[Zau] using this))
  have P5:=Hd (show PS B M v5 pb all r5 _ by rw[←hv5];exact (HP5.out.setNew HL5.out.blk (by decide) HVB.out 3 _).alloc _);have F5:=Hd (show Fr B w v5 by rw[←hv5];exact (HF5.out.setNew (b:=vb) (i:=3) (Nat.le_of_lt HL5.out.lt) _).alloc _);have A5:=Hd (show v5.heap[w.heap.size]?=some zD by rw[←hv5];exact Zab ((Below.heap_setCell _ _ _ _ (Nat.ne_of_lt HL5.out.lt)).trans HA5.out) _);have Z5:=Hd (show w.heap.size<v5.heap.size by rw[←hv5];have:=HZ5.out;simp[World.setCell];omega);rw[hv5];clear hv5 HL5 HDT5 HP5 HF5 HA5 HZ5 g0 g1 g2 g3 g4 z0 z1 z2 z3 z4 hvl5 hvn5;refine (ZaU P5.out [59]).mono ?_;rintro e w6 ⟨f6,h6⟩;cases hr6:want [59] r5 with
  | bad y r d=>
   rw[hr6] at h6;obtain⟨rfl,p6⟩:=h6;go_wp2_with fail
   exact Zap rfl (.bad (HQ5.out.trans (by rw[hr6,R.bind_bad,R.tell_bad])) (F5.out.trans f6) p6.assoc)
  | ok x6 r6 d6=>
  rw[hr6] at h6;obtain⟨h6,p6⟩:=h6;cases h6;have HQ6:=Hd (HQ5.out.trans (by rw[hr6,R.bind_ok,R.tell_tell]));have P6:=Hd p6.assoc;have F6:=Hd (F5.out.trans f6);have A6:=Hd (f6.cells A5.out (by decide));have Z6:=Hd (ll Z5.out f6.size);have Lb6:=Hd (Lb5.out.fr f6);clear hr6 p6 f6 HQ5 P5 F5 A5 Z5 Lb5;obtain⟨⟨g0,g1,g2,g3,g4⟩,-⟩:=Zat (show Fiv w6 vb 61 (.int .i64 kd3) (.int .i64 ad3) (.string nd3) (.slice (some ⟨w5.heap.size,0,none⟩) 1 1) (.slice p43 n43 c43) from Lb6.out.blk);have HTH:=Hd (Zaf A6.out rfl);go_wp2_with (first | (refine Zaa rfl 61 (.tmp 2) (.tmp 38) rfl w.heap.size _ rfl rfl HTH.out ZdN (all_oneCell_toArray (by simp[Value.oneCell'])) ?_;intro W9 hW9))
  have e9:W9=putL w6 w.heap.size [.int .i64 kd3,.int .i64 ad3,.string nd3,.slice (some ⟨w5.heap.size,0,none⟩) 1 1,.slice p43 n43 c43]:=hW9.out;subst e9;exact Zkk rfl rfl rfl (Zam (vs:=[_,_,_,_,_]) A6.out rfl) (Zlc (val:=fun x=>x) (HQ6.out.trans (by rw[R.tell_ok,List.append_nil])) A6.out ⟨_,rfl⟩ (nl _) F6.out P6.out HPB.out (Lb6.out.data.mono (fun b _ hb=>⟨Nat.le_of_lt hb.1,Nat.ne_of_gt hb.1⟩)))
 | false=>
 simp only[hm2,ff,if_false] at p2;have P2:=Hd p2;have HM2:=Hd hm2;clear hm2 p2;have HQ2:=Hd (show res=R.tell [] ((want [108,101,116] ts).bind fun _ r=>(Zaj r).bind fun nm r=>
   if isM [58] r then (typ 64 r.tail).bind fun t r=>(want [61] r).bind fun _ r=>(exp 64 r).bind fun e r=>(want [59] r).bind fun _ r=>.ok ⟨3,nm.a,nm.t,[t],[e]⟩ r []
   else (want [61] r).bind fun _ r=>(exp 64 r).bind fun e r=>(want [59] r).bind fun _ r=>.ok ⟨3,nm.a,nm.t,[],[e]⟩ r []) by rw[HQ.out,R.tell_nil];simp[ZbI,HM1.out,HM2.out])
 go_wp2_with fail
 refine (ZaU P2.out [108,101,116]).mono ?_;rintro e w3 ⟨f3,h3⟩;cases hr3:want [108,101,116] ts with
 | bad y r d=>
  rw[hr3] at h3;obtain⟨rfl,p3⟩:=h3;go_wp2_with fail
  exact Zap rfl (.bad (HQ2.out.trans (by rw[hr3,R.bind_bad,R.tell_bad])) (F2.out.trans f3) p3.assoc)
 | ok x3 r3 d3=>
 rw[hr3] at h3;obtain⟨h3,p3⟩:=h3;cases h3;have HQ3:=Hd (HQ2.out.trans (by rw[hr3,R.bind_ok,R.tell_tell]));have P3:=Hd p3.assoc;have F3:=Hd (F2.out.trans f3);have A3:=Hd (f3.cells A2.out (by decide));have Z3:=Hd (ll Z2.out f3.size);have Lb3:=Hd (Lb2.out.fr f3);clear hr3 p3 f3 HQ2 P2 F2 A2 Z2 Lb2;go_wp2_with fail
 refine (Zos P3.out).mono ?_;rintro e w4 ⟨f4,h4⟩;cases hr4:Zaj r3 with
 | bad y r d=>
  rw[hr4] at h4;obtain⟨rfl,p4⟩:=h4;go_wp2_with fail
  exact Zap rfl (.bad (HQ3.out.trans (by rw[hr4,R.bind_bad,R.tell_bad])) (F3.out.trans f4) p4.assoc)
 | ok nm r4 d4=>
 rw[hr4] at h4;obtain⟨⟨cs4,rfl,hcs4⟩,p4⟩:=h4;obtain⟨kd4,ad4,nd4,p34,n34,c34,p44,n44,c44,rfl⟩:=Zfi hcs4;have HQ4:=Hd (HQ3.out.trans (by rw[hr4,R.bind_ok,R.tell_tell]));have hl4:=Lb3.out.fr f4;have HL4:=Hd hl4;have HDT4:=Hd (hcs4.mono (A':=fun b=>w.heap.size<b∧b≠vb) (fun b _ hb=>by have:=(gE Lb3.out.blk).1;have:=Lb3.out.lt;exact⟨by omega,by omega⟩));have HTH4:=Hd (Zaf hl4.blk rfl);have HP4:=Hd p4.assoc;have HF4:=Hd (F3.out.trans f4);have HA4:=Hd (f4.cells A3.out (by decide));have HZ4:=Hd (ll Z3.out f4.size);clear hr4 p4 f4 hcs4 hl4 HQ3 P3 F3 A3 Z3 Lb3;go_wp2_with (first | (refine Zaa rfl 61 (.tmp 3) (.tmp 7) rfl vb _ rfl rfl HTH4.out ZdN (all_oneCell_toArray (by simp[Value.oneCell'])) ?_;intro v4 hv4))
 have e4:v4=putL w4 vb [.int .i64 kd4,.int .i64 ad4,.string nd4,.slice p34 n34 c34,.slice p44 n44 c44]:=hv4.out;have Lb4:=Hd (show Lw v4 w.heap.size vb 61 (encD 26 36 ⟨3,nm.a,nm.t,[],[]⟩) [.int .i64 kd4,.int .i64 ad4,.string nd4,.slice p34 n34 c34,.slice p44 n44 c44] by rw[e4];exact HL4.out.put rfl HDT4.out);have P4:=Hd (show PS B M v4 pb all r4 _ by rw[e4];exact HP4.out.putL HL4.out.blk (by decide) HVB.out _);have F4:=Hd (show Fr B w v4 by rw[e4];exact HF4.out.putL (Nat.le_of_lt HL4.out.lt) _);have A4:=Hd (show v4.heap[w.heap.size]?=some zD by rw[e4];exact (ZaS vb _ _ _ _ (Nat.ne_of_lt HL4.out.lt)).trans HA4.out);have Z4:=Hd (show w.heap.size<v4.heap.size by rw[e4,(ZaW vb _ 0 w4).2.2.2];exact HZ4.out);clear e4 hv4 HL4 HDT4 HTH4 HP4 HF4 HA4 HZ4;refine (Zay P4.out [58]).mono ?_;rintro e w5 ⟨rfl,p5,f5⟩;have F5:=Hd (F4.out.trans f5);have A5:=Hd (f5.cells A4.out (by decide));have Z5:=Hd (ll Z4.out f5.size);have Lb5:=Hd (Lb4.out.fr f5);clear f5 P4 F4 A4 Z4 Lb4;cases hm5:isM [58] r4 with
 | true=>
  simp only[hm5,if_true] at p5;have P5:=Hd p5;have HQ5:=Hd (HQ4.out.trans (by rw[hm5,if_pos rfl]));clear hm5 p5;go_wp2_with fail
  refine (HT.out _ _ _ P5.out).mono ?_;rintro e w6 ⟨f6,h6⟩;cases hr6:typ 64 r4.tail with
  | bad y r d=>
   rw[hr6] at h6;obtain⟨rfl,p6⟩:=h6;go_wp2_with fail
   exact Zap rfl (.bad (HQ5.out.trans (by rw[hr6,R.bind_bad,R.tell_bad])) (F5.out.trans f6) p6.assoc)
  | ok t r6 d6=>
  rw[hr6] at h6;obtain⟨⟨cs6,rfl,hcs6⟩,p6⟩:=h6;obtain⟨kt6,nt6,q26,m26,e26,q36,m36,e36,rfl⟩:=Zbq hcs6;have HQ6:=Hd (HQ5.out.trans (by rw[hr6,R.bind_ok,R.tell_tell]));have hl6:=Lb5.out.fr f6;have HL6:=Hd hl6;have HDT6:=Hd (hcs6.mono (A':=fun b=>w.heap.size<b∧b≠vb) (fun b _ hb=>by have:=(gE Lb5.out.blk).1;have:=Lb5.out.lt;exact⟨by omega,by omega⟩));obtain⟨⟨g0,g1,g2,g3,g4⟩,z0,z1,z2,z3,z4⟩:=Zat (show Fiv w6 vb 61 (.int .i64 kd4) (.int .i64 ad4) (.string nd4) (.slice p34 n34 c34) (.slice p44 n44 c44) from hl6.blk);have hvl6:vb<w6.heap.size:=(gE hl6.blk).1;have hvn6:¬vb=w6.heap.size:=Nat.ne_of_lt hvl6;have HP6:=Hd p6.assoc;have HF6:=Hd (F5.out.trans f6);have HA6:=Hd (f6.cells A5.out (by decide));have HZ6:=Hd (ll Z5.out f6.size);clear hr6 p6 f6 hcs6 hl6 HQ5 P5 F5 A5 Z5 Lb5;go_wp2_with fail
  obtain⟨v6,hv6⟩:=eY ((w6.setCell ⟨vb,3,none⟩ (.slice (some ⟨w6.heap.size,0,none⟩) 1 1)).alloc (.cells #[.int .i64 kt6,.string nt6,.slice q26 m26 e26,.slice q36 m36 e36] 26));have Lb6:=Hd (show Lw v6 w.heap.size vb 61 (encD 26 36 ⟨3,nm.a,nm.t,[t],[]⟩) [.int .i64 kd4,.int .i64 ad4,.string nd4,.slice (some ⟨w6.heap.size,0,none⟩) 1 1,.slice p44 n44 c44] by
   rw[←hv6];refine HL6.out.setAlloc 3 (.slice (some ⟨w6.heap.size,0,none⟩) 1 1) (.cells #[.int .i64 kt6,.string nt6,.slice q26 m26 e26,.slice q36 m36 e36] 26) rfl (setT (d:=⟨3,nm.a,nm.t,[],[]⟩) (HL6.out.data.below ((Below.refl _ _).alloc (nl _) _)) ?_);exact ZaK (e:=26) (size:=4) (n:=1) (g:=w6.heap.size) (by decide) rfl ⟨HZ6.out,Nat.ne_of_gt hvl6⟩ (by decide) rfl (by have:=HDT6.out;simpa[Zau] using this))
  have P6:=Hd (show PS B M v6 pb all r6 _ by rw[←hv6];exact (HP6.out.setNew HL6.out.blk (by decide) HVB.out 3 _).alloc _);have F6:=Hd (show Fr B w v6 by rw[←hv6];exact (HF6.out.setNew (b:=vb) (i:=3) (Nat.le_of_lt HL6.out.lt) _).alloc _);have A6:=Hd (show v6.heap[w.heap.size]?=some zD by rw[←hv6];exact Zab ((Below.heap_setCell _ _ _ _ (Nat.ne_of_lt HL6.out.lt)).trans HA6.out) _);have Z6:=Hd (show w.heap.size<v6.heap.size by rw[←hv6];have:=HZ6.out;simp[World.setCell];omega);rw[hv6];clear hv6 HL6 HDT6 HP6 HF6 HA6 HZ6 g0 g1 g2 g3 g4 z0 z1 z2 z3 z4 hvl6 hvn6;refine (ZaU P6.out [61]).mono ?_;rintro e w7 ⟨f7,h7⟩;cases hr7:want [61] r6 with
  | bad y r d=>
   rw[hr7] at h7;obtain⟨rfl,p7⟩:=h7;go_wp2_with fail
   exact Zap rfl (.bad (HQ6.out.trans (by rw[hr7,R.bind_bad,R.tell_bad])) (F6.out.trans f7) p7.assoc)
  | ok x7 r7 d7=>
  rw[hr7] at h7;obtain⟨h7,p7⟩:=h7;cases h7;have HQ7:=Hd (HQ6.out.trans (by rw[hr7,R.bind_ok,R.tell_tell]));have P7:=Hd p7.assoc;have F7:=Hd (F6.out.trans f7);have A7:=Hd (f7.cells A6.out (by decide));have Z7:=Hd (ll Z6.out f7.size);have Lb7:=Hd (Lb6.out.fr f7);clear hr7 p7 f7 HQ6 P6 F6 A6 Z6 Lb6;go_wp2_with fail
  refine (HE.out _ _ _ P7.out).mono ?_;rintro e w8 ⟨f8,h8⟩;cases hr8:exp 64 r7 with
  | bad y r d=>
   rw[hr8] at h8;obtain⟨rfl,p8⟩:=h8;go_wp2_with fail
   exact Zap rfl (.bad (HQ7.out.trans (by rw[hr8,R.bind_bad,R.tell_bad])) (F7.out.trans f8) p8.assoc)
  | ok x r8 d8=>
  rw[hr8] at h8;obtain⟨⟨cs8,rfl,hcs8⟩,p8⟩:=h8;obtain⟨ke8,ae8,ne8,me8,q48,m48,e48,q58,m58,e58,q68,m68,e68,rfl⟩:=ZaT hcs8;have HQ8:=Hd (HQ7.out.trans (by rw[hr8,R.bind_ok,R.tell_tell]));have hl8:=Lb7.out.fr f8;have HL8:=Hd hl8;have HDT8:=Hd (hcs8.mono (A':=fun b=>w.heap.size<b∧b≠vb) (fun b _ hb=>by have:=(gE Lb7.out.blk).1;have:=Lb7.out.lt;exact⟨by omega,by omega⟩));obtain⟨⟨g0,g1,g2,g3,g4⟩,z0,z1,z2,z3,z4⟩:=Zat (show Fiv w8 vb 61 (.int .i64 kd4) (.int .i64 ad4) (.string nd4) (.slice (some ⟨w6.heap.size,0,none⟩) 1 1) (.slice p44 n44 c44) from hl8.blk);have hvl8:vb<w8.heap.size:=(gE hl8.blk).1;have hvn8:¬vb=w8.heap.size:=Nat.ne_of_lt hvl8;have HP8:=Hd p8.assoc;have HF8:=Hd (F7.out.trans f8);have HA8:=Hd (f8.cells A7.out (by decide));have HZ8:=Hd (ll Z7.out f8.size);clear hr8 p8 f8 hcs8 hl8 HQ7 P7 F7 A7 Z7 Lb7;go_wp2_with fail
  obtain⟨v8,hv8⟩:=eY ((w8.setCell ⟨vb,4,none⟩ (.slice (some ⟨w8.heap.size,0,none⟩) 1 1)).alloc (.cells #[.int .i64 ke8,.int .i64 ae8,.string ne8,.int .i64 me8,.slice q48 m48 e48,.slice q58 m58 e58,.slice q68 m68 e68] 36));have Lb8:=Hd (show Lw v8 w.heap.size vb 61 (encD 26 36 ⟨3,nm.a,nm.t,[t],[x]⟩) [.int .i64 kd4,.int .i64 ad4,.string nd4,.slice (some ⟨w6.heap.size,0,none⟩) 1 1,.slice (some ⟨w8.heap.size,0,none⟩) 1 1] by
   rw[←hv8];refine HL8.out.setAlloc 4 (.slice (some ⟨w8.heap.size,0,none⟩) 1 1) (.cells #[.int .i64 ke8,.int .i64 ae8,.string ne8,.int .i64 me8,.slice q48 m48 e48,.slice q58 m58 e58,.slice q68 m68 e68] 36) rfl (setE (d:=⟨3,nm.a,nm.t,[t],[]⟩) (HL8.out.data.below ((Below.refl _ _).alloc (nl _) _)) ?_);exact ZaK (e:=36) (size:=7) (n:=1) (g:=w8.heap.size) (by decide) rfl ⟨HZ8.out,Nat.ne_of_gt hvl8⟩ (by decide) rfl (by have:=HDT8.out;simpa[Zaw] using this))
  have P8:=Hd (show PS B M v8 pb all r8 _ by rw[←hv8];exact (HP8.out.setNew HL8.out.blk (by decide) HVB.out 4 _).alloc _);have F8:=Hd (show Fr B w v8 by rw[←hv8];exact (HF8.out.setNew (b:=vb) (i:=4) (Nat.le_of_lt HL8.out.lt) _).alloc _);have A8:=Hd (show v8.heap[w.heap.size]?=some zD by rw[←hv8];exact Zab ((Below.heap_setCell _ _ _ _ (Nat.ne_of_lt HL8.out.lt)).trans HA8.out) _);have Z8:=Hd (show w.heap.size<v8.heap.size by rw[←hv8];have:=HZ8.out;simp[World.setCell];omega);rw[hv8];clear hv8 HL8 HDT8 HP8 HF8 HA8 HZ8 g0 g1 g2 g3 g4 z0 z1 z2 z3 z4 hvl8 hvn8;refine (ZaU P8.out [59]).mono ?_;rintro e w9 ⟨f9,h9⟩;cases hr9:want [59] r8 with
  | bad y r d=>
   rw[hr9] at h9;obtain⟨rfl,p9⟩:=h9;go_wp2_with fail
   exact Zap rfl (.bad (HQ8.out.trans (by rw[hr9,R.bind_bad,R.tell_bad])) (F8.out.trans f9) p9.assoc)
  | ok x9 r9 d9=>
  rw[hr9] at h9;obtain⟨h9,p9⟩:=h9;cases h9;have HQ9:=Hd (HQ8.out.trans (by rw[hr9,R.bind_ok,R.tell_tell]));have P9:=Hd p9.assoc;have F9:=Hd (F8.out.trans f9);have A9:=Hd (f9.cells A8.out (by decide));have Z9:=Hd (ll Z8.out f9.size);have Lb9:=Hd (Lb8.out.fr f9);clear hr9 p9 f9 HQ8 P8 F8 A8 Z8 Lb8;obtain⟨⟨g0,g1,g2,g3,g4⟩,-⟩:=Zat (show Fiv w9 vb 61 (.int .i64 kd4) (.int .i64 ad4) (.string nd4) (.slice (some ⟨w6.heap.size,0,none⟩) 1 1) (.slice (some ⟨w8.heap.size,0,none⟩) 1 1) from Lb9.out.blk);have HTH:=Hd (Zaf A9.out rfl);go_wp2_with (first | (refine Zaa rfl 61 (.tmp 2) (.tmp 38) rfl w.heap.size _ rfl rfl HTH.out ZdN (all_oneCell_toArray (by simp[Value.oneCell'])) ?_;intro W9 hW9))
  have e9:W9=putL w9 w.heap.size [.int .i64 kd4,.int .i64 ad4,.string nd4,.slice (some ⟨w6.heap.size,0,none⟩) 1 1,.slice (some ⟨w8.heap.size,0,none⟩) 1 1]:=hW9.out;subst e9;exact Zkk rfl rfl rfl (Zam (vs:=[_,_,_,_,_]) A9.out rfl) (Zlc (val:=fun x=>x) (HQ9.out.trans (by rw[R.tell_ok,List.append_nil])) A9.out ⟨_,rfl⟩ (nl _) F9.out P9.out HPB.out (Lb9.out.data.mono (fun b _ hb=>⟨Nat.le_of_lt hb.1,Nat.ne_of_gt hb.1⟩)))
 | false=>
  simp only[hm5,ff,if_false] at p5;have P5:=Hd p5;have HQ5:=Hd (HQ4.out.trans (by rw[hm5,if_neg (by decide)]));clear hm5 p5;go_wp2_with fail
  refine (ZaU P5.out [61]).mono ?_;rintro e w6 ⟨f6,h6⟩;cases hr6:want [61] r4 with
  | bad y r d=>
   rw[hr6] at h6;obtain⟨rfl,p6⟩:=h6;go_wp2_with fail
   exact Zap rfl (.bad (HQ5.out.trans (by rw[hr6,R.bind_bad,R.tell_bad])) (F5.out.trans f6) p6.assoc)
  | ok x6 r6 d6=>
  rw[hr6] at h6;obtain⟨h6,p6⟩:=h6;cases h6;have HQ6:=Hd (HQ5.out.trans (by rw[hr6,R.bind_ok,R.tell_tell]));have P6:=Hd p6.assoc;have F6:=Hd (F5.out.trans f6);have A6:=Hd (f6.cells A5.out (by decide));have Z6:=Hd (ll Z5.out f6.size);have Lb6:=Hd (Lb5.out.fr f6);clear hr6 p6 f6 HQ5 P5 F5 A5 Z5 Lb5;go_wp2_with fail
  refine (HE.out _ _ _ P6.out).mono ?_;rintro e w7 ⟨f7,h7⟩;cases hr7:exp 64 r6 with
  | bad y r d=>
   rw[hr7] at h7;obtain⟨rfl,p7⟩:=h7;go_wp2_with fail
   exact Zap rfl (.bad (HQ6.out.trans (by rw[hr7,R.bind_bad,R.tell_bad])) (F6.out.trans f7) p7.assoc)
  | ok x r7 d7=>
  rw[hr7] at h7;obtain⟨⟨cs7,rfl,hcs7⟩,p7⟩:=h7;obtain⟨ke7,ae7,ne7,me7,q47,m47,e47,q57,m57,e57,q67,m67,e67,rfl⟩:=ZaT hcs7;have HQ7:=Hd (HQ6.out.trans (by rw[hr7,R.bind_ok,R.tell_tell]));have hl7:=Lb6.out.fr f7;have HL7:=Hd hl7;have HDT7:=Hd (hcs7.mono (A':=fun b=>w.heap.size<b∧b≠vb) (fun b _ hb=>by have:=(gE Lb6.out.blk).1;have:=Lb6.out.lt;exact⟨by omega,by omega⟩));obtain⟨⟨g0,g1,g2,g3,g4⟩,z0,z1,z2,z3,z4⟩:=Zat (show Fiv w7 vb 61 (.int .i64 kd4) (.int .i64 ad4) (.string nd4) (.slice p34 n34 c34) (.slice p44 n44 c44) from hl7.blk);have hvl7:vb<w7.heap.size:=(gE hl7.blk).1;have hvn7:¬vb=w7.heap.size:=Nat.ne_of_lt hvl7;have HP7:=Hd p7.assoc;have HF7:=Hd (F6.out.trans f7);have HA7:=Hd (f7.cells A6.out (by decide));have HZ7:=Hd (ll Z6.out f7.size);clear hr7 p7 f7 hcs7 hl7 HQ6 P6 F6 A6 Z6 Lb6;go_wp2_with fail
  obtain⟨v7,hv7⟩:=eY ((w7.setCell ⟨vb,4,none⟩ (.slice (some ⟨w7.heap.size,0,none⟩) 1 1)).alloc (.cells #[.int .i64 ke7,.int .i64 ae7,.string ne7,.int .i64 me7,.slice q47 m47 e47,.slice q57 m57 e57,.slice q67 m67 e67] 36));have Lb7:=Hd (show Lw v7 w.heap.size vb 61 (encD 26 36 ⟨3,nm.a,nm.t,[],[x]⟩) [.int .i64 kd4,.int .i64 ad4,.string nd4,.slice p34 n34 c34,.slice (some ⟨w7.heap.size,0,none⟩) 1 1] by
   rw[←hv7];refine HL7.out.setAlloc 4 (.slice (some ⟨w7.heap.size,0,none⟩) 1 1) (.cells #[.int .i64 ke7,.int .i64 ae7,.string ne7,.int .i64 me7,.slice q47 m47 e47,.slice q57 m57 e57,.slice q67 m67 e67] 36) rfl (setE (d:=⟨3,nm.a,nm.t,[],[]⟩) (HL7.out.data.below ((Below.refl _ _).alloc (nl _) _)) ?_);exact ZaK (e:=36) (size:=7) (n:=1) (g:=w7.heap.size) (by decide) rfl ⟨HZ7.out,Nat.ne_of_gt hvl7⟩ (by decide) rfl (by have:=HDT7.out;simpa[Zaw] using this))
  have P7:=Hd (show PS B M v7 pb all r7 _ by rw[←hv7];exact (HP7.out.setNew HL7.out.blk (by decide) HVB.out 4 _).alloc _);have F7:=Hd (show Fr B w v7 by rw[←hv7];exact (HF7.out.setNew (b:=vb) (i:=4) (Nat.le_of_lt HL7.out.lt) _).alloc _);have A7:=Hd (show v7.heap[w.heap.size]?=some zD by rw[←hv7];exact Zab ((Below.heap_setCell _ _ _ _ (Nat.ne_of_lt HL7.out.lt)).trans HA7.out) _);have Z7:=Hd (show w.heap.size<v7.heap.size by rw[←hv7];have:=HZ7.out;simp[World.setCell];omega);rw[hv7];clear hv7 HL7 HDT7 HP7 HF7 HA7 HZ7 g0 g1 g2 g3 g4 z0 z1 z2 z3 z4 hvl7 hvn7;refine (ZaU P7.out [59]).mono ?_;rintro e w8 ⟨f8,h8⟩;cases hr8:want [59] r7 with
  | bad y r d=>
   rw[hr8] at h8;obtain⟨rfl,p8⟩:=h8;go_wp2_with fail
   exact Zap rfl (.bad (HQ7.out.trans (by rw[hr8,R.bind_bad,R.tell_bad])) (F7.out.trans f8) p8.assoc)
  | ok x8 r8 d8=>
  rw[hr8] at h8;obtain⟨h8,p8⟩:=h8;cases h8;have HQ8:=Hd (HQ7.out.trans (by rw[hr8,R.bind_ok,R.tell_tell]));have P8:=Hd p8.assoc;have F8:=Hd (F7.out.trans f8);have A8:=Hd (f8.cells A7.out (by decide));have Z8:=Hd (ll Z7.out f8.size);have Lb8:=Hd (Lb7.out.fr f8);clear hr8 p8 f8 HQ7 P7 F7 A7 Z7 Lb7;obtain⟨⟨g0,g1,g2,g3,g4⟩,-⟩:=Zat (show Fiv w8 vb 61 (.int .i64 kd4) (.int .i64 ad4) (.string nd4) (.slice p34 n34 c34) (.slice (some ⟨w7.heap.size,0,none⟩) 1 1) from Lb8.out.blk);have HTH:=Hd (Zaf A8.out rfl);go_wp2_with (first | (refine Zaa rfl 61 (.tmp 2) (.tmp 38) rfl w.heap.size _ rfl rfl HTH.out ZdN (all_oneCell_toArray (by simp[Value.oneCell'])) ?_;intro W9 hW9))
  have e9:W9=putL w8 w.heap.size [.int .i64 kd4,.int .i64 ad4,.string nd4,.slice p34 n34 c34,.slice (some ⟨w7.heap.size,0,none⟩) 1 1]:=hW9.out;subst e9;exact Zkk rfl rfl rfl (Zam (vs:=[_,_,_,_,_]) A8.out rfl) (Zlc (val:=fun x=>x) (HQ8.out.trans (by rw[R.tell_ok,List.append_nil])) A8.out ⟨_,rfl⟩ (nl _) F8.out P8.out HPB.out (Lb8.out.data.mono (fun b _ hb=>⟨Nat.le_of_lt hb.1,Nat.ne_of_gt hb.1⟩)))
theorem Zfp{P:Program}{c:Code}{Q:Exit→Act→World→Prop}{a a':Act}{w:World}(h:a=a')(k:c.wp P Q a' w):c.wp P Q a w:=h▸k
theorem Zlg (x0 x1 x2:Value)(w:World):(Instr.field 155 (.agg #[x0,x1,x2]) 0).run Tryz.prog w=.ok (.agg #[x0,x1,x2]) w:=by kernel_rfl
theorem ZnR (x:Value)(w:World):(Instr.typeAssert (.iface 155 x) 20 155 false).run Tryz.prog w=.ok x w:=by kernel_rfl
theorem Zm4{B M:Nat}{pb b0:Nat}{all:List Tk}(y:Dn)(w:World)(ts:List Tk)(told:List Dn)(h:PS B M w pb all ts told)(hM:told.length+1+ts.length≤M)(hM':M≤20000000)(hb:w.heap[b0]?=some (bxP pb)) :
  CallsD Tryz.prog 96 #[.pointer (some ⟨b0,0,none⟩)] (.panicking [gv y]) w fun e u' w'=>e=.returned (.tuple #[])∧u'=.panicking [{ gv y with recovered:=true }]∧PS B M w' pb all ts (told++[y])∧Fr B w w':=by
 obtain⟨j0,hj,hy0,hy1,hy2⟩:=info_parts Zhb;have cb:w.cell? ⟨b0,0,none⟩=some (.pointer (some ⟨pb,0,none⟩)):=by simp[World.cell?,hb]
 have hfl:=Zlg;have hta:=ZnR;unfold gv;refine callsD_of_wpS Tryz.func96 rfl fun c₀ cs hu=>?_
 apply wpS_seq;apply wpS_region;simp[wpOpsS,go_sem,recoverD,hu,Tryz.ntmps96,Exit.thenS];refine wpS_of_wp (Zfp (a':={ tmps:=#[.pointer (some ⟨b0,0,none⟩),.iface 155 (.agg #[.int .i64 y.a,.int .i64 y.d,.string ⟨y.n.toArray⟩]),.iface 155 (.agg #[.int .i64 y.a,.int .i64 y.d,.string ⟨y.n.toArray⟩]),undef,undef,undef,undef,undef,undef,undef,undef,undef,undef,undef,undef,undef,undef],defers:=[] }) (by kernel_rfl) ?_);have P3:=Hd h;have HBT:=Hd hM;obtain⟨vt,vd,i3,h6,-,h8,-⟩:=P3.out.ex;obtain⟨⟨c0,c1,c2⟩,u0,u1,u2⟩:=Zan h6;have H6:=Hd h6;have R65:Hid (∀W:World,W.heap=(w.alloc (.cells #[.int .i64 y.a,.int .i64 y.d,.string ⟨y.n.toArray⟩] 153)).heap→W.ownsRow B 153 3 vd told.length (ZbC told)):=fun W e=>by
  have:=h8.alloc (.cells #[.int .i64 y.a,.int .i64 y.d,.string ⟨y.n.toArray⟩] 153);refine⟨this.1,?_⟩;rw[e];exact this.2
 have hmx:told.length+1≤maxLen:=by unfold maxLen;omega
 have hmb:(told.length+1)*32≤140737488355328:=by omega
 have HBS:=Hd (show B≤w.heap.size+1 by have:=P3.out.hi;omega);have HN65:=Hd (World.news_of_block (hN w (.cells #[.int .i64 y.a,.int .i64 y.d,.string ⟨y.n.toArray⟩] 153)));have HPL:=Hd P3.out.lt;have HNE:=Hd (show some pb≠vd.ownBlock from fun e=>by
  rcases h8.2 with ⟨rfl,_⟩ | ⟨g',cap',cur,rfl,_,hgg,_⟩
  ·cases e
  ·simp only[Value.ownBlock,Option.some.injEq] at e;subst e;rw[H6.out] at hgg;cases hgg)
 have HNB:=Hd (show some b0≠vd.ownBlock from fun e=>by
  rcases h8.2 with ⟨rfl,_⟩ | ⟨g',cap',cur,rfl,_,hgg,_⟩
  ·cases e
  ·simp only[Value.ownBlock,Option.some.injEq] at e;subst e;rw[hb] at hgg;cases hgg)
 have HB0:=Hd hb;have hpl:=P3.out.lt;have hbl:b0<w.heap.size:=(gE hb).1;have hbn:¬b0=w.heap.size:=Nat.ne_of_lt hbl;have HBL:=Hd hbl;have HU:=Hd hu;clear h6 h8 h hM hM' hb hu;go_upto_region 2 with fail
 go_region_law (refine step_append_lies _ rfl (.tmp 9) (.tmp 13) 50 rfl B 153 j0 _ 3 32 Tryz.underlying50 hj hy0 hy1 hy2 rfl (by decide) vd told.length (ZbC told) rfl (R65.out _ rfl) ⟨w.heap.size,0,none⟩ 1 1 [.int .i64 y.a,.int .i64 y.d,.string ⟨y.n.toArray⟩] rfl rfl (fun j u hu=>HN65.out j u hu) one3 (by decide) hmx hmb (by simpa using HBS.out) _ rfl ?_;intro g cap W5 hown5 hg5 hloc5 hlt5;(have hp5:Thr W5 pb 112 vt (.int .i64 i3) vd:=(hg5.block pb (Nat.lt_succ_of_lt HPL.out |> fun h=>by simpa using h) HNE.out).trans (Zab H6.out (.cells #[.int .i64 y.a,.int .i64 y.d,.string ⟨y.n.toArray⟩] 153)));obtain⟨⟨e0,e1,e2⟩,y0,y1,y2⟩:=Zan hp5;(have hq5:W5.heap[b0]?=some (bxP pb):=(hg5.block b0 (Nat.lt_succ_of_lt HBL.out |> fun h=>by simpa using h) HNB.out).trans (Zab HB0.out (.cells #[.int .i64 y.a,.int .i64 y.d,.string ⟨y.n.toArray⟩] 153)));(have cb5:W5.cell? ⟨b0,0,none⟩=some (.pointer (some ⟨pb,0,none⟩)):=by simp[World.cell?,hq5]);(have HO5:=Hd hown5);(have HG5:=Hd hg5);(have HL5:=Hd hloc5);clear hown5 hg5 hloc5 hp5 hq5)
 all_goals
  go_wp2_with fail
  have hL:vd.ownBlock=some g∨(w.alloc (.cells #[.int .i64 y.a,.int .i64 y.d,.string ⟨y.n.toArray⟩] 153)).heap.size≤g:=HL5.out.imp id (fun e=>by rw[e];exact nl _);have hg6:(w.alloc (.cells #[.int .i64 y.a,.int .i64 y.d,.string ⟨y.n.toArray⟩] 153)).grownBy W5 vd.ownBlock:=⟨HG5.out.os,HG5.out.tape,HG5.out.output,HG5.out.size,HG5.out.block⟩;obtain⟨a1,a2⟩:=(P3.out.alloc (.cells #[.int .i64 y.a,.int .i64 y.d,.string ⟨y.n.toArray⟩] 153)).tells y HBT.out (Zab H6.out _) hg6 HO5.out hL rfl;refine⟨rfl,_,rfl,_,results_none Tryz.results96 _ _ _,rfl,rfl,a1,((Fr.refl B w).alloc _).trans a2⟩
theorem ZoR (b0:Nat)(w:World):CallsD Tryz.prog 96 #[.pointer (some ⟨b0,0,none⟩)] .returning w fun e u' w'=>e=.returned (.tuple #[])∧u'=.returning∧w'=w:=by
 refine callsD_of_wpS Tryz.func96 rfl fun c₀ cs hu=>?_
 apply wpS_seq;apply wpS_region;simp[wpOpsS,go_sem,recoverD,hu,Tryz.ntmps96,Exit.thenS];refine wpS_of_wp (Zfp (a':={ tmps:=#[.pointer (some ⟨b0,0,none⟩),.nilIface,.nilIface,undef,undef,undef,undef,undef,undef,undef,undef,undef,undef,undef,undef,undef,undef],defers:=[] }) (by kernel_rfl) ?_);have HU:=Hd hu;clear hu;go_wp2_with fail
 exact⟨rfl,c₀.mode,rfl,_,results_none Tryz.results96 _ _ _,rfl,HU.out,rfl⟩
theorem Zm3{B M:Nat}{pb b0:Nat}{all:List Tk}(y:Dn)(w:World)(ts:List Tk)(told:List Dn)(h:PS B M w pb all ts told)(hM:told.length+1+ts.length≤M)(hM':M≤20000000)(hb:w.heap[b0]?=some (bxP pb)) :
  CallsD Tryz.prog 127 #[.pointer (some ⟨b0,0,none⟩)] (.panicking [gv y]) w fun e u' w'=>e=.returned (.tuple #[])∧u'=.panicking [{ gv y with recovered:=true }]∧PS B M w' pb all ts (told++[y])∧Fr B w w':=by
 obtain⟨j0,hj,hy0,hy1,hy2⟩:=info_parts Zhb;have cb:w.cell? ⟨b0,0,none⟩=some (.pointer (some ⟨pb,0,none⟩)):=by simp[World.cell?,hb]
 have hfl:=Zlg;have hta:=ZnR;unfold gv;refine callsD_of_wpS Tryz.func127 rfl fun c₀ cs hu=>?_
 apply wpS_seq;apply wpS_region;simp[wpOpsS,go_sem,recoverD,hu,Tryz.ntmps127,Exit.thenS];refine wpS_of_wp (Zfp (a':={ tmps:=#[.pointer (some ⟨b0,0,none⟩),.iface 155 (.agg #[.int .i64 y.a,.int .i64 y.d,.string ⟨y.n.toArray⟩]),.iface 155 (.agg #[.int .i64 y.a,.int .i64 y.d,.string ⟨y.n.toArray⟩]),undef,undef,undef,undef,undef,undef,undef,undef,undef,undef,undef,undef,undef,undef],defers:=[] }) (by kernel_rfl) ?_);have P3:=Hd h;have HBT:=Hd hM;obtain⟨vt,vd,i3,h6,-,h8,-⟩:=P3.out.ex;obtain⟨⟨c0,c1,c2⟩,u0,u1,u2⟩:=Zan h6;have H6:=Hd h6;have R65:Hid (∀W:World,W.heap=(w.alloc (.cells #[.int .i64 y.a,.int .i64 y.d,.string ⟨y.n.toArray⟩] 153)).heap→W.ownsRow B 153 3 vd told.length (ZbC told)):=fun W e=>by
  have:=h8.alloc (.cells #[.int .i64 y.a,.int .i64 y.d,.string ⟨y.n.toArray⟩] 153);refine⟨this.1,?_⟩;rw[e];exact this.2
 have hmx:told.length+1≤maxLen:=by unfold maxLen;omega
 have hmb:(told.length+1)*32≤140737488355328:=by omega
 have HBS:=Hd (show B≤w.heap.size+1 by have:=P3.out.hi;omega);have HN65:=Hd (World.news_of_block (hN w (.cells #[.int .i64 y.a,.int .i64 y.d,.string ⟨y.n.toArray⟩] 153)));have HPL:=Hd P3.out.lt;have HNE:=Hd (show some pb≠vd.ownBlock from fun e=>by
  rcases h8.2 with ⟨rfl,_⟩ | ⟨g',cap',cur,rfl,_,hgg,_⟩
  ·cases e
  ·simp only[Value.ownBlock,Option.some.injEq] at e;subst e;rw[H6.out] at hgg;cases hgg)
 have HNB:=Hd (show some b0≠vd.ownBlock from fun e=>by
  rcases h8.2 with ⟨rfl,_⟩ | ⟨g',cap',cur,rfl,_,hgg,_⟩
  ·cases e
  ·simp only[Value.ownBlock,Option.some.injEq] at e;subst e;rw[hb] at hgg;cases hgg)
 have HB0:=Hd hb;have hpl:=P3.out.lt;have hbl:b0<w.heap.size:=(gE hb).1;have hbn:¬b0=w.heap.size:=Nat.ne_of_lt hbl;have HBL:=Hd hbl;have HU:=Hd hu;clear h6 h8 h hM hM' hb hu;go_upto_region 2 with fail
 go_region_law (refine step_append_lies _ rfl (.tmp 9) (.tmp 13) 50 rfl B 153 j0 _ 3 32 Tryz.underlying50 hj hy0 hy1 hy2 rfl (by decide) vd told.length (ZbC told) rfl (R65.out _ rfl) ⟨w.heap.size,0,none⟩ 1 1 [.int .i64 y.a,.int .i64 y.d,.string ⟨y.n.toArray⟩] rfl rfl (fun j u hu=>HN65.out j u hu) one3 (by decide) hmx hmb (by simpa using HBS.out) _ rfl ?_;intro g cap W5 hown5 hg5 hloc5 hlt5;(have hp5:Thr W5 pb 112 vt (.int .i64 i3) vd:=(hg5.block pb (Nat.lt_succ_of_lt HPL.out |> fun h=>by simpa using h) HNE.out).trans (Zab H6.out (.cells #[.int .i64 y.a,.int .i64 y.d,.string ⟨y.n.toArray⟩] 153)));obtain⟨⟨e0,e1,e2⟩,y0,y1,y2⟩:=Zan hp5;(have hq5:W5.heap[b0]?=some (bxP pb):=(hg5.block b0 (Nat.lt_succ_of_lt HBL.out |> fun h=>by simpa using h) HNB.out).trans (Zab HB0.out (.cells #[.int .i64 y.a,.int .i64 y.d,.string ⟨y.n.toArray⟩] 153)));(have cb5:W5.cell? ⟨b0,0,none⟩=some (.pointer (some ⟨pb,0,none⟩)):=by simp[World.cell?,hq5]);(have HO5:=Hd hown5);(have HG5:=Hd hg5);(have HL5:=Hd hloc5);clear hown5 hg5 hloc5 hp5 hq5)
 all_goals
  go_wp2_with fail
  have hL:vd.ownBlock=some g∨(w.alloc (.cells #[.int .i64 y.a,.int .i64 y.d,.string ⟨y.n.toArray⟩] 153)).heap.size≤g:=HL5.out.imp id (fun e=>by rw[e];exact nl _);have hg6:(w.alloc (.cells #[.int .i64 y.a,.int .i64 y.d,.string ⟨y.n.toArray⟩] 153)).grownBy W5 vd.ownBlock:=⟨HG5.out.os,HG5.out.tape,HG5.out.output,HG5.out.size,HG5.out.block⟩;obtain⟨a1,a2⟩:=(P3.out.alloc (.cells #[.int .i64 y.a,.int .i64 y.d,.string ⟨y.n.toArray⟩] 153)).tells y HBT.out (Zab H6.out _) hg6 HO5.out hL rfl;refine⟨rfl,_,rfl,_,results_none Tryz.results127 _ _ _,rfl,rfl,a1,((Fr.refl B w).alloc _).trans a2⟩
theorem ZoQ (b0:Nat)(w:World):CallsD Tryz.prog 127 #[.pointer (some ⟨b0,0,none⟩)] .returning w fun e u' w'=>e=.returned (.tuple #[])∧u'=.returning∧w'=w:=by
 refine callsD_of_wpS Tryz.func127 rfl fun c₀ cs hu=>?_
 apply wpS_seq;apply wpS_region;simp[wpOpsS,go_sem,recoverD,hu,Tryz.ntmps127,Exit.thenS];refine wpS_of_wp (Zfp (a':={ tmps:=#[.pointer (some ⟨b0,0,none⟩),.nilIface,.nilIface,undef,undef,undef,undef,undef,undef,undef,undef,undef,undef,undef,undef,undef,undef],defers:=[] }) (by kernel_rfl) ?_);have HU:=Hd hu;clear hu;go_wp2_with fail
 exact⟨rfl,c₀.mode,rfl,_,results_none Tryz.results127 _ _ _,rfl,HU.out,rfl⟩
theorem Zm2{B M:Nat}{pb b0:Nat}{all:List Tk}(y:Dn)(w:World)(ts:List Tk)(told:List Dn)(h:PS B M w pb all ts told)(hM:told.length+1+ts.length≤M)(hM':M≤20000000)(hb:w.heap[b0]?=some (bxP pb)) :
  CallsD Tryz.prog 135 #[.pointer (some ⟨b0,0,none⟩)] (.panicking [gv y]) w fun e u' w'=>e=.returned (.tuple #[])∧u'=.panicking [{ gv y with recovered:=true }]∧PS B M w' pb all ts (told++[y])∧Fr B w w':=by
 obtain⟨j0,hj,hy0,hy1,hy2⟩:=info_parts Zhb;have cb:w.cell? ⟨b0,0,none⟩=some (.pointer (some ⟨pb,0,none⟩)):=by simp[World.cell?,hb]
 have hfl:=Zlg;have hta:=ZnR;unfold gv;refine callsD_of_wpS Tryz.func135 rfl fun c₀ cs hu=>?_
 apply wpS_seq;apply wpS_region;simp[wpOpsS,go_sem,recoverD,hu,Tryz.ntmps135,Exit.thenS];refine wpS_of_wp (Zfp (a':={ tmps:=#[.pointer (some ⟨b0,0,none⟩),.iface 155 (.agg #[.int .i64 y.a,.int .i64 y.d,.string ⟨y.n.toArray⟩]),.iface 155 (.agg #[.int .i64 y.a,.int .i64 y.d,.string ⟨y.n.toArray⟩]),undef,undef,undef,undef,undef,undef,undef,undef,undef,undef,undef,undef,undef,undef],defers:=[] }) (by kernel_rfl) ?_);have P3:=Hd h;have HBT:=Hd hM;obtain⟨vt,vd,i3,h6,-,h8,-⟩:=P3.out.ex;obtain⟨⟨c0,c1,c2⟩,u0,u1,u2⟩:=Zan h6;have H6:=Hd h6;have R65:Hid (∀W:World,W.heap=(w.alloc (.cells #[.int .i64 y.a,.int .i64 y.d,.string ⟨y.n.toArray⟩] 153)).heap→W.ownsRow B 153 3 vd told.length (ZbC told)):=fun W e=>by
  have:=h8.alloc (.cells #[.int .i64 y.a,.int .i64 y.d,.string ⟨y.n.toArray⟩] 153);refine⟨this.1,?_⟩;rw[e];exact this.2
 have hmx:told.length+1≤maxLen:=by unfold maxLen;omega
 have hmb:(told.length+1)*32≤140737488355328:=by omega
 have HBS:=Hd (show B≤w.heap.size+1 by have:=P3.out.hi;omega);have HN65:=Hd (World.news_of_block (hN w (.cells #[.int .i64 y.a,.int .i64 y.d,.string ⟨y.n.toArray⟩] 153)));have HPL:=Hd P3.out.lt;have HNE:=Hd (show some pb≠vd.ownBlock from fun e=>by
  rcases h8.2 with ⟨rfl,_⟩ | ⟨g',cap',cur,rfl,_,hgg,_⟩
  ·cases e
  ·simp only[Value.ownBlock,Option.some.injEq] at e;subst e;rw[H6.out] at hgg;cases hgg)
 have HNB:=Hd (show some b0≠vd.ownBlock from fun e=>by
  rcases h8.2 with ⟨rfl,_⟩ | ⟨g',cap',cur,rfl,_,hgg,_⟩
  ·cases e
  ·simp only[Value.ownBlock,Option.some.injEq] at e;subst e;rw[hb] at hgg;cases hgg)
 have HB0:=Hd hb;have hpl:=P3.out.lt;have hbl:b0<w.heap.size:=(gE hb).1;have hbn:¬b0=w.heap.size:=Nat.ne_of_lt hbl;have HBL:=Hd hbl;have HU:=Hd hu;clear h6 h8 h hM hM' hb hu;go_upto_region 2 with fail
 go_region_law (refine step_append_lies _ rfl (.tmp 9) (.tmp 13) 50 rfl B 153 j0 _ 3 32 Tryz.underlying50 hj hy0 hy1 hy2 rfl (by decide) vd told.length (ZbC told) rfl (R65.out _ rfl) ⟨w.heap.size,0,none⟩ 1 1 [.int .i64 y.a,.int .i64 y.d,.string ⟨y.n.toArray⟩] rfl rfl (fun j u hu=>HN65.out j u hu) one3 (by decide) hmx hmb (by simpa using HBS.out) _ rfl ?_;intro g cap W5 hown5 hg5 hloc5 hlt5;(have hp5:Thr W5 pb 112 vt (.int .i64 i3) vd:=(hg5.block pb (Nat.lt_succ_of_lt HPL.out |> fun h=>by simpa using h) HNE.out).trans (Zab H6.out (.cells #[.int .i64 y.a,.int .i64 y.d,.string ⟨y.n.toArray⟩] 153)));obtain⟨⟨e0,e1,e2⟩,y0,y1,y2⟩:=Zan hp5;(have hq5:W5.heap[b0]?=some (bxP pb):=(hg5.block b0 (Nat.lt_succ_of_lt HBL.out |> fun h=>by simpa using h) HNB.out).trans (Zab HB0.out (.cells #[.int .i64 y.a,.int .i64 y.d,.string ⟨y.n.toArray⟩] 153)));(have cb5:W5.cell? ⟨b0,0,none⟩=some (.pointer (some ⟨pb,0,none⟩)):=by simp[World.cell?,hq5]);(have HO5:=Hd hown5);(have HG5:=Hd hg5);(have HL5:=Hd hloc5);clear hown5 hg5 hloc5 hp5 hq5)
 all_goals
  go_wp2_with fail
  have hL:vd.ownBlock=some g∨(w.alloc (.cells #[.int .i64 y.a,.int .i64 y.d,.string ⟨y.n.toArray⟩] 153)).heap.size≤g:=HL5.out.imp id (fun e=>by rw[e];exact nl _);have hg6:(w.alloc (.cells #[.int .i64 y.a,.int .i64 y.d,.string ⟨y.n.toArray⟩] 153)).grownBy W5 vd.ownBlock:=⟨HG5.out.os,HG5.out.tape,HG5.out.output,HG5.out.size,HG5.out.block⟩;obtain⟨a1,a2⟩:=(P3.out.alloc (.cells #[.int .i64 y.a,.int .i64 y.d,.string ⟨y.n.toArray⟩] 153)).tells y HBT.out (Zab H6.out _) hg6 HO5.out hL rfl;refine⟨rfl,_,rfl,_,results_none Tryz.results135 _ _ _,rfl,rfl,a1,((Fr.refl B w).alloc _).trans a2⟩
theorem ZoP (b0:Nat)(w:World):CallsD Tryz.prog 135 #[.pointer (some ⟨b0,0,none⟩)] .returning w fun e u' w'=>e=.returned (.tuple #[])∧u'=.returning∧w'=w:=by
 refine callsD_of_wpS Tryz.func135 rfl fun c₀ cs hu=>?_
 apply wpS_seq;apply wpS_region;simp[wpOpsS,go_sem,recoverD,hu,Tryz.ntmps135,Exit.thenS];refine wpS_of_wp (Zfp (a':={ tmps:=#[.pointer (some ⟨b0,0,none⟩),.nilIface,.nilIface,undef,undef,undef,undef,undef,undef,undef,undef,undef,undef,undef,undef,undef,undef],defers:=[] }) (by kernel_rfl) ?_);have HU:=Hd hu;clear hu;go_wp2_with fail
 exact⟨rfl,c₀.mode,rfl,_,results_none Tryz.results135 _ _ _,rfl,HU.out,rfl⟩
theorem PS.wide{B M M':Nat}{w:World}{pb:Nat}{all ts:List Tk}{told:List Dn}(h:PS B M w pb all ts told)(hM:told.length+ts.length≤M'):PS B M' w pb all ts told:=⟨h.lo,h.hi,h.fin,hM,h.big,h.ex⟩
def AtPost{α:Type}(B M:Nat)(w:World)(pb:Nat)(all:List Tk)(told:List Dn)(val:Nat→α→Ending→World→Prop)(zero:Value)(r:R α)(e:Ending)(w':World):Prop:=
 Fr B w w'∧match r with
 | .ok x rest d=>val w.heap.size x e w'∧PS B (M+1) w' pb all rest (told++d)
 | .bad y rest d=>e=.returned zero∧PS B (M+1) w' pb all rest (told++d++[y])
theorem AtPost.ok{α:Type}{B M:Nat}{w:World}{pb:Nat}{all:List Tk}{told:List Dn}{val:Nat→α→Ending→World→Prop}{zero:Value}{res:R α}{e:Ending}{w':World}{x:α}{r:List Tk}{d:List Dn}(hq:res=.ok x r d)(hF:Fr B w w')(hv:val w.heap.size x e w')(hp:PS B (M+1) w' pb all r (told++d)):AtPost B M w pb all told val zero res e w':=by
 subst hq;exact⟨hF,hv,hp⟩
theorem AtPost.bad{α:Type}{B M:Nat}{w:World}{pb:Nat}{all:List Tk}{told:List Dn}{val:Nat→α→Ending→World→Prop}{zero:Value}{res:R α}{w':World}{y:Dn}{r:List Tk}{d:List Dn}(hq:res=.bad y r d)(hF:Fr B w w')(hp:PS B (M+1) w' pb all r (told++d++[y])):AtPost B M w pb all told val zero res (.returned zero) w':=by
 subst hq;exact⟨hF,rfl,hp⟩
theorem ZlJ{B M:Nat}{pb:Nat}{all:List Tk}(hM':M≤10000000)(Bx:World→Prop)(hBx:∀w w',Bx w→Fr B w w'→Bx w')(read:List Tk→R PD)
  (HC:∀W ts told,PS B M W pb all ts told→Bx W→Calls Tryz.prog 55 #[.pointer (some ⟨pb,0,none⟩)] W (Post B M W pb all told (vD W.heap.size) (read ts)))
  (w:World) (ts:List Tk) (told:List Dn) (h:PS B M w pb all ts told) (hb:Bx w) :
  Calls Tryz.prog 54 #[.pointer (some ⟨pb,0,none⟩),.func (.func 55) #[.pointer (some ⟨pb,0,none⟩)] #[]] w (AtPost B M w pb all told (fun lo x e w'=>∃cs,e=.returned (.tuple #[.agg cs.toArray,.bool true])∧IsCs (fun b=>lo≤b) w' (encD 26 36 x) cs) (.tuple #[.agg #[.int .i64 0,.int .i64 0,.string ⟨#[]⟩,.slice none 0 0,.slice none 0 0],.bool false]) (read ts)):=by
 have HPB:=Hd h.lt;obtain⟨W0,hW0⟩:=eY ((w.alloc (bxP pb)).alloc zD);have P0:PS B M W0 pb all ts told:=by rw[←hW0];exact (h.alloc _).alloc _
 have A0:=Hd (show W0.heap[w.heap.size+1]?=some zD by
  rw[←hW0];have:=hN (w.alloc (bxP pb)) zD
  simpa using this)
 have X0:=Hd (show W0.heap[w.heap.size]?=some (bxP pb) by rw[←hW0];exact Zab (hN w _) _);have F0:=Hd (show Fr B w W0 by rw[←hW0];exact ((Fr.refl B w).alloc _).alloc _);have HS0:=Hd (show W0.heap.size=w.heap.size+2 by rw[←hW0];simp);have HCC:=Hd (HC W0 ts told P0 (hBx _ _ hb F0.out));have HW0:=Hd hW0;have hmf:∀(fn:Fn) (first cap:Array Value) (w:World),(Instr.makeFunc fn first cap).run Tryz.prog w=.ok (.func fn first cap) w:=fun _ _ _ _=>rfl
 clear h hb HC hBx hW0 P0;obtain⟨res,hres⟩:=eX (read ts);rw[←hres] at HCC⊢;clear hres;go_enter_defers Tryz.func54,Tryz.ntmps54
 go_upto_region 2 with fail
 rw[HW0.out];go_wp2_with fail
 refine HCC.out.mono ?_;rintro e w1 ⟨f1,h1⟩;cases hr:res with
 | bad y rest ds=>
  rw[hr] at h1;obtain⟨rfl,p1⟩:=h1;have X1:=f1.cells X0.out (by decide);have A1:=f1.cells A0.out (by decide);have hbd:=p1.bd;have HC2:=Hd (Zm4 y w1 rest (told++ds) (p1.wide (M':=M+1) (by omega)) (by simp only[lA] at hbd⊢;omega) (by omega) X1);have HF:=Hd (F0.out.trans f1);have HA:=Hd A1;have HR:=Hd hr;clear hr p1 f1 X1 A1 hbd;go_wp2_with fail
  refine leaves_cons (f:=96) (args:=#[.pointer (some ⟨w.heap.size,0,none⟩)]) (by simp) (by simp[go_sem]) ?_;refine HC2.out.mono ?_;rintro e u' w2 ⟨rfl,rfl,p2,f2⟩;have hA2:=f2.cells HA.out (by decide);obtain⟨⟨q0,q1,q2,q3,q4⟩,-⟩:=Zat (t:=61) hA2;refine⟨.tuple #[.agg #[.int .i64 0,.int .i64 0,.string ⟨#[]⟩,.slice none 0 0,.slice none 0 0],.bool false],?_,.bad HR.out (HF.out.trans f2) p2⟩;simp[results,Tryz.results54,go_sem,q0,q1,q2,q3,q4]
 | ok x rest ds=>
  rw[hr] at h1;obtain⟨⟨cs,rfl,hcs⟩,p1⟩:=h1;obtain⟨dk,da,dn,a3,n3,c3,a4,n4,c4,rfl⟩:=Zfi hcs;have HP:=Hd (p1.wide (M':=M+1) (by have:=p1.bd;omega));have HF:=Hd (F0.out.trans f1);have HA:=Hd (f1.cells A0.out (by decide));have HCS:=Hd (hcs.mono (A':=fun b=>w.heap.size≤b∧b≠w.heap.size+1) (fun b _ hb=>by have:=HS0.out;exact⟨by omega,by omega⟩));have HTH:=Hd (Zaf HA.out rfl);have HR:=Hd hr;clear hr p1 f1 hcs;go_wp2_with (first | (refine Zaa rfl 61 (.tmp 4) (.tmp 8) rfl (w.heap.size+1) _ rfl rfl HTH.out ZdN (all_oneCell_toArray (by simp[Value.oneCell'])) ?_;intro W9 hW9))
  have e9:W9=putL w1 (w.heap.size+1) [.int .i64 dk,.int .i64 da,.string dn,.slice a3 n3 c3,.slice a4 n4 c4]:=hW9.out;refine leaves_cons (f:=96) (args:=#[.pointer (some ⟨w.heap.size,0,none⟩)]) (by simp) (by simp[go_sem]) ?_;refine (ZoR _ _).mono ?_;rintro e u' w2 ⟨rfl,rfl,rfl⟩;have hA2:w2.heap[w.heap.size+1]?=some (.cells #[.int .i64 dk,.int .i64 da,.string dn,.slice a3 n3 c3,.slice a4 n4 c4] 61 (0,0)):=by rw[e9];exact Zam (vs:=[.int .i64 dk,.int .i64 da,.string dn,.slice a3 n3 c3,.slice a4 n4 c4]) HA.out rfl
  obtain⟨⟨q0,q1,q2,q3,q4⟩,-⟩:=Zat (t:=61) hA2;refine⟨.tuple #[.agg #[.int .i64 dk,.int .i64 da,.string dn,.slice a3 n3 c3,.slice a4 n4 c4],.bool true],?_,.ok HR.out ?_ ⟨[.int .i64 dk,.int .i64 da,.string dn,.slice a3 n3 c3,.slice a4 n4 c4],rfl,?_⟩ ?_⟩
  ·simp[results,Tryz.results54,go_sem,q0,q1,q2,q3,q4]
  ·rw[e9];exact HF.out.putL (by omega) _
  ·rw[e9];exact (HCS.out.putL _ (fun b hb=>hb.2) _).mono (fun b _ hb=>hb.1)
  ·rw[e9];exact HP.out.putL HA.out (by decide) (by have:=HPB.out;omega) _
theorem ZlH{B M:Nat}{pb:Nat}{all:List Tk}(hM':M≤10000000)(Bx:World→Prop)(hBx:∀w w',Bx w→Fr B w w'→Bx w')(read:List Tk→R PT)(b3 b6:Nat)
  (HC:∀W ts told,PS B M W pb all ts told→Bx W→Calls Tryz.prog 78 #[.pointer (some ⟨b3,0,none⟩),.pointer (some ⟨b6,0,none⟩)] W (Post B M W pb all told (vT W.heap.size) (read ts)))
  (w:World) (ts:List Tk) (told:List Dn) (h:PS B M w pb all ts told) (hb:Bx w) :
  Calls Tryz.prog 77 #[.pointer (some ⟨pb,0,none⟩),.func (.func 78) #[] #[.pointer (some ⟨b3,0,none⟩),.pointer (some ⟨b6,0,none⟩)]] w (AtPost B M w pb all told (fun lo x e w'=>∃cs,e=.returned (.tuple #[.agg cs.toArray,.bool true])∧IsCs (fun b=>lo≤b) w' (encT 26 x) cs) (.tuple #[.agg #[.int .i64 0,.string ⟨#[]⟩,.slice none 0 0,.slice none 0 0],.bool false]) (read ts)):=by
 have HPB:=Hd h.lt;obtain⟨W0,hW0⟩:=eY ((w.alloc (bxP pb)).alloc zT);have P0:PS B M W0 pb all ts told:=by rw[←hW0];exact (h.alloc _).alloc _
 have A0:=Hd (show W0.heap[w.heap.size+1]?=some zT by
  rw[←hW0];have:=hN (w.alloc (bxP pb)) zT
  simpa using this)
 have X0:=Hd (show W0.heap[w.heap.size]?=some (bxP pb) by rw[←hW0];exact Zab (hN w _) _);have F0:=Hd (show Fr B w W0 by rw[←hW0];exact ((Fr.refl B w).alloc _).alloc _);have HS0:=Hd (show W0.heap.size=w.heap.size+2 by rw[←hW0];simp);have HCC:=Hd (HC W0 ts told P0 (hBx _ _ hb F0.out));have HW0:=Hd hW0;have hmf:∀(fn:Fn) (first cap:Array Value) (w:World),(Instr.makeFunc fn first cap).run Tryz.prog w=.ok (.func fn first cap) w:=fun _ _ _ _=>rfl
 clear h hb HC hBx hW0 P0;obtain⟨res,hres⟩:=eX (read ts);rw[←hres] at HCC⊢;clear hres;go_enter_defers Tryz.func77,Tryz.ntmps77
 go_upto_region 2 with fail
 rw[HW0.out];go_wp2_with fail
 refine HCC.out.mono ?_;rintro e w1 ⟨f1,h1⟩;cases hr:res with
 | bad y rest ds=>
  rw[hr] at h1;obtain⟨rfl,p1⟩:=h1;have X1:=f1.cells X0.out (by decide);have A1:=f1.cells A0.out (by decide);have hbd:=p1.bd;have HC2:=Hd (Zm3 y w1 rest (told++ds) (p1.wide (M':=M+1) (by omega)) (by simp only[lA] at hbd⊢;omega) (by omega) X1);have HF:=Hd (F0.out.trans f1);have HA:=Hd A1;have HR:=Hd hr;clear hr p1 f1 X1 A1 hbd;go_wp2_with fail
  refine leaves_cons (f:=127) (args:=#[.pointer (some ⟨w.heap.size,0,none⟩)]) (by simp) (by simp[go_sem]) ?_;refine HC2.out.mono ?_;rintro e u' w2 ⟨rfl,rfl,p2,f2⟩;have hA2:=f2.cells HA.out (by decide);obtain⟨⟨q0,q1,q2,q3⟩,-⟩:=Zae (t:=26) hA2;refine⟨.tuple #[.agg #[.int .i64 0,.string ⟨#[]⟩,.slice none 0 0,.slice none 0 0],.bool false],?_,.bad HR.out (HF.out.trans f2) p2⟩;simp[results,Tryz.results77,go_sem,q0,q1,q2,q3]
 | ok x rest ds=>
  rw[hr] at h1;obtain⟨⟨cs,rfl,hcs⟩,p1⟩:=h1;obtain⟨tk,tn,a2,n2,c2,a3,n3,c3,rfl⟩:=Zbq hcs;have HP:=Hd (p1.wide (M':=M+1) (by have:=p1.bd;omega));have HF:=Hd (F0.out.trans f1);have HA:=Hd (f1.cells A0.out (by decide));have HCS:=Hd (hcs.mono (A':=fun b=>w.heap.size≤b∧b≠w.heap.size+1) (fun b _ hb=>by have:=HS0.out;exact⟨by omega,by omega⟩));have HTH:=Hd (Zaf HA.out rfl);have HR:=Hd hr;clear hr p1 f1 hcs;go_wp2_with (first | (refine Zaa rfl 26 (.tmp 4) (.tmp 8) rfl (w.heap.size+1) _ rfl rfl HTH.out Zc8 (all_oneCell_toArray (by simp[Value.oneCell'])) ?_;intro W9 hW9))
  have e9:W9=putL w1 (w.heap.size+1) [.int .i64 tk,.string tn,.slice a2 n2 c2,.slice a3 n3 c3]:=hW9.out;refine leaves_cons (f:=127) (args:=#[.pointer (some ⟨w.heap.size,0,none⟩)]) (by simp) (by simp[go_sem]) ?_;refine (ZoQ _ _).mono ?_;rintro e u' w2 ⟨rfl,rfl,rfl⟩;have hA2:w2.heap[w.heap.size+1]?=some (.cells #[.int .i64 tk,.string tn,.slice a2 n2 c2,.slice a3 n3 c3] 26 (0,0)):=by rw[e9];exact Zam (vs:=[.int .i64 tk,.string tn,.slice a2 n2 c2,.slice a3 n3 c3]) HA.out rfl
  obtain⟨⟨q0,q1,q2,q3⟩,-⟩:=Zae (t:=26) hA2;refine⟨.tuple #[.agg #[.int .i64 tk,.string tn,.slice a2 n2 c2,.slice a3 n3 c3],.bool true],?_,.ok HR.out ?_ ⟨[.int .i64 tk,.string tn,.slice a2 n2 c2,.slice a3 n3 c3],rfl,?_⟩ ?_⟩
  ·simp[results,Tryz.results77,go_sem,q0,q1,q2,q3]
  ·rw[e9];exact HF.out.putL (by omega) _
  ·rw[e9];exact (HCS.out.putL _ (fun b hb=>hb.2) _).mono (fun b _ hb=>hb.1)
  ·rw[e9];exact HP.out.putL HA.out (by decide) (by have:=HPB.out;omega) _
theorem ZlI{B M:Nat}{pb:Nat}{all:List Tk}(hM':M≤10000000)(Bx:World→Prop)(hBx:∀w w',Bx w→Fr B w w'→Bx w')(read:List Tk→R PE)(b3 b6:Nat)
  (HC:∀W ts told,PS B M W pb all ts told→Bx W→Calls Tryz.prog 87 #[.pointer (some ⟨b3,0,none⟩),.pointer (some ⟨b6,0,none⟩)] W (Post B M W pb all told (vE W.heap.size) (read ts)))
  (w:World) (ts:List Tk) (told:List Dn) (h:PS B M w pb all ts told) (hb:Bx w) :
  Calls Tryz.prog 86 #[.pointer (some ⟨pb,0,none⟩),.func (.func 87) #[] #[.pointer (some ⟨b3,0,none⟩),.pointer (some ⟨b6,0,none⟩)]] w (AtPost B M w pb all told (fun lo x e w'=>∃cs,e=.returned (.tuple #[.agg cs.toArray,.bool true])∧IsCs (fun b=>lo≤b) w' (encE 26 36 x) cs) (.tuple #[.agg #[.int .i64 0,.int .i64 0,.string ⟨#[]⟩,.int .i64 0,.slice none 0 0,.slice none 0 0,.slice none 0 0],.bool false]) (read ts)):=by
 have HPB:=Hd h.lt;obtain⟨W0,hW0⟩:=eY ((w.alloc (bxP pb)).alloc zE);have P0:PS B M W0 pb all ts told:=by rw[←hW0];exact (h.alloc _).alloc _
 have A0:=Hd (show W0.heap[w.heap.size+1]?=some zE by
  rw[←hW0];have:=hN (w.alloc (bxP pb)) zE
  simpa using this)
 have X0:=Hd (show W0.heap[w.heap.size]?=some (bxP pb) by rw[←hW0];exact Zab (hN w _) _);have F0:=Hd (show Fr B w W0 by rw[←hW0];exact ((Fr.refl B w).alloc _).alloc _);have HS0:=Hd (show W0.heap.size=w.heap.size+2 by rw[←hW0];simp);have HCC:=Hd (HC W0 ts told P0 (hBx _ _ hb F0.out));have HW0:=Hd hW0;have hmf:∀(fn:Fn) (first cap:Array Value) (w:World),(Instr.makeFunc fn first cap).run Tryz.prog w=.ok (.func fn first cap) w:=fun _ _ _ _=>rfl
 clear h hb HC hBx hW0 P0;obtain⟨res,hres⟩:=eX (read ts);rw[←hres] at HCC⊢;clear hres;go_enter_defers Tryz.func86,Tryz.ntmps86
 go_upto_region 2 with fail
 rw[HW0.out];go_wp2_with fail
 refine HCC.out.mono ?_;rintro e w1 ⟨f1,h1⟩;cases hr:res with
 | bad y rest ds=>
  rw[hr] at h1;obtain⟨rfl,p1⟩:=h1;have X1:=f1.cells X0.out (by decide);have A1:=f1.cells A0.out (by decide);have hbd:=p1.bd;have HC2:=Hd (Zm2 y w1 rest (told++ds) (p1.wide (M':=M+1) (by omega)) (by simp only[lA] at hbd⊢;omega) (by omega) X1);have HF:=Hd (F0.out.trans f1);have HA:=Hd A1;have HR:=Hd hr;clear hr p1 f1 X1 A1 hbd;go_wp2_with fail
  refine leaves_cons (f:=135) (args:=#[.pointer (some ⟨w.heap.size,0,none⟩)]) (by simp) (by simp[go_sem]) ?_;refine HC2.out.mono ?_;rintro e u' w2 ⟨rfl,rfl,p2,f2⟩;have hA2:=f2.cells HA.out (by decide);obtain⟨⟨q0,q1,q2,q3,q4,q5,q6⟩,-⟩:=Zai (t:=36) hA2;refine⟨.tuple #[.agg #[.int .i64 0,.int .i64 0,.string ⟨#[]⟩,.int .i64 0,.slice none 0 0,.slice none 0 0,.slice none 0 0],.bool false],?_,.bad HR.out (HF.out.trans f2) p2⟩;simp[results,Tryz.results86,go_sem,q0,q1,q2,q3,q4,q5,q6]
 | ok x rest ds=>
  rw[hr] at h1;obtain⟨⟨cs,rfl,hcs⟩,p1⟩:=h1;obtain⟨ek,ea,en,em,a4,n4,c4,a5,n5,c5,a6,n6,c6,rfl⟩:=ZaT hcs;have HP:=Hd (p1.wide (M':=M+1) (by have:=p1.bd;omega));have HF:=Hd (F0.out.trans f1);have HA:=Hd (f1.cells A0.out (by decide));have HCS:=Hd (hcs.mono (A':=fun b=>w.heap.size≤b∧b≠w.heap.size+1) (fun b _ hb=>by have:=HS0.out;exact⟨by omega,by omega⟩));have HTH:=Hd (Zaf HA.out rfl);have HR:=Hd hr;clear hr p1 f1 hcs;go_wp2_with (first | (refine Zaa rfl 36 (.tmp 4) (.tmp 8) rfl (w.heap.size+1) _ rfl rfl HTH.out Zbi (all_oneCell_toArray (by simp[Value.oneCell'])) ?_;intro W9 hW9))
  have e9:W9=putL w1 (w.heap.size+1) [.int .i64 ek,.int .i64 ea,.string en,.int .i64 em,.slice a4 n4 c4,.slice a5 n5 c5,.slice a6 n6 c6]:=hW9.out;refine leaves_cons (f:=135) (args:=#[.pointer (some ⟨w.heap.size,0,none⟩)]) (by simp) (by simp[go_sem]) ?_;refine (ZoP _ _).mono ?_;rintro e u' w2 ⟨rfl,rfl,rfl⟩;have hA2:w2.heap[w.heap.size+1]?=some (.cells #[.int .i64 ek,.int .i64 ea,.string en,.int .i64 em,.slice a4 n4 c4,.slice a5 n5 c5,.slice a6 n6 c6] 36 (0,0)):=by rw[e9];exact Zam (vs:=[.int .i64 ek,.int .i64 ea,.string en,.int .i64 em,.slice a4 n4 c4,.slice a5 n5 c5,.slice a6 n6 c6]) HA.out rfl
  obtain⟨⟨q0,q1,q2,q3,q4,q5,q6⟩,-⟩:=Zai (t:=36) hA2;refine⟨.tuple #[.agg #[.int .i64 ek,.int .i64 ea,.string en,.int .i64 em,.slice a4 n4 c4,.slice a5 n5 c5,.slice a6 n6 c6],.bool true],?_,.ok HR.out ?_ ⟨[.int .i64 ek,.int .i64 ea,.string en,.int .i64 em,.slice a4 n4 c4,.slice a5 n5 c5,.slice a6 n6 c6],rfl,?_⟩ ?_⟩
  ·simp[results,Tryz.results86,go_sem,q0,q1,q2,q3,q4,q5,q6]
  ·rw[e9];exact HF.out.putL (by omega) _
  ·rw[e9];exact (HCS.out.putL _ (fun b hb=>hb.2) _).mono (fun b _ hb=>hb.1)
  ·rw[e9];exact HP.out.putL HA.out (by decide) (by have:=HPB.out;omega) _
theorem Zf7{Q:Step→Prop}(hQ:∀l:Bs,l≠[]→Q (Zac l)):∀(N a:Nat) (l:Bs),l.length≤N→∀x∈pcs a l,Q x.s
 | 0,a,l,h,x,hx=>by
  obtain rfl:l=[]:=List.eq_nil_of_length_eq_zero (by omega);rw[Zcx] at hx;cases hx
 | N+1,a,l,h,x,hx=>by
  by_cases hl:l=[]
  ·subst hl;rw[Zcx] at hx;cases hx
  ·rw[ZcR a l hl] at hx;rcases List.mem_cons.1 hx with rfl | hx
   ·exact hQ l hl
   ·have:=ZbS l hl;exact Zf7 hQ N _ _ (by rw[List.length_drop];omega) x hx
theorem Zd7:∀(N a:Nat) (l:Bs),l.length≤N→(pcs a l).length≤l.length
 | 0,a,l,h=>by
  obtain rfl:l=[]:=List.eq_nil_of_length_eq_zero (by omega);rw[Zcx];exact nl _
 | N+1,a,l,h=>by
  by_cases hl:l=[]
  ·subst hl;rw[Zcx];exact nl _
  ·rw[ZcR a l hl];have h1:=ZbS l hl;have:=Zd7 N (a+(Zac l).n) (l.drop (Zac l).n) (by rw[List.length_drop];omega);rw[List.length_drop] at this;simp only[lC];omega
def TokQ (s:Step):Prop:=s.k≤5∧(s.k=3→NumT s.t)∧(s.d≠0→s.k=0∨s.k=3)
theorem Zhu:∀(l:Bs) (c:UInt8),c∈l.take (Zad ZaD l)→48≤c.toNat∧c.toNat≤57:=by
 intro l c hc;obtain⟨i,hi,rfl⟩:=List.getElem_of_mem hc;have h1:i<Zad ZaD l:=by rw[List.length_take] at hi;omega
 obtain⟨c,hc,hp⟩:=Zb9 ZaD l i h1;have h2:i<l.length:=by rw[List.length_take] at hi;omega
 rw[List.getElem_take];rw[List.getElem?_eq_getElem h2] at hc;cases hc
 simpa[ZaD] using hp
theorem Zij:∀l:Bs,l≠[]→TokQ (Zac l)
 | [],h=>absurd rfl h
 | c::r,_=>by
  simp only[Zac];split
  ·exact⟨by simp,by simp,by simp⟩
  split
  ·exact⟨by simp,by simp,by simp⟩
  split
  ·refine⟨?_,fun h=>?_,by simp⟩
   ·show ZaL _≤5;unfold ZaL;split<;>simp
   ·exfalso
    have h':ZaL ((c::r).take (Zad ZaH (c::r)))=3:=h;unfold ZaL at h';split at h'<;>cases h'
  split
  next hd=>
   split
   ·exact⟨by simp,fun _=>⟨by simp,by simp,by simp⟩,by simp⟩
   next hn=>
    refine⟨by simp,fun _=>⟨?_,?_,Zhu (c::r)⟩,by simp⟩
    ·intro e;have e0:(c::r).take (Zad ZaD (c::r))=[]:=e;have e1:((c::r).take (Zad ZaD (c::r))).length=0:=by rw[e0];rfl
     rw[List.length_take] at e1;have:=Zcv r hd;simp at e1;omega
    ·show ((c::r).take (Zad ZaD (c::r))).length≤18;rw[List.length_take];omega
  split
  ·split
   ·exact⟨by simp,by simp,by simp⟩
   ·exact⟨by simp,by simp,by simp⟩
  split
  ·exact⟨by simp,by simp,by simp⟩
  split
  ·exact⟨by simp,by simp,by simp⟩
  ·exact⟨by simp,by simp,by simp⟩
theorem ZfY{l:Bs}{t:Tk}(h:t∈toks l):t=⟨6,l.length,[]⟩∨∃x∈pcs 0 l,x.s.k≠0∧t=⟨x.s.k,x.at_,x.s.t⟩:=by
 unfold toks at h;rcases List.mem_append.1 h with h | h
 ·right
  unfold ZaG at h;obtain⟨x,hx,hx2⟩:=List.mem_filterMap.1 h;refine⟨x,(List.mem_filter.1 hx).1,?_⟩;split at hx2
  ·cases hx2
  next hk=>cases hx2;exact⟨hk,rfl⟩
 ·left
  simpa using h
theorem ZdJ (l:Bs):∀t∈toks l,t.k=3→NumT t.t:=by
 intro t ht hk;rcases ZfY ht with rfl | ⟨x,hx,-,rfl⟩
 ·cases hk
 ·exact (Zf7 Zij l.length 0 l (nl _) x hx).2.1 hk
theorem ZeJ (l:Bs):∀t∈toks l,t.t.length≤l.length:=by
 intro t ht;rcases ZfY ht with rfl | ⟨x,hx,-,rfl⟩
 ·simp
 ·exact Zom l.length 0 l (nl _) x hx
theorem Zco (l:Bs):(toks l).length≤l.length+1:=by
 unfold toks;rw[lA];have h1:=ZdK (Zaq 0 l);have h2:(Zaq 0 l).length≤(pcs 0 l).length:=List.length_filter_le _ _;have h3:=Zd7 l.length 0 l (nl _);simp only[lC,lN];omega
theorem Zdi (l:Bs):(told l).length≤l.length:=by
 unfold told;have h1:=ZeI (Zaq 0 l);have h2:(Zaq 0 l).length≤(pcs 0 l).length:=List.length_filter_le _ _;have h3:=Zd7 l.length 0 l (nl _);omega
theorem ZjW (l:Bs):∀t∈ZaG (Zaq 0 l),t.k≤5:=by
 intro t ht;unfold ZaG at ht;obtain⟨x,hx,hx2⟩:=List.mem_filterMap.1 ht;split at hx2
 ·cases hx2
 ·cases hx2;exact (Zf7 Zij l.length 0 l (nl _) x (List.mem_filter.1 hx).1).1
def dns (l:Bs):List Dn:=(told l).map fun d=>⟨d.a,d.d,[]⟩
theorem Zlq (l:List Dg):ZbC (l.map fun d=>⟨d.a,d.d,[]⟩)=Zbv l:=by
 induction l with
 | nil=>rfl
 | cons x r ih=>simp only[ZbC,Zbv,List.map_cons,List.flatMap_cons] at ih⊢;rw[ih];rfl
theorem ZhK (s:ByteArray)(hs:s.size≤100000)(w:World) :
  Calls Tryz.prog 52 #[.string s] w fun e w'=>∃pb,e=.returned (.pointer (some ⟨pb,0,none⟩))∧Below w.heap.size w w'∧PS w.heap.size ((dns s.data.toList).length+(toks s.data.toList).length) w' pb (toks s.data.toList) (toks s.data.toList) (dns s.data.toList):=by
 have HL:=Hd (ZoF s (by omega) w);have HS:=Hd (show s.data.toList.length≤100000 by rw[Lib.size_eq] at hs;exact hs);have HSZ:=Hd (Lib.size_eq s);clear hs;go_enter Tryz.func52,Tryz.ntmps52
 go_wp2_with fail
 refine HL.out.mono ?_;rintro e W ⟨v,u,rfl,h1,h2,hb⟩;obtain⟨a0,c0,rfl⟩:=Zag h1;obtain⟨a1,c1,rfl⟩:=Zag h2;have H1:=Hd h1;have H2:=Hd h2;have HB:=Hd hb;obtain⟨n1,hn1⟩:=eX ((ZaG (Zaq 0 s.data.toList)).length+1);obtain⟨n2,hn2⟩:=eX ((Za2 (Zaq 0 s.data.toList)).length);rw[←hn1,←hn2];have HN1:=Hd hn1;have HN2:=Hd hn2;clear h1 h2 hb hn1 hn2;go_wp2_with fail
 go_ret
 refine⟨W.heap.size,rfl,HB.out.alloc HB.out.size _,HB.out.size,?_,?_,nl _,?_,.slice a0 n1 c0,.slice a1 n2 c1,0,hN W _,?_,?_,?_,?_⟩
 ·have:=HB.out.size;simp;omega
 ·exact⟨_,_,rfl,rfl⟩
 ·have:=Zco s.data.toList;have:=HS.out;omega
 ·have:=H1.out;rw[←HN1.out] at this;have e1:(toks s.data.toList).length=n1:=by rw[HN1.out];simp[toks]
  rw[e1];have h3:ZaG (Zaq 0 s.data.toList)++[⟨6,s.size,[]⟩]=toks s.data.toList:=by rw[HSZ.out];rfl
  rw[h3] at this;refine (World.ownsRow.alloc ⟨this.1,?_⟩ _);rcases this.2 with hn | ⟨g,cap,cur,hv,hb,hg,rest⟩
  ·exact .inl hn
  ·exact .inr ⟨g,cap,cur,hv,Nat.zero_le _,hg,rest⟩
 ·have:=H2.out;rw[←HN2.out] at this;have e1:(dns s.data.toList).length=n2:=by rw[HN2.out];simp[dns,told]
  rw[e1,dns,Zlq];exact this.alloc _
 ·simp
 ·intro b hb';have:=H1.out;rw[←HN1.out] at this;exact (this.lt b hb').2
theorem Ze0{ts:List Tk}{t:Tk}{r:List Tk}(h:ts=t::r)(hk:t.k=6):Za4 ts=ts:=by subst h;rw[Za4,if_pos hk]
theorem ZfC{ts:List Tk}{t:Tk}{r:List Tk}(h:ts=t::r)(hk:t.k≠6)(hm:isM [59] ts=true):Za4 ts=ts.tail:=by subst h;rw[Za4,if_neg hk,if_pos hm];rfl
theorem Ziw{ts:List Tk}{t:Tk}{r:List Tk}(h:ts=t::r)(hk:t.k≠6)(hm:isM [59] ts=false):Za4 ts=Za4 ts.tail:=by subst h;rw[Za4,if_neg hk,hm];rfl
theorem ZgY{B M:Nat}{pb:Nat}{all:List Tk}(w:World)(ts:List Tk)(told:List Dn)(h:PS B M w pb all ts told) :
  Calls Tryz.prog 56 #[.pointer (some ⟨pb,0,none⟩)] w fun e w'=>e=.returned (.tuple #[])∧PS B M w' pb all (Za4 ts) told∧Fr B w w':=by
 have P0:=Hd h;obtain⟨out,hout⟩:=eX (Za4 ts);rw[←hout];have HO:=Hd hout;have HFL:=Hd Zgl;clear h hout;go_enter Tryz.func56,Tryz.ntmps56
 go_wp2_with fail
 go_loopw [] (fun wr=>∃ts':List Tk,PS B M wr pb all ts' told∧Fr B w wr∧Hid (out=Za4 ts')) (fun wr=>left pb all wr)
 case atStart=>exact⟨ts,P0.out,Fr.refl _ _,HO⟩
 case round=>
  obtain⟨ts',hp,hF,hq⟩:=hrel;obtain⟨g,cap,i,vd,-,-,-,-,-,-,-,r,hts,-⟩:=hp.first
  have HTS:=Hd hts;have HLE:=Hd hp.left;have HTL:=Hd (ZdA hp.len.2);have HNW:=Hd (Zcl hp);have P1:=Hd hp;have F1:=Hd hF;obtain⟨t,ht⟩:=eX (hd ts');have HT:=Hd ht;rw[←ht] at HNW;clear hp hF hts ht;have hfl:=HFL.out;by_cases hk:t.k=6
  ·have hk1:(t.k:Int)=6:=by omega
   have hk2:((t.k:Int) !=6)=false:=by simpa using hk1
   have HK:=Hd hk;have HE:=Hd (show out=ts' from hq.out.trans (Ze0 HTS.out (by rw[←HT.out];exact hk)));clear hk1 hk hq;go_wp2_with fail
   refine HNW.out.mono ?_;rintro e w2 ⟨rfl,b2⟩;have P2:=Hd (P1.out.below b2);have F2:=Hd (F1.out.below b2);clear b2;unfold tokV;go_wp2_with fail
   go_end0
   exact⟨rfl,by rw[HE.out];exact P2.out,F2.out⟩
  ·have hk1:¬(t.k:Int)=6:=by omega
   have hk2:((t.k:Int) !=6)=true:=by simpa using hk1
   have HK:=Hd hk;clear hk1 hk;go_wp2_with fail
   refine HNW.out.mono ?_;rintro e w2 ⟨rfl,b2⟩;have P2:=Hd (P1.out.below b2);have F2:=Hd (F1.out.below b2);clear b2;unfold tokV;go_wp2_with fail
   clear hfl hk2;refine (Zay P2.out [59]).mono ?_;rintro e w3 ⟨rfl,p3,f3⟩;have F3:=Hd (F2.out.trans f3);clear f3;cases hm:isM [59] ts' with
   | true=>
    simp only[hm,if_true] at p3;have HE:=Hd (show out=ts'.tail from hq.out.trans (ZfC HTS.out (by rw[←HT.out];exact HK.out) hm));have P3:=Hd p3;clear p3 hm hq;go_wp2_with fail
    refine bodyPost_ret (results_none rfl _ _ _) rfl ?_;exact⟨rfl,by rw[HE.out];exact P3.out,F3.out⟩
   | false=>
    simp only[hm,ff,if_false] at p3;have HE:=Hd (show out=Za4 ts'.tail from hq.out.trans (Ziw HTS.out (by rw[←HT.out];exact HK.out) hm));have P3:=Hd p3;clear p3 hm hq;go_wp2_with fail
    refine (ZcS P3.out (by rw[←HT.out];exact HK.out)).mono ?_;rintro e w4 ⟨rfl,p4,f4⟩;have P4:=Hd p4;have F4:=Hd (F3.out.trans f4);clear p4 f4;go_wp2_with fail
    refine⟨⟨ts'.tail,P4.out,F4.out,HE⟩,?_⟩;rw[P4.out.left,HLE.out];have:=HTL.out;omega
theorem Zj9{α:Type}{n:Nat}{x:R α}{a:α}{r:List Tk}{d:List Dn}(h:Shr n x)(e:x=.ok a r d):r.length≤n:=by subst e;exact h
theorem Zlt{ts:List Tk}{d:PD}{r:List Tk}{e:List Dn}(h:ZbI ts=.ok d r e):r.length≤ts.tail.length:=by
 have hT:∀ts,Shr ts.length (typ 64 ts):=(Zcz 64).1;have hE:∀ts,Shr ts.length (exp 64 ts):=Zdd 64;unfold ZbI at h;split at h
 ·exact Zj9 ((Zbk _).bind fun nm r _=>(ZaQ _ r).bind fun _ r _=>Shr.ok _ _ _) h
 split at h
 ·exact Zj9 ((Zbk _).bind fun nm r _=>(ZaQ _ r).bind fun _ r _=>(hT r).bind fun t r _=>(ZaQ _ r).bind fun _ r _=>Shr.ok _ _ _) h
 ·cases e1:want [108,101,116] ts with
  | bad y r1 d1=>rw[e1,R.bind_bad] at h;cases h
  | ok u r1 d1=>
   rw[e1,R.bind_ok] at h;have hr:r1=ts.tail:=by
    unfold want at e1;split at e1
    ·cases e1;rfl
    ·cases e1
   subst hr;refine Zj9 (Shr.tell ((Zbk _).bind fun nm r _=>?_) d1) h;split
   ·exact ((hT _).mono (Za8 r)).bind fun t r _=>(ZaQ _ r).bind fun _ r _=>(hE r).bind fun e r _=>(ZaQ _ r).bind fun _ r _=>Shr.ok _ _ _
   ·exact (ZaQ _ r).bind fun _ r _=>(hE r).bind fun e r _=>(ZaQ _ r).bind fun _ r _=>Shr.ok _ _ _
theorem Zeu:∀ts:List Tk,(Za4 ts).length≤ts.length
 | []=>nl _
 | t::r=>by
  unfold Za4;split
  ·exact nl _
  split
  ·simp
  ·have:=Zeu r;simp;omega
theorem Zix{ts:List Tk}{t:Tk}{r:List Tk}(h:ts=t::r)(hk:t.k≠6):(Za4 ts).length+1≤ts.length:=by
 subst h;unfold Za4;rw[if_neg hk];split
 ·simp
 ·have:=Zeu r;simp;omega
theorem info62:(Tryz.prog.info? 61).map (fun i=>(i.zero,i.size,i.bytes))=some (some (.agg #[.int .i64 0,.int .i64 0,.string ⟨#[]⟩,.slice none 0 0,.slice none 0 0]),5,80):=by kernel_rfl
theorem ZjB (l:List PD)(d:PD):ZdF 26 36 (l++[d])=ZdF 26 36 l++encD 26 36 d:=by simp[ZdF]
def Zbt (l:Bs):List PD×List Dn:=((ZaO (toks l).length (toks l)).1,dns l++(ZaO (toks l).length (toks l)).2)
theorem PS.split{B M:Nat}{w:World}{pb:Nat}{all ts:List Tk}{told:List Dn}(h:PS B M w pb all ts told):∃r,ts=hd ts::r:=by
 obtain⟨g,cap,i,vd,-,-,-,-,-,-,-,r,hts,-⟩:=h.first
 exact⟨r,hts⟩
theorem PS.two{B M:Nat}{w:World}{pb:Nat}{all ts:List Tk}{told:List Dn}(h:PS B M w pb all ts told)(hk:(hd ts).k≠6):2≤ts.length:=by
 obtain⟨p,e,h1,h2⟩:=h.fin;cases p with
 | nil=>simp at h1;subst h1;exact absurd h2 hk
 | cons x r=>rw[h1];simp
theorem Zct{n:Nat}{ts:List Tk}(hk:(hd ts).k≠6):ZaO (n+1) ts=match ZbI ts with
   | .ok d r e=>(d::(ZaO n r).1,e++(ZaO n r).2)
   | .bad y r e=>((ZaO n (Za4 r)).1,e++(y::(ZaO n (Za4 r)).2)):=by
 rw[ZaO,if_neg hk];cases ZbI ts<;>rfl
theorem PS.shorter{B M B' M':Nat}{w w':World}{pb:Nat}{all ts r:List Tk}{told told':List Dn}(h:PS B M w pb all ts told)(h':PS B' M' w' pb all r told')(hl:r.length≤ts.length)(hk:(hd r).k≠(hd ts).k):r.length+1≤ts.length:=by
 rcases Nat.lt_or_ge r.length ts.length with h1 | h1
 ·exact h1
 ·exfalso
  have h0:=h'.len.2;obtain⟨-,-,-,-,-,vt,vd,i,-,-,-,e1,-⟩:=h;obtain⟨-,-,-,-,-,vt',vd',j,-,-,-,e2,-⟩:=h';have l1:ts.length=all.length-i:=by rw[e1,List.length_drop]
  have l2:r.length=all.length-j:=by rw[e2,List.length_drop]
  have:i=j:=by omega
  subst this;exact hk (by rw[e1,e2])
theorem ZkQ (s:ByteArray)(hs:s.size≤100000)(w:World) :
  Calls Tryz.prog 19 #[.string s] w fun e w'=>∃vl vd,e=.returned (.tuple #[vl,vd])∧Below w.heap.size w w'∧IsC (fun b=>w.heap.size≤b) w' (.row 61 5 (Zbt s.data.toList).1.length (ZdF 26 36 (Zbt s.data.toList).1)) vl∧w'.ownsRow w.heap.size 153 3 vd (Zbt s.data.toList).2.length (ZbC (Zbt s.data.toList).2):=by
 obtain⟨i0,hi,hz0,hz1,hz2⟩:=info_parts info62;have HNEW:=Hd (ZhK s hs w);have HS:=Hd (show s.data.toList.length≤100000 by rw[Lib.size_eq] at hs;exact hs);obtain⟨all,hall⟩:=eX (toks s.data.toList);obtain⟨t0,ht0⟩:=eX (dns s.data.toList);obtain⟨out,hout⟩:=eX (Zbt s.data.toList);rw[←hall,←ht0] at HNEW;rw[←hout];have HALL:Hid (∀t∈all,t.t.length≤1000000):=by
  intro t ht;rw[hall] at ht;have:=ZeJ _ t ht;have:=HS.out;omega
 have HNUM:Hid (∀t∈all,t.k=3→NumT t.t):=by rw[hall];exact ZdJ _
 have HLEN:=Hd (show all.length≤100001∧t0.length≤100000 by
  rw[hall,ht0];have:=Zco s.data.toList;have:=Zdi s.data.toList;have:=HS.out
  simp only[dns,List.length_map];omega)
 have HOUT:=Hd (show out=([]++(ZaO all.length all).1,t0++(ZaO all.length all).2) by rw[hout,hall,ht0];rfl);have HFL:=Hd Zgl;clear hs hall ht0 hout;go_enter Tryz.func19,Tryz.ntmps19
 go_wp2_with fail
 refine HNEW.out.mono ?_;rintro e w1 ⟨pb,rfl,b1,p1⟩;have B1:=Hd b1;have P1:=Hd p1;clear b1 p1;go_wp2_with fail
 go_loopw [5] (fun s5 wr=>∃(acc:List PD) (ts':List Tk) (tl:List Dn) (n:Nat),ts'.length≤n∧acc.length+ts'.length≤1000000∧tl.length+2*ts'.length≤1000000∧PS w.heap.size (tl.length+ts'.length) wr pb all ts' tl∧Fr w.heap.size w1 wr∧(∃xs,wr.ownsRow 0 61 5 s5 acc.length xs∧(∀b,s5.ownBlock=some b→w1.heap.size≤b)∧IsCs (fun b=>w1.heap.size≤b∧some b≠s5.ownBlock) wr (ZdF 26 36 acc) xs)∧Hid (out=(acc++(ZaO n ts').1,tl++(ZaO n ts').2))) (fun _ wr=>left pb all wr)
 case atStart=>
  refine⟨[],all,t0,all.length,nl _,?_,?_,P1.out,Fr.refl _ _,⟨[],World.ownsRow_nil _ _ _ _,(fun b hb=>by cases hb),IsCs.nil _ _⟩,HOUT⟩
  ·have:=HLEN.out;simp;omega
  ·have:=HLEN.out;omega
 case round=>
  obtain⟨acc,ts',tl,n,hn,hac,htl,hp,hF,⟨xs,hr,ho,hc⟩,hq⟩:=hrel;have HN:=Hd hn;have HAC:=Hd hac;have HTL:=Hd htl;have HLE:=Hd hp.left;have HPL:=Hd hp.len;have HTT:=Hd (ZdA hp.len.2);have HNW:=Hd (Zcl hp);have P:=Hd hp;have F:=Hd hF;have RW:=Hd hr;have OW:=Hd ho;have CW:=Hd hc;have HPB:=Hd (show pb<w1.heap.size from P1.out.lt);obtain⟨t,ht⟩:=eX (hd ts');have HT:=Hd ht;rw[←ht] at HNW;clear hn hac htl hp hF hr ho hc ht;have hfl:=HFL.out;by_cases hk:t.k=6
  ·have hk1:(t.k:Int)=6:=by omega
   have hk2:((t.k:Int) !=6)=false:=by simpa using hk1
   have hpe:ZaO n ts'=([],[]):=by
    cases n with
    | zero=>rfl
    | succ n=>rw[ZaO,if_pos (by rw[←HT.out];exact hk)]
   have HE:=Hd (show out=(acc,tl) by rw[hq.out,hpe];simp);clear hk1 hk hq hpe;go_wp2_with fail
   refine HNW.out.mono ?_;rintro e w2 ⟨rfl,b2⟩;have P2:=Hd (P.out.below b2);have F2:=Hd (F.out.below b2);have R2:=Hd (ZaM RW.out b2);have C2:=Hd (CW.out.below b2);clear b2;unfold tokV;obtain⟨vt,vd,i3,h6,-,h8,-⟩:=P2.out.ex;obtain⟨⟨c0,c1,c2⟩,-⟩:=Zan h6;obtain⟨ad,cd,rfl⟩:=Zag h8;obtain⟨al,cl,hul⟩:=Zag R2.out;have H8:=Hd h8;have HUL:=Hd hul;clear h6 h8 hul;go_wp2_with fail
   go_quiet (fail)
   go_wp2_with fail
   go_ret2
   have hd9:(w2.drewN nq).heap=w2.heap:=rfl;refine⟨_,_,rfl,B1.out.trans ((F2.out.alike (W':=w2.drewN nq) rfl rfl rfl rfl).belows B1.out.size),?_,?_⟩
   ·rw[HE.out];refine IsC.row (by decide) (Zbc (S:=fun _=>False) R2.out (nl _) (fun _ _ _=>rfl) (fun _ _ h=>h)) (fun b hb=>Nat.le_trans B1.out.size (OW.out b hb)) (IsCs.kept (w:=w2) (w':=w2.drewN nq) (S:=fun _=>False) (nl _) (fun _ _ _=>rfl) (fun _ _ h=>h) _ _ (C2.out.mono (fun b _ hb=>Nat.le_trans B1.out.size hb.1)))
   ·rw[HE.out];exact Zbc (S:=fun _=>False) H8.out (nl _) (fun _ _ _=>rfl) (fun _ _ h=>h)
  ·have hk1:¬(t.k:Int)=6:=by omega
   have hk2:((t.k:Int) !=6)=true:=by simpa using hk1
   have HK:=Hd (show (hd ts').k≠6 by rw[←HT.out];exact hk);have HTWO:=Hd (P.out.two HK.out);obtain⟨n',rfl⟩:∃n',n=n'+1:=⟨n-1,by have:=HN.out;have:=HPL.out.2;omega⟩;have HQ:=Hd (show out=(acc++(ZaO (n'+1) ts').1,tl++(ZaO (n'+1) ts').2) from hq.out);clear hk1 hk hq;go_wp2_with fail
   refine HNW.out.mono ?_;rintro e w2 ⟨rfl,b2⟩;have P2:=Hd (P.out.below b2);have F2:=Hd (F.out.below b2);have R2:=Hd (ZaM RW.out b2);have C2:=Hd (CW.out.below b2);have hMM:tl.length+ts'.length≤10000000:=by have:=HTL.out;omega
   have HAT:=Hd (ZlJ hMM (fun _=>True) (fun _ _ _ _=>trivial) ZbI (fun W ts told hp _=>ZmT (Zge hMM HALL.out 64 1 rfl).2 (ZhN hMM HALL.out HNUM.out 64 1 rfl) W ts told hp) w2 ts' tl P2.out trivial);clear b2 hMM;unfold tokV;go_wp2_with fail
   clear hfl hk2;refine HAT.out.mono ?_;rintro e w3 ⟨f3,h3⟩;cases hr:ZbI ts' with
   | ok d r ds=>
    have HST:=Hd (Zlt hr);have HQ3:=Hd (show out=(acc++[d]++(ZaO n' r).1,tl++ds++(ZaO n' r).2) by rw[HQ.out,Zct HK.out,hr];simp);rw[hr] at h3;obtain⟨⟨cs,rfl,hcs⟩,p3⟩:=h3;obtain⟨dk,da,dn,a3,n3,c3,a4,n4,c4,rfl⟩:=Zfi hcs;have HBD:=Hd p3.bd;have P3:=Hd (p3.alloc (.cells #[.int .i64 dk,.int .i64 da,.string dn,.slice a3 n3 c3,.slice a4 n4 c4] 61));have F3:=Hd ((F2.out.trans f3).alloc (.cells #[.int .i64 dk,.int .i64 da,.string dn,.slice a3 n3 c3,.slice a4 n4 c4] 61));have R3:=Hd ((f3.row R2.out (by decide)).alloc (.cells #[.int .i64 dk,.int .i64 da,.string dn,.slice a3 n3 c3,.slice a4 n4 c4] 61));have C3:=Hd ((IsCs.fr f3 _ _ C2.out).below ((Below.refl _ _).alloc (nl _) (.cells #[.int .i64 dk,.int .i64 da,.string dn,.slice a3 n3 c3,.slice a4 n4 c4] 61)));have V3:=Hd (hcs.below ((Below.refl _ _).alloc (nl _) (.cells #[.int .i64 dk,.int .i64 da,.string dn,.slice a3 n3 c3,.slice a4 n4 c4] 61)));have N3:=Hd (show (w3.alloc (.cells #[.int .i64 dk,.int .i64 da,.string dn,.slice a3 n3 c3,.slice a4 n4 c4] 61)).heap[w3.heap.size]?=_ from hN w3 _);have HRL:=Hd (show ∀b,u5.ownBlock=some b→b<w2.heap.size from fun b hb=>(R2.out.lt b hb).2);have HS3:=Hd f3.size;have HF2:=Hd F2.out.size;clear hr f3 p3 hcs P2 F2 R2 C2 HQ;go_upto_region 6 with fail
    obtain⟨W4,hW4⟩:=eY (w3.alloc (.cells #[.int .i64 dk,.int .i64 da,.string dn,.slice a3 n3 c3,.slice a4 n4 c4] 61));have HS4:=Hd (show W4.heap.size=w3.heap.size+1 by rw[←hW4];simp);rw[hW4] at P3 F3 R3 C3 V3 N3;rw[hW4];clear hW4;obtain⟨⟨q0,q1,q2,q3,q4⟩,-⟩:=Zat (t:=61) N3.out;have R8:=Hd (R3.out.alloc (.cells #[.int .i64 dk,.int .i64 da,.string dn,.slice a3 n3 c3,.slice a4 n4 c4] 61));have HNB:=Hd (World.news_of_block (hN W4 (.cells #[.int .i64 dk,.int .i64 da,.string dn,.slice a3 n3 c3,.slice a4 n4 c4] 61)));have HONE:=Hd (show ∀u∈([.int .i64 dk,.int .i64 da,.string dn,.slice a3 n3 c3,.slice a4 n4 c4]:List Value),u.oneCell'=true by simp[Value.oneCell']);have hmx:acc.length+1≤maxLen:=by have:=HAC.out;unfold maxLen;omega
    have hmb:(acc.length+1)*80≤140737488355328:=by have:=HAC.out;omega
    go_wp2_with (first | (at_builtin;refine wpList_append_lies _ rfl (.tmp 22) (.tmp 24) 49 rfl 0 61 i0 _ 5 80 Tryz.underlying49 hi hz0 hz1 hz2 rfl (by decide) u5 acc.length _ rfl R8.out ⟨W4.heap.size,0,none⟩ 1 1 [.int .i64 dk,.int .i64 da,.string dn,.slice a3 n3 c3,.slice a4 n4 c4] rfl rfl HNB.out HONE.out (by decide) hmx hmb (Nat.zero_le _) (W4.heap.size+1) (World.size_alloc _ _) ?_;intro g' cap' w9 hown9 hg9 hat9 hlt9))
    have hgg:w1.heap.size≤g':=by
     rcases hat9 with e | e
     ·exact OW.out g' e
     ·have:=HS4.out;have:=HS3.out;have:=HF2.out;omega
    have hP9:=((P3.out.alloc (.cells #[.int .i64 dk,.int .i64 da,.string dn,.slice a3 n3 c3,.slice a4 n4 c4] 61)).grown R8.out (by decide) (fun b hb=>by have:=OW.out b hb;have:=HPB.out;omega) hg9);refine⟨⟨acc++[d],r,tl++ds,n',?_,?_,?_,hP9.wide (nl _),(F3.out.alloc _).grownNew hg9 (fun b hb=>OW.out b hb),⟨xs++[.int .i64 dk,.int .i64 da,.string dn,.slice a3 n3 c3,.slice a4 n4 c4],by simpa using hown9,(fun b hb=>by cases hb;exact hgg),?_⟩,HQ3⟩,?_⟩
    ·have:=HST.out;have:=HTT.out;have:=HN.out;omega
    ·have:=HST.out;have:=HTT.out;have:=HAC.out;simp;omega
    ·have:=HST.out;have:=HTT.out;have:=HTL.out;have:=HBD.out;simp only[lA] at this⊢;omega
    ·rw[ZjB];have k1:=((C3.out.below ((Below.refl _ _).alloc (nl _) (.cells #[.int .i64 dk,.int .i64 da,.string dn,.slice a3 n3 c3,.slice a4 n4 c4] 61))).mono (A':=fun b=>w1.heap.size≤b∧some b≠u5.ownBlock∧b<W4.heap.size+1) (fun b hb hb'=>⟨hb'.1,hb'.2,by simpa using hb⟩)).grown hg9 (fun b hb=>hb.2.1);have k2:=((V3.out.mono (A':=fun b=>w1.heap.size≤b∧some b≠u5.ownBlock∧b<W4.heap.size+1) (fun b hb hb'=>⟨by have:=HF2.out;omega,fun e=>by have:=HRL.out b e.symm;omega,by omega⟩)).below ((Below.refl _ _).alloc (nl _) (.cells #[.int .i64 dk,.int .i64 da,.string dn,.slice a3 n3 c3,.slice a4 n4 c4] 61))).grown hg9 (fun b hb=>hb.2.1);have k3:=k1.append _ _ _ _ k2;refine k3.mono (fun b _ hb=>⟨hb.1,fun e=>?_⟩);have e':b=g':=by cases e;rfl
     subst e';rcases hat9 with e | e
     ·exact hb.2.1 e.symm
     ·omega
    ·rw[hP9.left,HLE.out];have:=HST.out;have:=HTT.out;omega
   | bad y r ds=>
    have HQ3:=Hd (show out=(acc++(ZaO n' (Za4 r)).1,tl++ds++[y]++(ZaO n' (Za4 r)).2) by rw[HQ.out,Zct HK.out,hr];simp);rw[hr] at h3;obtain⟨rfl,p3⟩:=h3;have HBD:=Hd p3.bd;have HRR:Hid (r.length≤ts'.length):=by have:=p3.bd;simp only[lA,lC,lN] at this;show r.length≤ts'.length;omega
    have HPS:Hid ((Za4 r).length+1≤ts'.length):=by
     obtain⟨rr,hrr⟩:=p3.split;by_cases h6:(hd r).k=6
     ·show (Za4 r).length+1≤ts'.length;rw[Ze0 hrr h6];exact P2.out.shorter p3 HRR.out (by rw[h6];exact fun e=>HK.out e.symm)
     ·have:=Zix hrr h6;show (Za4 r).length+1≤ts'.length;have:=HRR.out;omega
    have P3:=Hd (p3.alloc zD);have F3:=Hd ((F2.out.trans f3).alloc zD);have R3:=Hd ((f3.row R2.out (by decide)).alloc zD);have C3:=Hd ((IsCs.fr f3 _ _ C2.out).below ((Below.refl _ _).alloc (nl _) zD));clear hr f3 p3 P2 F2 R2 C2 HQ;go_wp2_with fail
    refine (ZgY _ _ _ P3.out).mono ?_;rintro e w4 ⟨rfl,p4,f4⟩;have P4:=Hd p4;have F4:=Hd (F3.out.trans f4);have R4:=Hd (f4.row R3.out (by decide));have C4:=Hd (IsCs.fr f4 _ _ C3.out);clear p4 f4;go_wp2_with fail
    refine⟨⟨acc,Za4 r,tl++ds++[y],n',?_,?_,?_,P4.out.wide (nl _),F4.out,⟨xs,R4.out,OW.out,C4.out⟩,HQ3⟩,?_⟩
    ·have:=HPS.out;have:=HN.out;omega
    ·have:=HPS.out;have:=HAC.out;omega
    ·have h1:=HPS.out;have h2:=HTL.out;have h3:=HBD.out;have h4:=Zeu r;simp only[lA,lC,lN] at h3⊢;omega
    ·rw[P4.out.left,HLE.out];have:=HPS.out;omega
end Go.Proofs.YtijnjoonbjdafaaGreatDoor

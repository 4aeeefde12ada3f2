import Derived.Test.YtijnjoonbjdafaaGreatDoorBsM
namespace Go.Proofs.YtijnjoonbjdafaaGreatDoor
set_option maxHeartbeats 20000000
variable {S L : Nat}
set_option maxRecDepth 100000
open Go.RowKit
def PrtE (S f:Nat)(args:Nat→Array Value)(txt:Bs)(D:Nat→World→Prop):Prop:=∀(B b:Nat) (bs:Bs) (w:World),Pst B w b bs→D B w→bs.length+txt.length+S≤100000000000000→Calls Tryz.prog f (args b) w (fun e w'=>e=.returned (.tuple #[])∧Fb B b w w'∧Pst B w' b (bs++txt))
def ExOk (S:Nat)(x:PE):Prop:=∀(q:Nat),(q=0∨q=2)→∀(A:Nat→Prop) (cs:List Value),PrtE S 62 (fun b=>#[.pointer (some ⟨b,0,none⟩),.agg cs.toArray,.int .i64 q]) (prE q x) (fun B w=>IsCs A w (encE 26 36 x) cs∧Tab B w)
theorem ZbU{A:Nat→Prop}{w:World}{k a:Nat}{n:Bs}{m:Nat}{ns:List Bs}{l:List PE}{ts:List PT}{cs:List Value}(h:IsCs A w (encE 26 36 (.mk k a n m ns l ts)) cs):∃a4 c4 a5 c5 a6 c6,cs=[.int .i64 k,.int .i64 a,.string ⟨n.toArray⟩,.int .i64 m,.slice a4 ns.length c4,.slice a5 l.length c5,.slice a6 ts.length c6]∧IsC A w (.row 9 1 ns.length (ns.map .str)) (.slice a4 ns.length c4)∧IsC A w (.row 36 7 l.length (Zaw 26 36 l)) (.slice a5 l.length c5)∧IsC A w (.row 26 4 ts.length (Zau 26 ts)) (.slice a6 ts.length c6):=by
 simp only[encE] at h;obtain⟨x0,ys,rfl,k0,h⟩:=h.uncons;obtain⟨x1,ys,rfl,k1,h⟩:=h.uncons;obtain⟨x2,ys,rfl,k2,h⟩:=h.uncons;obtain⟨x3,ys,rfl,k3,h⟩:=h.uncons;obtain⟨x4,ys,rfl,k4,h⟩:=h.uncons;obtain⟨x5,ys,rfl,k5,h⟩:=h.uncons;obtain⟨x6,ys,rfl,k6,h⟩:=h.uncons;simp only[IsCs] at h;subst h;simp only[IsC] at k0 k1 k2 k3;subst k0 k1 k2 k3;obtain⟨xs4,r4,-,-⟩:=k4.unrow;obtain⟨a4,c4,rfl⟩:=Zag r4;obtain⟨xs5,r5,-,-⟩:=k5.unrow;obtain⟨a5,c5,rfl⟩:=Zag r5;obtain⟨xs6,r6,-,-⟩:=k6.unrow;obtain⟨a6,c6,rfl⟩:=Zag r6;exact⟨a4,c4,a5,c5,a6,c6,rfl,k4,k5,k6⟩
theorem Zdc (l:List PE)(i:Nat):l[i]?.getD zPE∈l∨l[i]?.getD zPE=zPE:=by
 cases hl:l[i]? with
 | none=>exact .inr rfl
 | some t=>exact .inl (List.mem_of_getElem? hl)
theorem ZiL (k a:Nat)(n:Bs)(m:Nat)(ns:List Bs)(l:List PE)(ts:List PT)(HE:∀x,(x∈l∨x=zPE)→(prE 0 x).length<L→ExOk S x)(hL:List.length ((([102,117,110,32,40]++(n++[32,58,32]))++(prT 0 (ts[0]?.getD zPT)++([41,32]++(prE 0 (l[0]?.getD zPE))))):Bs)≤L)(A:Nat→Prop)(cs:List Value) :
  PrtE S 111 (fun b=>#[.pointer (some ⟨b,0,none⟩),.agg cs.toArray]) (([102,117,110,32,40]++(n++[32,58,32]))++(prT 0 (ts[0]?.getD zPT)++([41,32]++(prE 0 (l[0]?.getD zPE))))) (fun B w=>IsCs A w (encE 26 36 (.mk k a n m ns l ts)) cs∧Tab B w):=by
 intro B b bs w hP hD hlen;obtain⟨hC,hT⟩:=hD;obtain⟨t0,ht0⟩:=eX (ts[0]?.getD zPT);rw[←ht0] at hlen hL⊢;have HR0:=Hd ht0;clear ht0;obtain⟨e0,he0⟩:=eX (l[0]?.getD zPE);rw[←he0] at hlen hL⊢;have HE0:=Hd (HE e0 (by rw[he0];exact Zdc l 0) (by simp only[lA,lC,lN] at hL;omega));have HQ0:=Hd he0;clear he0;obtain⟨a4,c4,a5,c5,a6,c6,rfl,k4,k5,k6⟩:=ZbU hC;have K5:=Hd k5;have K6:=Hd k6;have HP:=Hd hP;have HTB:=Hd hT;have HLEN:=Hd hlen;obtain⟨W1,hW1⟩:=eY (w.alloc (.cells #[.int .i64 k,.int .i64 a,.string ⟨n.toArray⟩,.int .i64 m,.slice a4 ns.length c4,.slice a5 l.length c5,.slice a6 ts.length c6] 36));have hA1:W1.heap[w.heap.size]?=some (.cells #[.int .i64 k,.int .i64 a,.string ⟨n.toArray⟩,.int .i64 m,.slice a4 ns.length c4,.slice a5 l.length c5,.slice a6 ts.length c6] 36 (0,0)):=by rw[←hW1];exact hN w _
 have P1:Hid (Pst B W1 b bs):=by rw[←hW1];exact hP.alloc _
 have F1:Hid (Fb B b w W1):=by rw[←hW1];exact (Fb.refl B b w).alloc hP.hi _
 have G1:=Hd (Fb.refl B b W1);have HNB:Hid (∀e:some w.heap.size=some b,False):=by
  intro e;have:=HP.out.lt;have:=Option.some.inj e;omega
 obtain⟨⟨q0,q1,q2,q3,q4,q5,q6⟩,-⟩:=Zai (t:=36) hA1;have HA1:=Hd hA1;clear hC hT k4 k5 k6 hA1 hP hlen HE hL;go_enter Tryz.func111,Tryz.ntmps111
 go_upto_region 1 with fail
 clear hW1;have HS:=Hd (say3 P1.out [102,117,110,32,40] n [32,58,32] (by have:=HLEN.out;simp only[lA,lC,lN] at this⊢;omega));go_wp2_with fail
 refine HS.out.mono ?_;rintro e W2 ⟨rfl,fx,px⟩;have P2:=Hd px;have G2:=Hd (G1.out.trans fx);clear fx px HS;clear q0 q1 q2 q3 q4 q5 q6;obtain⟨⟨q0,q1,q2,q3,q4,q5,q6⟩,-⟩:=Zai (t:=36) (G2.out.2 _ _ HA1.out (fun e=>HNB.out e) (fun c fz e=>by cases e));have HQ:=Hd (Zch ts 0 A W2 _ (IsC.fb HP.out (F1.out.trans G2.out) _ _ (by simp[nb,Zdu]) K6.out) (by decide));rw[←HR0.out] at HQ;go_wp2_with fail
 refine HQ.out.mono ?_;rintro e W3 ⟨csx,rfl,bx,ix⟩;have P3:=Hd (P2.out.below bx);have G3:=Hd (G2.out.then_below bx P2.out);have HS:Hid (Calls Tryz.prog 61 #[.pointer (some ⟨b,0,none⟩),.agg csx.toArray,.int .i64 0] W3 fun e w'=>e=.returned (.tuple #[])∧Fb B b W3 w'∧Pst B w' b ((bs++([102,117,110,32,40]++(n++[32,58,32])))++prT 0 t0)):=
  Zft t0 0 (by decide) A csx B b _ W3 P3.out ix (by have:=HLEN.out;simp only[lA,lC,lN] at this⊢;omega)
 clear bx ix HQ;go_wp2_with fail
 refine HS.out.mono ?_;rintro e W4 ⟨rfl,fx,px⟩;have P4:=Hd px;have G4:=Hd (G3.out.trans fx);clear fx px HS;clear q0 q1 q2 q3 q4 q5 q6;obtain⟨⟨q0,q1,q2,q3,q4,q5,q6⟩,-⟩:=Zai (t:=36) (G4.out.2 _ _ HA1.out (fun e=>HNB.out e) (fun c fz e=>by cases e));have HS:=Hd (say1 P4.out [41,32] (by have:=HLEN.out;simp only[lA,lC,lN] at this⊢;omega));go_wp2_with fail
 refine HS.out.mono ?_;rintro e W5 ⟨rfl,fx,px⟩;have P5:=Hd px;have G5:=Hd (G4.out.trans fx);clear fx px HS;clear q0 q1 q2 q3 q4 q5 q6;obtain⟨⟨q0,q1,q2,q3,q4,q5,q6⟩,-⟩:=Zai (t:=36) (G5.out.2 _ _ HA1.out (fun e=>HNB.out e) (fun c fz e=>by cases e));have HQ:=Hd (Zby l 0 A W5 _ (IsC.fb HP.out (F1.out.trans G5.out) _ _ (by simp[nb,Zdv]) K5.out) (by decide));rw[←HQ0.out] at HQ;go_wp2_with fail
 refine HQ.out.mono ?_;rintro e W6 ⟨csx,rfl,bx,ix⟩;have P6:=Hd (P5.out.below bx);have G6:=Hd (G5.out.then_below bx P5.out);have HS:Hid (Calls Tryz.prog 62 #[.pointer (some ⟨b,0,none⟩),.agg csx.toArray,.int .i64 0] W6 fun e w'=>e=.returned (.tuple #[])∧Fb B b W6 w'∧Pst B w' b ((((bs++([102,117,110,32,40]++(n++[32,58,32])))++prT 0 t0)++[41,32])++prE 0 e0)):=
  HE0.out 0 (.inl rfl) A csx B b _ W6 P6.out ⟨ix,HTB.out.fb (F1.out.trans G6.out)⟩ (by have:=HLEN.out;simp only[lA,lC,lN] at this⊢;omega)
 clear bx ix HQ;go_wp2_with fail
 refine HS.out.mono ?_;rintro e W7 ⟨rfl,fx,px⟩;have P7:=Hd px;have G7:=Hd (G6.out.trans fx);clear fx px HS;clear q0 q1 q2 q3 q4 q5 q6;obtain⟨⟨q0,q1,q2,q3,q4,q5,q6⟩,-⟩:=Zai (t:=36) (G7.out.2 _ _ HA1.out (fun e=>HNB.out e) (fun c fz e=>by cases e));go_wp2_with fail
 go_end0
 exact⟨rfl,F1.out.trans G7.out,by simpa only[aA,cA,List.nil_append] using P7.out⟩
theorem ZiI (k a:Nat)(n:Bs)(m:Nat)(ns:List Bs)(l:List PE)(ts:List PT)(HE:∀x,(x∈l∨x=zPE)→(prE 0 x).length<L→ExOk S x)(hL:List.length ((([108,101,116,32]++(n++[32,61,32]))++(prE 0 (l[0]?.getD zPE)++([32,105,110,32]++(prE 0 (l[1]?.getD zPE))))):Bs)≤L)(A:Nat→Prop)(cs:List Value) :
  PrtE S 112 (fun b=>#[.pointer (some ⟨b,0,none⟩),.agg cs.toArray]) (([108,101,116,32]++(n++[32,61,32]))++(prE 0 (l[0]?.getD zPE)++([32,105,110,32]++(prE 0 (l[1]?.getD zPE))))) (fun B w=>IsCs A w (encE 26 36 (.mk k a n m ns l ts)) cs∧Tab B w):=by
 intro B b bs w hP hD hlen;obtain⟨hC,hT⟩:=hD;obtain⟨e0,he0⟩:=eX (l[0]?.getD zPE);rw[←he0] at hlen hL⊢;have HE0:=Hd (HE e0 (by rw[he0];exact Zdc l 0) (by simp only[lA,lC,lN] at hL;omega));have HQ0:=Hd he0;clear he0;obtain⟨e1,he1⟩:=eX (l[1]?.getD zPE);rw[←he1] at hlen hL⊢;have HE1:=Hd (HE e1 (by rw[he1];exact Zdc l 1) (by simp only[lA,lC,lN] at hL;omega));have HQ1:=Hd he1;clear he1;obtain⟨a4,c4,a5,c5,a6,c6,rfl,k4,k5,k6⟩:=ZbU hC;have K5:=Hd k5;have K6:=Hd k6;have HP:=Hd hP;have HTB:=Hd hT;have HLEN:=Hd hlen;obtain⟨W1,hW1⟩:=eY (w.alloc (.cells #[.int .i64 k,.int .i64 a,.string ⟨n.toArray⟩,.int .i64 m,.slice a4 ns.length c4,.slice a5 l.length c5,.slice a6 ts.length c6] 36));have hA1:W1.heap[w.heap.size]?=some (.cells #[.int .i64 k,.int .i64 a,.string ⟨n.toArray⟩,.int .i64 m,.slice a4 ns.length c4,.slice a5 l.length c5,.slice a6 ts.length c6] 36 (0,0)):=by rw[←hW1];exact hN w _
 have P1:Hid (Pst B W1 b bs):=by rw[←hW1];exact hP.alloc _
 have F1:Hid (Fb B b w W1):=by rw[←hW1];exact (Fb.refl B b w).alloc hP.hi _
 have G1:=Hd (Fb.refl B b W1);have HNB:Hid (∀e:some w.heap.size=some b,False):=by
  intro e;have:=HP.out.lt;have:=Option.some.inj e;omega
 obtain⟨⟨q0,q1,q2,q3,q4,q5,q6⟩,-⟩:=Zai (t:=36) hA1;have HA1:=Hd hA1;clear hC hT k4 k5 k6 hA1 hP hlen HE hL;go_enter Tryz.func112,Tryz.ntmps112
 go_upto_region 1 with fail
 clear hW1;have HS:=Hd (say3 P1.out [108,101,116,32] n [32,61,32] (by have:=HLEN.out;simp only[lA,lC,lN] at this⊢;omega));go_wp2_with fail
 refine HS.out.mono ?_;rintro e W2 ⟨rfl,fx,px⟩;have P2:=Hd px;have G2:=Hd (G1.out.trans fx);clear fx px HS;clear q0 q1 q2 q3 q4 q5 q6;obtain⟨⟨q0,q1,q2,q3,q4,q5,q6⟩,-⟩:=Zai (t:=36) (G2.out.2 _ _ HA1.out (fun e=>HNB.out e) (fun c fz e=>by cases e));have HQ:=Hd (Zby l 0 A W2 _ (IsC.fb HP.out (F1.out.trans G2.out) _ _ (by simp[nb,Zdv]) K5.out) (by decide));rw[←HQ0.out] at HQ;go_wp2_with fail
 refine HQ.out.mono ?_;rintro e W3 ⟨csx,rfl,bx,ix⟩;have P3:=Hd (P2.out.below bx);have G3:=Hd (G2.out.then_below bx P2.out);have HS:Hid (Calls Tryz.prog 62 #[.pointer (some ⟨b,0,none⟩),.agg csx.toArray,.int .i64 0] W3 fun e w'=>e=.returned (.tuple #[])∧Fb B b W3 w'∧Pst B w' b ((bs++([108,101,116,32]++(n++[32,61,32])))++prE 0 e0)):=
  HE0.out 0 (.inl rfl) A csx B b _ W3 P3.out ⟨ix,HTB.out.fb (F1.out.trans G3.out)⟩ (by have:=HLEN.out;simp only[lA,lC,lN] at this⊢;omega)
 clear bx ix HQ;go_wp2_with fail
 refine HS.out.mono ?_;rintro e W4 ⟨rfl,fx,px⟩;have P4:=Hd px;have G4:=Hd (G3.out.trans fx);clear fx px HS;clear q0 q1 q2 q3 q4 q5 q6;obtain⟨⟨q0,q1,q2,q3,q4,q5,q6⟩,-⟩:=Zai (t:=36) (G4.out.2 _ _ HA1.out (fun e=>HNB.out e) (fun c fz e=>by cases e));have HS:=Hd (say1 P4.out [32,105,110,32] (by have:=HLEN.out;simp only[lA,lC,lN] at this⊢;omega));go_wp2_with fail
 refine HS.out.mono ?_;rintro e W5 ⟨rfl,fx,px⟩;have P5:=Hd px;have G5:=Hd (G4.out.trans fx);clear fx px HS;clear q0 q1 q2 q3 q4 q5 q6;obtain⟨⟨q0,q1,q2,q3,q4,q5,q6⟩,-⟩:=Zai (t:=36) (G5.out.2 _ _ HA1.out (fun e=>HNB.out e) (fun c fz e=>by cases e));have HQ:=Hd (Zby l 1 A W5 _ (IsC.fb HP.out (F1.out.trans G5.out) _ _ (by simp[nb,Zdv]) K5.out) (by decide));rw[←HQ1.out] at HQ;go_wp2_with fail
 refine HQ.out.mono ?_;rintro e W6 ⟨csx,rfl,bx,ix⟩;have P6:=Hd (P5.out.below bx);have G6:=Hd (G5.out.then_below bx P5.out);have HS:Hid (Calls Tryz.prog 62 #[.pointer (some ⟨b,0,none⟩),.agg csx.toArray,.int .i64 0] W6 fun e w'=>e=.returned (.tuple #[])∧Fb B b W6 w'∧Pst B w' b ((((bs++([108,101,116,32]++(n++[32,61,32])))++prE 0 e0)++[32,105,110,32])++prE 0 e1)):=
  HE1.out 0 (.inl rfl) A csx B b _ W6 P6.out ⟨ix,HTB.out.fb (F1.out.trans G6.out)⟩ (by have:=HLEN.out;simp only[lA,lC,lN] at this⊢;omega)
 clear bx ix HQ;go_wp2_with fail
 refine HS.out.mono ?_;rintro e W7 ⟨rfl,fx,px⟩;have P7:=Hd px;have G7:=Hd (G6.out.trans fx);clear fx px HS;clear q0 q1 q2 q3 q4 q5 q6;obtain⟨⟨q0,q1,q2,q3,q4,q5,q6⟩,-⟩:=Zai (t:=36) (G7.out.2 _ _ HA1.out (fun e=>HNB.out e) (fun c fz e=>by cases e));go_wp2_with fail
 go_end0
 exact⟨rfl,F1.out.trans G7.out,by simpa only[aA,cA,List.nil_append] using P7.out⟩
theorem Zk7 (k a:Nat)(n:Bs)(m:Nat)(ns:List Bs)(l:List PE)(ts:List PT)(HE:∀x,(x∈l∨x=zPE)→(prE 0 x).length<L→ExOk S x)(hL:List.length (([105,102,32]++(prE 0 (l[0]?.getD zPE)++([32,116,104,101,110,32]++(prE 0 (l[1]?.getD zPE)++([32,101,108,115,101,32]++(prE 0 (l[2]?.getD zPE))))))):Bs)≤L)(A:Nat→Prop)(cs:List Value) :
  PrtE S 113 (fun b=>#[.pointer (some ⟨b,0,none⟩),.agg cs.toArray]) ([105,102,32]++(prE 0 (l[0]?.getD zPE)++([32,116,104,101,110,32]++(prE 0 (l[1]?.getD zPE)++([32,101,108,115,101,32]++(prE 0 (l[2]?.getD zPE))))))) (fun B w=>IsCs A w (encE 26 36 (.mk k a n m ns l ts)) cs∧Tab B w):=by
 intro B b bs w hP hD hlen;obtain⟨hC,hT⟩:=hD;obtain⟨e0,he0⟩:=eX (l[0]?.getD zPE);rw[←he0] at hlen hL⊢;have HE0:=Hd (HE e0 (by rw[he0];exact Zdc l 0) (by simp only[lA,lC,lN] at hL;omega));have HQ0:=Hd he0;clear he0;obtain⟨e1,he1⟩:=eX (l[1]?.getD zPE);rw[←he1] at hlen hL⊢;have HE1:=Hd (HE e1 (by rw[he1];exact Zdc l 1) (by simp only[lA,lC,lN] at hL;omega));have HQ1:=Hd he1;clear he1;obtain⟨e2,he2⟩:=eX (l[2]?.getD zPE);rw[←he2] at hlen hL⊢;have HE2:=Hd (HE e2 (by rw[he2];exact Zdc l 2) (by simp only[lA,lC,lN] at hL;omega));have HQ2:=Hd he2;clear he2;obtain⟨a4,c4,a5,c5,a6,c6,rfl,k4,k5,k6⟩:=ZbU hC;have K5:=Hd k5;have K6:=Hd k6;have HP:=Hd hP;have HTB:=Hd hT;have HLEN:=Hd hlen;obtain⟨W1,hW1⟩:=eY (w.alloc (.cells #[.int .i64 k,.int .i64 a,.string ⟨n.toArray⟩,.int .i64 m,.slice a4 ns.length c4,.slice a5 l.length c5,.slice a6 ts.length c6] 36));have hA1:W1.heap[w.heap.size]?=some (.cells #[.int .i64 k,.int .i64 a,.string ⟨n.toArray⟩,.int .i64 m,.slice a4 ns.length c4,.slice a5 l.length c5,.slice a6 ts.length c6] 36 (0,0)):=by rw[←hW1];exact hN w _
 have P1:Hid (Pst B W1 b bs):=by rw[←hW1];exact hP.alloc _
 have F1:Hid (Fb B b w W1):=by rw[←hW1];exact (Fb.refl B b w).alloc hP.hi _
 have G1:=Hd (Fb.refl B b W1);have HNB:Hid (∀e:some w.heap.size=some b,False):=by
  intro e;have:=HP.out.lt;have:=Option.some.inj e;omega
 obtain⟨⟨q0,q1,q2,q3,q4,q5,q6⟩,-⟩:=Zai (t:=36) hA1;have HA1:=Hd hA1;clear hC hT k4 k5 k6 hA1 hP hlen HE hL;go_enter Tryz.func113,Tryz.ntmps113
 go_upto_region 1 with fail
 clear hW1;have HS:=Hd (say1 P1.out [105,102,32] (by have:=HLEN.out;simp only[lA,lC,lN] at this⊢;omega));go_wp2_with fail
 refine HS.out.mono ?_;rintro e W2 ⟨rfl,fx,px⟩;have P2:=Hd px;have G2:=Hd (G1.out.trans fx);clear fx px HS;clear q0 q1 q2 q3 q4 q5 q6;obtain⟨⟨q0,q1,q2,q3,q4,q5,q6⟩,-⟩:=Zai (t:=36) (G2.out.2 _ _ HA1.out (fun e=>HNB.out e) (fun c fz e=>by cases e));have HQ:=Hd (Zby l 0 A W2 _ (IsC.fb HP.out (F1.out.trans G2.out) _ _ (by simp[nb,Zdv]) K5.out) (by decide));rw[←HQ0.out] at HQ;go_wp2_with fail
 refine HQ.out.mono ?_;rintro e W3 ⟨csx,rfl,bx,ix⟩;have P3:=Hd (P2.out.below bx);have G3:=Hd (G2.out.then_below bx P2.out);have HS:Hid (Calls Tryz.prog 62 #[.pointer (some ⟨b,0,none⟩),.agg csx.toArray,.int .i64 0] W3 fun e w'=>e=.returned (.tuple #[])∧Fb B b W3 w'∧Pst B w' b ((bs++[105,102,32])++prE 0 e0)):=
  HE0.out 0 (.inl rfl) A csx B b _ W3 P3.out ⟨ix,HTB.out.fb (F1.out.trans G3.out)⟩ (by have:=HLEN.out;simp only[lA,lC,lN] at this⊢;omega)
 clear bx ix HQ;go_wp2_with fail
 refine HS.out.mono ?_;rintro e W4 ⟨rfl,fx,px⟩;have P4:=Hd px;have G4:=Hd (G3.out.trans fx);clear fx px HS;clear q0 q1 q2 q3 q4 q5 q6;obtain⟨⟨q0,q1,q2,q3,q4,q5,q6⟩,-⟩:=Zai (t:=36) (G4.out.2 _ _ HA1.out (fun e=>HNB.out e) (fun c fz e=>by cases e));have HS:=Hd (say1 P4.out [32,116,104,101,110,32] (by have:=HLEN.out;simp only[lA,lC,lN] at this⊢;omega));go_wp2_with fail
 refine HS.out.mono ?_;rintro e W5 ⟨rfl,fx,px⟩;have P5:=Hd px;have G5:=Hd (G4.out.trans fx);clear fx px HS;clear q0 q1 q2 q3 q4 q5 q6;obtain⟨⟨q0,q1,q2,q3,q4,q5,q6⟩,-⟩:=Zai (t:=36) (G5.out.2 _ _ HA1.out (fun e=>HNB.out e) (fun c fz e=>by cases e));have HQ:=Hd (Zby l 1 A W5 _ (IsC.fb HP.out (F1.out.trans G5.out) _ _ (by simp[nb,Zdv]) K5.out) (by decide));rw[←HQ1.out] at HQ;go_wp2_with fail
 refine HQ.out.mono ?_;rintro e W6 ⟨csx,rfl,bx,ix⟩;have P6:=Hd (P5.out.below bx);have G6:=Hd (G5.out.then_below bx P5.out);have HS:Hid (Calls Tryz.prog 62 #[.pointer (some ⟨b,0,none⟩),.agg csx.toArray,.int .i64 0] W6 fun e w'=>e=.returned (.tuple #[])∧Fb B b W6 w'∧Pst B w' b ((((bs++[105,102,32])++prE 0 e0)++[32,116,104,101,110,32])++prE 0 e1)):=
  HE1.out 0 (.inl rfl) A csx B b _ W6 P6.out ⟨ix,HTB.out.fb (F1.out.trans G6.out)⟩ (by have:=HLEN.out;simp only[lA,lC,lN] at this⊢;omega)
 clear bx ix HQ;go_wp2_with fail
 refine HS.out.mono ?_;rintro e W7 ⟨rfl,fx,px⟩;have P7:=Hd px;have G7:=Hd (G6.out.trans fx);clear fx px HS;clear q0 q1 q2 q3 q4 q5 q6;obtain⟨⟨q0,q1,q2,q3,q4,q5,q6⟩,-⟩:=Zai (t:=36) (G7.out.2 _ _ HA1.out (fun e=>HNB.out e) (fun c fz e=>by cases e));have HS:=Hd (say1 P7.out [32,101,108,115,101,32] (by have:=HLEN.out;simp only[lA,lC,lN] at this⊢;omega));go_wp2_with fail
 refine HS.out.mono ?_;rintro e W8 ⟨rfl,fx,px⟩;have P8:=Hd px;have G8:=Hd (G7.out.trans fx);clear fx px HS;clear q0 q1 q2 q3 q4 q5 q6;obtain⟨⟨q0,q1,q2,q3,q4,q5,q6⟩,-⟩:=Zai (t:=36) (G8.out.2 _ _ HA1.out (fun e=>HNB.out e) (fun c fz e=>by cases e));have HQ:=Hd (Zby l 2 A W8 _ (IsC.fb HP.out (F1.out.trans G8.out) _ _ (by simp[nb,Zdv]) K5.out) (by decide));rw[←HQ2.out] at HQ;go_wp2_with fail
 refine HQ.out.mono ?_;rintro e W9 ⟨csx,rfl,bx,ix⟩;have P9:=Hd (P8.out.below bx);have G9:=Hd (G8.out.then_below bx P8.out);have HS:Hid (Calls Tryz.prog 62 #[.pointer (some ⟨b,0,none⟩),.agg csx.toArray,.int .i64 0] W9 fun e w'=>e=.returned (.tuple #[])∧Fb B b W9 w'∧Pst B w' b ((((((bs++[105,102,32])++prE 0 e0)++[32,116,104,101,110,32])++prE 0 e1)++[32,101,108,115,101,32])++prE 0 e2)):=
  HE2.out 0 (.inl rfl) A csx B b _ W9 P9.out ⟨ix,HTB.out.fb (F1.out.trans G9.out)⟩ (by have:=HLEN.out;simp only[lA,lC,lN] at this⊢;omega)
 clear bx ix HQ;go_wp2_with fail
 refine HS.out.mono ?_;rintro e W10 ⟨rfl,fx,px⟩;have P10:=Hd px;have G10:=Hd (G9.out.trans fx);clear fx px HS;clear q0 q1 q2 q3 q4 q5 q6;obtain⟨⟨q0,q1,q2,q3,q4,q5,q6⟩,-⟩:=Zai (t:=36) (G10.out.2 _ _ HA1.out (fun e=>HNB.out e) (fun c fz e=>by cases e));go_wp2_with fail
 go_end0
 exact⟨rfl,F1.out.trans G10.out,by simpa only[aA,cA,List.nil_append] using P10.out⟩
theorem Zny (k a:Nat)(n:Bs)(m:Nat)(ns:List Bs)(l:List PE)(ts:List PT)(HE:∀x,(x∈l∨x=zPE)→(prE 0 x).length<L→ExOk S x)(hL:List.length (([40]++(prE 0 (l[0]?.getD zPE)++([32,58,32]++(prT 0 (ts[0]?.getD zPT)++([41]))))):Bs)≤L)(A:Nat→Prop)(cs:List Value) :
  PrtE S 114 (fun b=>#[.pointer (some ⟨b,0,none⟩),.agg cs.toArray]) ([40]++(prE 0 (l[0]?.getD zPE)++([32,58,32]++(prT 0 (ts[0]?.getD zPT)++([41]))))) (fun B w=>IsCs A w (encE 26 36 (.mk k a n m ns l ts)) cs∧Tab B w):=by
 intro B b bs w hP hD hlen;obtain⟨hC,hT⟩:=hD;obtain⟨e0,he0⟩:=eX (l[0]?.getD zPE);rw[←he0] at hlen hL⊢;have HE0:=Hd (HE e0 (by rw[he0];exact Zdc l 0) (by simp only[lA,lC,lN] at hL;omega));have HQ0:=Hd he0;clear he0;obtain⟨t0,ht0⟩:=eX (ts[0]?.getD zPT);rw[←ht0] at hlen hL⊢;have HR0:=Hd ht0;clear ht0;obtain⟨a4,c4,a5,c5,a6,c6,rfl,k4,k5,k6⟩:=ZbU hC;have K5:=Hd k5;have K6:=Hd k6;have HP:=Hd hP;have HTB:=Hd hT;have HLEN:=Hd hlen;obtain⟨W1,hW1⟩:=eY (w.alloc (.cells #[.int .i64 k,.int .i64 a,.string ⟨n.toArray⟩,.int .i64 m,.slice a4 ns.length c4,.slice a5 l.length c5,.slice a6 ts.length c6] 36));have hA1:W1.heap[w.heap.size]?=some (.cells #[.int .i64 k,.int .i64 a,.string ⟨n.toArray⟩,.int .i64 m,.slice a4 ns.length c4,.slice a5 l.length c5,.slice a6 ts.length c6] 36 (0,0)):=by rw[←hW1];exact hN w _
 have P1:Hid (Pst B W1 b bs):=by rw[←hW1];exact hP.alloc _
 have F1:Hid (Fb B b w W1):=by rw[←hW1];exact (Fb.refl B b w).alloc hP.hi _
 have G1:=Hd (Fb.refl B b W1);have HNB:Hid (∀e:some w.heap.size=some b,False):=by
  intro e;have:=HP.out.lt;have:=Option.some.inj e;omega
 obtain⟨⟨q0,q1,q2,q3,q4,q5,q6⟩,-⟩:=Zai (t:=36) hA1;have HA1:=Hd hA1;clear hC hT k4 k5 k6 hA1 hP hlen HE hL;go_enter Tryz.func114,Tryz.ntmps114
 go_upto_region 1 with fail
 clear hW1;have HS:=Hd (say1 P1.out [40] (by have:=HLEN.out;simp only[lA,lC,lN] at this⊢;omega));go_wp2_with fail
 refine HS.out.mono ?_;rintro e W2 ⟨rfl,fx,px⟩;have P2:=Hd px;have G2:=Hd (G1.out.trans fx);clear fx px HS;clear q0 q1 q2 q3 q4 q5 q6;obtain⟨⟨q0,q1,q2,q3,q4,q5,q6⟩,-⟩:=Zai (t:=36) (G2.out.2 _ _ HA1.out (fun e=>HNB.out e) (fun c fz e=>by cases e));have HQ:=Hd (Zby l 0 A W2 _ (IsC.fb HP.out (F1.out.trans G2.out) _ _ (by simp[nb,Zdv]) K5.out) (by decide));rw[←HQ0.out] at HQ;go_wp2_with fail
 refine HQ.out.mono ?_;rintro e W3 ⟨csx,rfl,bx,ix⟩;have P3:=Hd (P2.out.below bx);have G3:=Hd (G2.out.then_below bx P2.out);have HS:Hid (Calls Tryz.prog 62 #[.pointer (some ⟨b,0,none⟩),.agg csx.toArray,.int .i64 0] W3 fun e w'=>e=.returned (.tuple #[])∧Fb B b W3 w'∧Pst B w' b ((bs++[40])++prE 0 e0)):=
  HE0.out 0 (.inl rfl) A csx B b _ W3 P3.out ⟨ix,HTB.out.fb (F1.out.trans G3.out)⟩ (by have:=HLEN.out;simp only[lA,lC,lN] at this⊢;omega)
 clear bx ix HQ;go_wp2_with fail
 refine HS.out.mono ?_;rintro e W4 ⟨rfl,fx,px⟩;have P4:=Hd px;have G4:=Hd (G3.out.trans fx);clear fx px HS;clear q0 q1 q2 q3 q4 q5 q6;obtain⟨⟨q0,q1,q2,q3,q4,q5,q6⟩,-⟩:=Zai (t:=36) (G4.out.2 _ _ HA1.out (fun e=>HNB.out e) (fun c fz e=>by cases e));have HS:=Hd (say1 P4.out [32,58,32] (by have:=HLEN.out;simp only[lA,lC,lN] at this⊢;omega));go_wp2_with fail
 refine HS.out.mono ?_;rintro e W5 ⟨rfl,fx,px⟩;have P5:=Hd px;have G5:=Hd (G4.out.trans fx);clear fx px HS;clear q0 q1 q2 q3 q4 q5 q6;obtain⟨⟨q0,q1,q2,q3,q4,q5,q6⟩,-⟩:=Zai (t:=36) (G5.out.2 _ _ HA1.out (fun e=>HNB.out e) (fun c fz e=>by cases e));have HQ:=Hd (Zch ts 0 A W5 _ (IsC.fb HP.out (F1.out.trans G5.out) _ _ (by simp[nb,Zdu]) K6.out) (by decide));rw[←HR0.out] at HQ;go_wp2_with fail
 refine HQ.out.mono ?_;rintro e W6 ⟨csx,rfl,bx,ix⟩;have P6:=Hd (P5.out.below bx);have G6:=Hd (G5.out.then_below bx P5.out);have HS:Hid (Calls Tryz.prog 61 #[.pointer (some ⟨b,0,none⟩),.agg csx.toArray,.int .i64 0] W6 fun e w'=>e=.returned (.tuple #[])∧Fb B b W6 w'∧Pst B w' b ((((bs++[40])++prE 0 e0)++[32,58,32])++prT 0 t0)):=
  Zft t0 0 (by decide) A csx B b _ W6 P6.out ix (by have:=HLEN.out;simp only[lA,lC,lN] at this⊢;omega)
 clear bx ix HQ;go_wp2_with fail
 refine HS.out.mono ?_;rintro e W7 ⟨rfl,fx,px⟩;have P7:=Hd px;have G7:=Hd (G6.out.trans fx);clear fx px HS;clear q0 q1 q2 q3 q4 q5 q6;obtain⟨⟨q0,q1,q2,q3,q4,q5,q6⟩,-⟩:=Zai (t:=36) (G7.out.2 _ _ HA1.out (fun e=>HNB.out e) (fun c fz e=>by cases e));have HS:=Hd (say1 P7.out [41] (by have:=HLEN.out;simp only[lA,lC,lN] at this⊢;omega));go_wp2_with fail
 refine HS.out.mono ?_;rintro e W8 ⟨rfl,fx,px⟩;have P8:=Hd px;have G8:=Hd (G7.out.trans fx);clear fx px HS;clear q0 q1 q2 q3 q4 q5 q6;obtain⟨⟨q0,q1,q2,q3,q4,q5,q6⟩,-⟩:=Zai (t:=36) (G8.out.2 _ _ HA1.out (fun e=>HNB.out e) (fun c fz e=>by cases e));go_wp2_with fail
 go_end0
 exact⟨rfl,F1.out.trans G8.out,by simpa only[aA,cA,List.nil_append] using P8.out⟩
theorem ZkZ (k a:Nat)(n:Bs)(m:Nat)(ns:List Bs)(l:List PE)(ts:List PT)(HE:∀x,(x∈l∨x=zPE)→(prE 0 x).length<L→ExOk S x)(hL:(prE 0 (l[1]?.getD zPE)).length<L)(hk:k≠6)(A:Nat→Prop)(cs:List Value) :
  PrtE S 148 (fun b=>#[.pointer (some ⟨b,0,none⟩),.agg cs.toArray]) ([40]++(prE 0 (l[1]?.getD zPE)++([41]))) (fun B w=>IsCs A w (encE 26 36 (.mk k a n m ns l ts)) cs∧Tab B w):=by
 intro B b bs w hP hD hlen;obtain⟨hC,hT⟩:=hD;obtain⟨e1,he1⟩:=eX (l[1]?.getD zPE);rw[←he1] at hlen hL⊢;have HE1:=Hd (HE e1 (by rw[he1];exact Zdc l 1) hL);have HQ1:=Hd he1;clear he1;obtain⟨a4,c4,a5,c5,a6,c6,rfl,k4,k5,k6⟩:=ZbU hC;have K5:=Hd k5;have K6:=Hd k6;have HP:=Hd hP;have HTB:=Hd hT;have HLEN:=Hd hlen;obtain⟨W1,hW1⟩:=eY (w.alloc (.cells #[.int .i64 k,.int .i64 a,.string ⟨n.toArray⟩,.int .i64 m,.slice a4 ns.length c4,.slice a5 l.length c5,.slice a6 ts.length c6] 36));have hA1:W1.heap[w.heap.size]?=some (.cells #[.int .i64 k,.int .i64 a,.string ⟨n.toArray⟩,.int .i64 m,.slice a4 ns.length c4,.slice a5 l.length c5,.slice a6 ts.length c6] 36 (0,0)):=by rw[←hW1];exact hN w _
 have P1:Hid (Pst B W1 b bs):=by rw[←hW1];exact hP.alloc _
 have F1:Hid (Fb B b w W1):=by rw[←hW1];exact (Fb.refl B b w).alloc hP.hi _
 have G1:=Hd (Fb.refl B b W1);have HNB:Hid (∀e:some w.heap.size=some b,False):=by
  intro e;have:=HP.out.lt;have:=Option.some.inj e;omega
 obtain⟨⟨q0,q1,q2,q3,q4,q5,q6⟩,-⟩:=Zai (t:=36) hA1;have HA1:=Hd hA1;have e6:((k:Int)==6)=false:=bF (by omega);clear hC hT k4 k5 k6 hA1 hP hlen HE hL;go_enter Tryz.func148,Tryz.ntmps148
 go_upto_region 1 with fail
 clear hW1;have HS:=Hd (say1 P1.out [40] (by have:=HLEN.out;simp only[lA,lC,lN] at this⊢;omega));go_wp2_with fail
 refine HS.out.mono ?_;rintro e W2 ⟨rfl,fx,px⟩;have P2:=Hd px;have G2:=Hd (G1.out.trans fx);clear fx px HS;clear q0 q1 q2 q3 q4 q5 q6;obtain⟨⟨q0,q1,q2,q3,q4,q5,q6⟩,-⟩:=Zai (t:=36) (G2.out.2 _ _ HA1.out (fun e=>HNB.out e) (fun c fz e=>by cases e));have HQ:=Hd (Zby l 1 A W2 _ (IsC.fb HP.out (F1.out.trans G2.out) _ _ (by simp[nb,Zdv]) K5.out) (by decide));rw[←HQ1.out] at HQ;go_wp2_with fail
 refine HQ.out.mono ?_;rintro e W3 ⟨csx,rfl,bx,ix⟩;have P3:=Hd (P2.out.below bx);have G3:=Hd (G2.out.then_below bx P2.out);have HS:Hid (Calls Tryz.prog 62 #[.pointer (some ⟨b,0,none⟩),.agg csx.toArray,.int .i64 0] W3 fun e w'=>e=.returned (.tuple #[])∧Fb B b W3 w'∧Pst B w' b ((bs++[40])++prE 0 e1)):=
  HE1.out 0 (.inl rfl) A csx B b _ W3 P3.out ⟨ix,HTB.out.fb (F1.out.trans G3.out)⟩ (by have:=HLEN.out;simp only[lA,lC,lN] at this⊢;omega)
 clear bx ix HQ;go_wp2_with fail
 refine HS.out.mono ?_;rintro e W4 ⟨rfl,fx,px⟩;have P4:=Hd px;have G4:=Hd (G3.out.trans fx);clear fx px HS;clear q0 q1 q2 q3 q4 q5 q6;obtain⟨⟨q0,q1,q2,q3,q4,q5,q6⟩,-⟩:=Zai (t:=36) (G4.out.2 _ _ HA1.out (fun e=>HNB.out e) (fun c fz e=>by cases e));have HS:=Hd (say1 P4.out [41] (by have:=HLEN.out;simp only[lA,lC,lN] at this⊢;omega));go_wp2_with fail
 refine HS.out.mono ?_;rintro e W5 ⟨rfl,fx,px⟩;have P5:=Hd px;have G5:=Hd (G4.out.trans fx);clear fx px HS;clear q0 q1 q2 q3 q4 q5 q6;obtain⟨⟨q0,q1,q2,q3,q4,q5,q6⟩,-⟩:=Zai (t:=36) (G5.out.2 _ _ HA1.out (fun e=>HNB.out e) (fun c fz e=>by cases e));go_wp2_with fail
 go_end0
 exact⟨rfl,F1.out.trans G5.out,by simpa only[aA,cA,List.nil_append] using P5.out⟩
theorem Zjo (k a:Nat)(n:Bs)(m:Nat)(ns:List Bs)(l:List PE)(ts:List PT)  (hk:k=6)(A:Nat→Prop)(cs:List Value) :
  PrtE S 148 (fun b=>#[.pointer (some ⟨b,0,none⟩),.agg cs.toArray]) (([46]++n)) (fun B w=>IsCs A w (encE 26 36 (.mk k a n m ns l ts)) cs∧Tab B w):=by
 intro B b bs w hP hD hlen;obtain⟨hC,hT⟩:=hD;obtain⟨a4,c4,a5,c5,a6,c6,rfl,k4,k5,k6⟩:=ZbU hC;have K5:=Hd k5;have K6:=Hd k6;have HP:=Hd hP;have HTB:=Hd hT;have HLEN:=Hd hlen;obtain⟨W1,hW1⟩:=eY (w.alloc (.cells #[.int .i64 k,.int .i64 a,.string ⟨n.toArray⟩,.int .i64 m,.slice a4 ns.length c4,.slice a5 l.length c5,.slice a6 ts.length c6] 36));have hA1:W1.heap[w.heap.size]?=some (.cells #[.int .i64 k,.int .i64 a,.string ⟨n.toArray⟩,.int .i64 m,.slice a4 ns.length c4,.slice a5 l.length c5,.slice a6 ts.length c6] 36 (0,0)):=by rw[←hW1];exact hN w _
 have P1:Hid (Pst B W1 b bs):=by rw[←hW1];exact hP.alloc _
 have F1:Hid (Fb B b w W1):=by rw[←hW1];exact (Fb.refl B b w).alloc hP.hi _
 have G1:=Hd (Fb.refl B b W1);have HNB:Hid (∀e:some w.heap.size=some b,False):=by
  intro e;have:=HP.out.lt;have:=Option.some.inj e;omega
 obtain⟨⟨q0,q1,q2,q3,q4,q5,q6⟩,-⟩:=Zai (t:=36) hA1;have HA1:=Hd hA1;have e6:((k:Int)==6)=true:=by simp only[beq_iff_eq];omega
 clear hk;clear hC hT k4 k5 k6 hA1 hP hlen;go_enter Tryz.func148,Tryz.ntmps148
 go_upto_region 1 with fail
 clear hW1;have HS:=Hd (say2 P1.out [46] n (by have:=HLEN.out;simp only[lA,lC,lN] at this⊢;omega));go_wp2_with fail
 refine HS.out.mono ?_;rintro e W2 ⟨rfl,fx,px⟩;have P2:=Hd px;have G2:=Hd (G1.out.trans fx);clear fx px HS;clear q0 q1 q2 q3 q4 q5 q6;obtain⟨⟨q0,q1,q2,q3,q4,q5,q6⟩,-⟩:=Zai (t:=36) (G2.out.2 _ _ HA1.out (fun e=>HNB.out e) (fun c fz e=>by cases e));go_wp2_with fail
 refine bodyPost_ret (results_none rfl _ _ _) rfl ?_;exact⟨rfl,F1.out.trans G2.out,by simpa only[aA,cA,List.nil_append] using P2.out⟩
variable {S Z : Nat}
theorem Ziv (q:Nat)(h:q=0∨q=2):prE q zPE=[]:=by
 rw[zPE,ZaX];rcases h with rfl | rfl<;>simp[ZbO,lvlE,Zcr]
theorem Zmt (q:Nat)(hq:q=0∨q=2)(l:List PE)(i:Nat):(l.map (prE q))[i]?.getD []=prE q (l[i]?.getD zPE):=by
 rw[List.getElem?_map];cases l[i]? with
 | none=>exact (Ziv q hq).symm
 | some t=>rfl
theorem ZgP (k a:Nat)(n:Bs)(m:Nat)(ns:List Bs)(l:List PE)(ts:List PT)(HT:∀t,(t∈l∨t=zPE)→(prE 0 t).length<Z→ExOk S t)(hZ:List.length (123::(Zaz [44,32] (Zbz [32,61,32] ns (l.map (prE 0)))++[125]):Bs)≤Z)(A:Nat→Prop)(cs:List Value) :
  PrtE S 109 (fun b=>#[.pointer (some ⟨b,0,none⟩),.agg cs.toArray]) (123::(Zaz [44,32] (Zbz [32,61,32] ns (l.map (prE 0)))++[125])) (fun B w=>IsCs A w (encE 26 36 (.mk k a n m ns l ts)) cs∧Tab B w):=by
 intro B b bs w hP hD hlen;obtain⟨hC,hTab⟩:=hD;have HTB:=Hd hTab;obtain⟨L,hL⟩:=eX (Zbz [32,61,32] ns (l.map (prE 0)));rw[←hL] at hlen hZ⊢;have HZ:=Hd hZ;have HL:=Hd hL;have HLL:=Hd (show L.length=ns.length by rw[hL,Zci]);have hgt:ns.length≤140737488355329:=by
  have h1:=Zex (s:=[44,32]) (by decide) L;rw[←HLL.out];simp only[lC,lA,lN] at hlen;omega
 have HLEN:=Hd hlen;obtain⟨a2,c2,a3,c3,a6,c6,rfl,k2,k3,-⟩:=ZbU hC;have K2:=Hd k2;have K3:=Hd k3;have HP:=Hd hP;have HT:=Hd HT;obtain⟨W1,hW1⟩:=eY (w.alloc (.cells #[.int .i64 k,.int .i64 a,.string ⟨n.toArray⟩,.int .i64 m,.slice a2 ns.length c2,.slice a3 l.length c3,.slice a6 ts.length c6] 36));have hA1:W1.heap[w.heap.size]?=some (.cells #[.int .i64 k,.int .i64 a,.string ⟨n.toArray⟩,.int .i64 m,.slice a2 ns.length c2,.slice a3 l.length c3,.slice a6 ts.length c6] 36 (0,0)):=by rw[←hW1];exact hN w _
 have hP1:Pst B W1 b bs:=by rw[←hW1];exact hP.alloc _
 have hF1:Fb B b w W1:=by rw[←hW1];exact (Fb.refl B b w).alloc hP.hi _
 have HA1:=Hd hA1;have HP1:=Hd hP1;have HF1:=Hd hF1;have HS1:=Hd (say1 hP1 [123] (by simp only[lC,lA,lN] at hlen⊢;omega));clear hC hTab k2 k3 hA1 hP1 hF1 hP hlen hL hZ;go_enter Tryz.func109,Tryz.ntmps109
 go_upto_region 1 with fail
 clear hW1;go_wp2_with fail
 refine HS1.out.mono ?_;rintro e W2 ⟨rfl,hF2,hP2⟩;have HF2:=Hd (HF1.out.trans hF2);have HP2:=Hd hP2;have hA2:=hF2.2 _ _ HA1.out (fun e=>by have:=HP.out.lt;have:=Option.some.inj e;omega) (fun c fz e=>by cases e);have HA2:=Hd hA2;obtain⟨⟨q0,q1,q2,q3,q4,q5,q6⟩,-⟩:=Zai (t:=36) hA2;clear hF2 hP2 hA2 HS1;go_wp2_with fail
 go_loopw [12] (fun s12 wr=>∃i:Nat,s12=.int .i64 i∧i≤ns.length∧Hid (Fb B b w wr)∧Hid (Fb B b W2 wr)∧Hid (Pst B wr b (bs++([123]++Zaz [44,32] (L.take i))))) (fun s12 _=>ns.length-(intOf s12).toNat)
 case atStart=>exact⟨0,rfl,Nat.zero_le _,HF2,Hd (Fb.refl B b W2),Hd (by simpa[Zaz] using HP2.out)⟩
 case round=>
  obtain⟨i,rfl,hil,hF,hG,hPr⟩:=hrel;by_cases hi2:i<ns.length
  ·have hd1:decide ((i:Int)<(ns.length:Int))=true:=dT (by omega);have hd2:decide (i<ns.length)=true:=dT hi2;have hi3:i<L.length:=by have:=HLL.out;omega
   obtain⟨s,hget⟩:∃s,ns[i]?=some s:=⟨_,List.getElem?_eq_getElem hi2⟩;obtain⟨t,ht⟩:=eX (l[i]?.getD zPE);have hx:L[i]?=some (s++([32,61,32]++prE 0 t)):=by rw[HL.out,ZdR _ _ _ _ _ hget,Zmt 0 (.inl rfl),ht]
   have htm:t∈l∨t=zPE:=by
    rw[ht];cases hl:l[i]? with
    | none=>exact .inr rfl
    | some t=>exact .inl (List.mem_of_getElem? hl)
   obtain⟨sp,hsp⟩:∃sp:Bs,sp=if i=0 then [] else [44,32]:=⟨_,rfl⟩
   have hj:=Zdq [44,32] L i _ hx;rw[←hsp] at hj;have HJ:=Hd hj;have LQ:Hid (bs.length+(([123]++Zaz [44,32] (L.take i)).length+(sp.length+(s.length+(3+(prE 0 t).length))))+S≤100000000000000):=by
    have h1:=Zb3 [44,32] L (L.length-(i+1)) (i+1) (by omega);rw[hj] at h1;have h2:=HLEN.out;show _≤_;simp only[lA,lC,lN] at h1 h2⊢;omega
   have HTT:=Hd (HT.out t htm (by
    have h1:=Zb3 [44,32] L (L.length-(i+1)) (i+1) (by omega);rw[hj] at h1;have h2:=HZ.out;simp only[lA,lC,lN] at h1 h2⊢;omega))
   have HBT:Hid (Calls Tryz.prog 144 #[.pointer (some ⟨b,0,none⟩),.int .i64 i,.string ⟨#[44,32]⟩] wr fun e w'=>e=.returned (.tuple #[])∧Fb B b wr w'∧Pst B w' b ((bs++([123]++Zaz [44,32] (L.take i)))++sp)):=by
    have:=ZdI hPr.out i [44,32] (fun h0=>by have:=LQ.out;rw[hsp,if_neg h0] at this;simp only[lA,lC,lN] at this⊢;omega);rw[←hsp] at this;exact this
   have hK2:=IsC.fb HP.out hF.out _ _ (by simp[nb,ZdS]) K2.out;have HK3:=Hd (IsC.fb HP.out hF.out _ _ (by simp[nb,Zdv]) K3.out);have hA:=hG.out.2 _ _ HA2.out (fun e=>by have:=HP.out.lt;have:=Option.some.inj e;omega) (fun c fz e=>by cases e);have HA:=Hd hA;obtain⟨⟨p0,p1,p2,p3,p4,p5,p6⟩,-⟩:=Zai (t:=36) hA;have hS2:=Sub.of_row hK2 (by simp);rw[Zd2] at hS2;obtain⟨g,o,gs,rfl,hg,hcs,hcell⟩:=Sub.at (k:=1) (fun _=>rfl) hS2 hget (by omega);obtain⟨x,ys,rfl,k0,-⟩:=hcs.uncons;simp only[IsC] at k0;subst k0;have d0:=hcell 0 _ rfl;rw[aZ,Nat.mul_one] at d0;have HT1:=Hd ht;clear hi3 hx htm hsp hj hPr hA hK2 hS2 hcs hcell hget ht hg;go_wp2_with fail
   refine HBT.out.mono ?_;rintro e W3 ⟨rfl,f3,p3⟩;have F3:=Hd (hF.out.trans f3);have G3:=Hd (hG.out.trans f3);have P3:=Hd p3;have HS2:=Hd (say2 p3 s [32,61,32] (by have:=LQ.out;simp only[lA,lC,lN] at this⊢;omega));clear f3 p3 HBT;go_wp2_with fail
   refine HS2.out.mono ?_;rintro e W4 ⟨rfl,f4,p4⟩;have F4:=Hd (F3.out.trans f4);have G4:=Hd (G3.out.trans f4);have P4:=Hd p4;have hA4:=G4.out.2 _ _ HA2.out (fun e=>by have:=HP.out.lt;have:=Option.some.inj e;omega) (fun c fz e=>by cases e);obtain⟨⟨r0,r1,r2,r3,r4,r5,r6⟩,-⟩:=Zai (t:=36) hA4;have HPT:=Hd (Zby l i A W4 _ (IsC.fb HP.out F4.out _ _ (by simp[nb,Zdv]) K3.out) (by omega));clear f4 p4 HS2 hA4;rw[←HT1.out] at HPT;go_wp2_with fail
   refine HPT.out.mono ?_;rintro e W5 ⟨cs5,rfl,b5,i5⟩;have P5:=Hd (P4.out.below b5);have F5:=Hd (F4.out.then_below b5 P4.out);have G5:=Hd (G4.out.then_below b5 P4.out);have H52:Hid (Calls Tryz.prog 62 #[.pointer (some ⟨b,0,none⟩),.agg cs5.toArray,.int .i64 0] W5 fun e w'=>e=.returned (.tuple #[])∧Fb B b W5 w'∧Pst B w' b (((((bs++([123]++Zaz [44,32] (L.take i)))++sp)++(s++[32,61,32])))++prE 0 t)):=
    HTT.out 0 (.inl rfl) A cs5 B b _ W5 P5.out ⟨i5,HTB.out.fb F5.out⟩ (by have:=LQ.out;simp only[lA,lC,lN] at this⊢;omega)
   clear b5 i5 HPT;go_wp2_with fail
   refine H52.out.mono ?_;rintro e W6 ⟨rfl,f6,p6⟩;have F6:=Hd (F5.out.trans f6);have G6:=Hd (G5.out.trans f6);have P6:=Hd p6;clear f6 p6 H52;go_wp2_with fail
   refine⟨⟨i+1,by simp,by omega,F6,G6,Hd ?_⟩,?_⟩
   ·rw[HJ.out];have:=P6.out
    simpa only[aA] using this
   ·simp[intOf];omega
  ·have hd1:decide ((i:Int)<(ns.length:Int))=false:=dF (by omega);have hd2:decide (i<ns.length)=false:=dF hi2;have HE:=Hd (show L.take i=L from List.take_of_length_le (by have:=HLL.out;omega));have HS9:=Hd (say1 hPr.out [125] (by rw[HE.out];have:=HLEN.out;simp only[lA,lC,lN] at this⊢;omega));clear hPr;go_wp2_with fail
   refine HS9.out.mono ?_;rintro e W9 ⟨rfl,f9,p9⟩;have F9:=Hd (hF.out.trans f9);have P9:=Hd p9;clear f9 p9 HS9;go_wp2_with fail
   go_end0
   refine⟨rfl,F9.out,?_⟩;have:=P9.out;rw[HE.out] at this
   simpa only[aA,cA,List.nil_append] using this
variable {S L : Nat}
theorem ZcG{a b c d m:Nat}(h:a+b+c+d≤m):a+b+d≤m:=by omega
theorem Zc1 (q:Nat)(hq:q=0∨q=2)(l:List PE):(l.map (prE q)).headD []=prE q (l[0]?.getD zPE):=by
 cases l with
 | nil=>exact (Ziv q hq).symm
 | cons t l=>rfl
theorem ZfK (q:Nat)(hq:q=0∨q=2)(l:List PE):(l.map (prE q)).tail.headD []=prE q (l[1]?.getD zPE):=by
 cases l with
 | nil=>exact (Ziv q hq).symm
 | cons t l=>exact Zc1 q hq l
theorem Znu (q:Nat)(hq:q=0∨q=2)(l:List PE):(l.map (prE q)).tail.tail.headD []=prE q (l[2]?.getD zPE):=by
 cases l with
 | nil=>exact (Ziv q hq).symm
 | cons t l=>exact ZfK q hq l
theorem ZoZ (k a:Nat)(n:Bs)(m:Nat)(ns:List Bs)(l:List PE)(ts:List PT)(h1:k=1→m≤9223372036854775807)(HE:∀x,(x∈l∨x=zPE)→(prE 0 x).length<L→ExOk S x)(hL:(Zcr k n m ns (l.map (prE 0)) (l.map (prE 2)) (ts.map (prT 0))).length≤L)(HCH:k=6∨k=7→∀(A:Nat→Prop) (cs:List Value),PrtE S 110 (fun b=>#[.pointer (some ⟨b,0,none⟩),.agg cs.toArray]) (prE 2 (.mk k a n m ns l ts)) (fun B w=>IsCs A w (encE 26 36 (.mk k a n m ns l ts)) cs∧Tab B w))(q:Nat)(hm:lvlE k<q)(A:Nat→Prop)(cs:List Value) :
  PrtE S 62 (fun b=>#[.pointer (some ⟨b,0,none⟩),.agg cs.toArray,.int .i64 q]) (40::(Zcr k n m ns (l.map (prE 0)) (l.map (prE 2)) (ts.map (prT 0))++[41])) (fun B w=>IsCs A w (encE 26 36 (.mk k a n m ns l ts)) cs∧Tab B w):=by
 intro B b bs w hP hD hlen;obtain⟨hC,hTab⟩:=hD;have HTB:=Hd hTab;obtain⟨body,hbody⟩:=eX (Zcr k n m ns (l.map (prE 0)) (l.map (prE 2)) (ts.map (prT 0)));rw[←hbody] at hlen hL⊢;have HBL:=Hd hL;obtain⟨a4,c4,a5,c5,a6,c6,rfl,-,-,-⟩:=ZbU hC;have HBODY:=Hd hbody;have HC:=Hd hC;have HP:=Hd hP;have HTT:=Hd HE;have H1:=Hd h1;have HC7:=Hd HCH;have HLEN:=Hd hlen;obtain⟨W1,hW1⟩:=eY (w.alloc (.cells #[.int .i64 k,.int .i64 a,.string ⟨n.toArray⟩,.int .i64 m,.slice a4 ns.length c4,.slice a5 l.length c5,.slice a6 ts.length c6] 36));have hA1:W1.heap[w.heap.size]?=some (.cells #[.int .i64 k,.int .i64 a,.string ⟨n.toArray⟩,.int .i64 m,.slice a4 ns.length c4,.slice a5 l.length c5,.slice a6 ts.length c6] 36 (0,0)):=by rw[←hW1];exact hN w _
 have hP1:Pst B W1 b bs:=by rw[←hW1];exact hP.alloc _
 have hF1:Fb B b w W1:=by rw[←hW1];exact (Fb.refl B b w).alloc hP.hi _
 obtain⟨⟨q0,q1,q2,q3,q4,q5,q6⟩,-⟩:=Zai (t:=36) hA1;have HA1:=Hd hA1;have HP1:=Hd hP1;have HF1:=Hd hF1;have HNB:Hid (∀W:World,b<W.heap.size→∀e:some w.heap.size=some b,False):=by
  intro W _ e;have:=HP.out.lt;have:=Option.some.inj e;omega
 have HLV:=Hd (ZfE k (a:Nat) ⟨n.toArray⟩ (m:Nat) a4 a5 a6 ns.length c4 l.length c5 ts.length c6 W1);have m1:decide ((lvlE k:Int)<(q:Int))=true:=dT (by omega);have m2:decide (lvlE k<q)=true:=dT (by omega);obtain⟨lv,hlv⟩:=eX (lvlE k);rw[←hlv] at HLV m1 m2;clear hC hTab hA1 hP1 hF1 hP hlen hbody hm hlv HE h1 HCH hL;go_enter_defers Tryz.func62,Tryz.ntmps62
 go_upto_region 1 with fail
 clear hW1;go_wp2_with fail
 refine HLV.out.mono ?_;rintro e W2 ⟨rfl,b2⟩;have P2:=Hd (HP1.out.below b2);have F2:=Hd (HF1.out.then_below b2 HP1.out);have hA2:=(Fb.of_below HP1.out.hi b2:Fb B b W1 W2).2 _ _ HA1.out (fun e=>HNB.out W1 HP1.out.lt e) (fun c fz e=>by cases e);have HA2:=Hd hA2;have HS2:=Hd (say1 P2.out [40] (by have:=HLEN.out;simp only[lC,lA,lN] at this⊢;omega));clear b2 HLV q0 q1 q2 q3 q4 q5 q6 hA2;go_wp2_with fail
 refine HS2.out.mono ?_;rintro e W3 ⟨rfl,f3,p3⟩;have P3:=Hd p3;have F3:=Hd (F2.out.trans f3);have HA3:=Hd (f3.2 _ _ HA2.out (fun e=>HNB.out W2 P2.out.lt e) (fun c fz e=>by cases e));clear f3 p3 HS2;go_upto_region 4 with fail
 obtain⟨V,hV⟩:=eY (W3.alloc (.cells #[.string ⟨#[41]⟩] 9));rw[hV];have HPC:Hid (Pcsat V W3.heap.size [[41]]):=by rw[←hV];exact ZhI W3 [[41]]
 obtain⟨b0,hb0⟩:=eX (bs++[40]);have PV:Hid (Pst B V b b0):=by rw[←hV,hb0];exact P3.out.alloc _
 have FV:Hid (Fb B b w V):=by rw[←hV];exact F3.out.alloc HP.out.hi _
 have hAV:V.heap[w.heap.size]?=some (.cells #[.int .i64 k,.int .i64 a,.string ⟨n.toArray⟩,.int .i64 m,.slice a4 ns.length c4,.slice a5 l.length c5,.slice a6 ts.length c6] 36 (0,0)):=by rw[←hV];exact Zab HA3.out _
 obtain⟨gd,hgd⟩:=eX (W3.heap.size);rw[←hgd] at HPC⊢;have LB:Hid (b0.length+body.length+1+S≤100000000000000):=by have:=HLEN.out;rw[hb0];show _≤_;simp only[lC,lA,lN] at this⊢;omega
 have HB0:=Hd hb0;clear hV hgd hb0;obtain⟨⟨r0,r1,r2,r3,r4,r5,r6⟩,-⟩:=Zai (t:=36) hAV;have HAV:=Hd hAV;have HCV:=Hd (IsCs.fb HP.out FV.out _ _ (nb_E _) HC.out);clear hAV;by_cases h1:k=1
 ·subst h1;have hb:body=dig m:=HBODY.out;have HQ:=Hd (ZdV m (H1.out rfl) V (HTB.out.fb FV.out));rw[←hb] at HQ;go_wp2_with fail
  refine HQ.out.mono ?_;rintro e V1 ⟨rfl,b1⟩;have PV1:=Hd (PV.out.below b1);have G1:=Hd (Fb.of_below PV.out.hi b1:Fb B b V V1);have HS:=Hd (say1 PV1.out body (by have:=LB.out;omega));clear b1 HQ hb;go_wp2_with fail
  refine HS.out.mono ?_;rintro e X ⟨rfl,fx,px⟩;have PX:=Hd px;have GX:=Hd (G1.out.trans fx);clear fx px HS;go_wp2_with fail
  refine leaves_cons (f:=100) (args:=#[.pointer (some ⟨b,0,none⟩),.slice (some ⟨gd,0,none⟩) 1 1]) (by simp) (by simp[go_sem]) ?_;refine (Zbo PX.out [[41]] gd 1 (HPC.out.fb (HPC.out.ne PV.out) GX.out) (by have:=LB.out;simp only[lA,lC,lN,List.flatten_cons,List.flatten_nil] at this⊢;omega) (by simp)).mono ?_;rintro e u w9 ⟨rfl,rfl,f9,p9⟩;refine⟨.tuple #[],results_none Tryz.results62 _ _ _,rfl,(FV.out.trans GX.out).trans f9,?_⟩;rw[HB0.out] at p9
  simpa using p9
 by_cases h2:k=2
 ·subst h2;have hb:body=[34]++(n++[34]):=HBODY.out;have HS:=Hd (say3 PV.out [34] n [34] (by have:=LB.out;rw[hb] at this;omega));rw[←hb] at HS;clear hb;go_wp2_with fail
  refine HS.out.mono ?_;rintro e X ⟨rfl,fx,px⟩;have PX:=Hd px;have GX:=Hd fx;clear fx px HS;go_wp2_with fail
  refine leaves_cons (f:=100) (args:=#[.pointer (some ⟨b,0,none⟩),.slice (some ⟨gd,0,none⟩) 1 1]) (by simp) (by simp[go_sem]) ?_;refine (Zbo PX.out [[41]] gd 1 (HPC.out.fb (HPC.out.ne PV.out) GX.out) (by have:=LB.out;simp only[lA,lC,lN,List.flatten_cons,List.flatten_nil] at this⊢;omega) (by simp)).mono ?_;rintro e u w9 ⟨rfl,rfl,f9,p9⟩;refine⟨.tuple #[],results_none Tryz.results62 _ _ _,rfl,(FV.out.trans GX.out).trans f9,?_⟩;rw[HB0.out] at p9
  simpa using p9
 by_cases h3:k=3
 ·subst h3;obtain⟨tv,htv⟩:∃tv:Bool,tv=((m:Int)==1):=⟨_,rfl⟩;have hb:body=if tv then [116,114,117,101] else [102,97,108,115,101]:=by
   have h:=HBODY.out;rw[h,htv];by_cases hm1:m=1
   ·subst hm1;rfl
   ·have e1:((m:Int)==1)=false:=bF (by omega);rw[e1];simp[Zcr,hm1]
  have HQ:=Hd (Zdx tv V);rw[←hb] at HQ;have etv:=htv.symm;have HS:=Hd (say1 PV.out body (by have:=LB.out;omega));clear hb htv;go_wp2_with fail
  first | rw[etv] | skip
  refine HQ.out.mono ?_;rintro e V1 ⟨rfl,rfl⟩;clear etv;go_wp2_with fail
  refine HS.out.mono ?_;rintro e X ⟨rfl,fx,px⟩;have PX:=Hd px;have GX:=Hd fx;clear fx px HS;go_wp2_with fail
  refine leaves_cons (f:=100) (args:=#[.pointer (some ⟨b,0,none⟩),.slice (some ⟨gd,0,none⟩) 1 1]) (by simp) (by simp[go_sem]) ?_;refine (Zbo PX.out [[41]] gd 1 (HPC.out.fb (HPC.out.ne PV.out) GX.out) (by have:=LB.out;simp only[lA,lC,lN,List.flatten_cons,List.flatten_nil] at this⊢;omega) (by simp)).mono ?_;rintro e u w9 ⟨rfl,rfl,f9,p9⟩;refine⟨.tuple #[],results_none Tryz.results62 _ _ _,rfl,(FV.out.trans GX.out).trans f9,?_⟩;rw[HB0.out] at p9
  simpa using p9
 by_cases h4:k=4
 ·subst h4;have hb:body=n:=HBODY.out;have HS:=Hd (say1 PV.out n (by have:=LB.out;rw[hb] at this;omega));rw[←hb] at HS;have HBB:=Hd hb;clear hb;go_wp2_with fail
  first | rw[←HBB.out] | skip
  refine HS.out.mono ?_;rintro e X ⟨rfl,fx,px⟩;have PX:=Hd px;have GX:=Hd fx;clear fx px HS;go_wp2_with fail
  refine leaves_cons (f:=100) (args:=#[.pointer (some ⟨b,0,none⟩),.slice (some ⟨gd,0,none⟩) 1 1]) (by simp) (by simp[go_sem]) ?_;refine (Zbo PX.out [[41]] gd 1 (HPC.out.fb (HPC.out.ne PV.out) GX.out) (by have:=LB.out;simp only[lA,lC,lN,List.flatten_cons,List.flatten_nil] at this⊢;omega) (by simp)).mono ?_;rintro e u w9 ⟨rfl,rfl,f9,p9⟩;refine⟨.tuple #[],results_none Tryz.results62 _ _ _,rfl,(FV.out.trans GX.out).trans f9,?_⟩;rw[HB0.out] at p9
  simpa using p9
 by_cases h5:k=5
 ·subst h5;have HS:Hid (Calls Tryz.prog 109 #[.pointer (some ⟨b,0,none⟩),.agg #[.int .i64 ((5:Nat):Int),.int .i64 a,.string ⟨n.toArray⟩,.int .i64 m,.slice a4 ns.length c4,.slice a5 l.length c5,.slice a6 ts.length c6]] V (fun e w'=>e=.returned (.tuple #[])∧Fb B b V w'∧Pst B w' b (b0++body))):=by
   have hb:body=123::(Zaz [44,32] (Zbz [32,61,32] ns (l.map (prE 0)))++[125]):=HBODY.out;rw[hb];exact ZgP 5 a n m ns l ts HTT.out (by have:=HBL.out;rw[hb] at this;exact this) A _ B b b0 V PV.out ⟨HCV.out,HTB.out.fb FV.out⟩ (by have:=LB.out;rw[hb] at this;exact ZcG this)
  go_wp2_with fail
  refine HS.out.mono ?_;rintro e X ⟨rfl,fx,px⟩;have PX:=Hd px;have GX:=Hd fx;clear fx px HS;go_wp2_with fail
  refine leaves_cons (f:=100) (args:=#[.pointer (some ⟨b,0,none⟩),.slice (some ⟨gd,0,none⟩) 1 1]) (by simp) (by simp[go_sem]) ?_;refine (Zbo PX.out [[41]] gd 1 (HPC.out.fb (HPC.out.ne PV.out) GX.out) (by have:=LB.out;simp only[lA,lC,lN,List.flatten_cons,List.flatten_nil] at this⊢;omega) (by simp)).mono ?_;rintro e u w9 ⟨rfl,rfl,f9,p9⟩;refine⟨.tuple #[],results_none Tryz.results62 _ _ _,rfl,(FV.out.trans GX.out).trans f9,?_⟩;rw[HB0.out] at p9
  simpa using p9
 by_cases h6:k=6
 ·subst h6;have HS:Hid (Calls Tryz.prog 110 #[.pointer (some ⟨b,0,none⟩),.agg #[.int .i64 ((6:Nat):Int),.int .i64 a,.string ⟨n.toArray⟩,.int .i64 m,.slice a4 ns.length c4,.slice a5 l.length c5,.slice a6 ts.length c6]] V (fun e w'=>e=.returned (.tuple #[])∧Fb B b V w'∧Pst B w' b (b0++body))):=by
   have hb:body=prE 2 (.mk 6 a n m ns l ts):=by rw[HBODY.out,ZaX];rfl
   rw[hb];exact HC7.out (.inl rfl) A _ B b b0 V PV.out ⟨HCV.out,HTB.out.fb FV.out⟩ (by have:=LB.out;rw[hb] at this;exact ZcG this)
  go_wp2_with fail
  refine HS.out.mono ?_;rintro e X ⟨rfl,fx,px⟩;have PX:=Hd px;have GX:=Hd fx;clear fx px HS;go_wp2_with fail
  refine leaves_cons (f:=100) (args:=#[.pointer (some ⟨b,0,none⟩),.slice (some ⟨gd,0,none⟩) 1 1]) (by simp) (by simp[go_sem]) ?_;refine (Zbo PX.out [[41]] gd 1 (HPC.out.fb (HPC.out.ne PV.out) GX.out) (by have:=LB.out;simp only[lA,lC,lN,List.flatten_cons,List.flatten_nil] at this⊢;omega) (by simp)).mono ?_;rintro e u w9 ⟨rfl,rfl,f9,p9⟩;refine⟨.tuple #[],results_none Tryz.results62 _ _ _,rfl,(FV.out.trans GX.out).trans f9,?_⟩;rw[HB0.out] at p9
  simpa using p9
 by_cases h7:k=7
 ·subst h7;have HS:Hid (Calls Tryz.prog 110 #[.pointer (some ⟨b,0,none⟩),.agg #[.int .i64 ((7:Nat):Int),.int .i64 a,.string ⟨n.toArray⟩,.int .i64 m,.slice a4 ns.length c4,.slice a5 l.length c5,.slice a6 ts.length c6]] V (fun e w'=>e=.returned (.tuple #[])∧Fb B b V w'∧Pst B w' b (b0++body))):=by
   have hb:body=prE 2 (.mk 7 a n m ns l ts):=by rw[HBODY.out,ZaX];rfl
   rw[hb];exact HC7.out (.inr rfl) A _ B b b0 V PV.out ⟨HCV.out,HTB.out.fb FV.out⟩ (by have:=LB.out;rw[hb] at this;exact ZcG this)
  go_wp2_with fail
  refine HS.out.mono ?_;rintro e X ⟨rfl,fx,px⟩;have PX:=Hd px;have GX:=Hd fx;clear fx px HS;go_wp2_with fail
  refine leaves_cons (f:=100) (args:=#[.pointer (some ⟨b,0,none⟩),.slice (some ⟨gd,0,none⟩) 1 1]) (by simp) (by simp[go_sem]) ?_;refine (Zbo PX.out [[41]] gd 1 (HPC.out.fb (HPC.out.ne PV.out) GX.out) (by have:=LB.out;simp only[lA,lC,lN,List.flatten_cons,List.flatten_nil] at this⊢;omega) (by simp)).mono ?_;rintro e u w9 ⟨rfl,rfl,f9,p9⟩;refine⟨.tuple #[],results_none Tryz.results62 _ _ _,rfl,(FV.out.trans GX.out).trans f9,?_⟩;rw[HB0.out] at p9
  simpa using p9
 by_cases h8:k=8
 ·subst h8;have HS:Hid (Calls Tryz.prog 111 #[.pointer (some ⟨b,0,none⟩),.agg #[.int .i64 ((8:Nat):Int),.int .i64 a,.string ⟨n.toArray⟩,.int .i64 m,.slice a4 ns.length c4,.slice a5 l.length c5,.slice a6 ts.length c6]] V (fun e w'=>e=.returned (.tuple #[])∧Fb B b V w'∧Pst B w' b (b0++body))):=by
   have hb:body=([102,117,110,32,40]++(n++[32,58,32]))++(prT 0 (ts[0]?.getD zPT)++([41,32]++(prE 0 (l[0]?.getD zPE)))):=by
    rw[HBODY.out,←Zcj 0 (by decide),←Zc1 0 (.inl rfl)];simp[Zcr]
   rw[hb];exact ZiL 8 a n m ns l ts HTT.out (by have:=HBL.out;rw[hb] at this;exact this) A _ B b b0 V PV.out ⟨HCV.out,HTB.out.fb FV.out⟩ (by have:=LB.out;rw[hb] at this;exact ZcG this)
  go_wp2_with fail
  refine HS.out.mono ?_;rintro e X ⟨rfl,fx,px⟩;have PX:=Hd px;have GX:=Hd fx;clear fx px HS;go_wp2_with fail
  refine leaves_cons (f:=100) (args:=#[.pointer (some ⟨b,0,none⟩),.slice (some ⟨gd,0,none⟩) 1 1]) (by simp) (by simp[go_sem]) ?_;refine (Zbo PX.out [[41]] gd 1 (HPC.out.fb (HPC.out.ne PV.out) GX.out) (by have:=LB.out;simp only[lA,lC,lN,List.flatten_cons,List.flatten_nil] at this⊢;omega) (by simp)).mono ?_;rintro e u w9 ⟨rfl,rfl,f9,p9⟩;refine⟨.tuple #[],results_none Tryz.results62 _ _ _,rfl,(FV.out.trans GX.out).trans f9,?_⟩;rw[HB0.out] at p9
  simpa using p9
 by_cases h9:k=9
 ·subst h9;have HS:Hid (Calls Tryz.prog 112 #[.pointer (some ⟨b,0,none⟩),.agg #[.int .i64 ((9:Nat):Int),.int .i64 a,.string ⟨n.toArray⟩,.int .i64 m,.slice a4 ns.length c4,.slice a5 l.length c5,.slice a6 ts.length c6]] V (fun e w'=>e=.returned (.tuple #[])∧Fb B b V w'∧Pst B w' b (b0++body))):=by
   have hb:body=([108,101,116,32]++(n++[32,61,32]))++(prE 0 (l[0]?.getD zPE)++([32,105,110,32]++(prE 0 (l[1]?.getD zPE)))):=by
    rw[HBODY.out,←Zc1 0 (.inl rfl),←ZfK 0 (.inl rfl)];simp[Zcr]
   rw[hb];exact ZiI 9 a n m ns l ts HTT.out (by have:=HBL.out;rw[hb] at this;exact this) A _ B b b0 V PV.out ⟨HCV.out,HTB.out.fb FV.out⟩ (by have:=LB.out;rw[hb] at this;exact ZcG this)
  go_wp2_with fail
  refine HS.out.mono ?_;rintro e X ⟨rfl,fx,px⟩;have PX:=Hd px;have GX:=Hd fx;clear fx px HS;go_wp2_with fail
  refine leaves_cons (f:=100) (args:=#[.pointer (some ⟨b,0,none⟩),.slice (some ⟨gd,0,none⟩) 1 1]) (by simp) (by simp[go_sem]) ?_;refine (Zbo PX.out [[41]] gd 1 (HPC.out.fb (HPC.out.ne PV.out) GX.out) (by have:=LB.out;simp only[lA,lC,lN,List.flatten_cons,List.flatten_nil] at this⊢;omega) (by simp)).mono ?_;rintro e u w9 ⟨rfl,rfl,f9,p9⟩;refine⟨.tuple #[],results_none Tryz.results62 _ _ _,rfl,(FV.out.trans GX.out).trans f9,?_⟩;rw[HB0.out] at p9
  simpa using p9
 by_cases h10:k=10
 ·subst h10;have HS:Hid (Calls Tryz.prog 113 #[.pointer (some ⟨b,0,none⟩),.agg #[.int .i64 ((10:Nat):Int),.int .i64 a,.string ⟨n.toArray⟩,.int .i64 m,.slice a4 ns.length c4,.slice a5 l.length c5,.slice a6 ts.length c6]] V (fun e w'=>e=.returned (.tuple #[])∧Fb B b V w'∧Pst B w' b (b0++body))):=by
   have hb:body=[105,102,32]++(prE 0 (l[0]?.getD zPE)++([32,116,104,101,110,32]++(prE 0 (l[1]?.getD zPE)++([32,101,108,115,101,32]++(prE 0 (l[2]?.getD zPE)))))):=by
    rw[HBODY.out,←Zc1 0 (.inl rfl),←ZfK 0 (.inl rfl),←Znu 0 (.inl rfl)];simp[Zcr]
   rw[hb];exact Zk7 10 a n m ns l ts HTT.out (by have:=HBL.out;rw[hb] at this;exact this) A _ B b b0 V PV.out ⟨HCV.out,HTB.out.fb FV.out⟩ (by have:=LB.out;rw[hb] at this;exact ZcG this)
  go_wp2_with fail
  refine HS.out.mono ?_;rintro e X ⟨rfl,fx,px⟩;have PX:=Hd px;have GX:=Hd fx;clear fx px HS;go_wp2_with fail
  refine leaves_cons (f:=100) (args:=#[.pointer (some ⟨b,0,none⟩),.slice (some ⟨gd,0,none⟩) 1 1]) (by simp) (by simp[go_sem]) ?_;refine (Zbo PX.out [[41]] gd 1 (HPC.out.fb (HPC.out.ne PV.out) GX.out) (by have:=LB.out;simp only[lA,lC,lN,List.flatten_cons,List.flatten_nil] at this⊢;omega) (by simp)).mono ?_;rintro e u w9 ⟨rfl,rfl,f9,p9⟩;refine⟨.tuple #[],results_none Tryz.results62 _ _ _,rfl,(FV.out.trans GX.out).trans f9,?_⟩;rw[HB0.out] at p9
  simpa using p9
 by_cases h11:k=11
 ·subst h11;have HS:Hid (Calls Tryz.prog 114 #[.pointer (some ⟨b,0,none⟩),.agg #[.int .i64 ((11:Nat):Int),.int .i64 a,.string ⟨n.toArray⟩,.int .i64 m,.slice a4 ns.length c4,.slice a5 l.length c5,.slice a6 ts.length c6]] V (fun e w'=>e=.returned (.tuple #[])∧Fb B b V w'∧Pst B w' b (b0++body))):=by
   have hb:body=[40]++(prE 0 (l[0]?.getD zPE)++([32,58,32]++(prT 0 (ts[0]?.getD zPT)++([41])))):=by
    rw[HBODY.out,←Zcj 0 (by decide),←Zc1 0 (.inl rfl)];simp[Zcr]
   rw[hb];exact Zny 11 a n m ns l ts HTT.out (by have:=HBL.out;rw[hb] at this;exact this) A _ B b b0 V PV.out ⟨HCV.out,HTB.out.fb FV.out⟩ (by have:=LB.out;rw[hb] at this;exact ZcG this)
  go_wp2_with fail
  refine HS.out.mono ?_;rintro e X ⟨rfl,fx,px⟩;have PX:=Hd px;have GX:=Hd fx;clear fx px HS;go_wp2_with fail
  refine leaves_cons (f:=100) (args:=#[.pointer (some ⟨b,0,none⟩),.slice (some ⟨gd,0,none⟩) 1 1]) (by simp) (by simp[go_sem]) ?_;refine (Zbo PX.out [[41]] gd 1 (HPC.out.fb (HPC.out.ne PV.out) GX.out) (by have:=LB.out;simp only[lA,lC,lN,List.flatten_cons,List.flatten_nil] at this⊢;omega) (by simp)).mono ?_;rintro e u w9 ⟨rfl,rfl,f9,p9⟩;refine⟨.tuple #[],results_none Tryz.results62 _ _ _,rfl,(FV.out.trans GX.out).trans f9,?_⟩;rw[HB0.out] at p9
  simpa using p9
 ·have hb:body=[]:=by have:=HBODY.out;rw[this];unfold Zcr;simp only[h1,h2,h3,h4,h5,h6,h7,h8,h9,h10,h11,if_false]
  have e1:((k:Int)==1)=false:=bF (by omega);have e2:((k:Int)==2)=false:=bF (by omega);have e3:((k:Int)==3)=false:=bF (by omega);have e4:((k:Int)==4)=false:=bF (by omega);have e5:((k:Int)==5)=false:=bF (by omega);have e6:((k:Int)==6)=false:=bF (by omega);have e7:((k:Int)==7)=false:=bF (by omega);have e8:((k:Int)==8)=false:=bF (by omega);have e9:((k:Int)==9)=false:=bF (by omega);have e10:((k:Int)==10)=false:=bF (by omega);have e11:((k:Int)==11)=false:=bF (by omega);have PX:Hid (Pst B V b (b0++body)):=by rw[hb,List.append_nil];exact PV.out
  have GX:=Hd (Fb.refl B b V);clear hb;go_wp2_with fail
  refine leaves_cons (f:=100) (args:=#[.pointer (some ⟨b,0,none⟩),.slice (some ⟨gd,0,none⟩) 1 1]) (by simp) (by simp[go_sem]) ?_;refine (Zbo PX.out [[41]] gd 1 (HPC.out.fb (HPC.out.ne PV.out) GX.out) (by have:=LB.out;simp only[lA,lC,lN,List.flatten_cons,List.flatten_nil] at this⊢;omega) (by simp)).mono ?_;rintro e u w9 ⟨rfl,rfl,f9,p9⟩;refine⟨.tuple #[],results_none Tryz.results62 _ _ _,rfl,(FV.out.trans GX.out).trans f9,?_⟩;rw[HB0.out] at p9
  simpa using p9
theorem ZmQ (k a:Nat)(n:Bs)(m:Nat)(ns:List Bs)(l:List PE)(ts:List PT)(h1:k=1→m≤9223372036854775807)(HE:∀x,(x∈l∨x=zPE)→(prE 0 x).length<L→ExOk S x)(hL:(Zcr k n m ns (l.map (prE 0)) (l.map (prE 2)) (ts.map (prT 0))).length≤L)(HCH:k=6∨k=7→∀(A:Nat→Prop) (cs:List Value),PrtE S 110 (fun b=>#[.pointer (some ⟨b,0,none⟩),.agg cs.toArray]) (prE 2 (.mk k a n m ns l ts)) (fun B w=>IsCs A w (encE 26 36 (.mk k a n m ns l ts)) cs∧Tab B w))(q:Nat)(hm:¬lvlE k<q)(A:Nat→Prop)(cs:List Value) :
  PrtE S 62 (fun b=>#[.pointer (some ⟨b,0,none⟩),.agg cs.toArray,.int .i64 q]) (Zcr k n m ns (l.map (prE 0)) (l.map (prE 2)) (ts.map (prT 0))) (fun B w=>IsCs A w (encE 26 36 (.mk k a n m ns l ts)) cs∧Tab B w):=by
 intro B b bs w hP hD hlen;obtain⟨hC,hTab⟩:=hD;have HTB:=Hd hTab;obtain⟨body,hbody⟩:=eX (Zcr k n m ns (l.map (prE 0)) (l.map (prE 2)) (ts.map (prT 0)));rw[←hbody] at hlen hL⊢;have HBL:=Hd hL;obtain⟨a4,c4,a5,c5,a6,c6,rfl,-,-,-⟩:=ZbU hC;have HBODY:=Hd hbody;have HC:=Hd hC;have HP:=Hd hP;have HTT:=Hd HE;have H1:=Hd h1;have HC7:=Hd HCH;have HLEN:=Hd hlen;obtain⟨W1,hW1⟩:=eY (w.alloc (.cells #[.int .i64 k,.int .i64 a,.string ⟨n.toArray⟩,.int .i64 m,.slice a4 ns.length c4,.slice a5 l.length c5,.slice a6 ts.length c6] 36));have hA1:W1.heap[w.heap.size]?=some (.cells #[.int .i64 k,.int .i64 a,.string ⟨n.toArray⟩,.int .i64 m,.slice a4 ns.length c4,.slice a5 l.length c5,.slice a6 ts.length c6] 36 (0,0)):=by rw[←hW1];exact hN w _
 have hP1:Pst B W1 b bs:=by rw[←hW1];exact hP.alloc _
 have hF1:Fb B b w W1:=by rw[←hW1];exact (Fb.refl B b w).alloc hP.hi _
 obtain⟨⟨q0,q1,q2,q3,q4,q5,q6⟩,-⟩:=Zai (t:=36) hA1;have HA1:=Hd hA1;have HP1:=Hd hP1;have HF1:=Hd hF1;have HNB:Hid (∀W:World,b<W.heap.size→∀e:some w.heap.size=some b,False):=by
  intro W _ e;have:=HP.out.lt;have:=Option.some.inj e;omega
 have HLV:=Hd (ZfE k (a:Nat) ⟨n.toArray⟩ (m:Nat) a4 a5 a6 ns.length c4 l.length c5 ts.length c6 W1);have m1:decide ((lvlE k:Int)<(q:Int))=false:=dF (by omega);have m2:decide (lvlE k<q)=false:=dF (by omega);obtain⟨lv,hlv⟩:=eX (lvlE k);rw[←hlv] at HLV m1 m2;clear hC hTab hA1 hP1 hF1 hP hlen hbody hm hlv HE h1 HCH hL;go_enter_defers Tryz.func62,Tryz.ntmps62
 go_upto_region 1 with fail
 clear hW1;go_wp2_with fail
 refine HLV.out.mono ?_;rintro e W2 ⟨rfl,b2⟩;have P2:=Hd (HP1.out.below b2);have F2:=Hd (HF1.out.then_below b2 HP1.out);have hA2:=(Fb.of_below HP1.out.hi b2:Fb B b W1 W2).2 _ _ HA1.out (fun e=>HNB.out W1 HP1.out.lt e) (fun c fz e=>by cases e);have HA2:=Hd hA2;clear b2 HLV q0 q1 q2 q3 q4 q5 q6;go_upto_region 4 with fail
 obtain⟨V,hV⟩:=eX (W2);rw[←hV];obtain⟨b0,hb0⟩:=eX (bs);have PV:Hid (Pst B V b b0):=by rw[hV,hb0];exact P2.out
 have FV:Hid (Fb B b w V):=by rw[hV];exact F2.out
 have hAV:V.heap[w.heap.size]?=some (.cells #[.int .i64 k,.int .i64 a,.string ⟨n.toArray⟩,.int .i64 m,.slice a4 ns.length c4,.slice a5 l.length c5,.slice a6 ts.length c6] 36 (0,0)):=by rw[hV];exact HA2.out
 have LB:Hid (b0.length+body.length+0+S≤100000000000000):=by have:=HLEN.out;rw[hb0];exact this
 have HB0:=Hd hb0;clear hV hb0 hA2;obtain⟨⟨r0,r1,r2,r3,r4,r5,r6⟩,-⟩:=Zai (t:=36) hAV;have HAV:=Hd hAV;have HCV:=Hd (IsCs.fb HP.out FV.out _ _ (nb_E _) HC.out);clear hAV;by_cases h1:k=1
 ·subst h1;have hb:body=dig m:=HBODY.out;have HQ:=Hd (ZdV m (H1.out rfl) V (HTB.out.fb FV.out));rw[←hb] at HQ;go_wp2_with fail
  refine HQ.out.mono ?_;rintro e V1 ⟨rfl,b1⟩;have PV1:=Hd (PV.out.below b1);have G1:=Hd (Fb.of_below PV.out.hi b1:Fb B b V V1);have HS:=Hd (say1 PV1.out body (by have:=LB.out;omega));clear b1 HQ hb;go_wp2_with fail
  refine HS.out.mono ?_;rintro e X ⟨rfl,fx,px⟩;have PX:=Hd px;have GX:=Hd (G1.out.trans fx);clear fx px HS;go_wp2_with fail
  refine⟨.tuple #[],results_none Tryz.results62 _ _ _,rfl,FV.out.trans GX.out,?_⟩;have:=PX.out;rw[HB0.out] at this;exact this
 by_cases h2:k=2
 ·subst h2;have hb:body=[34]++(n++[34]):=HBODY.out;have HS:=Hd (say3 PV.out [34] n [34] (by have:=LB.out;rw[hb] at this;omega));rw[←hb] at HS;clear hb;go_wp2_with fail
  refine HS.out.mono ?_;rintro e X ⟨rfl,fx,px⟩;have PX:=Hd px;have GX:=Hd fx;clear fx px HS;go_wp2_with fail
  refine⟨.tuple #[],results_none Tryz.results62 _ _ _,rfl,FV.out.trans GX.out,?_⟩;have:=PX.out;rw[HB0.out] at this;exact this
 by_cases h3:k=3
 ·subst h3;obtain⟨tv,htv⟩:∃tv:Bool,tv=((m:Int)==1):=⟨_,rfl⟩;have hb:body=if tv then [116,114,117,101] else [102,97,108,115,101]:=by
   have h:=HBODY.out;rw[h,htv];by_cases hm1:m=1
   ·subst hm1;rfl
   ·have e1:((m:Int)==1)=false:=bF (by omega);rw[e1];simp[Zcr,hm1]
  have HQ:=Hd (Zdx tv V);rw[←hb] at HQ;have etv:=htv.symm;have HS:=Hd (say1 PV.out body (by have:=LB.out;omega));clear hb htv;go_wp2_with fail
  first | rw[etv] | skip
  refine HQ.out.mono ?_;rintro e V1 ⟨rfl,rfl⟩;clear etv;go_wp2_with fail
  refine HS.out.mono ?_;rintro e X ⟨rfl,fx,px⟩;have PX:=Hd px;have GX:=Hd fx;clear fx px HS;go_wp2_with fail
  refine⟨.tuple #[],results_none Tryz.results62 _ _ _,rfl,FV.out.trans GX.out,?_⟩;have:=PX.out;rw[HB0.out] at this;exact this
 by_cases h4:k=4
 ·subst h4;have hb:body=n:=HBODY.out;have HS:=Hd (say1 PV.out n (by have:=LB.out;rw[hb] at this;omega));rw[←hb] at HS;have HBB:=Hd hb;clear hb;go_wp2_with fail
  first | rw[←HBB.out] | skip
  refine HS.out.mono ?_;rintro e X ⟨rfl,fx,px⟩;have PX:=Hd px;have GX:=Hd fx;clear fx px HS;go_wp2_with fail
  refine⟨.tuple #[],results_none Tryz.results62 _ _ _,rfl,FV.out.trans GX.out,?_⟩;have:=PX.out;rw[HB0.out] at this;exact this
 by_cases h5:k=5
 ·subst h5;have HS:Hid (Calls Tryz.prog 109 #[.pointer (some ⟨b,0,none⟩),.agg #[.int .i64 ((5:Nat):Int),.int .i64 a,.string ⟨n.toArray⟩,.int .i64 m,.slice a4 ns.length c4,.slice a5 l.length c5,.slice a6 ts.length c6]] V (fun e w'=>e=.returned (.tuple #[])∧Fb B b V w'∧Pst B w' b (b0++body))):=by
   have hb:body=123::(Zaz [44,32] (Zbz [32,61,32] ns (l.map (prE 0)))++[125]):=HBODY.out;rw[hb];exact ZgP 5 a n m ns l ts HTT.out (by have:=HBL.out;rw[hb] at this;exact this) A _ B b b0 V PV.out ⟨HCV.out,HTB.out.fb FV.out⟩ (by have:=LB.out;rw[hb] at this;exact ZcG this)
  go_wp2_with fail
  refine HS.out.mono ?_;rintro e X ⟨rfl,fx,px⟩;have PX:=Hd px;have GX:=Hd fx;clear fx px HS;go_wp2_with fail
  refine⟨.tuple #[],results_none Tryz.results62 _ _ _,rfl,FV.out.trans GX.out,?_⟩;have:=PX.out;rw[HB0.out] at this;exact this
 by_cases h6:k=6
 ·subst h6;have HS:Hid (Calls Tryz.prog 110 #[.pointer (some ⟨b,0,none⟩),.agg #[.int .i64 ((6:Nat):Int),.int .i64 a,.string ⟨n.toArray⟩,.int .i64 m,.slice a4 ns.length c4,.slice a5 l.length c5,.slice a6 ts.length c6]] V (fun e w'=>e=.returned (.tuple #[])∧Fb B b V w'∧Pst B w' b (b0++body))):=by
   have hb:body=prE 2 (.mk 6 a n m ns l ts):=by rw[HBODY.out,ZaX];rfl
   rw[hb];exact HC7.out (.inl rfl) A _ B b b0 V PV.out ⟨HCV.out,HTB.out.fb FV.out⟩ (by have:=LB.out;rw[hb] at this;exact ZcG this)
  go_wp2_with fail
  refine HS.out.mono ?_;rintro e X ⟨rfl,fx,px⟩;have PX:=Hd px;have GX:=Hd fx;clear fx px HS;go_wp2_with fail
  refine⟨.tuple #[],results_none Tryz.results62 _ _ _,rfl,FV.out.trans GX.out,?_⟩;have:=PX.out;rw[HB0.out] at this;exact this
 by_cases h7:k=7
 ·subst h7;have HS:Hid (Calls Tryz.prog 110 #[.pointer (some ⟨b,0,none⟩),.agg #[.int .i64 ((7:Nat):Int),.int .i64 a,.string ⟨n.toArray⟩,.int .i64 m,.slice a4 ns.length c4,.slice a5 l.length c5,.slice a6 ts.length c6]] V (fun e w'=>e=.returned (.tuple #[])∧Fb B b V w'∧Pst B w' b (b0++body))):=by
   have hb:body=prE 2 (.mk 7 a n m ns l ts):=by rw[HBODY.out,ZaX];rfl
   rw[hb];exact HC7.out (.inr rfl) A _ B b b0 V PV.out ⟨HCV.out,HTB.out.fb FV.out⟩ (by have:=LB.out;rw[hb] at this;exact ZcG this)
  go_wp2_with fail
  refine HS.out.mono ?_;rintro e X ⟨rfl,fx,px⟩;have PX:=Hd px;have GX:=Hd fx;clear fx px HS;go_wp2_with fail
  refine⟨.tuple #[],results_none Tryz.results62 _ _ _,rfl,FV.out.trans GX.out,?_⟩;have:=PX.out;rw[HB0.out] at this;exact this
 by_cases h8:k=8
 ·subst h8;have HS:Hid (Calls Tryz.prog 111 #[.pointer (some ⟨b,0,none⟩),.agg #[.int .i64 ((8:Nat):Int),.int .i64 a,.string ⟨n.toArray⟩,.int .i64 m,.slice a4 ns.length c4,.slice a5 l.length c5,.slice a6 ts.length c6]] V (fun e w'=>e=.returned (.tuple #[])∧Fb B b V w'∧Pst B w' b (b0++body))):=by
   have hb:body=([102,117,110,32,40]++(n++[32,58,32]))++(prT 0 (ts[0]?.getD zPT)++([41,32]++(prE 0 (l[0]?.getD zPE)))):=by
    rw[HBODY.out,←Zcj 0 (by decide),←Zc1 0 (.inl rfl)];simp[Zcr]
   rw[hb];exact ZiL 8 a n m ns l ts HTT.out (by have:=HBL.out;rw[hb] at this;exact this) A _ B b b0 V PV.out ⟨HCV.out,HTB.out.fb FV.out⟩ (by have:=LB.out;rw[hb] at this;exact ZcG this)
  go_wp2_with fail
  refine HS.out.mono ?_;rintro e X ⟨rfl,fx,px⟩;have PX:=Hd px;have GX:=Hd fx;clear fx px HS;go_wp2_with fail
  refine⟨.tuple #[],results_none Tryz.results62 _ _ _,rfl,FV.out.trans GX.out,?_⟩;have:=PX.out;rw[HB0.out] at this;exact this
 by_cases h9:k=9
 ·subst h9;have HS:Hid (Calls Tryz.prog 112 #[.pointer (some ⟨b,0,none⟩),.agg #[.int .i64 ((9:Nat):Int),.int .i64 a,.string ⟨n.toArray⟩,.int .i64 m,.slice a4 ns.length c4,.slice a5 l.length c5,.slice a6 ts.length c6]] V (fun e w'=>e=.returned (.tuple #[])∧Fb B b V w'∧Pst B w' b (b0++body))):=by
   have hb:body=([108,101,116,32]++(n++[32,61,32]))++(prE 0 (l[0]?.getD zPE)++([32,105,110,32]++(prE 0 (l[1]?.getD zPE)))):=by
    rw[HBODY.out,←Zc1 0 (.inl rfl),←ZfK 0 (.inl rfl)];simp[Zcr]
   rw[hb];exact ZiI 9 a n m ns l ts HTT.out (by have:=HBL.out;rw[hb] at this;exact this) A _ B b b0 V PV.out ⟨HCV.out,HTB.out.fb FV.out⟩ (by have:=LB.out;rw[hb] at this;exact ZcG this)
  go_wp2_with fail
  refine HS.out.mono ?_;rintro e X ⟨rfl,fx,px⟩;have PX:=Hd px;have GX:=Hd fx;clear fx px HS;go_wp2_with fail
  refine⟨.tuple #[],results_none Tryz.results62 _ _ _,rfl,FV.out.trans GX.out,?_⟩;have:=PX.out;rw[HB0.out] at this;exact this
 by_cases h10:k=10
 ·subst h10;have HS:Hid (Calls Tryz.prog 113 #[.pointer (some ⟨b,0,none⟩),.agg #[.int .i64 ((10:Nat):Int),.int .i64 a,.string ⟨n.toArray⟩,.int .i64 m,.slice a4 ns.length c4,.slice a5 l.length c5,.slice a6 ts.length c6]] V (fun e w'=>e=.returned (.tuple #[])∧Fb B b V w'∧Pst B w' b (b0++body))):=by
   have hb:body=[105,102,32]++(prE 0 (l[0]?.getD zPE)++([32,116,104,101,110,32]++(prE 0 (l[1]?.getD zPE)++([32,101,108,115,101,32]++(prE 0 (l[2]?.getD zPE)))))):=by
    rw[HBODY.out,←Zc1 0 (.inl rfl),←ZfK 0 (.inl rfl),←Znu 0 (.inl rfl)];simp[Zcr]
   rw[hb];exact Zk7 10 a n m ns l ts HTT.out (by have:=HBL.out;rw[hb] at this;exact this) A _ B b b0 V PV.out ⟨HCV.out,HTB.out.fb FV.out⟩ (by have:=LB.out;rw[hb] at this;exact ZcG this)
  go_wp2_with fail
  refine HS.out.mono ?_;rintro e X ⟨rfl,fx,px⟩;have PX:=Hd px;have GX:=Hd fx;clear fx px HS;go_wp2_with fail
  refine⟨.tuple #[],results_none Tryz.results62 _ _ _,rfl,FV.out.trans GX.out,?_⟩;have:=PX.out;rw[HB0.out] at this;exact this
 by_cases h11:k=11
 ·subst h11;have HS:Hid (Calls Tryz.prog 114 #[.pointer (some ⟨b,0,none⟩),.agg #[.int .i64 ((11:Nat):Int),.int .i64 a,.string ⟨n.toArray⟩,.int .i64 m,.slice a4 ns.length c4,.slice a5 l.length c5,.slice a6 ts.length c6]] V (fun e w'=>e=.returned (.tuple #[])∧Fb B b V w'∧Pst B w' b (b0++body))):=by
   have hb:body=[40]++(prE 0 (l[0]?.getD zPE)++([32,58,32]++(prT 0 (ts[0]?.getD zPT)++([41])))):=by
    rw[HBODY.out,←Zcj 0 (by decide),←Zc1 0 (.inl rfl)];simp[Zcr]
   rw[hb];exact Zny 11 a n m ns l ts HTT.out (by have:=HBL.out;rw[hb] at this;exact this) A _ B b b0 V PV.out ⟨HCV.out,HTB.out.fb FV.out⟩ (by have:=LB.out;rw[hb] at this;exact ZcG this)
  go_wp2_with fail
  refine HS.out.mono ?_;rintro e X ⟨rfl,fx,px⟩;have PX:=Hd px;have GX:=Hd fx;clear fx px HS;go_wp2_with fail
  refine⟨.tuple #[],results_none Tryz.results62 _ _ _,rfl,FV.out.trans GX.out,?_⟩;have:=PX.out;rw[HB0.out] at this;exact this
 ·have hb:body=[]:=by have:=HBODY.out;rw[this];unfold Zcr;simp only[h1,h2,h3,h4,h5,h6,h7,h8,h9,h10,h11,if_false]
  have e1:((k:Int)==1)=false:=bF (by omega);have e2:((k:Int)==2)=false:=bF (by omega);have e3:((k:Int)==3)=false:=bF (by omega);have e4:((k:Int)==4)=false:=bF (by omega);have e5:((k:Int)==5)=false:=bF (by omega);have e6:((k:Int)==6)=false:=bF (by omega);have e7:((k:Int)==7)=false:=bF (by omega);have e8:((k:Int)==8)=false:=bF (by omega);have e9:((k:Int)==9)=false:=bF (by omega);have e10:((k:Int)==10)=false:=bF (by omega);have e11:((k:Int)==11)=false:=bF (by omega);have PX:Hid (Pst B V b (b0++body)):=by rw[hb,List.append_nil];exact PV.out
  have GX:=Hd (Fb.refl B b V);clear hb;go_wp2_with fail
  refine⟨.tuple #[],results_none Tryz.results62 _ _ _,rfl,FV.out.trans GX.out,?_⟩;have:=PX.out;rw[HB0.out] at this;exact this
theorem Zlm (k a:Nat)(n:Bs)(m:Nat)(ns:List Bs)(l:List PE)(ts:List PT)(h1:k=1→m≤9223372036854775807)(HE:∀x,(x∈l∨x=zPE)→(prE 0 x).length<(prE 0 (.mk k a n m ns l ts)).length→ExOk S x)(HCH:k=6∨k=7→∀(A:Nat→Prop) (cs:List Value),PrtE S 110 (fun b=>#[.pointer (some ⟨b,0,none⟩),.agg cs.toArray]) (prE 2 (.mk k a n m ns l ts)) (fun B w=>IsCs A w (encE 26 36 (.mk k a n m ns l ts)) cs∧Tab B w)):ExOk S (.mk k a n m ns l ts):=by
 have hL:(Zcr k n m ns (l.map (prE 0)) (l.map (prE 2)) (ts.map (prT 0))).length≤(prE 0 (.mk k a n m ns l ts)).length:=by
  rw[ZaX,ZbO,if_neg (Nat.not_lt_zero _)];exact nl _
 intro q _ A cs;rw[ZaX];by_cases hm:lvlE k<q
 ·rw[ZbO,if_pos hm];exact ZoZ k a n m ns l ts h1 HE hL HCH q hm A cs
 ·rw[ZbO,if_neg hm];exact ZmQ k a n m ns l ts h1 HE hL HCH q hm A cs
def PE.parts:PE→List PE | .mk _ _ _ _ _ l _=>l
def PE.kind:PE→Nat | .mk k _ _ _ _ _ _=>k
def lnk:PE→Bs
 | .mk k _ n _ _ l _=>if k=6 then 46::n else 40::(prE 0 (l[1]?.getD zPE)++[41])
inductive Chn:PE→List PE→PE→Prop
 | base {x:PE}(h:¬(x.kind=6∨x.kind=7)):Chn x [] x
 | link {x:PE}{ls:List PE}{b:PE}(h:x.kind=6∨x.kind=7) (hr:Chn (x.parts[0]?.getD zPE) ls b):Chn x (x::ls) b
theorem Zh7:¬(zPE.kind=6∨zPE.kind=7):=by decide
theorem Znx:∀x:PE,∃ls b,Chn x ls b
 | .mk k a n m ns l ts=>by
  by_cases h:k=6∨k=7
  ·cases l with
   | nil=>exact⟨_,_,.link h (.base Zh7)⟩
   | cons t r=>
    obtain⟨ls,b,hc⟩:=Znx t;exact⟨_,_,.link h hc⟩
  ·exact⟨_,_,.base h⟩
termination_by x=>SizeOf.sizeOf x
decreasing_by simp_wf;omega
theorem ZiS{x:PE}{ls:List PE}{b:PE}(h:Chn x ls b):prE 2 x=prE 2 b++ls.reverse.flatMap lnk:=by
 induction h with
 | base h=>simp
 | @link x ls b h hr ih=>
  obtain⟨k,a,n,m,ns,l,ts⟩:=x;have e0:(l.map (prE 2)).headD []=prE 2 (l[0]?.getD zPE):=Zc1 2 (.inr rfl) l;have e1:(l.map (prE 0)).tail.headD []=prE 0 (l[1]?.getD zPE):=ZfK 0 (.inl rfl) l;have ih:prE 2 (l[0]?.getD zPE)=prE 2 b++ls.reverse.flatMap lnk:=ih;rw[List.reverse_cons,List.flatMap_append,←aA,←ih,ZaX];rcases h with h | h
  ·have h:k=6:=h;subst h;show (l.map (prE 2)).headD []++46::n=_;rw[e0];simp[lnk]
  ·have h:k=7:=h;subst h;show (l.map (prE 2)).headD []++40::((l.map (prE 0)).tail.headD []++[41])=_;rw[e0,e1];simp[lnk]
theorem ZkX (x:PE):1≤(lnk x).length:=by
 obtain⟨k,a,n,m,ns,l,ts⟩:=x;rw[lnk];split<;>simp
theorem ZkW:∀ls:List PE,ls.length≤(ls.flatMap lnk).length
 | []=>by simp
 | x::ls=>by
  have:=ZkW ls;have:=ZkX x;simp only[lC,List.flatMap_cons,lA];omega
theorem Zn6 (ls:List PE):(ls.reverse.flatMap lnk).length=(ls.flatMap lnk).length:=by
 induction ls with
 | nil=>rfl
 | cons x ls ih=>simp only[List.reverse_cons,List.flatMap_append,List.flatMap_cons,List.flatMap_nil,lA,lN] at ih⊢;omega
inductive NE:PE→Prop
 | mk {k a:Nat}{n:Bs}{m:Nat}{ns:List Bs}{l:List PE}{ts:List PT}(h1:k=1→m≤9223372036854775807) (h2:∀x∈l,NE x):NE (.mk k a n m ns l ts)
theorem ZkT:NE zPE:=.mk (by decide) (by simp)
theorem NE.part{x:PE}(h:NE x)(i:Nat):NE (x.parts[i]?.getD zPE):=by
 cases h with
 | @mk k a n m ns l ts h1 h2=>
  show NE (l[i]?.getD zPE);cases hl:l[i]? with
  | none=>exact ZkT
  | some t=>exact h2 t (List.mem_of_getElem? hl)
theorem ZkO{x:PE}(i:Nat)(hz:x.parts[i]?.getD zPE≠zPE):SizeOf.sizeOf (x.parts[i]?.getD zPE)<SizeOf.sizeOf x:=by
 obtain⟨k,a,n,m,ns,l,ts⟩:=x;have hl:(PE.mk k a n m ns l ts).parts=l:=rfl;rw[hl] at hz⊢;cases h:l[i]? with
 | none=>rw[h] at hz;exact absurd rfl hz
 | some t=>
  have:=List.sizeOf_lt_of_mem (List.mem_of_getElem? h);show SizeOf.sizeOf t<SizeOf.sizeOf (PE.mk k a n m ns l ts);simp only[PE.mk.sizeOf_spec];omega
theorem Zo9{Q:PE→Prop}{x:PE}{ls:List PE}{b:PE}(h:Chn x ls b)(hz:Q zPE)(hx:NE x):(∀y,SizeOf.sizeOf y<SizeOf.sizeOf x→NE y→Q y)→(x.kind=6∨x.kind=7)→Q b∧∀y∈ls,∀i:Nat,Q (y.parts[i]?.getD zPE):=by
 induction h with
 | base h=>intro _ hk;exact absurd hk h
 | @link x ls b h hr ih=>
  intro hs _;have hp:∀i:Nat,Q (x.parts[i]?.getD zPE):=fun i=>by
   by_cases e:x.parts[i]?.getD zPE=zPE
   ·rw[e];exact hz
   ·exact hs _ (ZkO i e) (hx.part i)
  by_cases hk:(x.parts[0]?.getD zPE).kind=6∨(x.parts[0]?.getD zPE).kind=7
  ·have hne:x.parts[0]?.getD zPE≠zPE:=by intro e;rw[e] at hk;exact Zh7 hk
   obtain⟨h1,h2⟩:=ih (hx.part 0) (fun y hy hn=>hs y (Nat.lt_trans hy (ZkO 0 hne)) hn) hk;refine⟨h1,fun y hy i=>?_⟩;rcases List.mem_cons.1 hy with rfl | hy
   ·exact hp i
   ·exact h2 y hy i
  ·cases hr with
   | base _=>
    refine⟨hp 0,fun y hy i=>?_⟩;rcases List.mem_cons.1 hy with rfl | hy
    ·exact hp i
    ·cases hy
   | link h' _=>exact absurd h' hk
open Go.RowKit Go.Shelf
attribute [local go_sem] Oper.semAt_some
structure Kb (W W':World):Prop where
 size:W.heap.size≤W'.heap.size
 own:∀(k:Nat) (c:Array Value) (t:TypeId) (fz:Nat×Nat),t=34∨t=36→W.heap[k]?=some (.cells c t fz)→W'.heap[k]?=some (.cells c t fz)
theorem Kb.refl (W:World):Kb W W:=⟨nl _,fun _ _ _ _ _ h=>h⟩
theorem Kb.trans{A B C:World}(h:Kb A B)(k:Kb B C):Kb A C:=⟨Nat.le_trans h.size k.size,fun i c t fz ht hi=>k.own i c t fz ht (h.own i c t fz ht hi)⟩
theorem Kb.of_below{W W':World}(h:Below W.heap.size W W'):Kb W W':=
 ⟨h.size,fun k _ _ _ _ hk=>(h.block k (gE hk).1).trans hk⟩
theorem Kb.put (W:World)(l:Nat)(o o':Obj)(h:W.heap[l]?=some o)(hc:o.isCells=false):Kb W (W.putObj l o'):=by
 refine⟨by simp[World.putObj],fun k c t fz _ hk=>?_⟩;have hne:k≠l:=by
  rintro rfl;rw[h] at hk;cases hk;simp[Obj.isCells] at hc
 exact (World.putObj_heap_other hne).trans hk
theorem Kb.row{W W':World}(h:Kb W W'){base size n:Nat}{v:Value}{xs:List Value}(hr:W.ownsRow base 36 size v n xs):W'.ownsRow base 36 size v n xs:=by
 refine⟨hr.1,?_⟩;rcases hr.2 with hn' | ⟨g,cap,cur,rfl,hb,hgg,rest⟩
 ·exact .inl hn'
 ·exact .inr ⟨g,cap,cur,rfl,hb,h.own g _ _ _ (.inr rfl) hgg,rest⟩
def elC (ys:List Value)(i:Nat):List Value:=(ys.drop (i*7)).take 7
def elV (ys:List Value)(i:Nat):Array Value:=#[.int .i64 i,.agg (elC ys i).toArray]
def ZdH (N:Nat):List (Fin N):=(List.finRange N).reverse
theorem Zhm (N:Nat):(ZdH N).length=N:=by simp[ZdH]
theorem Zm9 (N m:Nat)(h:m<N):(ZdH N)[N-(m+1)]?=some ⟨m,h⟩:=by
 unfold ZdH;rw[List.getElem?_reverse (by simp;omega)];simp only[List.length_finRange];rw[show N-1-(N-(m+1))=m by omega];simp[h]
theorem list7{l:List Value}(h:l.length=7):∃y0 y1 y2 y3 y4 y5 y6,l=[y0,y1,y2,y3,y4,y5,y6]:=by
 match l,h with
 | [y0,y1,y2,y3,y4,y5,y6],_=>exact⟨y0,y1,y2,y3,y4,y5,y6,rfl⟩
theorem el_at{ys:List Value}{N m:Nat}(hy:ys.length=N*7)(h:m<N):(elC ys m).length=7∧∀j,j<7→(elC ys m)[j]?=ys[m*7+j]?:=by
 unfold elC;refine⟨by simp;omega,fun j hj=>?_⟩;rw[List.getElem?_take,if_pos hj,List.getElem?_drop]
theorem Znd (n:Nat)(hn:1≤n)(l Bx base g cap N:Nat)(ys:List Value)(hmax:N≤1000000000)
  (J Jx:List (Fin N)→World→Prop)
  (hY:∀pre (x:Fin N) W,J pre W→pre.length<N→YieldAt Fence.wide (n-1) Tryz.prog l (elV ys x.1) W fun e W'=>
   (e=.returned (.bool true)∧J (pre++[x]) W'∧Kb W W')∨(e=.returned (.bool false)∧Jx (pre++[x]) W'))
  (W:World) (hBx:W.heap[Bx]?=some (.cells #[.slice (some ⟨g,0,none⟩) N cap] 34 (0,0))) (hrow:W.ownsRow base 36 7 (.slice (some ⟨g,0,none⟩) N cap) N ys) (h0:J [] W) :
  CallsIn Fence.wide n Tryz.prog 180 #[.func (.yield l) #[] #[],.pointer (some ⟨Bx,0,none⟩)] W fun e W'=>(∃v,e=.returned v)∧
   ((∃zs,zs=ZdH N∧J zs W')∨(∃pre,pre <+: ZdH N∧Jx pre W')):=by
 have hcb:=(Zak hBx).1;have HB:=Hd hBx;have HR:=Hd hrow;have HLY:=Hd hrow.1;clear hBx hrow;refine callsIn_of_wp Tryz.func180 rfl trivial ?_ rfl;simp only[Tryz.ntmps180,List.size_toArray,lC,lN,Nat.reduceAdd,Nat.reduceSub,Array.replicate_succ,Array.replicate_zero,List.push_toArray,List.append_toArray,List.nil_append,cA]
 gi_wp2_with fail
 gi_loopw [3] (fun s3 wr=>∃(m:Nat),s3=.int .i64 ((m:Int)-1)∧m≤N∧J ((ZdH N).take (N-m)) wr∧Kb W wr) (fun s3 _=>(intOf s3+1).toNat)
 case atStart=>exact⟨N,rfl,nl _,by simpa using h0,Kb.refl _⟩
 case round=>
  obtain⟨m,rfl,hm,hJm,hK⟩:=hrel;have hcb:=(Zak (hK.own Bx _ _ _ (.inl rfl) HB.out)).1;cases m with
  | zero=>
   have e:(((0:Nat):Int)-1)=-1:=rfl;rw[e];rw[Nat.sub_zero,List.take_of_length_le (by rw[Zhm];exact nl _)] at hJm
   gi_wp2_with fail
   go_end0
   exact⟨⟨_,rfl⟩,.inl ⟨_,rfl,hJm⟩⟩
  | succ m=>
   have e:(((m+1:Nat):Int)-1)=(m:Int):=by omega
   rw[e];have hmN:m<N:=by omega
   have htk:(ZdH N).take (N-m)=(ZdH N).take (N-(m+1))++[⟨m,hmN⟩]:=by
    have h1:=Zm9 N m hmN;rw[show N-m=(N-(m+1))+1 by omega,List.take_add_one,h1];rfl
   obtain⟨h7,hel⟩:=el_at HLY.out hmN;obtain⟨fn,tmps,assign,body,hy,hRR⟩:=hY _ ⟨m,hmN⟩ _ hJm (by rw[List.length_take,Zhm];omega);unfold elV at hy;obtain⟨y0,y1,y2,y3,y4,y5,y6,he⟩:=list7 h7;simp only[he] at hel hy;have hrow:=hK.row HR.out;have hc:∀j v,j<7→[y0,y1,y2,y3,y4,y5,y6][j]?=some v→wr.cell? ⟨g,m*7+j,none⟩=some v:=by
    intro j v hj hv;rw[World.ownsRow.cellAt hrow _ (by omega),←hel j hj];exact hv
   have c0:=hc 0 y0 (by decide) rfl;have c1:=hc 1 y1 (by decide) rfl;have c2:=hc 2 y2 (by decide) rfl;have c3:=hc 3 y3 (by decide) rfl;have c4:=hc 4 y4 (by decide) rfl;have c5:=hc 5 y5 (by decide) rfl;have c6:=hc 6 y6 (by decide) rfl;rw[aZ] at c0;have HRR:=Hd hRR;have HTK:=Hd htk;have HK:=Hd hK;have hlt:(m:Int)<(N:Int):=by omega
   clear hc hel h7 hrow htk hRR hK hJm he
   gi_wp2_with fail
   refine HRR.out.mono ?_;rintro e W3 (⟨rfl,hJ3,hk3⟩ | ⟨rfl,hJx3⟩)
   ·gi_wp2_with fail
    go_roundw
    case rel=>exact⟨m,rfl,by omega,by rw[HTK.out];exact hJ3,HK.out.trans hk3⟩
    case measure=>simp[intOf]
   ·gi_wp2
    refine bodyPost_ret (results_none rfl _ _ _) rfl ?_;exact⟨⟨_,rfl⟩,.inr ⟨_,by rw[←HTK.out];exact List.take_prefix _ _,hJx3⟩⟩
theorem Zpc (n:Nat)(a0:Option Addr)(k c:Nat)(w:World) :
  CallsIn Fence.wide n Tryz.prog 147 #[.slice a0 k c] w fun e w'=>e=.returned (.func (.func 180) #[] #[.pointer (some ⟨w.heap.size,0,none⟩)])∧w'=w.alloc (.cells #[.slice a0 k c] 34):=by
 refine callsIn_of_wp Tryz.func147 rfl trivial ?_ rfl;simp only[Tryz.ntmps147,List.size_toArray,lC,lN,Nat.reduceAdd,Nat.reduceSub,Array.replicate_succ,Array.replicate_zero,List.push_toArray,List.append_toArray,List.nil_append,cA]
 gi_wp2
 go_ret
 exact⟨rfl,rfl⟩
theorem ZjF (n:Nat)(hn:1≤n)(Bx base g cap N:Nat)(ys:List Value)(hmax:N≤1000000000)(w:World)(hBx:w.heap[Bx]?=some (.cells #[.slice (some ⟨g,0,none⟩) N cap] 34 (0,0)))(hrow:w.ownsRow base 36 7 (.slice (some ⟨g,0,none⟩) N cap) N ys) :
  SeqStopsK Fence.wide n Tryz.prog 180 #[.pointer (some ⟨Bx,0,none⟩)] (fun x:Fin N=>elV ys x.1) Kb (fun zs=>zs=ZdH N) (fun pre=>pre <+: ZdH N) N w:=
 fun l J Jx W hW _ _ hY h0=>
 Znd n hn l Bx base g cap N ys hmax J Jx hY W ((hW.block _ (gE hBx).1).trans hBx) (ZaM hrow hW) h0
theorem Zh1{A:Nat→Prop}{w:World}:∀{l:List PE}{ys:List Value},IsCs A w (Zaw 26 36 l) ys→∀{i:Nat}{t:PE},l[i]?=some t→IsCs A w (encE 26 36 t) (elC ys i)
 | [],ys,h,i,t,hi=>by simp at hi
 | x::r,ys,h,i,t,hi=>by
  rw[Zaw] at h;obtain⟨a,b,rfl,h1,h2⟩:=IsCs.split _ _ _ h;have hl:=IsCs.length _ _ h1;rw[ZaB] at hl;cases i with
  | zero=>
   obtain rfl:x=t:=by simpa using hi
   unfold elC;rw[Nat.zero_mul,List.drop_zero,←hl,List.take_left];exact h1
  | succ i=>
   have h3:=Zh1 h2 (i:=i) (t:=t) (by simpa using hi);unfold elC at h3⊢;rw[show (i+1)*7=a.length+i*7 by omega,List.drop_append,List.drop_eq_nil_of_le (Nat.le_add_right _ _),Nat.add_sub_cancel_left,List.nil_append];exact h3
variable {S : Nat}
attribute [local go_sem] Oper.semAt_some
mutual
theorem IsC.alike{m:Nat}{w w':World}(hk:∀k,k<m→w'.heap[k]?=w.heap[k]?):∀(d:Dt) (v:Value),IsC (fun k=>k<m) w d v→IsC (fun k=>k<m) w' d v
 | .num n,v,h=>by simpa only[IsC] using h
 | .str s,v,h=>by simpa only[IsC] using h
 | .row e size n l,v,h=>by
  simp only[IsC] at h⊢;obtain⟨xs,h1,h2,h3,h4⟩:=h;refine⟨xs,h1,⟨h2.1,?_⟩,h3,IsCs.alike hk l xs h4⟩;rcases h2.2 with hn' | ⟨g,cap,cur,rfl,hb,hgg,rest⟩
  ·exact .inl hn'
  ·exact .inr ⟨g,cap,cur,rfl,hb,(hk g (h3 g rfl)).trans hgg,rest⟩
theorem IsCs.alike{m:Nat}{w w':World}(hk:∀k,k<m→w'.heap[k]?=w.heap[k]?):∀(l:List Dt) (xs:List Value),IsCs (fun k=>k<m) w l xs→IsCs (fun k=>k<m) w' l xs
 | [],xs,h=>by simpa only[IsCs] using h
 | d::r,xs,h=>by
  simp only[IsCs] at h⊢;obtain⟨x,ys,h1,h2,h3⟩:=h;exact⟨x,ys,h1,IsC.alike hk d x h2,IsCs.alike hk r ys h3⟩
end
def slen:Value→Nat | .slice _ n _=>n | _=>0
theorem Zm0{A:Nat→Prop}{w:World}{k a:Nat}{n:Bs}{m:Nat}{ns:List Bs}{l:List PE}{ts:List PT}{v0 v1 v2 v3 v4 v5 v6:Value}(h:IsCs A w (encE 26 36 (.mk k a n m ns l ts)) [v0,v1,v2,v3,v4,v5,v6]):IsC A w (.row 36 7 l.length (Zaw 26 36 l)) v5:=by
 obtain⟨a4,c4,a5,c5,a6,c6,he,h4,h5,h6⟩:=ZbU h;simp only[List.cons.injEq] at he;rw[he.2.2.2.2.2.1];exact h5
theorem Zo8{x:PE}{ls:List PE}{b:PE}(h:Chn x ls b)(hk:¬(x.kind=6∨x.kind=7)):ls=[]∧x=b:=by
 cases h with
 | base _=>exact⟨rfl,rfl⟩
 | link h' _=>exact absurd h' hk
theorem Zgq{x:PE}{ls:List PE}{b:PE}(h:Chn x ls b)(hk:x.kind=6∨x.kind=7):∃r,ls=x::r∧Chn (x.parts[0]?.getD zPE) r b:=by
 cases h with
 | base h'=>exact absurd hk h'
 | link _ hr=>exact⟨_,rfl,hr⟩
structure Gat (w:World)(b:Nat)(LS:List PE)(bb:PE)(s4:Value)(wr:World)(ls:List PE)(cur:PE)(cs ys:List Value):Prop where
 chn:∃r,Chn cur r bb∧LS=ls++r
 bx:wr.heap[w.heap.size]?=some (.cells #[.pointer (some ⟨b,0,none⟩)] 170 (0,0))
 by':wr.heap[w.heap.size+1]?=some (.cells cs.toArray 36 (0,0))
 cur:IsCs (fun k=>k<w.heap.size) w (encE 26 36 cur) cs
 bl:Below w.heap.size w wr
 row:wr.ownsRow (w.heap.size+2) 36 7 s4 ls.length ys
 all:IsCs (fun k=>k<w.heap.size) w (Zaw 26 36 ls) ys
theorem Zmy{S':Nat}(y:PE)(HE:∀p,(p∈y.parts∨p=zPE)→(prE 0 p).length+2≤(lnk y).length→ExOk S' p)(A:Nat→Prop)(cs:List Value) :
  PrtE S' 148 (fun b=>#[.pointer (some ⟨b,0,none⟩),.agg cs.toArray]) (lnk y) (fun B w=>IsCs A w (encE 26 36 y) cs∧Tab B w):=by
 obtain⟨k,a,n,m,ns,l,ts⟩:=y;by_cases h6:k=6
 ·have e:lnk (.mk k a n m ns l ts)=[46]++n:=by rw[lnk,if_pos h6];rfl
  rw[e];exact Zjo k a n m ns l ts h6 A cs
 ·have e:lnk (.mk k a n m ns l ts)=[40]++(prE 0 (l[1]?.getD zPE)++[41]):=by rw[lnk,if_neg h6];rfl
  have hl:(prE 0 (l[1]?.getD zPE)).length+2=(lnk (.mk k a n m ns l ts)).length:=by
   rw[e];simp only[lA,lC,lN];omega
  rw[e];exact ZkZ (L:=(prE 0 (l[1]?.getD zPE)).length+1) k a n m ns l ts (fun p hp h=>HE p hp (by omega)) (Nat.lt_succ_self _) h6 A cs
theorem ZgW{B b:Nat}{W W':World}{bs:Bs}{row:Option Nat}(h:Pst B W b bs)(hg:W.grownBy W' row)(hr:∀r,row=some r→∃o:Obj,W.heap[r]?=some o∧o.isCells=false):Pst B W' b bs:=by
 obtain⟨hB,p,v,hp,hb,hrow,hn,h0⟩:=h;refine⟨hB,p,v,hp,Zcd hb hg hr,⟨hrow.1,?_⟩,hn,h0⟩;rcases hrow.2 with e | ⟨g,cap,cur,fz,hv,hbg,hgg,rest⟩
 ·exact .inl e
 ·exact .inr ⟨g,cap,cur,fz,hv,hbg,Zcd hgg hg hr,rest⟩
theorem ZiP{B b:Nat}{w W W':World}{row:Option Nat}(h:Fb B b w W)(hg:W.grownBy W' row)(hr:∀r,row=some r→w.heap.size≤r)(hB:B≤w.heap.size):Fb B b w W':=by
 refine⟨h.1.grown hg (Nat.le_trans hB h.1.size) (fun k e=>Nat.le_trans hB (hr k e)),fun k o hk hb ho=>?_⟩;have h1:=h.2 k o hk hb ho;have h2:=(gE hk).1;exact (hg.block k (gE h1).1 (fun e=>by have:=hr k e.symm;omega)).trans h1
theorem Kb.of_fb{B b:Nat}{W W':World}{bs:Bs}(h:Fb B b W W')(hp:Pst B W b bs):Kb W W':=by
 refine⟨h.1.size,fun k c t fz ht hk=>h.2 k _ hk ?_ ?_⟩
 ·intro e;obtain⟨-,p,v,-,hb,-⟩:=hp;obtain rfl:k=b:=Option.some.inj e;rw[hb] at hk;cases hk;rcases ht with e | e<;>exact absurd e (by decide)
 ·intro c' fz' e;cases e;rcases ht with e | e<;>exact absurd e (by decide)
theorem ZmE{B b:Nat}{W W':World}{bs:Bs}(h:Fb B b W W')(hp:Pst B W b bs)(B0:Nat):KeepsFrom B0 W W':=by
 refine⟨h.1.size,fun k o _ hk ho=>h.2 k o hk ?_ ?_⟩
 ·intro e;obtain⟨-,p,v,-,hb,-⟩:=hp;obtain rfl:k=b:=Option.some.inj e;rw[hb] at hk;cases hk;cases ho
 ·rintro c fz rfl;cases ho
def RI (B b:Nat)(bs t0:Bs)(M:Nat)(ls:List PE)(w:World)(px:Value)(pre:List (Fin ls.length))(W:World):Prop:=
 ∃T:Bs,T.length≤t0.length+pre.length*M∧Pst B W b (bs++T)∧Fb B b w W∧W.heap[w.heap.size]?=some (.cells #[px] 170 (0,0))∧(pre <+: ZdH ls.length→T=t0++pre.flatMap (fun i=>lnk (ls[i.1]?.getD zPE)))
theorem Znk{B b:Nat}{bs t0:Bs}{M:Nat}{ls:List PE}{w:World}{px:Value}{B0:Nat}(hB0:w.heap.size≤B0)(hB:B≤w.heap.size):OwnFrom B0 (RI B b bs t0 M ls w px):=
 fun _ _ _ _ ⟨T,h1,h2,h3,h4,h5⟩ hg hr=>⟨T,h1,ZgW h2 hg (fun r e=>(hr r e).2),ZiP h3 hg (fun r e=>Nat.le_trans hB0 (hr r e).1) hB,Zcd h4 hg (fun r e=>(hr r e).2),h5⟩
theorem Zn5{B b:Nat}{bs t0:Bs}{M:Nat}{ls:List PE}{w:World}{px:Value}{B0:Nat}{pre:List (Fin ls.length)}{x:Fin ls.length}{W W':World}{T:Bs}{Ix:Code→List (Fin ls.length)→World→Prop}{a':Act}
  (h1:T.length≤t0.length+pre.length*M) (h2:Pst B W b (bs++T)) (h3:Fb B b w W) (h4:W.heap[w.heap.size]?=some (.cells #[px] 170 (0,0))) (h5:pre <+: ZdH ls.length→T=t0++pre.flatMap (fun i=>lnk (ls[i.1]?.getD zPE)))
  (hbw:b<w.heap.size) (hM:(lnk (ls[x.1]?.getD zPE)).length≤M) (hF:Fb B b W W') (hP:Pst B W' b ((bs++T)++lnk (ls[x.1]?.getD zPE))) :
  ownPostG B0 Kb (RI B b bs t0 M ls w px) Ix (pre++[x]) W .normal a' W':=by
 refine⟨ZmE hF h2 _,Kb.of_fb hF h2,T++lnk (ls[x.1]?.getD zPE),?_,?_,h3.trans hF,hF.2 _ _ h4 (fun e=>by have:=Option.some.inj e;omega) (fun c fz e=>by cases e),?_⟩
 ·rw[lA,lA,List.length_singleton,Nat.add_mul,Nat.one_mul];omega
 ·rw[←aA];exact hP
 ·intro h;rw[h5 ((List.prefix_append pre [x]).trans h),List.flatMap_append,aA];simp
theorem Zpb (ls:List PE):(ZdH ls.length).flatMap (fun i=>lnk (ls[i.1]?.getD zPE))=ls.reverse.flatMap lnk:=by
 have h:(List.finRange ls.length).map (fun i:Fin ls.length=>ls[i.1]?.getD zPE)=ls:=by
  apply List.ext_getElem
  ·simp
  ·intro i h1 h2;simp
 unfold ZdH
 conv=>rhs;rw[←h]
 rw[←List.map_reverse,List.flatMap_map]
theorem ZlA{S' M:Nat}(k a:Nat)(n:Bs)(m:Nat)(ns:List Bs)(l:List PE)(ts:List PT)(LS:List PE)(bb:PE)(hk0:k=6∨k=7)(hch:Chn (.mk k a n m ns l ts) LS bb)(HB:ExOk S bb)(HL:∀y∈LS,∀p,(p∈y.parts∨p=zPE)→(prE 0 p).length+2≤(lnk y).length→ExOk S' p)(hM:∀y∈LS,(lnk y).length≤M)(hS:S'+LS.length*M≤S)(hNq:LS.length*LS.length≤S)(A:Nat→Prop)(cs:List Value) :
  PrtE S 110 (fun b=>#[.pointer (some ⟨b,0,none⟩),.agg cs.toArray]) (prE 2 (.mk k a n m ns l ts)) (fun B w=>IsCs A w (encE 26 36 (.mk k a n m ns l ts)) cs∧Tab B w):=by
 intro B b bs w hP hD hlen;obtain⟨hC,hTab⟩:=hD;rw[ZiS hch] at hlen⊢;have HLS:=Hd (show LS.length≤1000000000 by
  rcases Nat.lt_or_ge 1000000000 LS.length with h | h
  ·have h1:1000000000*1000000000≤LS.length*LS.length:=Nat.mul_le_mul (Nat.le_of_lt h) (Nat.le_of_lt h);omega
  ·exact h)
 have HNE:=Hd (show LS≠[] by
  obtain⟨r,e,-⟩:=Zgq hch hk0;rw[e];simp)
 have HSM:=Hd hS;have HMM:=Hd hM;have HLEN:=Hd hlen;obtain⟨i0,hi,hz0,hz1,hz2⟩:=info_parts Znr;have HP:=Hd hP;have HTB:=Hd hTab;have HBB:=Hd HB;have HLL:=Hd HL;have hC0:=hC.mono (A':=fun k=>k<w.heap.size) (fun k hk _=>hk);have HC0:=Hd hC0;have HCH:=Hd hch;obtain⟨x,hx⟩:=eX (PE.mk k a n m ns l ts);rw[←hx] at HC0 HCH;obtain⟨tk,ta,tn,tm,a4,n4,c4,a5,n5,c5,a6,n6,c6,rfl⟩:=ZaT hC;obtain⟨W1,hW1⟩:=eY ((w.alloc (.cells #[.pointer (some ⟨b,0,none⟩)] 170)).alloc (.cells #[.int .i64 tk,.int .i64 ta,.string tn,.int .i64 tm,.slice a4 n4 c4,.slice a5 n5 c5,.slice a6 n6 c6] 36));have hA0:W1.heap[w.heap.size]?=some (.cells #[.pointer (some ⟨b,0,none⟩)] 170 (0,0)):=by rw[←hW1];exact Zab (hN w _) _
 have hA1:W1.heap[w.heap.size+1]?=some (.cells #[.int .i64 tk,.int .i64 ta,.string tn,.int .i64 tm,.slice a4 n4 c4,.slice a5 n5 c5,.slice a6 n6 c6] 36 (0,0)):=by
  rw[←hW1];have:=hN (w.alloc (.cells #[.pointer (some ⟨b,0,none⟩)] 170)) (.cells #[.int .i64 tk,.int .i64 ta,.string tn,.int .i64 tm,.slice a4 n4 c4,.slice a5 n5 c5,.slice a6 n6 c6] 36)
  simpa using this
 have hB1:Below w.heap.size w W1:=by rw[←hW1];exact ((Below.refl _ w).alloc (nl _) _).alloc (by simp) _
 have G1:Hid (Gat w b LS bb (.slice none 0 0) W1 [] x [.int .i64 tk,.int .i64 ta,.string tn,.int .i64 tm,.slice a4 n4 c4,.slice a5 n5 c5,.slice a6 n6 c6] []):=
  ⟨⟨LS,HCH.out,rfl⟩,hA0,hA1,HC0.out,hB1,World.ownsRow_nil _ _ _ _,by simp only[Zaw];exact IsCs.nil _ _⟩
 rw[←callsIn_wide (n:=5)];refine callsIn_of_wp_marks Tryz.func110 rfl trivial ?_ rfl;simp only[Tryz.ntmps110,List.size_toArray,lC,lN,Nat.reduceAdd,Nat.reduceSub,Array.replicate_succ,Array.replicate_zero,List.push_toArray,List.append_toArray,List.nil_append,cA];clear hC hC0 hch hx hA0 hA1 hB1 hP hTab hlen HB HL hk0 hM hS hNq
 gi_wp2_with fail
 clear hW1;refine wpIn_wide.2 ?_;go_loopw [4] (fun s4 wr=>∃(ls:List PE) (cur:PE) (cs ys:List Value),Hid (Gat w b LS bb s4 wr ls cur cs ys)) (fun s4 _=>LS.length-slen s4)
 case atStart=>exact⟨_,_,_,_,G1⟩
 case round=>
  obtain⟨ls,cur,cs,ys,hG⟩:=hrel;obtain⟨a0,c0,rfl⟩:=Zag hG.out.row;obtain⟨r,hr,hLS⟩:=hG.out.chn;obtain⟨k1,a1,n1,m1,ns1,l1,ts1⟩:=cur;obtain⟨x4,y4,x5,y5,x6,y6,rfl,-,k5,-⟩:=ZbU hG.out.cur;have hby:=hG.out.by'
  obtain⟨⟨q0,q1,q2,q3,q4,q5,q6⟩,-⟩:=Zai (t:=36) hby
  have K5:=Hd (k5.below hG.out.bl);by_cases hk:k1=6∨k1=7
  ·obtain⟨r',hr',hn⟩:=Zgq hr hk;have HLS':=Hd (show LS=(ls++[.mk k1 a1 n1 m1 ns1 l1 ts1])++r' by rw[hLS,hr'];simp);have HN:=Hd hn;have hlen2:ls.length+1≤LS.length:=by rw[HLS'.out];simp
   have HL2:=Hd hlen2;have hmx:ls.length+1≤maxLen:=by have:=HLS.out;unfold maxLen;omega
   have hmb:(ls.length+1)*112≤140737488355328:=by have:=HLS.out;omega
   have R4:=Hd (hG.out.row.alloc (.cells #[.int .i64 k1,.int .i64 a1,.string ⟨n1.toArray⟩,.int .i64 m1,.slice x4 ns1.length y4,.slice x5 l1.length y5,.slice x6 ts1.length y6] 36));have HNB:=Hd (World.news_of_block (hN wr (.cells #[.int .i64 k1,.int .i64 a1,.string ⟨n1.toArray⟩,.int .i64 m1,.slice x4 ns1.length y4,.slice x5 l1.length y5,.slice x6 ts1.length y6] 36)));have HONE:=Hd (show ∀u∈([.int .i64 k1,.int .i64 a1,.string ⟨n1.toArray⟩,.int .i64 m1,.slice x4 ns1.length y4,.slice x5 l1.length y5,.slice x6 ts1.length y6]:List Value),u.oneCell'=true by simp[Value.oneCell']);have HBS:=Hd (show w.heap.size+2≤(wr.alloc (.cells #[.int .i64 k1,.int .i64 a1,.string ⟨n1.toArray⟩,.int .i64 m1,.slice x4 ns1.length y4,.slice x5 l1.length y5,.slice x6 ts1.length y6] 36)).heap.size from by
    have:=(gE hG.out.by').1;simp;omega)
   have hkk:((k1:Int)==6)=true∨(((k1:Int)==6)=false∧((k1:Int)==7)=true):=by
    rcases hk with rfl | rfl
    ·exact .inl rfl
    ·exact .inr ⟨rfl,rfl⟩
   have HK:=Hd hk;clear hr hLS hr' hn hby k5 hk hlen2;rcases hkk with e6 | ⟨e6,e7⟩
   all_goals
    go_upto_region 4 with (first | (at_builtin;refine wpList_append_lies _ rfl (.tmp 15) (.tmp 17) 34 rfl (w.heap.size+2) 36 i0 _ 7 112 Tryz.underlying34 hi hz0 hz1 hz2 rfl (by decide) (.slice a0 ls.length c0) ls.length ys rfl R4.out ⟨wr.heap.size,0,none⟩ 1 1 [.int .i64 k1,.int .i64 a1,.string ⟨n1.toArray⟩,.int .i64 m1,.slice x4 ns1.length y4,.slice x5 l1.length y5,.slice x6 ts1.length y6] rfl rfl HNB.out HONE.out (by decide) hmx hmb HBS.out (wr.heap.size+1) (World.size_alloc _ _) ?_;intro g4 cap4 w4 hown4 hg4 hat4 hlt4))
    have hO4:∀b',(Value.slice a0 ls.length c0).ownBlock=some b'→w.heap.size+2≤b':=fun b' hb'=>(R4.out.lt b' hb').1
    have hB4:Below w.heap.size w w4:=Zh5 (hG.out.bl.alloc hG.out.bl.size _) hg4 (fun b' hb'=>by have:=hO4 b' hb';omega);have hx4:=Za5 (Zab hG.out.bx _) hg4 (fun e=>by have:=hO4 _ e.symm;omega);have hy4:=Za5 (Zab hG.out.by' _) hg4 (fun e=>by have:=hO4 _ e.symm;omega);have HB4:=Hd hB4;have HX4:=Hd hx4;have HY4:=Hd hy4;have HO4:=Hd hown4;obtain⟨⟨u0,u1,u2,u3,u4,u5,u6⟩,-⟩:=Zai (t:=36) hy4;have hP5:=Zby l1 0 (fun k=>k<w.heap.size) w4 _ ((Zm0 hG.out.cur).below hB4) (by decide);have HP5:=Hd hP5;clear hO4 hB4 hx4 hy4 hown4 hg4 hat4 hlt4 hP5 q0 q1 q2 q3 q4 q5 q6;go_wp2_with fail
    refine HP5.out.mono ?_;rintro e w5 ⟨cs5,rfl,b5,i5⟩;obtain⟨tk5,ta5,tn5,tm5,a45,n45,c45,a55,n55,c55,a65,n65,c65,rfl⟩:=ZaT i5;have hlx:w.heap.size<w4.heap.size:=(gE HX4.out).1;have hly:w.heap.size+1<w4.heap.size:=(gE HY4.out).1;have hx5:=(b5.block _ hlx).trans HX4.out;have hy5:=(b5.block _ hly).trans HY4.out;have HTH:=Hd (Zaf hy5 rfl);have HB5:=Hd (HB4.out.trans (b5.mono HB4.out.size));have HX5:=Hd hx5;have HY5:=Hd hy5;have HR5:=Hd (ZaM HO4.out b5);have HC5:=Hd (IsCs.alike (m:=w.heap.size) (w:=w5) (w':=w) (fun k hk=>(HB5.out.block k hk).symm) _ _ i5);clear hlx hly hx5 hy5 b5 i5 u0 u1 u2 u3 u4 u5 u6;go_wp2_with (first | (refine Zaa rfl 36 (.tmp 3) (.tmp 21) rfl (w.heap.size+1) _ rfl rfl HTH.out Zbi (all_oneCell_toArray (by simp[Value.oneCell'])) ?_;intro W9 hW9))
    have e9:W9=putL w5 (w.heap.size+1) [.int .i64 tk5,.int .i64 ta5,.string tn5,.int .i64 tm5,.slice a45 n45 c45,.slice a55 n55 c55,.slice a65 n65 c65]:=hW9.out;have hrow:=Zbc (S:=fun i=>i=w.heap.size+1) HR5.out (w':=W9) (by rw[e9];exact Nat.le_of_eq (ZaW _ _ _ _).2.2.2.symm) (fun i _ hne=>by rw[e9];exact ZaS _ _ 0 _ _ hne) (fun b' hb' e=>by have:=(HR5.out.lt b' hb').1;omega);have hall:=IsCs.append _ _ _ _ hG.out.all hG.out.cur;refine⟨⟨ls++[.mk k1 a1 n1 m1 ns1 l1 ts1],l1[0]?.getD zPE,_,ys++[.int .i64 k1,.int .i64 a1,.string ⟨n1.toArray⟩,.int .i64 m1,.slice x4 ns1.length y4,.slice x5 l1.length y5,.slice x6 ts1.length y6],Hd ⟨⟨r',HN.out,HLS'.out⟩,?_,?_,HC5.out,?_,?_,?_⟩⟩,?_⟩
    ·rw[e9];exact (ZaS _ _ 0 _ _ (by omega)).trans HX5.out
    ·rw[e9];exact Zam (vs:=[.int .i64 tk5,.int .i64 ta5,.string tn5,.int .i64 tm5,.slice a45 n45 c45,.slice a55 n55 c55,.slice a65 n65 c65]) HY5.out rfl
    ·rw[e9];exact Below.putL HB5.out (by omega) _
    ·rw[lA,List.length_singleton];exact hrow
    ·rw[Zde,Zaw,Zaw,List.append_nil];exact hall
    ·have:=HL2.out;simp only[slen];omega
  ·obtain⟨hr0,hcb⟩:=Zo8 hr hk;have e6:((k1:Int)==6)=false:=bF (by omega);have e7:((k1:Int)==7)=false:=bF (by omega);obtain⟨g,rfl⟩:∃g,a0=some ⟨g,0,none⟩:=by
    rcases hG.out.row.2 with ⟨_,e⟩ | ⟨g,cap,cur,e,-⟩
    ·exact absurd (List.eq_nil_of_length_eq_zero e) (by rw[hr0,List.append_nil] at hLS;rw[←hLS];exact HNE.out)
    ·injection e with e1 _ _;exact⟨g,e1⟩
   subst hcb;subst hr0;rw[List.append_nil] at hLS;subst hLS;clear hk hr k5 K5;have hbx:=(Zak hG.out.bx).1;have FW:Hid (Fb B b w wr):=Fb.of_below HP.out.hi hG.out.bl;have PW:Hid (Pst B wr b bs):=HP.out.below hG.out.bl;have HCW:=Hd (hG.out.cur.below hG.out.bl);have HTW:=Hd (HTB.out.fb FW.out);have HE52:=Hd (HBB.out 2 (.inr rfl) _ _ B b bs wr PW.out ⟨HCW.out,HTW.out⟩ (by have:=HLEN.out;rw[lA] at this;omega));have hf52:Fence.wide.fn 62:=trivial;go_wp2_with fail
   gi_wp2_with fail
   refine (callsIn_wide.2 HE52.out).mono ?_;rintro e w5 ⟨rfl,F5,P5⟩;have HF5:=Hd F5;have HP5:=Hd P5;clear F5 P5 q0 q1 q2 q3 q4 q5 q6 hbx hby
   have hff:Fence.wide.fn 147:=trivial
   gi_wp2_with (gi_at_call 147;refine (Zpc _ _ _ _ _).mono ?_;rintro e w' ⟨rfl,rfl⟩)
   have hB0:Kb wr w5:=Kb.of_fb HF5.out PW.out;obtain⟨W0,hW0⟩:=eY (w5.alloc (.cells #[.slice (some ⟨g,0,none⟩) LS.length c0] 34));have hX0:W0.heap[w5.heap.size]?=some (.cells #[.slice (some ⟨g,0,none⟩) LS.length c0] 34 (0,0)):=by rw[←hW0];exact hN w5 _
   have hR0:W0.ownsRow (w.heap.size+2) 36 7 (.slice (some ⟨g,0,none⟩) LS.length c0) LS.length ys:=by rw[←hW0];exact (hB0.row hG.out.row).alloc _
   have hP0:Pst B W0 b (bs++prE 2 (.mk k1 a1 n1 m1 ns1 l1 ts1)):=by rw[←hW0];exact HP5.out.alloc _
   have hF0:Fb B b w W0:=by rw[←hW0];exact (FW.out.trans HF5.out).alloc HP.out.hi _
   have hbx0:W0.heap[w.heap.size]?=some (.cells #[.pointer (some ⟨b,0,none⟩)] 170 (0,0)):=by
    rw[←hW0];exact Zab (HF5.out.2 _ _ hG.out.bx (fun e=>by have:=HP.out.lt;have:=Option.some.inj e;omega) (fun c fz e=>by cases e)) _
   have HALL:=Hd hG.out.all;have HX0:=Hd hX0;have HR0:=Hd hR0;have HY7:=Hd hR0.1;have hsz:w.heap.size<W0.heap.size:=(gE hbx0).1;obtain⟨t0,ht0⟩:=eX (prE 2 (.mk k1 a1 n1 m1 ns1 l1 ts1));rw[←ht0] at hP0 HLEN;have HT0:=Hd ht0;rw[hW0];have HI0:Hid (RI B b bs t0 M LS w (.pointer (some ⟨b,0,none⟩)) [] W0):=⟨t0,by simp,hP0,hF0,hbx0,fun _=>by simp⟩;have hf113:Fence.wide.fn 148:=trivial;clear hX0 hR0 hP0 hF0 hbx0 hB0 hW0 ht0;refine wpIn_rangeFunc_ownH rfl (by omega) (gf:=180) (lb:=#[.pointer (some ⟨w5.heap.size,0,none⟩)]) rfl trivial (enters_of Tryz.func180 (by kernel_rfl) rfl)
    (ZjF 4 (by omega) w5.heap.size _ g c0 LS.length ys HLS.out W0 HX0.out HR0.out) (fun h k=>Kb.trans h k) (fun W l o o' _ h2 h3 _=>Kb.put W l o o' h2 h3) (Below.refl _ _) (fun _=>rfl)
    (RI B b bs t0 M LS w (.pointer (some ⟨b,0,none⟩)))
    (fun _ _ _=>False)
    (Znk (Nat.le_of_lt hsz) HP.out.hi)
    (fun _ _ _ _ _ hs _ _=>hs)
    HI0.out
    (fun x a' W=>∃b6,a'={ tmps:=#[.pointer (some ⟨b,0,none⟩),.agg #[.int .i64 tk,.int .i64 ta,.string tn,.int .i64 tm,.slice a4 n4 c4,.slice a5 n5 c5,.slice a6 n6 c6],.pointer (some ⟨w.heap.size,0,none⟩),.pointer (some ⟨w.heap.size+1,0,none⟩),.slice (some ⟨g,0,none⟩) LS.length c0,undef,.pointer (some ⟨b6,0,none⟩),.pointer (some ⟨w.heap.size+1,0,none⟩),.int .i64 k1,.bool false,.bool false,.pointer (some ⟨w.heap.size+1,0,none⟩),.int .i64 k1,.bool false,.bool false,u15,u16,u17,u18,u19,u20,u21,.pointer (some ⟨b,0,none⟩),.agg #[.int .i64 k1,.int .i64 a1,.string ⟨n1.toArray⟩,.int .i64 m1,.slice x4 ns1.length y4,.slice x5 l1.length y5,.slice x6 ts1.length y6],.tuple #[],.slice (some ⟨g,0,none⟩) LS.length c0,.func (.func 180) #[] #[.pointer (some ⟨w5.heap.size,0,none⟩)],.int .i64 x.1,.agg (elC ys x.1).toArray,undef,undef,undef],defers:=[] }∧W.heap[b6]?=some (.cells (elC ys x.1).toArray 36 (0,0)))
    (fun x a'=>Own.from (fun _ A B row ⟨b6,h1,h2⟩ hg hr=>⟨b6,h1,Zcd h2 hg hr⟩) _)
    ?assign ?body ?done ?stop
   case assign=>
    rintro l pre x W K ⟨T,i1,i2,i3,i4,i5⟩ hK;obtain⟨y,hy⟩:∃y,LS[x.1]?=some y:=⟨_,List.getElem?_eq_getElem x.2⟩;obtain⟨zk,za,zn,zm,z4,v4,e4,z5,v5,e5,z6,v6,e6,he⟩:=ZaT (Zh1 HALL.out hy);have hBa:Below W.heap.size W (W.alloc (.cells #[.int .i64 zk,.int .i64 za,.string zn,.int .i64 zm,.slice z4 v4 e4,.slice z5 v5 e5,.slice z6 v6 e6] 36)):=(Below.refl _ _).alloc (nl _) _;have hIa:=(Znk (B0:=W0.heap.size) (Nat.le_of_lt hsz) HP.out.hi).alloc (s:=pre) (.cells #[.int .i64 zk,.int .i64 za,.string zn,.int .i64 zm,.slice z4 v4 e4,.slice z5 v5 e5,.slice z6 v6 e6] 36) ⟨T,i1,i2,i3,i4,i5⟩;have HIa:=Hd hIa;have HBa:=Hd hBa;simp only[elV,he];clear hi hz0 hz1 hz2 hIa hBa i1 i2 i3 i4 i5 hy
    gi_wp2
    refine hK _ _ ⟨HBa.out.size,fun k o _ hk _=>Zab hk _⟩ (Kb.of_below HBa.out) HIa.out ⟨W.heap.size,?_,?_⟩
    ·rw[he]
    ·rw[he];exact hN W _
   case body=>
    rintro l pre x a' W hl hrec ⟨T,i1,i2,i3,i4,i5⟩ ⟨b6,rfl,h6⟩ hlen;obtain⟨y0,yy1,yy2,yy3,yy4,yy5,yy6,he⟩:=list7 (el_at HY7.out x.2).1;obtain⟨y,hy⟩:∃y,LS[x.1]?=some y:=⟨_,List.getElem?_eq_getElem x.2⟩;have hmem:=List.mem_of_getElem? hy;have hyz:LS[x.1]?.getD zPE=y:=by rw[hy];rfl
    have hd:=IsCs.fb HP.out i3 _ _ (nb_E _) (Zh1 HALL.out hy);have hMl:=HMM.out y hmem;have hmul:pre.length*M+M≤LS.length*M:=by rw[←Nat.succ_mul];exact Nat.mul_le_mul_right M hlen
    have HC113:=Hd (Zmy y (HLL.out y hmem) _ _ B b (bs++T) W i2 ⟨hd,HTB.out.fb i3⟩ (by
     have h1:=HLEN.out;have h2:=HSM.out;rw[lA] at h1⊢;omega))
    rw[he] at h6 HC113;have HEQ:=Hd (fun (a':Act) (W':World) (h1:Fb B b W W') (h2:Pst B W' b ((bs++T)++lnk y))=>Zn5 (B0:=W0.heap.size) (Ix:=fun _ _ _=>False) (x:=x) (W:=W) (a':=a') (W':=W') i1 i2 i3 i4 i5 HP.out.lt (by rw[hyz];exact hMl) h1 (by rw[hyz];exact h2));obtain⟨⟨q0,q1,q2,q3,q4,q5,q6⟩,-⟩:=Zai (t:=36) h6;have hbx:=(Zak i4).1;simp only[he];clear hd hMl hmul hmem hyz hy h6 i1 i2 i3 i4 i5 hlen
    gi_wp2_with fail
    refine (CallsIn.inRound l (callsIn_wide.2 HC113.out)).mono ?_;rintro e W2 ⟨rfl,F2,P2⟩
    gi_wp2_with fail
    exact HEQ.out _ _ F2 P2
   case done=>
    rintro D zs W hD rfl ⟨T,i1,i2,i3,i4,i5⟩ hK;have hT:=i5 (List.prefix_refl _);rw[Zpb] at hT
    gi_wp2
    refine⟨by simp,.inl ⟨_,_,rfl,run_takeDeferred hK,?_⟩⟩;refine⟨_,results_none rfl _ _ _,rfl,ZiP i3 (grownBy_putObj' W D _) (fun r e=>by cases e;omega) HP.out.hi,?_⟩;rw[←HT0.out,←hT];exact ZgW i2 (grownBy_putObj' W D _) (fun r e=>by cases e;exact⟨_,hK,rfl⟩)
   case stop=>
    rintro D c pre W _ _ h _;exact h.elim
theorem Zfm{a b:Nat}(h:a≤b):a*a≤b*b:=Nat.mul_le_mul h h
theorem Zl2{M N x:Nat}(h:M+N≤x+1):M*M+N*M≤(x+2)*(x+2):=by
 have h1:(M+N)*(M+N)≤(x+2)*(x+2):=Zfm (by omega);have h2:(M+N)*(M+N)=M*M+M*N+(N*M+N*N):=by rw[Nat.add_mul,Nat.mul_add,Nat.mul_add]
 omega
theorem prE_02 (x:PE):(prE 0 x).length≤(prE 2 x).length:=by
 obtain⟨k,a,n,m,ns,l,ts⟩:=x;rw[ZaX,ZaX,ZbO,if_neg (Nat.not_lt_zero _),ZbO];split<;>simp
 omega
theorem ZkY:∀ls:List PE,ls≠[]→∃M,(∀y∈ls,(lnk y).length≤M)∧M+ls.length≤(ls.flatMap lnk).length+1
 | [],h=>absurd rfl h
 | [y],_=>⟨(lnk y).length,by simp,by simp⟩
 | y::z::r,_=>by
  obtain⟨M,h1,h2⟩:=ZkY (z::r) (by simp);have hz:=ZkW (z::r);have hy:=ZkX y;rcases Nat.le_total M (lnk y).length with h | h
  ·refine⟨(lnk y).length,fun u hu=>?_,?_⟩
   ·rcases List.mem_cons.1 hu with rfl | hu
    ·exact nl _
    ·exact Nat.le_trans (h1 u hu) h
   ·rw[List.flatMap_cons,lA,lC];omega
  ·refine⟨M,fun u hu=>?_,?_⟩
   ·rcases List.mem_cons.1 hu with rfl | hu
    ·exact h
    ·exact h1 u hu
   ·rw[List.flatMap_cons,lA,lC];omega
def Qx (x:PE):Prop:=∀S:Nat,((prE 0 x).length+2)*((prE 0 x).length+2)≤S→ExOk S x
theorem Zkt:Qx zPE:=by
 intro S _;refine Zlm 0 0 [] 0 [] [] [] (by decide) ?_ (fun hk=>by omega);intro p _ hlen;exact absurd hlen (by rw[show prE 0 (.mk 0 0 [] 0 [] [] [])=[] by rw[ZaX];rfl];exact Nat.not_lt_zero _)
theorem Zku{x:PE}(hx:NE x)(ih:∀y,SizeOf.sizeOf y<SizeOf.sizeOf x→NE y→Qx y):Qx x:=by
 intro S hS;obtain⟨ls,bb,hch⟩:=Znx x;obtain⟨k,a,n,m,ns,l,ts⟩:=x;cases hx with
 | mk h1 h2=>
  refine Zlm k a n m ns l ts h1 ?_ ?_
  ·rintro p (hp | rfl) hlen
   ·refine ih p ?_ (h2 p hp) S (Nat.le_trans (Zfm (by omega)) hS);have:=List.sizeOf_lt_of_mem hp;simp only[PE.mk.sizeOf_spec];omega
   ·exact Zkt S (Nat.le_trans (Zfm (by omega)) hS)
  ·intro hk A cs;have hzz:Qx zPE:=Zkt;have hne:ls≠[]:=by
    obtain⟨r,e,-⟩:=Zgq hch hk;rw[e];simp
   obtain⟨hb,hp⟩:=Zo9 (Q:=Qx) hch hzz (.mk h1 h2) ih hk;obtain⟨M,hM,hMN⟩:=ZkY ls hne;have ht:=ZiS hch;have hl:(prE 2 (.mk k a n m ns l ts)).length=(prE 2 bb).length+(ls.flatMap lnk).length:=by
    rw[ht,lA,Zn6]
   have h02:(prE 0 (.mk k a n m ns l ts)).length=(prE 2 (.mk k a n m ns l ts)).length:=by
    rw[ZaX,ZaX,ZbO,if_neg (Nat.not_lt_zero _),ZbO,if_neg];rcases hk with rfl | rfl<;>decide
   have hbl:=prE_02 bb;rw[h02] at hS;refine ZlA (S':=M*M) (M:=M) k a n m ns l ts ls bb hk hch (hb S (Nat.le_trans (Zfm (by omega)) hS)) ?_ hM ?_ ?_ A cs
   ·intro y hy p hpp hlen;have hm:=hM y hy;have hq:Qx p:=by
     rcases hpp with hpp | rfl
     ·obtain⟨i,hi,rfl⟩:=List.getElem_of_mem hpp;have:=hp y hy i
      simpa[List.getElem?_eq_getElem hi] using this
     ·exact hzz
    exact hq _ (Zfm (by omega))
   ·exact Nat.le_trans (Zl2 (by omega)) hS
   ·exact Nat.le_trans (Zfm (by omega)) hS
theorem Znl:∀(N:Nat) (x:PE),SizeOf.sizeOf x≤N→NE x→Qx x
 | 0,x,h,hx=>Zku hx fun y hy _=>by omega
 | N+1,x,h,hx=>Zku hx fun y hy hn=>Znl N y (by omega) hn
theorem Znv{S:Nat}(x:PE)(hx:NE x)(hS:((prE 0 x).length+2)*((prE 0 x).length+2)≤S):ExOk S x:=Znl _ x (nl _) hx S hS
end Go.Proofs.YtijnjoonbjdafaaGreatDoor

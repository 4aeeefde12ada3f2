import Derived.Test.YtijnjoonbjdafaaGreatDoorXpM
namespace Go.Proofs.YtijnjoonbjdafaaGreatDoor
set_option maxHeartbeats 20000000
set_option maxRecDepth 100000
open Go.RowKit
theorem Zfy (t:PT)(A:Nat→Prop)(cs:List Value)(w:World)(hC:IsCs A w (encT 26 t) cs)(hlen:(prT 0 t).length≤100000000000000) :
  Calls Tryz.prog 24 #[.agg cs.toArray] w fun e w'=>e=.returned (.string ⟨(prT 0 t).toArray⟩)∧Below w.heap.size w w':=by
 obtain⟨txt,htxt⟩:=eX (prT 0 t);have HTY:=Hd (Zft t 0 (by decide) A cs);rw[←htxt] at hlen HTY⊢;obtain⟨k,n,ns,l⟩:=t;have HC:=Hd hC;obtain⟨a2,c2,a3,c3,rfl,-,-⟩:=Zdr hC;obtain⟨W1,hW1⟩:=eY (w.alloc (.cells #[.int .i64 k,.string ⟨n.toArray⟩,.slice a2 ns.length c2,.slice a3 l.length c3] 26));obtain⟨W2,hW2⟩:=eY (W1.alloc (.cells #[.pointer none,.slice none 0 0] 120));have hA1:W1.heap[w.heap.size]?=some (.cells #[.int .i64 k,.string ⟨n.toArray⟩,.slice a2 ns.length c2,.slice a3 l.length c3] 26 (0,0)):=by rw[←hW1];exact hN w _
 have hA2:W2.heap[w.heap.size]?=some (.cells #[.int .i64 k,.string ⟨n.toArray⟩,.slice a2 ns.length c2,.slice a3 l.length c3] 26 (0,0)):=by rw[←hW2];exact Zab hA1 _
 have B1:=Hd (show Below w.heap.size w W1 by rw[←hW1];exact (Below.refl _ w).alloc (nl _) _);have S1:=Hd (show W1.heap.size=w.heap.size+1 by rw[←hW1];simp);have B2:=Hd (show Below W1.heap.size W1 W2 by rw[←hW2];exact (Below.refl _ _).alloc (nl _) _);have P2:=Hd (show Pst W1.heap.size W2 W1.heap.size [] by rw[←hW2];exact Pst.fresh W1);have hIC:=IsCs.below HC.out (B1.out.trans (B2.out.mono (by have:=S1.out;omega)));have HT:=Hd (HTY.out W1.heap.size W1.heap.size [] W2 P2.out hIC (by have:=hlen;simp only[lN];omega));obtain⟨⟨q0,q1,q2,q3⟩,-⟩:=Zae (t:=26) hA2;have H1:=Hd hW1;have H2:=Hd hW2;clear hC hA1 hA2 hIC HTY htxt hlen hW1 hW2;go_enter Tryz.func24,Tryz.ntmps24
 go_upto_region 1 with fail
 rw[H1.out];go_upto_region 2 with fail
 rw[H2.out];go_wp2_with fail
 refine HT.out.mono ?_;rintro e W3 ⟨rfl,f3,p3⟩;have F3:=Hd f3;have HS:=Hd (Zdj p3);clear f3 p3;go_wp2_with fail
 refine HS.out.mono ?_;rintro e W4 ⟨rfl,b4⟩;have B4:=Hd b4;clear b4;go_wp2_with fail
 go_ret
 refine⟨by simp,?_⟩;have hs:w.heap.size≤W1.heap.size:=by have:=S1.out;omega
 exact ((B1.out.trans (B2.out.mono hs)).trans (F3.out.1.mono hs)).trans (B4.out.mono hs)
theorem ne_num{m:Nat}(h:(dig m).length≤18):m≤9223372036854775807:=by
 have h1:=ZiB (dig m) (fun c hc=>by
  have:=ZfR m c hc;simp only[ZaD,Bool.and_eq_true,decide_eq_true_eq] at this
  simpa[UInt8.le_iff_toNat_le] using this)
 rw[Zg2] at h1;have h2:10 ^ (dig m).length≤10 ^ 18:=Nat.pow_le_pow_right (by decide) h;have h3:(10:Nat) ^ 18=1000000000000000000:=by decide
 omega
theorem ve_ne{x:PE}(h:VE x):NE x:=by
 induction h with
 | mk h0 h4 h1 h2 h5 h3 ih=>exact .mk (fun hk=>ne_num (h0 hk)) ih
theorem Zo2{ts:List Tk}(ho:Oks ts){d:PD}{r:List Tk}{x:List Dn}(h:ZbI ts=.ok d r x):∀e∈d.es,VE e:=by
 unfold ZbI at h;split at h
 next hm=>
  obtain⟨nm,r1,_,_,e1,h⟩:=R.bind_ok_inv h;obtain⟨_,r2,_,_,e2,h⟩:=R.bind_ok_inv h;cases h;simp
 split at h
 next hm=>
  obtain⟨nm,r1,_,_,e1,h⟩:=R.bind_ok_inv h;obtain⟨_,r2,_,_,e2,h⟩:=R.bind_ok_inv h;obtain⟨t,r3,_,_,e3,h⟩:=R.bind_ok_inv h;obtain⟨_,r4,_,_,e4,h⟩:=R.bind_ok_inv h;cases h;simp
 obtain⟨_,r0,_,_,e0,h⟩:=R.bind_ok_inv h;obtain⟨p0,-⟩:=ZaR e0 ho;obtain⟨nm,r1,_,_,e1,h⟩:=R.bind_ok_inv h;obtain⟨-,p1,-⟩:=ZcF e1 p0;split at h
 next hm=>
  obtain⟨q1,-⟩:=Zbd hm p1;obtain⟨t,r2,_,_,e2,h⟩:=R.bind_ok_inv h;obtain⟨-,p2,-⟩:=(ZjI 64).1 _ q1 _ _ _ e2;obtain⟨_,r3,_,_,e3,h⟩:=R.bind_ok_inv h;obtain⟨p3,-⟩:=ZaR e3 p2;obtain⟨e,r4,_,_,e4,h⟩:=R.bind_ok_inv h;obtain⟨a4,-⟩:=ZjJ 64 _ p3 _ _ _ e4;obtain⟨_,r5,_,_,e5,h⟩:=R.bind_ok_inv h;cases h;intro y hy;rw[List.mem_singleton.1 hy];exact a4
 ·obtain⟨_,r3,_,_,e3,h⟩:=R.bind_ok_inv h;obtain⟨p3,-⟩:=ZaR e3 p1;obtain⟨e,r4,_,_,e4,h⟩:=R.bind_ok_inv h;obtain⟨a4,-⟩:=ZjJ 64 _ p3 _ _ _ e4;obtain⟨_,r5,_,_,e5,h⟩:=R.bind_ok_inv h;cases h;intro y hy;rw[List.mem_singleton.1 hy];exact a4
theorem Zf8:∀(n:Nat) (ts:List Tk),Oks ts→∀d∈(ZaO n ts).1,∀e∈d.es,VE e
 | 0,ts,_=>by simp[ZaO]
 | n+1,ts,ho=>by
  by_cases hk:(hd ts).k=6
  ·rw[Ze1 hk];simp
  ·rw[Zct hk];cases h:ZbI ts with
   | ok d r e=>
    obtain⟨-,o,-⟩:=Zlv ho h;intro x hx;rcases List.mem_cons.1 hx with rfl | hx
    ·exact Zo2 ho h
    ·exact Zf8 n r o x hx
   | bad y r e=>
    obtain⟨p,hp,-⟩:=(Zdg ts).2 y r e h;obtain⟨q,hq⟩:=ZdC r;have o:Oks (Za4 r):=Zdp (p:=q) (by rw[←hq];exact Zdp (p:=p) (by rw[←hp];exact ho));exact Zf8 n (Za4 r) o
structure ND (d:PD):Prop where
 kind:d.k=1∨d.k=2∨d.k=3
 es:∀e∈d.es,NE e
theorem all_nd (s:Bs):∀d∈(Zbt s).1,ND d:=fun d hd=>
 ⟨((Znz s).1 d hd).kind,fun e he=>ve_ne (Zf8 _ _ (Zen s) d hd e he)⟩
theorem Tab.up{B B':Nat}{w:World}(h:Tab B w)(hB:B≤B'):Tab B' w:=fun w' hb=>h w' (hb.mono hB)
theorem Zjf (x:PE)(hx:NE x)(A:Nat→Prop)(cs:List Value)(w:World)(hC:IsCs A w (encE 26 36 x) cs)(hT:Tab w.heap.size w)(hlen:(prE 0 x).length≤1000000) :
  Calls Tryz.prog 26 #[.agg cs.toArray] w fun e w'=>e=.returned (.string ⟨(prE 0 x).toArray⟩)∧Below w.heap.size w w':=by
 obtain⟨txt,htxt⟩:=eX (prE 0 x);have HTY:=Hd (Znv (S:=10000000000000) x hx (by
  have:=Zfm (a:=(prE 0 x).length+2) (b:=1000002) (by omega);omega) 0 (.inl rfl) A cs)
 rw[←htxt] at hlen HTY⊢;obtain⟨k,a,n,m,ns,l,ts⟩:=x;have HC:=Hd hC;obtain⟨a4,c4,a5,c5,a6,c6,rfl,-,-,-⟩:=ZbU hC;obtain⟨W1,hW1⟩:=eY (w.alloc (.cells #[.int .i64 k,.int .i64 a,.string ⟨n.toArray⟩,.int .i64 m,.slice a4 ns.length c4,.slice a5 l.length c5,.slice a6 ts.length c6] 36));obtain⟨W2,hW2⟩:=eY (W1.alloc (.cells #[.pointer none,.slice none 0 0] 120));have hA1:W1.heap[w.heap.size]?=some (.cells #[.int .i64 k,.int .i64 a,.string ⟨n.toArray⟩,.int .i64 m,.slice a4 ns.length c4,.slice a5 l.length c5,.slice a6 ts.length c6] 36 (0,0)):=by rw[←hW1];exact hN w _
 have hA2:W2.heap[w.heap.size]?=some (.cells #[.int .i64 k,.int .i64 a,.string ⟨n.toArray⟩,.int .i64 m,.slice a4 ns.length c4,.slice a5 l.length c5,.slice a6 ts.length c6] 36 (0,0)):=by rw[←hW2];exact Zab hA1 _
 have B1:=Hd (show Below w.heap.size w W1 by rw[←hW1];exact (Below.refl _ w).alloc (nl _) _);have S1:=Hd (show W1.heap.size=w.heap.size+1 by rw[←hW1];simp);have B2:=Hd (show Below W1.heap.size W1 W2 by rw[←hW2];exact (Below.refl _ _).alloc (nl _) _);have P2:=Hd (show Pst W1.heap.size W2 W1.heap.size [] by rw[←hW2];exact Pst.fresh W1);have hb12:=B1.out.trans (B2.out.mono (by have:=S1.out;omega));have hIC:=IsCs.below HC.out hb12;have hTB:Tab W1.heap.size W2:=Tab.up (B:=w.heap.size) (hT.on hb12) (by have:=S1.out;omega);have HT:=Hd (HTY.out W1.heap.size W1.heap.size [] W2 P2.out ⟨hIC,hTB⟩ (by have:=hlen;simp only[lN];omega));obtain⟨⟨q0,q1,q2,q3,q4,q5,q6⟩,-⟩:=Zai (t:=36) hA2;have H1:=Hd hW1;have H2:=Hd hW2;clear hC hA1 hA2 hIC HTY htxt hlen hW1 hW2 hT hTB hb12 hx;go_enter Tryz.func26,Tryz.ntmps26
 go_upto_region 1 with fail
 rw[H1.out];go_upto_region 2 with fail
 rw[H2.out];go_wp2_with fail
 refine HT.out.mono ?_;rintro e W3 ⟨rfl,f3,p3⟩;have F3:=Hd f3;have HS:=Hd (Zdj p3);clear f3 p3;go_wp2_with fail
 refine HS.out.mono ?_;rintro e W4 ⟨rfl,b4⟩;have B4:=Hd b4;clear b4;go_wp2_with fail
 go_ret
 refine⟨by simp,?_⟩;have hs:w.heap.size≤W1.heap.size:=by have:=S1.out;omega
 exact ((B1.out.trans (B2.out.mono hs)).trans (F3.out.1.mono hs)).trans (B4.out.mono hs)
variable {S : Nat}
theorem ZcY{A:Nat→Prop}{w:World}{k a:Nat}{n:Bs}{ts:List PT}{es:List PE}{cs:List Value}(h:IsCs A w (encD 26 36 ⟨k,a,n,ts,es⟩) cs):∃a3 c3 a4 c4,cs=[.int .i64 k,.int .i64 a,.string ⟨n.toArray⟩,.slice a3 ts.length c3,.slice a4 es.length c4]∧IsC A w (.row 26 4 ts.length (Zau 26 ts)) (.slice a3 ts.length c3)∧IsC A w (.row 36 7 es.length (Zaw 26 36 es)) (.slice a4 es.length c4):=by
 obtain⟨v3,v4,rfl,k3,k4⟩:=Zm1 h;obtain⟨_,r3,-,-⟩:=k3.unrow;obtain⟨a3,c3,rfl⟩:=Zag r3;obtain⟨_,r4,-,-⟩:=k4.unrow;obtain⟨a4,c4,rfl⟩:=Zag r4;exact⟨a3,c3,a4,c4,rfl,k3,k4⟩
theorem ZmB (k a:Nat)(n:Bs)(es:List PE)(hE:ExOk S (es[0]?.getD zPE))(A:Nat→Prop)(cs:List Value) :
  PrtE S 102 (fun b=>#[.pointer (some ⟨b,0,none⟩),.agg cs.toArray]) (([108,101,116,32]++n)++([32,61,32]++prE 0 (es[0]?.getD zPE))) (fun B w=>IsCs A w (encD 26 36 ⟨k,a,n,[],es⟩) cs∧Tab B w):=by
 intro B b bs w hP hD hlen;obtain⟨hC,hT⟩:=hD;obtain⟨e0,he0⟩:=eX (es[0]?.getD zPE);rw[←he0] at hlen hE⊢;have HQ0:=Hd he0;have HE0:=Hd hE;clear he0 hE;obtain⟨a3,c3,a4,c4,rfl,k3,k4⟩:=ZcY hC;have K4:=Hd k4;have HP:=Hd hP;have HTB:=Hd hT;have HLEN:=Hd hlen;obtain⟨W1,hW1⟩:=eY (w.alloc (.cells #[.int .i64 k,.int .i64 a,.string ⟨n.toArray⟩,.slice a3 0 c3,.slice a4 es.length c4] 61));have hA1:W1.heap[w.heap.size]?=some (.cells #[.int .i64 k,.int .i64 a,.string ⟨n.toArray⟩,.slice a3 0 c3,.slice a4 es.length c4] 61 (0,0)):=by rw[←hW1];exact hN w _
 have P1:Hid (Pst B W1 b bs):=by rw[←hW1];exact hP.alloc _
 have F1:Hid (Fb B b w W1):=by rw[←hW1];exact (Fb.refl B b w).alloc hP.hi _
 have G1:=Hd (Fb.refl B b W1);have HNB:Hid (∀e:some w.heap.size=some b,False):=by
  intro e;have:=HP.out.lt;have:=Option.some.inj e;omega
 obtain⟨⟨q0,q1,q2,q3,q4⟩,-⟩:=Zat (t:=61) hA1;have HA1:=Hd hA1;have HW1:=Hd hW1;clear hC hT k3 k4 hA1 hP hlen hW1;go_enter Tryz.func102,Tryz.ntmps102
 go_upto_region 1 with fail
 rw[HW1.out];have HS:=Hd (say2 P1.out [108,101,116,32] n (by have:=HLEN.out;simp only[lA,lC,lN] at this⊢;omega));go_wp2_with fail
 refine HS.out.mono ?_;rintro e W2 ⟨rfl,fx,px⟩;have P2:=Hd px;have G2:=Hd (G1.out.trans fx);clear fx px HS;clear q0 q1 q2 q3 q4;obtain⟨⟨q0,q1,q2,q3,q4⟩,-⟩:=Zat (t:=61) (G2.out.2 _ _ HA1.out (fun e=>HNB.out e) (fun c fz e=>by cases e));have HS:=Hd (say1 P2.out [32,61,32] (by have:=HLEN.out;simp only[lA,lC,lN] at this⊢;omega));go_wp2_with fail
 refine HS.out.mono ?_;rintro e W5 ⟨rfl,fx,px⟩;have P5:=Hd px;have G5:=Hd (G2.out.trans fx);clear fx px HS;clear q0 q1 q2 q3 q4;obtain⟨⟨q0,q1,q2,q3,q4⟩,-⟩:=Zat (t:=61) (G5.out.2 _ _ HA1.out (fun e=>HNB.out e) (fun c fz e=>by cases e));have HQ:=Hd (Zby es 0 A W5 _ (IsC.fb HP.out (F1.out.trans G5.out) _ _ (by simp[nb,Zdv]) K4.out) (by decide));rw[←HQ0.out] at HQ;go_wp2_with fail
 refine HQ.out.mono ?_;rintro e W6 ⟨csx,rfl,bx,ix⟩;have P6:=Hd (P5.out.below bx);have G6:=Hd (G5.out.then_below bx P5.out);have HS:Hid (Calls Tryz.prog 62 #[.pointer (some ⟨b,0,none⟩),.agg csx.toArray,.int .i64 0] W6 fun e w'=>e=.returned (.tuple #[])∧Fb B b W6 w'∧Pst B w' b (((bs++([108,101,116,32]++n))++[32,61,32])++prE 0 e0)):=
  HE0.out 0 (.inl rfl) A csx B b _ W6 P6.out ⟨ix,HTB.out.fb (F1.out.trans G6.out)⟩ (by have:=HLEN.out;simp only[lA,lC,lN] at this⊢;omega)
 clear bx ix HQ;go_wp2_with fail
 refine HS.out.mono ?_;rintro e W7 ⟨rfl,fx,px⟩;have P7:=Hd px;have G7:=Hd (G6.out.trans fx);clear fx px HS;clear q0 q1 q2 q3 q4;go_wp2_with fail
 go_end0
 exact⟨rfl,F1.out.trans G7.out,by simpa only[aA,cA,List.nil_append] using P7.out⟩
theorem ZmA (k a:Nat)(n:Bs)(t0:PT)(tr:List PT)(es:List PE)(hE:ExOk S (es[0]?.getD zPE))(A:Nat→Prop)(cs:List Value) :
  PrtE S 102 (fun b=>#[.pointer (some ⟨b,0,none⟩),.agg cs.toArray]) (([108,101,116,32]++n)++([32,58,32]++(prT 0 t0++([32,61,32]++prE 0 (es[0]?.getD zPE))))) (fun B w=>IsCs A w (encD 26 36 ⟨k,a,n,t0::tr,es⟩) cs∧Tab B w):=by
 intro B b bs w hP hD hlen;obtain⟨hC,hT⟩:=hD;obtain⟨e0,he0⟩:=eX (es[0]?.getD zPE);rw[←he0] at hlen hE⊢;have HQ0:=Hd he0;have HE0:=Hd hE;clear he0 hE;obtain⟨a3,c3,a4,c4,rfl,k3,k4⟩:=ZcY hC;have hget:(t0::tr)[0]?=some t0:=rfl;obtain⟨ts,hts⟩:=eX (t0::tr);have hpos:0<ts.length:=by rw[hts];simp
 rw[←hts] at k3 hget⊢;have HGET:=Hd hget;clear hts hget;obtain⟨nt,hnt⟩:=eX (ts.length);rw[←hnt] at k3 hpos⊢;have hd1:decide ((nt:Int) > 0)=true:=by simp;omega
 have hd2:decide ((0:Int)<(nt:Int))=true:=by simp;omega
 have hd3:decide (0<nt)=true:=by simp;omega
 have HNT:=Hd hnt;obtain⟨g,c3',xs,hv,-,-,-,-⟩:=ZeU k3 (by omega);cases hv;have K3:=Hd k3;have K4:=Hd k4;have HP:=Hd hP;have HTB:=Hd hT;have HLEN:=Hd hlen;obtain⟨W1,hW1⟩:=eY (w.alloc (.cells #[.int .i64 k,.int .i64 a,.string ⟨n.toArray⟩,.slice (some ⟨g,0,none⟩) nt c3,.slice a4 es.length c4] 61));have hA1:W1.heap[w.heap.size]?=some (.cells #[.int .i64 k,.int .i64 a,.string ⟨n.toArray⟩,.slice (some ⟨g,0,none⟩) nt c3,.slice a4 es.length c4] 61 (0,0)):=by rw[←hW1];exact hN w _
 have P1:Hid (Pst B W1 b bs):=by rw[←hW1];exact hP.alloc _
 have F1:Hid (Fb B b w W1):=by rw[←hW1];exact (Fb.refl B b w).alloc hP.hi _
 have G1:=Hd (Fb.refl B b W1);have HNB:Hid (∀e:some w.heap.size=some b,False):=by
  intro e;have:=HP.out.lt;have:=Option.some.inj e;omega
 obtain⟨⟨q0,q1,q2,q3,q4⟩,-⟩:=Zat (t:=61) hA1;have HA1:=Hd hA1;have HW1:=Hd hW1;have HPOS:=Hd hpos;clear hC hT k3 k4 hA1 hP hlen hW1 hnt hpos;go_enter Tryz.func102,Tryz.ntmps102
 go_upto_region 1 with fail
 rw[HW1.out];have HS:=Hd (say2 P1.out [108,101,116,32] n (by have:=HLEN.out;simp only[lA,lC,lN] at this⊢;omega));go_wp2_with fail
 refine HS.out.mono ?_;rintro e W2 ⟨rfl,fx,px⟩;have P2:=Hd px;have G2:=Hd (G1.out.trans fx);clear fx px HS;clear q0 q1 q2 q3 q4;obtain⟨⟨q0,q1,q2,q3,q4⟩,-⟩:=Zat (t:=61) (G2.out.2 _ _ HA1.out (fun e=>HNB.out e) (fun c fz e=>by cases e));have HS:=Hd (say1 P2.out [32,58,32] (by have:=HLEN.out;simp only[lA,lC,lN] at this⊢;omega));go_wp2_with fail
 refine HS.out.mono ?_;rintro e W3 ⟨rfl,fx,px⟩;have P3:=Hd px;have G3:=Hd (G2.out.trans fx);clear fx px HS;clear q0 q1 q2 q3 q4;obtain⟨⟨q0,q1,q2,q3,q4⟩,-⟩:=Zat (t:=61) (G3.out.2 _ _ HA1.out (fun e=>HNB.out e) (fun c fz e=>by cases e));obtain⟨g',c',xs',hv,-,hg',hcs,hcell⟩:=ZeU (IsC.fb HP.out (F1.out.trans G3.out) _ _ (by simp[nb,Zdu]) K3.out) (by have:=HPOS.out;omega);cases hv;rw[ZaE] at hcs;obtain⟨cst,ict,hat⟩:=IsCs.at (Zas 26) ts 0 t0 xs' hcs HGET.out;obtain⟨x0,x1,x2,x3,rfl⟩:=four ict;have hcell':∀j x,j<4→([x0,x1,x2,x3]:List Value)[j]?=some x→W3.cell? ⟨g,j,none⟩=some x:=fun j x hj hx=>by
  have h1:=hat j x hx;rw[Nat.zero_mul,Nat.zero_add] at h1;exact hcell j x (by have:=HPOS.out;omega) h1
 have z0:=hcell' 0 _ (by decide) rfl;have z1:=hcell' 1 _ (by decide) rfl;have z2:=hcell' 2 _ (by decide) rfl;have z3:=hcell' 3 _ (by decide) rfl;have HS:Hid (Calls Tryz.prog 61 #[.pointer (some ⟨b,0,none⟩),.agg #[x0,x1,x2,x3],.int .i64 0] W3 fun e w'=>e=.returned (.tuple #[])∧Fb B b W3 w'∧Pst B w' b (((bs++([108,101,116,32]++n))++[32,58,32])++prT 0 t0)):=
  Zft t0 0 (by decide) A [x0,x1,x2,x3] B b _ W3 P3.out ict (by have:=HLEN.out;simp only[lA,lC,lN] at this⊢;omega)
 clear hcell hcell' hcs hat ict hg';go_wp2_with fail
 refine HS.out.mono ?_;rintro e W4 ⟨rfl,fx,px⟩;have P4:=Hd px;have G4:=Hd (G3.out.trans fx);clear fx px HS;clear q0 q1 q2 q3 q4 z0 z1 z2 z3;have HS:=Hd (say1 P4.out [32,61,32] (by have:=HLEN.out;simp only[lA,lC,lN] at this⊢;omega));go_wp2_with fail
 refine HS.out.mono ?_;rintro e W5 ⟨rfl,fx,px⟩;have P5:=Hd px;have G5:=Hd (G4.out.trans fx);clear fx px HS;obtain⟨⟨q0,q1,q2,q3,q4⟩,-⟩:=Zat (t:=61) (G5.out.2 _ _ HA1.out (fun e=>HNB.out e) (fun c fz e=>by cases e));have HQ:=Hd (Zby es 0 A W5 _ (IsC.fb HP.out (F1.out.trans G5.out) _ _ (by simp[nb,Zdv]) K4.out) (by decide));rw[←HQ0.out] at HQ;go_wp2_with fail
 refine HQ.out.mono ?_;rintro e W6 ⟨csx,rfl,bx,ix⟩;have P6:=Hd (P5.out.below bx);have G6:=Hd (G5.out.then_below bx P5.out);have HS:Hid (Calls Tryz.prog 62 #[.pointer (some ⟨b,0,none⟩),.agg csx.toArray,.int .i64 0] W6 fun e w'=>e=.returned (.tuple #[])∧Fb B b W6 w'∧Pst B w' b (((((bs++([108,101,116,32]++n))++[32,58,32])++prT 0 t0)++[32,61,32])++prE 0 e0)):=
  HE0.out 0 (.inl rfl) A csx B b _ W6 P6.out ⟨ix,HTB.out.fb (F1.out.trans G6.out)⟩ (by have:=HLEN.out;simp only[lA,lC,lN] at this⊢;omega)
 clear bx ix HQ;go_wp2_with fail
 refine HS.out.mono ?_;rintro e W7 ⟨rfl,fx,px⟩;have P7:=Hd px;have G7:=Hd (G6.out.trans fx);clear fx px HS;clear q0 q1 q2 q3 q4;go_wp2_with fail
 go_end0
 exact⟨rfl,F1.out.trans G7.out,by simpa only[aA,cA,List.nil_append] using P7.out⟩
theorem Zmz (d:PD)(hk:d.k=3)(hE:ExOk S (d.es[0]?.getD zPE))(A:Nat→Prop)(cs:List Value) :
  PrtE S 102 (fun b=>#[.pointer (some ⟨b,0,none⟩),.agg cs.toArray]) (hdD d) (fun B w=>IsCs A w (encD 26 36 d) cs∧Tab B w):=by
 obtain⟨k,a,n,ts,es⟩:=d;have hk:k=3:=hk;subst hk;have e0:(es.map (prE 0)).headD []=prE 0 (es[0]?.getD zPE):=Zc1 0 (.inl rfl) es;cases ts with
 | nil=>
  have e:hdD ⟨3,a,n,[],es⟩=([108,101,116,32]++n)++([32,61,32]++prE 0 (es[0]?.getD zPE)):=by
   rw[←e0];simp[hdD]
  rw[e];exact ZmB 3 a n es hE A cs
 | cons t0 tr=>
  have e:hdD ⟨3,a,n,t0::tr,es⟩=([108,101,116,32]++n)++([32,58,32]++(prT 0 t0++([32,61,32]++prE 0 (es[0]?.getD zPE)))):=by
   rw[←e0];simp[hdD]
  rw[e];exact ZmA 3 a n t0 tr es hE A cs
variable {S : Nat}
def DcOk (S:Nat)(d:PD):Prop:=∀(A:Nat→Prop) (cs:List Value),PrtE S 59 (fun b=>#[.pointer (some ⟨b,0,none⟩),.agg cs.toArray]) (prD d) (fun B w=>IsCs A w (encD 26 36 d) cs∧Tab B w)
theorem ZmY (a:Nat)(n:Bs)(ts:List PT)(es:List PE):DcOk S ⟨1,a,n,ts,es⟩:=by
 intro A cs B b bs w hP hD hlen;obtain⟨hC,hT⟩:=hD;have he:prD ⟨1,a,n,ts,es⟩=([117,115,101,32]++n)++[59,10]:=by simp[prD,hdD]
 rw[he] at hlen⊢;obtain⟨a3,c3,a4,c4,rfl,k3,k4⟩:=ZcY hC;have HP:=Hd hP;have HLEN:=Hd hlen;obtain⟨W1,hW1⟩:=eY (w.alloc (.cells #[.int .i64 1,.int .i64 a,.string ⟨n.toArray⟩,.slice a3 ts.length c3,.slice a4 es.length c4] 61));have hA1:W1.heap[w.heap.size]?=some (.cells #[.int .i64 1,.int .i64 a,.string ⟨n.toArray⟩,.slice a3 ts.length c3,.slice a4 es.length c4] 61 (0,0)):=by rw[←hW1];exact hN w _
 have P1:Hid (Pst B W1 b bs):=by rw[←hW1];exact hP.alloc _
 have F1:Hid (Fb B b w W1):=by rw[←hW1];exact (Fb.refl B b w).alloc hP.hi _
 have G1:=Hd (Fb.refl B b W1);obtain⟨⟨q0,q1,q2,q3,q4⟩,-⟩:=Zat (t:=61) hA1;have HW1:=Hd hW1;clear hC hT k3 k4 hA1 hP hlen hW1 he;go_enter Tryz.func59,Tryz.ntmps59
 go_upto_region 1 with fail
 rw[HW1.out];have HS:=Hd (say2 P1.out [117,115,101,32] n (by have:=HLEN.out;simp only[lA,lC,lN] at this⊢;omega));go_wp2_with fail
 refine HS.out.mono ?_;rintro e W2 ⟨rfl,fx,px⟩;have P2:=Hd px;have G2:=Hd (G1.out.trans fx);clear fx px HS;clear q0 q1 q2 q3 q4;have HS:=Hd (say1 P2.out [59,10] (by have:=HLEN.out;simp only[lA,lC,lN] at this⊢;omega));go_wp2_with fail
 refine HS.out.mono ?_;rintro e W5 ⟨rfl,fx,px⟩;have P5:=Hd px;have G5:=Hd (G2.out.trans fx);clear fx px HS;go_wp2_with fail
 go_end0
 exact⟨rfl,F1.out.trans G5.out,by simpa only[aA,cA,List.nil_append] using P5.out⟩
theorem ZmX (a:Nat)(n:Bs)(ts:List PT)(es:List PE):DcOk S ⟨2,a,n,ts,es⟩:=by
 intro A cs B b bs w hP hD hlen;obtain⟨hC,hT⟩:=hD;have he:prD ⟨2,a,n,ts,es⟩=([116,121,112,101,32]++(n++[32,61,32]))++(prT 0 (ts[0]?.getD zPT)++[59,10]):=by
  rw[←Zcj 0 (by decide) ts];simp[prD,hdD]
 rw[he] at hlen⊢;obtain⟨t0,ht0⟩:=eX (ts[0]?.getD zPT);rw[←ht0] at hlen⊢;have HR0:=Hd ht0;obtain⟨a3,c3,a4,c4,rfl,k3,k4⟩:=ZcY hC;have K3:=Hd k3;have HP:=Hd hP;have HLEN:=Hd hlen;obtain⟨W1,hW1⟩:=eY (w.alloc (.cells #[.int .i64 2,.int .i64 a,.string ⟨n.toArray⟩,.slice a3 ts.length c3,.slice a4 es.length c4] 61));have hA1:W1.heap[w.heap.size]?=some (.cells #[.int .i64 2,.int .i64 a,.string ⟨n.toArray⟩,.slice a3 ts.length c3,.slice a4 es.length c4] 61 (0,0)):=by rw[←hW1];exact hN w _
 have P1:Hid (Pst B W1 b bs):=by rw[←hW1];exact hP.alloc _
 have F1:Hid (Fb B b w W1):=by rw[←hW1];exact (Fb.refl B b w).alloc hP.hi _
 have G1:=Hd (Fb.refl B b W1);have HNB:Hid (∀e:some w.heap.size=some b,False):=by
  intro e;have:=HP.out.lt;have:=Option.some.inj e;omega
 obtain⟨⟨q0,q1,q2,q3,q4⟩,-⟩:=Zat (t:=61) hA1;have HA1:=Hd hA1;have HW1:=Hd hW1;clear hC hT k3 k4 hA1 hP hlen hW1 he ht0;go_enter Tryz.func59,Tryz.ntmps59
 go_upto_region 1 with fail
 rw[HW1.out];have HS:=Hd (say3 P1.out [116,121,112,101,32] n [32,61,32] (by have:=HLEN.out;simp only[lA,lC,lN] at this⊢;omega));go_wp2_with fail
 refine HS.out.mono ?_;rintro e W2 ⟨rfl,fx,px⟩;have P2:=Hd px;have G2:=Hd (G1.out.trans fx);clear fx px HS;clear q0 q1 q2 q3 q4;obtain⟨⟨q0,q1,q2,q3,q4⟩,-⟩:=Zat (t:=61) (G2.out.2 _ _ HA1.out (fun e=>HNB.out e) (fun c fz e=>by cases e));have HQ:=Hd (Zch ts 0 A W2 _ (IsC.fb HP.out (F1.out.trans G2.out) _ _ (by simp[nb,Zdu]) K3.out) (by decide));rw[←HR0.out] at HQ;go_wp2_with fail
 refine HQ.out.mono ?_;rintro e W3 ⟨csx,rfl,bx,ix⟩;have P3:=Hd (P2.out.below bx);have G3:=Hd (G2.out.then_below bx P2.out);have HS:Hid (Calls Tryz.prog 61 #[.pointer (some ⟨b,0,none⟩),.agg csx.toArray,.int .i64 0] W3 fun e w'=>e=.returned (.tuple #[])∧Fb B b W3 w'∧Pst B w' b ((bs++([116,121,112,101,32]++(n++[32,61,32])))++prT 0 t0)):=
  Zft t0 0 (by decide) A csx B b _ W3 P3.out ix (by have:=HLEN.out;simp only[lA,lC,lN] at this⊢;omega)
 clear bx ix HQ;go_wp2_with fail
 refine HS.out.mono ?_;rintro e W4 ⟨rfl,fx,px⟩;have P4:=Hd px;have G4:=Hd (G3.out.trans fx);clear fx px HS;clear q0 q1 q2 q3 q4;have HS:=Hd (say1 P4.out [59,10] (by have:=HLEN.out;simp only[lA,lC,lN] at this⊢;omega));go_wp2_with fail
 refine HS.out.mono ?_;rintro e W5 ⟨rfl,fx,px⟩;have P5:=Hd px;have G5:=Hd (G4.out.trans fx);clear fx px HS;go_wp2_with fail
 go_end0
 exact⟨rfl,F1.out.trans G5.out,by simpa only[aA,cA,List.nil_append] using P5.out⟩
theorem ZmW (a:Nat)(n:Bs)(ts:List PT)(es:List PE)(hE:ExOk S (es[0]?.getD zPE)):DcOk S ⟨3,a,n,ts,es⟩:=by
 intro A cs B b bs w hP hD hlen;obtain⟨hC,hT⟩:=hD;have he:prD ⟨3,a,n,ts,es⟩=hdD ⟨3,a,n,ts,es⟩++[59,10]:=by rw[prD,if_pos (.inr (.inr rfl))]
 rw[he] at hlen⊢;have HL:=Hd (Zmz ⟨3,a,n,ts,es⟩ rfl hE A cs);obtain⟨tx,htx⟩:=eX (hdD ⟨3,a,n,ts,es⟩);rw[←htx] at hlen HL⊢;have HC:=Hd hC;obtain⟨a3,c3,a4,c4,rfl,k3,k4⟩:=ZcY hC;have HP:=Hd hP;have HTB:=Hd hT;have HLEN:=Hd hlen;obtain⟨W1,hW1⟩:=eY (w.alloc (.cells #[.int .i64 3,.int .i64 a,.string ⟨n.toArray⟩,.slice a3 ts.length c3,.slice a4 es.length c4] 61));have hA1:W1.heap[w.heap.size]?=some (.cells #[.int .i64 3,.int .i64 a,.string ⟨n.toArray⟩,.slice a3 ts.length c3,.slice a4 es.length c4] 61 (0,0)):=by rw[←hW1];exact hN w _
 have P1:Hid (Pst B W1 b bs):=by rw[←hW1];exact hP.alloc _
 have hF1:Fb B b w W1:=by rw[←hW1];exact (Fb.refl B b w).alloc hP.hi _
 have F1:=Hd hF1;obtain⟨⟨q0,q1,q2,q3,q4⟩,-⟩:=Zat (t:=61) hA1;have HS:=Hd (HL.out B b bs W1 P1.out ⟨IsCs.fb hP hF1 _ _ (by simp[encD,nbs,nb,Zdu,Zdv]) HC.out,hT.fb hF1⟩ (by have:=HLEN.out;simp only[lA,lC,lN] at this⊢;omega));have HW1:=Hd hW1;clear hC hT k3 k4 hA1 hP hlen hW1 he htx hF1 HL HC;go_enter Tryz.func59,Tryz.ntmps59
 go_upto_region 1 with fail
 rw[HW1.out];go_wp2_with fail
 refine HS.out.mono ?_;rintro e W2 ⟨rfl,fx,px⟩;have P2:=Hd px;have G2:=Hd (F1.out.trans fx);clear fx px HS;clear q0 q1 q2 q3 q4;have HS:=Hd (say1 P2.out [59,10] (by have:=HLEN.out;simp only[lA,lC,lN] at this⊢;omega));go_wp2_with fail
 refine HS.out.mono ?_;rintro e W5 ⟨rfl,fx,px⟩;have P5:=Hd px;have G5:=Hd (G2.out.trans fx);clear fx px HS;go_wp2_with fail
 go_end0
 exact⟨rfl,G5.out,by simpa only[aA,cA,List.nil_append] using P5.out⟩
theorem hd_le (d:PD)(h:d.k=3):(prE 0 (d.es[0]?.getD zPE)).length≤(prD d).length:=by
 obtain⟨k,a,n,ts,es⟩:=d;have h:k=3:=h;subst h;have e0:(es.map (prE 0)).headD []=prE 0 (es[0]?.getD zPE):=Zc1 0 (.inl rfl) es;rw[prD,if_pos (.inr (.inr rfl))];simp only[hdD,←e0,lA,lC];simp;omega
theorem Zly (d:PD)(h:ND d)(hS:((prD d).length+2)*((prD d).length+2)≤S):DcOk S d:=by
 have hle:=hd_le d;obtain⟨k,a,n,ts,es⟩:=d;rcases h.kind with e | e | e<;>(have e:k=_:=e;subst e)
 ·exact ZmY a n ts es
 ·exact ZmX a n ts es
 ·refine ZmW a n ts es (Znv _ ?_ (Nat.le_trans (Zfm (Nat.add_le_add_right (hle rfl) 2)) hS));cases h0:es[0]? with
  | none=>exact ZkT
  | some x=>exact h.es x (List.mem_of_getElem? h0)
theorem Zjg (d:PD)(h:ND d)(A:Nat→Prop)(cs:List Value)(w:World)(hC:IsCs A w (encD 26 36 d) cs)(hT:Tab w.heap.size w)(hlen:(prD d).length≤1000000) :
  Calls Tryz.prog 23 #[.agg cs.toArray] w fun e w'=>e=.returned (.string ⟨(prD d).toArray⟩)∧Below w.heap.size w w':=by
 obtain⟨txt,htxt⟩:=eX (prD d);have HTY:=Hd (Zly (S:=10000000000000) d h (by
  have:=Zfm (a:=(prD d).length+2) (b:=1000002) (by omega);omega) A cs)
 unfold PrtE at HTY;rw[←htxt] at hlen HTY⊢;obtain⟨k,a,n,ts,es⟩:=d;have HC:=Hd hC;obtain⟨a3,c3,a4,c4,rfl,-,-⟩:=ZcY hC;obtain⟨W1,hW1⟩:=eY (w.alloc (.cells #[.int .i64 k,.int .i64 a,.string ⟨n.toArray⟩,.slice a3 ts.length c3,.slice a4 es.length c4] 61));obtain⟨W2,hW2⟩:=eY (W1.alloc (.cells #[.pointer none,.slice none 0 0] 120));have hA1:W1.heap[w.heap.size]?=some (.cells #[.int .i64 k,.int .i64 a,.string ⟨n.toArray⟩,.slice a3 ts.length c3,.slice a4 es.length c4] 61 (0,0)):=by rw[←hW1];exact hN w _
 have hA2:W2.heap[w.heap.size]?=some (.cells #[.int .i64 k,.int .i64 a,.string ⟨n.toArray⟩,.slice a3 ts.length c3,.slice a4 es.length c4] 61 (0,0)):=by rw[←hW2];exact Zab hA1 _
 have B1:=Hd (show Below w.heap.size w W1 by rw[←hW1];exact (Below.refl _ w).alloc (nl _) _);have S1:=Hd (show W1.heap.size=w.heap.size+1 by rw[←hW1];simp);have B2:=Hd (show Below W1.heap.size W1 W2 by rw[←hW2];exact (Below.refl _ _).alloc (nl _) _);have P2:=Hd (show Pst W1.heap.size W2 W1.heap.size [] by rw[←hW2];exact Pst.fresh W1);have hb12:=B1.out.trans (B2.out.mono (by have:=S1.out;omega));have hIC:=IsCs.below HC.out hb12;have hTB:Tab W1.heap.size W2:=Tab.up (B:=w.heap.size) (hT.on hb12) (by have:=S1.out;omega);have HT:=Hd (HTY.out W1.heap.size W1.heap.size [] W2 P2.out ⟨hIC,hTB⟩ (by have:=hlen;simp only[lN];omega));obtain⟨⟨q0,q1,q2,q3,q4⟩,-⟩:=Zat (t:=61) hA2;have H1:=Hd hW1;have H2:=Hd hW2;clear hC hA1 hA2 hIC HTY htxt hlen hW1 hW2 hT hTB hb12 h;go_enter Tryz.func23,Tryz.ntmps23
 go_upto_region 1 with fail
 rw[H1.out];go_upto_region 2 with fail
 rw[H2.out];go_wp2_with fail
 refine HT.out.mono ?_;rintro e W3 ⟨rfl,f3,p3⟩;have F3:=Hd f3;have HS:=Hd (Zdj p3);clear f3 p3;go_wp2_with fail
 refine HS.out.mono ?_;rintro e W4 ⟨rfl,b4⟩;have B4:=Hd b4;clear b4;go_wp2_with fail
 go_ret
 refine⟨by simp,?_⟩;have hs:w.heap.size≤W1.heap.size:=by have:=S1.out;omega
 exact ((B1.out.trans (B2.out.mono hs)).trans (F3.out.1.mono hs)).trans (B4.out.mono hs)
theorem Zet (l:List PD){i:Nat}{d:PD}(h:l[i]?=some d):prF (l.take (i+1))=prF (l.take i)++prD d:=by
 rw[List.take_add_one,h,Option.toList_some,ZfA];simp[prF]
theorem Ziu (l:List PD)(i:Nat):(prF (l.take i)).length≤(prF l).length:=by
 have:=congrArg List.length (show prF l=prF (l.take i)++prF (l.drop i) by rw[←ZfA,List.take_append_drop]);rw[lA] at this;omega
theorem Zfz (l:List PD)(hNq:∀d∈l,ND d)(A:Nat→Prop)(v:Value)(w:World)(h:Sub A w (ZdF 26 36 l) l.length v)(hT:Tab w.heap.size w)(hlen:(prF l).length≤1000000)(hsz:l.length≤1000000) :
  Calls Tryz.prog 21 #[v] w fun e w'=>e=.returned (.string ⟨(prF l).toArray⟩)∧Below w.heap.size w w':=by
 obtain⟨a0,cap,xs,rfl,-,-⟩:=id h;have HS:=Hd h;have HT:=Hd hT;have HN:=Hd hNq;have HLEN:=Hd hlen;have HSZ:=Hd hsz;obtain⟨W1,hW1⟩:=eY (w.alloc (.cells #[.pointer none,.slice none 0 0] 120));have B1:=Hd (show Below w.heap.size w W1 by rw[←hW1];exact (Below.refl _ w).alloc (nl _) _);have P1:=Hd (show Pst w.heap.size W1 w.heap.size [] by rw[←hW1];exact Pst.fresh w);have H1:=Hd hW1;clear h hT hNq hlen hsz hW1;go_enter Tryz.func21,Tryz.ntmps21
 go_upto_region 2 with fail
 rw[H1.out];go_wp2_with fail
 go_loopw [5,8] (fun _ s8 wr=>∃(i:Nat),s8=.int .i64 i∧i≤l.length∧Hid (Fb w.heap.size w.heap.size W1 wr)∧Hid (Pst w.heap.size wr w.heap.size (prF (l.take i)))) (fun _ s8 _=>l.length-(intOf s8).toNat)
 case atStart=>exact⟨0,rfl,Nat.zero_le _,Hd (Fb.refl _ _ _),P1⟩
 case round=>
  obtain⟨i,rfl,hil,hF,hP⟩:=hrel;by_cases hi2:i<l.length
  ·have hlt:decide ((i:Int)<(l.length:Int))=true:=dT (by omega);have hltn:decide (i<l.length)=true:=dT hi2;have hget:l[i]?=some l[i]:=List.getElem?_eq_getElem hi2;obtain⟨t,ht⟩:=eX (l[i]);rw[←ht] at hget;have hmem:t∈l:=by rw[ht];exact List.getElem_mem hi2
   have hnd:=HN.out t hmem;have HTK:=Hd (Zet l hget);have hle:=Ziu l (i+1);rw[HTK.out,lA] at hle;have hbelow:=B1.out.trans hF.out.1;obtain⟨g,o,cs,rfl,hg,hcs,hcell⟩:=Sub.at (ZcX 26 36) (HS.out.below hbelow) hget (by omega);have HCS:=Hd hcs;have HDC:=Hd (Zly (S:=10000000000000) t hnd (by
    have:=Zfm (a:=(prD t).length+2) (b:=1000002) (by have:=HLEN.out;omega);omega) A cs)
   obtain⟨k,a,n,ts,es⟩:=t;obtain⟨a3,c3,a4,c4,rfl,k3,k4⟩:=ZcY hcs;obtain⟨W2,hW2⟩:=eY (wr.alloc (.cells #[.int .i64 k,.int .i64 a,.string ⟨n.toArray⟩,.slice a3 ts.length c3,.slice a4 es.length c4] 61));have d0:=hcell 0 _ rfl;have d1:=hcell 1 _ rfl;have d2:=hcell 2 _ rfl;have d3:=hcell 3 _ rfl;have d4:=hcell 4 _ rfl;rw[aZ] at d0;have hA2:W2.heap[wr.heap.size]?=some (.cells #[.int .i64 k,.int .i64 a,.string ⟨n.toArray⟩,.slice a3 ts.length c3,.slice a4 es.length c4] 61 (0,0)):=by rw[←hW2];exact hN wr _
   have P2:=Hd (show Pst w.heap.size W2 w.heap.size (prF (l.take i)) by rw[←hW2];exact hP.out.alloc _);have hF2:Fb w.heap.size w.heap.size wr W2:=by rw[←hW2];exact (Fb.refl _ _ wr).alloc hP.out.hi _
   have F2:=Hd (hF.out.trans hF2);obtain⟨⟨q0,q1,q2,q3,q4⟩,-⟩:=Zat (t:=61) hA2;have hTB:Tab w.heap.size W2:=Tab.fb (Tab.fb (Lib.TabBelow.on HT.out B1.out) hF.out) hF2;have HC:=Hd (HDC.out w.heap.size w.heap.size _ W2 P2.out ⟨IsCs.fb hP.out hF2 _ _ (by simp[encD,nbs,nb,Zdu,Zdv]) HCS.out,hTB⟩ (by have:=HLEN.out;omega));have hbig:=HSZ.out;have HLT:=Hd hi2;have HW2:=Hd hW2;clear hget hmem hnd hle ht hcell hcs k3 k4 hW2 hA2 hF2 hTB HDC hbelow hg;go_upto_region 5 with fail
   rw[HW2.out];go_wp2_with fail
   refine HC.out.mono ?_;rintro e W3 ⟨rfl,f3,p3⟩;have F3:=Hd (F2.out.trans f3);have P3:=Hd p3;clear f3 p3 HC;go_wp2_with fail
   refine⟨⟨i+1,by simp,by have:=HLT.out;omega,F3,Hd (by rw[HTK.out];exact P3.out)⟩,?_⟩;simp[intOf];have:=HLT.out;omega
  ·have hge:i=l.length:=by omega
   have hlt:decide ((i:Int)<(l.length:Int))=false:=dF (by omega);have hltn:decide (i<l.length)=false:=dF hi2;have hP':=hP.out;rw[List.take_of_length_le (by omega)] at hP';have HST:=Hd (Zdj hP');clear hP';clear hge hi2;go_wp2_with fail
   refine HST.out.mono ?_;rintro e W3 ⟨rfl,b3⟩;have B3:=Hd b3;clear b3;go_wp2_with fail
   go_ret
   refine⟨rfl,(B1.out.trans hF.out.1).trans B3.out⟩
open Go.RowKit Go.Shelf
theorem ZgM{s:ByteArray}{l:Bs}{n:Nat}(h:s.data.toList=l)(hl:l.length≤n):s.size≤n:=by
 show s.data.size≤n;rw[←Array.length_toList,h];exact hl
theorem t_opt (l:Bs)(hl:l.length≤100000)(s:ByteArray)(hs:s.data.toList=l)(w:World) :
  Calls Tryz.prog 10 #[.string s] w fun e w'=>Below w.heap.size w w'∧∃k n a2 n2 c2 a3 n3 c3 ok,e=.returned (.tuple #[.agg #[.int .i64 k,.string n,.slice a2 n2 c2,.slice a3 n3 c3],.bool ok])∧
   (wT l=none∧ok=false∨∃t,wT l=some t∧ok=true∧IsCs (fun b=>w.heap.size≤b) w' (encT 26 t) [.int .i64 k,.string n,.slice a2 n2 c2,.slice a3 n3 c3]):=by
 refine (Zid s (ZgM hs hl) w).mono ?_;rintro e w' ⟨b,h⟩;rw[hs] at h;refine⟨b,?_⟩;have hw:wT l=Zbj (ZbJ (typ 64) (toks l)) (dns l):=rfl;rw[←hw] at h;cases ho:wT l with
 | none=>
  rw[ho] at h;exact⟨0,⟨#[]⟩,none,0,0,none,0,0,false,h,.inl ⟨rfl,rfl⟩⟩
 | some t=>
  rw[ho] at h;obtain⟨cs,he,hc⟩:=h;obtain⟨k,n,ns,llq⟩:=t;obtain⟨a2,c2,a3,c3,rfl,-,-⟩:=Zdr hc;exact⟨_,_,_,_,_,_,_,_,true,he,.inr ⟨_,rfl,rfl,hc⟩⟩
theorem lit06:wT [105,110,116,45,62,40,105,110,116,124,98,111,111,108,41]=some (.mk 6 [] [] [tInt,.mk 7 [] [] [tInt,ZgI]]):=by
 rw[wT,ZlW (L:=[(2,0,[105,110,116]),(5,3,[45,62]),(5,5,[40]),(2,6,[105,110,116]),(5,9,[124]),(2,10,[98,111,111,108]),(5,14,[41]),(6,15,[])]) (by decide),Zo0 (L:=[]) (by decide)];rfl
theorem txt06:prT 0 (.mk 6 [] [] [tInt,.mk 7 [] [] [tInt,ZgI]])=[105,110,116,32,45,62,32,40,105,110,116,32,124,32,98,111,111,108,41]:=by
 simp[Zb2,Zcm,ZdZ,lvlT,tInt,ZgI,Zaz]
theorem Zpf (w:World):Calls Tryz.prog 18 #[] w fun e w'=>e=.returned (.bool true)∧Below w.heap.size w w':=by
 have H1:=Hd (t_opt _ (by decide) ⟨#[105,110,116,45,62,40,105,110,116,124,98,111,111,108,41]⟩ rfl w);rw[lit06] at H1;go_enter Tryz.func18,Tryz.ntmps18
 go_wp2_with fail
 refine H1.out.mono ?_;rintro e w1 ⟨b1,k,n,a2,n2,c2,a3,n3,c3,ok,rfl,h⟩;obtain⟨h,-⟩ | ⟨t,ht,rfl,hc⟩:=h
 ·cases h
 cases ht;obtain⟨W2,hW2⟩:=eY (w1.alloc (.cells #[.int .i64 k,.string n,.slice a2 n2 c2,.slice a3 n3 c3] 26));have hA2:W2.heap[w1.heap.size]?=some (.cells #[.int .i64 k,.string n,.slice a2 n2 c2,.slice a3 n3 c3] 26 (0,0)):=by rw[←hW2];exact hN w1 _
 have hb2:Below w1.heap.size w1 W2:=by rw[←hW2];exact (Below.refl _ _).alloc (nl _) _
 obtain⟨⟨q0,q1,q2,q3⟩,-⟩:=Zae (t:=26) hA2;have HP:=Hd (Zfy _ _ _ W2 (hc.below hb2) (by rw[txt06];decide));rw[txt06] at HP;have HB:=Hd (b1.trans (hb2.mono b1.size));have HW2:=Hd hW2;clear hc hb2 hA2 hW2 b1;go_upto_region 2 with fail
 rw[HW2.out];go_wp2_with fail
 refine HP.out.mono ?_;rintro e w3 ⟨rfl,b3⟩;have B3:=Hd (HB.out.trans (b3.mono HB.out.size));clear b3;go_wp2_with fail
 go_ret
 exact⟨by first | rfl | simp,B3.out⟩
end Go.Proofs.YtijnjoonbjdafaaGreatDoor

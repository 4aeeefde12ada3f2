import Derived.Test.YtijnjoonbjdafaaGreatDoorRtM
import Derived.Test.YtijnjoonbjdafaaGreatDoorRuM
import Derived.Test.YtijnjoonbjdafaaGreatDoorPdM
namespace Go.Proofs.YtijnjoonbjdafaaGreatDoor
set_option maxHeartbeats 20000000
set_option maxRecDepth 20000
open Go.RowKit Go.Shelf Go.Sort
theorem ZbH{e f:TypeId}{A:Nat→Prop}{w:World}{k a:Nat}{n:Bs}{m:Nat}{ns:List Bs}{l:List PE}{ts:List PT}{cs:List Value}(h:IsCs A w (encE e f (.mk k a n m ns l ts)) cs):∃a4 c4 a5 c5 a6 c6,cs=[.int .i64 k,.int .i64 a,.string ⟨n.toArray⟩,.int .i64 m,.slice a4 ns.length c4,.slice a5 l.length c5,.slice a6 ts.length c6]∧IsC A w (.row 9 1 ns.length (ns.map .str)) (.slice a4 ns.length c4)∧IsC A w (.row f 7 l.length (Zaw e f l)) (.slice a5 l.length c5)∧IsC A w (.row e 4 ts.length (Zau e ts)) (.slice a6 ts.length c6):=by
 rw[encE] at h;obtain⟨x0,ys,rfl,k0,h⟩:=h.uncons;obtain⟨x1,ys,rfl,k1,h⟩:=h.uncons;obtain⟨x2,ys,rfl,k2,h⟩:=h.uncons;obtain⟨x3,ys,rfl,k3,h⟩:=h.uncons;obtain⟨x4,ys,rfl,k4,h⟩:=h.uncons;obtain⟨x5,ys,rfl,k5,h⟩:=h.uncons;obtain⟨x6,ys,rfl,k6,h⟩:=h.uncons;simp only[IsC] at k0 k1 k2 k3;obtain rfl:ys=[]:=by simpa only[IsCs] using h
 subst k0 k1 k2 k3;obtain⟨_,r4,-,-⟩:=k4.unrow;obtain⟨a4,c4,rfl⟩:=Zag r4;obtain⟨_,r5,-,-⟩:=k5.unrow;obtain⟨a5,c5,rfl⟩:=Zag r5;obtain⟨_,r6,-,-⟩:=k6.unrow;obtain⟨a6,c6,rfl⟩:=Zag r6;exact⟨a4,c4,a5,c5,a6,c6,rfl,k4,k5,k6⟩
theorem Zfl{k pa:Nat}{n:Bs}{m:Nat}{ns:List Bs}{l:List PE}{ts:List PT}{A:Nat→Prop}{w:World}{cs:List Value}{K:Int}(hK:(k:Int)=K)(h:IsCs A w (encE 31 41 (.mk k pa n m ns l ts)) cs):∃a4 c4 a5 c5 a6 c6 W,cs=[.int .i64 K,.int .i64 pa,.string ⟨n.toArray⟩,.int .i64 m,.slice a4 ns.length c4,.slice a5 l.length c5,.slice a6 ts.length c6]∧Hid (w.alloc (.cells #[.int .i64 K,.int .i64 pa,.string ⟨n.toArray⟩,.int .i64 m,.slice a4 ns.length c4,.slice a5 l.length c5,.slice a6 ts.length c6] 41)=W)∧Hid (Below w.heap.size w W)∧Hid (Sev W w.heap.size 41 (.int .i64 K) (.int .i64 pa) (.string ⟨n.toArray⟩) (.int .i64 m) (.slice a4 ns.length c4) (.slice a5 l.length c5) (.slice a6 ts.length c6))∧Hid (Sub A W (ns.flatMap fun s=>[Dt.str s]) ns.length (.slice a4 ns.length c4))∧Hid (Sub A W (l.flatMap (encE 31 41)) l.length (.slice a5 l.length c5))∧Hid (Sub A W (ts.flatMap (encT 31)) ts.length (.slice a6 ts.length c6))∧Hid (w.heap.size<W.heap.size):=by
 subst hK;obtain⟨a4,c4,a5,c5,a6,c6,rfl,h4,h5,h6⟩:=ZbH h;have b:Below w.heap.size w (w.alloc (.cells #[.int .i64 k,.int .i64 pa,.string ⟨n.toArray⟩,.int .i64 m,.slice a4 ns.length c4,.slice a5 l.length c5,.slice a6 ts.length c6] 41)):=(Below.refl _ _).alloc (nl _) _;refine⟨a4,c4,a5,c5,a6,c6,_,rfl,rfl,b,hN w _,?_,?_,?_,by show _<_;simp⟩
 ·rw[←ZcJ];exact (Sub.of_row h4 (by simp)).below b
 ·rw[←Zcb];exact (Sub.of_row h5 (by rw[Zcb];exact ZaF (ZaB 31 41) l)).below b
 ·rw[←ZaE];exact (Sub.of_row h6 (by rw[ZaE];exact ZaF (Zas 31) ts)).below b
def tq (tg:Bool):Nat:=if tg then 2 else 0
theorem ZgF (tg:Bool):tq tg≤2:=by cases tg<;>decide
theorem hd0{α:Type}{f:α→Bs}{l:List α}{a:α}(h:l[0]?=some a):(l.map f).headD []=f a:=by
 match l,h with
 | [],h=>cases h
 | x::r,h=>simp at h;subst h;rfl
theorem hd1{α:Type}{f:α→Bs}{l:List α}{a:α}(h:l[1]?=some a):(l.map f).tail.headD []=f a:=by
 match l,h with
 | [],h=>cases h
 | [x],h=>cases h
 | x::y::r,h=>simp at h;subst h;rfl
theorem hd2{α:Type}{f:α→Bs}{l:List α}{a:α}(h:l[2]?=some a):(l.map f).tail.tail.headD []=f a:=by
 match l,h with
 | [],h=>cases h
 | [x],h=>cases h
 | [x,y],h=>cases h
 | x::y::z::r,h=>simp at h;subst h;rfl
def ReOk (x:PE):Prop:=∀(tg:Bool),(prE (tq tg) x).length≤1000000→∀(A:Nat→Prop) (w:World) (cs:List Value),IsCs A w (encE 31 41 x) cs→Calls Tryz.prog 27 #[.agg cs.toArray,.bool tg] w fun e w'=>e=.returned (.string ⟨(prE (tq tg) x).toArray⟩)∧Below w.heap.size w w'
theorem re_num (pa:Nat)(n:Bs)(m:Nat)(ns:List Bs)(l:List PE)(ts:List PT)(hm:m≤9223372036854775807):ReOk (.mk 1 pa n m ns l ts):=by
 intro tg hlen A w cs h;obtain⟨a4,c4,a5,c5,a6,c6,W,rfl,HW,HB,HP,S4,S5,S6,HLT⟩:=Zfl (K:=1) rfl h;obtain⟨txt,htxt⟩:=eX (prE (tq tg) (.mk 1 pa n m ns l ts));rw[←htxt] at hlen⊢;have HX:=Hd (show txt=dig m by
  have:=ZgF tg;rw[htxt,ZaX,ZbO,if_neg (show ¬lvlE 1<tq tg by rw[show lvlE 1=2 from rfl];omega)];rfl)
 have HC:=Hd (Zog m hm W);have HM:=Hd hm;clear h htxt;obtain⟨⟨p0,p1,p2,p3,p4,p5,p6⟩,-⟩:=Zai (t:=41) HP.out;clear hlen hm;go_enter Tryz.func27,Tryz.ntmps27
 go_upto_region 1 with fail
 rw[HW.out];go_wp2_with fail
 refine HC.out.mono ?_;rintro e w5 ⟨rfl,b5⟩;have B5:=Hd b5;clear b5;go_wp2_with fail
 refine bodyPost_ret (v:=.string ⟨txt.toArray⟩) (by rw[HX.out];simp[results,Tryz.results27,go_sem]) rfl ⟨rfl,?_⟩;exact HB.out.trans (B5.out.mono HB.out.size)
theorem Zoc (pa:Nat)(n:Bs)(m:Nat)(ns:List Bs)(l:List PE)(ts:List PT):ReOk (.mk 2 pa n m ns l ts):=by
 intro tg hlen A w cs h;obtain⟨a4,c4,a5,c5,a6,c6,W,rfl,HW,HB,HP,S4,S5,S6,HLT⟩:=Zfl (K:=2) rfl h;obtain⟨txt,htxt⟩:=eX (prE (tq tg) (.mk 2 pa n m ns l ts));rw[←htxt] at hlen⊢;have HX:=Hd (show txt=34::(n++[34]) by
  have:=ZgF tg;rw[htxt,ZaX,ZbO,if_neg (show ¬lvlE 2<tq tg by rw[show lvlE 2=2 from rfl];omega)];rfl)
 have hln:n.length≤1000000:=by rw[HX.out] at hlen;simp at hlen;omega
 clear h htxt;obtain⟨⟨p0,p1,p2,p3,p4,p5,p6⟩,-⟩:=Zai (t:=41) HP.out;clear hlen;have e:((⟨[34].toArray⟩:ByteArray)++⟨n.toArray⟩++⟨[34].toArray⟩)=⟨txt.toArray⟩:=by
  rw[HX.out];simp only[Zcc];rfl
 go_enter Tryz.func27,Tryz.ntmps27
 go_upto_region 1 with fail
 rw[HW.out];go_wp2_with fail
 refine bodyPost_ret (v:=.string ⟨txt.toArray⟩) (by first | (simp[results,Tryz.results27,go_sem];done) | simp[results,Tryz.results27,go_sem,e]) rfl ⟨rfl,?_⟩;exact HB.out
theorem Zof (pa:Nat)(n:Bs)(m:Nat)(ns:List Bs)(l:List PE)(ts:List PT):ReOk (.mk 3 pa n m ns l ts):=by
 intro tg hlen A w cs h;obtain⟨a4,c4,a5,c5,a6,c6,W,rfl,HW,HB,HP,S4,S5,S6,HLT⟩:=Zfl (K:=3) rfl h;obtain⟨txt,htxt⟩:=eX (prE (tq tg) (.mk 3 pa n m ns l ts));rw[←htxt] at hlen⊢;have HX:=Hd (show txt=if m=1 then [116,114,117,101] else [102,97,108,115,101] by
  have:=ZgF tg;rw[htxt,ZaX,ZbO,if_neg (show ¬lvlE 3<tq tg by rw[show lvlE 3=2 from rfl];omega)];rfl)
 clear h htxt;obtain⟨⟨p0,p1,p2,p3,p4,p5,p6⟩,-⟩:=Zai (t:=41) HP.out;clear hlen;by_cases h1:m=1
 ·have z1:((m:Int)==1)=true:=by simp only[beq_iff_eq];omega
  have z2:(m==1)=true:=by simp only[beq_iff_eq];exact h1
  rw[if_pos h1] at HX;clear h1;go_enter Tryz.func27,Tryz.ntmps27
  go_upto_region 1 with fail
  rw[HW.out];go_wp2_with fail
  refine bodyPost_ret (v:=.string ⟨txt.toArray⟩) (by rw[HX.out];simp[results,Tryz.results27,go_sem]) rfl ⟨rfl,HB.out⟩
 ·have z1:((m:Int)==1)=false:=bF (by omega);have z2:(m==1)=false:=by simp only[beq_eq_false_iff_ne,ne_eq];exact h1
  rw[if_neg h1] at HX;clear h1;go_enter Tryz.func27,Tryz.ntmps27
  go_upto_region 1 with fail
  rw[HW.out];go_wp2_with fail
  refine bodyPost_ret (v:=.string ⟨txt.toArray⟩) (by rw[HX.out];simp[results,Tryz.results27,go_sem]) rfl ⟨rfl,HB.out⟩
theorem Zod (pa:Nat)(n:Bs)(m:Nat)(ns:List Bs)(l:List PE)(ts:List PT):ReOk (.mk 4 pa n m ns l ts):=by
 intro tg hlen A w cs h;obtain⟨a4,c4,a5,c5,a6,c6,W,rfl,HW,HB,HP,S4,S5,S6,HLT⟩:=Zfl (K:=4) rfl h;obtain⟨txt,htxt⟩:=eX (prE (tq tg) (.mk 4 pa n m ns l ts));rw[←htxt] at hlen⊢;have HX:=Hd (show txt=n by
  have:=ZgF tg;rw[htxt,ZaX,ZbO,if_neg (show ¬lvlE 4<tq tg by rw[show lvlE 4=2 from rfl];omega)];rfl)
 clear h htxt;obtain⟨⟨p0,p1,p2,p3,p4,p5,p6⟩,-⟩:=Zai (t:=41) HP.out;clear hlen;go_enter Tryz.func27,Tryz.ntmps27
 go_upto_region 1 with fail
 rw[HW.out];go_wp2_with fail
 refine bodyPost_ret (v:=.string ⟨txt.toArray⟩) (by rw[HX.out];simp[results,Tryz.results27,go_sem]) rfl ⟨rfl,HB.out⟩
theorem re_rec (pa:Nat)(n:Bs)(m:Nat)(ns:List Bs)(l:List PE)(ts:List PT)(hl:ns.length=l.length)(hsz:l.length≤1000000)(HT:∀t∈l,ReOk t):ReOk (.mk 5 pa n m ns l ts):=by
 intro tg hlen A w cs h;obtain⟨a4,c4,a5,c5,a6,c6,W,rfl,HW,HB,HP,S4,S5,S6,HLT⟩:=Zfl (K:=5) rfl h;obtain⟨txt,htxt⟩:=eX (prE (tq tg) (.mk 5 pa n m ns l ts));rw[←htxt] at hlen⊢;have HL:=Hd hl;have HZ:=Hd hsz;have HT:=Hd HT;obtain⟨P,hP⟩:=eX (Zbz [32,61,32] ns (l.map (prE 0)));have HPL:=Hd (show P.length=l.length by rw[hP,Zci,hl]);have HX:=Hd (show txt=123::(Zaz [44,32] P++[125]) by
  have:=ZgF tg;rw[htxt,ZaX,ZbO,if_neg (show ¬lvlE 5<tq tg by rw[show lvlE 5=2 from rfl];omega)];rw[hP];rfl)
 have HLEN:=Hd (show (Zaz [44,32] P).length≤1000000 by rw[HX.out] at hlen;simp at hlen;omega);have HPP:=Hd hP;clear hl hsz hP hlen;clear h htxt;obtain⟨⟨p0,p1,p2,p3,p4,p5,p6⟩,-⟩:=Zai (t:=41) HP.out;rw[HL.out] at HP HW p4;rw[HL.out];go_enter Tryz.func27,Tryz.ntmps27
 go_upto_region 1 with fail
 rw[HW.out];go_wp2_with fail
 go_loopw [5,6] (fun s5 s6 wr=>∃i:Nat,s6=.int .i64 i∧i≤l.length∧s5=.string ⟨(jt [44,32] P i).toArray⟩∧Hid (Below W.heap.size W wr)) (fun _ s6 _=>l.length-(intOf s6).toNat)
 case atStart=>exact⟨0,rfl,Nat.zero_le _,rfl,Below.refl _ _⟩
 case round=>
  obtain⟨i,rfl,hil,rfl,hB⟩:=hrel;have PR:=Hd ((hB.out.block _ HLT.out).trans HP.out);obtain⟨⟨p0,p1,p2,p3,p4,p5,p6⟩,-⟩:=Zai (t:=41) PR.out;by_cases hi2:i<l.length
  ·have hlt:decide ((i:Int)<(l.length:Int))=true:=dT (by omega);have hltn:decide (i<l.length)=true:=dT hi2;obtain⟨q,hm⟩:∃q,ns[i]?=some q:=⟨_,List.getElem?_eq_getElem (by rw[HL.out];exact hi2)⟩;obtain⟨t,ht⟩:=eX (l[i]);have hget:l[i]?=some t:=by rw[ht];exact List.getElem?_eq_getElem hi2
   have hmem:t∈l:=by rw[ht];exact List.getElem_mem hi2
   obtain⟨T,hT⟩:=eX (prE 0 t);have hPi:P[i]?=some (q++([32,61,32]++T)):=by rw[HPP.out,hT];exact Ziz hm (ZhM hget)
   have HPI:=Hd hPi;have h1:=Zgg (s:=[44,32]) hPi;have h2:=ZhR [44,32] P i;have h3:=HLEN.out;simp only[lA,lC,lN] at h1;have hlm:q.length≤1000000:=by omega
   have hlT:T.length≤1000000:=by omega
   have hlj:(jt [44,32] P i).length≤1000000:=by omega
   obtain⟨gn,on,ds,rfl,hgn,hds,hdc⟩:=Sub.at (k:=1) (fun _=>rfl) (S4.out.below hB.out) hm (by rw[HL.out];omega);obtain⟨g,o,cs,rfl,hg,hcs,hcell⟩:=Sub.at (ZaB 31 41) (S5.out.below hB.out) hget (by omega);obtain⟨x,ys,rfl,k0,-⟩:=hds.uncons;simp only[IsC] at k0;subst k0;have n0:=hdc 0 _ rfl;rw[aZ,Nat.mul_one] at n0;have HCT:=Hd (HT.out t hmem false (by rw[show tq false=0 from rfl,←hT];exact hlT));rw[show tq false=0 from rfl,←hT] at HCT;obtain⟨tk,ta,tn,tm,tns,tl,tts⟩:=t;obtain⟨e4,f4,e5,f5,e6,f6,rfl,-,-,-⟩:=ZbH hcs;have HCS:=Hd hcs;have hbz:=HZ.out;have HGN:=Hd hgn;have HG:=Hd hg;have HLW:=Hd (ll HLT.out hB.out.size);have cS1:∀p:Regrown,Calls Tryz.prog 27 #[.agg #[.int .i64 tk,.int .i64 ta,.string ⟨tn.toArray⟩,.int .i64 tm,.slice e4 tns.length f4,.slice e5 tl.length f5,.slice e6 tts.length f6],.bool false] (grow (redrawn wr p.d) p.os) fun e w''=>e=.returned (.string ⟨T.toArray⟩)∧∃p:Regrown,w''=grow (redrawn wr p.d) p.os:=by
    intro p;refine Calls.regrown_of ?_;exact HCT.out _ _ _ (HCS.out.below (below_regrown wr p.d p.os))
   have y4:=rgc HLW.out p4;have y5:=rgc HLW.out p5;have yn:=rgc HGN.out n0;obtain⟨s0,s1,s2,s3,s4,s5,s6⟩:=rg7 HG.out hcell rfl;clear hget ht hmem hT hm hPi h1 h2 h3 hds hdc hcs hcell hgn hg n0 p0 p1 p2 p3 p5 p6;by_cases hi0:i=0
   ·have hz1:decide ((0:Int)<(i:Int))=false:=dF (by omega);have hz2:decide (0<i)=false:=dF (by omega);have HI0:=Hd hi0;clear hi0;go_wp2_with fail
    refine wp_region_quiet_below (by kernel_rfl) (by kernel_rfl) ?_
    repeat (go_big_quiet_step (first | exact cS1 _))
    refine wpQuiet_nil ?_;intro w5 hw5;have B5:=rgB hw5;clear hw5;go_wp2_with fail
    refine⟨⟨i+1,by simp,by omega,?_,Hd (hB.out.trans (B5.out.mono hB.out.size))⟩,?_⟩
    ·obtain rfl:=HI0.out;rw[Zew HPI.out,ZhQ];simp only[Zcc,aA,List.nil_append]
    ·simp[intOf];omega
   ·have hz1:decide ((0:Int)<(i:Int))=true:=dT (by omega);have hz2:decide (0<i)=true:=dT (by omega);have HI0:=Hd (show 0<i by omega);clear hi0;go_wp2_with fail
    refine wp_region_quiet_below (by kernel_rfl) (by kernel_rfl) ?_
    repeat (go_big_quiet_step (first | exact cS1 _))
    refine wpQuiet_nil ?_;intro w5 hw5;have B5:=rgB hw5;clear hw5;go_wp2_with fail
    refine⟨⟨i+1,by simp,by omega,?_,Hd (hB.out.trans (B5.out.mono hB.out.size))⟩,?_⟩
    ·rw[Zgf HI0.out HPI.out];simp only[Zcc,aA]
    ·simp[intOf];omega
  ·have hge:i=l.length:=by omega
   have hlt:decide ((i:Int)<(l.length:Int))=false:=dF (by omega);have hltn:decide (i<l.length)=false:=dF hi2;have HE:=Hd (Zk1 [44,32] P (n:=i) (by rw[HPL.out];exact hge));have h2:=ZhR [44,32] P i;have h3:=HLEN.out;have hlj:(jt [44,32] P i).length≤1000000:=by omega
   clear hge h2 h3;go_wp2_with fail
   have e:((⟨[123].toArray⟩:ByteArray)++⟨(jt [44,32] P i).toArray⟩++⟨[125].toArray⟩)=⟨txt.toArray⟩:=by
    rw[HX.out,←HE.out];simp only[Zcc];rfl
   refine bodyPost_ret (v:=.string ⟨txt.toArray⟩) (by simp[results,Tryz.results27,go_sem,e]) rfl ⟨rfl,?_⟩;exact HB.out.trans (hB.out.mono HB.out.size)
theorem Zmg (pa:Nat)(n:Bs)(m:Nat)(ns:List Bs)(l:List PE)(ts:List PT)(xu:PE)(hu:l[0]?=some xu)(Hu:ReOk xu):ReOk (.mk 6 pa n m ns l ts):=by
 intro tg hlen A w cs h;obtain⟨a4,c4,a5,c5,a6,c6,W,rfl,HW,HB,HP,S4,S5,S6,HLT⟩:=Zfl (K:=6) rfl h;obtain⟨txt,htxt⟩:=eX (prE (tq tg) (.mk 6 pa n m ns l ts));rw[←htxt] at hlen⊢;obtain⟨Tu,hTu⟩:=eX (prE 2 xu);have HX:=Hd (show txt=Tu++46::n by
  have:=ZgF tg;rw[htxt,ZaX,ZbO,if_neg (show ¬lvlE 6<tq tg by rw[show lvlE 6=2 from rfl];omega)];rw[hTu,←hd0 (f:=prE 2) hu];rfl)
 have HLN:=Hd (show (Tu++46::n).length≤1000000 by rw[←HX.out];exact hlen);have hlq:=HLN.out;simp only[lA,lC] at hlq;have hln:n.length≤1000000:=by omega
 have hlu:Tu.length≤1000000:=by omega
 have HCu:=Hd (Hu true (by rw[show tq true=2 from rfl,←hTu];exact hlu));rw[show tq true=2 from rfl,←hTu] at HCu;clear h htxt;obtain⟨⟨p0,p1,p2,p3,p4,p5,p6⟩,-⟩:=Zai (t:=41) HP.out;clear hlq hlen hTu Hu;have hnu:0<l.length:=(List.getElem?_eq_some_iff.1 hu).1;obtain⟨gEq,oE,csu,rfl,hgE,hcsu,hcellu⟩:=Sub.at (i:=0) (ZaB 31 41) S5.out hu (by omega);have HGE:=Hd hgE;clear hgE;obtain⟨uk,ua,un,um,uns,ul,uts⟩:=xu;obtain⟨u4,ud4,u5,ud5,u6,ud6,rfl,-,-,-⟩:=ZbH hcsu;have HCSu:=Hd hcsu;have cSu:=rgk (W:=W) fun _ hb=>HCu.out _ _ _ (HCSu.out.below hb)
 obtain⟨su0,su1,su2,su3,su4,su5,su6⟩:=rg7 HGE.out hcellu (b:=oE) (by simp);have y2:=rgc HLT.out p2;have y5:=rgc HLT.out p5;clear p1 p2 p3 p4 p5 p6 hcellu hcsu hu;have e:(⟨Tu.toArray⟩++⟨[46].toArray⟩++⟨n.toArray⟩:ByteArray)=⟨txt.toArray⟩:=by
  rw[HX.out];simp only[Zcc,aA];rfl
 have HE:=Hd e;clear e;go_enter Tryz.func27,Tryz.ntmps27
 go_upto_region 1 with fail
 rw[HW.out];go_wp2_with fail
 refine wp_region_quiet_below (by kernel_rfl) (by kernel_rfl) ?_
 repeat (go_big_quiet_step (first | with_reducible exact cSu _))
 refine wpQuiet_nil ?_;intro w5 hw5;have B5:=rgB hw5;clear hw5;have e:=HE.out;go_wp2_with fail
 refine bodyPost_ret (v:=.string ⟨txt.toArray⟩) (by first | (simp[results,Tryz.results27,go_sem];done) | simp[results,Tryz.results27,go_sem,e]) rfl ⟨rfl,?_⟩;exact HB.out.trans (B5.out.mono HB.out.size)
theorem Zoe (pa:Nat)(n:Bs)(m:Nat)(ns:List Bs)(l:List PE)(ts:List PT)(xu:PE)(hu:l[0]?=some xu)(Hu:ReOk xu)(xv:PE)(hv:l[1]?=some xv)(Hv:ReOk xv):ReOk (.mk 7 pa n m ns l ts):=by
 intro tg hlen A w cs h;obtain⟨a4,c4,a5,c5,a6,c6,W,rfl,HW,HB,HP,S4,S5,S6,HLT⟩:=Zfl (K:=7) rfl h;obtain⟨txt,htxt⟩:=eX (prE (tq tg) (.mk 7 pa n m ns l ts));rw[←htxt] at hlen⊢;obtain⟨Tu,hTu⟩:=eX (prE 2 xu);obtain⟨Tv,hTv⟩:=eX (prE 0 xv);have HX:=Hd (show txt=Tu++40::(Tv++[41]) by
  have:=ZgF tg;rw[htxt,ZaX,ZbO,if_neg (show ¬lvlE 7<tq tg by rw[show lvlE 7=2 from rfl];omega)];rw[hTu,←hd0 (f:=prE 2) hu,hTv,←hd1 (f:=prE 0) hv];rfl)
 have HLN:=Hd (show (Tu++40::(Tv++[41])).length≤1000000 by rw[←HX.out];exact hlen);have hlq:=HLN.out;simp only[lA,lC,lN] at hlq;have hlu:Tu.length≤1000000:=by omega
 have HCu:=Hd (Hu true (by rw[show tq true=2 from rfl,←hTu];exact hlu));rw[show tq true=2 from rfl,←hTu] at HCu;have hlv:Tv.length≤1000000:=by omega
 have HCv:=Hd (Hv false (by rw[show tq false=0 from rfl,←hTv];exact hlv));rw[show tq false=0 from rfl,←hTv] at HCv;clear h htxt;obtain⟨⟨p0,p1,p2,p3,p4,p5,p6⟩,-⟩:=Zai (t:=41) HP.out;clear hlq hlen hTu Hu hTv Hv;have hnu:0<l.length:=(List.getElem?_eq_some_iff.1 hu).1;obtain⟨gEq,oE,csu,rfl,hgE,hcsu,hcellu⟩:=Sub.at (i:=0) (ZaB 31 41) S5.out hu (by omega);have HGE:=Hd hgE;clear hgE;obtain⟨uk,ua,un,um,uns,ul,uts⟩:=xu;obtain⟨u4,ud4,u5,ud5,u6,ud6,rfl,-,-,-⟩:=ZbH hcsu;have HCSu:=Hd hcsu;have cSu:=rgk (W:=W) fun _ hb=>HCu.out _ _ _ (HCSu.out.below hb)
 obtain⟨su0,su1,su2,su3,su4,su5,su6⟩:=rg7 HGE.out hcellu (b:=oE) (by simp);have hnv:1<l.length:=(List.getElem?_eq_some_iff.1 hv).1;obtain⟨g',o',csv,eq,-,hcsv,hcellv⟩:=Sub.at (i:=1) (ZaB 31 41) S5.out hv (by omega);have eg:gEq=g'∧oE=o':=by
  injection eq with eq
  injection eq with e1 e2 e3
  exact⟨e1,e2⟩
 obtain⟨rfl,rfl⟩:=eg;clear eq;obtain⟨vk,va,vn,vm,vns,vl,vts⟩:=xv;obtain⟨v4,vd4,v5,vd5,v6,vd6,rfl,-,-,-⟩:=ZbH hcsv;have HCSv:=Hd hcsv;have cSv:=rgk (W:=W) fun _ hb=>HCv.out _ _ _ (HCSv.out.below hb)
 obtain⟨sv0,sv1,sv2,sv3,sv4,sv5,sv6⟩:=rg7 HGE.out hcellv (b:=oE+7) (by simp);have y5:=rgc HLT.out p5;clear p1 p2 p3 p4 p5 p6 hcellu hcsu hu hcellv hcsv hv;have e:(⟨Tu.toArray⟩++⟨[40].toArray⟩++⟨Tv.toArray⟩++⟨[41].toArray⟩:ByteArray)=⟨txt.toArray⟩:=by
  rw[HX.out];simp only[Zcc,aA];rfl
 have HE:=Hd e;clear e;go_enter Tryz.func27,Tryz.ntmps27
 go_upto_region 1 with fail
 rw[HW.out];go_wp2_with fail
 refine wp_region_quiet_below (by kernel_rfl) (by kernel_rfl) ?_
 repeat (go_big_quiet_step (first | with_reducible exact cSu _ | with_reducible exact cSv _))
 refine wpQuiet_nil ?_;intro w5 hw5;have B5:=rgB hw5;clear hw5;have e:=HE.out;go_wp2_with fail
 refine bodyPost_ret (v:=.string ⟨txt.toArray⟩) (by first | (simp[results,Tryz.results27,go_sem];done) | simp[results,Tryz.results27,go_sem,e]) rfl ⟨rfl,?_⟩;exact HB.out.trans (B5.out.mono HB.out.size)
theorem re_as (pa:Nat)(n:Bs)(m:Nat)(ns:List Bs)(l:List PE)(ts:List PT)(xu:PE)(hu:l[0]?=some xu)(Hu:ReOk xu)(xv:PT)(hv:ts[0]?=some xv)(Hv:RtOk xv):ReOk (.mk 11 pa n m ns l ts):=by
 intro tg hlen A w cs h;obtain⟨a4,c4,a5,c5,a6,c6,W,rfl,HW,HB,HP,S4,S5,S6,HLT⟩:=Zfl (K:=11) rfl h;obtain⟨txt,htxt⟩:=eX (prE (tq tg) (.mk 11 pa n m ns l ts));rw[←htxt] at hlen⊢;obtain⟨Tu,hTu⟩:=eX (prE 0 xu);obtain⟨Tv,hTv⟩:=eX (prT 0 xv);have HX:=Hd (show txt=40::(Tu++32::58::32::(Tv++[41])) by
  have:=ZgF tg;rw[htxt,ZaX,ZbO,if_neg (show ¬lvlE 11<tq tg by rw[show lvlE 11=2 from rfl];omega)];rw[hTu,←hd0 (f:=prE 0) hu,hTv,←hd0 (f:=prT 0) hv];rfl)
 have HLN:=Hd (show (40::(Tu++32::58::32::(Tv++[41]))).length≤1000000 by rw[←HX.out];exact hlen);have hlq:=HLN.out;simp only[lA,lC,lN] at hlq;have hlu:Tu.length≤1000000:=by omega
 have HCu:=Hd (Hu false (by rw[show tq false=0 from rfl,←hTu];exact hlu));rw[show tq false=0 from rfl,←hTu] at HCu;have hlv:Tv.length≤1000000:=by omega
 have HCv:=Hd (Hv 0 (by decide) (by rw[←hTv];exact hlv));rw[←hTv] at HCv;clear h htxt;obtain⟨⟨p0,p1,p2,p3,p4,p5,p6⟩,-⟩:=Zai (t:=41) HP.out;clear hlq hlen hTu Hu hTv Hv;have hnu:0<l.length:=(List.getElem?_eq_some_iff.1 hu).1;obtain⟨gEq,oE,csu,rfl,hgE,hcsu,hcellu⟩:=Sub.at (i:=0) (ZaB 31 41) S5.out hu (by omega);have HGE:=Hd hgE;clear hgE;obtain⟨uk,ua,un,um,uns,ul,uts⟩:=xu;obtain⟨u4,ud4,u5,ud5,u6,ud6,rfl,-,-,-⟩:=ZbH hcsu;have HCSu:=Hd hcsu;have cSu:=rgk (W:=W) fun _ hb=>HCu.out _ _ _ (HCSu.out.below hb)
 obtain⟨su0,su1,su2,su3,su4,su5,su6⟩:=rg7 HGE.out hcellu (b:=oE) (by simp);have hnv:0<ts.length:=(List.getElem?_eq_some_iff.1 hv).1;obtain⟨gT,oT,csv,rfl,hgT,hcsv,hcellv⟩:=Sub.at (i:=0) (Zas 31) S6.out hv (by omega);have HGT:=Hd hgT;clear hgT;obtain⟨vk,vn,vns,vl⟩:=xv;obtain⟨v2,vd2,v3,vd3,rfl,-,-⟩:=ZbP hcsv;have HCSv:=Hd hcsv;have cSv:∀p:Regrown,Calls Tryz.prog 25 #[.agg #[.int .i64 vk,.string ⟨vn.toArray⟩,.slice v2 vns.length vd2,.slice v3 vl.length vd3],.int .i64 0] (grow (redrawn W p.d) p.os) fun e w''=>e=.returned (.string ⟨Tv.toArray⟩)∧∃p:Regrown,w''=grow (redrawn W p.d) p.os:=rgk fun _ hb=>HCv.out _ _ _ (HCSv.out.below hb)
 obtain⟨sv0,sv1,sv2,sv3⟩:=rg4 HGT.out hcellv (b:=oT) (by simp);have y5:=rgc HLT.out p5;have y6:=rgc HLT.out p6;clear p1 p2 p3 p4 p5 p6 hcellu hcsu hu hcellv hcsv hv;have e:(⟨[40].toArray⟩++⟨Tu.toArray⟩++⟨[32,58,32].toArray⟩++⟨Tv.toArray⟩++⟨[41].toArray⟩:ByteArray)=⟨txt.toArray⟩:=by
  rw[HX.out];simp only[Zcc,aA];rfl
 have HE:=Hd e;clear e;go_enter Tryz.func27,Tryz.ntmps27
 go_upto_region 1 with fail
 rw[HW.out];go_wp2_with fail
 refine wp_region_quiet_below (by kernel_rfl) (by kernel_rfl) ?_
 repeat (go_big_quiet_step (first | with_reducible exact cSu _ | with_reducible exact cSv _))
 refine wpQuiet_nil ?_;intro w5 hw5;have B5:=rgB hw5;clear hw5;have e:=HE.out;go_wp2_with fail
 refine bodyPost_ret (v:=.string ⟨txt.toArray⟩) (by first | (simp[results,Tryz.results27,go_sem];done) | simp[results,Tryz.results27,go_sem,e]) rfl ⟨rfl,?_⟩;exact HB.out.trans (B5.out.mono HB.out.size)
theorem re_fun (pa:Nat)(n:Bs)(m:Nat)(ns:List Bs)(l:List PE)(ts:List PT)(xu:PT)(hu:ts[0]?=some xu)(Hu:RtOk xu)(xv:PE)(hv:l[0]?=some xv)(Hv:ReOk xv):ReOk (.mk 8 pa n m ns l ts):=by
 intro tg hlen A w cs h;obtain⟨a4,c4,a5,c5,a6,c6,W,rfl,HW,HB,HP,S4,S5,S6,HLT⟩:=Zfl (K:=8) rfl h;obtain⟨txt,htxt⟩:=eX (prE (tq tg) (.mk 8 pa n m ns l ts));rw[←htxt] at hlen⊢;obtain⟨Tu,hTu⟩:=eX (prT 0 xu);obtain⟨Tv,hTv⟩:=eX (prE 0 xv);have HX:=Hd (show txt=ZbO (tq tg) 8 ([102,117,110]++(32::40::(n++32::58::32::(Tu++41::32::Tv)))) by rw[htxt,ZaX,hTu,←hd0 (f:=prT 0) hu,hTv,←hd0 (f:=prE 0) hv];rfl);have HLN:=Hd (show ([102,117,110]++(32::40::(n++32::58::32::(Tu++41::32::Tv)))).length≤1000000 by
  rw[HX.out,ZbO] at hlen;split at hlen
  ·simp only[lA,lC] at hlen⊢;omega
  ·exact hlen)
 have hlq:=HLN.out;simp only[lA,lC,lN] at hlq;have hln:n.length≤1000000:=by omega
 have hlu:Tu.length≤1000000:=by omega
 have HCu:=Hd (Hu 0 (by decide) (by rw[←hTu];exact hlu));rw[←hTu] at HCu;have hlv:Tv.length≤1000000:=by omega
 have HCv:=Hd (Hv false (by rw[show tq false=0 from rfl,←hTv];exact hlv));rw[show tq false=0 from rfl,←hTv] at HCv;clear h htxt;obtain⟨⟨p0,p1,p2,p3,p4,p5,p6⟩,-⟩:=Zai (t:=41) HP.out;clear hlq hlen hTu Hu hTv Hv;have hnu:0<ts.length:=(List.getElem?_eq_some_iff.1 hu).1;obtain⟨gT,oT,csu,rfl,hgT,hcsu,hcellu⟩:=Sub.at (i:=0) (Zas 31) S6.out hu (by omega);have HGT:=Hd hgT;clear hgT;obtain⟨uk,un,uns,ul⟩:=xu;obtain⟨u2,ud2,u3,ud3,rfl,-,-⟩:=ZbP hcsu;have HCSu:=Hd hcsu;have cSu:∀p:Regrown,Calls Tryz.prog 25 #[.agg #[.int .i64 uk,.string ⟨un.toArray⟩,.slice u2 uns.length ud2,.slice u3 ul.length ud3],.int .i64 0] (grow (redrawn W p.d) p.os) fun e w''=>e=.returned (.string ⟨Tu.toArray⟩)∧∃p:Regrown,w''=grow (redrawn W p.d) p.os:=rgk fun _ hb=>HCu.out _ _ _ (HCSu.out.below hb)
 obtain⟨su0,su1,su2,su3⟩:=rg4 HGT.out hcellu (b:=oT) (by simp);have hnv:0<l.length:=(List.getElem?_eq_some_iff.1 hv).1;obtain⟨gEq,oE,csv,rfl,hgE,hcsv,hcellv⟩:=Sub.at (i:=0) (ZaB 31 41) S5.out hv (by omega);have HGE:=Hd hgE;clear hgE;obtain⟨vk,va,vn,vm,vns,vl,vts⟩:=xv;obtain⟨v4,vd4,v5,vd5,v6,vd6,rfl,-,-,-⟩:=ZbH hcsv;have HCSv:=Hd hcsv;have cSv:=rgk (W:=W) fun _ hb=>HCv.out _ _ _ (HCSv.out.below hb)
 obtain⟨sv0,sv1,sv2,sv3,sv4,sv5,sv6⟩:=rg7 HGE.out hcellv (b:=oE) (by simp);have y2:=rgc HLT.out p2;have y5:=rgc HLT.out p5;have y6:=rgc HLT.out p6;clear p1 p2 p3 p4 p5 p6 hcellu hcsu hu hcellv hcsv hv;go_enter Tryz.func27,Tryz.ntmps27
 go_upto_region 1 with fail
 rw[HW.out];go_wp2_with fail
 refine wp_region_quiet_below (by kernel_rfl) (by kernel_rfl) ?_
 repeat (go_big_quiet_step (first | with_reducible exact cSu _ | with_reducible exact cSv _))
 refine wpQuiet_nil ?_;intro w5 hw5;have B5:=rgB hw5;clear hw5;cases tg with
 | true=>
  have e:(⟨[40].toArray⟩++(⟨[102,117,110,32,40].toArray⟩++⟨n.toArray⟩++⟨[32,58,32].toArray⟩++⟨Tu.toArray⟩++⟨[41,32].toArray⟩++⟨Tv.toArray⟩:ByteArray)++⟨[41].toArray⟩:ByteArray)=⟨txt.toArray⟩:=by
   rw[HX.out,ZbO,if_pos (show lvlE 8<tq true by decide)];simp only[Zcc,aA,cA,List.nil_append]
  go_wp2_with fail
  refine bodyPost_ret (v:=.string ⟨txt.toArray⟩) (by first | (simp[results,Tryz.results27,go_sem];done) | simp[results,Tryz.results27,go_sem,e]) rfl ⟨rfl,?_⟩;exact HB.out.trans (B5.out.mono HB.out.size)
 | false=>
  have e:((⟨[102,117,110,32,40].toArray⟩++⟨n.toArray⟩++⟨[32,58,32].toArray⟩++⟨Tu.toArray⟩++⟨[41,32].toArray⟩++⟨Tv.toArray⟩:ByteArray):ByteArray)=⟨txt.toArray⟩:=by
   rw[HX.out,ZbO,if_neg (show ¬lvlE 8<tq false by decide)];simp only[Zcc,aA,cA,List.nil_append]
  go_wp2_with fail
  refine bodyPost_ret (v:=.string ⟨txt.toArray⟩) (by first | (simp[results,Tryz.results27,go_sem];done) | simp[results,Tryz.results27,go_sem,e]) rfl ⟨rfl,?_⟩;exact HB.out.trans (B5.out.mono HB.out.size)
theorem re_let (pa:Nat)(n:Bs)(m:Nat)(ns:List Bs)(l:List PE)(ts:List PT)(xu:PE)(hu:l[0]?=some xu)(Hu:ReOk xu)(xv:PE)(hv:l[1]?=some xv)(Hv:ReOk xv):ReOk (.mk 9 pa n m ns l ts):=by
 intro tg hlen A w cs h;obtain⟨a4,c4,a5,c5,a6,c6,W,rfl,HW,HB,HP,S4,S5,S6,HLT⟩:=Zfl (K:=9) rfl h;obtain⟨txt,htxt⟩:=eX (prE (tq tg) (.mk 9 pa n m ns l ts));rw[←htxt] at hlen⊢;obtain⟨Tu,hTu⟩:=eX (prE 0 xu);obtain⟨Tv,hTv⟩:=eX (prE 0 xv);have HX:=Hd (show txt=ZbO (tq tg) 9 ([108,101,116]++(32::(n++32::61::32::(Tu++32::([105,110]++32::Tv))))) by rw[htxt,ZaX,hTu,←hd0 (f:=prE 0) hu,hTv,←hd1 (f:=prE 0) hv];rfl);have HLN:=Hd (show ([108,101,116]++(32::(n++32::61::32::(Tu++32::([105,110]++32::Tv))))).length≤1000000 by
  rw[HX.out,ZbO] at hlen;split at hlen
  ·simp only[lA,lC] at hlen⊢;omega
  ·exact hlen)
 have hlq:=HLN.out;simp only[lA,lC,lN] at hlq;have hln:n.length≤1000000:=by omega
 have hlu:Tu.length≤1000000:=by omega
 have HCu:=Hd (Hu false (by rw[show tq false=0 from rfl,←hTu];exact hlu));rw[show tq false=0 from rfl,←hTu] at HCu;have hlv:Tv.length≤1000000:=by omega
 have HCv:=Hd (Hv false (by rw[show tq false=0 from rfl,←hTv];exact hlv));rw[show tq false=0 from rfl,←hTv] at HCv;clear h htxt;obtain⟨⟨p0,p1,p2,p3,p4,p5,p6⟩,-⟩:=Zai (t:=41) HP.out;clear hlq hlen hTu Hu hTv Hv;have hnu:0<l.length:=(List.getElem?_eq_some_iff.1 hu).1;obtain⟨gEq,oE,csu,rfl,hgE,hcsu,hcellu⟩:=Sub.at (i:=0) (ZaB 31 41) S5.out hu (by omega);have HGE:=Hd hgE;clear hgE;obtain⟨uk,ua,un,um,uns,ul,uts⟩:=xu;obtain⟨u4,ud4,u5,ud5,u6,ud6,rfl,-,-,-⟩:=ZbH hcsu;have HCSu:=Hd hcsu;have cSu:=rgk (W:=W) fun _ hb=>HCu.out _ _ _ (HCSu.out.below hb)
 obtain⟨su0,su1,su2,su3,su4,su5,su6⟩:=rg7 HGE.out hcellu (b:=oE) (by simp);have hnv:1<l.length:=(List.getElem?_eq_some_iff.1 hv).1;obtain⟨g',o',csv,eq,-,hcsv,hcellv⟩:=Sub.at (i:=1) (ZaB 31 41) S5.out hv (by omega);have eg:gEq=g'∧oE=o':=by
  injection eq with eq
  injection eq with e1 e2 e3
  exact⟨e1,e2⟩
 obtain⟨rfl,rfl⟩:=eg;clear eq;obtain⟨vk,va,vn,vm,vns,vl,vts⟩:=xv;obtain⟨v4,vd4,v5,vd5,v6,vd6,rfl,-,-,-⟩:=ZbH hcsv;have HCSv:=Hd hcsv;have cSv:=rgk (W:=W) fun _ hb=>HCv.out _ _ _ (HCSv.out.below hb)
 obtain⟨sv0,sv1,sv2,sv3,sv4,sv5,sv6⟩:=rg7 HGE.out hcellv (b:=oE+7) (by simp);have y2:=rgc HLT.out p2;have y5:=rgc HLT.out p5;clear p1 p2 p3 p4 p5 p6 hcellu hcsu hu hcellv hcsv hv;go_enter Tryz.func27,Tryz.ntmps27
 go_upto_region 1 with fail
 rw[HW.out];go_wp2_with fail
 refine wp_region_quiet_below (by kernel_rfl) (by kernel_rfl) ?_
 repeat (go_big_quiet_step (first | with_reducible exact cSu _ | with_reducible exact cSv _))
 refine wpQuiet_nil ?_;intro w5 hw5;have B5:=rgB hw5;clear hw5;cases tg with
 | true=>
  have e:(⟨[40].toArray⟩++(⟨[108,101,116,32].toArray⟩++⟨n.toArray⟩++⟨[32,61,32].toArray⟩++⟨Tu.toArray⟩++⟨[32,105,110,32].toArray⟩++⟨Tv.toArray⟩:ByteArray)++⟨[41].toArray⟩:ByteArray)=⟨txt.toArray⟩:=by
   rw[HX.out,ZbO,if_pos (show lvlE 9<tq true by decide)];simp only[Zcc,aA,cA,List.nil_append]
  go_wp2_with fail
  refine bodyPost_ret (v:=.string ⟨txt.toArray⟩) (by first | (simp[results,Tryz.results27,go_sem];done) | simp[results,Tryz.results27,go_sem,e]) rfl ⟨rfl,?_⟩;exact HB.out.trans (B5.out.mono HB.out.size)
 | false=>
  have e:((⟨[108,101,116,32].toArray⟩++⟨n.toArray⟩++⟨[32,61,32].toArray⟩++⟨Tu.toArray⟩++⟨[32,105,110,32].toArray⟩++⟨Tv.toArray⟩:ByteArray):ByteArray)=⟨txt.toArray⟩:=by
   rw[HX.out,ZbO,if_neg (show ¬lvlE 9<tq false by decide)];simp only[Zcc,aA,cA,List.nil_append]
  go_wp2_with fail
  refine bodyPost_ret (v:=.string ⟨txt.toArray⟩) (by first | (simp[results,Tryz.results27,go_sem];done) | simp[results,Tryz.results27,go_sem,e]) rfl ⟨rfl,?_⟩;exact HB.out.trans (B5.out.mono HB.out.size)
theorem re_if (pa:Nat)(n:Bs)(m:Nat)(ns:List Bs)(l:List PE)(ts:List PT)(xu:PE)(hu:l[0]?=some xu)(Hu:ReOk xu)(xv:PE)(hv:l[1]?=some xv)(Hv:ReOk xv)(xz:PE)(hz:l[2]?=some xz)(Hz:ReOk xz):ReOk (.mk 10 pa n m ns l ts):=by
 intro tg hlen A w cs h;obtain⟨a4,c4,a5,c5,a6,c6,W,rfl,HW,HB,HP,S4,S5,S6,HLT⟩:=Zfl (K:=10) rfl h;obtain⟨txt,htxt⟩:=eX (prE (tq tg) (.mk 10 pa n m ns l ts));rw[←htxt] at hlen⊢;obtain⟨Tu,hTu⟩:=eX (prE 0 xu);obtain⟨Tv,hTv⟩:=eX (prE 0 xv);obtain⟨Tz,hTz⟩:=eX (prE 0 xz);have HX:=Hd (show txt=ZbO (tq tg) 10 ([105,102]++(32::(Tu++32::([116,104,101,110]++32::(Tv++32::([101,108,115,101]++32::Tz)))))) by rw[htxt,ZaX,hTu,←hd0 (f:=prE 0) hu,hTv,←hd1 (f:=prE 0) hv,hTz,←hd2 (f:=prE 0) hz];rfl);have HLN:=Hd (show ([105,102]++(32::(Tu++32::([116,104,101,110]++32::(Tv++32::([101,108,115,101]++32::Tz)))))).length≤1000000 by
  rw[HX.out,ZbO] at hlen;split at hlen
  ·simp only[lA,lC] at hlen⊢;omega
  ·exact hlen)
 have hlq:=HLN.out;simp only[lA,lC,lN] at hlq;have hlu:Tu.length≤1000000:=by omega
 have HCu:=Hd (Hu false (by rw[show tq false=0 from rfl,←hTu];exact hlu));rw[show tq false=0 from rfl,←hTu] at HCu;have hlv:Tv.length≤1000000:=by omega
 have HCv:=Hd (Hv false (by rw[show tq false=0 from rfl,←hTv];exact hlv));rw[show tq false=0 from rfl,←hTv] at HCv;have hlz:Tz.length≤1000000:=by omega
 have HCz:=Hd (Hz false (by rw[show tq false=0 from rfl,←hTz];exact hlz));rw[show tq false=0 from rfl,←hTz] at HCz;clear h htxt;obtain⟨⟨p0,p1,p2,p3,p4,p5,p6⟩,-⟩:=Zai (t:=41) HP.out;clear hlq hlen hTu Hu hTv Hv hTz Hz;have hnu:0<l.length:=(List.getElem?_eq_some_iff.1 hu).1;obtain⟨gEq,oE,csu,rfl,hgE,hcsu,hcellu⟩:=Sub.at (i:=0) (ZaB 31 41) S5.out hu (by omega);have HGE:=Hd hgE;clear hgE;obtain⟨uk,ua,un,um,uns,ul,uts⟩:=xu;obtain⟨u4,ud4,u5,ud5,u6,ud6,rfl,-,-,-⟩:=ZbH hcsu;have HCSu:=Hd hcsu;have cSu:=rgk (W:=W) fun _ hb=>HCu.out _ _ _ (HCSu.out.below hb)
 obtain⟨su0,su1,su2,su3,su4,su5,su6⟩:=rg7 HGE.out hcellu (b:=oE) (by simp);have hnv:1<l.length:=(List.getElem?_eq_some_iff.1 hv).1;obtain⟨g',o',csv,eq,-,hcsv,hcellv⟩:=Sub.at (i:=1) (ZaB 31 41) S5.out hv (by omega);have eg:gEq=g'∧oE=o':=by
  injection eq with eq
  injection eq with e1 e2 e3
  exact⟨e1,e2⟩
 obtain⟨rfl,rfl⟩:=eg;clear eq;obtain⟨vk,va,vn,vm,vns,vl,vts⟩:=xv;obtain⟨v4,vd4,v5,vd5,v6,vd6,rfl,-,-,-⟩:=ZbH hcsv;have HCSv:=Hd hcsv;have cSv:=rgk (W:=W) fun _ hb=>HCv.out _ _ _ (HCSv.out.below hb)
 obtain⟨sv0,sv1,sv2,sv3,sv4,sv5,sv6⟩:=rg7 HGE.out hcellv (b:=oE+7) (by simp);have hnz:2<l.length:=(List.getElem?_eq_some_iff.1 hz).1;obtain⟨g',o',csz,eq,-,hcsz,hcellz⟩:=Sub.at (i:=2) (ZaB 31 41) S5.out hz (by omega);have eg:gEq=g'∧oE=o':=by
  injection eq with eq
  injection eq with e1 e2 e3
  exact⟨e1,e2⟩
 obtain⟨rfl,rfl⟩:=eg;clear eq;obtain⟨zk,za,zn,zm,zns,zl,zts⟩:=xz;obtain⟨z4,zd4,z5,zd5,z6,zd6,rfl,-,-,-⟩:=ZbH hcsz;have HCSz:=Hd hcsz;have cSz:=rgk (W:=W) fun _ hb=>HCz.out _ _ _ (HCSz.out.below hb)
 obtain⟨sz0,sz1,sz2,sz3,sz4,sz5,sz6⟩:=rg7 HGE.out hcellz (b:=oE+14) (by simp);have y5:=rgc HLT.out p5;clear p1 p2 p3 p4 p5 p6 hcellu hcsu hu hcellv hcsv hv hcellz hcsz hz;go_enter Tryz.func27,Tryz.ntmps27
 go_upto_region 1 with fail
 rw[HW.out];go_wp2_with fail
 refine wp_region_quiet_below (by kernel_rfl) (by kernel_rfl) ?_
 repeat (go_big_quiet_step (first | with_reducible exact cSu _ | with_reducible exact cSv _ | with_reducible exact cSz _))
 refine wpQuiet_nil ?_;intro w5 hw5;have B5:=rgB hw5;clear hw5;cases tg with
 | true=>
  have e:(⟨[40].toArray⟩++(⟨[105,102,32].toArray⟩++⟨Tu.toArray⟩++⟨[32,116,104,101,110,32].toArray⟩++⟨Tv.toArray⟩++⟨[32,101,108,115,101,32].toArray⟩++⟨Tz.toArray⟩:ByteArray)++⟨[41].toArray⟩:ByteArray)=⟨txt.toArray⟩:=by
   rw[HX.out,ZbO,if_pos (show lvlE 10<tq true by decide)];simp only[Zcc,aA,cA,List.nil_append]
  go_wp2_with fail
  refine bodyPost_ret (v:=.string ⟨txt.toArray⟩) (by first | (simp[results,Tryz.results27,go_sem];done) | simp[results,Tryz.results27,go_sem,e]) rfl ⟨rfl,?_⟩;exact HB.out.trans (B5.out.mono HB.out.size)
 | false=>
  have e:((⟨[105,102,32].toArray⟩++⟨Tu.toArray⟩++⟨[32,116,104,101,110,32].toArray⟩++⟨Tv.toArray⟩++⟨[32,101,108,115,101,32].toArray⟩++⟨Tz.toArray⟩:ByteArray):ByteArray)=⟨txt.toArray⟩:=by
   rw[HX.out,ZbO,if_neg (show ¬lvlE 10<tq false by decide)];simp only[Zcc,aA,cA,List.nil_append]
  go_wp2_with fail
  refine bodyPost_ret (v:=.string ⟨txt.toArray⟩) (by first | (simp[results,Tryz.results27,go_sem];done) | simp[results,Tryz.results27,go_sem,e]) rfl ⟨rfl,?_⟩;exact HB.out.trans (B5.out.mono HB.out.size)
theorem ZgN:∀x:PE,WE x→NE x→szE x≤1000000→ReOk x:=by
 intro x h
 induction h with
 | @mk k a n m ns l ts hk h5 hNq hT hl ht ih=>
  intro hne hs;rw[szE] at hs;have hlen:=Zih l;have hnn:(k=1→m≤9223372036854775807)∧∀x∈l,NE x:=by
   cases hne with
   | mk n1 n2=>exact⟨n1,n2⟩
  obtain⟨n1,n2⟩:=hnn;have hX:∀(i:Nat) (hi:i<l.length),∃y,l[i]?=some y∧ReOk y:=fun i hi=>by
   have h1:l[i]?=some l[i]:=List.getElem?_eq_getElem hi;have:=ZfZ l i _ h1;exact⟨_,h1,ih _ (List.getElem_mem hi) (n2 _ (List.getElem_mem hi)) (by omega)⟩
  have hY:0<ts.length→∃y,ts[0]?=some y∧RtOk y:=fun hi=>by
   have h1:ts[0]?=some ts[0]:=List.getElem?_eq_getElem hi;have:=Zeo ts 0 _ h1;exact⟨_,h1,ZeT _ (ht _ (List.getElem_mem hi)) (by omega)⟩
  have hc:k=1∨k=2∨k=3∨k=4∨k=5∨k=6∨k=7∨k=8∨k=9∨k=10∨k=11:=by omega
  rcases hc with rfl | rfl | rfl | rfl | rfl | rfl | rfl | rfl | rfl | rfl | rfl
  ·exact re_num a n m ns l ts (n1 rfl)
  ·exact Zoc a n m ns l ts
  ·exact Zof a n m ns l ts
  ·exact Zod a n m ns l ts
  ·exact re_rec a n m ns l ts (h5 rfl) (by omega) fun t ht=>by
    obtain⟨i,hi,rfl⟩:=List.getElem_of_mem ht;obtain⟨y,e,hy⟩:=hX i hi;rw[List.getElem?_eq_getElem hi] at e;injection e with e
    rw[e];exact hy
  ·obtain⟨x,e,hx⟩:=hX 0 (show 1≤l.length from hNq);exact Zmg a n m ns l ts x e hx
  ·have hNq:2≤l.length:=hNq;obtain⟨x,e,hx⟩:=hX 0 (by omega);obtain⟨y,f,hy⟩:=hX 1 (by omega);exact Zoe a n m ns l ts x e hx y f hy
  ·obtain⟨x,e,hx⟩:=hX 0 (show 1≤l.length from hNq);obtain⟨y,f,hy⟩:=hY (hT (.inl rfl));exact re_fun a n m ns l ts y f hy x e hx
  ·have hNq:2≤l.length:=hNq;obtain⟨x,e,hx⟩:=hX 0 (by omega);obtain⟨y,f,hy⟩:=hX 1 (by omega);exact re_let a n m ns l ts x e hx y f hy
  ·have hNq:3≤l.length:=hNq;obtain⟨x,e,hx⟩:=hX 0 (by omega);obtain⟨y,f,hy⟩:=hX 1 (by omega);obtain⟨z,g,hz⟩:=hX 2 (by omega);exact re_if a n m ns l ts x e hx y f hy z g hz
  ·obtain⟨x,e,hx⟩:=hX 0 (show 1≤l.length from hNq);obtain⟨y,f,hy⟩:=hY (hT (.inr rfl));exact re_as a n m ns l ts x e hx y f hy
theorem Zlp (e f:TypeId)(d:PD):(encD e f d).length=5:=rfl
theorem Zkj (l:List PD)(hW:∀d∈l,WD d)(hNq:∀d∈l,∀e∈d.es,NE e)(hsz:szDs l≤1000000)(hlen:(prF l).length≤1000000)(A:Nat→Prop)(w:World)(v:Value)(h:Sub A w (ZdF 31 41 l) l.length v) :
  Calls Tryz.prog 22 #[v] w fun e w'=>e=.returned (.string ⟨(prF l).toArray⟩)∧Below w.heap.size w w':=by
 obtain⟨a0,cap,_,rfl,-,-⟩:=id h;have S1:=Hd (show Sub A w (l.flatMap (encD 31 41)) l.length (.slice a0 l.length cap) from h);have HW:=Hd hW;have HNE:=Hd hNq;have HSZ:=Hd hsz;have HLL:=Hd (Nat.le_trans (ZdL l) hsz);have HLEN:=Hd hlen;obtain⟨txt,htxt⟩:=eX (prF l);rw[←htxt];have HTX:=Hd htxt;clear h hW hNq hsz hlen htxt;go_enter Tryz.func22,Tryz.ntmps22
 go_wp2_with fail
 go_loopw [3,4] (fun s3 s4 wr=>∃i:Nat,s4=.int .i64 i∧i≤l.length∧s3=.string ⟨(prF (l.take i)).toArray⟩∧Hid (Below w.heap.size w wr)) (fun _ s4 _=>l.length-(intOf s4).toNat)
 case atStart=>exact⟨0,rfl,Nat.zero_le _,rfl,Below.refl _ _⟩
 case round=>
  obtain⟨i,rfl,hil,rfl,hB⟩:=hrel;by_cases hi2:i<l.length
  ·have hlt:decide ((i:Int)<(l.length:Int))=true:=dT (by omega);have hltn:decide (i<l.length)=true:=dT hi2;obtain⟨d,hd⟩:=eX (l[i]);have hget:l[i]?=some d:=by rw[hd];exact List.getElem?_eq_getElem hi2
   have hmem:d∈l:=by rw[hd];exact List.getElem_mem hi2
   have HWD:=Hd (HW.out d hmem);have HNX:=Hd (HNE.out d hmem);have HSD:=Hd (show szD d≤1000000 from Nat.le_trans (Zii l i d hget) HSZ.out);have HTK:=Hd (Zet l hget);have h1:=Ziu l (i+1);have h2:=HLEN.out;rw[HTK.out,lA] at h1;have HLD:=Hd (show (prD d).length≤1000000 by omega);have hlj:(prF (l.take i)).length≤1000000:=by omega
   obtain⟨g,o,cs,rfl,hg,hcs,hcell⟩:=Sub.at (Zlp 31 41) (S1.out.below hB.out) hget (by omega);obtain⟨dk,da,dn,dts,des⟩:=d;obtain⟨a3,c3,a4,c4,rfl,h3,h4⟩:=Zgs hcs;have d0:=hcell 0 _ rfl;have d1:=hcell 1 _ rfl;have d2:=hcell 2 _ rfl;have d3:=hcell 3 _ rfl;have d4:=hcell 4 _ rfl;rw[aZ] at d0;have hbz:=HLL.out;obtain⟨pt,hpt⟩:=eX (prF (l.take i));rw[←hpt] at HTK hlj⊢;obtain⟨W5,hW5⟩:=eY (wr.alloc (.cells #[.int .i64 dk,.int .i64 da,.string ⟨dn.toArray⟩,.slice a3 dts.length c3,.slice a4 des.length c4] 114));have b5:Below wr.heap.size wr W5:=by rw[←hW5];exact (Below.refl _ _).alloc (nl _) _
   have HP:=Hd (show Fiv W5 wr.heap.size 114 (.int .i64 dk) (.int .i64 da) (.string ⟨dn.toArray⟩) (.slice a3 dts.length c3) (.slice a4 des.length c4) by rw[←hW5];exact hN wr _);have G3:=Hd ((Sub.of_row h3 (by rw[ZaE];exact ZaF (Zas 31) dts)).below b5);have G4:=Hd ((Sub.of_row h4 (by rw[Zcb];exact ZaF (ZaB 31 41) des)).below b5);rw[ZaE] at G3;rw[Zcb] at G4;have HB5:=Hd (hB.out.trans (b5.mono hB.out.size));have HLT:=Hd (show wr.heap.size<W5.heap.size from (gE HP.out).1);have HW5:=Hd hW5;have hc:dk=1∨dk=2∨dk=3:=HWD.out.kind;have HD2:=Hd (show dk=2→1≤dts.length from HWD.out.two);have HD3:=Hd (show dk=3→1≤des.length from HWD.out.three);have HTT:=Hd (show ∀t,dts[0]?=some t→RtOk t from fun t ht=>ZeT t (HWD.out.ts t (List.mem_of_getElem? ht)) (by
    have h1:=Zeo dts 0 t ht;have h2:=HSD.out;unfold szD at h2;simp only at h2;omega))
   have HEE:=Hd (show ∀x,des[0]?=some x→ReOk x from fun x hx=>ZgN x (HWD.out.es x (List.mem_of_getElem? hx)) (HNX.out x (List.mem_of_getElem? hx)) (by
    have h1:=ZfZ des 0 x hx;have h2:=HSD.out;unfold szD at h2;simp only at h2;omega))
   clear hd hget hmem hcs hcell h3 h4 hW5 b5 h1 h2 hpt hg;rcases hc with rfl | rfl | rfl
   ·have HP:=Hd (show Fiv W5 wr.heap.size 114 (.int .i64 1) (.int .i64 da) (.string ⟨dn.toArray⟩) (.slice a3 dts.length c3) (.slice a4 des.length c4) from HP.out);have HW5:=Hd (show wr.alloc (.cells #[.int .i64 1,.int .i64 da,.string ⟨dn.toArray⟩,.slice a3 dts.length c3,.slice a4 des.length c4] 114)=W5 from HW5.out);obtain⟨⟨p0,p1,p2,p3,p4⟩,-⟩:=Zat (t:=114) HP.out;have HPD:=Hd (show prD ⟨1,da,dn,dts,des⟩=[117,115,101]++32::dn++[59,10] from rfl);have hl:=HLD.out;rw[HPD.out] at hl;simp only[lA,lC,lN] at hl;have hln:dn.length≤1000000:=by omega
    clear hl;go_upto_region 6 with fail
    rw[HW5.out];go_wp2_with fail
    refine⟨⟨i+1,by simp,by omega,?_,Hd (HB5.out)⟩,?_⟩
    ·rw[HTK.out,HPD.out];simp only[Zcc,aA,cA,List.nil_append]
    ·simp[intOf];omega
   ·have HP:=Hd (show Fiv W5 wr.heap.size 114 (.int .i64 2) (.int .i64 da) (.string ⟨dn.toArray⟩) (.slice a3 dts.length c3) (.slice a4 des.length c4) from HP.out);have HW5:=Hd (show wr.alloc (.cells #[.int .i64 2,.int .i64 da,.string ⟨dn.toArray⟩,.slice a3 dts.length c3,.slice a4 des.length c4] 114)=W5 from HW5.out);obtain⟨⟨p0,p1,p2,p3,p4⟩,-⟩:=Zat (t:=114) HP.out;have hts:1≤dts.length:=HD2.out rfl;obtain⟨t,ht⟩:∃t,dts[0]?=some t:=⟨_,List.getElem?_eq_getElem (show 0<dts.length by omega)⟩;have HT:=Hd (HTT.out t ht);obtain⟨T,hT⟩:=eX (prT 0 t);have hT0:(dts.map (prT 0)).headD []=T:=by rw[hT];exact hd0 ht
    obtain⟨g3,o3,cs3,rfl,hg3,hcs3,hcell3⟩:=Sub.at (i:=0) (Zas 31) G3.out ht (by omega);have HPD:=Hd (show prD ⟨2,da,dn,dts,des⟩=[116,121,112,101]++32::(dn++32::61::32::T)++[59,10] from by rw[←hT0];rfl);have hl:=HLD.out;rw[HPD.out] at hl;simp only[lA,lC,lN] at hl;have hln:dn.length≤1000000:=by omega
    have hlT:T.length≤1000000:=by omega
    clear hl;have HCT:=Hd (HT.out 0 (by decide) (by rw[←hT];exact hlT));rw[←hT] at HCT;obtain⟨tk,tn,tns,tl⟩:=t;obtain⟨e2,f2,e3,f3,rfl,-,-⟩:=ZbP hcs3;have t0:=hcell3 0 _ rfl;have t1:=hcell3 1 _ rfl;have t2:=hcell3 2 _ rfl;have t3:=hcell3 3 _ rfl;simp only[Nat.zero_mul,aZ] at t0 t1 t2 t3;have HCS3:=Hd hcs3;have HG3:=Hd hg3;have hnt:0<dts.length:=(List.getElem?_eq_some_iff.1 ht).1;clear hcs3 hcell3 hg3 hT hT0 ht;have cS1:∀p:Regrown,Calls Tryz.prog 25 #[.agg #[.int .i64 tk,.string ⟨tn.toArray⟩,.slice e2 tns.length f2,.slice e3 tl.length f3],.int .i64 0] (grow (redrawn W5 p.d) p.os) fun e w''=>e=.returned (.string ⟨T.toArray⟩)∧∃p:Regrown,w''=grow (redrawn W5 p.d) p.os:=by
     intro p;refine Calls.regrown_of ?_;exact HCT.out _ _ _ (HCS3.out.below (below_regrown W5 p.d p.os))
    have y2:=rgc HLT.out p2;have y3:=rgc HLT.out p3;have s0:=rgc HG3.out t0;have s1:=rgc HG3.out t1;have s2:=rgc HG3.out t2;have s3:=rgc HG3.out t3;clear t0 t1 t2 t3 p1 p2 p3 p4;go_upto_region 6 with fail
    rw[HW5.out];go_wp2_with fail
    refine wp_region_quiet_below (by kernel_rfl) (by kernel_rfl) ?_
    repeat (go_big_quiet_step (first | exact cS1 _))
    refine wpQuiet_nil ?_;intro w6 hw6;have B6:Hid (Below W5.heap.size W5 w6):=by
     obtain⟨p,rfl⟩:=hw6;exact below_regrown W5 p.d p.os
    clear hw6;go_wp2_with fail
    refine⟨⟨i+1,by simp,by omega,?_,Hd (HB5.out.trans (B6.out.mono HB5.out.size))⟩,?_⟩
    ·rw[HTK.out,HPD.out];simp only[Zcc,aA,cA,List.nil_append]
    ·simp[intOf];omega
   ·have HP:=Hd (show Fiv W5 wr.heap.size 114 (.int .i64 3) (.int .i64 da) (.string ⟨dn.toArray⟩) (.slice a3 dts.length c3) (.slice a4 des.length c4) from HP.out);have HW5:=Hd (show wr.alloc (.cells #[.int .i64 3,.int .i64 da,.string ⟨dn.toArray⟩,.slice a3 dts.length c3,.slice a4 des.length c4] 114)=W5 from HW5.out);obtain⟨⟨p0,p1,p2,p3,p4⟩,-⟩:=Zat (t:=114) HP.out;have hes:1≤des.length:=HD3.out rfl;obtain⟨x,hx⟩:∃x,des[0]?=some x:=⟨_,List.getElem?_eq_getElem (show 0<des.length by omega)⟩;have HX:=Hd (HEE.out x hx);obtain⟨X,hX⟩:=eX (prE 0 x);have hX0:(des.map (prE 0)).headD []=X:=by rw[hX];exact hd0 hx
    obtain⟨g4,o4,cs4,rfl,hg4,hcs4,hcell4⟩:=Sub.at (i:=0) (ZaB 31 41) G4.out hx (by omega);by_cases hts:0<dts.length
    ·have hz1:decide ((0:Int)<(dts.length:Int))=true:=dT (by omega);have hz2:decide (0<dts.length)=true:=dT hts;obtain⟨t,ht⟩:∃t,dts[0]?=some t:=⟨_,List.getElem?_eq_getElem (show 0<dts.length by omega)⟩;have HT:=Hd (HTT.out t ht);obtain⟨T,hT⟩:=eX (prT 0 t);have hT0:(dts.map (prT 0)).headD []=T:=by rw[hT];exact hd0 ht
     obtain⟨g3,o3,cs3,rfl,hg3,hcs3,hcell3⟩:=Sub.at (i:=0) (Zas 31) G3.out ht (by omega);have HPD:=Hd (show prD ⟨3,da,dn,dts,des⟩=[108,101,116]++32::(dn++(32::58::32::T++32::61::32::X))++[59,10] from by
      rw[←hT0,←hX0];unfold prD hdD;rw[if_pos (.inr (.inr rfl)),if_neg (by show ¬3=1;decide),if_neg (by show ¬3=2;decide),if_pos rfl,if_neg (by intro e;have e:dts=[]:=e;rw[e] at hts;simp at hts)])
     have hl:=HLD.out;rw[HPD.out] at hl;simp only[lA,lC,lN] at hl;have hln:dn.length≤1000000:=by omega
     have hlT:T.length≤1000000:=by omega
     have hlX:X.length≤1000000:=by omega
     clear hl hts;have HCT:=Hd (HT.out 0 (by decide) (by rw[←hT];exact hlT));rw[←hT] at HCT;obtain⟨tk,tn,tns,tl⟩:=t;obtain⟨e2,f2,e3,f3,rfl,-,-⟩:=ZbP hcs3;have t0:=hcell3 0 _ rfl;have t1:=hcell3 1 _ rfl;have t2:=hcell3 2 _ rfl;have t3:=hcell3 3 _ rfl;simp only[Nat.zero_mul,aZ] at t0 t1 t2 t3;have HCS3:=Hd hcs3;have HG3:=Hd hg3;have hnt:0<dts.length:=(List.getElem?_eq_some_iff.1 ht).1;clear hcs3 hcell3 hg3 hT hT0 ht;have HCX:=Hd (HX.out false (by rw[show tq false=0 from rfl,←hX];exact hlX));rw[show tq false=0 from rfl,←hX] at HCX;obtain⟨xk,xa,xn,xm,xns,xl,xts⟩:=x;obtain⟨q4,r4,q5,r5,q6,r6,rfl,-,-,-⟩:=ZbH hcs4;have x0:=hcell4 0 _ rfl;have x1:=hcell4 1 _ rfl;have x2:=hcell4 2 _ rfl;have x3:=hcell4 3 _ rfl;have x4:=hcell4 4 _ rfl;have x5:=hcell4 5 _ rfl;have x6:=hcell4 6 _ rfl;simp only[Nat.zero_mul,aZ] at x0 x1 x2 x3 x4 x5 x6;have HCS4:=Hd hcs4;have HG4:=Hd hg4;have hnx:0<des.length:=(List.getElem?_eq_some_iff.1 hx).1;clear hcs4 hcell4 hg4 hX hX0 hx;have HC1:=Hd (HCT.out _ W5 _ HCS3.out);go_upto_region 6 with fail
     rw[HW5.out];go_wp2_with fail
     refine HC1.out.mono ?_;rintro e w6 ⟨rfl,b6⟩;have HC2:=Hd (HCX.out _ w6 _ (HCS4.out.below b6));have p4:=(b6.cell (p:=⟨wr.heap.size,4,none⟩) HLT.out).trans p4;have x0:=(b6.cell (p:=⟨g4,o4,none⟩) HG4.out).trans x0;have x1:=(b6.cell (p:=⟨g4,o4+1,none⟩) HG4.out).trans x1;have x2:=(b6.cell (p:=⟨g4,o4+2,none⟩) HG4.out).trans x2;have x3:=(b6.cell (p:=⟨g4,o4+3,none⟩) HG4.out).trans x3;have x4:=(b6.cell (p:=⟨g4,o4+4,none⟩) HG4.out).trans x4;have x5:=(b6.cell (p:=⟨g4,o4+5,none⟩) HG4.out).trans x5;have x6:=(b6.cell (p:=⟨g4,o4+6,none⟩) HG4.out).trans x6;have B6:=Hd b6;clear b6 HC1 p0 p1 p2 p3 t0 t1 t2 t3;go_wp2_with fail
     refine HC2.out.mono ?_;rintro e w7 ⟨rfl,b7⟩;have B7:=Hd (B6.out.trans (b7.mono B6.out.size));clear b7 HC2;go_wp2_with fail
     refine⟨⟨i+1,by simp,by omega,?_,Hd (HB5.out.trans (B7.out.mono HB5.out.size))⟩,?_⟩
     ·rw[HTK.out,HPD.out];simp only[Zcc,aA,cA,List.nil_append]
     ·simp[intOf];omega
    ·have hz1:decide ((0:Int)<(dts.length:Int))=false:=dF (by omega);have hz2:decide (0<dts.length)=false:=dF hts;have HPD:=Hd (show prD ⟨3,da,dn,dts,des⟩=[108,101,116]++32::(dn++([]++32::61::32::X))++[59,10] from by
      rw[←hX0];unfold prD hdD;rw[if_pos (.inr (.inr rfl)),if_neg (by show ¬3=1;decide),if_neg (by show ¬3=2;decide),if_pos rfl,if_pos (by show dts=[];exact List.eq_nil_of_length_eq_zero (by omega))])
     have hl:=HLD.out;rw[HPD.out] at hl;simp only[lA,lC,lN] at hl;have hln:dn.length≤1000000:=by omega
     have hlX:X.length≤1000000:=by omega
     clear hl hts;have HCX:=Hd (HX.out false (by rw[show tq false=0 from rfl,←hX];exact hlX));rw[show tq false=0 from rfl,←hX] at HCX;obtain⟨xk,xa,xn,xm,xns,xl,xts⟩:=x;obtain⟨q4,r4,q5,r5,q6,r6,rfl,-,-,-⟩:=ZbH hcs4;have x0:=hcell4 0 _ rfl;have x1:=hcell4 1 _ rfl;have x2:=hcell4 2 _ rfl;have x3:=hcell4 3 _ rfl;have x4:=hcell4 4 _ rfl;have x5:=hcell4 5 _ rfl;have x6:=hcell4 6 _ rfl;simp only[Nat.zero_mul,aZ] at x0 x1 x2 x3 x4 x5 x6;have HCS4:=Hd hcs4;have HG4:=Hd hg4;have hnx:0<des.length:=(List.getElem?_eq_some_iff.1 hx).1;clear hcs4 hcell4 hg4 hX hX0 hx;have HC2:=Hd (HCX.out _ W5 _ HCS4.out);go_upto_region 6 with fail
     rw[HW5.out];go_wp2_with fail
     refine HC2.out.mono ?_;rintro e w7 ⟨rfl,b7⟩;have B7:=Hd b7;clear b7 HC2;go_wp2_with fail
     refine⟨⟨i+1,by simp,by omega,?_,Hd (HB5.out.trans (B7.out.mono HB5.out.size))⟩,?_⟩
     ·rw[HTK.out,HPD.out];simp only[Zcc,aA,cA,List.nil_append]
     ·simp[intOf];omega
  ·have hge:i=l.length:=by omega
   have hlt:decide ((i:Int)<(l.length:Int))=false:=dF (by omega);have hltn:decide (i<l.length)=false:=dF hi2;have HE:=Hd (show prF (l.take i)=txt by rw[HTX.out,hge,List.take_length]);rw[HE.out];clear hge;go_wp2_with fail
   refine bodyPost_ret (v:=.string ⟨txt.toArray⟩) (by simp[results,Tryz.results22,go_sem]) rfl ⟨rfl,hB.out⟩
end Go.Proofs.YtijnjoonbjdafaaGreatDoor

import Derived.Test.YtijnjoonbjdafaaGreatDoorRgM
import Derived.Test.YtijnjoonbjdafaaGreatDoorRhM
import Derived.Test.YtijnjoonbjdafaaGreatDoorRfM
namespace Go.Proofs.YtijnjoonbjdafaaGreatDoor
set_option maxHeartbeats 20000000
set_option maxRecDepth 20000
open Go.RowKit Go.Shelf
theorem Zjd{B M rb:Nat}{all:List Tk}(hM:M≤10000000)(hnum:∀t∈all,t.k=3→NumT t.t)(d:Nat)(hd64:d≤64)(qt:Q→PT×Q)(qe:Q→PE×Q)(hqe:∀s,(qe s).2.ts.length≤s.ts.length)(HT:RdsT 45 B M rb all (d+1) qt)(HE:RdsE 48 B M rb all (d+1) qe) :
  RdsE 94 B M rb all d (Zdy qt qe):=by
 intro w s h;unfold Zdy;cases hb:s.bad with
 | true=>rw[if_pos rfl];exact Zjc d w s h hb
 | false=>
 rw[if_neg (by decide)];by_cases k1:(hd s.ts).k=1
 ·rw[if_pos k1];exact ZhE d w s h hb k1
 rw[if_neg k1];by_cases k3:(hd s.ts).k=3
 ·rw[if_pos k3];exact Zja d w s h (hnum _ h.hd_mem k3) hb k3
 rw[if_neg k3];by_cases k4:(hd s.ts).k=4
 ·rw[if_pos k4];exact ZhD d w s h hb k4
 rw[if_neg k4];cases m1:s.is [116,114,117,101] with
 | true=>rw[if_pos rfl];exact ZhC hM d w s h hb k1 k3 k4 m1
 | false=>
 rw[if_neg (by decide)];cases m2:s.is [102,97,108,115,101] with
 | true=>rw[if_pos rfl];exact ZgV hM d w s h hb k1 k3 k4 m2
 | false=>
 rw[if_neg (by decide)];cases m3:s.is [123] with
 | true=>rw[if_pos rfl];exact Zi8 d hd64 hM qe hqe HE w s h hb k1 k3 k4 m1 m2 m3
 | false=>
 rw[if_neg (by decide)];cases hp:(s.take [40]).bad with
 | true=>rw[if_pos rfl];exact Zjb d hM w s h hb k1 k3 k4 m1 m2 m3 hp
 | false=>
 rw[if_neg (by decide)];unfold brkS;cases hc:(qe (s.take [40])).2.is [58] with
 | true=>rw[if_pos rfl];exact ZkB d hd64 hM qt qe HT HE w s h hb k1 k3 k4 m1 m2 m3 hp hc
 | false=>rw[if_neg (by decide)];exact Zi9 d hd64 hM qe HE w s h hb k1 k3 k4 m1 m2 m3 hp hc
theorem Zkz{B M rb:Nat}{all:List Tk}(hM:M≤10000000)(d:Nat)(hd64:d≤64)(qt:Q→PT×Q)(qe:Q→PE×Q)(hqe:∀s,(qe s).2.ts.length≤s.ts.length)(HT:RdsT 45 B M rb all (d+1) qt)(HE:RdsE 48 B M rb all (d+1) qe)(HB:RdsE 94 B M rb all d (Zdy qt qe)) :
  RdsE 48 B M rb all d (Zjw qt qe):=by
 intro w s h;unfold Zjw;cases hb:s.bad with
 | true=>rw[if_pos rfl];exact Zky d hd64 w s h hb
 | false=>
 rw[if_neg (by decide)];cases hf:s.is [102,117,110] with
 | true=>
  rw[if_pos rfl];cases hh:(ZcO s).2.bad with
  | true=>exact ZhA d hd64 hM w s _ h hb hf hh (by rw[funS,if_pos hh])
  | false=>
   cases hq:((qt (ZcO s).2).2.take [41]).bad with
   | true=>exact Zhz d hd64 hM qt HT w s _ h hb hf hh hq (by rw[funS,if_neg (by rw[hh];decide),if_pos hq])
   | false=>exact Zhy d hd64 hM qt HT qe HE w s _ h hb hf hh hq rfl
 | false=>
 rw[if_neg (by decide)];cases hl:s.is [108,101,116] with
 | true=>rw[if_pos rfl];exact Zkx d hd64 hM qe HE w s h hb hf hl
 | false=>
 rw[if_neg (by decide)];cases hi:s.is [105,102] with
 | true=>rw[if_pos rfl];exact Zml d hd64 hM qe HE w s h hb hf hl hi
 | false=>
 rw[if_neg (by decide)];exact ZhB d hd64 hM qe (Zdy qt qe) hqe HE HB w s _ h hb hf hl hi rfl
theorem Zf3{B M rb:Nat}{all:List Tk}(hM:M≤10000000)(hnum:∀t∈all,t.k=3→NumT t.t):∀(n d:Nat),n+d=65→RdsE 48 B M rb all d (qExp n)
 | 0,d,h=>by
  obtain rfl:d=65:=by omega
  exact Zi7 hM
 | n+1,d,h=>by
  have HE:=Zf3 (B:=B) (rb:=rb) hM hnum n (d+1) (by omega);have HT:=(Zf2 (B:=B) (rb:=rb) (all:=all) hM n (d+1) (by omega)).1;have hqe:=Zka (Ziq n) (Zdd n);exact Zkz hM d (by omega) (qTyp n) (qExp n) hqe HT HE (Zjd hM hnum d (by omega) (qTyp n) (qExp n) hqe HT HE)
theorem Zma{f:Func}{R:Ending→World→Prop}{a:Act}{w:World}{b:Nat}{u0 u1 u2 u3 u4 u5 u6 v:Value}(hf:f.results=#[.cell 2 41,.tmp 3])(ht:a.eval (.tmp 2)=.pointer (some ⟨b,0,none⟩))(hv:a.eval (.tmp 3)=v)(hd:a.defers=[])
  (h:Sev w b 41 u0 u1 u2 u3 u4 u5 u6) (hR:R (.returned (.tuple #[.agg #[u0,u1,u2,u3,u4,u5,u6],v])) w):bodyPost Tryz.prog f R Exit.ret a w:=by
 obtain⟨⟨c0,c1,c2,c3,c4,c5,c6⟩,-⟩:=Zai h;refine bodyPost_ret ?_ hd hR;simp[Act.eval] at ht hv;simp[results,hf,go_sem,c0,c1,c2,c3,c4,c5,c6,ht,hv]
theorem Zjx (s:ByteArray)(hs:s.size≤100000)(w:World) :
  Calls Tryz.prog 13 #[.string s] w fun e w'=>Below w.heap.size w w'∧OptV (fun x cs=>IsCs (fun b=>w.heap.size≤b) w' (encE 31 41 x) cs) #[.int .i64 0,.int .i64 0,.string ⟨#[]⟩,.int .i64 0,.slice none 0 0,.slice none 0 0,.slice none 0 0] (Zbj (ZbJ (exp 64) (toks s.data.toList)) (dns s.data.toList)) e:=by
 rw[←Zg0 (Ziq 64)];obtain⟨W1,hW1⟩:=eY (zSev w);have HOF:=Hd (ZkR s hs W1);have a1:=zsev w;rw[hW1] at a1;have HA1:=Hd a1;have HB1:=Hd (show Below w.heap.size w W1 by rw[←hW1];exact (Below.refl _ _).alloc (nl _) _);have HS1:=Hd (show W1.heap.size=w.heap.size+1 by rw[←hW1];simp);have HW1:=Hd (show w.alloc (.cells #[.int .i64 0,.int .i64 0,.string ⟨#[]⟩,.int .i64 0,.slice none 0 0,.slice none 0 0,.slice none 0 0] 41)=W1 from hW1);have HS:=Hd (show s.data.toList.length≤100000 by rw[Lib.size_eq] at hs;exact hs);have HTL:=Hd (Zco s.data.toList);have HDL:=Hd (show (dns s.data.toList).length≤s.data.toList.length by have:=Zdi s.data.toList;simpa[dns] using this);have HNUM:=Hd (ZdJ s.data.toList);have HFIN:=Hd (show ∃p e,toks s.data.toList=p++[e]∧e.k=6 from⟨_,_,rfl,rfl⟩);obtain⟨all,hall⟩:=eX (toks s.data.toList);obtain⟨nd,hnd⟩:=eX ((dns s.data.toList).length);rw[←hall] at HOF HTL HFIN HNUM⊢;rw[←hnd] at HOF HDL⊢;obtain⟨out,hout⟩:=eX (oneS (qExp 64) all nd);rw[←hout];have HOUT:=Hd hout;clear hs hW1 a1 hall hnd hout;go_enter Tryz.func13,Tryz.ntmps13
 go_upto_region 1 with fail
 rw[HW1.out];go_wp2_with fail
 refine HOF.out.mono ?_;rintro e w2 ⟨v,u,xs,rfl,r1,r2,hv,b2⟩;obtain⟨av,cv,rfl⟩:=Zag r1;obtain⟨au,cu,rfl⟩:=Zag r2;obtain⟨W3,hW3⟩:=eY (w2.alloc (.cells #[.slice av all.length cv,.int .i64 0,.slice au nd cu,.bool false] 92));have Q3:=Hd (show QS W1.heap.size 10000000 W3 w2.heap.size all ⟨all,nd,false⟩ by
  rw[←hW3];refine⟨b2.size,by have:=b2.size;simp;omega,HFIN.out,?_,?_,_,_,0,xs,hN w2 _,r1.alloc _,r2.alloc _,by simp,hv⟩
  ·have:=HTL.out;have:=HDL.out;have:=HS.out
   show nd+2*all.length+1≤10000000;omega
  ·have:=HTL.out;have:=HS.out;omega)
 have HW3:=Hd hW3;have HA3:=Hd (show Sev W3 w.heap.size 41 _ _ _ _ _ _ _ by rw[←hW3];exact Zab ((b2.block _ (gE HA1.out).1).trans HA1.out) _);have HB3:=Hd (show Below W1.heap.size W1 W3 by rw[←hW3];exact b2.alloc b2.size _);have HTY:=Hd (fun k a n m ns l ts s8 hp=>Zbm (Zf3 (nl _) HNUM.out 64 1 rfl) W3 _ Q3.out k a n m ns l ts s8 hp);obtain⟨⟨t,s8⟩,hu⟩:∃p,p=qExp 64 ⟨all,nd,false⟩:=⟨_,rfl⟩;obtain⟨uk,ua,un,um,uns,ul,uts⟩:=t;have HT2:=Hd (HTY.out uk ua un um uns ul uts s8 hu);have HON:=Hd (show out=if s8.bad=true∨(hd s8.ts).k≠6∨s8.nd≠0 then none else some (.mk uk ua un um uns ul uts) by rw[HOUT.out,oneS,←hu]);clear r1 r2 hv b2 hW3 hu HOUT HTY;go_upto_region 2 with fail
 rw[HW3.out];go_wp2_with fail
 refine HT2.out.mono ?_;rintro e w4 ⟨b4,e4',b5',e5',b6,e6,rfl,f4,i4,q4⟩;obtain⟨W5,hW5⟩:=eY (w4.alloc (.cells #[.int .i64 uk,.int .i64 ua,.string ⟨un.toArray⟩,.int .i64 um,.slice b4 uns.length e4',.slice b5' ul.length e5',.slice b6 uts.length e6] 41));have b5:Below w4.heap.size w4 W5:=by rw[←hW5];exact (Below.refl _ _).alloc (nl _) _
 have hX5:Sev W5 w4.heap.size 41 (.int .i64 uk) (.int .i64 ua) (.string ⟨un.toArray⟩) (.int .i64 um) (.slice b4 uns.length e4') (.slice b5' ul.length e5') (.slice b6 uts.length e6):=by rw[←hW5];exact hN w4 _
 have q5:=q4.below b5;have hA5:Sev W5 w.heap.size 41 _ _ _ _ _ _ _:=(f4.below b5).cells HA3.out (by decide);have HU5:=Hd ((i4.below b5).mono (A':=fun b=>w.heap.size<b) (fun b _ hb=>by have:=HB3.out.size;have:=HS1.out;omega));have HB5:=Hd (show Below w.heap.size w W5 from (HB1.out.trans (HB3.out.mono HB1.out.size)).trans (((f4.below b5).belows HB3.out.size).mono HB1.out.size));obtain⟨g,cap,i,vd,h6,hi,hbig,hg,c0,c1,c2,-⟩:=q5.first
 obtain⟨vt',vd',i',xs',k6,-,k8,-⟩:=q5.ex;rw[h6] at k6;simp only[Option.some.injEq,Obj.cells.injEq,Array.mk.injEq,List.cons.injEq,and_true] at k6;obtain⟨-,-,rfl,-⟩:=k6;obtain⟨ad,cd,rfl⟩:=Zag k8;obtain⟨⟨p0,p1,p2,p3⟩,-⟩:=Zae h6;obtain⟨⟨z0,z1,z2,z3,z4,z5,z6⟩,-⟩:=Zai (t:=41) hX5;have HTH:=Hd (Zaf hA5 rfl);have HA5:=Hd hA5;have HW5:=Hd hW5;obtain⟨kk,hkk⟩:=eX ((hd s8.ts).k);rw[←hkk] at c0 HON;obtain⟨n8,hn8⟩:=eX (s8.nd);rw[←hn8] at p2 HON;clear f4 i4 q4 hW5 b5 hX5 q5 hA5 h6 k8 c1 c2 hkk hn8 HT2;go_upto_region 3 with fail
 rw[HW5.out];cases hb8:s8.bad with
 | true=>
  rw[hb8] at p3;have HO2:=Hd (show out=none by rw[HON.out,hb8,if_pos (.inl rfl)]);clear hb8;go_wp2_with (first | (refine Zaa rfl 41 (.tmp 2) (.tmp 27) rfl w.heap.size _ rfl rfl HTH.out Zbw (all_oneCell_toArray (by simp[Value.oneCell'])) ?_;intro WF hWF))
  rw[hWF.out];exact Zma rfl rfl rfl rfl (ZdB HA5.out (.int .i64 0) (.int .i64 0) (.string ⟨#[]⟩) (.int .i64 0) (.slice none 0 0) (.slice none 0 0) (.slice none 0 0)) ⟨Below.putL HB5.out (nl _) [.int .i64 0,.int .i64 0,.string ⟨#[]⟩,.int .i64 0,.slice none 0 0,.slice none 0 0,.slice none 0 0],by rw[HO2.out];rfl⟩
 | false=>
  rw[hb8] at p3;rw[hb8] at HON;clear hb8;by_cases hk:kk=6
  ·have hk1:((kk:Int) !=6)=false:=by simp only[bne_eq_false_iff_eq];omega
   by_cases hn:n8=0
   ·have hn1:decide ((0:Int)<(n8:Int))=false:=dF (by omega);have hn2:decide (0<n8)=false:=dF (by omega);have HO2:=Hd (show out=some (.mk uk ua un um uns ul uts) by rw[HON.out,hk,hn];simp);clear hk hn;go_wp2_with (first | (refine Zaa rfl 41 (.tmp 2) (.tmp 28) rfl w.heap.size _ rfl rfl HTH.out Zbw (all_oneCell_toArray (by simp[Value.oneCell'])) ?_;intro WF hWF))
    rw[hWF.out];refine Zma rfl rfl rfl rfl (ZdB HA5.out (.int .i64 uk) (.int .i64 ua) (.string ⟨un.toArray⟩) (.int .i64 um) (.slice b4 uns.length e4') (.slice b5' ul.length e5') (.slice b6 uts.length e6)) ⟨Below.putL HB5.out (nl _) [.int .i64 uk,.int .i64 ua,.string ⟨un.toArray⟩,.int .i64 um,.slice b4 uns.length e4',.slice b5' ul.length e5',.slice b6 uts.length e6],?_⟩
    ·rw[HO2.out];exact⟨[.int .i64 uk,.int .i64 ua,.string ⟨un.toArray⟩,.int .i64 um,.slice b4 uns.length e4',.slice b5' ul.length e5',.slice b6 uts.length e6],rfl,(HU5.out.putL w.heap.size (fun k hk=>Nat.ne_of_gt hk) [.int .i64 uk,.int .i64 ua,.string ⟨un.toArray⟩,.int .i64 um,.slice b4 uns.length e4',.slice b5' ul.length e5',.slice b6 uts.length e6]).mono (fun _ _ h=>Nat.le_of_lt h)⟩
   ·have hn1:decide ((0:Int)<(n8:Int))=true:=dT (by omega);have hn2:decide (0<n8)=true:=dT (by omega);have HO2:=Hd (show out=none by rw[HON.out,if_pos (.inr (.inr hn))]);clear hk hn;go_wp2_with (first | (refine Zaa rfl 41 (.tmp 2) (.tmp 27) rfl w.heap.size _ rfl rfl HTH.out Zbw (all_oneCell_toArray (by simp[Value.oneCell'])) ?_;intro WF hWF))
    rw[hWF.out];exact Zma rfl rfl rfl rfl (ZdB HA5.out (.int .i64 0) (.int .i64 0) (.string ⟨#[]⟩) (.int .i64 0) (.slice none 0 0) (.slice none 0 0) (.slice none 0 0)) ⟨Below.putL HB5.out (nl _) [.int .i64 0,.int .i64 0,.string ⟨#[]⟩,.int .i64 0,.slice none 0 0,.slice none 0 0,.slice none 0 0],by rw[HO2.out];rfl⟩
  ·have hk1:((kk:Int) !=6)=true:=by simp only[bne_iff_ne,ne_eq];omega
   have HO2:=Hd (show out=none by rw[HON.out,if_pos (.inr (.inl hk))]);clear hk;go_wp2_with (first | (refine Zaa rfl 41 (.tmp 2) (.tmp 27) rfl w.heap.size _ rfl rfl HTH.out Zbw (all_oneCell_toArray (by simp[Value.oneCell'])) ?_;intro WF hWF))
   rw[hWF.out];exact Zma rfl rfl rfl rfl (ZdB HA5.out (.int .i64 0) (.int .i64 0) (.string ⟨#[]⟩) (.int .i64 0) (.slice none 0 0) (.slice none 0 0) (.slice none 0 0)) ⟨Below.putL HB5.out (nl _) [.int .i64 0,.int .i64 0,.string ⟨#[]⟩,.int .i64 0,.slice none 0 0,.slice none 0 0,.slice none 0 0],by rw[HO2.out];rfl⟩
end Go.Proofs.YtijnjoonbjdafaaGreatDoor

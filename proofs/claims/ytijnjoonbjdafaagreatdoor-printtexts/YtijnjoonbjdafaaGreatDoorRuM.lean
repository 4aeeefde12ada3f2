import Derived.Test.YtijnjoonbjdafaaGreatDoorRkM
import Derived.Test.YtijnjoonbjdafaaGreatDoorSxM
namespace Go.Proofs.YtijnjoonbjdafaaGreatDoor
set_option maxHeartbeats 20000000
set_option maxRecDepth 20000
open Go.RowKit Go.Shelf
theorem Zfx:(Tryz.prog.info? 114).map (·.size)=some 5:=by kernel_rfl
def vDq (lo:Nat)(t:PD)(e:Ending)(w':World):Prop:=∃cs,e=.returned (.agg cs.toArray)∧IsCs (fun b=>lo≤b) w' (encD 31 41 t) cs
def QPD (B M:Nat)(w:World)(rb:Nat)(all:List Tk)(p:PD×Q)(e:Ending)(w':World):Prop:=Fr B w w'∧vDq w.heap.size p.1 e w'∧QS B M w' rb all p.2
theorem ZmK{w:World}{b:Nat}{t:TypeId}{v0 v1 v2 v3 v4:Value}(h:Fiv w b t v0 v1 v2 v3 v4)(v:Value):Fiv (w.setCell ⟨b,0,none⟩ v) b t v v1 v2 v3 v4:=heap_setCell_same w b 0 _ _ v h
theorem Zgn{w:World}{b:Nat}{t:TypeId}{v0 v1 v2 v3 v4:Value}(h:Fiv w b t v0 v1 v2 v3 v4)(v:Value):Fiv (w.setCell ⟨b,1,none⟩ v) b t v0 v v2 v3 v4:=heap_setCell_same w b 1 _ _ v h
theorem Zgm{w:World}{b:Nat}{t:TypeId}{v0 v1 v2 v3 v4:Value}(h:Fiv w b t v0 v1 v2 v3 v4)(v:Value):Fiv (w.setCell ⟨b,2,none⟩ v) b t v0 v1 v v3 v4:=heap_setCell_same w b 2 _ _ v h
theorem ZiO{w:World}{b:Nat}{t:TypeId}{v0 v1 v2 v3 v4:Value}(h:Fiv w b t v0 v1 v2 v3 v4)(v:Value):Fiv (w.setCell ⟨b,3,none⟩ v) b t v0 v1 v2 v v4:=heap_setCell_same w b 3 _ _ v h
theorem ZiN{w:World}{b:Nat}{t:TypeId}{v0 v1 v2 v3 v4:Value}(h:Fiv w b t v0 v1 v2 v3 v4)(v:Value):Fiv (w.setCell ⟨b,4,none⟩ v) b t v0 v1 v2 v3 v:=heap_setCell_same w b 4 _ _ v h
theorem Ze9{A:Nat→Prop}{w:World}{d:Dt}{x:Value}(h:IsC A w d x)(b i:Nat)(hA:∀k,A k→k≠b)(v:Value):IsC A (w.setCell ⟨b,i,none⟩ v) d x:=
 IsC.kept (S:=fun k=>k=b) (by simp[World.setCell]) (fun k _ hn=>Below.heap_setCell w ⟨b,i,none⟩ v k hn) hA d x h
theorem Zlo{f:Func}{a:Act}{B M rb:Nat}{all:List Tk}{w w2 w3:World}{q:Q}{d:PD}{v0 v1 v2 v3 v4 u0 u1 u2 u3 u4:Value}(hf:f.results=#[.cell 2 114])(ht:a.eval (.tmp 2)=.pointer (some ⟨w.heap.size,0,none⟩))(hd:a.defers=[])
  (ha:Fiv w2 w.heap.size 114 v0 v1 v2 v3 v4) (hF:Fr B w w2) (hQ:QS B M w2 rb all q) (hrb:rb<w.heap.size) (hc:IsCs (fun b=>w.heap.size<b) w2 (encD 31 41 d) [u0,u1,u2,u3,u4]) (h3:Hid (w3=putL w2 w.heap.size [u0,u1,u2,u3,u4])) :
  bodyPost Tryz.prog f (QPD B M w rb all (d,q)) Exit.ret a w3:=by
 rw[h3.out];have hb:Fiv (putL w2 w.heap.size [u0,u1,u2,u3,u4]) w.heap.size 114 u0 u1 u2 u3 u4:=Zam (vs:=[u0,u1,u2,u3,u4]) ha rfl;obtain⟨⟨c0,c1,c2,c3,c4⟩,-⟩:=Zat hb;refine bodyPost_ret ?_ hd ⟨hF.putL (nl _) _,⟨[u0,u1,u2,u3,u4],rfl,(hc.putL w.heap.size (fun k hk=>Nat.ne_of_gt hk) _).mono (fun _ _ hk=>Nat.le_of_lt hk)⟩,hQ.putL ha (by decide) hrb _⟩;simp[Act.eval] at ht;simp[results,hf,go_sem,c0,c1,c2,c3,c4,ht]
def wdD (m:Nat):Bs:=if m=0 then [117,115,101] else if m=1 then [116,121,112,101] else [108,101,116]
def kdD (s:Q):Nat:=if s.is [117,115,101] then 1 else if s.is [116,121,112,101] then 2 else if s.is [108,101,116] then 3 else 0
theorem kdD_le (s:Q):kdD s≤3:=by unfold kdD;split;decide;split;decide;split<;>decide
theorem kdD_is (s:Q)(m:Nat)(hm:m<3)(h:kdD s=0∨m<kdD s):s.is (wdD m)=decide (kdD s=m+1):=by
 unfold kdD at *;have h3:m=0∨m=1∨m=2:=by omega
 cases h0:s.is [117,115,101]<;>cases h1:s.is [116,121,112,101]<;>cases h2:s.is [108,101,116]<;>rw[h0,h1,h2] at h<;>rcases h3 with rfl | rfl | rfl<;>simp_all [wdD]
theorem Zo6{s:Q}(typ:Q→PT×Q)(expr:Q→PE×Q)(h:kdD s=0):Zef typ expr s=(⟨0,0,[],[],[]⟩,s.give):=by
 unfold kdD at h;unfold Zef;cases h1:s.is [117,115,101]<;>cases h2:s.is [116,121,112,101]<;>cases h3:s.is [108,101,116]<;>simp_all
theorem Zo5{s:Q}(typ:Q→PT×Q)(expr:Q→PE×Q)(h:kdD s=1):Zef typ expr s=ZmU s:=by
 unfold kdD at h;unfold Zef;cases h1:s.is [117,115,101]<;>cases h2:s.is [116,121,112,101]<;>cases h3:s.is [108,101,116]<;>simp_all
theorem Zo4{s:Q}(typ:Q→PT×Q)(expr:Q→PE×Q)(h:kdD s=2):Zef typ expr s=ZmV typ s:=by
 unfold kdD at h;unfold Zef;cases h1:s.is [117,115,101]<;>cases h2:s.is [116,121,112,101]<;>cases h3:s.is [108,101,116]<;>simp_all
theorem Zlw{s:Q}(typ:Q→PT×Q)(expr:Q→PE×Q)(h:kdD s=3):Zef typ expr s=Zlx typ expr s:=by
 unfold kdD at h;unfold Zef;cases h1:s.is [117,115,101]<;>cases h2:s.is [116,121,112,101]<;>cases h3:s.is [108,101,116]<;>simp_all
theorem ZkA{B M rb:Nat}{all:List Tk}(hM:M≤10000000)(qt:Q→PT×Q)(qe:Q→PE×Q)(HT:RdsT 45 B M rb all 1 qt)(HE:RdsE 48 B M rb all 1 qe)(w:World)(s:Q)(h:QS B M w rb all s) :
  Calls Tryz.prog 57 #[.pointer (some ⟨rb,0,none⟩)] w (QPD B M w rb all (Zef qt qe s)):=by
 obtain⟨out,hout⟩:=eX (Zef qt qe s);rw[←hout];obtain⟨K,hK⟩:=eX (kdD s);have HON:=Hd hout;have HKK:=Hd hK;have HK3:=Hd (show K≤3 by rw[hK];exact kdD_le s);have HIS:=Hd (show ∀m,m<3→K=0∨m<K→s.is (wdD m)=decide (K=m+1) by rw[hK];exact kdD_is s);have HT0:=Hd HT;have HE0:=Hd HE;have HRB:=Hd h.lt;obtain⟨W1,hW1⟩:=eY (w.alloc (.cells #[.int .i64 0,.int .i64 0,.string ⟨#[]⟩,.slice none 0 0,.slice none 0 0] 114));have HA1:=Hd (show Fiv W1 w.heap.size 114 (.int .i64 0) (.int .i64 0) (.string ⟨#[]⟩) (.slice none 0 0) (.slice none 0 0) by rw[←hW1];exact hN w _);have HS1:=Hd (show W1.heap.size=w.heap.size+1 by rw[←hW1];simp);have HB1:=Hd (show w.heap.size≤W1.heap.size by have:=HS1.out;omega);have HRB1:=Hd (show rb<W1.heap.size from ll HRB.out HB1.out);have HNE:=Hd (show w.heap.size≠W1.heap.size by have:=HS1.out;omega);have Q1:=Hd (show QS B M W1 rb all s by rw[←hW1];exact h.alloc _);have F1:=Hd (show Fr B w W1 by rw[←hW1];exact (Fr.refl B w).alloc _);have HW1:=Hd hW1;obtain⟨W0,hW0⟩:=eY (W1.alloc (.cells #[.int .i64 0,.int .i64 0,.string ⟨#[]⟩,.slice none 0 0,.slice none 0 0] 114));have b0:Below W1.heap.size W1 W0:=by rw[←hW0];exact (Below.refl _ _).alloc (nl _) _
 have HA0:=mB5 b0 HA1;have HD0:=Hd (show Fiv W0 W1.heap.size 114 (.int .i64 0) (.int .i64 0) (.string ⟨#[]⟩) (.slice none 0 0) (.slice none 0 0) by rw[←hW0];exact hN W1 _);have Q0:=Hd (Q1.out.below b0);have F0:=Hd (F1.out.below b0);have HW0:=Hd hW0;have HTH:=Hd (Zaf HD0.out rfl);rw[←hW0] at HTH;clear h hout hK hW1 hW0 b0 HT HE;go_enter Tryz.func57,Tryz.ntmps57
 go_upto_region 1 with fail
 rw[HW1.out];go_wp2_with (first | (refine Zaa rfl 114 (.tmp 3) (.tmp 7) rfl W1.heap.size _ rfl rfl HTH.out Zfx (all_oneCell_toArray (by simp[Value.oneCell'])) ?_;intro W2 hW2))
 obtain⟨W4,hW4⟩:=eY (W2.alloc (.cells #[.string ⟨#[117,115,101]⟩,.string ⟨#[116,121,112,101]⟩,.string ⟨#[108,101,116]⟩] 9));rw[hW4];have e2:W2=putL W0 W1.heap.size [.int .i64 0,.int .i64 0,.string ⟨#[]⟩,.slice none 0 0,.slice none 0 0]:=by rw[hW2.out,HW0.out]
 have b4:Below W2.heap.size W2 W4:=by rw[←hW4];exact (Below.refl _ _).alloc (nl _) _
 have Q2:=Hd (show QS B M W2 rb all s by rw[e2];exact Q0.out.putL HD0.out (by decide) HRB1.out _);have F2:=Hd (show Fr B w W2 by rw[e2];exact F0.out.putL HB1.out _);have HA2:=Hd (show Fiv W2 w.heap.size 114 (.int .i64 0) (.int .i64 0) (.string ⟨#[]⟩) (.slice none 0 0) (.slice none 0 0) by rw[e2];exact (ZaS W1.heap.size _ 0 W0 _ HNE.out).trans HA0.out);have HD2:=Hd (show Fiv W2 W1.heap.size 114 (.int .i64 0) (.int .i64 0) (.string ⟨#[]⟩) (.slice none 0 0) (.slice none 0 0) by rw[e2];exact Zam (vs:=[_,_,_,_,_]) HD0.out rfl);have Q4:=Hd (Q2.out.below b4);have F4:=Hd (F2.out.below b4);have HA4:=mB5 b4 HA2;have HD4:=mB5 b4 HD2;have HC4:Hid (W4.heap[W2.heap.size]?=some (.cells #[.string ⟨#[117,115,101]⟩,.string ⟨#[116,121,112,101]⟩,.string ⟨#[108,101,116]⟩] 9 (0,0))):=by rw[←hW4];exact hN W2 _
 have HS2:=Hd (show W1.heap.size<W2.heap.size from (gE HD2.out).1);clear hW4 hW2 e2 b4 Q2 F2 HA2 HD2 Q0 F0 HA0 HD0 HW0 HTH Q1 F1 HA1 HW1;go_loopw [5] (fun s5 wr=>∃j c:Nat,s5=.int .i64 j∧j≤3∧Hid (c=if K≤j then K else 0)∧Hid (QS B M wr rb all (if c=0 then s else s.take (wdD (c-1))))∧Hid (Fr B w wr)∧Hid (Fiv wr w.heap.size 114 (.int .i64 0) (.int .i64 0) (.string ⟨#[]⟩) (.slice none 0 0) (.slice none 0 0))∧Hid (Fiv wr W1.heap.size 114 (.int .i64 c) (.int .i64 0) (.string ⟨#[]⟩) (.slice none 0 0) (.slice none 0 0))∧Hid (wr.heap[W2.heap.size]?=some (.cells #[.string ⟨#[117,115,101]⟩,.string ⟨#[116,121,112,101]⟩,.string ⟨#[108,101,116]⟩] 9 (0,0)))) (fun s5 _=>3-(intOf s5).toNat)
 case atStart=>exact⟨0,0,rfl,Nat.zero_le _,Hd (by split<;>omega),Q4,F4,HA4,HD4,HC4⟩
 case round=>
  obtain⟨j,c,rfl,hj3,HC,Q5,F5,HA5,HD5,HW5⟩:=hrel;clear Q4 F4 HA4 HD4 HC4;by_cases hlt:j<3
  ·have hd1:decide ((j:Int)<3)=true:=dT (by omega);have hd2:decide (j<3)=true:=dT hlt;have HLT:=Hd hlt;obtain⟨⟨d0,d1,d2,d3,d4⟩,fz0,fz1,fz2,fz3,fz4⟩:=Zat (t:=114) HD5.out;by_cases hc0:c=0
   ·subst hc0;have Q5:=Hd (show QS B M wr rb all s from Q5.out);have HV:=Hd (HIS.out j hlt (by have:=HC.out;split at this<;>omega));have hcell:wr.cell? ⟨W2.heap.size,j,none⟩=some (.string ⟨(wdD j).toArray⟩):=by
     have h4:j=0∨j=1∨j=2:=by omega
     rcases h4 with rfl | rfl | rfl<;>simp[World.cell?,HW5.out,wdD]
    have HI:=Hd (Zao Q5.out (wdD j));have HLB:=Hd (show W2.heap.size<wr.heap.size from (gE HW5.out).1);obtain⟨wd,hwd⟩:=eX (wdD j);rw[←hwd] at hcell HI HV;have HWD:=Hd hwd;have hlt3:(j:Int)<3:=by omega
    clear hwd hlt;cases hm:s.is wd with
    | true=>
     rw[hm] at HI HV;have HKJ:=Hd (show K=j+1 by simpa using HV.out.symm);clear hm HV;go_wp2_with fail
     refine HI.out.mono ?_;rintro e w6 ⟨rfl,b6⟩;have HTK:=Hd (Zah hM (Q5.out.below b6) wd);have hcell:=(b6.cell (p:=⟨W2.heap.size,j,none⟩) HLB.out).trans hcell;have F6:=Hd (F5.out.below b6);have HA6:=mB5 b6 HA5;have HD6:=mB5 b6 HD5;have HW6:=Hd ((b6.block _ (gE HW5.out).1).trans HW5.out);clear b6 HI d0 d1 d2 d3 d4 fz0 fz1 fz2 fz3 fz4;go_wp2_with fail
     refine HTK.out.mono ?_;rintro e w7 ⟨rfl,q7,f7⟩;have HA7:=mF5 f7 HA6 (by decide);have HD7:=mF5 f7 HD6 (by decide);have HW7:=Hd (f7.cells HW6.out (by decide));have Q7:=Hd q7;have F7:=Hd (F6.out.trans f7);obtain⟨⟨d0,d1,d2,d3,d4⟩,fz0,fz1,fz2,fz3,fz4⟩:=Zat (t:=114) HD7.out;clear q7 f7 HTK hcell;go_wp2_with fail
     refine⟨⟨j+1,j+1,by simp,by omega,Hd (by rw[if_pos (by rw[HKJ.out];exact nl _),HKJ.out]),Hd ?_,Hd ?_,Hd ?_,Hd ?_,Hd ?_⟩,?_⟩
     ·show QS B M _ rb all (if j+1=0 then s else s.take (wdD (j+1-1)));rw[if_neg (Nat.succ_ne_zero j),Nat.add_sub_cancel,←HWD.out];exact Q7.out.setNew HD7.out (by decide) HRB1.out 0 _
     ·exact F7.out.setNew HB1.out _
     ·exact (Below.heap_setCell w7 ⟨W1.heap.size,0,none⟩ _ w.heap.size HNE.out).trans HA7.out
     ·exact ZmK HD7.out _
     ·exact (Below.heap_setCell w7 ⟨W1.heap.size,0,none⟩ _ W2.heap.size (Nat.ne_of_gt HS2.out)).trans HW7.out
     ·simp[intOf];omega
    | false=>
     rw[hm] at HI HV;have HKJ:=Hd (show K≠j+1 by simpa using HV.out.symm);clear hm HV;go_wp2_with fail
     refine HI.out.mono ?_;rintro e w6 ⟨rfl,b6⟩;have B6:=Hd b6;clear b6 HI d0 d1 d2 d3 d4 fz0 fz1 fz2 fz3 fz4 hcell;go_wp2_with fail
     refine⟨⟨j+1,0,by simp,by omega,Hd ?_,Hd (Q5.out.below B6.out),Hd (F5.out.below B6.out),Hd ((B6.out.block _ (gE HA5.out).1).trans HA5.out),Hd ((B6.out.block _ (gE HD5.out).1).trans HD5.out),Hd ((B6.out.block _ (gE HW5.out).1).trans HW5.out)⟩,?_⟩
     ·have h1:=HC.out;have h2:=HKJ.out;split at h1<;>split<;>omega
     ·simp[intOf];omega
   ·have e0:((c:Int)==0)=false:=bF (by omega);have e1:(c==0)=false:=by simp only[beq_eq_false_iff_ne,ne_eq];exact hc0
    have HC0:=Hd hc0;clear hlt hc0;go_wp2_with fail
    refine⟨⟨j+1,c,by simp,by have:=HLT.out;omega,Hd ?_,Q5,F5,HA5,HD5,HW5⟩,?_⟩
    ·have h1:=HC.out;have h2:=HC0.out;split at h1
     ·rw[if_pos (by omega)];exact h1
     ·exact absurd h1 h2
    ·have:=HLT.out;simp[intOf];omega
  ·have hd1:decide ((j:Int)<3)=false:=dF (by omega);have hd2:decide (j<3)=false:=dF hlt;have hcK:c=K:=by
    have h1:=HC.out;have h2:=HK3.out;rw[if_pos (by omega)] at h1;exact h1
   have h4:K=0∨K=1∨K=2∨K=3:=by have:=HK3.out;omega
   clear hlt HC HIS HW5 HS2;subst hcK;rcases h4 with rfl | rfl | rfl | rfl
   ·have HD5b:=Hd (show Fiv wr W1.heap.size 114 (.int .i64 0) (.int .i64 0) (.string ⟨#[]⟩) (.slice none 0 0) (.slice none 0 0) from HD5.out);have Q5b:=Hd (show QS B M wr rb all s from Q5.out);clear HD5 Q5;obtain⟨⟨d0,d1,d2,d3,d4⟩,fz0,fz1,fz2,fz3,fz4⟩:=Zat (t:=114) HD5b.out;have HG:=Hd (ZbR hM Q5b.out 2);have HOUT:=Hd (show out=(⟨0,0,[],[],[]⟩,s.give) by rw[HON.out];exact Zo6 qt qe HKK.out.symm);go_wp2_with fail
    refine HG.out.mono ?_;rintro e w6 ⟨rfl,q,f⟩;have Q6:=Hd q;have F6:=Hd (F5.out.trans f);have A6:=mF5 f HA5 (by decide);have D6:=mF5 f HD5b (by decide);clear q f HG;clear d0 d1 d2 d3 d4 fz0 fz1 fz2 fz3 fz4;have HTH:=Hd (Zaf A6.out rfl);obtain⟨⟨d0,d1,d2,d3,d4⟩,fz0,fz1,fz2,fz3,fz4⟩:=Zat (t:=114) D6.out;go_wp2_with (first | (refine Zaa rfl 114 (.tmp 2) (.tmp 38) rfl w.heap.size _ rfl rfl HTH.out Zfx (all_oneCell_toArray (by simp[Value.oneCell'])) ?_;intro WF hWF))
    rw[HOUT.out];exact Zlo rfl rfl rfl A6.out F6.out Q6.out HRB.out (IsCs.cons (IsC.num _ _ 0) (IsCs.cons (IsC.num _ _ 0) (IsCs.cons (IsC.str _ _ []) (IsCs.cons (IsC.none _ _ 4 (by decide)) (IsCs.cons (IsC.none _ _ 7 (by decide)) (IsCs.nil _ _)))))) hWF
   ·have HD5b:=Hd (show Fiv wr W1.heap.size 114 (.int .i64 1) (.int .i64 0) (.string ⟨#[]⟩) (.slice none 0 0) (.slice none 0 0) from HD5.out);obtain⟨s1,hs1⟩:=eX (s.take [117,115,101]);have Q5b:=Hd (show QS B M wr rb all s1 by rw[hs1];exact Q5.out);have Hs1:=Hd hs1;clear hs1 HD5 Q5;obtain⟨⟨d0,d1,d2,d3,d4⟩,fz0,fz1,fz2,fz3,fz4⟩:=Zat (t:=114) HD5b.out;have HK6:=Hd (ZbQ hM Q5b.out);go_wp2_with fail
    refine HK6.out.mono ?_;rintro e w6 ⟨rfl,q,f⟩;obtain⟨⟨nk,na,nt⟩,hn⟩:∃t,t=(s1).name.1:=⟨_,rfl⟩;rw[←hn];unfold tokV;obtain⟨W6,hW6⟩:=eY (w6.alloc (.cells #[.int .i64 nk,.int .i64 na,.string ⟨nt.toArray⟩] 96));have b:Below w6.heap.size w6 W6:=by rw[←hW6];exact (Below.refl _ _).alloc (nl _) _
    have T6:=Hd (show Thr W6 w6.heap.size 96 (.int .i64 nk) (.int .i64 na) (.string ⟨nt.toArray⟩) by rw[←hW6];exact ZaI w6 _ _ _ _);have Q6:=Hd (q.below b);have fb:=f.below b;have F6:=Hd (F5.out.trans fb);have A6:=mF5 fb HA5 (by decide);have D6:=mF5 fb HD5b (by decide);have HN6:=Hd hn;have HW6:=Hd hW6;clear q f fb b hn hW6 HK6;go_upto_region 13 with fail
    rw[HW6.out];clear d0 d1 d2 d3 d4 fz0 fz1 fz2 fz3 fz4;have HTN:=Hd (show w6.heap.size≠W1.heap.size from fun e=>by
     have h1:=T6.out;have h2:=D6.out;unfold Thr at h1;unfold Fiv at h2;rw[e,h2] at h1;simp at h1)
    obtain⟨⟨d0,d1,d2,d3,d4⟩,fz0,fz1,fz2,fz3,fz4⟩:=Zat (t:=114) D6.out;obtain⟨⟨t0,t1,t2⟩,-⟩:=Zan (t:=96) T6.out;go_upto_region 14 with fail
    obtain⟨W7,hW⟩:=eY (W6.setCell ⟨W1.heap.size,1,none⟩ (.int .i64 na));rw[hW];have Q7:=Hd (show QS B M W7 rb all (s1).name.2 by rw[←hW];exact Q6.out.setNew D6.out (by decide) HRB1.out 1 _);have F7:=Hd (show Fr B w W7 by rw[←hW];exact F6.out.setNew HB1.out _);have A7:=Hd (show Fiv W7 w.heap.size 114 _ _ _ _ _ by rw[←hW];exact (Below.heap_setCell W6 ⟨W1.heap.size,1,none⟩ _ _ (HNE.out)).trans A6.out);have D7:=Hd (show Fiv W7 W1.heap.size 114 (.int .i64 1) (.int .i64 na) (.string ⟨#[]⟩) (.slice none 0 0) (.slice none 0 0) by rw[←hW];exact Zgn D6.out _);have T7:=Hd (show Thr W7 w6.heap.size 96 _ _ _ by rw[←hW];exact (Below.heap_setCell W6 ⟨W1.heap.size,1,none⟩ _ _ (HTN.out)).trans T6.out);clear hW;clear d0 d1 d2 d3 d4 fz0 fz1 fz2 fz3 fz4;clear t0 t1 t2;obtain⟨⟨d0,d1,d2,d3,d4⟩,fz0,fz1,fz2,fz3,fz4⟩:=Zat (t:=114) D7.out;obtain⟨⟨t0,t1,t2⟩,-⟩:=Zan (t:=96) T7.out;go_upto_region 15 with fail
    obtain⟨W8,hW⟩:=eY (W7.setCell ⟨W1.heap.size,2,none⟩ (.string ⟨nt.toArray⟩));rw[hW];have Q8:=Hd (show QS B M W8 rb all (s1).name.2 by rw[←hW];exact Q7.out.setNew D7.out (by decide) HRB1.out 2 _);have F8:=Hd (show Fr B w W8 by rw[←hW];exact F7.out.setNew HB1.out _);have A8:=Hd (show Fiv W8 w.heap.size 114 _ _ _ _ _ by rw[←hW];exact (Below.heap_setCell W7 ⟨W1.heap.size,2,none⟩ _ _ (HNE.out)).trans A7.out);have D8:=Hd (show Fiv W8 W1.heap.size 114 (.int .i64 1) (.int .i64 na) (.string ⟨nt.toArray⟩) (.slice none 0 0) (.slice none 0 0) by rw[←hW];exact Zgm D7.out _);have T8:=Hd (show Thr W8 w6.heap.size 96 _ _ _ by rw[←hW];exact (Below.heap_setCell W7 ⟨W1.heap.size,2,none⟩ _ _ (HTN.out)).trans T7.out);clear hW;clear d0 d1 d2 d3 d4 fz0 fz1 fz2 fz3 fz4;clear t0 t1 t2;obtain⟨s2,hs2⟩:=eX ((s1).name.2);have Q8a:=Hd (show QS B M W8 rb all s2 by rw[hs2];exact Q8.out);have Hs2:=Hd hs2;clear hs2;obtain⟨⟨d0,d1,d2,d3,d4⟩,fz0,fz1,fz2,fz3,fz4⟩:=Zat (t:=114) D8.out;have HK9:=Hd (Zah hM Q8a.out [59]);go_wp2_with fail
    refine HK9.out.mono ?_;rintro e w9 ⟨rfl,q,f⟩;have Q9:=Hd q;have F9:=Hd (F8.out.trans f);have A9:=mF5 f A8 (by decide);have D9:=mF5 f D8 (by decide);clear q f HK9;clear d0 d1 d2 d3 d4 fz0 fz1 fz2 fz3 fz4;have HOUT:=Hd (show out=(⟨1,na,nt,[],[]⟩,(s2).take [59]) by
     rw[HON.out,Zo5 qt qe HKK.out.symm];unfold ZmU;rw[←Hs1.out,←HN6.out,←Hs2.out])
    have HTH:=Hd (Zaf A9.out rfl);obtain⟨⟨d0,d1,d2,d3,d4⟩,fz0,fz1,fz2,fz3,fz4⟩:=Zat (t:=114) D9.out;go_wp2_with (first | (refine Zaa rfl 114 (.tmp 2) (.tmp 80) rfl w.heap.size _ rfl rfl HTH.out Zfx (all_oneCell_toArray (by simp[Value.oneCell'])) ?_;intro WF hWF))
    rw[HOUT.out];exact Zlo rfl rfl rfl A9.out F9.out Q9.out HRB.out (IsCs.cons (IsC.num _ _ 1) (IsCs.cons (IsC.num _ _ na) (IsCs.cons (IsC.str _ _ nt) (IsCs.cons (IsC.none _ _ 4 (by decide)) (IsCs.cons (IsC.none _ _ 7 (by decide)) (IsCs.nil _ _)))))) hWF
   ·have HD5b:=Hd (show Fiv wr W1.heap.size 114 (.int .i64 2) (.int .i64 0) (.string ⟨#[]⟩) (.slice none 0 0) (.slice none 0 0) from HD5.out);obtain⟨s1,hs1⟩:=eX (s.take [116,121,112,101]);have Q5b:=Hd (show QS B M wr rb all s1 by rw[hs1];exact Q5.out);have Hs1:=Hd hs1;clear hs1 HD5 Q5;obtain⟨⟨d0,d1,d2,d3,d4⟩,fz0,fz1,fz2,fz3,fz4⟩:=Zat (t:=114) HD5b.out;have HK6:=Hd (ZbQ hM Q5b.out);go_wp2_with fail
    refine HK6.out.mono ?_;rintro e w6 ⟨rfl,q,f⟩;obtain⟨⟨nk,na,nt⟩,hn⟩:∃t,t=(s1).name.1:=⟨_,rfl⟩;rw[←hn];unfold tokV;obtain⟨W6,hW6⟩:=eY (w6.alloc (.cells #[.int .i64 nk,.int .i64 na,.string ⟨nt.toArray⟩] 96));have b:Below w6.heap.size w6 W6:=by rw[←hW6];exact (Below.refl _ _).alloc (nl _) _
    have T6:=Hd (show Thr W6 w6.heap.size 96 (.int .i64 nk) (.int .i64 na) (.string ⟨nt.toArray⟩) by rw[←hW6];exact ZaI w6 _ _ _ _);have Q6:=Hd (q.below b);have fb:=f.below b;have F6:=Hd (F5.out.trans fb);have A6:=mF5 fb HA5 (by decide);have D6:=mF5 fb HD5b (by decide);have HN6:=Hd hn;have HW6:=Hd hW6;clear q f fb b hn hW6 HK6;go_upto_region 13 with fail
    rw[HW6.out];clear d0 d1 d2 d3 d4 fz0 fz1 fz2 fz3 fz4;have HTN:=Hd (show w6.heap.size≠W1.heap.size from fun e=>by
     have h1:=T6.out;have h2:=D6.out;unfold Thr at h1;unfold Fiv at h2;rw[e,h2] at h1;simp at h1)
    obtain⟨⟨d0,d1,d2,d3,d4⟩,fz0,fz1,fz2,fz3,fz4⟩:=Zat (t:=114) D6.out;obtain⟨⟨t0,t1,t2⟩,-⟩:=Zan (t:=96) T6.out;go_upto_region 14 with fail
    obtain⟨W7,hW⟩:=eY (W6.setCell ⟨W1.heap.size,1,none⟩ (.int .i64 na));rw[hW];have Q7:=Hd (show QS B M W7 rb all (s1).name.2 by rw[←hW];exact Q6.out.setNew D6.out (by decide) HRB1.out 1 _);have F7:=Hd (show Fr B w W7 by rw[←hW];exact F6.out.setNew HB1.out _);have A7:=Hd (show Fiv W7 w.heap.size 114 _ _ _ _ _ by rw[←hW];exact (Below.heap_setCell W6 ⟨W1.heap.size,1,none⟩ _ _ (HNE.out)).trans A6.out);have D7:=Hd (show Fiv W7 W1.heap.size 114 (.int .i64 2) (.int .i64 na) (.string ⟨#[]⟩) (.slice none 0 0) (.slice none 0 0) by rw[←hW];exact Zgn D6.out _);have T7:=Hd (show Thr W7 w6.heap.size 96 _ _ _ by rw[←hW];exact (Below.heap_setCell W6 ⟨W1.heap.size,1,none⟩ _ _ (HTN.out)).trans T6.out);clear hW;clear d0 d1 d2 d3 d4 fz0 fz1 fz2 fz3 fz4;clear t0 t1 t2;obtain⟨⟨d0,d1,d2,d3,d4⟩,fz0,fz1,fz2,fz3,fz4⟩:=Zat (t:=114) D7.out;obtain⟨⟨t0,t1,t2⟩,-⟩:=Zan (t:=96) T7.out;go_upto_region 15 with fail
    obtain⟨W8,hW⟩:=eY (W7.setCell ⟨W1.heap.size,2,none⟩ (.string ⟨nt.toArray⟩));rw[hW];have Q8:=Hd (show QS B M W8 rb all (s1).name.2 by rw[←hW];exact Q7.out.setNew D7.out (by decide) HRB1.out 2 _);have F8:=Hd (show Fr B w W8 by rw[←hW];exact F7.out.setNew HB1.out _);have A8:=Hd (show Fiv W8 w.heap.size 114 _ _ _ _ _ by rw[←hW];exact (Below.heap_setCell W7 ⟨W1.heap.size,2,none⟩ _ _ (HNE.out)).trans A7.out);have D8:=Hd (show Fiv W8 W1.heap.size 114 (.int .i64 2) (.int .i64 na) (.string ⟨nt.toArray⟩) (.slice none 0 0) (.slice none 0 0) by rw[←hW];exact Zgm D7.out _);have T8:=Hd (show Thr W8 w6.heap.size 96 _ _ _ by rw[←hW];exact (Below.heap_setCell W7 ⟨W1.heap.size,2,none⟩ _ _ (HTN.out)).trans T7.out);clear hW;clear d0 d1 d2 d3 d4 fz0 fz1 fz2 fz3 fz4;clear t0 t1 t2;obtain⟨s2,hs2⟩:=eX ((s1).name.2);have Q8a:=Hd (show QS B M W8 rb all s2 by rw[hs2];exact Q8.out);have Hs2:=Hd hs2;clear hs2;obtain⟨⟨d0,d1,d2,d3,d4⟩,fz0,fz1,fz2,fz3,fz4⟩:=Zat (t:=114) D8.out;have HK9:=Hd (Zah hM Q8a.out [61]);go_wp2_with fail
    refine HK9.out.mono ?_;rintro e w9 ⟨rfl,q,f⟩;have Q9:=Hd q;have F9:=Hd (F8.out.trans f);have A9:=mF5 f A8 (by decide);have D9:=mF5 f D8 (by decide);clear q f HK9;clear d0 d1 d2 d3 d4 fz0 fz1 fz2 fz3 fz4;obtain⟨s3,hs3⟩:=eX ((s2).take [61]);have Q9a:=Hd (show QS B M w9 rb all s3 by rw[hs3];exact Q9.out);have Hs3:=Hd hs3;clear hs3;obtain⟨⟨d0,d1,d2,d3,d4⟩,fz0,fz1,fz2,fz3,fz4⟩:=Zat (t:=114) D9.out;obtain⟨⟨x,s4⟩,hx⟩:∃p,p=qt s3:=⟨_,rfl⟩;obtain⟨uk,un,uns,ul⟩:=x;have HK10:=Hd (Zcg HT0.out w9 s3 Q9a.out uk un uns ul s4 hx);have HX10:=Hd hx;have HL10:=Hd (show W1.heap.size<w9.heap.size from (gE D9.out).1);clear hx;go_wp2_with fail
    refine HK10.out.mono ?_;rintro e w10 ⟨ua2,uc2,ua3,uc3,rfl,f,i,q⟩;obtain⟨W10,hW10⟩:=eY (w10.alloc (.cells #[.int .i64 uk,.string ⟨un.toArray⟩,.slice ua2 uns.length uc2,.slice ua3 ul.length uc3] 31));have b:Below w10.heap.size w10 W10:=by rw[←hW10];exact (Below.refl _ _).alloc (nl _) _
    have i2:IsCs (fun b=>W1.heap.size<b) w10 (Zau 31 [.mk uk un uns ul]) [.int .i64 uk,.string ⟨un.toArray⟩,.slice ua2 uns.length uc2,.slice ua3 ul.length uc3]:=by
     rw[Zau,Zau,List.append_nil];exact i.mono (fun b _ hb=>ll HL10.out hb)
    have R3x10:=Hd (show IsC (fun b=>W1.heap.size<b) W10 (.row 31 4 1 (Zau 31 [.mk uk un uns ul])) (.slice (some ⟨w10.heap.size,0,none⟩) 1 1) by rw[←hW10];exact ZaK (n:=1) (by decide) rfl (ll HL10.out f.size) (by decide) rfl i2);have Q10:=Hd (q.below b);have fb:=f.below b;have F10:=Hd (F9.out.trans fb);have A10:=mF5 fb A9 (by decide);have D10:=mF5 fb D9 (by decide);have HW10:=Hd hW10;clear q f fb b i i2 hW10 HK10;have dd:=D10.out;rw[←HW10.out] at dd;obtain⟨⟨d0,d1,d2,d3,d4⟩,fz0,fz1,fz2,fz3,fz4⟩:=Zat (t:=114) dd;clear dd;go_upto_region 21 with fail
    rw[HW10.out];clear d0 d1 d2 d3 d4 fz0 fz1 fz2 fz3 fz4
    obtain⟨W11,hW⟩:=eY (W10.setCell ⟨W1.heap.size,3,none⟩ (.slice (some ⟨w10.heap.size,0,none⟩) 1 1));rw[hW];have Q11:=Hd (show QS B M W11 rb all s4 by rw[←hW];exact Q10.out.setNew D10.out (by decide) HRB1.out 3 _);have F11:=Hd (show Fr B w W11 by rw[←hW];exact F10.out.setNew HB1.out _);have A11:=Hd (show Fiv W11 w.heap.size 114 _ _ _ _ _ by rw[←hW];exact (Below.heap_setCell W10 ⟨W1.heap.size,3,none⟩ _ _ (HNE.out)).trans A10.out);have D11:=Hd (show Fiv W11 W1.heap.size 114 (.int .i64 2) (.int .i64 na) (.string ⟨nt.toArray⟩) (.slice (some ⟨w10.heap.size,0,none⟩) 1 1) (.slice none 0 0) by rw[←hW];exact ZiO D10.out _);have R311:=Hd (show IsC (fun b=>W1.heap.size<b) W11 _ _ by rw[←hW];exact Ze9 R3x10.out W1.heap.size 3 (fun k hk=>Nat.ne_of_gt hk) _);clear hW;obtain⟨⟨d0,d1,d2,d3,d4⟩,fz0,fz1,fz2,fz3,fz4⟩:=Zat (t:=114) D11.out;have HK12:=Hd (Zah hM Q11.out [59]);go_wp2_with fail
    refine HK12.out.mono ?_;rintro e w12 ⟨rfl,q,f⟩;have Q12:=Hd q;have F12:=Hd (F11.out.trans f);have A12:=mF5 f A11 (by decide);have D12:=mF5 f D11 (by decide);have R312:=Hd (IsC.fr f _ _ R311.out);clear q f HK12;clear d0 d1 d2 d3 d4 fz0 fz1 fz2 fz3 fz4;have HOUT:=Hd (show out=(⟨2,na,nt,[.mk uk un uns ul],[]⟩,(s4).take [59]) by
     rw[HON.out,Zo4 qt qe HKK.out.symm];unfold ZmV;rw[←Hs1.out,←HN6.out,←Hs2.out,←Hs3.out,←HX10.out])
    have HTH:=Hd (Zaf A12.out rfl);obtain⟨⟨d0,d1,d2,d3,d4⟩,fz0,fz1,fz2,fz3,fz4⟩:=Zat (t:=114) D12.out;go_wp2_with (first | (refine Zaa rfl 114 (.tmp 2) (.tmp 80) rfl w.heap.size _ rfl rfl HTH.out Zfx (all_oneCell_toArray (by simp[Value.oneCell'])) ?_;intro WF hWF))
    rw[HOUT.out];exact Zlo rfl rfl rfl A12.out F12.out Q12.out HRB.out (IsCs.cons (IsC.num _ _ 2) (IsCs.cons (IsC.num _ _ na) (IsCs.cons (IsC.str _ _ nt) (IsCs.cons (R312.out.mono (fun b _ hb=>Nat.lt_of_le_of_lt HB1.out hb) _ _) (IsCs.cons (IsC.none _ _ 7 (by decide)) (IsCs.nil _ _)))))) hWF
   ·have HD5b:=Hd (show Fiv wr W1.heap.size 114 (.int .i64 3) (.int .i64 0) (.string ⟨#[]⟩) (.slice none 0 0) (.slice none 0 0) from HD5.out);obtain⟨s1,hs1⟩:=eX (s.take [108,101,116]);have Q5b:=Hd (show QS B M wr rb all s1 by rw[hs1];exact Q5.out);have Hs1:=Hd hs1;clear hs1 HD5 Q5;obtain⟨⟨d0,d1,d2,d3,d4⟩,fz0,fz1,fz2,fz3,fz4⟩:=Zat (t:=114) HD5b.out;have HK6:=Hd (ZbQ hM Q5b.out);go_wp2_with fail
    refine HK6.out.mono ?_;rintro e w6 ⟨rfl,q,f⟩;obtain⟨⟨nk,na,nt⟩,hn⟩:∃t,t=(s1).name.1:=⟨_,rfl⟩;rw[←hn];unfold tokV;obtain⟨W6,hW6⟩:=eY (w6.alloc (.cells #[.int .i64 nk,.int .i64 na,.string ⟨nt.toArray⟩] 96));have b:Below w6.heap.size w6 W6:=by rw[←hW6];exact (Below.refl _ _).alloc (nl _) _
    have T6:=Hd (show Thr W6 w6.heap.size 96 (.int .i64 nk) (.int .i64 na) (.string ⟨nt.toArray⟩) by rw[←hW6];exact ZaI w6 _ _ _ _);have Q6:=Hd (q.below b);have fb:=f.below b;have F6:=Hd (F5.out.trans fb);have A6:=mF5 fb HA5 (by decide);have D6:=mF5 fb HD5b (by decide);have HN6:=Hd hn;have HW6:=Hd hW6;clear q f fb b hn hW6 HK6;go_upto_region 13 with fail
    rw[HW6.out];clear d0 d1 d2 d3 d4 fz0 fz1 fz2 fz3 fz4;have HTN:=Hd (show w6.heap.size≠W1.heap.size from fun e=>by
     have h1:=T6.out;have h2:=D6.out;unfold Thr at h1;unfold Fiv at h2;rw[e,h2] at h1;simp at h1)
    obtain⟨⟨d0,d1,d2,d3,d4⟩,fz0,fz1,fz2,fz3,fz4⟩:=Zat (t:=114) D6.out;obtain⟨⟨t0,t1,t2⟩,-⟩:=Zan (t:=96) T6.out;go_upto_region 14 with fail
    obtain⟨W7,hW⟩:=eY (W6.setCell ⟨W1.heap.size,1,none⟩ (.int .i64 na));rw[hW];have Q7:=Hd (show QS B M W7 rb all (s1).name.2 by rw[←hW];exact Q6.out.setNew D6.out (by decide) HRB1.out 1 _);have F7:=Hd (show Fr B w W7 by rw[←hW];exact F6.out.setNew HB1.out _);have A7:=Hd (show Fiv W7 w.heap.size 114 _ _ _ _ _ by rw[←hW];exact (Below.heap_setCell W6 ⟨W1.heap.size,1,none⟩ _ _ (HNE.out)).trans A6.out);have D7:=Hd (show Fiv W7 W1.heap.size 114 (.int .i64 3) (.int .i64 na) (.string ⟨#[]⟩) (.slice none 0 0) (.slice none 0 0) by rw[←hW];exact Zgn D6.out _);have T7:=Hd (show Thr W7 w6.heap.size 96 _ _ _ by rw[←hW];exact (Below.heap_setCell W6 ⟨W1.heap.size,1,none⟩ _ _ (HTN.out)).trans T6.out);clear hW;clear d0 d1 d2 d3 d4 fz0 fz1 fz2 fz3 fz4;clear t0 t1 t2;obtain⟨⟨d0,d1,d2,d3,d4⟩,fz0,fz1,fz2,fz3,fz4⟩:=Zat (t:=114) D7.out;obtain⟨⟨t0,t1,t2⟩,-⟩:=Zan (t:=96) T7.out;go_upto_region 15 with fail
    obtain⟨W8,hW⟩:=eY (W7.setCell ⟨W1.heap.size,2,none⟩ (.string ⟨nt.toArray⟩));rw[hW];have Q8:=Hd (show QS B M W8 rb all (s1).name.2 by rw[←hW];exact Q7.out.setNew D7.out (by decide) HRB1.out 2 _);have F8:=Hd (show Fr B w W8 by rw[←hW];exact F7.out.setNew HB1.out _);have A8:=Hd (show Fiv W8 w.heap.size 114 _ _ _ _ _ by rw[←hW];exact (Below.heap_setCell W7 ⟨W1.heap.size,2,none⟩ _ _ (HNE.out)).trans A7.out);have D8:=Hd (show Fiv W8 W1.heap.size 114 (.int .i64 3) (.int .i64 na) (.string ⟨nt.toArray⟩) (.slice none 0 0) (.slice none 0 0) by rw[←hW];exact Zgm D7.out _);have T8:=Hd (show Thr W8 w6.heap.size 96 _ _ _ by rw[←hW];exact (Below.heap_setCell W7 ⟨W1.heap.size,2,none⟩ _ _ (HTN.out)).trans T7.out);clear hW;clear d0 d1 d2 d3 d4 fz0 fz1 fz2 fz3 fz4;clear t0 t1 t2;obtain⟨s2,hs2⟩:=eX ((s1).name.2);have Q8a:=Hd (show QS B M W8 rb all s2 by rw[hs2];exact Q8.out);have Hs2:=Hd hs2;clear hs2;cases hc:s2.is [58] with
    | true=>
     have HCO:=Hd hc;clear hc;obtain⟨⟨d0,d1,d2,d3,d4⟩,fz0,fz1,fz2,fz3,fz4⟩:=Zat (t:=114) D8.out;have HI9:=Hd (Zao Q8a.out [58]);rw[HCO.out] at HI9;go_wp2_with fail
     refine HI9.out.mono ?_;rintro e w9 ⟨rfl,b⟩;have Q9:=Hd (Q8a.out.below b);have F9:=Hd (F8.out.below b);have A9:=mB5 b A8;have D9:=mB5 b D8;clear b HI9;clear d0 d1 d2 d3 d4 fz0 fz1 fz2 fz3 fz4;obtain⟨⟨d0,d1,d2,d3,d4⟩,fz0,fz1,fz2,fz3,fz4⟩:=Zat (t:=114) D9.out;have HK10:=Hd (Zah hM Q9.out [58]);go_wp2_with fail
     refine HK10.out.mono ?_;rintro e w10 ⟨rfl,q,f⟩;have Q10:=Hd q;have F10:=Hd (F9.out.trans f);have A10:=mF5 f A9 (by decide);have D10:=mF5 f D9 (by decide);clear q f HK10;clear d0 d1 d2 d3 d4 fz0 fz1 fz2 fz3 fz4;obtain⟨s3,hs3⟩:=eX ((s2).take [58]);have Q10a:=Hd (show QS B M w10 rb all s3 by rw[hs3];exact Q10.out);have Hs3:=Hd hs3;clear hs3;obtain⟨⟨d0,d1,d2,d3,d4⟩,fz0,fz1,fz2,fz3,fz4⟩:=Zat (t:=114) D10.out;obtain⟨⟨x,s4⟩,hx⟩:∃p,p=qt s3:=⟨_,rfl⟩;obtain⟨uk,un,uns,ul⟩:=x;have HK11:=Hd (Zcg HT0.out w10 s3 Q10a.out uk un uns ul s4 hx);have HX11:=Hd hx;have HL11:=Hd (show W1.heap.size<w10.heap.size from (gE D10.out).1);clear hx;go_wp2_with fail
     refine HK11.out.mono ?_;rintro e w11 ⟨ua2,uc2,ua3,uc3,rfl,f,i,q⟩;obtain⟨W11,hW11⟩:=eY (w11.alloc (.cells #[.int .i64 uk,.string ⟨un.toArray⟩,.slice ua2 uns.length uc2,.slice ua3 ul.length uc3] 31));have b:Below w11.heap.size w11 W11:=by rw[←hW11];exact (Below.refl _ _).alloc (nl _) _
     have i2:IsCs (fun b=>W1.heap.size<b) w11 (Zau 31 [.mk uk un uns ul]) [.int .i64 uk,.string ⟨un.toArray⟩,.slice ua2 uns.length uc2,.slice ua3 ul.length uc3]:=by
      rw[Zau,Zau,List.append_nil];exact i.mono (fun b _ hb=>ll HL11.out hb)
     have R3x11:=Hd (show IsC (fun b=>W1.heap.size<b) W11 (.row 31 4 1 (Zau 31 [.mk uk un uns ul])) (.slice (some ⟨w11.heap.size,0,none⟩) 1 1) by rw[←hW11];exact ZaK (n:=1) (by decide) rfl (ll HL11.out f.size) (by decide) rfl i2);have Q11:=Hd (q.below b);have fb:=f.below b;have F11:=Hd (F10.out.trans fb);have A11:=mF5 fb A10 (by decide);have D11:=mF5 fb D10 (by decide);have HW11:=Hd hW11;clear q f fb b i i2 hW11 HK11;have dd:=D11.out;rw[←HW11.out] at dd;obtain⟨⟨d0,d1,d2,d3,d4⟩,fz0,fz1,fz2,fz3,fz4⟩:=Zat (t:=114) dd;clear dd;go_upto_region 18 with fail
     rw[HW11.out];clear d0 d1 d2 d3 d4 fz0 fz1 fz2 fz3 fz4
     obtain⟨W12,hW⟩:=eY (W11.setCell ⟨W1.heap.size,3,none⟩ (.slice (some ⟨w11.heap.size,0,none⟩) 1 1));rw[hW];have Q12:=Hd (show QS B M W12 rb all s4 by rw[←hW];exact Q11.out.setNew D11.out (by decide) HRB1.out 3 _);have F12:=Hd (show Fr B w W12 by rw[←hW];exact F11.out.setNew HB1.out _);have A12:=Hd (show Fiv W12 w.heap.size 114 _ _ _ _ _ by rw[←hW];exact (Below.heap_setCell W11 ⟨W1.heap.size,3,none⟩ _ _ (HNE.out)).trans A11.out);have D12:=Hd (show Fiv W12 W1.heap.size 114 (.int .i64 3) (.int .i64 na) (.string ⟨nt.toArray⟩) (.slice (some ⟨w11.heap.size,0,none⟩) 1 1) (.slice none 0 0) by rw[←hW];exact ZiO D11.out _);have R312:=Hd (show IsC (fun b=>W1.heap.size<b) W12 _ _ by rw[←hW];exact Ze9 R3x11.out W1.heap.size 3 (fun k hk=>Nat.ne_of_gt hk) _);clear hW;obtain⟨⟨d0,d1,d2,d3,d4⟩,fz0,fz1,fz2,fz3,fz4⟩:=Zat (t:=114) D12.out;have HK13:=Hd (Zah hM Q12.out [61]);go_wp2_with fail
     refine HK13.out.mono ?_;rintro e w13 ⟨rfl,q,f⟩;have Q13:=Hd q;have F13:=Hd (F12.out.trans f);have A13:=mF5 f A12 (by decide);have D13:=mF5 f D12 (by decide);have R313:=Hd (IsC.fr f _ _ R312.out);clear q f HK13;clear d0 d1 d2 d3 d4 fz0 fz1 fz2 fz3 fz4;obtain⟨s6,hs6⟩:=eX ((s4).take [61]);have Q13a:=Hd (show QS B M w13 rb all s6 by rw[hs6];exact Q13.out);have Hs6:=Hd hs6;clear hs6;obtain⟨⟨d0,d1,d2,d3,d4⟩,fz0,fz1,fz2,fz3,fz4⟩:=Zat (t:=114) D13.out;obtain⟨⟨x,s7⟩,hx⟩:∃p,p=qe s6:=⟨_,rfl⟩;obtain⟨yk,ya,yn,ym,yns,yl,yts⟩:=x;have HK14:=Hd (Zbm HE0.out w13 s6 Q13a.out yk ya yn ym yns yl yts s7 hx);have HX14:=Hd hx;have HL14:=Hd (show W1.heap.size<w13.heap.size from (gE D13.out).1);clear hx;go_wp2_with fail
     refine HK14.out.mono ?_;rintro e w14 ⟨yb4,ye4,yb5,ye5,yb6,ye6,rfl,f,i,q⟩;obtain⟨W14,hW14⟩:=eY (w14.alloc (.cells #[.int .i64 yk,.int .i64 ya,.string ⟨yn.toArray⟩,.int .i64 ym,.slice yb4 yns.length ye4,.slice yb5 yl.length ye5,.slice yb6 yts.length ye6] 41));have b:Below w14.heap.size w14 W14:=by rw[←hW14];exact (Below.refl _ _).alloc (nl _) _
     have i2:IsCs (fun b=>W1.heap.size<b) w14 (Zaw 31 41 [.mk yk ya yn ym yns yl yts]) [.int .i64 yk,.int .i64 ya,.string ⟨yn.toArray⟩,.int .i64 ym,.slice yb4 yns.length ye4,.slice yb5 yl.length ye5,.slice yb6 yts.length ye6]:=by
      rw[Zaw,Zaw,List.append_nil];exact i.mono (fun b _ hb=>ll HL14.out hb)
     have R4x14:=Hd (show IsC (fun b=>W1.heap.size<b) W14 (.row 41 7 1 (Zaw 31 41 [.mk yk ya yn ym yns yl yts])) (.slice (some ⟨w14.heap.size,0,none⟩) 1 1) by rw[←hW14];exact ZaK (n:=1) (by decide) rfl (ll HL14.out f.size) (by decide) rfl i2);have Q14:=Hd (q.below b);have fb:=f.below b;have F14:=Hd (F13.out.trans fb);have A14:=mF5 fb A13 (by decide);have D14:=mF5 fb D13 (by decide);have R314:=Hd (IsC.fr fb _ _ R313.out);have HW14:=Hd hW14;clear q f fb b i i2 hW14 HK14;have dd:=D14.out;rw[←HW14.out] at dd;obtain⟨⟨d0,d1,d2,d3,d4⟩,fz0,fz1,fz2,fz3,fz4⟩:=Zat (t:=114) dd;clear dd;go_upto_region 24 with fail
     rw[HW14.out];clear d0 d1 d2 d3 d4 fz0 fz1 fz2 fz3 fz4
     obtain⟨W15,hW⟩:=eY (W14.setCell ⟨W1.heap.size,4,none⟩ (.slice (some ⟨w14.heap.size,0,none⟩) 1 1));rw[hW];have Q15:=Hd (show QS B M W15 rb all s7 by rw[←hW];exact Q14.out.setNew D14.out (by decide) HRB1.out 4 _);have F15:=Hd (show Fr B w W15 by rw[←hW];exact F14.out.setNew HB1.out _);have A15:=Hd (show Fiv W15 w.heap.size 114 _ _ _ _ _ by rw[←hW];exact (Below.heap_setCell W14 ⟨W1.heap.size,4,none⟩ _ _ (HNE.out)).trans A14.out);have D15:=Hd (show Fiv W15 W1.heap.size 114 (.int .i64 3) (.int .i64 na) (.string ⟨nt.toArray⟩) (.slice (some ⟨w11.heap.size,0,none⟩) 1 1) (.slice (some ⟨w14.heap.size,0,none⟩) 1 1) by rw[←hW];exact ZiN D14.out _);have R315:=Hd (show IsC (fun b=>W1.heap.size<b) W15 _ _ by rw[←hW];exact Ze9 R314.out W1.heap.size 4 (fun k hk=>Nat.ne_of_gt hk) _);have R415:=Hd (show IsC (fun b=>W1.heap.size<b) W15 _ _ by rw[←hW];exact Ze9 R4x14.out W1.heap.size 4 (fun k hk=>Nat.ne_of_gt hk) _);clear hW;obtain⟨⟨d0,d1,d2,d3,d4⟩,fz0,fz1,fz2,fz3,fz4⟩:=Zat (t:=114) D15.out;have HK16:=Hd (Zah hM Q15.out [59]);go_wp2_with fail
     refine HK16.out.mono ?_;rintro e w16 ⟨rfl,q,f⟩;have Q16:=Hd q;have F16:=Hd (F15.out.trans f);have A16:=mF5 f A15 (by decide);have D16:=mF5 f D15 (by decide);have R316:=Hd (IsC.fr f _ _ R315.out);have R416:=Hd (IsC.fr f _ _ R415.out);clear q f HK16;clear d0 d1 d2 d3 d4 fz0 fz1 fz2 fz3 fz4;have HANN:=Hd (show annS qt s2=([.mk uk un uns ul],s4) by
      unfold annS;rw[if_pos HCO.out,←Hs3.out,←HX11.out])
     have HOUT:=Hd (show out=(⟨3,na,nt,[.mk uk un uns ul],[.mk yk ya yn ym yns yl yts]⟩,(s7).take [59]) by
      rw[HON.out,Zlw qt qe HKK.out.symm];unfold Zlx;rw[←Hs1.out,←HN6.out,←Hs2.out,HANN.out,←Hs6.out,←HX14.out])
     have HTH:=Hd (Zaf A16.out rfl);obtain⟨⟨d0,d1,d2,d3,d4⟩,fz0,fz1,fz2,fz3,fz4⟩:=Zat (t:=114) D16.out;go_wp2_with (first | (refine Zaa rfl 114 (.tmp 2) (.tmp 80) rfl w.heap.size _ rfl rfl HTH.out Zfx (all_oneCell_toArray (by simp[Value.oneCell'])) ?_;intro WF hWF))
     rw[HOUT.out];exact Zlo rfl rfl rfl A16.out F16.out Q16.out HRB.out (IsCs.cons (IsC.num _ _ 3) (IsCs.cons (IsC.num _ _ na) (IsCs.cons (IsC.str _ _ nt) (IsCs.cons (R316.out.mono (fun b _ hb=>Nat.lt_of_le_of_lt HB1.out hb) _ _) (IsCs.cons (R416.out.mono (fun b _ hb=>Nat.lt_of_le_of_lt HB1.out hb) _ _) (IsCs.nil _ _)))))) hWF
    | false=>
     have HCO:=Hd hc;clear hc;obtain⟨⟨d0,d1,d2,d3,d4⟩,fz0,fz1,fz2,fz3,fz4⟩:=Zat (t:=114) D8.out;have HI9:=Hd (Zao Q8a.out [58]);rw[HCO.out] at HI9;go_wp2_with fail
     refine HI9.out.mono ?_;rintro e w9 ⟨rfl,b⟩;have Q9:=Hd (Q8a.out.below b);have F9:=Hd (F8.out.below b);have A9:=mB5 b A8;have D9:=mB5 b D8;clear b HI9;clear d0 d1 d2 d3 d4 fz0 fz1 fz2 fz3 fz4;obtain⟨⟨d0,d1,d2,d3,d4⟩,fz0,fz1,fz2,fz3,fz4⟩:=Zat (t:=114) D9.out;have HK10:=Hd (Zah hM Q9.out [61]);go_wp2_with fail
     refine HK10.out.mono ?_;rintro e w10 ⟨rfl,q,f⟩;have Q10:=Hd q;have F10:=Hd (F9.out.trans f);have A10:=mF5 f A9 (by decide);have D10:=mF5 f D9 (by decide);clear q f HK10;clear d0 d1 d2 d3 d4 fz0 fz1 fz2 fz3 fz4;obtain⟨s6,hs6⟩:=eX ((s2).take [61]);have Q10a:=Hd (show QS B M w10 rb all s6 by rw[hs6];exact Q10.out);have Hs6:=Hd hs6;clear hs6;obtain⟨⟨d0,d1,d2,d3,d4⟩,fz0,fz1,fz2,fz3,fz4⟩:=Zat (t:=114) D10.out;obtain⟨⟨x,s7⟩,hx⟩:∃p,p=qe s6:=⟨_,rfl⟩;obtain⟨yk,ya,yn,ym,yns,yl,yts⟩:=x;have HK11:=Hd (Zbm HE0.out w10 s6 Q10a.out yk ya yn ym yns yl yts s7 hx);have HX11:=Hd hx;have HL11:=Hd (show W1.heap.size<w10.heap.size from (gE D10.out).1);clear hx;go_wp2_with fail
     refine HK11.out.mono ?_;rintro e w11 ⟨yb4,ye4,yb5,ye5,yb6,ye6,rfl,f,i,q⟩;obtain⟨W11,hW11⟩:=eY (w11.alloc (.cells #[.int .i64 yk,.int .i64 ya,.string ⟨yn.toArray⟩,.int .i64 ym,.slice yb4 yns.length ye4,.slice yb5 yl.length ye5,.slice yb6 yts.length ye6] 41));have b:Below w11.heap.size w11 W11:=by rw[←hW11];exact (Below.refl _ _).alloc (nl _) _
     have i2:IsCs (fun b=>W1.heap.size<b) w11 (Zaw 31 41 [.mk yk ya yn ym yns yl yts]) [.int .i64 yk,.int .i64 ya,.string ⟨yn.toArray⟩,.int .i64 ym,.slice yb4 yns.length ye4,.slice yb5 yl.length ye5,.slice yb6 yts.length ye6]:=by
      rw[Zaw,Zaw,List.append_nil];exact i.mono (fun b _ hb=>ll HL11.out hb)
     have R4x11:=Hd (show IsC (fun b=>W1.heap.size<b) W11 (.row 41 7 1 (Zaw 31 41 [.mk yk ya yn ym yns yl yts])) (.slice (some ⟨w11.heap.size,0,none⟩) 1 1) by rw[←hW11];exact ZaK (n:=1) (by decide) rfl (ll HL11.out f.size) (by decide) rfl i2);have Q11:=Hd (q.below b);have fb:=f.below b;have F11:=Hd (F10.out.trans fb);have A11:=mF5 fb A10 (by decide);have D11:=mF5 fb D10 (by decide);have HW11:=Hd hW11;clear q f fb b i i2 hW11 HK11;have dd:=D11.out;rw[←HW11.out] at dd;obtain⟨⟨d0,d1,d2,d3,d4⟩,fz0,fz1,fz2,fz3,fz4⟩:=Zat (t:=114) dd;clear dd;go_upto_region 24 with fail
     rw[HW11.out];clear d0 d1 d2 d3 d4 fz0 fz1 fz2 fz3 fz4
     obtain⟨W12,hW⟩:=eY (W11.setCell ⟨W1.heap.size,4,none⟩ (.slice (some ⟨w11.heap.size,0,none⟩) 1 1));rw[hW];have Q12:=Hd (show QS B M W12 rb all s7 by rw[←hW];exact Q11.out.setNew D11.out (by decide) HRB1.out 4 _);have F12:=Hd (show Fr B w W12 by rw[←hW];exact F11.out.setNew HB1.out _);have A12:=Hd (show Fiv W12 w.heap.size 114 _ _ _ _ _ by rw[←hW];exact (Below.heap_setCell W11 ⟨W1.heap.size,4,none⟩ _ _ (HNE.out)).trans A11.out);have D12:=Hd (show Fiv W12 W1.heap.size 114 (.int .i64 3) (.int .i64 na) (.string ⟨nt.toArray⟩) (.slice none 0 0) (.slice (some ⟨w11.heap.size,0,none⟩) 1 1) by rw[←hW];exact ZiN D11.out _);have R412:=Hd (show IsC (fun b=>W1.heap.size<b) W12 _ _ by rw[←hW];exact Ze9 R4x11.out W1.heap.size 4 (fun k hk=>Nat.ne_of_gt hk) _);clear hW;obtain⟨⟨d0,d1,d2,d3,d4⟩,fz0,fz1,fz2,fz3,fz4⟩:=Zat (t:=114) D12.out;have HK13:=Hd (Zah hM Q12.out [59]);go_wp2_with fail
     refine HK13.out.mono ?_;rintro e w13 ⟨rfl,q,f⟩;have Q13:=Hd q;have F13:=Hd (F12.out.trans f);have A13:=mF5 f A12 (by decide);have D13:=mF5 f D12 (by decide);have R413:=Hd (IsC.fr f _ _ R412.out);clear q f HK13;clear d0 d1 d2 d3 d4 fz0 fz1 fz2 fz3 fz4;have HANN:=Hd (show annS qt s2=([],s2) by
      unfold annS;rw[if_neg (by rw[HCO.out];decide)])
     have HOUT:=Hd (show out=(⟨3,na,nt,[],[.mk yk ya yn ym yns yl yts]⟩,(s7).take [59]) by
      rw[HON.out,Zlw qt qe HKK.out.symm];unfold Zlx;rw[←Hs1.out,←HN6.out,←Hs2.out,HANN.out,←Hs6.out,←HX11.out])
     have HTH:=Hd (Zaf A13.out rfl);obtain⟨⟨d0,d1,d2,d3,d4⟩,fz0,fz1,fz2,fz3,fz4⟩:=Zat (t:=114) D13.out;go_wp2_with (first | (refine Zaa rfl 114 (.tmp 2) (.tmp 80) rfl w.heap.size _ rfl rfl HTH.out Zfx (all_oneCell_toArray (by simp[Value.oneCell'])) ?_;intro WF hWF))
     rw[HOUT.out];exact Zlo rfl rfl rfl A13.out F13.out Q13.out HRB.out (IsCs.cons (IsC.num _ _ 3) (IsCs.cons (IsC.num _ _ na) (IsCs.cons (IsC.str _ _ nt) (IsCs.cons (IsC.none _ _ 4 (by decide)) (IsCs.cons (R413.out.mono (fun b _ hb=>Nat.lt_of_le_of_lt HB1.out hb) _ _) (IsCs.nil _ _)))))) hWF
theorem infoDq:(Tryz.prog.info? 114).map (fun i=>(i.zero,i.size,i.bytes))=some (some (.agg #[.int .i64 0,.int .i64 0,.string ⟨#[]⟩,.slice none 0 0,.slice none 0 0]),5,80):=by kernel_rfl
theorem Zgs{e f:TypeId}{A:Nat→Prop}{w:World}{k a:Nat}{n:Bs}{ts:List PT}{es:List PE}{cs:List Value}(h:IsCs A w (encD e f ⟨k,a,n,ts,es⟩) cs):∃a3 c3 a4 c4,cs=[.int .i64 k,.int .i64 a,.string ⟨n.toArray⟩,.slice a3 ts.length c3,.slice a4 es.length c4]∧IsC A w (.row e 4 ts.length (Zau e ts)) (.slice a3 ts.length c3)∧IsC A w (.row f 7 es.length (Zaw e f es)) (.slice a4 es.length c4):=by
 unfold encD at h;obtain⟨x0,ys,rfl,k0,h⟩:=h.uncons;obtain⟨x1,ys,rfl,k1,h⟩:=h.uncons;obtain⟨x2,ys,rfl,k2,h⟩:=h.uncons;obtain⟨x3,ys,rfl,k3,h⟩:=h.uncons;obtain⟨x4,ys,rfl,k4,h⟩:=h.uncons;simp only[IsC] at k0 k1 k2;obtain rfl:ys=[]:=by simpa only[IsCs] using h
 subst k0 k1 k2;obtain⟨_,r3,-,-⟩:=k3.unrow;obtain⟨a3,c3,rfl⟩:=Zag r3;obtain⟨_,r4,-,-⟩:=k4.unrow;obtain⟨a4,c4,rfl⟩:=Zag r4;exact⟨a3,c3,a4,c4,rfl,k3,k4⟩
theorem QS.setOk{B M M':Nat}{w:World}{rb:Nat}{all:List Tk}{ts:List Tk}{nd:Nat}{bd:Bool}(h:QS B M w rb all ⟨ts,nd,bd⟩)(hM:nd+2*ts.length+1≤M'):QS B M' (w.setCell ⟨rb,3,none⟩ (.bool false)) rb all ⟨ts,nd,false⟩∧Fr B w (w.setCell ⟨rb,3,none⟩ (.bool false)):=by
 obtain⟨h1,h2,h3,h4,h5,vt,vd,i,xs,h6,h7,h8,h9,h10⟩:=h;have hne2:∀{base:Nat}{e:TypeId}{v:Value}{n:Nat}{xs:List Value},w.ownsRow base e 3 v n xs→e≠92→∀u,(w.setCell ⟨rb,3,none⟩ u).ownsRow base e 3 v n xs:=by
  intro base e v n xs hr he u;refine⟨hr.1,?_⟩;rcases hr.2 with hn | ⟨g,cap,cur,hv,hg0,hg,rest⟩
  ·exact .inl hn
  ·refine .inr ⟨g,cap,cur,hv,hg0,(Below.heap_setCell w ⟨rb,3,none⟩ _ g ?_).trans hg,rest⟩;rintro rfl;rw[h6] at hg;cases hg;exact he rfl
 exact⟨⟨h1,by simpa[World.setCell] using h2,h3,by simpa using hM,h5,vt,vd,i,xs,heap_setCell_same w rb 3 _ _ _ h6,hne2 h7 (by decide) _,hne2 h8 (by decide) _,h9,h10⟩,(Fr.refl B w).setOwn h6 (by decide) h1 _⟩
theorem ok_lt{ts:List Tk}{d:PD}{r:List Tk}{e:List Dn}(h:ZbI ts=.ok d r e):r.length+1≤ts.length:=by
 have h1:szD d+r.length≤ts.length:=Zlu ts d r e h;have h2:1≤szD d:=by unfold szD;omega
 omega
theorem bad_lt{ts:List Tk}{y:Dn}{r:List Tk}{e:List Dn}(h:ZbI ts=.bad y r e)(hk:(hd ts).k≠6)(hr:r≠[]):(Za4 r).length+1≤ts.length:=by
 obtain⟨p,e1,-⟩:=(Zdg ts).2 y r e h;cases p with
 | nil=>
  have e1:ts=r:=e1;subst e1;obtain⟨t,q,rfl⟩:∃t q,ts=t::q:=by cases ts with | nil=>exact absurd rfl hr | cons t q=>exact⟨t,q,rfl⟩
  exact Zix (ts:=t::q) rfl hk
 | cons t p=>
  have:=Zeu r;rw[e1,lA,lC];omega
theorem pass_6{ts:List Tk}(h:(hd ts).k=6)(hne:ts≠[]):Za4 ts=ts:=by
 cases ts with
 | nil=>exact absurd rfl hne
 | cons t r=>exact Ze0 rfl h
theorem is_k{ts:List Tk}{m:Bs}(h:isM m ts=true):(hd ts).k≠6:=isM_6 h
theorem pass_m{ts:List Tk}(h:isM [59] ts=true):Za4 ts=ts.tail:=by
 cases ts with
 | nil=>cases h
 | cons t r=>exact ZfC rfl (is_k h) h
theorem pass_n{ts:List Tk}(hk:(hd ts).k≠6)(h:isM [59] ts=false):Za4 ts=Za4 ts.tail:=by
 cases ts with
 | nil=>exact absurd rfl hk
 | cons t r=>exact Ziw rfl hk h
theorem Zh0 (l:List PD)(d:PD):ZdF 31 41 (l++[d])=ZdF 31 41 l++encD 31 41 d:=by simp[ZdF]
theorem Zi6 (s:ByteArray)(hs:s.size≤100000)(w:World) :
  Calls Tryz.prog 20 #[.string s] w fun e w'=>∃vl vd,e=.returned (.tuple #[vl,vd])∧Below w.heap.size w w'∧IsC (fun b=>w.heap.size≤b) w' (.row 114 5 (Zbt s.data.toList).1.length (ZdF 31 41 (Zbt s.data.toList).1)) vl:=by
 obtain⟨i0,hi,hz0,hz1,hz2⟩:=info_parts infoDq;have HOF:=Hd (ZkR s hs w);have HS:=Hd (show s.data.toList.length≤100000 by rw[Lib.size_eq] at hs;exact hs);have HTL:=Hd (Zco s.data.toList);have HDL:=Hd (show (dns s.data.toList).length≤s.data.toList.length by have:=Zdi s.data.toList;simpa[dns] using this);have HNUM:=Hd (ZdJ s.data.toList);have HFIN:=Hd (show ∃p e,toks s.data.toList=p++[e]∧e.k=6 from⟨_,_,rfl,rfl⟩);obtain⟨out,hout⟩:=eX ((Zbt s.data.toList).1);obtain⟨all,hall⟩:=eX (toks s.data.toList);obtain⟨nd,hnd⟩:=eX ((dns s.data.toList).length);have HOUT:=Hd (show out=[]++(ZaO all.length all).1 by rw[hout,hall];rfl);rw[←hall] at HOF HTL HFIN HNUM;rw[←hnd] at HOF HDL;rw[←hout];clear hs hall hnd hout;go_enter Tryz.func20,Tryz.ntmps20
 go_wp2_with fail
 refine HOF.out.mono ?_;rintro e w2 ⟨v,u,xs,rfl,r1,r2,hv,b2⟩;obtain⟨av,cv,rfl⟩:=Zag r1;obtain⟨au,cu,rfl⟩:=Zag r2;obtain⟨W3,hW3⟩:=eY (w2.alloc (.cells #[.slice av all.length cv,.int .i64 0,.slice au nd cu,.bool false] 92));have Q3:=Hd (show QS w.heap.size 10000000 W3 w2.heap.size all ⟨all,nd,false⟩ by
  rw[←hW3];refine⟨b2.size,by have:=b2.size;simp;omega,HFIN.out,?_,?_,_,_,0,xs,hN w2 _,r1.alloc _,r2.alloc _,by simp,hv⟩
  ·have:=HTL.out;have:=HDL.out;have:=HS.out
   show nd+2*all.length+1≤10000000;omega
  ·have:=HTL.out;have:=HS.out;omega)
 have HB3:=Hd (show Below w.heap.size w W3 by rw[←hW3];exact b2.alloc b2.size _);have HSZ:=Hd (show w2.heap.size<W3.heap.size by rw[←hW3];simp);have HW3:=Hd hW3;obtain⟨rb,hrb⟩:=eX (w2.heap.size);clear r1 r2 hv b2 hW3;go_wp2_with fail
 rw[HW3.out];rw[←hrb] at Q3 HSZ⊢;clear HW3 hrb HOF;go_loopw [5] (fun s5 wr=>∃(ts:List Tk) (nd n:Nat) (acc:List PD) (xs:List Value),Hid (QS w.heap.size 10000000 wr rb all ⟨ts,nd,false⟩)∧Hid (nd+3*ts.length≤1000000)∧Hid (ts.length≤n)∧Hid (acc.length+ts.length≤1000000)∧Hid (out=acc++(ZaO n ts).1)∧Hid (Fr w.heap.size W3 wr)∧Hid (wr.ownsRow 0 114 5 s5 acc.length xs)∧Hid (∀b,s5.ownBlock=some b→W3.heap.size≤b)∧Hid (IsCs (fun b=>W3.heap.size≤b∧some b≠s5.ownBlock) wr (ZdF 31 41 acc) xs)) (fun _ wr=>left rb all wr)
 case atStart=>
  refine⟨all,nd,all.length,[],[],Q3,Hd ?_,Hd (nl _),Hd ?_,HOUT,Hd (Fr.refl _ _),Hd (World.ownsRow_nil _ _ _ _),Hd (fun b hb=>by cases hb),Hd (IsCs.nil _ _)⟩
  ·have:=HTL.out;have:=HDL.out;have:=HS.out;omega
  ·have:=HTL.out;have:=HS.out;simp;omega
 case round=>
  obtain⟨wo,rfl⟩:=eX (wr);obtain⟨ts,nd1,n,acc,xs,QR,HC,HN,HAC,HQ,F,RW,OW,CW⟩:=hrel;clear Q3 HOUT;have HLE:=Hd QR.out.left;obtain⟨g,cap,i,vd,h6,hi6,hbig,hg,c0,c1,c2,-⟩:=QR.out.first
  obtain⟨⟨p0,p1,p2,p3⟩,f0,f1,f2,f3⟩:=Zae h6;obtain⟨kk,hkk⟩:=eX ((hd ts).k);rw[show (hd (Q.mk ts _ _).ts)=hd ts from rfl,←hkk] at c0;have H6:=Hd h6;have HKV:=Hd hkk;clear hkk c1 c2;obtain⟨vt',vd',i',xs',k6,-,k8,-⟩:=QR.out.ex;rw[h6] at k6;simp only[Option.some.injEq,Obj.cells.injEq,Array.mk.injEq,List.cons.injEq,and_true] at k6;obtain⟨-,-,rfl,-⟩:=k6;obtain⟨ad,cd,rfl⟩:=Zag k8;clear k8;clear h6;by_cases hk:kk=6
  ·have hk1:((kk:Int) !=6)=false:=by simp only[bne_eq_false_iff_eq];omega
   have HE:=Hd (show out=acc by rw[HQ.out,Ze1 (by rw[←HKV.out];exact hk)];simp);obtain⟨al,cl,hul⟩:=Zag RW.out;have HUL:=Hd hul;clear hk hul;go_wp2_with fail
   go_quiet (fail)
   go_wp2_with fail
   go_ret2
   refine⟨_,_,rfl,HB3.out.trans ((F.out.alike (W':=wo.drewN nq) rfl rfl rfl rfl).belows HB3.out.size),?_⟩;rw[HE.out];exact IsC.row (by decide) (Zbc (S:=fun _=>False) RW.out (nl _) (fun _ _ _=>rfl) (fun _ _ h=>h)) (fun b hb=>Nat.le_trans HB3.out.size (OW.out b hb)) (IsCs.kept (w:=wo) (w':=wo.drewN nq) (S:=fun _=>False) (nl _) (fun _ _ _=>rfl) (fun _ _ h=>h) _ _ (CW.out.mono (fun b _ hb=>Nat.le_trans HB3.out.size hb.1)))
  ·have hk1:((kk:Int) !=6)=true:=by simp only[bne_iff_ne,ne_eq];omega
   have HK:=Hd (show (hd ts).k≠6 by rw[←HKV.out];exact hk);have hMM:nd1+2*ts.length+1≤10000000:=by have:=HC.out;omega
   have QM:=QR.out.reM (M':=nd1+2*ts.length+1) (by simp);have HD:=Hd (ZkA hMM (qTyp 64) (qExp 64) (Zf2 hMM 64 1 rfl).1 (Zf3 hMM HNUM.out 64 1 rfl) wo ⟨ts,nd1,false⟩ QM);have HREL:=Hd (Zoj ts nd1);obtain⟨⟨d,s4⟩,hp⟩:∃p,p=Zef (qTyp 64) (qExp 64) ⟨ts,nd1,false⟩:=⟨_,rfl⟩;rw[←hp] at HD HREL;obtain⟨dk,da,dn,dts,des⟩:=d;obtain⟨ts4,nd4,bd4⟩:=s4;have HN0:=Hd (show 0<ts.length by
    cases ts with
    | nil=>exact absurd rfl HK.out
    | cons t r=>simp)
   obtain⟨n',rfl⟩:∃n',n=n'+1:=⟨n-1,by have:=HN.out;have:=HN0.out;omega⟩;clear hk hMM QM hp;go_wp2_with fail
   refine HD.out.mono ?_;rintro e w4 ⟨f4,⟨cs,rfl,hcs⟩,q4⟩;obtain⟨a3,c3,a4,c4,rfl,-,-⟩:=Zgs hcs;obtain⟨W4,hW4⟩:=eY (w4.alloc (.cells #[.int .i64 dk,.int .i64 da,.string ⟨dn.toArray⟩,.slice a3 dts.length c3,.slice a4 des.length c4] 114));have b4:Below w4.heap.size w4 W4:=by rw[←hW4];exact (Below.refl _ _).alloc (nl _) _
   have Q4:=Hd (q4.below b4);have F4:=Hd ((F.out.trans f4).below b4);have R4:=Hd (ZaM (f4.row RW.out (by decide)) b4);have C4:=Hd ((IsCs.fr f4 _ _ CW.out).below b4);have V4:=Hd (hcs.below b4);have N4:=Hd (show W4.heap[w4.heap.size]?=some (.cells #[.int .i64 dk,.int .i64 da,.string ⟨dn.toArray⟩,.slice a3 dts.length c3,.slice a4 des.length c4] 114 (0,0)) by rw[←hW4];exact hN w4 _);have HS4:=Hd (show W4.heap.size=w4.heap.size+1 by rw[←hW4];simp);have HF0:=Hd (show W3.heap.size≤wo.heap.size from F.out.size);have HF4:=Hd f4.size;have HRL:=Hd (show ∀b,u5.ownBlock=some b→b<wo.heap.size from fun b hb=>(RW.out.lt b hb).2);have HW4:=Hd hW4;clear f4 hcs q4 b4 hW4 HD p0 p1 p2 p3 f0 f1 f2 f3 c0 hk1;go_upto_region 5 with fail
   rw[HW4.out];cases hr:ZbI ts with
   | ok d' r ds=>
    have hrel:=HREL.out;rw[hr] at hrel;have hrel:(⟨⟨dk,da,dn,dts,des⟩,⟨ts4,nd4,bd4⟩⟩:PD×Q)=(d',⟨r,nd1+ds.length,false⟩):=hrel;injection hrel with e1 e2
    injection e2 with e2 e3 e4
    subst e1 e2 e3 e4;have HLT:=Hd (ok_lt hr);have HQ3:=Hd (show out=acc++[⟨dk,da,dn,dts,des⟩]++(ZaO n' ts4).1 by rw[HQ.out,Zct HK.out,hr];simp);have HBD:=Hd (show nd1+ds.length+2*ts4.length+1≤nd1+2*ts.length+1 from Q4.out.bd);obtain⟨g,cap,i,vd,h6,hi6,hbig,hg,c0,c1,c2,-⟩:=Q4.out.first
    obtain⟨⟨p0,p1,p2,p3⟩,f0,f1,f2,f3⟩:=Zae h6;obtain⟨k4,hk4⟩:=eX ((hd ts4).k);rw[show (hd (Q.mk ts4 _ _).ts)=hd ts4 from rfl,←hk4] at c0;have H6:=Hd h6;have HKV:=Hd hk4;clear hk4 c1 c2;clear h6;obtain⟨⟨q0,q1,q2,q3,q4⟩,-⟩:=Zat (t:=114) N4.out;have R8:=Hd (R4.out.alloc (.cells #[.int .i64 dk,.int .i64 da,.string ⟨dn.toArray⟩,.slice a3 dts.length c3,.slice a4 des.length c4] 114));have HNB:=Hd (World.news_of_block (hN W4 (.cells #[.int .i64 dk,.int .i64 da,.string ⟨dn.toArray⟩,.slice a3 dts.length c3,.slice a4 des.length c4] 114)));have HONE:=Hd (show ∀u∈([.int .i64 dk,.int .i64 da,.string ⟨dn.toArray⟩,.slice a3 dts.length c3,.slice a4 des.length c4]:List Value),u.oneCell'=true by simp[Value.oneCell']);have hmx:acc.length+1≤maxLen:=by have:=HAC.out;unfold maxLen;omega
    have hmb:(acc.length+1)*80≤140737488355328:=by have:=HAC.out;omega
    clear hr hrel;go_wp2_with (first | (at_builtin;refine wpList_append_lies _ rfl (.tmp 21) (.tmp 23) 53 rfl 0 114 i0 _ 5 80 Tryz.underlying53 hi hz0 hz1 hz2 rfl (by decide) u5 acc.length _ rfl R8.out ⟨W4.heap.size,0,none⟩ 1 1 [.int .i64 dk,.int .i64 da,.string ⟨dn.toArray⟩,.slice a3 dts.length c3,.slice a4 des.length c4] rfl rfl HNB.out HONE.out (by decide) hmx hmb (Nat.zero_le _) (W4.heap.size+1) (World.size_alloc _ _) ?_;intro g' cap' w9 hown9 hg9 hat9 hlt9))
    have hgg:W3.heap.size≤g':=by
     rcases hat9 with e | e
     ·exact OW.out g' e
     ·have:=HS4.out;have:=HF4.out;have:=HF0.out;omega
    have hQ9:=((Q4.out.alloc (.cells #[.int .i64 dk,.int .i64 da,.string ⟨dn.toArray⟩,.slice a3 dts.length c3,.slice a4 des.length c4] 114)).grown R8.out (by decide) (fun b hb=>by have:=OW.out b hb;have:=HSZ.out;omega) hg9);refine⟨⟨ts4,nd1+ds.length,n',acc++[⟨dk,da,dn,dts,des⟩],xs++[.int .i64 dk,.int .i64 da,.string ⟨dn.toArray⟩,.slice a3 dts.length c3,.slice a4 des.length c4],Hd (hQ9.reM ?_),Hd ?_,Hd ?_,Hd ?_,HQ3,Hd ((F4.out.alloc _).grownNew hg9 (fun b hb=>OW.out b hb)),Hd (by simpa using hown9),Hd (fun b hb=>by cases hb;exact hgg),Hd ?_⟩,?_⟩
    ·have:=HBD.out;have:=HC.out;have:=HLT.out
     show nd1+ds.length+2*ts4.length+1≤10000000;omega
    ·have:=HBD.out;have:=HC.out;have:=HLT.out;omega
    ·have:=HN.out;have:=HLT.out;omega
    ·have:=HAC.out;have:=HLT.out;simp;omega
    ·show IsCs _ w9 (ZdF 31 41 (acc++[⟨dk,da,dn,dts,des⟩])) _;rw[Zh0];have k1:=((C4.out.below ((Below.refl _ _).alloc (nl _) (.cells #[.int .i64 dk,.int .i64 da,.string ⟨dn.toArray⟩,.slice a3 dts.length c3,.slice a4 des.length c4] 114))).mono (A':=fun b=>W3.heap.size≤b∧some b≠u5.ownBlock∧b<W4.heap.size+1) (fun b hb hb'=>⟨hb'.1,hb'.2,by simpa using hb⟩)).grown hg9 (fun b hb=>hb.2.1);have k2:=((V4.out.mono (A':=fun b=>W3.heap.size≤b∧some b≠u5.ownBlock∧b<W4.heap.size+1) (fun b hb hb'=>⟨by have:=HF0.out;omega,fun e=>by have:=HRL.out b e.symm;omega,by omega⟩)).below ((Below.refl _ _).alloc (nl _) (.cells #[.int .i64 dk,.int .i64 da,.string ⟨dn.toArray⟩,.slice a3 dts.length c3,.slice a4 des.length c4] 114))).grown hg9 (fun b hb=>hb.2.1);have k3:=k1.append _ _ _ _ k2;refine k3.mono (fun b _ hb=>⟨hb.1,fun e=>?_⟩);have e':b=g':=by cases e;rfl
     subst e';rcases hat9 with e | e
     ·exact hb.2.1 e.symm
     ·omega
    ·rw[hQ9.left,HLE.out];have:=HLT.out;show ts4.length<ts.length;omega
   | bad y r ds=>
    have hrel:=HREL.out;rw[hr] at hrel;obtain⟨h1,h2⟩:=hrel;have h1:ts4=r:=h1;have h2:bd4=true:=h2;subst h1 h2;have HNE4:=Hd (show ts4≠[] by
     obtain⟨p,e,h3,-⟩:=Q4.out.fin;have h3:ts4=p++[e]:=h3;rw[h3];simp)
    have HLT:=Hd (bad_lt hr HK.out HNE4.out);have HQ3:=Hd (show out=acc++(ZaO n' (Za4 ts4)).1 by rw[HQ.out,Zct HK.out,hr]);have HBD:=Hd (show nd4+2*ts4.length+0≤nd1+2*ts.length+1 from Q4.out.bd);have HL4:=Hd (show ts4.length≤ts.length by
     obtain⟨p,e1,-⟩:=(Zdg ts).2 y ts4 ds hr;rw[e1,lA];omega)
    obtain⟨g,cap,i,vd,h6,hi6,hbig,hg,c0,c1,c2,-⟩:=Q4.out.first
    obtain⟨⟨p0,p1,p2,p3⟩,f0,f1,f2,f3⟩:=Zae h6;obtain⟨k4,hk4⟩:=eX ((hd ts4).k);rw[show (hd (Q.mk ts4 _ _).ts)=hd ts4 from rfl,←hk4] at c0;have H6:=Hd h6;have HKV:=Hd hk4;clear hk4 c1 c2;clear h6;have HOK:=Hd (Q4.out.setOk (M':=10000000) (by have:=HBD.out;have:=HC.out;have:=HL4.out;omega));obtain⟨W5,hW5⟩:=eY (W4.setCell ⟨rb,3,none⟩ (.bool false));rw[hW5] at HOK;have Q5:=Hd HOK.out.1;have F5:=Hd (F4.out.trans HOK.out.2);have R5:=Hd (HOK.out.2.row R4.out (by decide));have C5:=Hd (IsCs.fr HOK.out.2 _ _ C4.out);have HW5:=Hd hW5;clear hr hW5 HOK Q4 F4 R4 C4 V4 N4 HQ HREL h1 h2;go_wp2_with fail
    rw[HW5.out];clear p0 p1 p2 p3 f0 f1 f2 f3 c0 HW5 H6;go_loopw [] (fun wx=>∃tx:List Tk,Hid (QS w.heap.size 10000000 wx rb all ⟨tx,nd4,false⟩)∧Hid (Za4 tx=Za4 ts4)∧Hid (tx.length≤ts4.length)∧Hid (Fr w.heap.size W5 wx)) (fun wx=>left rb all wx)
    case atStart=>exact⟨ts4,Q5,rfl,nl _,Fr.refl _ _⟩
    case round=>
     obtain⟨tx,QX,HPX,HLX,FX⟩:=hrel;have HLE6:=Hd QX.out.left;have HI:=Hd (Zao QX.out [59]);obtain⟨g,cap,i,vd,h6,hi6,hbig,hg,c0,c1,c2,-⟩:=QX.out.first
     obtain⟨⟨p0,p1,p2,p3⟩,f0,f1,f2,f3⟩:=Zae h6;obtain⟨kx,hkx⟩:=eX ((hd tx).k);rw[show (hd (Q.mk tx _ _).ts)=hd tx from rfl,←hkx] at c0;have H6:=Hd h6;have HKV:=Hd hkx;clear hkx c1 c2;clear h6;have HNX:=Hd (show tx≠[] by
      obtain⟨p,e,h3,-⟩:=QX.out.fin;have h3:tx=p++[e]:=h3;rw[h3];simp)
     by_cases hk:kx=6
     ·have hk1:((kx:Int) !=6)=false:=by simp only[bne_eq_false_iff_eq];omega
      have HS6:=Hd (show (Q.mk tx nd4 false).is [59]=false by
       show (!false&&isM [59] tx)=false;cases hm:isM [59] tx with
       | false=>rfl
       | true=>exact absurd (by rw[←HKV.out];exact hk) (is_k hm))
      rw[HS6.out] at HI;have HP6:=Hd (show Za4 ts4=tx by rw[←HPX.out];exact pass_6 (by rw[←HKV.out];exact hk) HNX.out);have HLT0:=Hd (show tx.length=(Za4 ts4).length by rw[HP6.out]);clear hk;go_wp2_with fail
      refine HI.out.mono ?_;rintro e w6 ⟨rfl,b6⟩;have Q6:=Hd (QX.out.below b6);have F6:=Hd ((F5.out.trans FX.out).below b6);have R6:=Hd (ZaM (FX.out.row R5.out (by decide)) b6);have C6:=Hd ((IsCs.fr FX.out _ _ C5.out).below b6);clear b6;go_wp2_with fail
      refine⟨⟨tx,nd4,n',acc,xs,Q6,Hd ?_,Hd ?_,Hd ?_,Hd ?_,F6,R6,OW,C6⟩,?_⟩
      ·have h1:=HP6.out;have h2:=HLT.out;have h3:=HBD.out;have h4:=HC.out;have h5:=HLX.out;have h6:=HLT0.out
       omega
      ·have h2:=HLT.out;have h3:=HN.out;have h6:=HLT0.out
       omega
      ·have h2:=HLT.out;have h3:=HAC.out;have h6:=HLT0.out
       omega
      ·rw[HQ3.out,HP6.out]
      ·rw[Q6.out.left,HLE.out];have h2:=HLT.out;have h6:=HLT0.out
       show (tx).length<ts.length;omega
     ·have hk1:((kx:Int) !=6)=true:=by simp only[bne_iff_ne,ne_eq];omega
      have HK6:=Hd (show (hd tx).k≠6 by rw[←HKV.out];exact hk);have HTX:=Hd (show tx.tail.length+1=tx.length by
       cases tx with
       | nil=>exact absurd rfl HNX.out
       | cons t r=>rfl)
      clear hk;cases hm:isM [59] tx with
      | true=>
       have HIS:=Hd (show (Q.mk tx nd4 false).is [59]=true by
        show (!false&&isM [59] tx)=true;rw[hm];rfl)
       rw[HIS.out] at HI;have HP6:=Hd (show Za4 ts4=tx.tail by rw[←HPX.out];exact pass_m hm);have HLT0:=Hd (show tx.tail.length=(Za4 ts4).length by rw[HP6.out]);clear hm;go_wp2_with fail
       refine HI.out.mono ?_;rintro e w6 ⟨rfl,b6⟩;have Q6:=Hd (QX.out.below b6);have H66:=Hd ((b6.block _ (gE H6.out).1).trans H6.out);have HI2:=Hd (Zao Q6.out [59]);rw[HIS.out] at HI2;have F6:=Hd ((F5.out.trans FX.out).below b6);have R6:=Hd (ZaM (FX.out.row R5.out (by decide)) b6);have C6:=Hd ((IsCs.fr FX.out _ _ C5.out).below b6);clear b6 p0 p1 p2 p3 f0 f1 f2 f3 c0;go_wp2_with fail
       refine HI2.out.mono ?_;rintro e w7 ⟨rfl,b7⟩;have h67:=(b7.block _ (gE H66.out).1).trans H66.out;obtain⟨⟨p0,p1,p2,p3⟩,f0,f1,f2,f3⟩:=Zae h67;have HPS:=Hd ((Q6.out.below b7).passed HK6.out h67);have F7:=Hd (F6.out.below b7);have R7:=Hd (ZaM R6.out b7);have C7:=Hd (C6.out.below b7);clear b7 h67;go_wp2_with fail
       have Q8:=Hd (show QS w.heap.size 10000000 _ rb all ⟨tx.tail,nd4,false⟩ from HPS.out.1);have F8:=Hd (F7.out.trans HPS.out.2);have R8:=Hd (HPS.out.2.row R7.out (by decide));have C8:=Hd (IsCs.fr HPS.out.2 _ _ C7.out);refine⟨⟨tx.tail,nd4,n',acc,xs,Q8,Hd ?_,Hd ?_,Hd ?_,Hd ?_,F8,R8,OW,C8⟩,?_⟩
       ·have h1:=HP6.out;have h2:=HLT.out;have h3:=HBD.out;have h4:=HC.out;have h5:=HLX.out;have h6:=HLT0.out;have h7:=HTX.out
        omega
       ·have h2:=HLT.out;have h3:=HN.out;have h6:=HLT0.out
        omega
       ·have h2:=HLT.out;have h3:=HAC.out;have h6:=HLT0.out
        omega
       ·rw[HQ3.out,HP6.out]
       ·rw[Q8.out.left,HLE.out];have h2:=HLT.out;have h6:=HLT0.out
        show (tx.tail).length<ts.length;omega
      | false=>
       have HIS:=Hd (show (Q.mk tx nd4 false).is [59]=false by
        show (!false&&isM [59] tx)=false;rw[hm];rfl)
       rw[HIS.out] at HI;have HP6:=Hd (show Za4 tx.tail=Za4 ts4 by rw[←HPX.out];exact (pass_n HK6.out hm).symm);clear hm;go_wp2_with fail
       refine HI.out.mono ?_;rintro e w6 ⟨rfl,b6⟩;have h66:=(b6.block _ (gE H6.out).1).trans H6.out;have HPS:=Hd ((QX.out.below b6).passed HK6.out h66);have F6:=Hd (FX.out.below b6);clear p0 p1 p2 p3 f0 f1 f2 f3 c0;obtain⟨⟨p0,p1,p2,p3⟩,f0,f1,f2,f3⟩:=Zae h66;clear b6 h66;go_wp2_with fail
       have Q8:=Hd (show QS w.heap.size 10000000 _ rb all ⟨tx.tail,nd4,false⟩ from HPS.out.1);refine⟨⟨tx.tail,Q8,HP6,Hd ?_,Hd (F6.out.trans HPS.out.2)⟩,?_⟩
       ·have:=HLX.out;have:=HTX.out;omega
       ·rw[Q8.out.left,HLE6.out];have:=HTX.out;show tx.tail.length<tx.length;omega
end Go.Proofs.YtijnjoonbjdafaaGreatDoor

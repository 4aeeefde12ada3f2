import Derived.Test.YtijnjoonbjdafaaGreatDoorReM
namespace Go.Proofs.YtijnjoonbjdafaaGreatDoor
set_option maxHeartbeats 20000000
set_option maxRecDepth 20000
open Go.RowKit Go.Shelf
def Zdt (a:Nat)(qe:Q→PE×Q)(n:Nat)(fs:List (Bs×PE))(s:Q):PE×Q:=rowS (rowE a) qE0 (clsS (fldS [61] qe insE n fs s))
theorem Zio{a:Nat}{qe:Q→PE×Q}{n:Nat}{fs:List (Bs×PE)}{s:Q}(h:s.bad=true∨s.is [125]=true):Zdt a qe n fs s=(rowE a fs,s.take [125]):=by
 have:fldS [61] qe insE n fs s=(some fs,s):=by
  cases n with
  | zero=>rfl
  | succ n=>
   unfold fldS;rw[if_pos];rcases h with h | h<;>simp[h]
 unfold Zdt;rw[this];rfl
theorem Zkq{a:Nat}{qe:Q→PE×Q}{n:Nat}{fs:List (Bs×PE)}{s:Q}(hb:s.bad=false)(h5:s.is [125]=false)(h:(s.head [61]).2.bad=true):Zdt a qe (n+1) fs s=(qE0,(s.head [61]).2):=by
 unfold Zdt fldS;rw[if_neg (by simp[hb,h5]),if_pos h];rfl
theorem Zi1{a:Nat}{qe:Q→PE×Q}{n:Nat}{fs:List (Bs×PE)}{s:Q}(hb:s.bad=false)(h5:s.is [125]=false)(h:(s.head [61]).2.bad=false)(hm:(s.head [61]).1.t∈fs.map (·.1)):Zdt a qe (n+1) fs s=Zdt a qe n fs (qe (s.head [61]).2.more).2.comma:=by
 unfold Zdt;rw[fldS,if_neg (by simp[hb,h5]),if_neg (by simp[h]),if_pos hm]
theorem Zkp{a:Nat}{qe:Q→PE×Q}{n:Nat}{fs:List (Bs×PE)}{s:Q}(hb:s.bad=false)(h5:s.is [125]=false)(h:(s.head [61]).2.bad=false)(hm:¬(s.head [61]).1.t∈fs.map (·.1)):Zdt a qe (n+1) fs s=Zdt a qe n (fs++[((s.head [61]).1.t,(qe (s.head [61]).2).1)]) (qe (s.head [61]).2).2.comma:=by
 unfold Zdt;rw[fldS,if_neg (by simp[hb,h5]),if_neg (by simp[h]),if_neg hm];rfl
structure RxQ (qe:Q→PE×Q)(ta:Nat)(B M rb:Nat)(all:List Tk)(w wr:World)(hx:Nat)(out:PE×Q)(fs:List (Bs×PE))(sk nx:Q)(n:Nat)(v4 v5:Value)(xs4 xs5:List Value):Prop where
 un:Zdt ta qe n fs nx=out
 fuel:sk.ts.length≤n
 many:fs.length+sk.ts.length≤1000000
 qs:QS B M wr rb all sk
 fr:Fr B w wr
 res:Sev wr w.heap.size 41 (.int .i64 0) (.int .i64 0) (.string ⟨#[]⟩) (.int .i64 0) (.slice none 0 0) (.slice none 0 0) (.slice none 0 0)
 own:Sev wr hx 41 (.int .i64 5) (.int .i64 ta) (.string ⟨#[]⟩) (.int .i64 0) v4 v5 (.slice none 0 0)
 r4:wr.ownsRow 0 9 1 v4 fs.length xs4
 r5:wr.ownsRow 0 41 7 v5 fs.length xs5
 l4:∀b,v4.ownBlock=some b→w.heap.size<b∧b≠hx
 l5:∀b,v5.ownBlock=some b→w.heap.size<b∧b≠hx
 c4:IsCs (fun b=>w.heap.size<b∧b≠hx∧some b≠v4.ownBlock∧some b≠v5.ownBlock) wr ((fs.map (·.1)).map .str) xs4
 c5:IsCs (fun b=>w.heap.size<b∧b≠hx∧some b≠v4.ownBlock∧some b≠v5.ownBlock) wr (Zaw 31 41 (fs.map (·.2))) xs5
 rbw:rb<w.heap.size
 hxw:w.heap.size<hx
section
variable {qe : Q → PE × Q} {ta B M rb : Nat} {all : List Tk} {w wr w' : World} {hx : Nat} {out : PE × Q} {fs : List (Bs × PE)} {sk nx s8 : Q} {n n' : Nat} {v4 v5 : Value} {xs4 xs5 : List Value}
theorem RxQ.mv (h:RxQ qe ta B M rb all w wr hx out fs sk nx n v4 v5 xs4 xs5)(hF:Fr B wr w')(hq:QS B M w' rb all s8){nx':Q}(hun:Zdt ta qe n' fs nx'=out)(hf:s8.ts.length≤n')(hm:s8.ts.length≤sk.ts.length):RxQ qe ta B M rb all w w' hx out fs s8 nx' n' v4 v5 xs4 xs5:=
 ⟨hun,hf,by have:=h.many;omega,hq,h.fr.trans hF,hF.cells h.res (by decide),hF.cells h.own (by decide),hF.row h.r4 (by decide),hF.row h.r5 (by decide),h.l4,h.l5,h.c4.frA hF,h.c5.frA hF,h.rbw,h.hxw⟩
theorem RxQ.fin (h:RxQ qe ta B M rb all w wr hx out fs sk sk.comma n v4 v5 xs4 xs5)(hF:Fr B wr w')(hq:QS B M w' rb all s8)(hs:s8=sk.comma):RxQ qe ta B M rb all w w' hx out fs s8 s8 n v4 v5 xs4 xs5:=by
 subst hs;exact h.mv hF hq h.un (Nat.le_trans (Zb5 sk) h.fuel) (Zb5 sk)
theorem RxQ.names (h:RxQ qe ta B M rb all w wr hx out fs sk nx n v4 v5 xs4 xs5)(hF:Fr B wr w'):Sub (fun b=>w.heap.size<b∧b≠hx) w' ((fs.map (·.1)).map .str) (fs.map (·.1)).length v4:=by
 refine Sub.of_row (e:=9) (k:=1) ?_ (by simp);rw[List.length_map];exact IsC.row (by decide) (hF.row h.r4 (by decide)) h.l4 ((h.c4.frA hF).mono (fun b _ hb=>⟨hb.1,hb.2.1⟩))
theorem RxQ.whole (h:RxQ qe ta B M rb all w wr hx out fs sk nx n v4 v5 xs4 xs5)(hF:Fr B wr w'):IsCs (fun b=>w.heap.size<b) w' (encE 31 41 (rowE ta fs)) [.int .i64 5,.int .i64 ta,.string ⟨#[]⟩,.int .i64 0,v4,v5,.slice none 0 0]:=by
 rw[rowE,encE,List.length_map,List.length_map];exact .cons (.num _ _ 5) (.cons (.num _ _ ta) (.cons (.str _ _ []) (.cons (.num _ _ 0) (.cons (.row (by decide) (hF.row h.r4 (by decide)) (fun b hb=>(h.l4 b hb).1) ((h.c4.frA hF).mono (fun b _ hb=>hb.1))) (.cons (.row (by decide) (hF.row h.r5 (by decide)) (fun b hb=>(h.l5 b hb).1) ((h.c5.frA hF).mono (fun b _ hb=>hb.1))) (.cons (.none _ _ 4 (by decide)) (.nil _ _)))))))
end
structure RxM (ta B M rb:Nat)(all:List Tk)(w W:World)(hx:Nat)(s8:Q)(N:List Bs)(L:List PE)(v4 v5:Value)(xs4 xs5:List Value)(X:PE)(xc:List Value):Prop where
 qs:QS B M W rb all s8
 fr:Fr B w W
 res:Sev W w.heap.size 41 (.int .i64 0) (.int .i64 0) (.string ⟨#[]⟩) (.int .i64 0) (.slice none 0 0) (.slice none 0 0) (.slice none 0 0)
 own:Sev W hx 41 (.int .i64 5) (.int .i64 ta) (.string ⟨#[]⟩) (.int .i64 0) v4 v5 (.slice none 0 0)
 r4:W.ownsRow 0 9 1 v4 N.length xs4
 r5:W.ownsRow 0 41 7 v5 L.length xs5
 l4:∀b,v4.ownBlock=some b→w.heap.size<b∧b≠hx
 l5:∀b,v5.ownBlock=some b→w.heap.size<b∧b≠hx
 c4:IsCs (fun b=>w.heap.size<b∧b≠hx∧some b≠v4.ownBlock∧some b≠v5.ownBlock) W (N.map .str) xs4
 c5:IsCs (fun b=>w.heap.size<b∧b≠hx∧some b≠v4.ownBlock∧some b≠v5.ownBlock) W (Zaw 31 41 L) xs5
 cx:IsCs (fun b=>w.heap.size<b∧b≠hx∧some b≠v4.ownBlock∧some b≠v5.ownBlock) W (encE 31 41 X) xc
 rbw:rb<w.heap.size
 hxw:w.heap.size<hx
section
variable {ta B M rb : Nat} {all : List Tk} {w W W' : World} {hx : Nat} {s8 : Q} {N : List Bs} {L : List PE} {v4 v5 : Value} {xs4 xs5 : List Value} {X : PE} {xc : List Value} {g cap : Nat}
theorem RxM.st4 (h:RxM ta B M rb all w W hx s8 N L v4 v5 xs4 xs5 X xc){nt:Bs}(hown:W'.ownsRow 0 9 1 (.slice (some ⟨g,0,none⟩) (N.length+1) cap) (N.length+1) (xs4++[.string ⟨nt.toArray⟩]))(hg:(W.alloc (.cells #[.string ⟨nt.toArray⟩] 9)).grownBy W' v4.ownBlock)(hat:v4.ownBlock=some g∨g=W.heap.size+1) :
  RxM ta B M rb all w (W'.setCell ⟨hx,4,none⟩ (.slice (some ⟨g,0,none⟩) (N.length+1) cap)) hx s8 (N++[nt]) L (.slice (some ⟨g,0,none⟩) (N.length+1) cap) v5 (xs4++[.string ⟨nt.toArray⟩]) xs5 X xc:=by
 have hxl:hx<W.heap.size:=(gE h.own).1;have hws:w.heap.size<W.heap.size:=Nat.lt_trans h.hxw hxl;have hne:some hx≠v4.ownBlock:=fun e=>(h.l4 hx e.symm).2 rfl
 have hne0:some w.heap.size≠v4.ownBlock:=fun e=>Nat.lt_irrefl _ (h.l4 _ e.symm).1
 have hgl:w.heap.size<g∧g≠hx:=by
  rcases hat with e | e
  ·exact h.l4 g e
  ·exact⟨by omega,by omega⟩
 have ra:=h.r4.alloc (.cells #[.string ⟨nt.toArray⟩] 9);have own':Sev W' hx 41 _ _ _ _ _ _ _:=Za5 (Zab h.own _) hg hne;have res':Sev W' w.heap.size 41 _ _ _ _ _ _ _:=Za5 (Zab h.res _) hg hne0;have hgw:∀b,v4.ownBlock=some b→w.heap.size≤b:=fun b hb=>Nat.le_of_lt (h.l4 b hb).1
 have q':QS B M W' rb all s8:=(h.qs.alloc _).grown ra (by decide) (fun b hb=>Nat.lt_trans h.rbw (h.l4 b hb).1) hg;have f':Fr B w W':=(h.fr.alloc _).grownNew hg hgw;have mv:∀{l:List Dt}{xs:List Value},IsCs (fun b=>w.heap.size<b∧b≠hx∧some b≠v4.ownBlock∧some b≠v5.ownBlock) W l xs→IsCs (fun b=>w.heap.size<b∧b≠hx∧some b≠(Value.slice (some ⟨g,0,none⟩) (N.length+1) cap).ownBlock∧some b≠v5.ownBlock) (W'.setCell ⟨hx,4,none⟩ (.slice (some ⟨g,0,none⟩) (N.length+1) cap)) l xs:=by
  intro l xs hc;have c1:=(hc.mono (A':=fun b=>(w.heap.size<b∧b≠hx∧some b≠v4.ownBlock∧some b≠v5.ownBlock)∧b<W.heap.size) (fun b hb hb'=>⟨hb',hb⟩)).below ((Below.refl _ _).alloc (nl _) (.cells #[.string ⟨nt.toArray⟩] 9));have c2:=c1.grown hg (fun b hb e=>hb.1.2.2.1 e);refine (c2.setCell hx 4 (fun k hk=>hk.1.2.1) _).mono (fun b _ hb=>⟨hb.1.1,hb.1.2.1,?_,hb.1.2.2.2⟩);rintro e;have e:b=g:=by simpa[Value.ownBlock] using e
  subst e;rcases hat with e | e
  ·exact hb.1.2.2.1 e.symm
  ·have:=hb.2;omega
 have r5':=Zbl (h.r5.alloc (.cells #[.string ⟨nt.toArray⟩] 9)) ra hg (by decide);refine⟨q'.setNew own' (by decide) (Nat.lt_trans h.rbw h.hxw) 4 _,f'.setNew (Nat.le_of_lt h.hxw) _,(Below.heap_setCell W' ⟨hx,4,none⟩ _ w.heap.size (Nat.ne_of_lt h.hxw)).trans res',heap_setCell_same W' hx 4 _ _ _ own',?_,?_,?_,h.l5,?_,mv h.c5,mv h.cx,h.rbw,h.hxw⟩
 ·rw[lA];exact Zbc (S:=fun b=>b=hx) hown (by simp[World.setCell]) (fun b _ hb=>Below.heap_setCell W' ⟨hx,4,none⟩ _ b hb) (fun b hb=>by cases hb;exact hgl.2)
 ·exact Zbc (S:=fun b=>b=hx) r5' (by simp[World.setCell]) (fun b _ hb=>Below.heap_setCell W' ⟨hx,4,none⟩ _ b hb) (fun b hb=>(h.l5 b hb).2)
 ·intro b hb;cases hb;exact hgl
 ·rw[List.map_append];exact (mv h.c4).append _ _ _ _ (.cons (.str _ _ nt) (.nil _ _))
theorem RxM.st5 (h:RxM ta B M rb all w W hx s8 N L v4 v5 xs4 xs5 X xc)(hown:W'.ownsRow 0 41 7 (.slice (some ⟨g,0,none⟩) (L.length+1) cap) (L.length+1) (xs5++xc))(hg:(W.alloc (.cells xc.toArray 41)).grownBy W' v5.ownBlock)(hat:v5.ownBlock=some g∨g=W.heap.size+1) :
  RxM ta B M rb all w (W'.setCell ⟨hx,5,none⟩ (.slice (some ⟨g,0,none⟩) (L.length+1) cap)) hx s8 N (L++[X]) v4 (.slice (some ⟨g,0,none⟩) (L.length+1) cap) xs4 (xs5++xc) X xc:=by
 have hxl:hx<W.heap.size:=(gE h.own).1;have hws:w.heap.size<W.heap.size:=Nat.lt_trans h.hxw hxl;have hne:some hx≠v5.ownBlock:=fun e=>(h.l5 hx e.symm).2 rfl
 have hne0:some w.heap.size≠v5.ownBlock:=fun e=>Nat.lt_irrefl _ (h.l5 _ e.symm).1
 have hgl:w.heap.size<g∧g≠hx:=by
  rcases hat with e | e
  ·exact h.l5 g e
  ·exact⟨by omega,by omega⟩
 have ra:=h.r5.alloc (.cells xc.toArray 41);have own':Sev W' hx 41 _ _ _ _ _ _ _:=Za5 (Zab h.own _) hg hne;have res':Sev W' w.heap.size 41 _ _ _ _ _ _ _:=Za5 (Zab h.res _) hg hne0;have hgw:∀b,v5.ownBlock=some b→w.heap.size≤b:=fun b hb=>Nat.le_of_lt (h.l5 b hb).1
 have q':QS B M W' rb all s8:=(h.qs.alloc _).grown ra (by decide) (fun b hb=>Nat.lt_trans h.rbw (h.l5 b hb).1) hg;have f':Fr B w W':=(h.fr.alloc _).grownNew hg hgw;have mv:∀{l:List Dt}{xs:List Value},IsCs (fun b=>w.heap.size<b∧b≠hx∧some b≠v4.ownBlock∧some b≠v5.ownBlock) W l xs→IsCs (fun b=>w.heap.size<b∧b≠hx∧some b≠v4.ownBlock∧some b≠(Value.slice (some ⟨g,0,none⟩) (L.length+1) cap).ownBlock) (W'.setCell ⟨hx,5,none⟩ (.slice (some ⟨g,0,none⟩) (L.length+1) cap)) l xs:=by
  intro l xs hc;have c1:=(hc.mono (A':=fun b=>(w.heap.size<b∧b≠hx∧some b≠v4.ownBlock∧some b≠v5.ownBlock)∧b<W.heap.size) (fun b hb hb'=>⟨hb',hb⟩)).below ((Below.refl _ _).alloc (nl _) (.cells xc.toArray 41));have c2:=c1.grown hg (fun b hb e=>hb.1.2.2.2 e);refine (c2.setCell hx 5 (fun k hk=>hk.1.2.1) _).mono (fun b _ hb=>⟨hb.1.1,hb.1.2.1,hb.1.2.2.1,?_⟩);rintro e;have e:b=g:=by simpa[Value.ownBlock] using e
  subst e;rcases hat with e | e
  ·exact hb.1.2.2.2 e.symm
  ·have:=hb.2;omega
 have r4':=Zbl (h.r4.alloc (.cells xc.toArray 41)) ra hg (by decide);refine⟨q'.setNew own' (by decide) (Nat.lt_trans h.rbw h.hxw) 5 _,f'.setNew (Nat.le_of_lt h.hxw) _,(Below.heap_setCell W' ⟨hx,5,none⟩ _ w.heap.size (Nat.ne_of_lt h.hxw)).trans res',heap_setCell_same W' hx 5 _ _ _ own',?_,?_,h.l4,?_,mv h.c4,?_,mv h.cx,h.rbw,h.hxw⟩
 ·exact Zbc (S:=fun b=>b=hx) r4' (by simp[World.setCell]) (fun b _ hb=>Below.heap_setCell W' ⟨hx,5,none⟩ _ b hb) (fun b hb=>(h.l4 b hb).2)
 ·rw[lA];exact Zbc (S:=fun b=>b=hx) hown (by simp[World.setCell]) (fun b _ hb=>Below.heap_setCell W' ⟨hx,5,none⟩ _ b hb) (fun b hb=>by cases hb;exact hgl.2)
 ·intro b hb;cases hb;exact hgl
 ·rw[Zde];refine (mv h.c5).append _ _ _ _ ?_;rw[Zaw,Zaw,List.append_nil];exact mv h.cx
end
theorem RxQ.mid{qe:Q→PE×Q}{ta B M rb:Nat}{all:List Tk}{w wr w':World}{hx:Nat}{out:PE×Q}{fs:List (Bs×PE)}{sk nx s8:Q}{n:Nat}{v4 v5:Value}{xs4 xs5:List Value}{X:PE}{xc:List Value}(h:RxQ qe ta B M rb all w wr hx out fs sk nx n v4 v5 xs4 xs5)(hF:Fr B wr w')(hq:QS B M w' rb all s8)(hc:IsCs (fun b=>wr.heap.size≤b) w' (encE 31 41 X) xc):RxM ta B M rb all w w' hx s8 (fs.map (·.1)) (fs.map (·.2)) v4 v5 xs4 xs5 X xc:=by
 have h4:=fun b hb=>(h.r4.lt b hb).2
 have h5:=fun b hb=>(h.r5.lt b hb).2
 have hl:=(gE h.own).1;refine⟨hq,h.fr.trans hF,hF.cells h.res (by decide),hF.cells h.own (by decide),?_,?_,h.l4,h.l5,h.c4.frA hF,h.c5.frA hF,hc.mono (fun b _ hb=>⟨by have:=h.hxw;omega,by omega,fun e=>?_,fun e=>?_⟩),h.rbw,h.hxw⟩
 ·rw[List.length_map];exact hF.row h.r4 (by decide)
 ·rw[List.length_map];exact hF.row h.r5 (by decide)
 ·have:=h4 b e.symm;omega
 ·have:=h5 b e.symm;omega
theorem RxM.end{qe:Q→PE×Q}{ta B M rb:Nat}{all:List Tk}{w W:World}{hx:Nat}{out:PE×Q}{fs:List (Bs×PE)}{sk s8:Q}{n:Nat}{v4 v5:Value}{xs4 xs5:List Value}{nt:Bs}{X Y:PE}{xc:List Value}(h:RxM ta B M rb all w W hx s8 (fs.map (·.1)++[nt]) (fs.map (·.2)++[X]) v4 v5 xs4 xs5 Y xc)(hun:Zdt ta qe n (fs++[(nt,X)]) s8.comma=out)(hf:s8.ts.length≤n)(hm:fs.length+sk.ts.length≤1000000)(hle:s8.ts.length+2≤sk.ts.length) :
  RxQ qe ta B M rb all w W hx out (fs++[(nt,X)]) s8 s8.comma n v4 v5 xs4 xs5:=by
 have e1:fs.map (·.1)++[nt]=(fs++[(nt,X)]).map (·.1):=by simp
 have e2:fs.map (·.2)++[X]=(fs++[(nt,X)]).map (·.2):=by simp
 obtain⟨a1,a2,a3,a4,a5,a6,a7,a8,a9,a10,a11,a12,a13⟩:=h;rw[e1] at a5 a9;rw[e2] at a6 a10;rw[List.length_map] at a5 a6;exact⟨hun,hf,by simp;omega,a1,a2,a3,a4,a5,a6,a7,a8,a9,a10,a12,a13⟩
theorem Zi8{B M rb:Nat}{all:List Tk}(d:Nat)(hd64:d≤64)(hM:M≤10000000)(qe:Q→PE×Q)(hqe:∀s,(qe s).2.ts.length≤s.ts.length)(HE:RdsE 48 B M rb all (d+1) qe)(w:World)(s:Q)(h:QS B M w rb all s)(hb0:s.bad=false)(hk1:(hd s.ts).k≠1)(hk3:(hd s.ts).k≠3)(hk4:(hd s.ts).k≠4)(hm1:s.is [116,114,117,101]=false)(hm2:s.is [102,97,108,115,101]=false)(hm3:s.is [123]=true) :
  Calls Tryz.prog 94 #[.pointer (some ⟨rb,0,none⟩),.int .i64 d] w (QPE B M w rb all (Zi2 (hd s.ts).a qe (s.take [123]))):=by
 obtain⟨out,hout⟩:∃out:PE×Q,out=Zi2 (hd s.ts).a qe (s.take [123]):=⟨_,rfl⟩;rw[←hout];have HON:=Hd hout;have HLEN:=Hd h.len;clear hout;have HRB:=Hd h.lt;have HK1:=Hd hk1;have HK3:=Hd hk3;have HK4:=Hd hk4;have HM1:=Hd hm1;have HM2:=Hd hm2;have HM3:=Hd hm3;have HE0:=Hd HE;have HQE:=Hd hqe;obtain⟨W1,hW1⟩:=eY (zSev w);have a1:=zsev w;rw[hW1] at a1;have HA1:=Hd a1;have F1:=Hd (show Fr B w W1 by rw[←hW1];exact (Fr.refl B w).alloc _);have q1:=(show QS B M W1 rb all s by rw[←hW1];exact h.alloc _);have Q1:=Hd q1;have HW1:=Hd (show w.alloc (.cells #[.int .i64 0,.int .i64 0,.string ⟨#[]⟩,.int .i64 0,.slice none 0 0,.slice none 0 0,.slice none 0 0] 41)=W1 from hW1);obtain⟨g,cap,i,vd,h6,hi,hb,hg,c0,c1,c2,-⟩:=q1.first
 obtain⟨⟨p0,p1,p2,p3⟩,f0,f1,f2,f3⟩:=Zae h6;have H6:=Hd h6;obtain⟨⟨tk,ta,tt⟩,ht⟩:∃t,t=hd s.ts:=⟨_,rfl⟩;rw[←ht] at c0 c1 c2;have HTT:=Hd ht;have hrb1:rb<W1.heap.size:=q1.lt;have n1:¬rb=W1.heap.size:=Nat.ne_of_lt hrb1;have hlt1:w.heap.size<W1.heap.size:=(gE a1).1;have n2:¬w.heap.size=W1.heap.size:=Nat.ne_of_lt hlt1;simp only at c0 c1 c2;rw[hb0] at p3;have HBD:=Hd hb0;clear h hW1 a1 q1 h6 hb0 hk1 hk3 hk4 hm1 hm2 hm3 hqe HE;go_enter Tryz.func94,Tryz.ntmps94
 go_upto_region 1 with fail
 rw[HW1.out];obtain⟨W2,hW2⟩:=eY ((W1.alloc (.cells #[.int .i64 tk,.int .i64 ta,.string ⟨tt.toArray⟩] 96)).drew);have b2:Below W1.heap.size W1 W2:=by rw[←hW2];exact ((Below.refl _ W1).alloc (nl _) _).drew
 have a2:Thr W2 W1.heap.size 96 (.int .i64 tk) (.int .i64 ta) (.string ⟨tt.toArray⟩):=by rw[←hW2];exact ZaI W1 _ _ _ _
 have a12:Sev W2 w.heap.size 41 (.int .i64 0) (.int .i64 0) (.string ⟨#[]⟩) (.int .i64 0) (.slice none 0 0) (.slice none 0 0) (.slice none 0 0):=(b2.block _ hlt1).trans HA1.out;have Q2:=Hd (Q1.out.below b2);have F2:=Hd (F1.out.trans (Fr.of_below (n₀:=B) b2));have HA2:=Hd a2;have HA12:=Hd a12;have HW2:=Hd hW2;have h62:=(b2.block rb hrb1).trans H6.out;have H62:=Hd h62;have hlt2:W1.heap.size<W2.heap.size:=(gE a2).1;have HL12:=Hd hlt1;have HL2:=Hd hlt2;clear hW2 a2 a12 b2 h62;go_upto_region 3 with fail
 go_region
 go_upto_region 4 with fail
 rw[HW2.out];clear p0 p1 p2 p3 f0 f1 f2 f3 c0 c1 c2;obtain⟨⟨t0,t1,t2⟩,-⟩:=Zan HA2.out;have g1:tk≠1:=by have:=HK1.out;rw[←HTT.out] at this;exact this
 have g3:tk≠3:=by have:=HK3.out;rw[←HTT.out] at this;exact this
 have g4:tk≠4:=by have:=HK4.out;rw[←HTT.out] at this;exact this
 have hk1:((tk:Int)==1)=false:=bF (by omega);have hk3:((tk:Int)==3)=false:=bF (by omega);have hk4:((tk:Int)==4)=false:=bF (by omega);clear g1 g3 g4;have HTA:=Hd (show (hd s.ts).a=ta by rw[←HTT.out]);have HI0:=Hd (Zao Q2.out [116,114,117,101]);rw[HM1.out] at HI0;go_wp2_with fail
 refine HI0.out.mono ?_;rintro e u0 ⟨rfl,b⟩;have QX0:=Hd (Q2.out.below b);have FX0:=Hd (F2.out.below b);have AX0:=Hd ((b.block _ (gE HA12.out).1).trans HA12.out);have TX0:=Hd ((b.block _ (gE HA2.out).1).trans HA2.out);clear b HI0;have HI1:=Hd (Zao QX0.out [102,97,108,115,101]);rw[HM2.out] at HI1;go_wp2_with fail
 refine HI1.out.mono ?_;rintro e u1 ⟨rfl,b⟩;have QX1:=Hd (QX0.out.below b);have FX1:=Hd (FX0.out.below b);have AX1:=Hd ((b.block _ (gE AX0.out).1).trans AX0.out);have TX1:=Hd ((b.block _ (gE TX0.out).1).trans TX0.out);clear b HI1;have HI2:=Hd (Zao QX1.out [123]);rw[HM3.out] at HI2;go_wp2_with fail
 refine HI2.out.mono ?_;rintro e u2 ⟨rfl,b⟩;have QX2:=Hd (QX1.out.below b);have FX2:=Hd (FX1.out.below b);have AX2:=Hd ((b.block _ (gE AX1.out).1).trans AX1.out);have TX2:=Hd ((b.block _ (gE TX1.out).1).trans TX1.out);clear b HI2;clear t0 t1 t2;have HTKY:=Hd (Zah hM QX2.out [123]);go_wp2_with fail
 refine HTKY.out.mono ?_;rintro e w7 ⟨rfl,q,f⟩;have AY:=mF7 f AX2 (by decide);have TY:=mF3 f TX2 (by decide);have QY:=Hd q;have FY:=Hd (FX2.out.trans f);obtain⟨s7,hs7⟩:=eX (s.take [123]);have HLS:=Hd (show s7.ts.length≤1000000 by rw[hs7];exact Nat.le_trans (ZeN _ _) HLEN.out.1);rw[←hs7] at QY HON;have HREC:=Hd (show Zdt ta qe s7.ts.length [] s7=out by rw[HON.out,Zi2,if_neg QY.out.ne,HTA.out];rfl);obtain⟨W8,hW8⟩:=eY (w7.alloc (.cells #[.int .i64 5,.int .i64 ta,.string ⟨#[]⟩,.int .i64 0,.slice none 0 0,.slice none 0 0,.slice none 0 0] 41));have HW8:=Hd hW8;have HX8:=Hd (show Sev W8 w7.heap.size 41 (.int .i64 5) (.int .i64 ta) (.string ⟨#[]⟩) (.int .i64 0) (.slice none 0 0) (.slice none 0 0) (.slice none 0 0) by rw[←hW8];exact hN w7 _);have B8:=Hd (show Below w7.heap.size w7 W8 by rw[←hW8];exact (Below.refl _ _).alloc (nl _) _);have HWX:=Hd (show w.heap.size<w7.heap.size from (gE AY.out).1);obtain⟨⟨t0,t1,t2⟩,-⟩:=Zan TY.out;clear q f hs7 hW8 HTKY;go_upto_region 33 with fail
 rw[HW8.out];clear t0 t1 t2 hk1 hk3 hk4;obtain⟨hx,hhx⟩:=eX (w7.heap.size);rw[←hhx] at HX8 HWX⊢;have HSTART:Hid (RxQ qe ta B M rb all w W8 hx out [] s7 s7 s7.ts.length (.slice none 0 0) (.slice none 0 0) [] []):=Hd ⟨HREC.out,nl _,by simpa using HLS.out,QY.out.below B8.out,FY.out.below B8.out,(B8.out.block _ (gE AY.out).1).trans AY.out,HX8.out,World.ownsRow_nil _ _ _ _,World.ownsRow_nil _ _ _ _,(fun b h=>by cases h),(fun b h=>by cases h),IsCs.nil _ _,IsCs.nil _ _,HRB.out,HWX.out⟩;obtain⟨i0,hi0,hz0,hz1,hz2⟩:=info_parts ZhV;obtain⟨i9,hi9,hy0,hy1,hy2⟩:=info_parts Zk5;obtain⟨iE,hiE,hx0,hx1,hx2⟩:=info_parts infoEq;clear hhx;go_loopw [] (fun wr=>∃(fs:List (Bs×PE)) (sk:Q) (n:Nat) (v4 v5:Value) (xs4 xs5:List Value),Hid (RxQ qe ta B M rb all w wr hx out fs sk sk n v4 v5 xs4 xs5)) (fun wr=>left rb all wr)
 case atStart=>exact⟨[],s7,s7.ts.length,_,_,_,_,HSTART⟩
 case round=>
  obtain⟨fs,sk,n',v4,v5,xs4,xs5,HR⟩:=hrel;obtain⟨a4,k4,e4⟩:=Zag HR.out.r4;obtain⟨a5,k5,e5⟩:=Zag HR.out.r5;subst e4;subst e5;obtain⟨g,cap,i,vd,h9,-⟩:=HR.out.qs.first
  obtain⟨⟨p0,p1,p2,p3⟩,-⟩:=Zae h9;cases hb9:sk.bad with
  | true=>
   rw[hb9] at p3;have HE:=Hd (show out=(rowE ta fs,sk.take [125]) by rw[←HR.out.un,Zio (.inl hb9)]);have HTK:=Hd (Zah hM HR.out.qs [125]);clear hb9 h9;go_wp2_with fail
   refine HTK.out.mono ?_;rintro e w10 ⟨rfl,q10,f10⟩;clear p0 p1 p2 p3;have hres:=Fr.cells f10 HR.out.res (by decide);have hown:=Fr.cells f10 HR.out.own (by decide);have HCS:=Hd (HR.out.whole f10);have HFR:=Hd (HR.out.fr.trans f10);have Q10:=Hd q10;have HRES:=Hd (show Sev w10 w.heap.size 41 _ _ _ _ _ _ _ from hres);have HTH:=Hd (Zaf HRES.out rfl);obtain⟨⟨p0,p1,p2,p3,p4,p5,p6⟩,-⟩:=Zai (t:=41) hown;clear hres hown q10 f10 HTK;go_wp2_with (first | (refine Zaa rfl 41 (.tmp 4) (.tmp 192) rfl w.heap.size _ rfl rfl HTH.out Zbw (all_oneCell_toArray (by simp[Value.oneCell'])) ?_;intro W9 hW9))
   rw[HE.out];exact ZcW rfl rfl rfl HRES.out HFR.out Q10.out HRB.out HCS.out hW9
  | false=>
   rw[hb9] at p3;have HI:=Hd (Zao HR.out.qs [125]);cases h5:sk.is [125] with
   | true=>
    rw[h5] at HI;have HE:=Hd (show out=(rowE ta fs,sk.take [125]) by rw[←HR.out.un,Zio (.inr h5)]);clear hb9 h9 h5;go_wp2_with fail
    refine HI.out.mono ?_;rintro e w9 ⟨rfl,b9⟩;have HTK:=Hd (Zah hM (HR.out.qs.below b9) [125]);have F9:=Hd (Fr.of_below (n₀:=B) b9);clear p0 p1 p2 p3 b9 HI;go_wp2_with fail
    refine HTK.out.mono ?_;rintro e w10 ⟨rfl,q10,f10⟩
    replace f10:=F9.out.trans f10
    have hres:=Fr.cells f10 HR.out.res (by decide);have hown:=Fr.cells f10 HR.out.own (by decide);have HCS:=Hd (HR.out.whole f10);have HFR:=Hd (HR.out.fr.trans f10);have Q10:=Hd q10;have HRES:=Hd (show Sev w10 w.heap.size 41 _ _ _ _ _ _ _ from hres);have HTH:=Hd (Zaf HRES.out rfl);obtain⟨⟨p0,p1,p2,p3,p4,p5,p6⟩,-⟩:=Zai (t:=41) hown;clear hres hown q10 f10 HTK;go_wp2_with (first | (refine Zaa rfl 41 (.tmp 4) (.tmp 192) rfl w.heap.size _ rfl rfl HTH.out Zbw (all_oneCell_toArray (by simp[Value.oneCell'])) ?_;intro W9 hW9))
    rw[HE.out];exact ZcW rfl rfl rfl HRES.out HFR.out Q10.out HRB.out HCS.out hW9
   | false=>
    rw[h5] at HI;have HB9:=Hd hb9;have H5:=Hd h5;clear hb9 h9 h5;go_wp2_with fail
    refine HI.out.mono ?_;rintro e w9 ⟨rfl,b9⟩;have HNM:=Hd (ZbQ hM (HR.out.qs.below b9));have F9:=Hd (Fr.of_below (n₀:=B) b9);clear p0 p1 p2 p3 b9 HI;go_wp2_with fail
    refine HNM.out.mono ?_;rintro e w10 ⟨rfl,q10,f10⟩;obtain⟨⟨nk,na,nt⟩,hnm⟩:∃t,t=sk.name.1:=⟨_,rfl⟩;rw[←hnm];unfold tokV;obtain⟨W11,hW11⟩:=eY (w10.alloc (.cells #[.int .i64 nk,.int .i64 na,.string ⟨nt.toArray⟩] 96));have HW11:=Hd hW11;have b11:Below w10.heap.size w10 W11:=by rw[←hW11];exact (Below.refl _ _).alloc (nl _) _
    have HT11:=Hd (show Thr W11 w10.heap.size 96 (.int .i64 nk) (.int .i64 na) (.string ⟨nt.toArray⟩) by rw[←hW11];exact ZaI w10 _ _ _ _);have F11:=Hd ((F9.out.trans f10).below b11);have Q11:=Hd (q10.below b11);have HNMT:=Hd hnm;have HTK:=Hd (Zah hM Q11.out [61]);clear q10 f10 hW11 b11 hnm HNM;go_upto_region 35 with fail
    rw[HW11.out];go_wp2_with fail
    refine HTK.out.mono ?_;rintro e w12 ⟨rfl,q12,f12⟩;obtain⟨hd12,hhd⟩:=eX (sk.head [61]);have q12:QS B M w12 rb all hd12.2:=by rw[hhd];exact q12
    have F12:=Hd (F11.out.trans f12);have HT12:=mF3 f12 HT11 (by decide);obtain⟨g,cap,i,vd,h9,-⟩:=q12.first
    obtain⟨⟨p0,p1,p2,p3⟩,r0,r1,r2,r3⟩:=Zae h9;have Q12:=Hd q12;have HHD:=Hd hhd;have H9:=Hd h9;clear q12 f12 hhd h9 HTK;cases hh:hd12.2.bad with
    | true=>
     rw[hh] at p3;have HN:=Hd (show n'≠0 by have:=HR.out.fuel;have:=HR.out.qs.len.2;omega);have HE:=Hd (show out=(qE0,hd12.2) by
      obtain⟨n'',rfl⟩:=Nat.exists_eq_succ_of_ne_zero HN.out;rw[←HR.out.un,HHD.out,Zkq HB9.out H5.out (by rw[←HHD.out];exact hh)])
     have HRES:=Hd (show Sev w12 w.heap.size 41 _ _ _ _ _ _ _ from Fr.cells F12.out HR.out.res (by decide));have HFR:=Hd (HR.out.fr.trans F12.out);have HTH:=Hd (Zaf HRES.out rfl);clear hh;go_wp2_with (first | (refine Zaa rfl 41 (.tmp 4) (.tmp 141) rfl w.heap.size _ rfl rfl HTH.out Zbw (all_oneCell_toArray (by simp[Value.oneCell'])) ?_;intro W9 hW9))
     rw[HE.out];exact ZcW rfl rfl rfl HRES.out HFR.out Q12.out HRB.out (Zc2 _ _ 0 0 [] 0) hW9
    | false=>
     rw[hh] at p3;have hok:=Zk8 HB9.out (by rw[←HHD.out];exact hh);have HHB:=Hd (show (sk.head [61]).2.bad=false by rw[←HHD.out];exact hh);have HOK:=Hd hok.1;have HOL:=Hd hok.2;have HNT:=Hd (show (sk.head [61]).1.t=nt by show sk.name.1.t=nt;rw[←HNMT.out]);have HLF:=Hd HR.out.qs.left;obtain⟨n'',hn''⟩:∃n'',n'=n''+1:=⟨n' - 1,by have:=HR.out.fuel;have:=HR.out.qs.len.2;omega⟩;have HNN:=Hd hn'';have hd2:hd12.2=⟨sk.ts.tail.tail,sk.nd,false⟩:=by rw[HHD.out,HOK.out]
     have HD2:=Hd hd2;have hown:=Fr.cells F12.out HR.out.own (by decide);obtain⟨⟨d0,d1,d2,d3,d4,d5,d6⟩,-⟩:=Zai (t:=41) hown;obtain⟨⟨t0,t1,t2⟩,-⟩:=Zan HT12.out;have HFS:=Hd (show fs.length≤1000000 by have:=HR.out.many;omega);have HH:=Hd (Zla (fs.map (·.1)) (by rw[List.length_map];exact HFS.out) nt _ w12 _ (HR.out.names F12.out));have HWR:=Hd F12.out.size;have HTL12:=Hd (gE HT12.out).1;clear hok hn'' hd2 hown;obtain⟨tw,htw⟩:∃tw:Bool,tw=decide (nt∈fs.map (·.1)):=⟨_,rfl⟩;rw[←htw] at HH;have HTW:=Hd htw;have H9F:=Hd (show Fou w12 rb 92 (.slice (some ⟨g,0,none⟩) all.length cap) (.int .i64 i) vd (.bool false) by have:=H9.out;rw[hh] at this;exact this);obtain⟨s13,hs13⟩:=eX ((if tw=true then hd12.2.more else hd12.2));have HS13:=Hd hs13;have HTS13:=Hd (show s13.ts=hd12.2.ts by rw[hs13];cases tw<;>rfl);obtain⟨⟨u,s8⟩,hu⟩:∃p,p=qe s13:=⟨_,rfl⟩;obtain⟨xk,xa,xn,xm,xns,xl,xts⟩:=u;have HLE8:=Hd (show s8.ts.length+2≤sk.ts.length by
      have h1:=HQE.out s13;rw[←hu,HTS13.out,HD2.out] at h1;have h2:=HOL.out;have h1:s8.ts.length≤sk.ts.tail.tail.length:=h1;omega)
     have HU:=Hd hu;have HBM:=Hd (show hd12.2.nd+1+2*hd12.2.ts.length+1≤M by
      have h1:=HR.out.qs.bd;have h2:=HOL.out;rw[HB9.out] at h1;rw[HD2.out];simp only[ff,if_false] at h1⊢;omega)
     have HHF:=Hd hh;clear htw hs13 hu hh;go_wp2_with fail
     refine HH.out.mono ?_;rintro e w13 ⟨rfl,rfl⟩;go_upto_if 147 with fail
     go_cut [] from 148 to 161 (fun wx=>QS B M wx rb all s13∧Fr B w12 wx)
     case first=>
      cases tw with
      | false=>
       have HSS:=Hd (show s13=hd12.2 by rw[HS13.out];rfl);go_wp2_with fail
       go_meet
       exact⟨by rw[HSS.out];exact Q12.out,Fr.refl _ _⟩
      | true=>
       have HSS:=Hd (show s13=hd12.2.more by rw[HS13.out];rfl);go_wp2_with fail
       obtain⟨vt,vd',i',xs,k6,-,k8,-⟩:=Q12.out.ex;rw[H9F.out] at k6;simp only[Option.some.injEq,Obj.cells.injEq,Array.mk.injEq,List.cons.injEq,and_true] at k6;obtain⟨rfl,-,rfl,-⟩:=k6;obtain⟨nd,hnd⟩:=eX (hd12.2.nd);rw[←hnd] at k8;have HBN:=Hd (show nd+1+2*hd12.2.ts.length+1≤M by rw[hnd];exact HBM.out);have R65:Hid (∀W:World,W.heap=(w12.alloc (.cells #[.int .i64 na,.int .i64 4,.string ⟨nt.toArray⟩] 192)).heap→W.ownsRow B 192 3 vd nd xs):=fun W e=>by
        have:=k8.alloc (.cells #[.int .i64 na,.int .i64 4,.string ⟨nt.toArray⟩] 192);refine⟨this.1,?_⟩;rw[e];exact this.2
       have hmx:nd+1≤maxLen:=by have:=HBN.out;unfold maxLen;omega
       have hmb:(nd+1)*32≤140737488355328:=by have:=HBN.out;omega
       have HBS:=Hd (show B≤w12.heap.size+1 by have:=Q12.out.hi;omega);have HN65:=Hd (World.news_of_block (hN w12 (.cells #[.int .i64 na,.int .i64 4,.string ⟨nt.toArray⟩] 192)));have HPL:=Hd Q12.out.lt;have HNE:=Hd (show some rb≠vd.ownBlock from fun e=>by
        rcases k8.2 with ⟨rfl,_⟩ | ⟨g',cap',cur,rfl,_,hgg,_⟩
        ·cases e
        ·simp only[Value.ownBlock,Option.some.injEq] at e;subst e;rw[H9F.out] at hgg;cases hgg)
       have hpl:=HPL.out;have hrbn:¬rb=w12.heap.size:=Nat.ne_of_lt hpl;have htn:¬w10.heap.size=w12.heap.size:=Nat.ne_of_lt HTL12.out;have HND:=Hd hnd;clear k8 hnd;go_region_law (refine step_append_lies _ rfl (.tmp 152) (.tmp 158) 54 rfl B 192 i0 _ 3 32 Tryz.underlying54 hi0 hz0 hz1 hz2 rfl (by decide) vd nd xs rfl (R65.out _ rfl) ⟨w12.heap.size,0,none⟩ 1 1 [.int .i64 na,.int .i64 4,.string ⟨nt.toArray⟩] rfl rfl (fun j u hu=>HN65.out j u hu) one3 (by decide) hmx hmb (by simpa using HBS.out) _ rfl ?_;intro g' cap' W5 hown5 hg5 hloc5 hlt5;(have hp5:Fou W5 rb 92 (.slice (some ⟨g,0,none⟩) all.length cap) (.int .i64 i) vd (.bool false):=(hg5.block rb (Nat.lt_succ_of_lt HPL.out |> fun h=>by simpa using h) HNE.out).trans (Zab H9F.out (.cells #[.int .i64 na,.int .i64 4,.string ⟨nt.toArray⟩] 192)));obtain⟨⟨e0,e1,e2,e3⟩,y0,y1,y2,y3⟩:=Zae hp5;(have HO5:=Hd hown5);(have HG5:=Hd hg5);(have HL5:=Hd hloc5);clear hown5 hg5 hloc5 hp5)
       all_goals
        go_wp2_with fail
        go_meet
        have hg6:(w12.alloc (.cells #[.int .i64 na,.int .i64 4,.string ⟨nt.toArray⟩] 192)).grownBy W5 vd.ownBlock:=⟨HG5.out.os,HG5.out.tape,HG5.out.output,HG5.out.size,HG5.out.block⟩;obtain⟨a1,a2⟩:=(Q12.out.alloc (.cells #[.int .i64 na,.int .i64 4,.string ⟨nt.toArray⟩] 192)).told (Zab H9F.out _) hg6 (by rw[←HND.out];exact HO5.out) rfl;rw[←HND.out] at a1 a2;refine⟨?_,((Fr.refl B w12).alloc _).trans a2⟩;rw[HSS.out];refine a1.reM ?_;show hd12.2.nd+1+2*hd12.2.ts.length+(if hd12.2.bad=true then 0 else 1)≤M;have:=HBM.out;rw[HHF.out]
        simpa using this
     case rest=>
      obtain⟨q13,f13⟩:=hcut;have HEX:=Hd (Zbm HE0.out wc s13 q13 xk xa xn xm xns xl xts s8 HU.out);have F13:=Hd (F12.out.trans f13);have HT13:=mF3 f13 HT12 (by decide);have HZ13:=Hd (Nat.le_trans HWR.out f13.size);clear q13 f13 p0 p1 p2 p3 r0 r1 r2 r3 d0 d1 d2 d3 d4 d5 d6 t0 t1 t2;go_wp2_with fail
      refine HEX.out.mono ?_;rintro e w14 ⟨b4,e4,b5,e5,b6,e6,rfl,f14,i14,q14⟩;obtain⟨W15,hW15⟩:=eY (w14.alloc (.cells #[.int .i64 xk,.int .i64 xa,.string ⟨xn.toArray⟩,.int .i64 xm,.slice b4 xns.length e4,.slice b5 xl.length e5,.slice b6 xts.length e6] 41));have b15:Below w14.heap.size w14 W15:=by rw[←hW15];exact (Below.refl _ _).alloc (nl _) _
      have HX15:=Hd (show Sev W15 w14.heap.size 41 _ _ _ _ _ _ _ by rw[←hW15];exact hN w14 _);have F15:=Hd (F13.out.trans (f14.below b15));have Q15:=Hd (q14.below b15);have HXC15:=Hd ((i14.below b15).mono (A':=fun b=>wr.heap.size≤b) (fun b _ hb=>Nat.le_trans HZ13.out hb));have HM15:=Hd (HR.out.mid F15.out Q15.out HXC15.out);have HT15:=Hd (show Thr W15 w10.heap.size 96 _ _ _ from (f14.below b15).cells HT13.out (by decide));have HLX:=Hd (Nat.le_trans HZ13.out f14.size);have HW15:=Hd hW15;clear f14 i14 q14 hW15 b15 HEX HH;go_upto_region 42 with fail
      rw[HW15.out];cases tw with
      | true=>
       have HUN:=Hd (show Zdt ta qe n'' fs s8.comma=out by
        rw[←HR.out.un,HNN.out,Zi1 HB9.out H5.out HHB.out (by rw[HNT.out];simpa using HTW.out.symm),←HHD.out,show hd12.2.more=s13 by rw[HS13.out];rfl,←HU.out])
       obtain⟨W17,hW17⟩:=eX (W15);have HR17:=Hd (HR.out.mv F15.out Q15.out HUN.out (by have:=HR.out.fuel;have:=HLE8.out;have:=HNN.out;omega) (by have:=HLE8.out;omega));rw[←hW17] at HR17⊢;clear hW17;have q17:=HR17.out.qs;have HI17:=Hd (Zao q17 [125]);have Q17:=Hd q17;clear q17;cases h7:s8.is [125] with
       | true=>
        rw[h7] at HI17;have HCM:=Hd (show s8=s8.comma by unfold Q.comma;rw[h7,if_pos rfl]);clear h7;go_wp2_with fail
        refine HI17.out.mono ?_;rintro e w18 ⟨rfl,b18⟩;have HF:=Hd (HR17.out.fin (Fr.of_below b18) (Q17.out.below b18) HCM.out);clear b18 HI17;go_wp2_with fail
        refine⟨⟨_,_,_,_,_,_,_,HF⟩,?_⟩;rw[HF.out.qs.left,HLF.out];have:=HLE8.out;omega
       | false=>
        rw[h7] at HI17;have H7:=Hd h7;clear h7;go_wp2_with fail
        refine HI17.out.mono ?_;rintro e w18 ⟨rfl,b18⟩;have HTK8:=Hd (Zah hM (Q17.out.below b18) [44]);have F18:=Hd (Fr.of_below (n₀:=B) b18);clear b18 HI17;go_wp2_with fail
        refine HTK8.out.mono ?_;rintro e w19 ⟨rfl,q19,f19⟩;have F19:=Hd (F18.out.trans f19);have HI19:=Hd (Zao q19 [125]);have Q19:=Hd q19;clear q19 f19 HTK8;cases h8:(s8.take [44]).is [125] with
        | true=>
         rw[h8] at HI19;have HCM:=Hd (show (s8.take [44]).give=s8.comma by unfold Q.comma;rw[H7.out,if_neg (by decide),h8,if_pos rfl]);clear h8;go_wp2_with fail
         refine HI19.out.mono ?_;rintro e w20 ⟨rfl,b20⟩;have HGV:=Hd (ZbR hM (Q19.out.below b20) 2);have F20:=Hd (F19.out.below b20);clear b20 HI19;go_wp2_with fail
         refine HGV.out.mono ?_;rintro e w21 ⟨rfl,q21,f21⟩;have HF:=Hd (HR17.out.fin (F20.out.trans f21) q21 HCM.out);have HLC:=Hd (Nat.le_trans (Nat.le_of_eq (congrArg (fun z:Q=>z.ts.length) HCM.out)) (Zb5 s8));clear q21 f21 HGV;go_wp2_with fail
         refine⟨⟨_,_,_,_,_,_,_,HF⟩,?_⟩;rw[HF.out.qs.left,HLF.out];have:=HLE8.out;have:=HLC.out;omega
        | false=>
         rw[h8] at HI19;have HCM:=Hd (show s8.take [44]=s8.comma by unfold Q.comma;rw[H7.out,if_neg (by decide),h8,if_neg (by decide)]);clear h8;go_wp2_with fail
         refine HI19.out.mono ?_;rintro e w20 ⟨rfl,b20⟩;have HF:=Hd (HR17.out.fin (F19.out.below b20) (Q19.out.below b20) HCM.out);have HLC:=Hd (Nat.le_trans (Nat.le_of_eq (congrArg (fun z:Q=>z.ts.length) HCM.out)) (Zb5 s8));clear b20 HI19;go_wp2_with fail
         refine⟨⟨_,_,_,_,_,_,_,HF⟩,?_⟩;rw[HF.out.qs.left,HLF.out];have:=HLE8.out;have:=HLC.out;omega
      | false=>
       have HUN:=Hd (show Zdt ta qe n'' (fs++[(nt,PE.mk xk xa xn xm xns xl xts)]) s8.comma=out by
        rw[←HR.out.un,HNN.out,Zkp HB9.out H5.out HHB.out (by rw[HNT.out];simpa using HTW.out.symm),←HHD.out,show hd12.2=s13 by rw[HS13.out];rfl,←HU.out,HHD.out,HNT.out])
       obtain⟨⟨d0,d1,d2,d3,d4,d5,d6⟩,-⟩:=Zai (t:=41) HM15.out.own;obtain⟨⟨t0,t1,t2⟩,-⟩:=Zan HT15.out;have hfl:(fs.map (·.1)).length=fs.length:=List.length_map _;have hfl2:(fs.map (·.2)).length=fs.length:=List.length_map _;have hmx4:fs.length+1≤maxLen:=by have:=HFS.out;unfold maxLen;omega
       have hmb4:(fs.length+1)*16≤140737488355328:=by have:=HFS.out;omega
       have hmb5:(fs.length+1)*112≤140737488355328:=by have:=HFS.out;omega
       have HRA:=Hd (show (W15.alloc (.cells #[.string ⟨nt.toArray⟩] 9)).ownsRow 0 9 1 (.slice a4 fs.length k4) fs.length xs4 by have:=HM15.out.r4.alloc (.cells #[.string ⟨nt.toArray⟩] 9);rw[hfl] at this;exact this);have HNB:=Hd (World.news_of_block (hN W15 (.cells #[.string ⟨nt.toArray⟩] 9)));have HFL:=Hd hfl;have HFL2:=Hd hfl2;clear hfl hfl2;go_upto_region 43 with fail
       go_upto_region 44 with (first | (at_builtin;refine wpList_append_lies _ rfl (.tmp 169) (.tmp 172) 23 rfl 0 9 i9 _ 1 16 Tryz.underlying23 hi9 hy0 hy1 hy2 rfl (by decide) _ fs.length xs4 rfl HRA.out ⟨W15.heap.size,0,none⟩ 1 1 [.string ⟨nt.toArray⟩] rfl rfl HNB.out (by simp[Value.oneCell']) (by decide) hmx4 hmb4 (Nat.zero_le _) (W15.heap.size+1) (World.size_alloc _ _) ?_;intro g4 cap4 W16 hown16 hg16 hat16 hlt16;(have hx16:Sev W16 hx 41 _ _ _ _ _ _ _:=Za5 (Zab HM15.out.own (.cells #[.string ⟨nt.toArray⟩] 9)) hg16 (fun e=>(HM15.out.l4 hx e.symm).2 rfl));obtain⟨⟨o0,o1,o2,o3,o4,o5,o6⟩,v0,v1,v2,v3,v4,v5,v6⟩:=Zai (t:=41) hx16;(have HO16:=Hd hown16);(have HG16:=Hd hg16);(have HAT16:=Hd hat16);clear hown16 hg16 hat16 hx16))
       have HM17:=HM15.out.st4 (nt:=nt) (g:=g4) (cap:=cap4) (W':=W16) (by rw[HFL.out];exact HO16.out) HG16.out HAT16.out;rw[HFL.out] at HM17;have hxw4:w14.heap.size≠hx:=by
        have h1:=(gE HR.out.own).1;have h2:=HLX.out;omega
       have hx17:Sev W16 w14.heap.size 41 _ _ _ _ _ _ _:=Za5 (Zab HX15.out (.cells #[.string ⟨nt.toArray⟩] 9)) HG16.out (fun e=>by have h1:=(HR.out.r4.lt _ e.symm).2;have h2:=HLX.out;omega);have hx17:=(Below.heap_setCell W16 ⟨hx,4,none⟩ (.slice (some ⟨g4,0,none⟩) (fs.length+1) cap4) w14.heap.size hxw4).trans hx17;obtain⟨W17,hW17⟩:=eX (W16.setCell ⟨hx,4,none⟩ (.slice (some ⟨g4,0,none⟩) (fs.length+1) cap4));rw[←hW17] at HM17 hx17⊢;obtain⟨⟨x0,x1,x2,x3,x4,x5,x6⟩,-⟩:=Zai (t:=41) hx17;obtain⟨⟨y0,y1,y2,y3,y4,y5,y6⟩,-⟩:=Zai (t:=41) HM17.own;have HRB5:=Hd (show (W17.alloc (.cells #[.int .i64 xk,.int .i64 xa,.string ⟨xn.toArray⟩,.int .i64 xm,.slice b4 xns.length e4,.slice b5 xl.length e5,.slice b6 xts.length e6] 41)).ownsRow 0 41 7 (.slice a5 fs.length k5) fs.length xs5 by have:=HM17.r5.alloc (.cells #[.int .i64 xk,.int .i64 xa,.string ⟨xn.toArray⟩,.int .i64 xm,.slice b4 xns.length e4,.slice b5 xl.length e5,.slice b6 xts.length e6] 41);rw[HFL2.out] at this;exact this);have HNC:=Hd (World.news_of_block (hN W17 (.cells #[.int .i64 xk,.int .i64 xa,.string ⟨xn.toArray⟩,.int .i64 xm,.slice b4 xns.length e4,.slice b5 xl.length e5,.slice b6 xts.length e6] 41)));have HONE:=Hd (show ∀u∈([.int .i64 xk,.int .i64 xa,.string ⟨xn.toArray⟩,.int .i64 xm,.slice b4 xns.length e4,.slice b5 xl.length e5,.slice b6 xts.length e6]:List Value),u.oneCell'=true by simp[Value.oneCell']);have HM17:=Hd HM17;clear hxw4 hx17 hW17 d0 d1 d2 d3 d4 d5 d6 o0 o1 o2 o3 o4 o5 o6 v0 v1 v2 v3 v4 v5 v6 t0 t1 t2;go_upto_region 45 with (first | (at_builtin;refine wpList_append_lies _ rfl (.tmp 176) (.tmp 178) 39 rfl 0 41 iE _ 7 112 Tryz.underlying39 hiE hx0 hx1 hx2 rfl (by decide) _ fs.length xs5 rfl HRB5.out ⟨W17.heap.size,0,none⟩ 1 1 [.int .i64 xk,.int .i64 xa,.string ⟨xn.toArray⟩,.int .i64 xm,.slice b4 xns.length e4,.slice b5 xl.length e5,.slice b6 xts.length e6] rfl rfl HNC.out HONE.out (by decide) hmx4 hmb5 (Nat.zero_le _) (W17.heap.size+1) (World.size_alloc _ _) ?_;intro g5 cap5 W18 hown18 hg18 hat18 hlt18;(have hx18:Sev W18 hx 41 _ _ _ _ _ _ _:=Za5 (Zab HM17.out.own (.cells #[.int .i64 xk,.int .i64 xa,.string ⟨xn.toArray⟩,.int .i64 xm,.slice b4 xns.length e4,.slice b5 xl.length e5,.slice b6 xts.length e6] 41)) hg18 (fun e=>(HM17.out.l5 hx e.symm).2 rfl));obtain⟨⟨o0,o1,o2,o3,o4,o5,o6⟩,v0,v1,v2,v3,v4,v5,v6⟩:=Zai (t:=41) hx18;(have HO18:=Hd hown18);(have HG18:=Hd hg18);(have HAT18:=Hd hat18);clear hown18 hg18 hat18 hx18))
       have HM19:=HM17.out.st5 (g:=g5) (cap:=cap5) (W':=W18) (by rw[HFL2.out];exact HO18.out) HG18.out HAT18.out;rw[HFL2.out] at HM19;have HR19:=HM19.end HUN.out (by have:=HR.out.fuel;have:=HLE8.out;have:=HNN.out;omega) HR.out.many HLE8.out;obtain⟨W19,hW19⟩:=eX (W18.setCell ⟨hx,5,none⟩ (.slice (some ⟨g5,0,none⟩) (fs.length+1) cap5));rw[←hW19] at HR19⊢;have HR17:=Hd HR19;clear HR19 HM19 hW19 x0 x1 x2 x3 x4 x5 x6 y0 y1 y2 y3 y4 y5 y6 o0 o1 o2 o3 o4 o5 o6 v0 v1 v2 v3 v4 v5 v6;have q17:=HR17.out.qs;have HI17:=Hd (Zao q17 [125]);have Q17:=Hd q17;clear q17;cases h7:s8.is [125] with
       | true=>
        rw[h7] at HI17;have HCM:=Hd (show s8=s8.comma by unfold Q.comma;rw[h7,if_pos rfl]);clear h7;go_wp2_with fail
        refine HI17.out.mono ?_;rintro e w18 ⟨rfl,b18⟩;have HF:=Hd (HR17.out.fin (Fr.of_below b18) (Q17.out.below b18) HCM.out);clear b18 HI17;go_wp2_with fail
        refine⟨⟨_,_,_,_,_,_,_,HF⟩,?_⟩;rw[HF.out.qs.left,HLF.out];have:=HLE8.out;omega
       | false=>
        rw[h7] at HI17;have H7:=Hd h7;clear h7;go_wp2_with fail
        refine HI17.out.mono ?_;rintro e w18 ⟨rfl,b18⟩;have HTK8:=Hd (Zah hM (Q17.out.below b18) [44]);have F18:=Hd (Fr.of_below (n₀:=B) b18);clear b18 HI17;go_wp2_with fail
        refine HTK8.out.mono ?_;rintro e w19 ⟨rfl,q19,f19⟩;have F19:=Hd (F18.out.trans f19);have HI19:=Hd (Zao q19 [125]);have Q19:=Hd q19;clear q19 f19 HTK8;cases h8:(s8.take [44]).is [125] with
        | true=>
         rw[h8] at HI19;have HCM:=Hd (show (s8.take [44]).give=s8.comma by unfold Q.comma;rw[H7.out,if_neg (by decide),h8,if_pos rfl]);clear h8;go_wp2_with fail
         refine HI19.out.mono ?_;rintro e w20 ⟨rfl,b20⟩;have HGV:=Hd (ZbR hM (Q19.out.below b20) 2);have F20:=Hd (F19.out.below b20);clear b20 HI19;go_wp2_with fail
         refine HGV.out.mono ?_;rintro e w21 ⟨rfl,q21,f21⟩;have HF:=Hd (HR17.out.fin (F20.out.trans f21) q21 HCM.out);have HLC:=Hd (Nat.le_trans (Nat.le_of_eq (congrArg (fun z:Q=>z.ts.length) HCM.out)) (Zb5 s8));clear q21 f21 HGV;go_wp2_with fail
         refine⟨⟨_,_,_,_,_,_,_,HF⟩,?_⟩;rw[HF.out.qs.left,HLF.out];have:=HLE8.out;have:=HLC.out;omega
        | false=>
         rw[h8] at HI19;have HCM:=Hd (show s8.take [44]=s8.comma by unfold Q.comma;rw[H7.out,if_neg (by decide),h8,if_neg (by decide)]);clear h8;go_wp2_with fail
         refine HI19.out.mono ?_;rintro e w20 ⟨rfl,b20⟩;have HF:=Hd (HR17.out.fin (F19.out.below b20) (Q19.out.below b20) HCM.out);have HLC:=Hd (Nat.le_trans (Nat.le_of_eq (congrArg (fun z:Q=>z.ts.length) HCM.out)) (Zb5 s8));clear b20 HI19;go_wp2_with fail
         refine⟨⟨_,_,_,_,_,_,_,HF⟩,?_⟩;rw[HF.out.qs.left,HLF.out];have:=HLE8.out;have:=HLC.out;omega
end Go.Proofs.YtijnjoonbjdafaaGreatDoor

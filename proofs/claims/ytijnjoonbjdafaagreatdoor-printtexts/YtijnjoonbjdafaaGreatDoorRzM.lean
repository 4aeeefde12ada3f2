import Derived.Test.YtijnjoonbjdafaaGreatDoorRxM
import Derived.Laws.AppendOwnNone
namespace Go.Proofs.YtijnjoonbjdafaaGreatDoor
set_option maxHeartbeats 20000000
set_option maxRecDepth 20000
open Go.RowKit Go.Shelf
theorem ZhU{α:Type}(x:Bs×α):∀(l:List (Bs×α)) (i:Nat),i≤l.length→(∀j y,j<i→l[j]?=some y→bsLt y.1 x.1=true)→(∀y,l[i]?=some y→bsLt y.1 x.1=false)→insF x l=l.take i++x::l.drop i
 | [],i,hi,_,_=>by simp[insF]
 | y::r,0,_,_,h=>by
  have:=h y rfl;simp[insF,this]
 | y::r,i+1,hi,h,k=>by
  have h0:=h 0 y (Nat.succ_pos _) rfl;have:=ZhU x r i (by simpa using hi) (fun j z hj hz=>h (j+1) z (Nat.succ_lt_succ hj) (by simpa using hz)) (fun z hz=>k z (by simpa using hz));simp[insF,h0,this]
theorem ZhO:∀a b:Bs,Op.bytesLess a b=bsLt a b
 | [],[]=>rfl
 | [],_::_=>rfl
 | _::_,[]=>rfl
 | a::r,b::s=>by
  simp only[Op.bytesLess,bsLt,ZhO r s,UInt8.lt_iff_toNat_lt];by_cases h1:a.toNat<b.toNat
  ·simp only[h1,decide_true,Bool.true_or,if_true]
  ·by_cases h2:b.toNat<a.toNat
   ·have:(a==b)=false:=by simp only[beq_eq_false_iff_ne,ne_eq];rintro rfl;exact h1 h2
    simp only[h1,h2,this,decide_false,Bool.false_and,Bool.or_self,if_true,if_false]
   ·have:a=b:=UInt8.toNat_inj.1 (by omega);subst this;simp only[h1,decide_false,beq_self_eq_true,Bool.true_and,Bool.false_or,if_false]
theorem ZmN{W W':World}{B sz:Nat}{e:TypeId}{v:Value}{n:Nat}{xs:List Value}(hr:W.ownsRow B e sz v n xs)(hg:W.grownBy W' v.ownBlock){k:Nat}{o:Obj}(hk:W.heap[k]?=some o)(ho:∀c fz,o≠.cells c e fz):W'.heap[k]?=some o:=by
 refine (hg.block k (gE hk).1 ?_).trans hk;intro e1;rcases hr.2 with ⟨rfl,_⟩ | ⟨g,cap,cur,rfl,_,hgg,_⟩
 ·cases e1
 ·simp only[Value.ownBlock,Option.some.injEq] at e1;subst e1;rw[hgg] at hk;cases hk;exact ho _ _ rfl
theorem Zbl{W W':World}{B sz B' sz':Nat}{e e':TypeId}{v v':Value}{n n':Nat}{xs xs':List Value}(h:W.ownsRow B' e' sz' v' n' xs')(hr:W.ownsRow B e sz v n xs)(hg:W.grownBy W' v.ownBlock)(he:e'≠e):W'.ownsRow B' e' sz' v' n' xs':=by
 refine⟨h.1,?_⟩;rcases h.2 with hn' | ⟨g,cap,cur,rfl,hb,hgg,rest⟩
 ·exact .inl hn'
 ·exact .inr ⟨g,cap,cur,rfl,hb,ZmN hr hg hgg (fun c fz h'=>by cases h';exact he rfl),rest⟩
theorem ZaJ{N:Nat}{w w' w'':World}{row:Option Nat}(h:Below N w w')(hNq:N≤w'.heap.size)(hg:w'.grownBy w'' row)(hr:∀b,row=some b→N≤b):Below N w w'':=by
 refine⟨hg.os.trans h.os,hg.tape.trans h.tape,hg.output.trans h.output,Nat.le_trans h.size hg.size,fun k hk=>?_⟩;refine (hg.block k (ll hk hNq) (fun e=>?_)).trans (h.block k hk);have:=hr k e.symm;omega
theorem Zdm{N:Nat}{w w':World}{e:TypeId}{size n g c:Nat}{xs:List Value}(h:w.ownsRow 0 e size (.slice (some ⟨g,0,none⟩) n c) n xs)(hb:Below N w w')(hg:g<N):w'.ownsRow 0 e size (.slice (some ⟨g,0,none⟩) n c) n xs:=
 Zbc (S:=fun b=>N≤b) h hb.size (fun k _ hS=>hb.block k (Nat.lt_of_not_le hS)) (fun b hb=>by cases hb;exact Nat.not_le_of_lt hg)
theorem Zeq{w:World}{e:TypeId}{size n g c:Nat}{ps qs:List Value}(h:w.ownsRow 0 e size (.slice (some ⟨g,0,none⟩) n c) n (ps++qs)):∀j u,ps[j]?=some u→w.cell? ((⟨g,0,none⟩:Addr).add j)=some u:=fun j u hu=>by
 refine h.cells (g:=g) rfl j u ?_;rw[List.getElem?_append_left (List.getElem?_eq_some_iff.1 hu).1];exact hu
theorem Zep{w:World}{e:TypeId}{size n g c m:Nat}{ps qs:List Value}(h:w.ownsRow 0 e size (.slice (some ⟨g,0,none⟩) n c) n (ps++qs))(hm:ps.length=m):∀j u,qs[j]?=some u→w.cell? ((⟨g,m,none⟩:Addr).add j)=some u:=fun j u hu=>by
 have:=h.cells (g:=g) rfl (m+j) u (by rw[List.getElem?_append_right (by omega),hm,Nat.add_sub_cancel_left];exact hu);have e1:(⟨g,m,none⟩:Addr).add j=⟨g,m+j,none⟩:=by unfold Addr.add;split<;>simp_all
 have e2:(⟨g,0,none⟩:Addr).add (m+j)=⟨g,m+j,none⟩:=by unfold Addr.add;split<;>simp_all
 rw[e1,←e2];exact this
theorem Zb0{P:Program}{ops:Array Oper}{o:Oper}{a:Act}{w:World}{K:Act→World→Prop}{Q:Exit→Act→World→Prop}{E:Prop}(hgd:o.guard=none)(s x:Operand)(t:TypeId)
  (ho:o.op=.call { callee:=.builtin .append,args:=#[s,x],argTypes:=#[t,t] })
  (base:Nat) (e:TypeId) (i:TypeInfo) (z:Value) (size bytes:Nat) (ht:P.underlying t=some (.slice e)) (hi:P.info? e=some i) (hz:i.zero=some z)
  (hsize:i.size=size) (hby:i.bytes=bytes) (hzs:z.cells.size=size) (hsz:0<size)
  (v:Value) (n:Nat) (xs:List Value) (hs:a.eval s=v) (hown:w.ownsRow base e size v n xs)
  (ad:Addr) (m c:Nat) (news:List Value) (hx:a.eval x=.slice (some ad) m c) (hl:news.length=m*size) (hnews:∀j u,news[j]?=some u→w.cell? (ad.add j)=some u) (h1:∀u∈news,u.oneCell'=true)
  (h63:n+m≤maxLen) (hbytes:(n+m)*bytes≤140737488355328) (hbase:base≤w.heap.size)
  (h:∀v' w',w'.ownsRow base e size v' (n+m) (xs++news)→w.grownBy w' v.ownBlock→K (a.put o.dst v') w') :
  if Region.wanted o (yielded ops a.tmps)=true then Oper.wp P o a w K Q else E:=by
 have hw:Region.wanted o (yielded ops a.tmps)=true:=by simp[Region.wanted,hgd]
 rw[if_pos hw];exact wp_append_own w s x t ho base e i z size bytes ht hi hz hsize hby hzs hsz v n xs hs hown ad m c news hx hl hnews h1 h63 hbytes hbase fun v' w' h2 h3 _=>h v' w' h2 h3
theorem Zn7{f:Func}{R:Ending→World→Prop}{a:Act}{w:World}{b:Nat}{u0 u1 u2 u3:Value}(hf:f.results=#[.cell 6 31])(ht:a.eval (.tmp 6)=.pointer (some ⟨b,0,none⟩))(hd:a.defers=[])
  (h:Fou w b 31 u0 u1 u2 u3) (hR:R (.returned (.agg #[u0,u1,u2,u3])) w):bodyPost Tryz.prog f R Exit.ret a w:=by
 obtain⟨⟨c0,c1,c2,c3⟩,-⟩:=Zae h;refine bodyPost_ret ?_ hd hR;simp[Act.eval] at ht;simp[results,hf,go_sem,c0,c1,c2,c3,ht]
theorem Zed{fs:List (Bs×PT)}{i:Nat}{nm:Bs}{x:PT}{A:Nat→Prop}{w W3 W9:World}{pn qn pt qt:List Value}{x0 x1 x2 x3:Value}{g8 cap8 g9 cap9:Nat}(HIL:i≤fs.length)(HIN:insF (nm,x) fs=fs.take i++(nm,x)::fs.drop i)
  (B3:Below w.heap.size w W3) (B9:Below W3.heap.size W3 W9) (hs3:w.heap.size+3≤W3.heap.size)
  (IP:IsCs A w (((fs.take i).map (·.1)).map Dt.str) pn) (IQ:IsCs A w (((fs.drop i).map (·.1)).map Dt.str) qn) (JP:IsCs A w (Zau 31 ((fs.take i).map (·.2))) pt) (JQ:IsCs A w (Zau 31 ((fs.drop i).map (·.2))) qt) (HX:IsCs A w (encT 31 x) [x0,x1,x2,x3])
  (RN:W9.ownsRow W3.heap.size 9 1 (.slice (some ⟨g8,0,none⟩) (i+1+(fs.length-i)) cap8) (i+1+(fs.length-i)) (pn++[.string ⟨nm.toArray⟩]++qn))
  (RT:W9.ownsRow W3.heap.size 31 4 (.slice (some ⟨g9,0,none⟩) (i+1+(fs.length-i)) cap9) (i+1+(fs.length-i)) (pt++[x0,x1,x2,x3]++qt)) :
  Below w.heap.size w (putL W9 (w.heap.size+2) [.int .i64 5,.string ⟨#[]⟩,.slice (some ⟨g8,0,none⟩) (i+1+(fs.length-i)) cap8,.slice (some ⟨g9,0,none⟩) (i+1+(fs.length-i)) cap9])∧∃cs,Ending.returned (.agg #[.int .i64 5,.string ⟨#[]⟩,.slice (some ⟨g8,0,none⟩) (i+1+(fs.length-i)) cap8,.slice (some ⟨g9,0,none⟩) (i+1+(fs.length-i)) cap9])=.returned (.agg cs.toArray)∧IsCs (fun b=>(A b∧b<w.heap.size)∨w.heap.size≤b) (putL W9 (w.heap.size+2) [.int .i64 5,.string ⟨#[]⟩,.slice (some ⟨g8,0,none⟩) (i+1+(fs.length-i)) cap8,.slice (some ⟨g9,0,none⟩) (i+1+(fs.length-i)) cap9]) (encT 31 (rowT (insT fs nm x))) cs:=by
 generalize hvs:([.int .i64 5,.string ⟨#[]⟩,.slice (some ⟨g8,0,none⟩) (i+1+(fs.length-i)) cap8,.slice (some ⟨g9,0,none⟩) (i+1+(fs.length-i)) cap9]:List Value)=vs
 have B10:Below w.heap.size w (putL W9 (w.heap.size+2) vs):=Below.putL (B3.trans (B9.mono B3.size)) (by omega) _;have hz:(putL W9 (w.heap.size+2) vs).heap.size=W9.heap.size:=(ZaW (w.heap.size+2) vs 0 W9).2.2.2;have RN':=Zbc (S:=fun b=>b=w.heap.size+2) RN (Nat.le_of_eq hz.symm) (fun b _ hb=>ZaS (w.heap.size+2) vs 0 W9 b hb) (fun b hb=>by have:=(RN.lt b hb).1;omega);have RT':=Zbc (S:=fun b=>b=w.heap.size+2) RT (Nat.le_of_eq hz.symm) (fun b _ hb=>ZaS (w.heap.size+2) vs 0 W9 b hb) (fun b hb=>by have:=(RT.lt b hb).1;omega);have up:∀{l:List Dt}{xs:List Value},IsCs A w l xs→IsCs (fun b=>(A b∧b<w.heap.size)∨w.heap.size≤b) (putL W9 (w.heap.size+2) vs) l xs:=fun h=>(h.mono (fun b hb ha=>.inl ⟨ha,hb⟩)).below B10
 have e1:insT fs nm x=fs.take i++(nm,x)::fs.drop i:=HIN;have e2:(insT fs nm x).map (·.1)=(fs.take i).map (·.1)++nm::(fs.drop i).map (·.1):=by rw[e1];simp
 have e3:(insT fs nm x).map (·.2)=(fs.take i).map (·.2)++x::(fs.drop i).map (·.2):=by rw[e1];simp
 have l2:((insT fs nm x).map (·.1)).length=i+1+(fs.length-i):=by rw[e2];simp;omega
 have l3:((insT fs nm x).map (·.2)).length=i+1+(fs.length-i):=by rw[e3];simp;omega
 have n1:IsCs (fun b=>(A b∧b<w.heap.size)∨w.heap.size≤b) (putL W9 (w.heap.size+2) vs) (((insT fs nm x).map (·.1)).map Dt.str) (pn++[.string ⟨nm.toArray⟩]++qn):=by
  rw[e2,List.map_append,List.map_cons,←List.singleton_append,←aA];exact ((up IP).append _ _ _ _ (.cons (.str _ _ nm) (.nil _ _))).append _ _ _ _ (up IQ)
 have n2:IsCs (fun b=>(A b∧b<w.heap.size)∨w.heap.size≤b) (putL W9 (w.heap.size+2) vs) (Zau 31 ((insT fs nm x).map (·.2))) (pt++[x0,x1,x2,x3]++qt):=by
  rw[e3,ZbZ,Zau,←aA];exact ((up JP).append _ _ _ _ (up HX)).append _ _ _ _ (up JQ)
 refine⟨B10,vs,by rw[←hvs],?_⟩;subst hvs;rw[rowT,encT,l2,l3];exact .cons (.num _ _ 5) (.cons (.str _ _ []) (.cons (.row (by decide) RN' (fun b hb=>.inr (by have:=(RN.lt b hb).1;omega)) n1) (.cons (.row (by decide) RT' (fun b hb=>.inr (by have:=(RT.lt b hb).1;omega)) n2) (.nil _ _))))
theorem ZhT (fs:List (Bs×PT))(hsz:fs.length≤1000000)(hne:fs.length≠0)(nm:Bs)(x:PT)(A:Nat→Prop)(w:World)(vt vx:List Value)(ht:IsCs A w (encT 31 (rowT fs)) vt)(hx:IsCs A w (encT 31 x) vx) :
  Calls Tryz.prog 167 #[.agg vt.toArray,.string ⟨nm.toArray⟩,.agg vx.toArray] w fun e w'=>Below w.heap.size w w'∧∃cs,e=.returned (.agg cs.toArray)∧IsCs (fun b=>(A b∧b<w.heap.size)∨w.heap.size≤b) w' (encT 31 (rowT (insT fs nm x))) cs:=by
 obtain⟨xk,xn,xns,xl⟩:=x;obtain⟨v2,v3,rfl,k2,k3⟩:=ZbL ht;obtain⟨z2,z3,rfl,y2,y3⟩:=ZbL hx;obtain⟨ys2,ry2,-,-⟩:=y2.unrow;obtain⟨e2,f2,rfl⟩:=Zag ry2;obtain⟨ys3,ry3,-,-⟩:=y3.unrow;obtain⟨e3,f3,rfl⟩:=Zag ry3;rw[List.length_map] at k2 k3;obtain⟨xs2,r2,-,i2⟩:=k2.unrow;obtain⟨g2,c2,rfl,-,gl2⟩:=r2.form (Nat.pos_of_ne_zero hne);obtain⟨xs3,r3,-,i3⟩:=k3.unrow;obtain⟨g3,c3,rfl,-,gl3⟩:=r3.form (Nat.pos_of_ne_zero hne);obtain⟨i9,hi9,hz9,hy9,hw9⟩:=info_parts Zk4;obtain⟨i0,hi,hz0,hz1,hz2⟩:=info_parts Zk5;have hcap2:fs.length≤c2:=by
  rcases r2.2 with ⟨h,_⟩ | ⟨g,cap,cur,h,_,_,hc,_⟩
  ·cases h
  ·cases h;exact hc
 have hcap3:fs.length≤c3:=by
  rcases r3.2 with ⟨h,_⟩ | ⟨g,cap,cur,h,_,_,hc,_⟩
  ·cases h
  ·cases h;exact hc
 have I2:=Hd i2;have I3:=Hd i3;have HX:=Hd hx;have HNE:=Hd hne;have R2:=Hd r2;have R3:=Hd r3;have HG2:=Hd gl2;have HG3:=Hd gl3;clear k2 k3 y2 y3 ry2 ry3 r2 r3 i2 i3 ht hx hne gl2 gl3;go_enter Tryz.func167,Tryz.ntmps167
 obtain⟨W3,hW3⟩:=eY (((w.alloc (.cells #[.int .i64 5,.string ⟨#[]⟩,.slice (some ⟨g2,0,none⟩) fs.length c2,.slice (some ⟨g3,0,none⟩) fs.length c3] 31)).alloc (.cells #[.int .i64 xk,.string ⟨xn.toArray⟩,.slice e2 xns.length f2,.slice e3 xl.length f3] 31)).alloc (.cells #[.int .i64 0,.string ⟨#[]⟩,.slice none 0 0,.slice none 0 0] 31));have HW3:=Hd hW3;have b3:Below w.heap.size w W3:=by rw[←hW3];exact (((Below.refl _ _).alloc (nl _) _).alloc (by simp) _).alloc (by simp;omega) _
 have hT3:Fou W3 w.heap.size 31 (.int .i64 5) (.string ⟨#[]⟩) (.slice (some ⟨g2,0,none⟩) fs.length c2) (.slice (some ⟨g3,0,none⟩) fs.length c3):=by rw[←hW3];exact Zab (Zab (hN w _) _) _
 have hX3:Fou W3 (w.heap.size+1) 31 (.int .i64 xk) (.string ⟨xn.toArray⟩) (.slice e2 xns.length f2) (.slice e3 xl.length f3):=by
  rw[←hW3];have:=hN (w.alloc (.cells #[.int .i64 5,.string ⟨#[]⟩,.slice (some ⟨g2,0,none⟩) fs.length c2,.slice (some ⟨g3,0,none⟩) fs.length c3] 31)) (.cells #[.int .i64 xk,.string ⟨xn.toArray⟩,.slice e2 xns.length f2,.slice e3 xl.length f3] 31);rw[World.size_alloc] at this;exact Zab this _
 have hZ3:Fou W3 (w.heap.size+2) 31 (.int .i64 0) (.string ⟨#[]⟩) (.slice none 0 0) (.slice none 0 0):=by
  rw[←hW3];have:=hN ((w.alloc (.cells #[.int .i64 5,.string ⟨#[]⟩,.slice (some ⟨g2,0,none⟩) fs.length c2,.slice (some ⟨g3,0,none⟩) fs.length c3] 31)).alloc (.cells #[.int .i64 xk,.string ⟨xn.toArray⟩,.slice e2 xns.length f2,.slice e3 xl.length f3] 31)) (.cells #[.int .i64 0,.string ⟨#[]⟩,.slice none 0 0,.slice none 0 0] 31);rw[World.size_alloc,World.size_alloc] at this;exact this
 have B3:=Hd b3;have HT3:=Hd hT3;have HX3:=Hd hX3;have HZ3:=Hd hZ3;have HSZ:=Hd hsz;obtain⟨⟨p0,p1,p2,p3⟩,-⟩:=Zae hT3;have hbig:=hsz;have RW2:=Hd (ZaM R2.out b3);have RW3:=Hd (ZaM R3.out b3);clear hW3 b3 hT3 hX3 hZ3 hsz;go_upto_region 1 with fail
 rw[HW3.out];go_wp2_with fail
 go_loop [7] (fun s7=>∃i:Nat,s7=.int .i64 i∧i≤fs.length∧Hid (∀j y,j<i→fs[j]?=some y→bsLt y.1 nm=true)) (fun s7=>fs.length-(intOf s7).toNat)
 case atStart=>exact⟨0,rfl,Nat.zero_le _,Hd (fun j y h=>absurd h (Nat.not_lt_zero _))⟩
 case round=>
  obtain⟨i,rfl,hil,hNq⟩:=hrel;have hat:∀fn ft,fs[i]?=some (fn,ft)→W3.cell? ⟨g2,i,none⟩=some (.string ⟨fn.toArray⟩):=by
   intro fn ft hget;have h2:=I2.out;rw[Zd1] at h2;obtain⟨cs,hcs,hcell⟩:=IsCs.at (k:=1) (fun _=>rfl) _ i fn _ h2 (by rw[List.getElem?_map,hget];rfl);obtain⟨x0,ys,rfl,k0,-⟩:=hcs.uncons;simp only[IsC] at k0;subst k0;have d0:=hcell 0 _ rfl;rw[aZ,Nat.mul_one] at d0;have hil':=(List.getElem?_eq_some_iff.1 hget).1;rw[RW2.out.cellAt i (by omega)];exact d0
  have key:(i<fs.length∧∃fn ft,fs[i]?=some (fn,ft)∧Op.bytesLess fn nm=true)∨((i<fs.length∧∃fn,W3.cell? ⟨g2,i,none⟩=some (.string ⟨fn.toArray⟩)∧Op.bytesLess fn nm=false)∧Hid (insF (nm,PT.mk xk xn xns xl) fs=fs.take i++(nm,PT.mk xk xn xns xl)::fs.drop i))∨(¬i<fs.length∧Hid (insF (nm,PT.mk xk xn xns xl) fs=fs.take i++(nm,PT.mk xk xn xns xl)::fs.drop i)):=by
   by_cases hi2:i<fs.length
   ·obtain⟨⟨fn,ft⟩,hget⟩:∃s,fs[i]?=some s:=⟨_,List.getElem?_eq_getElem hi2⟩;cases hb:Op.bytesLess fn nm with
    | true=>exact .inl ⟨hi2,fn,ft,hget,hb⟩
    | false=>exact .inr (.inl ⟨⟨hi2,fn,hat fn ft hget,hb⟩,ZhU _ fs i hil hNq.out (fun y hy=>by rw[hget] at hy;cases hy;rw[←ZhO];exact hb)⟩)
   ·exact .inr (.inr ⟨hi2,ZhU _ fs i hil hNq.out (fun y hy=>by rw[List.getElem?_eq_none (Nat.le_of_not_lt hi2)] at hy;cases hy)⟩)
  rcases key with ⟨hi2,fn,ft,hget,hb⟩ | ⟨⟨hi2,fn,d0,hb⟩,HIN⟩ | ⟨hi2,HIN⟩
  case inl=>
   have hlt:decide ((i:Int)<(fs.length:Int))=true:=dT (by omega);have hltn:decide (i<fs.length)=true:=dT hi2;have d0:=hat fn ft hget;have HE:=Hd (show ∀j y,j<i+1→fs[j]?=some y→bsLt y.1 nm=true from fun j y hj hy=>by
    rcases Nat.lt_succ_iff_lt_or_eq.1 hj with h | rfl
    ·exact hNq.out j y h hy
    ·rw[hget] at hy;cases hy;rw[←ZhO];exact hb)
   clear hget hat;go_wp2_with fail
   exact⟨⟨i+1,by simp,by omega,HE⟩,by simp[intOf];omega⟩
  case inr.inl=>
   have hlt:decide ((i:Int)<(fs.length:Int))=true:=dT (by omega);have hltn:decide (i<fs.length)=true:=dT hi2;clear hat;go_upto_region 4 with fail
   have hs3:w.heap.size+3≤W3.heap.size:=by have:=(gE HZ3.out).1;omega
   have hic2:i≤c2:=by omega
   have hic3:i≤c3:=by omega
   have HS3:=Hd hs3;obtain⟨pn,qn,hxs2,ip,iq⟩:=IsCs.split (((fs.take i).map (·.1)).map Dt.str) (((fs.drop i).map (·.1)).map Dt.str) xs2 (by rw[←List.map_append,←List.map_append,List.take_append_drop];exact I2.out);obtain⟨pt,qt,hxs3,jp,jq⟩:=IsCs.split (Zau 31 ((fs.take i).map (·.2))) (Zau 31 ((fs.drop i).map (·.2))) xs3 (by rw[←ZbZ,←List.map_append,List.take_append_drop];exact I3.out);have hpn:pn.length=i:=by have:=IsCs.length _ _ ip;simp at this;omega
   have hqn:qn.length=fs.length-i:=by have:=IsCs.length _ _ iq;simp at this;omega
   have hpt:pt.length=i*4:=by have:=IsCs.length _ _ jp;rw[ZaE,ZaF (Zas 31)] at this;simp at this;omega
   have hqt:qt.length=(fs.length-i)*4:=by have:=IsCs.length _ _ jq;rw[ZaE,ZaF (Zas 31)] at this;simp at this;omega
   subst hxs2 hxs3;have HPN:=Hd hpn;have HQN:=Hd hqn;have HPT:=Hd hpt;have HQT:=Hd hqt;have IP:=Hd ip;have IQ:=Hd iq;have JP:=Hd jp;have JQ:=Hd jq;have HIL:=Hd hil;have HTW:Hid (∀W:World,Below W3.heap.size W3 W→Fou W w.heap.size 31 (.int .i64 5) (.string ⟨#[]⟩) (.slice (some ⟨g2,0,none⟩) fs.length c2) (.slice (some ⟨g3,0,none⟩) fs.length c3)):=fun W h=>(h.block _ (by have:=HS3.out;omega)).trans HT3.out
   have HXW:Hid (∀W:World,Below W3.heap.size W3 W→Fou W (w.heap.size+1) 31 (.int .i64 xk) (.string ⟨xn.toArray⟩) (.slice e2 xns.length f2) (.slice e3 xl.length f3)):=fun W h=>(h.block _ (by have:=HS3.out;omega)).trans HX3.out
   have HRN:Hid (∀W:World,Below W3.heap.size W3 W→W.ownsRow 0 9 1 (.slice (some ⟨g2,0,none⟩) fs.length c2) fs.length (pn++qn)):=fun W h=>Zdm RW2.out h (by have:=HG2.out;have:=HS3.out;omega)
   have HRT:Hid (∀W:World,Below W3.heap.size W3 W→W.ownsRow 0 31 4 (.slice (some ⟨g3,0,none⟩) fs.length c3) fs.length (pt++qt)):=fun W h=>Zdm RW3.out h (by have:=HG3.out;have:=HS3.out;omega)
   have B4a:=Hd ((Below.refl W3.heap.size W3).alloc (nl _) (.cells #[] 9));have OWN4:=Hd (World.ownsRow_lit (e:=9) (size:=1) (base:=W3.heap.size) W3 #[] 0 (nl _) (Nat.zero_le _) rfl);have hmx1:0+i≤maxLen:=by unfold maxLen;omega
   have hmb1:(0+i)*16≤140737488355328:=by omega
   have hmb2:(0+i)*72≤140737488355328:=by omega
   obtain⟨⟨q0,q1,q2,q3⟩,-⟩:=Zae (HTW.out _ B4a.out);clear hs3 hpn hqn hpt hqt ip iq jp jq p0 p1 p2 p3;go_upto_region 5 with (first | (at_builtin;refine wpList_append_own _ rfl (.tmp 26) (.tmp 30) 23 rfl W3.heap.size 9 i0 _ 1 16 Tryz.underlying23 hi hz0 hz1 hz2 rfl (by decide) _ 0 [] rfl OWN4.out ⟨g2,0,none⟩ i c2 pn rfl (by rw[HPN.out,Nat.mul_one]) (Zeq (HRN.out _ B4a.out)) IP.out.one hmx1 hmb1 (by simp) ?_;intro v4 W4 hown4 hg4 hnil4))
   simp only[Nat.zero_add,List.nil_append] at hown4;have HO4:=Hd hown4;have B4:=Hd (ZaJ B4a.out (by simp) hg4 (fun b hb=>by cases hb;exact nl _));have HZ4:=Hd B4.out.size;have B5a:=Hd (B4.out.alloc HZ4.out (.cells #[] 31));have OWN5:=Hd (World.ownsRow_lit (e:=31) (size:=4) (base:=W3.heap.size) W4 #[] 0 HZ4.out (Nat.zero_le _) rfl);have L4:=Hd (fun b hb=>hown4.lt b hb);clear q0 q1 q2 q3 hown4 hg4 hnil4;obtain⟨⟨q0,q1,q2,q3⟩,-⟩:=Zae (HTW.out _ B5a.out);go_upto_region 6 with (first | (at_builtin;refine wpList_append_own _ rfl (.tmp 32) (.tmp 36) 29 rfl W3.heap.size 31 i9 _ 4 72 Tryz.underlying29 hi9 hz9 hy9 hw9 rfl (by decide) _ 0 [] rfl OWN5.out ⟨g3,0,none⟩ i c3 pt rfl HPT.out (Zeq (HRT.out _ B5a.out)) JP.out.one hmx1 hmb2 (by rw[World.size_alloc];have:=HZ4.out;omega) ?_;intro v5 W5 hown5 hg5 hnil5))
   simp only[Nat.zero_add,List.nil_append] at hown5;have HO5:=Hd hown5;have B5:=Hd (ZaJ B5a.out (by rw[World.size_alloc];have:=HZ4.out;omega) hg5 (fun b hb=>by cases hb;exact HZ4.out));have HZ5:=Hd B5.out.size;have RN5:=Hd (Zbl (HO4.out.alloc (.cells #[] 31)) OWN5.out hg5 (by decide));have B6a:=Hd (B5.out.alloc HZ5.out (.cells #[.string ⟨nm.toArray⟩] 9));have HNB6:=Hd (World.news_of_block (hN W5 (.cells #[.string ⟨nm.toArray⟩] 9)));have RN6a:=Hd (RN5.out.alloc (.cells #[.string ⟨nm.toArray⟩] 9));have hmx2:i+1≤maxLen:=by unfold maxLen;omega
   have hmb3:(i+1)*16≤140737488355328:=by omega
   have hmb4:(i+1)*72≤140737488355328:=by omega
   clear q0 q1 q2 q3 hown5 hg5 hnil5;go_upto_region 7 with (first | (at_builtin;refine wpList_append_lies _ rfl (.tmp 38) (.tmp 40) 23 rfl W3.heap.size 9 i0 _ 1 16 Tryz.underlying23 hi hz0 hz1 hz2 rfl (by decide) v4 i pn rfl RN6a.out ⟨W5.heap.size,0,none⟩ 1 1 [.string ⟨nm.toArray⟩] rfl rfl (fun j u hu=>HNB6.out j u hu) (by simp[Value.oneCell']) (by decide) hmx2 hmb3 (by rw[World.size_alloc];have:=HZ5.out;omega) (W5.heap.size+1) (World.size_alloc _ _) ?_;intro g6 cap6 W6 hown6 hg6 hat6 hlt6))
   have HO6:=Hd hown6;have B6:=Hd (ZaJ B6a.out (by rw[World.size_alloc];have:=HZ5.out;omega) hg6 (fun b hb=>(RN6a.out.lt b hb).1));have HZ6:=Hd B6.out.size;have RT6:=Hd (Zbl (HO5.out.alloc (.cells #[.string ⟨nm.toArray⟩] 9)) RN6a.out hg6 (by decide));have B7a:=Hd (B6.out.alloc HZ6.out (.cells #[.int .i64 xk,.string ⟨xn.toArray⟩,.slice e2 xns.length f2,.slice e3 xl.length f3] 31));have HNB7:=Hd (World.news_of_block (hN W6 (.cells #[.int .i64 xk,.string ⟨xn.toArray⟩,.slice e2 xns.length f2,.slice e3 xl.length f3] 31)));have RT7a:=Hd (RT6.out.alloc (.cells #[.int .i64 xk,.string ⟨xn.toArray⟩,.slice e2 xns.length f2,.slice e3 xl.length f3] 31));have RN7a:=Hd (HO6.out.alloc (.cells #[.int .i64 xk,.string ⟨xn.toArray⟩,.slice e2 xns.length f2,.slice e3 xl.length f3] 31));obtain⟨⟨x0,x1,x2,x3⟩,-⟩:=Zae (HXW.out _ B6.out);clear hown6 hg6 hat6 hlt6;go_upto_region 8 with (first | (at_builtin;refine wpList_append_lies _ rfl (.tmp 42) (.tmp 44) 29 rfl W3.heap.size 31 i9 _ 4 72 Tryz.underlying29 hi9 hz9 hy9 hw9 rfl (by decide) v5 i pt rfl RT7a.out ⟨W6.heap.size,0,none⟩ 1 1 [.int .i64 xk,.string ⟨xn.toArray⟩,.slice e2 xns.length f2,.slice e3 xl.length f3] rfl rfl (fun j u hu=>HNB7.out j u hu) HX.out.one (by decide) hmx2 hmb4 (by rw[World.size_alloc];have:=HZ6.out;omega) (W6.heap.size+1) (World.size_alloc _ _) ?_;intro g7 cap7 W7 hown7 hg7 hat7 hlt7))
   have HO7:=Hd hown7;have B7:=Hd (ZaJ B7a.out (by rw[World.size_alloc];have:=HZ6.out;omega) hg7 (fun b hb=>(RT7a.out.lt b hb).1));have HZ7:=Hd B7.out.size;have RN7:=Hd (Zbl RN7a.out RT7a.out hg7 (by decide));clear x0 x1 x2 x3 hown7 hg7 hat7 hlt7;obtain⟨⟨q0,q1,q2,q3⟩,-⟩:=Zae (HTW.out _ B7.out);have hmx3:i+1+(fs.length-i)≤maxLen:=by unfold maxLen;omega
   have hmb5:(i+1+(fs.length-i))*16≤140737488355328:=by omega
   have hmb6:(i+1+(fs.length-i))*72≤140737488355328:=by omega
   have B7d:=Hd B7.out.drew;obtain⟨ad2,hAD2,hNW2⟩:∃ad:Addr,(if c2=i then some (⟨g2,0,none⟩:Addr) else some ⟨g2,i,none⟩)=some ad∧Hid (∀W:World,Below W3.heap.size W3 W→∀j u,qn[j]?=some u→W.cell? (ad.add j)=some u):=by
    by_cases hc:c2=i
    ·refine⟨_,if_pos hc,fun W h j u hu=>?_⟩;have:=(List.getElem?_eq_some_iff.1 hu).1;have:=HQN.out;omega
    ·exact⟨_,if_neg hc,fun W h=>Zep (HRN.out _ h) HPN.out⟩
   obtain⟨ad3,hAD3,hNW3⟩:∃ad:Addr,(if c3=i then some (⟨g3,0,none⟩:Addr) else some ⟨g3,i*4,none⟩)=some ad∧Hid (∀W:World,Below W3.heap.size W3 W→∀j u,qt[j]?=some u→W.cell? (ad.add j)=some u):=by
    by_cases hc:c3=i
    ·refine⟨_,if_pos hc,fun W h j u hu=>?_⟩;have:=(List.getElem?_eq_some_iff.1 hu).1;have:=HQT.out;omega
    ·exact⟨_,if_neg hc,fun W h=>Zep (HRT.out _ h) HPT.out⟩
   have RN7d:=Hd (ZaM RN7.out (Below.refl _ _).drew);have RT7d:=Hd (ZaM HO7.out (Below.refl _ _).drew);have HA2:=Hd hAD2;have HA3:=Hd hAD3;clear hAD2 hAD3;go_region_law
    (first
     | (refine Zb0 rfl (.tmp 46) (.tmp 50) 23 rfl W3.heap.size 9 i0 _ 1 16 Tryz.underlying23 hi hz0 hz1 hz2 rfl (by decide) (.slice (some ⟨g6,0,none⟩) (i+1) cap6) (i+1) (pn++[.string ⟨nm.toArray⟩]) rfl RN7d.out ad2 (fs.length-i) (c2-i) qn (congrArg (fun z=>Value.slice z (fs.length-i) (c2-i)) HA2.out) (by rw[HQN.out,Nat.mul_one]) (hNW2.out _ B7d.out) IQ.out.one hmx3 hmb5 B7d.out.size ?_;intro v8 W8 hown8 hg8;obtain⟨g8,cap8,rfl,-,-⟩:=hown8.form (Nat.add_pos_left (Nat.succ_pos _) _);(have HO8:=Hd hown8);(have B8:=Hd (ZaJ B7d.out B7d.out.size hg8 (fun b hb=>(RN7d.out.lt b hb).1)));(have RT8:=Hd (Zbl RT7d.out RN7d.out hg8 (by decide)));obtain⟨⟨y0,y1,y2,y3⟩,-⟩:=Zae (HTW.out _ B8.out);clear hown8 hg8)
     | (refine Zb0 rfl (.tmp 52) (.tmp 56) 29 rfl W3.heap.size 31 i9 _ 4 72 Tryz.underlying29 hi9 hz9 hy9 hw9 rfl (by decide) (.slice (some ⟨g7,0,none⟩) (i+1) cap7) (i+1) _ rfl RT8.out ad3 (fs.length-i) (c3-i) qt (congrArg (fun z=>Value.slice z (fs.length-i) (c3-i)) HA3.out) HQT.out (hNW3.out _ B8.out) JQ.out.one hmx3 hmb6 B8.out.size ?_;intro v9 W9 hown9 hg9;obtain⟨g9,cap9,rfl,-,-⟩:=hown9.form (Nat.add_pos_left (Nat.succ_pos _) _);(have HO9:=Hd hown9);(have B9:=Hd (ZaJ B8.out B8.out.size hg9 (fun b hb=>(RT8.out.lt b hb).1)));(have RN9:=Hd (Zbl HO8.out RT8.out hg9 (by decide)));(have HZ9:=Hd (show Fou W9 (w.heap.size+2) 31 (.int .i64 0) (.string ⟨#[]⟩) (.slice none 0 0) (.slice none 0 0) from (B9.out.block _ (by have:=HS3.out;omega)).trans HZ3.out));obtain⟨⟨z0,z1,z2,z3⟩,t0,t1,t2,t3⟩:=Zae HZ9.out;clear hown9 hg9))
   all_goals
    rename_i hKK;refine hKK _ _ (wp_ret ?_);change bodyPost Tryz.prog _ (fun e w'=>Below w.heap.size w w'∧∃cs,e=.returned (.agg cs.toArray)∧IsCs (fun b=>(A b∧b<w.heap.size)∨w.heap.size≤b) w' (encT 31 (rowT (insT fs nm (PT.mk xk xn xns xl)))) cs) Exit.ret _ _;exact Zn7 (R:=fun e w'=>Below w.heap.size w w'∧∃cs,e=.returned (.agg cs.toArray)∧IsCs (fun b=>(A b∧b<w.heap.size)∨w.heap.size≤b) w' (encT 31 (rowT (insT fs nm (PT.mk xk xn xns xl)))) cs) rfl rfl rfl (ZcA HZ9.out (.int .i64 5) (.string ⟨#[]⟩) (.slice (some ⟨g8,0,none⟩) (i+1+(fs.length-i)) cap8) (.slice (some ⟨g9,0,none⟩) (i+1+(fs.length-i)) cap9)) (Zed HIL.out HIN.out B3.out B9.out HS3.out IP.out IQ.out JP.out JQ.out HX.out RN9.out HO9.out)
  case inr.inr=>
   have hlt:decide ((i:Int)<(fs.length:Int))=false:=dF (by omega);have hltn:decide (i<fs.length)=false:=dF hi2;clear hat;go_upto_region 4 with fail
   have hs3:w.heap.size+3≤W3.heap.size:=by have:=(gE HZ3.out).1;omega
   have hic2:i≤c2:=by omega
   have hic3:i≤c3:=by omega
   have HS3:=Hd hs3;obtain⟨pn,qn,hxs2,ip,iq⟩:=IsCs.split (((fs.take i).map (·.1)).map Dt.str) (((fs.drop i).map (·.1)).map Dt.str) xs2 (by rw[←List.map_append,←List.map_append,List.take_append_drop];exact I2.out);obtain⟨pt,qt,hxs3,jp,jq⟩:=IsCs.split (Zau 31 ((fs.take i).map (·.2))) (Zau 31 ((fs.drop i).map (·.2))) xs3 (by rw[←ZbZ,←List.map_append,List.take_append_drop];exact I3.out);have hpn:pn.length=i:=by have:=IsCs.length _ _ ip;simp at this;omega
   have hqn:qn.length=fs.length-i:=by have:=IsCs.length _ _ iq;simp at this;omega
   have hpt:pt.length=i*4:=by have:=IsCs.length _ _ jp;rw[ZaE,ZaF (Zas 31)] at this;simp at this;omega
   have hqt:qt.length=(fs.length-i)*4:=by have:=IsCs.length _ _ jq;rw[ZaE,ZaF (Zas 31)] at this;simp at this;omega
   subst hxs2 hxs3;have HPN:=Hd hpn;have HQN:=Hd hqn;have HPT:=Hd hpt;have HQT:=Hd hqt;have IP:=Hd ip;have IQ:=Hd iq;have JP:=Hd jp;have JQ:=Hd jq;have HIL:=Hd hil;have HTW:Hid (∀W:World,Below W3.heap.size W3 W→Fou W w.heap.size 31 (.int .i64 5) (.string ⟨#[]⟩) (.slice (some ⟨g2,0,none⟩) fs.length c2) (.slice (some ⟨g3,0,none⟩) fs.length c3)):=fun W h=>(h.block _ (by have:=HS3.out;omega)).trans HT3.out
   have HXW:Hid (∀W:World,Below W3.heap.size W3 W→Fou W (w.heap.size+1) 31 (.int .i64 xk) (.string ⟨xn.toArray⟩) (.slice e2 xns.length f2) (.slice e3 xl.length f3)):=fun W h=>(h.block _ (by have:=HS3.out;omega)).trans HX3.out
   have HRN:Hid (∀W:World,Below W3.heap.size W3 W→W.ownsRow 0 9 1 (.slice (some ⟨g2,0,none⟩) fs.length c2) fs.length (pn++qn)):=fun W h=>Zdm RW2.out h (by have:=HG2.out;have:=HS3.out;omega)
   have HRT:Hid (∀W:World,Below W3.heap.size W3 W→W.ownsRow 0 31 4 (.slice (some ⟨g3,0,none⟩) fs.length c3) fs.length (pt++qt)):=fun W h=>Zdm RW3.out h (by have:=HG3.out;have:=HS3.out;omega)
   have B4a:=Hd ((Below.refl W3.heap.size W3).alloc (nl _) (.cells #[] 9));have OWN4:=Hd (World.ownsRow_lit (e:=9) (size:=1) (base:=W3.heap.size) W3 #[] 0 (nl _) (Nat.zero_le _) rfl);have hmx1:0+i≤maxLen:=by unfold maxLen;omega
   have hmb1:(0+i)*16≤140737488355328:=by omega
   have hmb2:(0+i)*72≤140737488355328:=by omega
   obtain⟨⟨q0,q1,q2,q3⟩,-⟩:=Zae (HTW.out _ B4a.out);clear hs3 hpn hqn hpt hqt ip iq jp jq p0 p1 p2 p3;go_upto_region 5 with (first | (at_builtin;refine wpList_append_own _ rfl (.tmp 26) (.tmp 30) 23 rfl W3.heap.size 9 i0 _ 1 16 Tryz.underlying23 hi hz0 hz1 hz2 rfl (by decide) _ 0 [] rfl OWN4.out ⟨g2,0,none⟩ i c2 pn rfl (by rw[HPN.out,Nat.mul_one]) (Zeq (HRN.out _ B4a.out)) IP.out.one hmx1 hmb1 (by simp) ?_;intro v4 W4 hown4 hg4 hnil4))
   simp only[Nat.zero_add,List.nil_append] at hown4;have HO4:=Hd hown4;have B4:=Hd (ZaJ B4a.out (by simp) hg4 (fun b hb=>by cases hb;exact nl _));have HZ4:=Hd B4.out.size;have B5a:=Hd (B4.out.alloc HZ4.out (.cells #[] 31));have OWN5:=Hd (World.ownsRow_lit (e:=31) (size:=4) (base:=W3.heap.size) W4 #[] 0 HZ4.out (Nat.zero_le _) rfl);have L4:=Hd (fun b hb=>hown4.lt b hb);clear q0 q1 q2 q3 hown4 hg4 hnil4;obtain⟨⟨q0,q1,q2,q3⟩,-⟩:=Zae (HTW.out _ B5a.out);go_upto_region 6 with (first | (at_builtin;refine wpList_append_own _ rfl (.tmp 32) (.tmp 36) 29 rfl W3.heap.size 31 i9 _ 4 72 Tryz.underlying29 hi9 hz9 hy9 hw9 rfl (by decide) _ 0 [] rfl OWN5.out ⟨g3,0,none⟩ i c3 pt rfl HPT.out (Zeq (HRT.out _ B5a.out)) JP.out.one hmx1 hmb2 (by rw[World.size_alloc];have:=HZ4.out;omega) ?_;intro v5 W5 hown5 hg5 hnil5))
   simp only[Nat.zero_add,List.nil_append] at hown5;have HO5:=Hd hown5;have B5:=Hd (ZaJ B5a.out (by rw[World.size_alloc];have:=HZ4.out;omega) hg5 (fun b hb=>by cases hb;exact HZ4.out));have HZ5:=Hd B5.out.size;have RN5:=Hd (Zbl (HO4.out.alloc (.cells #[] 31)) OWN5.out hg5 (by decide));have B6a:=Hd (B5.out.alloc HZ5.out (.cells #[.string ⟨nm.toArray⟩] 9));have HNB6:=Hd (World.news_of_block (hN W5 (.cells #[.string ⟨nm.toArray⟩] 9)));have RN6a:=Hd (RN5.out.alloc (.cells #[.string ⟨nm.toArray⟩] 9));have hmx2:i+1≤maxLen:=by unfold maxLen;omega
   have hmb3:(i+1)*16≤140737488355328:=by omega
   have hmb4:(i+1)*72≤140737488355328:=by omega
   clear q0 q1 q2 q3 hown5 hg5 hnil5;go_upto_region 7 with (first | (at_builtin;refine wpList_append_lies _ rfl (.tmp 38) (.tmp 40) 23 rfl W3.heap.size 9 i0 _ 1 16 Tryz.underlying23 hi hz0 hz1 hz2 rfl (by decide) v4 i pn rfl RN6a.out ⟨W5.heap.size,0,none⟩ 1 1 [.string ⟨nm.toArray⟩] rfl rfl (fun j u hu=>HNB6.out j u hu) (by simp[Value.oneCell']) (by decide) hmx2 hmb3 (by rw[World.size_alloc];have:=HZ5.out;omega) (W5.heap.size+1) (World.size_alloc _ _) ?_;intro g6 cap6 W6 hown6 hg6 hat6 hlt6))
   have HO6:=Hd hown6;have B6:=Hd (ZaJ B6a.out (by rw[World.size_alloc];have:=HZ5.out;omega) hg6 (fun b hb=>(RN6a.out.lt b hb).1));have HZ6:=Hd B6.out.size;have RT6:=Hd (Zbl (HO5.out.alloc (.cells #[.string ⟨nm.toArray⟩] 9)) RN6a.out hg6 (by decide));have B7a:=Hd (B6.out.alloc HZ6.out (.cells #[.int .i64 xk,.string ⟨xn.toArray⟩,.slice e2 xns.length f2,.slice e3 xl.length f3] 31));have HNB7:=Hd (World.news_of_block (hN W6 (.cells #[.int .i64 xk,.string ⟨xn.toArray⟩,.slice e2 xns.length f2,.slice e3 xl.length f3] 31)));have RT7a:=Hd (RT6.out.alloc (.cells #[.int .i64 xk,.string ⟨xn.toArray⟩,.slice e2 xns.length f2,.slice e3 xl.length f3] 31));have RN7a:=Hd (HO6.out.alloc (.cells #[.int .i64 xk,.string ⟨xn.toArray⟩,.slice e2 xns.length f2,.slice e3 xl.length f3] 31));obtain⟨⟨x0,x1,x2,x3⟩,-⟩:=Zae (HXW.out _ B6.out);clear hown6 hg6 hat6 hlt6;go_upto_region 8 with (first | (at_builtin;refine wpList_append_lies _ rfl (.tmp 42) (.tmp 44) 29 rfl W3.heap.size 31 i9 _ 4 72 Tryz.underlying29 hi9 hz9 hy9 hw9 rfl (by decide) v5 i pt rfl RT7a.out ⟨W6.heap.size,0,none⟩ 1 1 [.int .i64 xk,.string ⟨xn.toArray⟩,.slice e2 xns.length f2,.slice e3 xl.length f3] rfl rfl (fun j u hu=>HNB7.out j u hu) HX.out.one (by decide) hmx2 hmb4 (by rw[World.size_alloc];have:=HZ6.out;omega) (W6.heap.size+1) (World.size_alloc _ _) ?_;intro g7 cap7 W7 hown7 hg7 hat7 hlt7))
   have HO7:=Hd hown7;have B7:=Hd (ZaJ B7a.out (by rw[World.size_alloc];have:=HZ6.out;omega) hg7 (fun b hb=>(RT7a.out.lt b hb).1));have HZ7:=Hd B7.out.size;have RN7:=Hd (Zbl RN7a.out RT7a.out hg7 (by decide));clear x0 x1 x2 x3 hown7 hg7 hat7 hlt7;obtain⟨⟨q0,q1,q2,q3⟩,-⟩:=Zae (HTW.out _ B7.out);have hmx3:i+1+(fs.length-i)≤maxLen:=by unfold maxLen;omega
   have hmb5:(i+1+(fs.length-i))*16≤140737488355328:=by omega
   have hmb6:(i+1+(fs.length-i))*72≤140737488355328:=by omega
   have B7d:=Hd B7.out.drew;obtain⟨ad2,hAD2,hNW2⟩:∃ad:Addr,(if c2=i then some (⟨g2,0,none⟩:Addr) else some ⟨g2,i,none⟩)=some ad∧Hid (∀W:World,Below W3.heap.size W3 W→∀j u,qn[j]?=some u→W.cell? (ad.add j)=some u):=by
    by_cases hc:c2=i
    ·refine⟨_,if_pos hc,fun W h j u hu=>?_⟩;have:=(List.getElem?_eq_some_iff.1 hu).1;have:=HQN.out;omega
    ·exact⟨_,if_neg hc,fun W h=>Zep (HRN.out _ h) HPN.out⟩
   obtain⟨ad3,hAD3,hNW3⟩:∃ad:Addr,(if c3=i then some (⟨g3,0,none⟩:Addr) else some ⟨g3,i*4,none⟩)=some ad∧Hid (∀W:World,Below W3.heap.size W3 W→∀j u,qt[j]?=some u→W.cell? (ad.add j)=some u):=by
    by_cases hc:c3=i
    ·refine⟨_,if_pos hc,fun W h j u hu=>?_⟩;have:=(List.getElem?_eq_some_iff.1 hu).1;have:=HQT.out;omega
    ·exact⟨_,if_neg hc,fun W h=>Zep (HRT.out _ h) HPT.out⟩
   have RN7d:=Hd (ZaM RN7.out (Below.refl _ _).drew);have RT7d:=Hd (ZaM HO7.out (Below.refl _ _).drew);have HA2:=Hd hAD2;have HA3:=Hd hAD3;clear hAD2 hAD3;go_region_law
    (first
     | (refine Zb0 rfl (.tmp 46) (.tmp 50) 23 rfl W3.heap.size 9 i0 _ 1 16 Tryz.underlying23 hi hz0 hz1 hz2 rfl (by decide) (.slice (some ⟨g6,0,none⟩) (i+1) cap6) (i+1) (pn++[.string ⟨nm.toArray⟩]) rfl RN7d.out ad2 (fs.length-i) (c2-i) qn (congrArg (fun z=>Value.slice z (fs.length-i) (c2-i)) HA2.out) (by rw[HQN.out,Nat.mul_one]) (hNW2.out _ B7d.out) IQ.out.one hmx3 hmb5 B7d.out.size ?_;intro v8 W8 hown8 hg8;obtain⟨g8,cap8,rfl,-,-⟩:=hown8.form (Nat.add_pos_left (Nat.succ_pos _) _);(have HO8:=Hd hown8);(have B8:=Hd (ZaJ B7d.out B7d.out.size hg8 (fun b hb=>(RN7d.out.lt b hb).1)));(have RT8:=Hd (Zbl RT7d.out RN7d.out hg8 (by decide)));obtain⟨⟨y0,y1,y2,y3⟩,-⟩:=Zae (HTW.out _ B8.out);clear hown8 hg8)
     | (refine Zb0 rfl (.tmp 52) (.tmp 56) 29 rfl W3.heap.size 31 i9 _ 4 72 Tryz.underlying29 hi9 hz9 hy9 hw9 rfl (by decide) (.slice (some ⟨g7,0,none⟩) (i+1) cap7) (i+1) _ rfl RT8.out ad3 (fs.length-i) (c3-i) qt (congrArg (fun z=>Value.slice z (fs.length-i) (c3-i)) HA3.out) HQT.out (hNW3.out _ B8.out) JQ.out.one hmx3 hmb6 B8.out.size ?_;intro v9 W9 hown9 hg9;obtain⟨g9,cap9,rfl,-,-⟩:=hown9.form (Nat.add_pos_left (Nat.succ_pos _) _);(have HO9:=Hd hown9);(have B9:=Hd (ZaJ B8.out B8.out.size hg9 (fun b hb=>(RT8.out.lt b hb).1)));(have RN9:=Hd (Zbl HO8.out RT8.out hg9 (by decide)));(have HZ9:=Hd (show Fou W9 (w.heap.size+2) 31 (.int .i64 0) (.string ⟨#[]⟩) (.slice none 0 0) (.slice none 0 0) from (B9.out.block _ (by have:=HS3.out;omega)).trans HZ3.out));obtain⟨⟨z0,z1,z2,z3⟩,t0,t1,t2,t3⟩:=Zae HZ9.out;clear hown9 hg9))
   all_goals
    rename_i hKK;refine hKK _ _ (wp_ret ?_);change bodyPost Tryz.prog _ (fun e w'=>Below w.heap.size w w'∧∃cs,e=.returned (.agg cs.toArray)∧IsCs (fun b=>(A b∧b<w.heap.size)∨w.heap.size≤b) w' (encT 31 (rowT (insT fs nm (PT.mk xk xn xns xl)))) cs) Exit.ret _ _;exact Zn7 (R:=fun e w'=>Below w.heap.size w w'∧∃cs,e=.returned (.agg cs.toArray)∧IsCs (fun b=>(A b∧b<w.heap.size)∨w.heap.size≤b) w' (encT 31 (rowT (insT fs nm (PT.mk xk xn xns xl)))) cs) rfl rfl rfl (ZcA HZ9.out (.int .i64 5) (.string ⟨#[]⟩) (.slice (some ⟨g8,0,none⟩) (i+1+(fs.length-i)) cap8) (.slice (some ⟨g9,0,none⟩) (i+1+(fs.length-i)) cap9)) (Zed HIL.out HIN.out B3.out B9.out HS3.out IP.out IQ.out JP.out JQ.out HX.out RN9.out HO9.out)
theorem Zc0{P:Program}{ops:Array Oper}{o:Oper}{a:Act}{w:World}{K:Act→World→Prop}{Q:Exit→Act→World→Prop}{E:Prop}(hgd:o.guard=none)(s x:Operand)(t:TypeId)
  (ho:o.op=.call { callee:=.builtin .append,args:=#[s,x],argTypes:=#[t,t] })
  (base:Nat) (e:TypeId) (i:TypeInfo) (size:Nat) (ht:P.underlying t=some (.slice e)) (hi:P.info? e=some i)
  (v:Value) (n:Nat) (xs:List Value) (hs:a.eval s=v) (hown:w.ownsRow base e size v n xs) (hx:a.eval x=.slice none 0 0)
  (h:K (a.put o.dst v) w):if Region.wanted o (yielded ops a.tmps)=true then Oper.wp P o a w K Q else E:=by
 have hw:Region.wanted o (yielded ops a.tmps)=true:=by simp[Region.wanted,hgd]
 rw[if_pos hw];have hrun:=run_append_owned_none (P:=P) (w:=w) base t o.type e i size ht hi v n xs hown;unfold Oper.wp;simp[execOp,ho,resolve,invoke,builtin,hs,hx,hrun,Result.andThen];exact h
theorem Zjs (nm:Bs)(x:PT)(A:Nat→Prop)(w:World)(vx:List Value)(hx:IsCs A w (encT 31 x) vx) :
  Calls Tryz.prog 167 #[.agg #[.int .i64 5,.string ⟨#[]⟩,.slice none 0 0,.slice none 0 0],.string ⟨nm.toArray⟩,.agg vx.toArray] w fun e w'=>Below w.heap.size w w'∧∃cs,e=.returned (.agg cs.toArray)∧IsCs (fun b=>(A b∧b<w.heap.size)∨w.heap.size≤b) w' (encT 31 (rowT (insT [] nm x))) cs:=by
 obtain⟨xk,xn,xns,xl⟩:=x;obtain⟨z2,z3,rfl,y2,y3⟩:=ZbL hx;obtain⟨ys2,ry2,-,-⟩:=y2.unrow;obtain⟨e2,f2,rfl⟩:=Zag ry2;obtain⟨ys3,ry3,-,-⟩:=y3.unrow;obtain⟨e3,f3,rfl⟩:=Zag ry3;obtain⟨i9,hi9,hz9,hy9,hw9⟩:=info_parts Zk4;obtain⟨i0,hi,hz0,hz1,hz2⟩:=info_parts Zk5;have HX:=Hd hx;clear y2 y3 ry2 ry3 hx;obtain⟨W3,hW3⟩:=eY (((w.alloc (.cells #[.int .i64 5,.string ⟨#[]⟩,.slice none 0 0,.slice none 0 0] 31)).alloc (.cells #[.int .i64 xk,.string ⟨xn.toArray⟩,.slice e2 xns.length f2,.slice e3 xl.length f3] 31)).alloc (.cells #[.int .i64 0,.string ⟨#[]⟩,.slice none 0 0,.slice none 0 0] 31));have HW3:=Hd hW3;have b3:Below w.heap.size w W3:=by rw[←hW3];exact (((Below.refl _ _).alloc (nl _) _).alloc (by simp) _).alloc (by simp;omega) _
 have hT3:Fou W3 w.heap.size 31 (.int .i64 5) (.string ⟨#[]⟩) (.slice none 0 0) (.slice none 0 0):=by rw[←hW3];exact Zab (Zab (hN w _) _) _
 have hX3:Fou W3 (w.heap.size+1) 31 (.int .i64 xk) (.string ⟨xn.toArray⟩) (.slice e2 xns.length f2) (.slice e3 xl.length f3):=by
  rw[←hW3];have:=hN (w.alloc (.cells #[.int .i64 5,.string ⟨#[]⟩,.slice none 0 0,.slice none 0 0] 31)) (.cells #[.int .i64 xk,.string ⟨xn.toArray⟩,.slice e2 xns.length f2,.slice e3 xl.length f3] 31);rw[World.size_alloc] at this;exact Zab this _
 have hZ3:Fou W3 (w.heap.size+2) 31 (.int .i64 0) (.string ⟨#[]⟩) (.slice none 0 0) (.slice none 0 0):=by
  rw[←hW3];have:=hN ((w.alloc (.cells #[.int .i64 5,.string ⟨#[]⟩,.slice none 0 0,.slice none 0 0] 31)).alloc (.cells #[.int .i64 xk,.string ⟨xn.toArray⟩,.slice e2 xns.length f2,.slice e3 xl.length f3] 31)) (.cells #[.int .i64 0,.string ⟨#[]⟩,.slice none 0 0,.slice none 0 0] 31);rw[World.size_alloc,World.size_alloc] at this;exact this
 have B3:=Hd b3;have HT3:=Hd hT3;have HX3:=Hd hX3;have HZ3:=Hd hZ3;have hs3:w.heap.size+3≤W3.heap.size:=by have:=(gE hZ3).1;omega
 have HS3:=Hd hs3;have HTW:Hid (∀W:World,Below W3.heap.size W3 W→Fou W w.heap.size 31 (.int .i64 5) (.string ⟨#[]⟩) (.slice none 0 0) (.slice none 0 0)):=fun W h=>(h.block _ (by have:=HS3.out;omega)).trans HT3.out
 have HXW:Hid (∀W:World,Below W3.heap.size W3 W→Fou W (w.heap.size+1) 31 (.int .i64 xk) (.string ⟨xn.toArray⟩) (.slice e2 xns.length f2) (.slice e3 xl.length f3)):=fun W h=>(h.block _ (by have:=HS3.out;omega)).trans HX3.out
 have B4:=Hd ((Below.refl W3.heap.size W3).alloc (nl _) (.cells #[] 9));have B5:=Hd (B4.out.alloc (by simp) (.cells #[] 31));obtain⟨⟨p0,p1,p2,p3⟩,-⟩:=Zae hT3;obtain⟨⟨q0,q1,q2,q3⟩,-⟩:=Zae (HTW.out _ B4.out);obtain⟨⟨y0,y1,y2,y3⟩,-⟩:=Zae (HTW.out _ B5.out);clear hW3 b3 hT3 hX3 hZ3 hs3;go_enter Tryz.func167,Tryz.ntmps167
 go_upto_region 1 with fail
 rw[HW3.out];go_wp2_with fail
 go_loop [7] (fun s7=>s7=.int .i64 0) (fun s7=>0)
 case atStart=>rfl
 case round=>
  subst hrel;go_upto_region 6 with fail
  obtain⟨W5,hW5⟩:=eY ((W3.alloc (.cells #[] 9)).alloc (.cells #[] 31));have OWNn:=Hd (show W5.ownsRow W3.heap.size 9 1 (.slice (some ⟨W3.heap.size,0,none⟩) 0 0) 0 [] by rw[←hW5];exact (World.ownsRow_lit (e:=9) (size:=1) (base:=W3.heap.size) W3 #[] 0 (nl _) (Nat.zero_le _) rfl).alloc _);have OWNt:=Hd (show W5.ownsRow W3.heap.size 31 4 (.slice (some ⟨W3.heap.size+1,0,none⟩) 0 0) 0 [] by
   rw[←hW5];have:=World.ownsRow_lit (e:=31) (size:=4) (base:=W3.heap.size) (W3.alloc (.cells #[] 9)) #[] 0 (by simp) (Nat.zero_le _) rfl;rw[World.size_alloc] at this;exact this)
  rw[hW5] at B5⊢;have HZ5:=Hd B5.out.size;have B6a:=Hd (B5.out.alloc HZ5.out (.cells #[.string ⟨nm.toArray⟩] 9));have HNB6:=Hd (World.news_of_block (hN W5 (.cells #[.string ⟨nm.toArray⟩] 9)));have RN6a:=Hd (OWNn.out.alloc (.cells #[.string ⟨nm.toArray⟩] 9));clear hW5 p0 p1 p2 p3 q0 q1 q2 q3 y0 y1 y2 y3;go_upto_region 7 with (first | (at_builtin;refine wpList_append_lies _ rfl (.tmp 38) (.tmp 40) 23 rfl W3.heap.size 9 i0 _ 1 16 Tryz.underlying23 hi hz0 hz1 hz2 rfl (by decide) _ 0 [] rfl RN6a.out ⟨W5.heap.size,0,none⟩ 1 1 [.string ⟨nm.toArray⟩] rfl rfl (fun j u hu=>HNB6.out j u hu) (by simp[Value.oneCell']) (by decide) (by decide) (by decide) (by rw[World.size_alloc];have:=HZ5.out;omega) (W5.heap.size+1) (World.size_alloc _ _) ?_;intro g6 cap6 W6 hown6 hg6 hat6 hlt6))
  simp only[Nat.zero_add,List.nil_append] at hown6;have HO6:=Hd hown6;have B6:=Hd (ZaJ B6a.out (by rw[World.size_alloc];have:=HZ5.out;omega) hg6 (fun b hb=>(RN6a.out.lt b hb).1));have HZ6:=Hd B6.out.size;have RT6:=Hd (Zbl (OWNt.out.alloc (.cells #[.string ⟨nm.toArray⟩] 9)) RN6a.out hg6 (by decide));have B7a:=Hd (B6.out.alloc HZ6.out (.cells #[.int .i64 xk,.string ⟨xn.toArray⟩,.slice e2 xns.length f2,.slice e3 xl.length f3] 31));have HNB7:=Hd (World.news_of_block (hN W6 (.cells #[.int .i64 xk,.string ⟨xn.toArray⟩,.slice e2 xns.length f2,.slice e3 xl.length f3] 31)));have RT7a:=Hd (RT6.out.alloc (.cells #[.int .i64 xk,.string ⟨xn.toArray⟩,.slice e2 xns.length f2,.slice e3 xl.length f3] 31));have RN7a:=Hd (HO6.out.alloc (.cells #[.int .i64 xk,.string ⟨xn.toArray⟩,.slice e2 xns.length f2,.slice e3 xl.length f3] 31));obtain⟨⟨x0,x1,x2,x3⟩,-⟩:=Zae (HXW.out _ B6.out);clear hown6 hg6 hat6 hlt6;go_upto_region 8 with (first | (at_builtin;refine wpList_append_lies _ rfl (.tmp 42) (.tmp 44) 29 rfl W3.heap.size 31 i9 _ 4 72 Tryz.underlying29 hi9 hz9 hy9 hw9 rfl (by decide) _ 0 [] rfl RT7a.out ⟨W6.heap.size,0,none⟩ 1 1 [.int .i64 xk,.string ⟨xn.toArray⟩,.slice e2 xns.length f2,.slice e3 xl.length f3] rfl rfl (fun j u hu=>HNB7.out j u hu) HX.out.one (by decide) (by decide) (by decide) (by rw[World.size_alloc];have:=HZ6.out;omega) (W6.heap.size+1) (World.size_alloc _ _) ?_;intro g7 cap7 W7 hown7 hg7 hat7 hlt7))
  simp only[Nat.zero_add,List.nil_append] at hown7;have HO7:=Hd hown7;have B7:=Hd (ZaJ B7a.out (by rw[World.size_alloc];have:=HZ6.out;omega) hg7 (fun b hb=>(RT7a.out.lt b hb).1));have RN7:=Hd (Zbl RN7a.out RT7a.out hg7 (by decide));clear x0 x1 x2 x3 hown7 hg7 hat7 hlt7;obtain⟨⟨q0,q1,q2,q3⟩,-⟩:=Zae (HTW.out _ B7.out);have HZ7:=Hd (show Fou W7 (w.heap.size+2) 31 (.int .i64 0) (.string ⟨#[]⟩) (.slice none 0 0) (.slice none 0 0) from (B7.out.block _ (by have:=HS3.out;omega)).trans HZ3.out);obtain⟨⟨z0,z1,z2,z3⟩,t0,t1,t2,t3⟩:=Zae HZ7.out;have RN7d:=Hd (ZaM RN7.out (Below.refl _ _).drew);have RT7d:=Hd (ZaM HO7.out (Below.refl _ _).drew);go_region_law
   (first
    | (refine Zc0 rfl (.tmp 46) (.tmp 50) 23 rfl W3.heap.size 9 i0 1 Tryz.underlying23 hi (.slice (some ⟨g6,0,none⟩) 1 cap6) 1 [.string ⟨nm.toArray⟩] rfl RN7d.out rfl ?_)
    | (refine Zc0 rfl (.tmp 52) (.tmp 56) 29 rfl W3.heap.size 31 i9 4 Tryz.underlying29 hi9 (.slice (some ⟨g7,0,none⟩) 1 cap7) 1 [.int .i64 xk,.string ⟨xn.toArray⟩,.slice e2 xns.length f2,.slice e3 xl.length f3] rfl RT7d.out rfl ?_))
  all_goals
   rename_i hKK;refine hKK _ _ (wp_ret ?_);obtain⟨E1,cs,E2,E3⟩:=Zed (fs:=[]) (i:=0) (nm:=nm) (x:=.mk xk xn xns xl) (A:=A) (w:=w) (W3:=W3) (W9:=W7) (pn:=[]) (qn:=[]) (pt:=[]) (qt:=[]) (g8:=g6) (cap8:=cap6) (g9:=g7) (cap9:=cap7) (nl _) rfl B3.out B7.out HS3.out (.nil _ _) (.nil _ _) (by simpa[Zau] using IsCs.nil A w) (by simpa[Zau] using IsCs.nil A w) HX.out RN7.out HO7.out;exact Zn7 (w:=(putL W7 (w.heap.size+2) [.int .i64 5,.string ⟨#[]⟩,.slice (some ⟨g6,0,none⟩) 1 cap6,.slice (some ⟨g7,0,none⟩) 1 cap7]).drew) (R:=fun e w'=>Below w.heap.size w w'∧∃cs,e=.returned (.agg cs.toArray)∧IsCs (fun b=>(A b∧b<w.heap.size)∨w.heap.size≤b) w' (encT 31 (rowT (insT [] nm (PT.mk xk xn xns xl)))) cs) rfl rfl rfl (show Fou (putL W7 (w.heap.size+2) [.int .i64 5,.string ⟨#[]⟩,.slice (some ⟨g6,0,none⟩) 1 cap6,.slice (some ⟨g7,0,none⟩) 1 cap7]).drew _ _ _ _ _ _ from ZcA HZ7.out (.int .i64 5) (.string ⟨#[]⟩) (.slice (some ⟨g6,0,none⟩) 1 cap6) (.slice (some ⟨g7,0,none⟩) 1 cap7)) ⟨E1.drew,cs,E2,E3.below ((Below.refl _ _).drew)⟩
end Go.Proofs.YtijnjoonbjdafaaGreatDoor

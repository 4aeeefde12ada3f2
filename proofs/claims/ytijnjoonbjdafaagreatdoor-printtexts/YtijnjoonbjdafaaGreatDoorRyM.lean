import Derived.Test.YtijnjoonbjdafaaGreatDoorRzM
namespace Go.Proofs.YtijnjoonbjdafaaGreatDoor
set_option maxHeartbeats 20000000
set_option maxRecDepth 20000
open Go.RowKit Go.Shelf
def wd4 (i:Nat):Bs:=if i=0 then [105,110,116] else if i=1 then [98,111,111,108] else if i=2 then [116,101,120,116] else [63]
theorem ZkF{typ:Q→PT×Q}{s:Q}(h:s.bad=true):Zbx typ s=(qT0,s):=by unfold Zbx;rw[if_pos h]
theorem Zji{typ:Q→PT×Q}{s:Q}(hb:s.bad=false)(hk:(hd s.ts).k=1):Zbx typ s=(.mk 8 (hd s.ts).t [] [],s.next):=by
 unfold Zbx;rw[if_neg (by simp[hb]),if_pos hk]
theorem Ze8{m m':Bs}{s:Q}(h:s.is m=true)(hne:m≠m'):s.is m'=false:=by
 obtain⟨hb,hi⟩:=ZfG h;simp[Q.is,hb,ZoK hi hne]
theorem Zjh{typ:Q→PT×Q}{s:Q}{i:Nat}(hb:s.bad=false)(hk:¬(hd s.ts).k=1)(hi:i<4)(hw:s.is (wd4 i)=true):Zbx typ s=(.mk (i+1) [] [] [],s.take (wd4 i)):=by
 unfold Zbx;rw[if_neg (by simp[hb]),if_neg hk];have h4:i=0∨i=1∨i=2∨i=3:=by omega
 rcases h4 with rfl | rfl | rfl | rfl
 ·simp only[wd4,if_true] at hw⊢;rw[if_pos hw];rfl
 ·have hw:s.is [98,111,111,108]=true:=hw;rw[Ze8 (m':=[105,110,116]) hw (by decide),if_neg (by decide),if_pos hw];rfl
 ·have hw:s.is [116,101,120,116]=true:=hw;rw[Ze8 (m':=[105,110,116]) hw (by decide),if_neg (by decide),Ze8 (m':=[98,111,111,108]) hw (by decide),if_neg (by decide),if_pos hw];rfl
 ·have hw:s.is [63]=true:=hw;rw[Ze8 (m':=[105,110,116]) hw (by decide),if_neg (by decide),Ze8 (m':=[98,111,111,108]) hw (by decide),if_neg (by decide),Ze8 (m':=[116,101,120,116]) hw (by decide),if_neg (by decide),if_pos hw];rfl
theorem ZfB{typ:Q→PT×Q}{s:Q}(hb:s.bad=false)(hk:¬(hd s.ts).k=1)(hw:∀i,i<4→s.is (wd4 i)=false) :
  Zbx typ s=if s.is [123] then recS typ (s.take [123]) else if (s.take [40]).bad then (qT0,s.take [40]) else ((typ (s.take [40])).1,(typ (s.take [40])).2.take [41]):=by
 have h0:s.is [105,110,116]=false:=hw 0 (by decide);have h1:s.is [98,111,111,108]=false:=hw 1 (by decide);have h2:s.is [116,101,120,116]=false:=hw 2 (by decide);have h3:s.is [63]=false:=hw 3 (by decide);unfold Zbx;simp only[hb,hk,h0,h1,h2,h3,ff,if_false]
theorem ZeN (m:Bs)(s:Q):(s.take m).ts.length≤s.ts.length:=by
 unfold Q.take;split
 ·show s.ts.tail.length≤_;rw[List.length_tail];omega
 ·rw[ZhY];exact nl _
theorem Zb5 (s:Q):s.comma.ts.length≤s.ts.length:=by
 unfold Q.comma;split
 ·exact nl _
 ·split
  ·rw[ZhY];exact ZeN _ _
  ·exact ZeN _ _
theorem Zk8{sg:Bs}{s:Q}(hb:s.bad=false)(h:(s.head sg).2.bad=false):s.head sg=(hd s.ts,⟨s.ts.tail.tail,s.nd,false⟩)∧s.ts.tail.tail.length+2=s.ts.length:=by
 obtain⟨ts,nd,b⟩:=s;have hb:b=false:=hb;subst hb;unfold Q.head at h⊢;by_cases hk:(hd ts).k=1
 ·have hq:(Q.mk ts nd false).name=(hd ts,⟨ts.tail,nd,false⟩):=by simp[Q.name,hk,Q.next]
  rw[hq] at h⊢;cases hsg:isM sg ts.tail with
  | true=>
   rw[Za3 hsg];refine⟨rfl,?_⟩;have h1:=Zk3 hsg;have h2:(Q.mk ts nd false).ts.tail.tail.length=ts.length-1-1:=by simp
   simp only[List.length_tail] at h1;show ts.tail.tail.length+2=ts.length;rw[List.length_tail,List.length_tail];omega
  | false=>
   rw[ZeM hsg] at h;cases h
 ·have hq:(Q.mk ts nd false).name=(zTk,⟨ts,nd+1,true⟩):=by simp[Q.name,hk,Q.give]
  rw[hq] at h;have:((Q.mk ts (nd+1) true).take sg)=_:=Zax rfl;rw[this] at h;cases h
def recO (typ:Q→PT×Q)(n:Nat)(fs:List (Bs×PT))(s:Q):PT×Q:=rowS rowT qT0 (clsS (fldS [58] typ insT n fs s))
theorem Zko{typ:Q→PT×Q}{n:Nat}{fs:List (Bs×PT)}{s:Q}(h:s.bad=true∨s.is [125]=true):recO typ n fs s=(rowT fs,s.take [125]):=by
 have:fldS [58] typ insT n fs s=(some fs,s):=by
  cases n with
  | zero=>rfl
  | succ n=>
   unfold fldS;rw[if_pos];rcases h with h | h<;>simp[h]
 unfold recO;rw[this];rfl
theorem Zme{typ:Q→PT×Q}{n:Nat}{fs:List (Bs×PT)}{s:Q}(hb:s.bad=false)(h5:s.is [125]=false)(h:(s.head [58]).2.bad=true):recO typ (n+1) fs s=(qT0,(s.head [58]).2):=by
 unfold recO fldS;rw[if_neg (by simp[hb,h5]),if_pos h];rfl
theorem Zkm{typ:Q→PT×Q}{n:Nat}{fs:List (Bs×PT)}{s:Q}(hb:s.bad=false)(h5:s.is [125]=false)(h:(s.head [58]).2.bad=false)(hm:(s.head [58]).1.t∈fs.map (·.1)):recO typ (n+1) fs s=recO typ n fs (typ (s.head [58]).2.more).2.comma:=by
 unfold recO;rw[fldS,if_neg (by simp[hb,h5]),if_neg (by simp[h]),if_pos hm]
theorem Zmd{typ:Q→PT×Q}{n:Nat}{fs:List (Bs×PT)}{s:Q}(hb:s.bad=false)(h5:s.is [125]=false)(h:(s.head [58]).2.bad=false)(hm:¬(s.head [58]).1.t∈fs.map (·.1)):recO typ (n+1) fs s=recO typ n (insT fs (s.head [58]).1.t (typ (s.head [58]).2).1) (typ (s.head [58]).2).2.comma:=by
 unfold recO;rw[fldS,if_neg (by simp[hb,h5]),if_neg (by simp[h]),if_neg hm]
theorem Zfa (fs:List (Bs×PT))(n:Bs)(x:PT):(insT fs n x).length=fs.length+1:=by
 have:=(ZcN (n,x) fs).length_eq
 simpa[insT] using this
structure RcQ (typ:Q→PT×Q)(B M rb:Nat)(all:List Tk)(w wr:World)(hx:Nat)(out:PT×Q)(fs:List (Bs×PT))(sk nx:Q)(n:Nat)(a2 a3:Option Addr)(c2 c3:Nat):Prop where
 un:recO typ n fs nx=out
 fuel:sk.ts.length≤n
 many:fs.length+sk.ts.length≤1000000
 qs:QS B M wr rb all sk
 fr:Fr B w wr
 res:Fou wr w.heap.size 31 (.int .i64 0) (.string ⟨#[]⟩) (.slice none 0 0) (.slice none 0 0)
 own:Fou wr hx 31 (.int .i64 5) (.string ⟨#[]⟩) (.slice a2 fs.length c2) (.slice a3 fs.length c3)
 cs:IsCs (fun b=>w.heap.size<b∧b≠hx) wr (encT 31 (rowT fs)) [.int .i64 5,.string ⟨#[]⟩,.slice a2 fs.length c2,.slice a3 fs.length c3]
 no:fs.length=0→a2=none∧c2=0∧a3=none∧c3=0
 rbw:rb<w.heap.size
 hxw:w.heap.size<hx
theorem RcQ.fin{typ:Q→PT×Q}{B M rb:Nat}{all:List Tk}{w wr w':World}{hx:Nat}{out:PT×Q}{fs:List (Bs×PT)}{sk s':Q}{n:Nat}{a2 a3:Option Addr}{c2 c3:Nat}(h:RcQ typ B M rb all w wr hx out fs sk sk.comma n a2 a3 c2 c3)(hF:Fr B wr w')(hq:QS B M w' rb all s')(hs:s'=sk.comma) :
  RcQ typ B M rb all w w' hx out fs s' s' n a2 a3 c2 c3:=by
 subst hs;have hle:=Zb5 sk;exact⟨h.un,Nat.le_trans hle h.fuel,by have:=h.many;omega,hq,h.fr.trans hF,hF.cells h.res (by decide),hF.cells h.own (by decide),h.cs.frA hF,h.no,h.rbw,h.hxw⟩
theorem RcQ.frm{typ:Q→PT×Q}{B M rb:Nat}{all:List Tk}{w wr w':World}{hx:Nat}{out:PT×Q}{fs:List (Bs×PT)}{sk nx:Q}{n:Nat}{a2 a3:Option Addr}{c2 c3:Nat}(h:RcQ typ B M rb all w wr hx out fs sk nx n a2 a3 c2 c3)(hF:Fr B wr w') :
  Fou w' w.heap.size 31 (.int .i64 0) (.string ⟨#[]⟩) (.slice none 0 0) (.slice none 0 0)∧Fou w' hx 31 (.int .i64 5) (.string ⟨#[]⟩) (.slice a2 fs.length c2) (.slice a3 fs.length c3)∧IsCs (fun b=>w.heap.size<b∧b≠hx) w' (encT 31 (rowT fs)) [.int .i64 5,.string ⟨#[]⟩,.slice a2 fs.length c2,.slice a3 fs.length c3]∧Fr B w w':=
 ⟨hF.cells h.res (by decide),hF.cells h.own (by decide),h.cs.frA hF,h.fr.trans hF⟩
theorem RcQ.bel{typ:Q→PT×Q}{B M rb:Nat}{all:List Tk}{w wr w':World}{hx:Nat}{out:PT×Q}{fs:List (Bs×PT)}{sk nx:Q}{n:Nat}{a2 a3:Option Addr}{c2 c3:Nat}(h:RcQ typ B M rb all w wr hx out fs sk nx n a2 a3 c2 c3)(hb:Below wr.heap.size wr w'):RcQ typ B M rb all w w' hx out fs sk nx n a2 a3 c2 c3:=
 ⟨h.un,h.fuel,h.many,h.qs.below hb,h.fr.below hb,(hb.block _ (gE h.res).1).trans h.res,(hb.block _ (gE h.own).1).trans h.own,h.cs.below hb,h.no,h.rbw,h.hxw⟩
theorem RcQ.names{A:Nat→Prop}{w:World}{fs:List (Bs×PT)}{v2 v3:Value}(h:IsCs A w (encT 31 (rowT fs)) [.int .i64 5,.string ⟨#[]⟩,v2,v3]):Sub A w ((fs.map (·.1)).map .str) (fs.map (·.1)).length v2:=by
 rw[rowT] at h;obtain⟨u2,u3,e,k2,k3⟩:=ZbL h;simp only[List.cons.injEq,and_true,true_and] at e;obtain⟨-,rfl,rfl⟩:=e;exact Sub.of_row k2 (by simp)
theorem Zjt (fs:List (Bs×PT))(hsz:fs.length≤1000000)(nm:Bs)(x:PT)(A:Nat→Prop)(w:World)(a2 a3:Option Addr)(c2 c3:Nat)(vx:List Value)(ht:IsCs A w (encT 31 (rowT fs)) [.int .i64 5,.string ⟨#[]⟩,.slice a2 fs.length c2,.slice a3 fs.length c3])(h0:fs.length=0→a2=none∧c2=0∧a3=none∧c3=0)(hx:IsCs A w (encT 31 x) vx) :
  Calls Tryz.prog 167 #[.agg #[.int .i64 5,.string ⟨#[]⟩,.slice a2 fs.length c2,.slice a3 fs.length c3],.string ⟨nm.toArray⟩,.agg vx.toArray] w fun e w'=>Below w.heap.size w w'∧∃b2 d2 b3 d3,e=.returned (.agg #[.int .i64 5,.string ⟨#[]⟩,.slice b2 (fs.length+1) d2,.slice b3 (fs.length+1) d3])∧IsCs (fun b=>(A b∧b<w.heap.size)∨w.heap.size≤b) w' (encT 31 (rowT (insT fs nm x))) [.int .i64 5,.string ⟨#[]⟩,.slice b2 (fs.length+1) d2,.slice b3 (fs.length+1) d3]:=by
 have hgo:∀(e:Ending) (w':World),(Below w.heap.size w w'∧∃cs,e=.returned (.agg cs.toArray)∧IsCs (fun b=>(A b∧b<w.heap.size)∨w.heap.size≤b) w' (encT 31 (rowT (insT fs nm x))) cs)→(Below w.heap.size w w'∧∃b2 d2 b3 d3,e=.returned (.agg #[.int .i64 5,.string ⟨#[]⟩,.slice b2 (fs.length+1) d2,.slice b3 (fs.length+1) d3])∧IsCs (fun b=>(A b∧b<w.heap.size)∨w.heap.size≤b) w' (encT 31 (rowT (insT fs nm x))) [.int .i64 5,.string ⟨#[]⟩,.slice b2 (fs.length+1) d2,.slice b3 (fs.length+1) d3]):=by
  rintro e w' ⟨hb,cs,he,hcs⟩;refine⟨hb,?_⟩;have hl:=Zfa fs nm x;have hcs':=hcs;rw[rowT] at hcs;obtain⟨v2,v3,rfl,k2,k3⟩:=ZbL hcs;rw[List.length_map,hl] at k2 k3;obtain⟨_,r2,-,-⟩:=k2.unrow;obtain⟨b2,d2,rfl⟩:=Zag r2;obtain⟨_,r3,-,-⟩:=k3.unrow;obtain⟨b3,d3,rfl⟩:=Zag r3;exact⟨b2,d2,b3,d3,he,hcs'⟩
 by_cases hn:fs.length=0
 ·obtain⟨rfl,rfl,rfl,rfl⟩:=h0 hn;obtain rfl:fs=[]:=List.eq_nil_of_length_eq_zero hn;exact (Zjs nm x A w vx hx).mono hgo
 ·exact (ZhT fs hsz hn nm x A w _ vx ht hx).mono hgo
theorem Zcg{f B M rb d:Nat}{all:List Tk}{g:Q→PT×Q}(HT:RdsT f B M rb all d g)(w:World)(s:Q)(h:QS B M w rb all s)(k:Nat)(n:Bs)(ns:List Bs)(l:List PT)(s8:Q)(hp:(PT.mk k n ns l,s8)=g s) :
  Calls Tryz.prog f #[.pointer (some ⟨rb,0,none⟩),.int .i64 d] w fun e w'=>∃a2 c2 a3 c3,e=.returned (.agg #[.int .i64 k,.string ⟨n.toArray⟩,.slice a2 ns.length c2,.slice a3 l.length c3])∧Fr B w w'∧IsCs (fun b=>w.heap.size≤b) w' (encT 31 (.mk k n ns l)) [.int .i64 k,.string ⟨n.toArray⟩,.slice a2 ns.length c2,.slice a3 l.length c3]∧QS B M w' rb all s8:=by
 refine (HT w s h).mono ?_;rw[←hp];rintro e w' ⟨f8,⟨cs8,he,i8⟩,q8⟩;have i8':IsCs (fun b=>w.heap.size≤b) w' (encT 31 (.mk k n ns l)) cs8:=i8;obtain⟨v2',v3',hcs,k2,k3⟩:=ZbL i8';obtain⟨_,r2,-,-⟩:=k2.unrow;obtain⟨a2',c2',rfl⟩:=Zag r2;obtain⟨_,r3,-,-⟩:=k3.unrow;obtain⟨a3',c3',rfl⟩:=Zag r3;subst hcs;exact⟨a2',c2',a3',c3',he,f8,i8',q8⟩
theorem RcQ.twice{typ:Q→PT×Q}{B M rb:Nat}{all:List Tk}{w wr w':World}{hx:Nat}{out:PT×Q}{fs:List (Bs×PT)}{sk nx s8:Q}{n n':Nat}{a2 a3:Option Addr}{c2 c3:Nat}(h:RcQ typ B M rb all w wr hx out fs sk nx n a2 a3 c2 c3)(hF:Fr B wr w')(hq:QS B M w' rb all s8)(hun:recO typ n' fs s8.comma=out)(hle:s8.ts.length+2≤sk.ts.length)(hn:n=n'+1) :
  RcQ typ B M rb all w w' hx out fs s8 s8.comma n' a2 a3 c2 c3:=
 ⟨hun,by have:=h.fuel;omega,by have:=h.many;omega,hq,h.fr.trans hF,hF.cells h.res (by decide),hF.cells h.own (by decide),h.cs.frA hF,h.no,h.rbw,h.hxw⟩
theorem RcQ.once{typ:Q→PT×Q}{B M rb:Nat}{all:List Tk}{w wr w' w'':World}{hx:Nat}{out:PT×Q}{fs:List (Bs×PT)}{sk nx s8:Q}{n n':Nat}{a2 a3 b2 b3:Option Addr}{c2 c3 d2 d3:Nat}{nm:Bs}{x:PT}(h:RcQ typ B M rb all w wr hx out fs sk nx n a2 a3 c2 c3)(hF:Fr B wr w')(hq:QS B M w' rb all s8)(hun:recO typ n' (insT fs nm x) s8.comma=out)(hle:s8.ts.length+2≤sk.ts.length)(hn:n=n'+1)
  (hb:Below w'.heap.size w' w'') (hc:IsCs (fun b=>((w.heap.size<b∧b≠hx)∧b<w'.heap.size)∨w'.heap.size≤b) w'' (encT 31 (rowT (insT fs nm x))) [.int .i64 5,.string ⟨#[]⟩,.slice b2 (fs.length+1) d2,.slice b3 (fs.length+1) d3]) :
  RcQ typ B M rb all w (putL w'' hx [.int .i64 5,.string ⟨#[]⟩,.slice b2 (fs.length+1) d2,.slice b3 (fs.length+1) d3]) hx out (insT fs nm x) s8 s8.comma n' b2 b3 d2 d3:=by
 have hl:=Zfa fs nm x;have hown:=hF.cells h.own (by decide);have hxl:=(gE hown).1;have hown2:Fou w'' hx 31 _ _ _ _:=(hb.block _ hxl).trans hown;have hres:Fou w'' w.heap.size 31 _ _ _ _:=(hb.block _ (gE (hF.cells h.res (by decide))).1).trans (hF.cells h.res (by decide));have hw:=h.hxw;have hrb:=h.rbw;refine⟨hun,by have:=h.fuel;omega,by have:=h.many;omega,(hq.below hb).putL hown2 (by decide) (by omega) _,((h.fr.trans hF).below hb).putL (Nat.le_of_lt hw) _,(ZaS hx _ 0 w'' w.heap.size (Nat.ne_of_lt hw)).trans hres,?_,?_,fun h0=>by omega,hrb,hw⟩
 ·rw[hl];exact ZcA hown2 _ _ _ _
 ·rw[hl];exact (hc.mono (A':=fun b=>w.heap.size<b∧b≠hx) (fun b _ hb'=>hb'.elim (fun h=>h.1) (fun h=>⟨by omega,by omega⟩))).putL hx (fun k hk=>hk.2) _
theorem ZeV{B M rb:Nat}{all:List Tk}(d:Nat)(qt:Q→PT×Q)(w:World)(s:Q)(h:QS B M w rb all s)(hA:s.bad=true∨(hd s.ts).k=1) :
  Calls Tryz.prog 134 #[.pointer (some ⟨rb,0,none⟩),.int .i64 d] w (QPT B M w rb all (Zbx qt s)):=by
 have HRB:=Hd h.lt;have HLEN:=Hd h.len;obtain⟨W1,hW1⟩:=eY (zFou w);have a1:=zfou w;rw[hW1] at a1;have HA1:=Hd a1;have F1:=Hd (show Fr B w W1 by rw[←hW1];exact (Fr.refl B w).alloc _);have q1:=(show QS B M W1 rb all s by rw[←hW1];exact h.alloc _);have Q1:=Hd q1;have HS1:=Hd (show W1.heap.size=w.heap.size+1 by rw[←hW1];simp);obtain⟨out,hout⟩:=eX (Zbx qt s);rw[←hout];have HO:=Hd hout;have HW1:=Hd (show w.alloc (.cells #[.int .i64 0,.string ⟨#[]⟩,.slice none 0 0,.slice none 0 0] 31)=W1 from hW1);obtain⟨g,cap,i,vd,h6,hi,hb,hg,c0,c1,c2,-⟩:=q1.first
 obtain⟨⟨p0,p1,p2,p3⟩,f0,f1,f2,f3⟩:=Zae h6;have H6:=Hd h6;obtain⟨⟨tk,ta,tt⟩,ht⟩:∃t,t=hd s.ts:=⟨_,rfl⟩;rw[←ht] at c0 c1 c2;have HTT:=Hd ht;obtain⟨bd,hbd⟩:=eX (s.bad);rw[←hbd] at p3;have HBD:=Hd hbd;obtain⟨⟨d0,d1,d2,d3⟩,e0,e1,e2,e3⟩:=Zae a1;have HRB1:=Hd q1.lt;have hrb1:rb<W1.heap.size:=q1.lt;have n1:¬rb=W1.heap.size:=Nat.ne_of_lt hrb1;have hlt1:w.heap.size<W1.heap.size:=(gE a1).1;have n2:¬w.heap.size=W1.heap.size:=Nat.ne_of_lt hlt1;simp only at c0 c1 c2;clear h hW1 a1 hout q1 h6 hbd ht;go_enter Tryz.func134,Tryz.ntmps134
 go_upto_region 1 with fail
 rw[HW1.out];cases bd with
 | true=>
  have HON:=Hd (show out=(qT0,s) by rw[HO.out,ZkF HBD.out.symm]);clear c0 c1 c2 hA;go_wp2_with fail
  rw[HON.out];exact endT rfl rfl rfl HA1.out F1.out Q1.out HRB.out (Zho _ _ 0 [])
 | false=>
  have HKN:=Hd (show tk=1 from by
   rcases hA with h | h
   ·rw[←HBD.out] at h;cases h
   ·rw[←HTT.out] at h;exact h)
  clear hA;obtain⟨W2,hW2⟩:=eY ((W1.alloc (.cells #[.int .i64 tk,.int .i64 ta,.string ⟨tt.toArray⟩] 96)).drew);have b2:Below W1.heap.size W1 W2:=by rw[←hW2];exact ((Below.refl _ W1).alloc (nl _) _).drew
  have a2:Thr W2 W1.heap.size 96 (.int .i64 tk) (.int .i64 ta) (.string ⟨tt.toArray⟩):=by rw[←hW2];exact ZaI W1 _ _ _ _
  have a12:Fou W2 w.heap.size 31 (.int .i64 0) (.string ⟨#[]⟩) (.slice none 0 0) (.slice none 0 0):=(b2.block _ hlt1).trans HA1.out;have Q2:=Hd (Q1.out.below b2);have F2:=Hd (F1.out.trans (Fr.of_below (n₀:=B) b2));have HA2:=Hd a2;have HA12:=Hd a12;have HW2:=Hd hW2;have h62:=(b2.block rb hrb1).trans H6.out;have H62:=Hd h62;have hlt2:W1.heap.size<W2.heap.size:=(gE a2).1;have HL12:=Hd hlt1;clear hW2 a2 a12 b2 h62;go_upto_region 3 with fail
  go_region
  go_upto_region 4 with fail
  rw[HW2.out];clear p0 p1 p2 p3 f0 f1 f2 f3 d0 d1 d2 d3 e0 e1 e2 e3 c0 c1 c2;obtain⟨⟨t0,t1,t2⟩,-⟩:=Zan HA2.out;by_cases hk:tk=1
  ·have hk1:((tk:Int)==1)=true:=by simp only[beq_iff_eq];omega
   have HON:=Hd (show out=(.mk 8 tt [] [],s.next) by rw[HO.out,Zji HBD.out.symm (by rw[←HTT.out];exact hk),←HTT.out]);have HK:=Hd (show (hd s.ts).k≠6 by rw[←HTT.out];show tk≠6;omega);have HP:=Hd (Q2.out.passed HK.out H62.out);obtain⟨⟨p0,p1,p2,p3⟩,f0,f1,f2,f3⟩:=Zae H62.out;obtain⟨⟨d0,d1,d2,d3⟩,e0,e1,e2,e3⟩:=Zae HA12.out;clear hk;have hrw:¬rb=w.heap.size:=Nat.ne_of_lt HRB.out;have hwr:¬w.heap.size=rb:=fun e=>hrw e.symm
   have hwb:¬W1.heap.size=rb:=fun e=>n1 e.symm
   go_wp2_with fail
   rw[HON.out];have a13:Fou (W2.setCell ⟨rb,1,none⟩ (.int .i64 ((i:Int)+1))) w.heap.size 31 (.int .i64 0) (.string ⟨#[]⟩) (.slice none 0 0) (.slice none 0 0):=(Below.heap_setCell W2 ⟨rb,1,none⟩ _ w.heap.size hwr).trans HA12.out;exact endT rfl rfl rfl a13 (F2.out.trans HP.out.2) HP.out.1 HRB.out (Zho _ _ 8 tt)
  ·exact absurd HKN.out hk
theorem Zhw{B M rb:Nat}{all:List Tk}(hM:M≤10000000)(d:Nat)(hd64:d≤64)(qt:Q→PT×Q)(hqt:∀s,(qt s).2.ts.length≤s.ts.length)(HT:RdsT 45 B M rb all (d+1) qt)(w:World)(s:Q)(h:QS B M w rb all s)(hb0:s.bad=false)(hk0:¬(hd s.ts).k=1)(hw0:∃m,m<4∧s.is (wd4 m)=true) :
  Calls Tryz.prog 134 #[.pointer (some ⟨rb,0,none⟩),.int .i64 d] w (QPT B M w rb all (Zbx qt s)):=by
 have HNB:=Hd (show ¬s.bad=true by rw[hb0];decide);have HNK:=Hd hk0;have HW0:=Hd hw0;clear hb0 hk0 hw0;have HRB:=Hd h.lt;have HLEN:=Hd h.len;obtain⟨W1,hW1⟩:=eY (zFou w);have a1:=zfou w;rw[hW1] at a1;have HA1:=Hd a1;have F1:=Hd (show Fr B w W1 by rw[←hW1];exact (Fr.refl B w).alloc _);have q1:=(show QS B M W1 rb all s by rw[←hW1];exact h.alloc _);have Q1:=Hd q1;have HS1:=Hd (show W1.heap.size=w.heap.size+1 by rw[←hW1];simp);obtain⟨out,hout⟩:=eX (Zbx qt s);rw[←hout];have HO:=Hd hout;have HW1:=Hd (show w.alloc (.cells #[.int .i64 0,.string ⟨#[]⟩,.slice none 0 0,.slice none 0 0] 31)=W1 from hW1);obtain⟨g,cap,i,vd,h6,hi,hb,hg,c0,c1,c2,-⟩:=q1.first
 obtain⟨⟨p0,p1,p2,p3⟩,f0,f1,f2,f3⟩:=Zae h6;have H6:=Hd h6;have HT:=Hd HT;have HQT:=Hd hqt;obtain⟨⟨tk,ta,tt⟩,ht⟩:∃t,t=hd s.ts:=⟨_,rfl⟩;rw[←ht] at c0 c1 c2;have HTT:=Hd ht;obtain⟨bd,hbd⟩:=eX (s.bad);rw[←hbd] at p3;have HBD:=Hd hbd;obtain⟨⟨d0,d1,d2,d3⟩,e0,e1,e2,e3⟩:=Zae a1;have HRB1:=Hd q1.lt;have hrb1:rb<W1.heap.size:=q1.lt;have n1:¬rb=W1.heap.size:=Nat.ne_of_lt hrb1;have hlt1:w.heap.size<W1.heap.size:=(gE a1).1;have n2:¬w.heap.size=W1.heap.size:=Nat.ne_of_lt hlt1;simp only at c0 c1 c2;have HD64:=Hd hd64;clear h hW1 a1 hout q1 h6 hbd ht hqt;go_enter Tryz.func134,Tryz.ntmps134
 go_upto_region 1 with fail
 rw[HW1.out];cases bd with
 | true=>exact absurd HBD.out.symm HNB.out
 | false=>
  obtain⟨W2,hW2⟩:=eY ((W1.alloc (.cells #[.int .i64 tk,.int .i64 ta,.string ⟨tt.toArray⟩] 96)).drew);have b2:Below W1.heap.size W1 W2:=by rw[←hW2];exact ((Below.refl _ W1).alloc (nl _) _).drew
  have a2:Thr W2 W1.heap.size 96 (.int .i64 tk) (.int .i64 ta) (.string ⟨tt.toArray⟩):=by rw[←hW2];exact ZaI W1 _ _ _ _
  have a12:Fou W2 w.heap.size 31 (.int .i64 0) (.string ⟨#[]⟩) (.slice none 0 0) (.slice none 0 0):=(b2.block _ hlt1).trans HA1.out;have Q2:=Hd (Q1.out.below b2);have F2:=Hd (F1.out.trans (Fr.of_below (n₀:=B) b2));have HA2:=Hd a2;have HA12:=Hd a12;have HW2:=Hd hW2;have h62:=(b2.block rb hrb1).trans H6.out;have H62:=Hd h62;have hlt2:W1.heap.size<W2.heap.size:=(gE a2).1;have HL12:=Hd hlt1;clear hW2 a2 a12 b2 h62;go_upto_region 3 with fail
  go_region
  go_upto_region 4 with fail
  rw[HW2.out];clear p0 p1 p2 p3 f0 f1 f2 f3 d0 d1 d2 d3 e0 e1 e2 e3 c0 c1 c2;obtain⟨⟨t0,t1,t2⟩,-⟩:=Zan HA2.out;by_cases hk:tk=1
  ·exact absurd (by rw[←HTT.out];exact hk) HNK.out
  ·have hk1:((tk:Int)==1)=false:=bF (by omega);have HK:=Hd (show ¬(hd s.ts).k=1 by rw[←HTT.out];exact hk);clear hk;go_upto_region 7 with fail
   obtain⟨W4,hW4⟩:=eY (W2.alloc (.cells #[.string ⟨#[105,110,116]⟩,.string ⟨#[98,111,111,108]⟩,.string ⟨#[116,101,120,116]⟩,.string ⟨#[63]⟩] 9));have b4:Below W2.heap.size W2 W4:=by rw[←hW4];exact (Below.refl _ _).alloc (nl _) _
   have B4:=Hd b4;have HW4:=Hd hW4;have HC4:Hid (W4.heap[W2.heap.size]?=some (.cells #[.string ⟨#[105,110,116]⟩,.string ⟨#[98,111,111,108]⟩,.string ⟨#[116,101,120,116]⟩,.string ⟨#[63]⟩] 9 (0,0))):=by rw[←hW4];exact hN W2 _
   have HL4:=Hd (show W2.heap.size<W4.heap.size by rw[←hW4];simp);have HA4:=Hd ((b4.block _ (gE HA12.out).1).trans HA12.out);clear b4 hW4 t0 t1 t2 hk1 hlt2 n1 n2 hrb1;go_upto_region 8 with fail
   rw[HW4.out];go_wp2_with fail
   go_loopw [7] (fun s7 wr=>∃j:Nat,s7=.int .i64 j∧j≤4∧Hid (Below W4.heap.size W4 wr)∧Hid (∀m,m<j→s.is (wd4 m)=false)) (fun s7 _=>4-(intOf s7).toNat)
   case atStart=>exact⟨0,rfl,Nat.zero_le _,Hd (Below.refl _ _),Hd (fun m h=>absurd h (Nat.not_lt_zero _))⟩
   case round=>
    obtain⟨j,rfl,hj4,HB,HN⟩:=hrel;have Q5:=Hd ((Q2.out.below B4.out).below HB.out);have F5:=Hd ((F2.out.below B4.out).below HB.out);have HA5:=Hd ((HB.out.block _ (gE HA4.out).1).trans HA4.out);by_cases hlt:j<4
    ·have hd1:decide ((j:Int)<4)=true:=dT (by omega);have hd2:decide (j<4)=true:=dT hlt;have hcell:wr.cell? ⟨W2.heap.size,j,none⟩=some (.string ⟨(wd4 j).toArray⟩):=by
      rw[HB.out.cell (p:=⟨W2.heap.size,j,none⟩) HL4.out];have h4:j=0∨j=1∨j=2∨j=3:=by omega
      rcases h4 with rfl | rfl | rfl | rfl<;>simp[World.cell?,HC4.out,wd4]
     have HI:=Hd (Zao Q5.out (wd4 j));have HLT:=Hd hlt;have hlt3:(j:Int)<4:=by omega
     cases hm:s.is (wd4 j) with
     | true=>
      rw[hm] at HI;have HON:=Hd (show out=(.mk (j+1) [] [] [],s.take (wd4 j)) by rw[HO.out,Zjh HBD.out.symm HK.out HLT.out hm]);obtain⟨wd,hwd⟩:=eX (wd4 j);rw[←hwd] at hcell HI HON;clear hm hwd;go_wp2_with fail
      refine HI.out.mono ?_;rintro e w6 ⟨rfl,b6⟩;have HTK:=Hd (Zah hM (Q5.out.below b6) wd);have hcell:=(b6.cell (p:=⟨W2.heap.size,j,none⟩) (ll HL4.out HB.out.size)).trans hcell;have F6:=Hd (F5.out.below b6);have HA6:=Hd ((b6.block _ (gE HA5.out).1).trans HA5.out);clear b6 HI;go_wp2_with fail
      refine HTK.out.mono ?_;rintro e w7 ⟨rfl,q7,f7⟩;have hA7:Fou w7 w.heap.size 31 _ _ _ _:=f7.cells HA6.out (by decide);obtain⟨⟨d0,d1,d2,d3⟩,e0,e1,e2,e3⟩:=Zae hA7;have HA7:=Hd hA7;have Q7:=Hd q7;have F7:=Hd (F6.out.trans f7);clear q7 f7 hA7 HTK hcell;go_wp2_with fail
      rw[HON.out];exact endT rfl rfl rfl HA7.out F7.out Q7.out HRB.out (by simpa using Zho (fun b=>w.heap.size<b) w7 (j+1) [])
     | false=>
      rw[hm] at HI;have HNN:=Hd (show ∀m,m<j+1→s.is (wd4 m)=false from fun m h=>(Nat.lt_succ_iff_lt_or_eq.1 h).elim (HN.out m) (fun e=>e▸hm));obtain⟨wd,hwd⟩:=eX (wd4 j);rw[←hwd] at hcell HI;clear hm hwd;go_wp2_with fail
      refine HI.out.mono ?_;rintro e w6 ⟨rfl,b6⟩;have B6:=Hd (HB.out.trans (b6.mono HB.out.size));clear b6 HI;go_wp2_with fail
      exact⟨⟨j+1,by simp,by have:=HLT.out;omega,B6,HNN⟩,by have:=HLT.out;simp[intOf];omega⟩
    ·exfalso
     obtain⟨m,hm1,hm2⟩:=HW0.out;rw[HN.out m (by omega)] at hm2;cases hm2
theorem ZgU{B M rb:Nat}{all:List Tk}(hM:M≤10000000)(d:Nat)(hd64:d≤64)(qt:Q→PT×Q)(hqt:∀s,(qt s).2.ts.length≤s.ts.length)(HT:RdsT 45 B M rb all (d+1) qt)(w:World)(s:Q)(h:QS B M w rb all s)(hb0:s.bad=false)(hk0:¬(hd s.ts).k=1)(hw0:∀m,m<4→s.is (wd4 m)=false)(hw1:s.is [123]=false) :
  Calls Tryz.prog 134 #[.pointer (some ⟨rb,0,none⟩),.int .i64 d] w (QPT B M w rb all (Zbx qt s)):=by
 have HNB:=Hd (show ¬s.bad=true by rw[hb0];decide);have HNK:=Hd hk0;have HW0:=Hd hw0;have HW1':=Hd hw1;clear hb0 hk0 hw0 hw1;have HRB:=Hd h.lt;have HLEN:=Hd h.len;obtain⟨W1,hW1⟩:=eY (zFou w);have a1:=zfou w;rw[hW1] at a1;have HA1:=Hd a1;have F1:=Hd (show Fr B w W1 by rw[←hW1];exact (Fr.refl B w).alloc _);have q1:=(show QS B M W1 rb all s by rw[←hW1];exact h.alloc _);have Q1:=Hd q1;have HS1:=Hd (show W1.heap.size=w.heap.size+1 by rw[←hW1];simp);obtain⟨out,hout⟩:=eX (Zbx qt s);rw[←hout];have HO:=Hd hout;have HW1:=Hd (show w.alloc (.cells #[.int .i64 0,.string ⟨#[]⟩,.slice none 0 0,.slice none 0 0] 31)=W1 from hW1);obtain⟨g,cap,i,vd,h6,hi,hb,hg,c0,c1,c2,-⟩:=q1.first
 obtain⟨⟨p0,p1,p2,p3⟩,f0,f1,f2,f3⟩:=Zae h6;have H6:=Hd h6;have HT:=Hd HT;have HQT:=Hd hqt;obtain⟨⟨tk,ta,tt⟩,ht⟩:∃t,t=hd s.ts:=⟨_,rfl⟩;rw[←ht] at c0 c1 c2;have HTT:=Hd ht;obtain⟨bd,hbd⟩:=eX (s.bad);rw[←hbd] at p3;have HBD:=Hd hbd;obtain⟨⟨d0,d1,d2,d3⟩,e0,e1,e2,e3⟩:=Zae a1;have HRB1:=Hd q1.lt;have hrb1:rb<W1.heap.size:=q1.lt;have n1:¬rb=W1.heap.size:=Nat.ne_of_lt hrb1;have hlt1:w.heap.size<W1.heap.size:=(gE a1).1;have n2:¬w.heap.size=W1.heap.size:=Nat.ne_of_lt hlt1;simp only at c0 c1 c2;have HD64:=Hd hd64;clear h hW1 a1 hout q1 h6 hbd ht hqt;go_enter Tryz.func134,Tryz.ntmps134
 go_upto_region 1 with fail
 rw[HW1.out];cases bd with
 | true=>exact absurd HBD.out.symm HNB.out
 | false=>
  obtain⟨W2,hW2⟩:=eY ((W1.alloc (.cells #[.int .i64 tk,.int .i64 ta,.string ⟨tt.toArray⟩] 96)).drew);have b2:Below W1.heap.size W1 W2:=by rw[←hW2];exact ((Below.refl _ W1).alloc (nl _) _).drew
  have a2:Thr W2 W1.heap.size 96 (.int .i64 tk) (.int .i64 ta) (.string ⟨tt.toArray⟩):=by rw[←hW2];exact ZaI W1 _ _ _ _
  have a12:Fou W2 w.heap.size 31 (.int .i64 0) (.string ⟨#[]⟩) (.slice none 0 0) (.slice none 0 0):=(b2.block _ hlt1).trans HA1.out;have Q2:=Hd (Q1.out.below b2);have F2:=Hd (F1.out.trans (Fr.of_below (n₀:=B) b2));have HA2:=Hd a2;have HA12:=Hd a12;have HW2:=Hd hW2;have h62:=(b2.block rb hrb1).trans H6.out;have H62:=Hd h62;have hlt2:W1.heap.size<W2.heap.size:=(gE a2).1;have HL12:=Hd hlt1;clear hW2 a2 a12 b2 h62;go_upto_region 3 with fail
  go_region
  go_upto_region 4 with fail
  rw[HW2.out];clear p0 p1 p2 p3 f0 f1 f2 f3 d0 d1 d2 d3 e0 e1 e2 e3 c0 c1 c2;obtain⟨⟨t0,t1,t2⟩,-⟩:=Zan HA2.out;by_cases hk:tk=1
  ·exact absurd (by rw[←HTT.out];exact hk) HNK.out
  ·have hk1:((tk:Int)==1)=false:=bF (by omega);have HK:=Hd (show ¬(hd s.ts).k=1 by rw[←HTT.out];exact hk);clear hk;go_upto_region 7 with fail
   obtain⟨W4,hW4⟩:=eY (W2.alloc (.cells #[.string ⟨#[105,110,116]⟩,.string ⟨#[98,111,111,108]⟩,.string ⟨#[116,101,120,116]⟩,.string ⟨#[63]⟩] 9));have b4:Below W2.heap.size W2 W4:=by rw[←hW4];exact (Below.refl _ _).alloc (nl _) _
   have B4:=Hd b4;have HW4:=Hd hW4;have HC4:Hid (W4.heap[W2.heap.size]?=some (.cells #[.string ⟨#[105,110,116]⟩,.string ⟨#[98,111,111,108]⟩,.string ⟨#[116,101,120,116]⟩,.string ⟨#[63]⟩] 9 (0,0))):=by rw[←hW4];exact hN W2 _
   have HL4:=Hd (show W2.heap.size<W4.heap.size by rw[←hW4];simp);have HA4:=Hd ((b4.block _ (gE HA12.out).1).trans HA12.out);clear b4 hW4 t0 t1 t2 hk1 hlt2 n1 n2 hrb1;go_upto_region 8 with fail
   rw[HW4.out];go_wp2_with fail
   go_loopw [7] (fun s7 wr=>∃j:Nat,s7=.int .i64 j∧j≤4∧Hid (Below W4.heap.size W4 wr)∧Hid (∀m,m<j→s.is (wd4 m)=false)) (fun s7 _=>4-(intOf s7).toNat)
   case atStart=>exact⟨0,rfl,Nat.zero_le _,Hd (Below.refl _ _),Hd (fun m h=>absurd h (Nat.not_lt_zero _))⟩
   case round=>
    obtain⟨j,rfl,hj4,HB,HN⟩:=hrel;have Q5:=Hd ((Q2.out.below B4.out).below HB.out);have F5:=Hd ((F2.out.below B4.out).below HB.out);have HA5:=Hd ((HB.out.block _ (gE HA4.out).1).trans HA4.out);by_cases hlt:j<4
    ·have hd1:decide ((j:Int)<4)=true:=dT (by omega);have hd2:decide (j<4)=true:=dT hlt;have hcell:wr.cell? ⟨W2.heap.size,j,none⟩=some (.string ⟨(wd4 j).toArray⟩):=by
      rw[HB.out.cell (p:=⟨W2.heap.size,j,none⟩) HL4.out];have h4:j=0∨j=1∨j=2∨j=3:=by omega
      rcases h4 with rfl | rfl | rfl | rfl<;>simp[World.cell?,HC4.out,wd4]
     have HI:=Hd (Zao Q5.out (wd4 j));have HLT:=Hd hlt;have hlt3:(j:Int)<4:=by omega
     have hm:=HW0.out j hlt;rw[hm] at HI;have HNN:=Hd (show ∀m,m<j+1→s.is (wd4 m)=false from fun m h=>(Nat.lt_succ_iff_lt_or_eq.1 h).elim (HN.out m) (fun e=>e▸hm));obtain⟨wd,hwd⟩:=eX (wd4 j);rw[←hwd] at hcell HI;clear hm hwd;go_wp2_with fail
     refine HI.out.mono ?_;rintro e w6 ⟨rfl,b6⟩;have B6:=Hd (HB.out.trans (b6.mono HB.out.size));clear b6 HI;go_wp2_with fail
     exact⟨⟨j+1,by simp,by have:=HLT.out;omega,B6,HNN⟩,by have:=HLT.out;simp[intOf];omega⟩
    ·have hd1:decide ((j:Int)<4)=false:=dF (by omega);have hd2:decide (j<4)=false:=dF hlt;have HON:=Hd (show out=if s.is [123] then recS qt (s.take [123]) else if (s.take [40]).bad then (qT0,s.take [40]) else ((qt (s.take [40])).1,(qt (s.take [40])).2.take [41]) by
      rw[HO.out,ZfB HBD.out.symm HK.out (fun m h=>HN.out m (by omega))])
     have HI:=Hd (Zao Q5.out [123]);have hlt3:¬(j:Int)<4:=by omega
     rw[HW1'.out] at HI HON;simp only[ff,if_false] at HON;go_wp2_with fail
     refine HI.out.mono ?_;rintro e w6 ⟨rfl,b6⟩;have HTK:=Hd (Zah hM (Q5.out.below b6) [40]);have F6:=Hd (F5.out.below b6);have HA6:=Hd ((b6.block _ (gE HA5.out).1).trans HA5.out);clear b6 HI;go_wp2_with fail
     refine HTK.out.mono ?_;rintro e w7 ⟨rfl,q7,f7⟩;obtain⟨g,cap,i,vd,h7,-⟩:=q7.first
     obtain⟨⟨p0,p1,p2,p3⟩,-⟩:=Zae h7;have hA7:Fou w7 w.heap.size 31 _ _ _ _:=f7.cells HA6.out (by decide);obtain⟨⟨d0,d1,d2,d3⟩,e0,e1,e2,e3⟩:=Zae hA7;have HA7:=Hd hA7;have Q7:=Hd q7;have F7:=Hd (F6.out.trans f7);obtain⟨s7,hs7⟩:=eX (s.take [40]);rw[←hs7] at p3 Q7 HON;clear q7 f7 hA7 HTK h7;cases hb7:s7.bad with
     | true=>
      rw[hb7] at p3;have HON:=Hd (show out=(qT0,s7) by rw[HON.out,hb7,if_pos rfl]);clear hb7;go_wp2_with fail
      rw[HON.out];exact endT rfl rfl rfl HA7.out F7.out Q7.out HRB.out (Zho _ _ 0 [])
     | false=>
      rw[hb7] at p3;have HON:=Hd (show out=((qt s7).1,(qt s7).2.take [41]) by rw[HON.out,hb7,if_neg (by decide)]);obtain⟨⟨u,s8⟩,hu⟩:∃p,p=qt s7:=⟨_,rfl⟩;obtain⟨uk,un,uns,ul⟩:=u;have HTT2:=Hd (Zcg HT.out w7 s7 Q7.out uk un uns ul s8 hu);rw[←hu] at HON;clear hb7 hu d0 d1 d2 d3 e0 e1 e2 e3;go_wp2_with fail
      refine HTT2.out.mono ?_;rintro e w8 ⟨a2',c2',a3',c3',rfl,f8,i8,q8⟩;have hs7:w.heap.size<w7.heap.size:=(gE HA7.out).1;have HU8:=Hd (show IsCs (fun b=>w.heap.size<b) w8 (encT 31 (.mk uk un uns ul)) [.int .i64 uk,.string ⟨un.toArray⟩,.slice a2' uns.length c2',.slice a3' ul.length c3'] from i8.mono (fun b _ hb=>by omega));have HA8:=mF4 f8 HA7 (by decide);obtain⟨W9,hW9⟩:=eY (w8.alloc (.cells #[.int .i64 uk,.string ⟨un.toArray⟩,.slice a2' uns.length c2',.slice a3' ul.length c3'] 31));have b9:Below w8.heap.size w8 W9:=by rw[←hW9];exact (Below.refl _ _).alloc (nl _) _
      have HX9:=Hd (show Fou W9 w8.heap.size 31 (.int .i64 uk) (.string ⟨un.toArray⟩) (.slice a2' uns.length c2') (.slice a3' ul.length c3') by rw[←hW9];exact hN w8 _);have Q9:=Hd (q8.below b9);have F9:=Hd ((F7.out.trans f8).below b9);have HA9:=Hd ((b9.block _ (gE HA8.out).1).trans HA8.out);have HU9:=Hd (HU8.out.below b9);have HTK:=Hd (Zah hM Q9.out [41]);have HW9:=Hd hW9;clear i8 q8 f8 hW9 b9 p0 p1 p2 p3 HTT2 hs7;go_upto_region 19 with fail
      rw[HW9.out];go_wp2_with fail
      refine HTK.out.mono ?_;rintro e w10 ⟨rfl,q10,f10⟩;have hX10:Fou w10 w8.heap.size 31 _ _ _ _:=f10.cells HX9.out (by decide);have hA10:Fou w10 w.heap.size 31 _ _ _ _:=f10.cells HA9.out (by decide);obtain⟨⟨p0,p1,p2,p3⟩,-⟩:=Zae hX10;obtain⟨⟨d0,d1,d2,d3⟩,e0,e1,e2,e3⟩:=Zae hA10;have HA10:=Hd hA10;have Q10:=Hd q10;have F10:=Hd (F9.out.trans f10);have HU10:=Hd (HU9.out.frA f10);clear q10 f10 hX10 hA10 HTK;go_wp2_with fail
      rw[HON.out];exact endT rfl rfl rfl HA10.out F10.out Q10.out HRB.out HU10.out
theorem Zi4{B M rb:Nat}{all:List Tk}(hM:M≤10000000)(d:Nat)(hd64:d≤64)(qt:Q→PT×Q)(hqt:∀s,(qt s).2.ts.length≤s.ts.length)(HT:RdsT 45 B M rb all (d+1) qt)(w:World)(s:Q)(h:QS B M w rb all s)(hb0:s.bad=false)(hk0:¬(hd s.ts).k=1)(hw0:∀m,m<4→s.is (wd4 m)=false)(hw1:s.is [123]=true) :
  Calls Tryz.prog 134 #[.pointer (some ⟨rb,0,none⟩),.int .i64 d] w (QPT B M w rb all (Zbx qt s)):=by
 have HNB:=Hd (show ¬s.bad=true by rw[hb0];decide);have HNK:=Hd hk0;have HW0:=Hd hw0;have HW1':=Hd hw1;clear hb0 hk0 hw0 hw1;have HRB:=Hd h.lt;have HLEN:=Hd h.len;obtain⟨W1,hW1⟩:=eY (zFou w);have a1:=zfou w;rw[hW1] at a1;have HA1:=Hd a1;have F1:=Hd (show Fr B w W1 by rw[←hW1];exact (Fr.refl B w).alloc _);have q1:=(show QS B M W1 rb all s by rw[←hW1];exact h.alloc _);have Q1:=Hd q1;have HS1:=Hd (show W1.heap.size=w.heap.size+1 by rw[←hW1];simp);obtain⟨out,hout⟩:=eX (Zbx qt s);rw[←hout];have HO:=Hd hout;have HW1:=Hd (show w.alloc (.cells #[.int .i64 0,.string ⟨#[]⟩,.slice none 0 0,.slice none 0 0] 31)=W1 from hW1);obtain⟨g,cap,i,vd,h6,hi,hb,hg,c0,c1,c2,-⟩:=q1.first
 obtain⟨⟨p0,p1,p2,p3⟩,f0,f1,f2,f3⟩:=Zae h6;have H6:=Hd h6;have HT:=Hd HT;have HQT:=Hd hqt;obtain⟨⟨tk,ta,tt⟩,ht⟩:∃t,t=hd s.ts:=⟨_,rfl⟩;rw[←ht] at c0 c1 c2;have HTT:=Hd ht;obtain⟨bd,hbd⟩:=eX (s.bad);rw[←hbd] at p3;have HBD:=Hd hbd;obtain⟨⟨d0,d1,d2,d3⟩,e0,e1,e2,e3⟩:=Zae a1;have HRB1:=Hd q1.lt;have hrb1:rb<W1.heap.size:=q1.lt;have n1:¬rb=W1.heap.size:=Nat.ne_of_lt hrb1;have hlt1:w.heap.size<W1.heap.size:=(gE a1).1;have n2:¬w.heap.size=W1.heap.size:=Nat.ne_of_lt hlt1;simp only at c0 c1 c2;have HD64:=Hd hd64;clear h hW1 a1 hout q1 h6 hbd ht hqt;go_enter Tryz.func134,Tryz.ntmps134
 go_upto_region 1 with fail
 rw[HW1.out];cases bd with
 | true=>exact absurd HBD.out.symm HNB.out
 | false=>
  obtain⟨W2,hW2⟩:=eY ((W1.alloc (.cells #[.int .i64 tk,.int .i64 ta,.string ⟨tt.toArray⟩] 96)).drew);have b2:Below W1.heap.size W1 W2:=by rw[←hW2];exact ((Below.refl _ W1).alloc (nl _) _).drew
  have a2:Thr W2 W1.heap.size 96 (.int .i64 tk) (.int .i64 ta) (.string ⟨tt.toArray⟩):=by rw[←hW2];exact ZaI W1 _ _ _ _
  have a12:Fou W2 w.heap.size 31 (.int .i64 0) (.string ⟨#[]⟩) (.slice none 0 0) (.slice none 0 0):=(b2.block _ hlt1).trans HA1.out;have Q2:=Hd (Q1.out.below b2);have F2:=Hd (F1.out.trans (Fr.of_below (n₀:=B) b2));have HA2:=Hd a2;have HA12:=Hd a12;have HW2:=Hd hW2;have h62:=(b2.block rb hrb1).trans H6.out;have H62:=Hd h62;have hlt2:W1.heap.size<W2.heap.size:=(gE a2).1;have HL12:=Hd hlt1;clear hW2 a2 a12 b2 h62;go_upto_region 3 with fail
  go_region
  go_upto_region 4 with fail
  rw[HW2.out];clear p0 p1 p2 p3 f0 f1 f2 f3 d0 d1 d2 d3 e0 e1 e2 e3 c0 c1 c2;obtain⟨⟨t0,t1,t2⟩,-⟩:=Zan HA2.out;by_cases hk:tk=1
  ·exact absurd (by rw[←HTT.out];exact hk) HNK.out
  ·have hk1:((tk:Int)==1)=false:=bF (by omega);have HK:=Hd (show ¬(hd s.ts).k=1 by rw[←HTT.out];exact hk);clear hk;go_upto_region 7 with fail
   obtain⟨W4,hW4⟩:=eY (W2.alloc (.cells #[.string ⟨#[105,110,116]⟩,.string ⟨#[98,111,111,108]⟩,.string ⟨#[116,101,120,116]⟩,.string ⟨#[63]⟩] 9));have b4:Below W2.heap.size W2 W4:=by rw[←hW4];exact (Below.refl _ _).alloc (nl _) _
   have B4:=Hd b4;have HW4:=Hd hW4;have HC4:Hid (W4.heap[W2.heap.size]?=some (.cells #[.string ⟨#[105,110,116]⟩,.string ⟨#[98,111,111,108]⟩,.string ⟨#[116,101,120,116]⟩,.string ⟨#[63]⟩] 9 (0,0))):=by rw[←hW4];exact hN W2 _
   have HL4:=Hd (show W2.heap.size<W4.heap.size by rw[←hW4];simp);have HA4:=Hd ((b4.block _ (gE HA12.out).1).trans HA12.out);clear b4 hW4 t0 t1 t2 hk1 hlt2 n1 n2 hrb1;go_upto_region 8 with fail
   rw[HW4.out];go_wp2_with fail
   go_loopw [7] (fun s7 wr=>∃j:Nat,s7=.int .i64 j∧j≤4∧Hid (Below W4.heap.size W4 wr)∧Hid (∀m,m<j→s.is (wd4 m)=false)) (fun s7 _=>4-(intOf s7).toNat)
   case atStart=>exact⟨0,rfl,Nat.zero_le _,Hd (Below.refl _ _),Hd (fun m h=>absurd h (Nat.not_lt_zero _))⟩
   case round=>
    obtain⟨j,rfl,hj4,HB,HN⟩:=hrel;have Q5:=Hd ((Q2.out.below B4.out).below HB.out);have F5:=Hd ((F2.out.below B4.out).below HB.out);have HA5:=Hd ((HB.out.block _ (gE HA4.out).1).trans HA4.out);by_cases hlt:j<4
    ·have hd1:decide ((j:Int)<4)=true:=dT (by omega);have hd2:decide (j<4)=true:=dT hlt;have hcell:wr.cell? ⟨W2.heap.size,j,none⟩=some (.string ⟨(wd4 j).toArray⟩):=by
      rw[HB.out.cell (p:=⟨W2.heap.size,j,none⟩) HL4.out];have h4:j=0∨j=1∨j=2∨j=3:=by omega
      rcases h4 with rfl | rfl | rfl | rfl<;>simp[World.cell?,HC4.out,wd4]
     have HI:=Hd (Zao Q5.out (wd4 j));have HLT:=Hd hlt;have hlt3:(j:Int)<4:=by omega
     have hm:=HW0.out j hlt;rw[hm] at HI;have HNN:=Hd (show ∀m,m<j+1→s.is (wd4 m)=false from fun m h=>(Nat.lt_succ_iff_lt_or_eq.1 h).elim (HN.out m) (fun e=>e▸hm));obtain⟨wd,hwd⟩:=eX (wd4 j);rw[←hwd] at hcell HI;clear hm hwd;go_wp2_with fail
     refine HI.out.mono ?_;rintro e w6 ⟨rfl,b6⟩;have B6:=Hd (HB.out.trans (b6.mono HB.out.size));clear b6 HI;go_wp2_with fail
     exact⟨⟨j+1,by simp,by have:=HLT.out;omega,B6,HNN⟩,by have:=HLT.out;simp[intOf];omega⟩
    ·have hd1:decide ((j:Int)<4)=false:=dF (by omega);have hd2:decide (j<4)=false:=dF hlt;have HON:=Hd (show out=if s.is [123] then recS qt (s.take [123]) else if (s.take [40]).bad then (qT0,s.take [40]) else ((qt (s.take [40])).1,(qt (s.take [40])).2.take [41]) by
      rw[HO.out,ZfB HBD.out.symm HK.out (fun m h=>HN.out m (by omega))])
     have HI:=Hd (Zao Q5.out [123]);have hlt3:¬(j:Int)<4:=by omega
     rw[HW1'.out] at HI HON;simp only[if_true] at HON;go_wp2_with fail
     refine HI.out.mono ?_;rintro e w6 ⟨rfl,b6⟩;have HTK:=Hd (Zah hM (Q5.out.below b6) [123]);have F6:=Hd (F5.out.below b6);have HA6:=Hd ((b6.block _ (gE HA5.out).1).trans HA5.out);clear b6 HI;go_wp2_with fail
     refine HTK.out.mono ?_;rintro e w7 ⟨rfl,q7,f7⟩;have HA7:=mF4 f7 HA6 (by decide);obtain⟨s7,hs7⟩:=eX (s.take [123]);have HLS:=Hd (show s7.ts.length≤1000000 by rw[hs7];exact Nat.le_trans (ZeN _ _) HLEN.out.1);have HQ7:=Hd q7;rw[←hs7] at HQ7 HON;have F7:=Hd (F6.out.trans f7);have HREC:=Hd (show recO qt s7.ts.length [] s7=out by rw[HON.out,recS,if_neg HQ7.out.ne];rfl);obtain⟨W8,hW8⟩:=eY (w7.alloc (.cells #[.int .i64 5,.string ⟨#[]⟩,.slice none 0 0,.slice none 0 0] 31));have HW8:=Hd hW8;have HX8:=Hd (show Fou W8 w7.heap.size 31 (.int .i64 5) (.string ⟨#[]⟩) (.slice none 0 0) (.slice none 0 0) by rw[←hW8];exact hN w7 _);have B8:=Hd (show Below w7.heap.size w7 W8 by rw[←hW8];exact (Below.refl _ _).alloc (nl _) _);have HWX:=Hd (show w.heap.size<w7.heap.size from (gE HA7.out).1);clear q7 f7 hs7 hW8 HTK;go_upto_region 23 with fail
     rw[HW8.out];obtain⟨hx,hhx⟩:=eX (w7.heap.size);rw[←hhx] at HX8 HWX⊢;have HSTART:Hid (RcQ qt B M rb all w W8 hx out [] s7 s7 s7.ts.length none none 0 0):=Hd ⟨HREC.out,nl _,by simpa using HLS.out,HQ7.out.below B8.out,F7.out.below B8.out,(B8.out.block _ (gE HA7.out).1).trans HA7.out,HX8.out,Zho _ _ 5 [],fun _=>⟨rfl,rfl,rfl,rfl⟩,HRB.out,HWX.out⟩;obtain⟨i0,hi0,hz0,hz1,hz2⟩:=info_parts ZhV;clear hhx;go_loopw [] (fun wr=>∃(fs:List (Bs×PT)) (sk:Q) (n:Nat) (a2 a3:Option Addr) (c2 c3:Nat),Hid (RcQ qt B M rb all w wr hx out fs sk sk n a2 a3 c2 c3)) (fun wr=>left rb all wr)
     case atStart=>exact⟨[],s7,s7.ts.length,none,none,0,0,HSTART⟩
     case round=>
      obtain⟨fs,sk,n',a2,a3,c2,c3,HR⟩:=hrel;obtain⟨g,cap,i,vd,h9,-⟩:=HR.out.qs.first
      obtain⟨⟨p0,p1,p2,p3⟩,-⟩:=Zae h9;cases hb9:sk.bad with
      | true=>
       rw[hb9] at p3;have HE:=Hd (show out=(rowT fs,sk.take [125]) by rw[←HR.out.un,Zko (.inl hb9)]);have HTK:=Hd (Zah hM HR.out.qs [125]);have HR9:=HR;clear hb9 h9;go_wp2_with fail
       refine HTK.out.mono ?_;rintro e w10 ⟨rfl,q10,f10⟩;clear p0 p1 p2 p3;have hcx:=HR9.out;obtain⟨hres,hown,hcs,hfr⟩:=RcQ.frm HR9.out f10;obtain⟨⟨d0,d1,d2,d3⟩,e0,e1,e2,e3⟩:=Zae hres;obtain⟨⟨p0,p1,p2,p3⟩,-⟩:=Zae hown;have HRES:=Hd hres;have HCS:=Hd (hcs.mono (A':=fun b=>w.heap.size<b) (fun _ _ h=>h.1));have HFR:=Hd hfr;have Q10:=Hd q10;clear hres hown hcs hfr q10 f10 hcx HTK;go_wp2_with fail
       rw[HE.out];exact endT rfl rfl rfl HRES.out HFR.out Q10.out HRB.out HCS.out
      | false=>
       rw[hb9] at p3;have HI:=Hd (Zao HR.out.qs [125]);cases h5:sk.is [125] with
       | true=>
        rw[h5] at HI;have HE:=Hd (show out=(rowT fs,sk.take [125]) by rw[←HR.out.un,Zko (.inr h5)]);clear hb9 h9 h5;go_wp2_with fail
        refine HI.out.mono ?_;rintro e w9 ⟨rfl,b9⟩;have HTK:=Hd (Zah hM (HR.out.qs.below b9) [125]);have HR9:Hid (RcQ qt B M rb all w w9 hx out fs sk sk n' a2 a3 c2 c3):=Hd (HR.out.bel b9);clear p0 p1 p2 p3 b9 HI;go_wp2_with fail
        refine HTK.out.mono ?_;rintro e w10 ⟨rfl,q10,f10⟩;have hcx:=HR9.out;obtain⟨hres,hown,hcs,hfr⟩:=RcQ.frm HR9.out f10;obtain⟨⟨d0,d1,d2,d3⟩,e0,e1,e2,e3⟩:=Zae hres;obtain⟨⟨p0,p1,p2,p3⟩,-⟩:=Zae hown;have HRES:=Hd hres;have HCS:=Hd (hcs.mono (A':=fun b=>w.heap.size<b) (fun _ _ h=>h.1));have HFR:=Hd hfr;have Q10:=Hd q10;clear hres hown hcs hfr q10 f10 hcx HTK;go_wp2_with fail
        rw[HE.out];exact endT rfl rfl rfl HRES.out HFR.out Q10.out HRB.out HCS.out
       | false=>
        rw[h5] at HI;have HB9:=Hd hb9;have H5:=Hd h5;clear hb9 h9 h5;go_wp2_with fail
        refine HI.out.mono ?_;rintro e w9 ⟨rfl,b9⟩;have HNM:=Hd (ZbQ hM (HR.out.qs.below b9));have F9:=Hd (Fr.of_below (n₀:=B) b9);clear p0 p1 p2 p3 b9 HI;go_wp2_with fail
        refine HNM.out.mono ?_;rintro e w10 ⟨rfl,q10,f10⟩;obtain⟨⟨nk,na,nt⟩,hnm⟩:∃t,t=sk.name.1:=⟨_,rfl⟩;rw[←hnm];unfold tokV;obtain⟨W11,hW11⟩:=eY (w10.alloc (.cells #[.int .i64 nk,.int .i64 na,.string ⟨nt.toArray⟩] 96));have HW11:=Hd hW11;have b11:Below w10.heap.size w10 W11:=by rw[←hW11];exact (Below.refl _ _).alloc (nl _) _
        have HT11:=Hd (show Thr W11 w10.heap.size 96 (.int .i64 nk) (.int .i64 na) (.string ⟨nt.toArray⟩) by rw[←hW11];exact ZaI w10 _ _ _ _);have F11:=Hd ((F9.out.trans f10).below b11);have Q11:=Hd (q10.below b11);have HNMT:=Hd hnm;have HTK:=Hd (Zah hM Q11.out [58]);clear q10 f10 hW11 b11 hnm HNM;go_upto_region 25 with fail
        rw[HW11.out];go_wp2_with fail
        refine HTK.out.mono ?_;rintro e w12 ⟨rfl,q12,f12⟩;obtain⟨hd12,hhd⟩:=eX (sk.head [58]);have q12:QS B M w12 rb all hd12.2:=by rw[hhd];exact q12
        have F12:=Hd (F11.out.trans f12);have HT12:=mF3 f12 HT11 (by decide);obtain⟨g,cap,i,vd,h9,-⟩:=q12.first
        obtain⟨⟨p0,p1,p2,p3⟩,r0,r1,r2,r3⟩:=Zae h9;have Q12:=Hd q12;have HHD:=Hd hhd;have H9:=Hd h9;clear q12 f12 hhd h9 HTK;cases hh:hd12.2.bad with
        | true=>
         rw[hh] at p3;have HN:=Hd (show n'≠0 by have:=HR.out.fuel;have:=HR.out.qs.len.2;omega);have HE:=Hd (show out=(qT0,hd12.2) by
          obtain⟨n'',rfl⟩:=Nat.exists_eq_succ_of_ne_zero HN.out;rw[←HR.out.un,HHD.out,Zme HB9.out H5.out (by rw[←HHD.out];exact hh)])
         obtain⟨hres,-,-,hfr⟩:=RcQ.frm HR.out F12.out;obtain⟨⟨d0,d1,d2,d3⟩,e0,e1,e2,e3⟩:=Zae hres;have HRES:=Hd hres;have HFR:=Hd hfr;clear hres hfr hh;go_wp2_with fail
         rw[HE.out];exact endT rfl rfl rfl HRES.out HFR.out Q12.out HRB.out (Zho _ _ 0 [])
        | false=>
         rw[hh] at p3;have hok:=Zk8 HB9.out (by rw[←HHD.out];exact hh);have HHB:=Hd (show (sk.head [58]).2.bad=false by rw[←HHD.out];exact hh);have HOK:=Hd hok.1;have HOL:=Hd hok.2;have HNT:=Hd (show (sk.head [58]).1.t=nt by show sk.name.1.t=nt;rw[←HNMT.out]);have HLF:=Hd HR.out.qs.left;obtain⟨n'',hn''⟩:∃n'',n'=n''+1:=⟨n' - 1,by have:=HR.out.fuel;have:=HR.out.qs.len.2;omega⟩;have HNN:=Hd hn'';have hd2:hd12.2=⟨sk.ts.tail.tail,sk.nd,false⟩:=by rw[HHD.out,HOK.out]
         have HD2:=Hd hd2;obtain⟨hres,hown,hcs,hfr⟩:=RcQ.frm HR.out F12.out;obtain⟨⟨d0,d1,d2,d3⟩,-⟩:=Zae hown;obtain⟨⟨t0,t1,t2⟩,-⟩:=Zan HT12.out;have HOWN:=Hd hown;have HCS:=Hd hcs;have HFS:=Hd (show fs.length≤1000000 by have:=HR.out.many;omega);have HH:=Hd (Zla (fs.map (·.1)) (by rw[List.length_map];exact HFS.out) nt _ w12 _ (RcQ.names hcs));have HXL:=Hd (gE hown).1;have HWL:=Hd (gE hres).1;have HTL12:=Hd (gE HT12.out).1;clear hok hn'' hd2 hres hown hcs hfr;obtain⟨tw,htw⟩:∃tw:Bool,tw=decide (nt∈fs.map (·.1)):=⟨_,rfl⟩;rw[←htw] at HH;have HTW:=Hd htw;have H9F:=Hd (show Fou w12 rb 92 (.slice (some ⟨g,0,none⟩) all.length cap) (.int .i64 i) vd (.bool false) by have:=H9.out;rw[hh] at this;exact this);obtain⟨s13,hs13⟩:=eX ((if tw=true then hd12.2.more else hd12.2));have HS13:=Hd hs13;have HTS13:=Hd (show s13.ts=hd12.2.ts by rw[hs13];cases tw<;>rfl);obtain⟨⟨u,s8⟩,hu⟩:∃p,p=qt s13:=⟨_,rfl⟩;obtain⟨uk,un,uns,ul⟩:=u;have HLE8:=Hd (show s8.ts.length+2≤sk.ts.length by
          have h1:=HQT.out s13;rw[←hu,HTS13.out,HD2.out] at h1;have h2:=HOL.out;have h1:s8.ts.length≤sk.ts.tail.tail.length:=h1;omega)
         have HU:=Hd hu;have HBM:=Hd (show hd12.2.nd+1+2*hd12.2.ts.length+1≤M by
          have h1:=HR.out.qs.bd;have h2:=HOL.out;rw[HB9.out] at h1;rw[HD2.out];simp only[ff,if_false] at h1⊢;omega)
         have HHF:=Hd hh;clear htw hs13 hu hh;go_wp2_with fail
         refine HH.out.mono ?_;rintro e w13 ⟨rfl,rfl⟩;go_upto_if 107 with fail
         go_cut [] from 108 to 121 (fun wx=>QS B M wx rb all s13∧Fr B w12 wx)
         case first=>
          cases tw with
          | false=>
           have HSS:=Hd (show s13=hd12.2 by rw[HS13.out];rfl);go_wp2_with fail
           go_meet
           exact⟨by rw[HSS.out];exact Q12.out,Fr.refl _ _⟩
          | true=>
           have HSS:=Hd (show s13=hd12.2.more by rw[HS13.out];rfl);go_wp2_with fail
           obtain⟨vt,vd',i',xs,k6,-,k8,-⟩:=Q12.out.ex;rw[H9F.out] at k6;simp only[Option.some.injEq,Obj.cells.injEq,Array.mk.injEq,List.cons.injEq,and_true] at k6;obtain⟨rfl,-,rfl,-⟩:=k6;obtain⟨nd,hnd⟩:=eX (hd12.2.nd);rw[←hnd] at k8;have HBN:=Hd (show nd+1+2*hd12.2.ts.length+1≤M by rw[hnd];exact HBM.out);have R65:Hid (∀W:World,W.heap=(w12.alloc (.cells #[.int .i64 na,.int .i64 4,.string ⟨nt.toArray⟩] 192)).heap→W.ownsRow B 192 3 vd nd xs):=fun W e=>by
            have:=k8.alloc (.cells #[.int .i64 na,.int .i64 4,.string ⟨nt.toArray⟩] 192);refine⟨this.1,?_⟩;rw[e];exact this.2
           have hmx:nd+1≤maxLen:=by have:=HBN.out;unfold maxLen;omega
           have hmb:(nd+1)*32≤140737488355328:=by have:=HBN.out;omega
           have HBS:=Hd (show B≤w12.heap.size+1 by have:=Q12.out.hi;omega);have HN65:=Hd (World.news_of_block (hN w12 (.cells #[.int .i64 na,.int .i64 4,.string ⟨nt.toArray⟩] 192)));have HPL:=Hd Q12.out.lt;have HNE:=Hd (show some rb≠vd.ownBlock from fun e=>by
            rcases k8.2 with ⟨rfl,_⟩ | ⟨g',cap',cur,rfl,_,hgg,_⟩
            ·cases e
            ·simp only[Value.ownBlock,Option.some.injEq] at e;subst e;rw[H9F.out] at hgg;cases hgg)
           have hpl:=HPL.out;have hrbn:¬rb=w12.heap.size:=Nat.ne_of_lt hpl;have htn:¬w10.heap.size=w12.heap.size:=Nat.ne_of_lt HTL12.out;have HND:=Hd hnd;clear k8 hnd;go_region_law (refine step_append_lies _ rfl (.tmp 112) (.tmp 118) 54 rfl B 192 i0 _ 3 32 Tryz.underlying54 hi0 hz0 hz1 hz2 rfl (by decide) vd nd xs rfl (R65.out _ rfl) ⟨w12.heap.size,0,none⟩ 1 1 [.int .i64 na,.int .i64 4,.string ⟨nt.toArray⟩] rfl rfl (fun j u hu=>HN65.out j u hu) one3 (by decide) hmx hmb (by simpa using HBS.out) _ rfl ?_;intro g' cap' W5 hown5 hg5 hloc5 hlt5;(have hp5:Fou W5 rb 92 (.slice (some ⟨g,0,none⟩) all.length cap) (.int .i64 i) vd (.bool false):=(hg5.block rb (Nat.lt_succ_of_lt HPL.out |> fun h=>by simpa using h) HNE.out).trans (Zab H9F.out (.cells #[.int .i64 na,.int .i64 4,.string ⟨nt.toArray⟩] 192)));obtain⟨⟨e0,e1,e2,e3⟩,y0,y1,y2,y3⟩:=Zae hp5;(have HO5:=Hd hown5);(have HG5:=Hd hg5);(have HL5:=Hd hloc5);clear hown5 hg5 hloc5 hp5)
           all_goals
            go_wp2_with fail
            go_meet
            have hg6:(w12.alloc (.cells #[.int .i64 na,.int .i64 4,.string ⟨nt.toArray⟩] 192)).grownBy W5 vd.ownBlock:=⟨HG5.out.os,HG5.out.tape,HG5.out.output,HG5.out.size,HG5.out.block⟩;obtain⟨a1,a2⟩:=(Q12.out.alloc (.cells #[.int .i64 na,.int .i64 4,.string ⟨nt.toArray⟩] 192)).told (Zab H9F.out _) hg6 (by rw[←HND.out];exact HO5.out) rfl;rw[←HND.out] at a1 a2;refine⟨?_,((Fr.refl B w12).alloc _).trans a2⟩;rw[HSS.out];refine a1.reM ?_;show hd12.2.nd+1+2*hd12.2.ts.length+(if hd12.2.bad=true then 0 else 1)≤M;have:=HBM.out;rw[HHF.out]
            simpa using this
         case rest=>
          obtain⟨q13,f13⟩:=hcut;have HTY:=Hd (Zcg HT.out wc s13 q13 uk un uns ul s8 HU.out);have F13:=Hd (F12.out.trans f13);have HT13:=mF3 f13 HT12 (by decide);have HZ13:=Hd f13.size;clear q13 f13 p0 p1 p2 p3 r0 r1 r2 r3 d0 d1 d2 d3 t0 t1 t2;go_wp2_with fail
          refine HTY.out.mono ?_;rintro e w14 ⟨a2',c2',a3',c3',rfl,f14,i14,q14⟩;obtain⟨W15,hW15⟩:=eY (w14.alloc (.cells #[.int .i64 uk,.string ⟨un.toArray⟩,.slice a2' uns.length c2',.slice a3' ul.length c3'] 31));have b15:Below w14.heap.size w14 W15:=by rw[←hW15];exact (Below.refl _ _).alloc (nl _) _
          have HX15:=Hd (show Fou W15 w14.heap.size 31 (.int .i64 uk) (.string ⟨un.toArray⟩) (.slice a2' uns.length c2') (.slice a3' ul.length c3') by rw[←hW15];exact hN w14 _);have F15:=Hd (F13.out.trans (f14.below b15));have Q15:=Hd (q14.below b15);have HXC15:=Hd ((i14.below b15).mono (A':=fun b=>w.heap.size<b∧b≠hx) (fun b _ hb=>by have:=HXL.out;have:=HWL.out;have:=HZ13.out;omega));obtain⟨-,hown15,hcs15,-⟩:=RcQ.frm HR.out F15.out;have HT15:=Hd (show Thr W15 w10.heap.size 96 _ _ _ from (f14.below b15).cells HT13.out (by decide));have HOWN15:=Hd hown15;have HCS15:=Hd hcs15;have HW15:=Hd hW15;clear f14 i14 q14 hW15 b15 hcs15 hown15 HTY HH;go_upto_region 32 with fail
          rw[HW15.out];cases tw with
          | true=>
           have HUN:=Hd (show recO qt n'' fs s8.comma=out by
            rw[←HR.out.un,HNN.out,Zkm HB9.out H5.out HHB.out (by rw[HNT.out];simpa using HTW.out.symm),←HHD.out,show hd12.2.more=s13 by rw[HS13.out];rfl,←HU.out])
           obtain⟨W17,hW17⟩:=eX (W15);have HR17:=Hd (RcQ.twice HR.out F15.out Q15.out HUN.out HLE8.out HNN.out);rw[←hW17] at HR17⊢;clear hW17;obtain⟨q17,HQX⟩:QS B M W17 rb all s8∧True:=⟨HR17.out.qs,trivial⟩;have HI17:=Hd (Zao q17 [125]);have Q17:=Hd q17;clear q17 HQX;cases h7:s8.is [125] with
           | true=>
            rw[h7] at HI17;have HCM:=Hd (show s8=s8.comma by unfold Q.comma;rw[h7,if_pos rfl]);clear h7;go_wp2_with fail
            refine HI17.out.mono ?_;rintro e w18 ⟨rfl,b18⟩;have HF:=Hd (HR17.out.fin (Fr.of_below b18) (Q17.out.below b18) HCM.out);clear b18 HI17;go_wp2_with fail
            refine⟨⟨_,_,_,_,_,_,_,HF⟩,?_⟩;rw[HF.out.qs.left,HLF.out];have:=HLE8.out;omega
           | false=>
            rw[h7] at HI17;have H7:=Hd h7;clear h7;go_wp2_with fail
            refine HI17.out.mono ?_;rintro e w18 ⟨rfl,b18⟩;have HTK8:=Hd (Zah hM (Q17.out.below b18) [44]);have F18:=Hd (Fr.of_below (n₀:=B) b18);clear b18 HI17;go_wp2_with fail
            refine HTK8.out.mono ?_;rintro e w19 ⟨rfl,q19,f19⟩;have F19:=Hd (F18.out.trans f19);have HI19:=Hd (Zao q19 [125]);have Q19:=Hd q19;clear q19 f19 HTK8;cases h8:(s8.take [44]).is [125] with
            | true=>
             rw[h8] at HI19;have HCM:=Hd (show (s8.take [44]).give=s8.comma by unfold Q.comma;rw[H7.out,if_neg (by decide),h8,if_pos rfl]);clear h8;go_wp2_with fail
             refine HI19.out.mono ?_;rintro e w20 ⟨rfl,b20⟩;have HGV:=Hd (ZbR hM (Q19.out.below b20) 2);have F20:=Hd (F19.out.below b20);clear b20 HI19;go_wp2_with fail
             refine HGV.out.mono ?_;rintro e w21 ⟨rfl,q21,f21⟩;have HF:=Hd (HR17.out.fin (F20.out.trans f21) q21 HCM.out);have HLC:=Hd (Nat.le_trans (Nat.le_of_eq (congrArg (fun z:Q=>z.ts.length) HCM.out)) (Zb5 s8));clear q21 f21 HGV;go_wp2_with fail
             refine⟨⟨_,_,_,_,_,_,_,HF⟩,?_⟩;rw[HF.out.qs.left,HLF.out];have:=HLE8.out;have:=HLC.out;omega
            | false=>
             rw[h8] at HI19;have HCM:=Hd (show s8.take [44]=s8.comma by unfold Q.comma;rw[H7.out,if_neg (by decide),h8,if_neg (by decide)]);clear h8;go_wp2_with fail
             refine HI19.out.mono ?_;rintro e w20 ⟨rfl,b20⟩;have HF:=Hd (HR17.out.fin (F19.out.below b20) (Q19.out.below b20) HCM.out);have HLC:=Hd (Nat.le_trans (Nat.le_of_eq (congrArg (fun z:Q=>z.ts.length) HCM.out)) (Zb5 s8));clear b20 HI19;go_wp2_with fail
             refine⟨⟨_,_,_,_,_,_,_,HF⟩,?_⟩;rw[HF.out.qs.left,HLF.out];have:=HLE8.out;have:=HLC.out;omega
          | false=>
           have HUN:=Hd (show recO qt n'' (insT fs nt (.mk uk un uns ul)) s8.comma=out by
            rw[←HR.out.un,HNN.out,Zmd HB9.out H5.out HHB.out (by rw[HNT.out];simpa using HTW.out.symm),←HHD.out,show hd12.2=s13 by rw[HS13.out];rfl,←HU.out,HHD.out,HNT.out])
           have HINS:=Hd (Zjt fs HFS.out nt (.mk uk un uns ul) _ W15 a2 a3 c2 c3 _ HCS15.out HR.out.no HXC15.out);obtain⟨⟨d0,d1,d2,d3⟩,-⟩:=Zae HOWN15.out;obtain⟨⟨t0,t1,t2⟩,-⟩:=Zan HT15.out;obtain⟨⟨z0,z1,z2,z3⟩,-⟩:=Zae HX15.out;go_wp2_with fail
           refine HINS.out.mono ?_;rintro e w16 ⟨b16,b2,d2',b3,d3',rfl,i16⟩;have HR16:=Hd (RcQ.once HR.out F15.out Q15.out HUN.out HLE8.out HNN.out b16 i16);obtain⟨⟨v0,v1,v2,v3⟩,f0,f1,f2,f3⟩:=Zae (t:=31) ((b16.block _ (gE HOWN15.out).1).trans HOWN15.out);obtain⟨W17,hW17⟩:=eY (putL w16 hx [.int .i64 5,.string ⟨#[]⟩,.slice b2 (fs.length+1) d2',.slice b3 (fs.length+1) d3']);have HR17:=Hd HR16.out;rw[hW17] at HR17;have HW17:=Hd hW17;clear d0 d1 d2 d3 t0 t1 t2 z0 z1 z2 z3 i16 b16 hW17 HINS HR16;go_upto_region 34 with fail
           have e17:=HW17.out;simp only[putL,World.setCells] at e17;rw[e17];clear e17;obtain⟨q17,HQX⟩:QS B M W17 rb all s8∧True:=⟨HR17.out.qs,trivial⟩;have HI17:=Hd (Zao q17 [125]);have Q17:=Hd q17;clear q17 HQX;cases h7:s8.is [125] with
           | true=>
            rw[h7] at HI17;have HCM:=Hd (show s8=s8.comma by unfold Q.comma;rw[h7,if_pos rfl]);clear h7;go_wp2_with fail
            refine HI17.out.mono ?_;rintro e w18 ⟨rfl,b18⟩;have HF:=Hd (HR17.out.fin (Fr.of_below b18) (Q17.out.below b18) HCM.out);clear b18 HI17;go_wp2_with fail
            refine⟨⟨_,_,_,_,_,_,_,HF⟩,?_⟩;rw[HF.out.qs.left,HLF.out];have:=HLE8.out;omega
           | false=>
            rw[h7] at HI17;have H7:=Hd h7;clear h7;go_wp2_with fail
            refine HI17.out.mono ?_;rintro e w18 ⟨rfl,b18⟩;have HTK8:=Hd (Zah hM (Q17.out.below b18) [44]);have F18:=Hd (Fr.of_below (n₀:=B) b18);clear b18 HI17;go_wp2_with fail
            refine HTK8.out.mono ?_;rintro e w19 ⟨rfl,q19,f19⟩;have F19:=Hd (F18.out.trans f19);have HI19:=Hd (Zao q19 [125]);have Q19:=Hd q19;clear q19 f19 HTK8;cases h8:(s8.take [44]).is [125] with
            | true=>
             rw[h8] at HI19;have HCM:=Hd (show (s8.take [44]).give=s8.comma by unfold Q.comma;rw[H7.out,if_neg (by decide),h8,if_pos rfl]);clear h8;go_wp2_with fail
             refine HI19.out.mono ?_;rintro e w20 ⟨rfl,b20⟩;have HGV:=Hd (ZbR hM (Q19.out.below b20) 2);have F20:=Hd (F19.out.below b20);clear b20 HI19;go_wp2_with fail
             refine HGV.out.mono ?_;rintro e w21 ⟨rfl,q21,f21⟩;have HF:=Hd (HR17.out.fin (F20.out.trans f21) q21 HCM.out);have HLC:=Hd (Nat.le_trans (Nat.le_of_eq (congrArg (fun z:Q=>z.ts.length) HCM.out)) (Zb5 s8));clear q21 f21 HGV;go_wp2_with fail
             refine⟨⟨_,_,_,_,_,_,_,HF⟩,?_⟩;rw[HF.out.qs.left,HLF.out];have:=HLE8.out;have:=HLC.out;omega
            | false=>
             rw[h8] at HI19;have HCM:=Hd (show s8.take [44]=s8.comma by unfold Q.comma;rw[H7.out,if_neg (by decide),h8,if_neg (by decide)]);clear h8;go_wp2_with fail
             refine HI19.out.mono ?_;rintro e w20 ⟨rfl,b20⟩;have HF:=Hd (HR17.out.fin (F19.out.below b20) (Q19.out.below b20) HCM.out);have HLC:=Hd (Nat.le_trans (Nat.le_of_eq (congrArg (fun z:Q=>z.ts.length) HCM.out)) (Zb5 s8));clear b20 HI19;go_wp2_with fail
             refine⟨⟨_,_,_,_,_,_,_,HF⟩,?_⟩;rw[HF.out.qs.left,HLF.out];have:=HLE8.out;have:=HLC.out;omega
theorem Zi5{B M rb:Nat}{all:List Tk}(hM:M≤10000000)(d:Nat)(hd64:d≤64)(qt:Q→PT×Q)(hqt:∀s,(qt s).2.ts.length≤s.ts.length)(HT:RdsT 45 B M rb all (d+1) qt) :
  RdsT 134 B M rb all d (Zbx qt):=by
 intro w s h;cases hb:s.bad with
 | true=>exact ZeV d qt w s h (.inl hb)
 | false=>
  by_cases hk:(hd s.ts).k=1
  ·exact ZeV d qt w s h (.inr hk)
  ·by_cases hw:∃m,m<4∧s.is (wd4 m)=true
   ·exact Zhw hM d hd64 qt hqt HT w s h hb hk hw
   ·have hn:∀m,m<4→s.is (wd4 m)=false:=fun m hm=>by
     cases h1:s.is (wd4 m) with
     | false=>rfl
     | true=>exact absurd ⟨m,hm,h1⟩ hw
    cases h5:s.is [123] with
    | false=>exact ZgU hM d hd64 qt hqt HT w s h hb hk hn h5
    | true=>exact Zi4 hM d hd64 qt hqt HT w s h hb hk hn h5
theorem Zf2{B M rb:Nat}{all:List Tk}(hM:M≤10000000):∀(n d:Nat),n+d=65→RdsT 45 B M rb all d (qTyp n)∧(1≤n→RdsT 84 B M rb all d (qArr n))
 | 0,d,h=>by
  obtain rfl:d=65:=by omega
  exact⟨Zi3 hM,fun h=>absurd h (by decide)⟩
 | n+1,d,h=>by
  obtain⟨h1,h2⟩:=Zf2 (B:=B) (rb:=rb) (all:=all) hM n (d+1) (by omega);have hp:=Zi5 hM d (by omega) (qTyp n) (Zka (Zhv n).1 (Zcz n).1) h1;have ha:RdsT 84 B M rb all d (qArr (n+1)):=by
   have:=Zje hM d (by omega) (Zbx (qTyp n)) (qArr n) hp (fun _=>h2 (by omega));have e:(d==64)=(n==0):=by
    by_cases hn:n=0
    ·subst hn;have:d=64:=by omega
     subst this;rfl
    ·have h1:(n==0)=false:=by simpa using hn
     have h2:(d==64)=false:=by simp;omega
     rw[h1,h2]
   rw[e] at this;exact this
  refine⟨?_,fun _=>ha⟩;exact Zkv hM d (by omega) (qArr (n+1)) (Zka (Zhv (n+1)).2 (Zcz (n+1)).2) ha
end Go.Proofs.YtijnjoonbjdafaaGreatDoor

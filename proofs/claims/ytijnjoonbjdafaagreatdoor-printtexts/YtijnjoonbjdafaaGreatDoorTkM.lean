import Derived.Test.YtijnjoonbjdafaaGreatDoorLxM
import Derived.Deep.RegionHeld3
import Derived.RegionDies
import Derived.Deep.CutRange
namespace Go.Proofs.YtijnjoonbjdafaaGreatDoor
set_option maxHeartbeats 20000000
set_option maxRecDepth 20000
open Go.RowKit Go.Shelf
def Thr (w:World)(b:Nat)(t:TypeId)(v0 v1 v2:Value):Prop:=w.heap[b]?=some (.cells #[v0,v1,v2] t (0,0))
theorem Zan{w:World}{b:Nat}{t:TypeId}{v0 v1 v2:Value}(h:Thr w b t v0 v1 v2) :
  (w.cell? ⟨b,0,none⟩=some v0∧w.cell? ⟨b,1,none⟩=some v1∧w.cell? ⟨b,2,none⟩=some v2)∧
  w.frozen? ⟨b,0,none⟩=false∧w.frozen? ⟨b,1,none⟩=false∧w.frozen? ⟨b,2,none⟩=false:=by
 unfold Thr at h;simp[World.cell?,World.frozen?,h]
abbrev put3 (w:World)(b:Nat)(u0 u1 u2:Value):World:=((w.setCell ⟨b,0,none⟩ u0).setCell ⟨b,1,none⟩ u1).setCell ⟨b,2,none⟩ u2
theorem ZeL{w:World}{b:Nat}{t:TypeId}{v0 v1 v2:Value}(h:Thr w b t v0 v1 v2)(u0 u1 u2:Value):Thr (put3 w b u0 u1 u2) b t u0 u1 u2:=by
 unfold Thr at *;have h0:=heap_setCell_same w b 0 _ _ u0 h;have h1:=heap_setCell_same _ b 1 _ _ u1 h0;exact heap_setCell_same _ b 2 _ _ u2 h1
theorem ZjC{n b:Nat}{w w':World}(h:Below n w w')(hb:n≤b)(u0 u1 u2:Value):Below n w (put3 w' b u0 u1 u2):=
 ((h.setCell (p:=⟨b,0,none⟩) hb u0).setCell (p:=⟨b,1,none⟩) hb u1).setCell (p:=⟨b,2,none⟩) hb u2
theorem ret72{f:Func}{R:Ending→World→Prop}{a:Act}{w:World}{b:Nat}{u0 u1 u2:Value}(hf:f.results=#[.cell 2 105])(ht:a.eval (.tmp 2)=.pointer (some ⟨b,0,none⟩))(hd:a.defers=[])
  (h:Thr w b 105 u0 u1 u2) (hR:R (.returned (.agg #[u0,u1,u2])) w):bodyPost Tryz.prog f R Exit.ret a w:=by
 obtain⟨⟨c0,c1,c2⟩,-⟩:=Zan h;refine bodyPost_ret ?_ hd hR;simp[Act.eval] at ht;simp[results,hf,go_sem,c0,c1,c2,ht]
theorem ret103{f:Func}{R:Ending→World→Prop}{a:Act}{w:World}{b:Nat}{u0 u1 u2:Value}(hf:f.results=#[.cell 2 155])(ht:a.eval (.tmp 2)=.pointer (some ⟨b,0,none⟩))(hd:a.defers=[])
  (h:Thr w b 155 u0 u1 u2) (hR:R (.returned (.agg #[u0,u1,u2])) w):bodyPost Tryz.prog f R Exit.ret a w:=by
 obtain⟨⟨c0,c1,c2⟩,-⟩:=Zan h;refine bodyPost_ret ?_ hd hR;simp[Act.eval] at ht;simp[results,hf,go_sem,c0,c1,c2,ht]
theorem ZaI (w:World)(t:TypeId)(v0 v1 v2:Value):Thr (w.alloc (.cells #[v0,v1,v2] t)) w.heap.size t v0 v1 v2:=hN w _
theorem Zab{w:World}{b:Nat}{o:Obj}(h:w.heap[b]?=some o)(x:Obj):(w.alloc x).heap[b]?=some o:=(Below.heap_alloc _ _ _ (gE h).1).trans h
def tokV (t:Tk):Value:=.agg #[.int .i64 t.k,.int .i64 t.a,.string ⟨t.t.toArray⟩]
theorem Zcl{B M:Nat}{w:World}{pb:Nat}{all ts:List Tk}{told:List Dn}(h:PS B M w pb all ts told) :
  Calls Tryz.prog 53 #[.pointer (some ⟨pb,0,none⟩)] w fun e w'=>e=.returned (tokV (hd ts))∧Below w.heap.size w w':=by
 obtain⟨g,cap,i,vd,h6,hi,hb,hg,c0,c1,c2,-⟩:=h.first
 obtain⟨⟨p0,p1,p2⟩,-⟩:=Zan h6;have hpb:=h.lt;go_enter Tryz.func53,Tryz.ntmps53
 go_wp2_with fail
 go_region
 go_wp2_with fail
 exact ret72 rfl rfl rfl (ZaI w 105 _ _ _) ⟨rfl,((Below.refl _ w).alloc (nl _) _).drew⟩
theorem ZiD{m:Bs}{ts:List Tk}:isM m ts=((((hd ts).k:Int)==2 || ((hd ts).k:Int)==5)&&((hd ts).t==m)):=by
 unfold isM;have h2:(((hd ts).k:Int)==2)=((hd ts).k==2):=by rw[Bool.eq_iff_iff];simp;omega
 have h5:(((hd ts).k:Int)==5)=((hd ts).k==5):=by rw[Bool.eq_iff_iff];simp;omega
 rw[h2,h5]
theorem isM_k{m:Bs}{ts:List Tk}(h:isM m ts=true):(hd ts).k≠6∧(hd ts).k≠1∧(hd ts).k≠3∧(hd ts).k≠4∧(hd ts).t=m:=by
 simp only[isM,Bool.and_eq_true,Bool.or_eq_true,beq_iff_eq] at h;obtain⟨h1 | h1,h2⟩:=h<;>refine⟨by omega,by omega,by omega,by omega,h2⟩
theorem Zl8{B M:Nat}{w:World}{pb:Nat}{all ts:List Tk}{told:List Dn}(h:PS B M w pb all ts told)(m:Bs) :
  Calls Tryz.prog 129 #[.pointer (some ⟨pb,0,none⟩),.string ⟨m.toArray⟩] w fun e w'=>e=.returned (.bool (isM m ts))∧Below w.heap.size w w':=by
 have hN:=Hd (Zcl h);have HM:=Hd (ZiD (m:=m) (ts:=ts));go_enter Tryz.func129,Tryz.ntmps129
 go_wp2_with fail
 refine hN.out.mono ?_;rintro e w1 ⟨rfl,b1⟩;unfold tokV;obtain⟨⟨tk,ta,tt⟩,ht⟩:∃t,t=hd ts:=⟨_,rfl⟩;rw[←ht] at HM⊢;clear ht;simp only at HM⊢;go_wp2_with fail
 all_goals
  go_ret
  refine⟨?_,b1.alloc b1.size _⟩;rw[HM.out]
  simp_all
def gv (y:Dn):PanicEntry:={ v:=.iface 155 (.agg #[.int .i64 y.a,.int .i64 y.d,.string ⟨y.n.toArray⟩]),recovered:=false }
def Post{α:Type}(B M:Nat)(w:World)(pb:Nat)(all:List Tk)(told:List Dn)(val:α→Ending→World→Prop)(r:R α)(e:Ending)(w':World):Prop:=
 Fr B w w'∧match r with
 | .ok x rest d=>val x e w'∧PS B M w' pb all rest (told++d)
 | .bad y rest d=>e=.panicked [gv y]∧PS B M w' pb all rest (told++d)
def vUnit (_:Unit)(e:Ending)(_:World):Prop:=e=.returned (.tuple #[])
def vTok (t:Tk)(e:Ending)(_:World):Prop:=e=.returned (tokV t)
theorem PS.pass{B M:Nat}{w:World}{pb:Nat}{all ts:List Tk}{told:List Dn}(h:PS B M w pb all ts told)(hk:(hd ts).k≠6){v0 v2:Value}{i:Nat}(hp:w.heap[pb]?=some (.cells #[v0,.int .i64 i,v2] 112 (0,0))) :
  PS B M (w.setCell ⟨pb,1,none⟩ (.int .i64 ((i:Int)+1))) pb all ts.tail told∧Fr B w (w.setCell ⟨pb,1,none⟩ (.int .i64 ((i:Int)+1))):=by
 rw[show (i:Int)+1=((i+1:Nat):Int) by omega];have hF:Fr B w (w.setCell ⟨pb,1,none⟩ (.int .i64 ((i+1:Nat):Int))):=(Fr.refl B w).setOwn hp (by decide) h.lo _;obtain⟨h1,h2,⟨p,e,h3,h3'⟩,h4,h5,vt,vd,j,h6,h7,h8,h9,h10⟩:=h;rw[hp] at h6;simp only[Option.some.injEq,Obj.cells.injEq,Array.mk.injEq,List.cons.injEq,and_true,true_and,Value.int.injEq] at h6;obtain⟨rfl,hij,rfl⟩:=h6;have hij':i=j:=by omega
 subst hij';have hs:=heap_setCell_same w pb 1 _ _ (.int .i64 ((i+1:Nat):Int)) hp;have hne:∀{base:Nat}{e:TypeId}{v:Value}{n:Nat}{xs:List Value},w.ownsRow base e 3 v n xs→e≠112→(w.setCell ⟨pb,1,none⟩ (.int .i64 ((i+1:Nat):Int))).ownsRow base e 3 v n xs:=by
  intro base e v n xs hr he;refine⟨hr.1,?_⟩;rcases hr.2 with hn | ⟨g,cap,cur,hv,hg0,hg,rest⟩
  ·exact .inl hn
  ·refine .inr ⟨g,cap,cur,hv,hg0,(Below.heap_setCell w ⟨pb,1,none⟩ _ g ?_).trans hg,rest⟩;rintro rfl;rw[hp] at hg;cases hg;exact he rfl
 refine⟨⟨h1,by simpa[World.setCell] using h2,?_,?_,h5,v0,v2,i+1,hs,hne h7 (by decide),hne h8 (by decide),?_,h10⟩,hF⟩
 ·cases p with
  | nil=>simp at h3;subst h3;exact absurd h3' hk
  | cons x r=>exact⟨r,e,by rw[h3];rfl,h3'⟩
 ·rw[List.length_tail];omega
 ·rw[h9,List.tail_drop]
theorem ZcS{B M:Nat}{w:World}{pb:Nat}{all ts:List Tk}{told:List Dn}(h:PS B M w pb all ts told)(hk:(hd ts).k≠6) :
  Calls Tryz.prog 99 #[.pointer (some ⟨pb,0,none⟩)] w fun e w'=>e=.returned (.tuple #[])∧PS B M w' pb all ts.tail told∧Fr B w w':=by
 obtain⟨g,cap,i,vd,h6,hi,hb,-⟩:=h.first
 obtain⟨⟨p0,p1,p2⟩,f0,f1,f2⟩:=Zan h6;have HP:=Hd (h.pass hk h6);clear h hk h6;go_enter Tryz.func99,Tryz.ntmps99
 go_wp2_with fail
 go_end0
 exact⟨rfl,HP.out.1,HP.out.2⟩
theorem Zay{B M:Nat}{w:World}{pb:Nat}{all ts:List Tk}{told:List Dn}(h:PS B M w pb all ts told)(m:Bs) :
  Calls Tryz.prog 81 #[.pointer (some ⟨pb,0,none⟩),.string ⟨m.toArray⟩] w fun e w'=>e=.returned (.bool (isM m ts))∧PS B M w' pb all (if isM m ts then ts.tail else ts) told∧Fr B w w':=by
 have HS:=Hd (Zl8 h m);have H:=Hd h;clear h;cases hm:isM m ts with
 | true=>
  have HK:=Hd (isM_k hm).1;rw[hm] at HS;clear hm;go_enter Tryz.func81,Tryz.ntmps81
  go_wp2_with fail
  refine HS.out.mono ?_;rintro e w1 ⟨rfl,b1⟩;go_wp2_with fail
  refine (ZcS (H.out.below b1) HK.out).mono ?_;rintro e w2 ⟨rfl,p2,f2⟩;go_wp2_with fail
  go_ret
  exact⟨rfl,p2,(Fr.of_below b1).trans f2⟩
 | false=>
  rw[hm] at HS;clear hm;go_enter Tryz.func81,Tryz.ntmps81
  go_wp2_with fail
  refine HS.out.mono ?_;rintro e w1 ⟨rfl,b1⟩;go_wp2_with fail
  go_ret
  exact⟨rfl,H.out.below b1,Fr.of_below b1⟩
def gvV (y:Dn):Value:=.agg #[.int .i64 y.a,.int .i64 y.d,.string ⟨y.n.toArray⟩]
theorem ZbX{B M:Nat}{w:World}{pb:Nat}{all ts:List Tk}{told:List Dn}(h:PS B M w pb all ts told) :
  Calls Tryz.prog 79 #[.pointer (some ⟨pb,0,none⟩)] w fun e w'=>e=.returned (gvV (syn ts))∧Below w.heap.size w w':=by
 have HN:=Hd (Zcl (h.alloc (.cells #[.int .i64 0,.int .i64 0,.string ⟨#[]⟩] 155)));clear h;go_enter Tryz.func79,Tryz.ntmps79
 go_wp2_with fail
 refine HN.out.mono ?_;rintro e w1 ⟨rfl,b1⟩;have h3:Thr w1 w.heap.size 155 (.int .i64 0) (.int .i64 0) (.string ⟨#[]⟩):=(b1.block _ (by simp)).trans (ZaI w 155 _ _ _);obtain⟨⟨c0,c1,c2⟩,f0,f1,f2⟩:=Zan h3;have hlt:w.heap.size<w1.heap.size:=by have:=b1.size;simp at this;omega
 have hne:¬w.heap.size=w1.heap.size:=by omega
 have B1:=Hd b1;clear b1;unfold tokV;go_wp2_with fail
 have b2:Below w.heap.size w w1:=(((Below.refl _ w).alloc (nl _) _).trans (B1.out.mono (by simp)));exact ret103 rfl rfl rfl (Zab (ZeL h3 _ _ _) _) ⟨rfl,(ZjC b2 (nl _) _ _ _).alloc (by simpa[World.setCell] using b2.size) _⟩
theorem Zap{f:Func}{R:Ending→World→Prop}{ch:List PanicEntry}{a:Act}{w:World}(hd:a.defers=[])(h:R (.panicked ch) w):bodyPost Tryz.prog f R (.panic ch) a w:=⟨hd,h⟩
theorem ZaU{B M:Nat}{w:World}{pb:Nat}{all ts:List Tk}{told:List Dn}(h:PS B M w pb all ts told)(m:Bs) :
  Calls Tryz.prog 98 #[.pointer (some ⟨pb,0,none⟩),.string ⟨m.toArray⟩] w (Post B M w pb all told vUnit (want m ts)):=by
 have HT:=Hd (Zay h m);have H:=Hd h;clear h;cases hm:isM m ts with
 | true=>
  have hw:want m ts=.ok () ts.tail []:=by simp[want,hm]
  rw[hw];rw[hm,if_pos rfl] at HT;clear hm hw;go_enter Tryz.func98,Tryz.ntmps98
  go_wp2_with fail
  refine HT.out.mono ?_;rintro e w1 ⟨rfl,p1,f1⟩;go_wp2_with fail
  go_end0
  exact⟨f1,rfl,by rw[List.append_nil];exact p1⟩
 | false=>
  have hw:want m ts=.bad (syn ts) ts []:=by simp[want,hm]
  rw[hw];rw[hm,if_neg (by decide)] at HT;clear hm hw;go_enter Tryz.func98,Tryz.ntmps98
  go_wp2_with fail
  refine HT.out.mono ?_;rintro e w1 ⟨rfl,p1,f1⟩;go_wp2_with fail
  refine (ZbX p1).mono ?_;rintro e w2 ⟨rfl,b2⟩;unfold gvV;go_wp2_with fail
  exact Zap rfl ⟨f1.below b2,rfl,by rw[List.append_nil];exact p1.below b2⟩
theorem ZbW{B M:Nat}{w:World}{pb:Nat}{all ts:List Tk}{told:List Dn}(h:PS B M w pb all ts told) :
  Calls Tryz.prog 136 #[.pointer (some ⟨pb,0,none⟩)] w (Post B M w pb all told vTok (Zaj ts)):=by
 have HN:=Hd (Zcl (h.alloc (.cells #[.int .i64 0,.int .i64 0,.string ⟨#[]⟩] 105)));have H:=Hd (h.alloc (.cells #[.int .i64 0,.int .i64 0,.string ⟨#[]⟩] 105));have HPB:=Hd h.lt;clear h;have hd6:(hd ts).k=1→(hd ts).k≠6:=by omega
 obtain⟨t,ht⟩:=eX (hd ts);by_cases hk:(hd ts).k=1
 ·have hw:Zaj ts=.ok (hd ts) ts.tail []:=by simp[Zaj,hk]
  have HK:=Hd (hd6 hk);rw[hw];rw[←ht] at HN hk⊢;have HT:=Hd ht;clear hw hd6 ht;have hk1:(t.k:Int)=1:=by omega
  have hk2:((t.k:Int)==1)=true:=by simpa using hk1
  go_enter Tryz.func136,Tryz.ntmps136
  go_wp2_with fail
  refine HN.out.mono ?_;rintro e w1 ⟨rfl,b1⟩;have h3:Thr w1 w.heap.size 105 (.int .i64 0) (.int .i64 0) (.string ⟨#[]⟩):=(b1.block _ (by simp)).trans (ZaI w 105 _ _ _);have hlt:w.heap.size<w1.heap.size:=by have:=b1.size;simp at this;omega
  have B1:=Hd b1;clear b1;unfold tokV;go_wp2_with fail
  refine (ZcS ((H.out.below B1.out).alloc _) HK.out).mono ?_;rintro e w2 ⟨rfl,p2,f2⟩;have g1:Thr w2 w.heap.size 105 (.int .i64 0) (.int .i64 0) (.string ⟨#[]⟩):=f2.cells (Zab h3 _) (by decide);have g2:Thr w2 w1.heap.size 105 _ _ _:=f2.cells (ZaI w1 105 _ _ _) (by decide);obtain⟨⟨c0,c1,c2⟩,u0,u1,u2⟩:=Zan g1;obtain⟨⟨d0,d1,d2⟩,-⟩:=Zan g2;have hF:Fr B w w2:=((Fr.of_below (((Below.refl w.heap.size w).alloc (nl _) _).trans (B1.out.mono (by simp)))).alloc _).trans f2;have P2:=Hd p2;have F:=Hd hF;clear p2 f2 hF;go_wp2_with fail
  refine ret72 rfl rfl rfl (ZeL g1 _ _ _) ⟨F.out.putL (nl _) [_,_,_],?_,?_⟩
  ·show _=_;rw[tokV,hk1]
  ·rw[List.append_nil];exact P2.out.putL g1 (by decide) HPB.out [_,_,_]
 ·have hw:Zaj ts=.bad (syn ts) ts []:=by simp[Zaj,hk]
  rw[hw];rw[←ht] at HN hk;clear hw hd6 ht;have hk1:¬(t.k:Int)=1:=by omega
  have hk2:((t.k:Int)==1)=false:=by simpa using hk1
  go_enter Tryz.func136,Tryz.ntmps136
  go_wp2_with fail
  refine HN.out.mono ?_;rintro e w1 ⟨rfl,b1⟩;have B1:=Hd b1;clear b1;unfold tokV;go_wp2_with fail
  refine (ZbX ((H.out.below B1.out).alloc _)).mono ?_;rintro e w2 ⟨rfl,b2⟩;unfold gvV;have P2:=Hd (((H.out.below B1.out).alloc _).below b2);have F:=Hd (((Fr.of_below (n₀:=B) (((Below.refl w.heap.size w).alloc (nl _) _).trans (B1.out.mono (by simp)))).alloc _).below b2);clear b2;go_wp2_with fail
  exact Zap rfl ⟨F.out,rfl,by rw[List.append_nil];exact P2.out⟩
theorem Zgl (x0 x1 x2:Value)(w:World):(Instr.field 105 (.agg #[x0,x1,x2]) 0).run Tryz.prog w=.ok x0 w:=by kernel_rfl
theorem ZhZ (x0 x1 x2:Value)(w:World):(Instr.field 105 (.agg #[x0,x1,x2]) 1).run Tryz.prog w=.ok x1 w:=by kernel_rfl
theorem ZiR{B M:Nat}{w:World}{pb:Nat}{all ts:List Tk}{told:List Dn}(_h:PS B M w pb all ts told)(d:Nat)(hd:d≤64) :
  Calls Tryz.prog 88 #[.pointer (some ⟨pb,0,none⟩),.int .i64 d] w fun e w'=>e=.returned (.tuple #[])∧w'=w:=by
 have h1:decide ((64:Int)<(d:Int))=false:=by simp;omega
 go_enter Tryz.func88,Tryz.ntmps88
 go_wp2_with fail
 go_end0
 exact⟨rfl,rfl⟩
theorem Zhj{B M:Nat}{w:World}{pb:Nat}{all ts:List Tk}{told:List Dn}(h:PS B M w pb all ts told)(d:Nat)(hd:64<d) :
  Calls Tryz.prog 88 #[.pointer (some ⟨pb,0,none⟩),.int .i64 d] w fun e w'=>e=.panicked [gv (deep ts)]∧Below w.heap.size w w':=by
 have h1:decide ((64:Int)<(d:Int))=true:=by simp;omega
 have HN:=Hd (Zcl h);have hfl:=ZhZ;clear h hd;go_enter Tryz.func88,Tryz.ntmps88
 go_wp2_with fail
 refine HN.out.mono ?_;rintro e w1 ⟨rfl,b1⟩;unfold tokV;go_wp2_with fail
 exact Zap rfl ⟨rfl,b1⟩
theorem mF3 {n₀:Nat}{W W':World}{b:Nat}{t:TypeId}{u0 u1 u2:Value}(hF:Fr n₀ W W') (h:Hid (Thr W b t u0 u1 u2)) (ht:stT t=false):Hid (Thr W' b t u0 u1 u2):=Hd (show Thr W' b t u0 u1 u2 from hF.cells h.out ht)
theorem mB3 {W W':World}{b:Nat}{t:TypeId}{u0 u1 u2:Value}(hb:Below W.heap.size W W') (h:Hid (Thr W b t u0 u1 u2)):Hid (Thr W' b t u0 u1 u2):=Hd (show Thr W' b t u0 u1 u2 from (hb.block _ (gE h.out).1).trans h.out)
def Fou (w:World)(b:Nat)(t:TypeId)(v0 v1 v2 v3:Value):Prop:=w.heap[b]?=some (.cells #[v0,v1,v2,v3] t (0,0))
theorem Zae{w:World}{b:Nat}{t:TypeId}{v0 v1 v2 v3:Value}(h:Fou w b t v0 v1 v2 v3) :
  (w.cell? ⟨b,0,none⟩=some v0∧w.cell? ⟨b,1,none⟩=some v1∧w.cell? ⟨b,2,none⟩=some v2∧w.cell? ⟨b,3,none⟩=some v3)∧
  w.frozen? ⟨b,0,none⟩=false∧w.frozen? ⟨b,1,none⟩=false∧w.frozen? ⟨b,2,none⟩=false∧w.frozen? ⟨b,3,none⟩=false:=by
 unfold Fou at h;simp[World.cell?,World.frozen?,h]
theorem Zlf (w:World)(t:TypeId)(v0 v1 v2 v3:Value):Fou (w.alloc (.cells #[v0,v1,v2,v3] t)) w.heap.size t v0 v1 v2 v3:=hN w _
theorem Zd5{f:Func}{R:Ending→World→Prop}{a:Act}{w:World}{b:Nat}{u0 u1 u2 u3:Value}(hf:f.results=#[.cell 4 26])(ht:a.eval (.tmp 4)=.pointer (some ⟨b,0,none⟩))(hd:a.defers=[])
  (h:Fou w b 26 u0 u1 u2 u3) (hR:R (.returned (.agg #[u0,u1,u2,u3])) w):bodyPost Tryz.prog f R Exit.ret a w:=by
 obtain⟨⟨c0,c1,c2,c3⟩,-⟩:=Zae h;refine bodyPost_ret ?_ hd hR;simp[Act.eval] at ht;simp[results,hf,go_sem,c0,c1,c2,c3,ht]
def vT (lo:Nat)(t:PT)(e:Ending)(w':World):Prop:=∃cs,e=.returned (.agg cs.toArray)∧IsCs (fun b=>lo≤b) w' (encT 26 t) cs
theorem ZeE (A:Nat→Prop)(w:World)(k:Nat)(n:Bs):IsCs A w (encT 26 (.mk k n [] [])) [.int .i64 k,.string ⟨n.toArray⟩,.slice none 0 0,.slice none 0 0]:=by
 simp only[encT,Zau,List.map_nil,lN];exact .cons (.num _ _ _) (.cons (.str _ _ _) (.cons (.none _ _ _ (by decide)) (.cons (.none _ _ _ (by decide)) (.nil _ _))))
theorem Zbb{A:Nat→Prop}{w:World}{e:TypeId}{size n:Nat}{l:List Dt}{v:Value}(h:IsC A w (.row e size n l) v):∃a c,v=.slice a n c:=by
 obtain⟨xs,h1,-⟩:=h.unrow;rcases h1.2 with ⟨rfl,rfl⟩ | ⟨g,cap,cur,rfl,_⟩
 ·exact⟨_,_,rfl⟩
 ·exact⟨_,_,rfl⟩
theorem Zbq{A:Nat→Prop}{w:World}{t:PT}{cs:List Value}(h:IsCs A w (encT 26 t) cs):∃(k:Int) (n:ByteArray) (a2:Option Addr) (n2 c2:Nat) (a3:Option Addr) (n3 c3:Nat),cs=[.int .i64 k,.string n,.slice a2 n2 c2,.slice a3 n3 c3]:=by
 obtain⟨k,n,ns,l⟩:=t;simp only[encT] at h;obtain⟨x0,ys,rfl,h0,h⟩:=h.uncons;obtain⟨x1,ys,rfl,h1,h⟩:=h.uncons;obtain⟨x2,ys,rfl,h2,h⟩:=h.uncons;obtain⟨x3,ys,rfl,h3,h⟩:=h.uncons;simp only[IsCs] at h;subst h;simp only[IsC] at h0 h1;subst h0 h1;obtain⟨a2,c2,rfl⟩:=Zbb h2;obtain⟨a3,c3,rfl⟩:=Zbb h3;exact⟨_,_,_,_,_,_,_,_,rfl⟩
abbrev zT:Obj:=.cells #[.int .i64 0,.string ⟨#[]⟩,.slice none 0 0,.slice none 0 0] 26
theorem Post.ok{α:Type}{B M:Nat}{w:World}{pb:Nat}{all:List Tk}{told:List Dn}{val:α→Ending→World→Prop}{res:R α}{e:Ending}{w':World}{x:α}{r:List Tk}{d:List Dn}(hq:res=.ok x r d)(hF:Fr B w w')(hv:val x e w')(hp:PS B M w' pb all r (told++d)):Post B M w pb all told val res e w':=by
 subst hq;exact⟨hF,hv,hp⟩
theorem Post.bad{α:Type}{B M:Nat}{w:World}{pb:Nat}{all:List Tk}{told:List Dn}{val:α→Ending→World→Prop}{res:R α}{w':World}{y:Dn}{r:List Tk}{d:List Dn}(hq:res=.bad y r d)(hF:Fr B w w')(hp:PS B M w' pb all r (told++d)):Post B M w pb all told val res (.panicked [gv y]) w':=by
 subst hq;exact⟨hF,rfl,hp⟩
theorem PS.alike{B M:Nat}{w w':World}{pb:Nat}{all ts:List Tk}{told:List Dn}(h:PS B M w pb all ts told)(e:w'.heap=w.heap):PS B M w' pb all ts told:=
 h.other (by rw[e];exact nl _) fun k o hk _=>by rw[e];exact hk
theorem PS.nil{B M:Nat}{w:World}{pb:Nat}{all ts:List Tk}{told:List Dn}(h:PS B M w pb all ts told):PS B M w pb all ts (told++[]):=by rw[List.append_nil];exact h
theorem PS.assoc{B M:Nat}{w:World}{pb:Nat}{all ts:List Tk}{told d e:List Dn}(h:PS B M w pb all ts (told++d++e)):PS B M w pb all ts (told++(d++e)):=by rw[←aA];exact h
theorem ZkG{B M:Nat}{pb:Nat}{all:List Tk}(k d:Nat)(hd64:d≤65)
  (HT:∀w ts told,PS B M w pb all ts told→Calls Tryz.prog 43 #[.pointer (some ⟨pb,0,none⟩),.int .i64 ((d+1:Nat):Int)] w (Post B M w pb all told (vT w.heap.size) (typ k ts)))
  (HR:∀w ts told,PS B M w pb all ts told→Calls Tryz.prog 166 #[.pointer (some ⟨pb,0,none⟩),.int .i64 d] w (Post B M w pb all told (vT w.heap.size) ((Zbh [58] (typ k) ts).bind fun fs r=>.ok (recT fs) r [])))
  (w:World) (ts:List Tk) (told:List Dn) (h:PS B M w pb all ts told) :
  Calls Tryz.prog 128 #[.pointer (some ⟨pb,0,none⟩),.int .i64 d] w (Post B M w pb all told (vT w.heap.size) (Za9 (typ k) ts)):=by
 have HT:=Hd HT;have HR:=Hd HR;have HPB:=Hd h.lt;have HN:=Hd (Zcl (h.alloc zT));have p0:=Hd (h.alloc zT);have hA0:(w.alloc zT).heap[w.heap.size]?=some zT:=hN w _;have hF0:Fr B w (w.alloc zT):=(Fr.refl B w).alloc _;clear h;obtain⟨res,hres⟩:=eX (Za9 (typ k) ts);rw[←hres];have HQ:=Hd hres;clear hres;obtain⟨t,ht⟩:=eX (hd ts);by_cases hk:(hd ts).k=1
 ·have hw:res=.ok (.mk 8 (hd ts).t [] []) ts.tail []:=by rw[HQ.out];simp[Za9,hk]
  rw[←ht] at hw;have HW:=Hd hw;have HK:=Hd (show (hd ts).k≠6 by omega);rw[←ht] at HN hk;clear hw ht;have hk1:(t.k:Int)=1:=by omega
  have hk2:((t.k:Int)==1)=true:=by simpa using hk1
  go_enter Tryz.func128,Tryz.ntmps128
  go_wp2_with fail
  refine HN.out.mono ?_;rintro e w1 ⟨rfl,b1⟩;have hA1:=(b1.block _ (by simp)).trans hA0;have hF1:=hF0.below b1;have p1:=Hd (p0.out.below b1);clear b1 hA0 hF0 p0;unfold tokV;go_wp2_with fail
  refine (ZcS (p1.out.alloc _) HK.out).mono ?_;rintro e w2 ⟨rfl,p2,f2⟩;have hA2:=f2.cells (Zab hA1 _) (by decide);have hB2:Thr w2 w1.heap.size 105 _ _ _:=f2.cells (ZaI w1 105 _ _ _) (by decide);have F2:=Hd ((hF1.alloc _).trans f2);obtain⟨⟨q0,q1,q2,q3⟩,u0,u1,u2,u3⟩:=Zae (t:=26) hA2;obtain⟨⟨d0,d1,d2⟩,-⟩:=Zan hB2;have P2:=Hd p2;clear p2 f2 hA1 hF1 p1;go_wp2_with fail
  exact Zd5 rfl rfl rfl (Zam hA2 (vs:=[_,_,_,_]) rfl) (.ok HW.out (F2.out.putL (nl _) [_,_,_,_]) ⟨_,rfl,ZeE _ _ 8 t.t⟩ (P2.out.putL hA2 (by decide) HPB.out [_,_,_,_]).nil)
 ·have HK:=Hd hk;rw[←ht] at HN hk;have hk1:¬(t.k:Int)=1:=by omega
  have hk2:((t.k:Int)==1)=false:=by simpa using hk1
  clear ht hk;go_enter Tryz.func128,Tryz.ntmps128
  go_wp2_with fail
  refine HN.out.mono ?_;rintro e w1 ⟨rfl,b1⟩;have hA1:=Zab ((b1.block _ (by simp)).trans hA0) (.cells #[.int .i64 t.k,.int .i64 t.a,.string ⟨t.t.toArray⟩] 105);have hF1:=(hF0.below b1).alloc (.cells #[.int .i64 t.k,.int .i64 t.a,.string ⟨t.t.toArray⟩] 105);have p1:=Hd ((p0.out.below b1).alloc (.cells #[.int .i64 t.k,.int .i64 t.a,.string ⟨t.t.toArray⟩] 105));clear b1 hA0 hF0 p0 hk1 HN;unfold tokV;have hk3:=hk2;go_wp2_with fail
  clear hk2 hk3;refine (Zay p1.out [105,110,116]).mono ?_;rintro e w2 ⟨rfl,p2,f2⟩;have hA2:=f2.cells hA1 (by decide);have hF2:=hF1.trans f2;clear f2 hA1 hF1 p1;cases hm2:isM [105,110,116] ts with
  | true=>
   simp only[hm2,if_true] at p2;have hq:res=.ok tInt ts.tail []:=by rw[HQ.out];simp[Za9,HK.out,hm2]
   have HW:=Hd hq;have P:=Hd p2;have F:=Hd hF2;obtain⟨⟨q0,q1,q2,q3⟩,u0,u1,u2,u3⟩:=Zae (t:=26) hA2;clear p2 hF2 hm2 hq;go_wp2_with fail
   exact Zd5 rfl rfl rfl (Zam hA2 (vs:=[_,_,_,_]) rfl) (.ok HW.out (F.out.putL (nl _) [_,_,_,_]) ⟨_,rfl,ZeE _ _ 1 []⟩ (P.out.putL hA2 (by decide) HPB.out [_,_,_,_]).nil)
  | false=>
  simp only[hm2,ff,if_false] at p2;have p2:=Hd p2;have HM2:=Hd hm2;clear hm2;go_wp2_with fail
  refine (Zay p2.out [98,111,111,108]).mono ?_;rintro e w3 ⟨rfl,p3,f3⟩;have hA3:=f3.cells hA2 (by decide);have hF3:=hF2.trans f3;clear f3 hA2 hF2 p2;cases hm3:isM [98,111,111,108] ts with
  | true=>
   simp only[hm3,if_true] at p3;have hq:res=.ok ZgI ts.tail []:=by rw[HQ.out];simp[Za9,HK.out,HM2.out,hm3]
   have HW:=Hd hq;have P:=Hd p3;have F:=Hd hF3;obtain⟨⟨q0,q1,q2,q3⟩,u0,u1,u2,u3⟩:=Zae (t:=26) hA3;clear p3 hF3 hm3 hq;go_wp2_with fail
   exact Zd5 rfl rfl rfl (Zam hA3 (vs:=[_,_,_,_]) rfl) (.ok HW.out (F.out.putL (nl _) [_,_,_,_]) ⟨_,rfl,ZeE _ _ 2 []⟩ (P.out.putL hA3 (by decide) HPB.out [_,_,_,_]).nil)
  | false=>
  simp only[hm3,ff,if_false] at p3;have p3:=Hd p3;have HM3:=Hd hm3;clear hm3;go_wp2_with fail
  refine (Zay p3.out [116,101,120,116]).mono ?_;rintro e w4 ⟨rfl,p4,f4⟩;have hA4:=f4.cells hA3 (by decide);have hF4:=hF3.trans f4;clear f4 hA3 hF3 p3;cases hm4:isM [116,101,120,116] ts with
  | true=>
   simp only[hm4,if_true] at p4;have hq:res=.ok Zj2 ts.tail []:=by rw[HQ.out];simp[Za9,HK.out,HM2.out,HM3.out,hm4]
   have HW:=Hd hq;have P:=Hd p4;have F:=Hd hF4;obtain⟨⟨q0,q1,q2,q3⟩,u0,u1,u2,u3⟩:=Zae (t:=26) hA4;clear p4 hF4 hm4 hq;go_wp2_with fail
   exact Zd5 rfl rfl rfl (Zam hA4 (vs:=[_,_,_,_]) rfl) (.ok HW.out (F.out.putL (nl _) [_,_,_,_]) ⟨_,rfl,ZeE _ _ 3 []⟩ (P.out.putL hA4 (by decide) HPB.out [_,_,_,_]).nil)
  | false=>
  simp only[hm4,ff,if_false] at p4;have p4:=Hd p4;have HM4:=Hd hm4;clear hm4;go_wp2_with fail
  refine (Zay p4.out [63]).mono ?_;rintro e w5 ⟨rfl,p5,f5⟩;have hA5:=f5.cells hA4 (by decide);have hF5:=hF4.trans f5;clear f5 hA4 hF4 p4;cases hm5:isM [63] ts with
  | true=>
   simp only[hm5,if_true] at p5;have hq:res=.ok tDyn ts.tail []:=by rw[HQ.out];simp[Za9,HK.out,HM2.out,HM3.out,HM4.out,hm5]
   have HW:=Hd hq;have P:=Hd p5;have F:=Hd hF5;obtain⟨⟨q0,q1,q2,q3⟩,u0,u1,u2,u3⟩:=Zae (t:=26) hA5;clear p5 hF5 hm5 hq;go_wp2_with fail
   exact Zd5 rfl rfl rfl (Zam hA5 (vs:=[_,_,_,_]) rfl) (.ok HW.out (F.out.putL (nl _) [_,_,_,_]) ⟨_,rfl,ZeE _ _ 4 []⟩ (P.out.putL hA5 (by decide) HPB.out [_,_,_,_]).nil)
  | false=>
  simp only[hm5,ff,if_false] at p5;have p5:=Hd p5;have HM5:=Hd hm5;clear hm5;go_wp2_with fail
  refine (Zay p5.out [123]).mono ?_;rintro e w6 ⟨rfl,p6,f6⟩;have hA6:=f6.cells hA5 (by decide);have hF6:=hF5.trans f6;clear f6 hA5 hF5 p5;cases hm6:isM [123] ts with
  | true=>
   simp only[hm6,if_true] at p6;have hq:res=((Zbh [58] (typ k) ts.tail).bind fun fs r=>R.ok (recT fs) r []):=by rw[HQ.out];simp[Za9,HK.out,HM2.out,HM3.out,HM4.out,HM5.out,hm6]
   have HW:=Hd hq;clear hm6 hq;go_wp2_with fail
   refine (HR.out _ _ _ p6).mono ?_;rintro e w9 ⟨f9,h9⟩;cases hr:((Zbh [58] (typ k) ts.tail).bind fun fs r=>R.ok (recT fs) r []) with
   | bad y rest ds=>
    rw[hr] at h9;obtain⟨rfl,p9⟩:=h9;go_wp2_with fail
    exact Zap rfl (.bad (HW.out.trans hr) (hF6.trans f9) p9)
   | ok x rest ds=>
    have HW:=Hd (HW.out.trans hr);rw[hr] at h9;obtain⟨⟨cs,rfl,hcs⟩,p9⟩:=h9;obtain⟨tk,tn,a2,n2,c2,a3,n3,c3,rfl⟩:=Zbq hcs;have hA9:=f9.cells hA6 (by decide);have hs9:=hF6.size;have HLT:=Hd (gE hA6).1;have F:=Hd (hF6.trans f9);have P:=Hd p9;have C:=Hd hcs;obtain⟨⟨q0,q1,q2,q3⟩,u0,u1,u2,u3⟩:=Zae (t:=26) hA9;clear hr f9 p9 hcs p6 hF6 hA6;go_wp2_with fail
    exact Zd5 rfl rfl rfl (Zam hA9 (vs:=[_,_,_,_]) rfl) (.ok HW.out (F.out.putL (nl _) [_,_,_,_]) ⟨[.int .i64 tk,.string tn,.slice a2 n2 c2,.slice a3 n3 c3],rfl,(C.out.mono (A':=fun b=>w.heap.size≤b∧b≠w.heap.size) (fun b _ hb=>by have:=HLT.out;exact⟨by omega,by omega⟩)).putL _ (fun k hk=>hk.2) [_,_,_,_] |>.mono (fun b _ hb=>hb.1)⟩ (P.out.putL hA9 (by decide) HPB.out [_,_,_,_]))
  | false=>
  simp only[hm6,ff,if_false] at p6;have p6:=Hd p6;have HM6:=Hd hm6;clear hm6;go_wp2_with fail
  refine (Zay p6.out [40]).mono ?_;rintro e w7 ⟨rfl,p7,f7⟩;have hA7:=f7.cells hA6 (by decide);have hF7:=hF6.trans f7;clear f7 hA6 hF6 p6;cases hm7:isM [40] ts with
  | true=>
   simp only[hm7,if_true] at p7;have hq:res=((typ k ts.tail).bind fun t r=>(want [41] r).bind fun _ r=>.ok t r []):=by rw[HQ.out];simp[Za9,HK.out,HM2.out,HM3.out,HM4.out,HM5.out,HM6.out,hm7]
   have HW:=Hd hq;clear hm7 hq;have hd1:((d:Int)+1)=((d+1:Nat):Int):=by omega
   have HD:=Hd hd1;clear hd1;go_wp2_with fail
   rw[HD.out];refine (HT.out _ _ _ p7).mono ?_;rintro e w9 ⟨f9,h9⟩;cases hr:typ k ts.tail with
   | bad y rest ds=>
    rw[hr] at h9;obtain⟨rfl,p9⟩:=h9;go_wp2_with fail
    exact Zap rfl (.bad (HW.out.trans (by rw[hr,R.bind_bad])) (hF7.trans f9) p9)
   | ok x rest ds=>
    have HW:=Hd (HW.out.trans (by rw[hr,R.bind_ok]));rw[hr] at h9;obtain⟨⟨cs,rfl,hcs⟩,p9⟩:=h9;obtain⟨tk,tn,a2,n2,c2,a3,n3,c3,rfl⟩:=Zbq hcs;have hA9:=f9.cells hA7 (by decide);have HLT:=Hd (gE hA7).1;have F:=Hd (hF7.trans f9);have P:=Hd p9;have C:=Hd hcs;clear hr f9 p9 hcs p7 hF7 hA7;go_wp2_with fail
    refine (ZaU (P.out.alloc _) [41]).mono ?_;rintro e w10 ⟨f10,h10⟩;cases hr:want [41] rest with
    | bad y r2 d2=>
     rw[hr] at h10;obtain⟨rfl,p10⟩:=h10;go_wp2_with fail
     exact Zap rfl (.bad (HW.out.trans (by rw[hr,R.bind_bad,R.tell_bad])) ((F.out.alloc _).trans f10) p10.assoc)
    | ok x2 r2 d2=>
     rw[hr] at h10;obtain⟨h10,p10⟩:=h10;cases h10;have HW:=Hd (HW.out.trans (by rw[hr,R.bind_ok,R.tell_ok,R.tell_ok,List.append_nil]));have hA10:=f10.cells (Zab hA9 _) (by decide);have hB10:Fou w10 w9.heap.size 26 _ _ _ _:=f10.cells (Zlf w9 26 _ _ _ _) (by decide);have C10:=Hd (IsCs.fr f10 _ _ (C.out.below ((Below.refl _ _).alloc (nl _) (.cells #[.int .i64 tk,.string tn,.slice a2 n2 c2,.slice a3 n3 c3] 26))));have F10:=Hd ((F.out.alloc _).trans f10);have P10:=Hd p10;obtain⟨⟨q0,q1,q2,q3⟩,u0,u1,u2,u3⟩:=Zae (t:=26) hA10;obtain⟨⟨d0,d1,d2',d3⟩,-⟩:=Zae hB10;clear hr f10 p10 hA9 hB10;go_wp2_with fail
     exact Zd5 rfl rfl rfl (Zam hA10 (vs:=[_,_,_,_]) rfl) (.ok HW.out (F10.out.putL (nl _) [_,_,_,_]) ⟨[.int .i64 tk,.string tn,.slice a2 n2 c2,.slice a3 n3 c3],rfl,(C10.out.mono (A':=fun b=>w.heap.size≤b∧b≠w.heap.size) (fun b _ hb=>by have:=HLT.out;exact⟨by omega,by omega⟩)).putL _ (fun k hk=>hk.2) [_,_,_,_] |>.mono (fun b _ hb=>hb.1)⟩ (P10.out.putL hA10 (by decide) HPB.out [_,_,_,_]).assoc)
  | false=>
  simp only[hm7,ff,if_false] at p7;have hq:res=.bad (syn ts) ts []:=by rw[HQ.out];simp[Za9,HK.out,HM2.out,HM3.out,HM4.out,HM5.out,HM6.out,hm7]
  have HW:=Hd hq;clear hm7 hq;go_wp2_with fail
  refine (ZbX p7).mono ?_;rintro e w9 ⟨rfl,b9⟩;unfold gvV;go_wp2_with fail
  exact Zap rfl (.bad HW.out (hF7.below b9) (p7.below b9).nil)
theorem mF4 {n₀:Nat}{W W':World}{b:Nat}{t:TypeId}{u0 u1 u2 u3:Value}(hF:Fr n₀ W W') (h:Hid (Fou W b t u0 u1 u2 u3)) (ht:stT t=false):Hid (Fou W' b t u0 u1 u2 u3):=Hd (show Fou W' b t u0 u1 u2 u3 from hF.cells h.out ht)
theorem mB4 {W W':World}{b:Nat}{t:TypeId}{u0 u1 u2 u3:Value}(hb:Below W.heap.size W W') (h:Hid (Fou W b t u0 u1 u2 u3)):Hid (Fou W' b t u0 u1 u2 u3):=Hd (show Fou W' b t u0 u1 u2 u3 from (hb.block _ (gE h.out).1).trans h.out)
theorem ZaK{A:Nat→Prop}{w:World}{e:TypeId}{size n g:Nat}{l:List Dt}{cs:List Value}(he:stT e=false)(hg:w.heap.size=g)(hA:A g)(hn:n≤maxLen)(hl:cs.length=n*size)(h:IsCs A w l cs) :
  IsC A (w.alloc (.cells cs.toArray e)) (.row e size n l) (.slice (some ⟨g,0,none⟩) n n):=by
 subst hg;refine IsC.row (base:=0) (xs:=cs) he ⟨hl,.inr ⟨w.heap.size,n,cs.toArray,rfl,Nat.zero_le _,hN w _,nl _,hn,by simpa using hl,?_⟩⟩ (fun b hb=>by cases hb;exact hA) (h.below ((Below.refl _ _).alloc (nl _) _));rw[←hl];simp
theorem ZlM{B M:Nat}{pb:Nat}{all:List Tk}(k d:Nat)(hd64:d≤64)
  (HP:∀w ts told,PS B M w pb all ts told→Calls Tryz.prog 128 #[.pointer (some ⟨pb,0,none⟩),.int .i64 d] w (Post B M w pb all told (vT w.heap.size) (Za9 (typ k) ts)))
  (HA:∀w ts told,PS B M w pb all ts told→Calls Tryz.prog 80 #[.pointer (some ⟨pb,0,none⟩),.int .i64 ((d+1:Nat):Int)] w (Post B M w pb all told (vT w.heap.size) (arr k ts)))
  (w:World) (ts:List Tk) (told:List Dn) (h:PS B M w pb all ts told) :
  Calls Tryz.prog 80 #[.pointer (some ⟨pb,0,none⟩),.int .i64 d] w (Post B M w pb all told (vT w.heap.size) (Zck (Za9 (typ k)) (arr k) ts)):=by
 have HP:=Hd HP;have HA:=Hd HA;have HPB:=Hd h.lt;have p0:=Hd (h.alloc zT);have hA0:(w.alloc zT).heap[w.heap.size]?=some zT:=hN w _;have hF0:Fr B w (w.alloc zT):=(Fr.refl B w).alloc _;have HD:=Hd (ZiR (h.alloc zT) d hd64);clear h;obtain⟨res,hres⟩:=eX (Zck (Za9 (typ k)) (arr k) ts);rw[←hres];have HQ:=Hd hres;clear hres;have hd1:IntKind.i64.wrap ((d:Int)+1)=((d+1:Nat):Int):=by rw[IntKind.wrap_i64];omega
 have HD1:=Hd hd1;clear hd1;go_enter Tryz.func80,Tryz.ntmps80
 go_wp2_with fail
 refine HD.out.mono ?_;rintro e w1 ⟨rfl,rfl⟩;go_wp2_with fail
 refine (HP.out _ _ _ p0.out).mono ?_;rintro e w1 ⟨f1,h1⟩;cases hr:Za9 (typ k) ts with
 | bad y rest ds=>
  rw[hr] at h1;obtain⟨rfl,p1⟩:=h1;go_wp2_with fail
  exact Zap rfl (.bad (HQ.out.trans (by rw[Zck,hr,R.bind_bad])) (hF0.trans f1) p1)
 | ok x rest ds=>
  have HW:=Hd (HQ.out.trans (by rw[Zck,hr,R.bind_ok]));rw[hr] at h1;obtain⟨⟨cs,rfl,hcs⟩,p1⟩:=h1;obtain⟨tk,tn,a2,n2,c2,a3,n3,c3,rfl⟩:=Zbq hcs;have hA1:=Zab (f1.cells hA0 (by decide)) (.cells #[.int .i64 tk,.string tn,.slice a2 n2 c2,.slice a3 n3 c3] 26);have hF1:=(hF0.trans f1).alloc (.cells #[.int .i64 tk,.string tn,.slice a2 n2 c2,.slice a3 n3 c3] 26);have HL0:=Hd (show w.heap.size<w1.heap.size by have:=f1.size;simp at this;omega);have C1:=Hd (hcs.below ((Below.refl _ _).alloc (nl _) (.cells #[.int .i64 tk,.string tn,.slice a2 n2 c2,.slice a3 n3 c3] 26)));have P1:=Hd (p1.alloc (.cells #[.int .i64 tk,.string tn,.slice a2 n2 c2,.slice a3 n3 c3] 26));have hB1:Fou (w1.alloc (.cells #[.int .i64 tk,.string tn,.slice a2 n2 c2,.slice a3 n3 c3] 26)) w1.heap.size 26 _ _ _ _:=Zlf w1 26 _ _ _ _;clear hr f1 p1 hcs hF0 p0 hA0;go_wp2_with fail
  refine (Zay P1.out [45,62]).mono ?_;rintro e w2 ⟨rfl,p2,f2⟩;have hA2:=f2.cells hA1 (by decide);have hB2:Fou w2 w1.heap.size 26 _ _ _ _:=f2.cells hB1 (by decide);have hF2:=hF1.trans f2;have C2:=Hd (IsCs.fr f2 _ _ C1.out);clear hA1 hB1 hF1 C1 P1 f2;cases hm:isM [45,62] rest with
  | false=>
   rw[hm] at p2;have hq:res=.ok x rest (ds++[]):=by rw[HW.out,hm];rfl
   have HW:=Hd hq;have P:=Hd p2;have F:=Hd hF2;obtain⟨⟨q0,q1,q2,q3⟩,u0,u1,u2,u3⟩:=Zae (t:=26) hA2;obtain⟨⟨d0,d1,d2,d3⟩,-⟩:=Zae hB2;clear hm hq p2 hF2;go_wp2_with fail
   refine Zd5 rfl rfl rfl (Zam hA2 (vs:=[_,_,_,_]) rfl) (.ok HW.out (F.out.putL (nl _) [_,_,_,_]) ⟨_,rfl,(C2.out.mono (A':=fun b=>w.heap.size≤b∧b≠w.heap.size) (fun b _ hb=>by simp at hb;exact⟨by omega,by omega⟩)).putL _ (fun k hk=>hk.2) [_,_,_,_] |>.mono (fun b _ hb=>hb.1)⟩ ?_);rw[List.append_nil];exact P.out.putL hA2 (by decide) HPB.out [_,_,_,_]
  | true=>
   rw[hm] at p2;have hq:res=((arr k rest.tail).bind fun u r=>.ok (.mk 6 [] [] [x,u]) r []).tell ds:=by rw[HW.out,hm];rfl
   have HW:=Hd hq;have P:=Hd (show PS B M w2 pb all rest.tail (told++ds) from p2);have F:=Hd hF2;have HA2:=Hd hA2;have HB2:=Hd hB2;obtain⟨⟨d0,d1,d2,d3⟩,-⟩:=Zae hB2;clear hm hq p2 hF2 hA2 hB2;cases hr:arr k rest.tail with
   | bad y r2 d2=>
    have HC:Hid (∀W,Drawn w2 W→Calls Tryz.prog 80 #[.pointer (some ⟨pb,0,none⟩),.int .i64 (IntKind.i64.wrap ((d:Int)+1))] W fun e w'=>e=.panicked [gv y]∧Fr B w2 w'∧PS B M w' pb all r2 (told++ds++d2)):=by
     rintro W ⟨e1,e2,e3,e4⟩;rw[HD1.out];refine (HA.out W rest.tail (told++ds) (P.out.alike e1)).mono ?_;rintro e w' ⟨f,h⟩;rw[hr] at h;exact⟨h.1,((Fr.refl B w2).alike e1 e2 e3 e4).trans f,h.2⟩
    have HW:=Hd (HW.out.trans (by rw[hr,R.bind_bad,R.tell_bad]));clear hr;go_wp2_with fail
    go_region_dies
    all_goals
     refine (HC.out _ ?_).mono ?_
     ·exact⟨rfl,rfl,rfl,rfl⟩
     rintro e w3 ⟨rfl,f3,p3⟩;exact Zap rfl (.bad HW.out (F.out.trans f3) p3.assoc)
   | ok x2 r2 d2=>
    have HC:Hid (∀W,Drawn w2 W→Calls Tryz.prog 80 #[.pointer (some ⟨pb,0,none⟩),.int .i64 (IntKind.i64.wrap ((d:Int)+1))] W fun e w'=>(∃cs,e=.returned (.agg cs.toArray)∧IsCs (fun b=>w2.heap.size≤b) w' (encT 26 x2) cs)∧Fr B w2 w'∧PS B M w' pb all r2 (told++ds++d2)):=by
     rintro W ⟨e1,e2,e3,e4⟩;rw[HD1.out];refine (HA.out W rest.tail (told++ds) (P.out.alike e1)).mono ?_;rintro e w' ⟨f,h⟩;rw[hr] at h;obtain⟨⟨cs,h1,h2⟩,h3⟩:=h;rw[e1] at h2;exact⟨⟨cs,h1,h2⟩,((Fr.refl B w2).alike e1 e2 e3 e4).trans f,h3⟩
    have HW:=Hd (HW.out.trans (by rw[hr,R.bind_ok,R.tell_ok,R.tell_ok,List.append_nil]));have HL1:=Hd (show w1.heap.size<w2.heap.size from (gE HB2.out).1);have hn0:¬w.heap.size=w1.heap.size:=by have:=HL0.out;omega
    have hn0':¬w1.heap.size=w.heap.size:=by have:=HL0.out;omega
    clear hr;go_wp2_with fail
    go_region_held3 (fun w'=>w'.cell? ⟨w1.heap.size,0,none⟩=some (.int .i64 tk)∧w'.cell? ⟨w1.heap.size,1,none⟩=some (.string tn)∧w'.cell? ⟨w1.heap.size,2,none⟩=some (.slice a2 n2 c2)∧w'.cell? ⟨w1.heap.size,3,none⟩=some (.slice a3 n3 c3)) (go_keep)
     (first | (go_at_call 80;refine (HC.out _ ?_).mono ?_;exact⟨rfl,rfl,rfl,rfl⟩;rintro e w3 ⟨⟨cs,rfl,hcs⟩,f3,p3⟩;obtain⟨tk',tn',a2',n2',c2',a3',n3',c3',rfl⟩:=Zbq hcs;obtain⟨⟨s0,s1,s2,s3⟩,-⟩:=Zae (show Fou w3 w1.heap.size 26 (.int .i64 tk) (.string tn) (.slice a2 n2 c2) (.slice a3 n3 c3) from f3.cells HB2.out (by decide));(have hA3:=f3.cells HA2.out (by decide));obtain⟨⟨q0,q1,q2,q3⟩,u0,u1,u2,u3⟩:=Zae (t:=26) hA3;(have HA3:=Hd hA3);(have hn1:¬w.heap.size=w3.heap.size:=by have:=f3.size;have:=HL1.out;have:=HL0.out;omega);(have hn2:¬w1.heap.size=w3.heap.size:=by have:=f3.size;have:=HL1.out;omega);(have hn3:w.heap.size<w3.heap.size:=by have:=f3.size;have:=HL1.out;have:=HL0.out;omega);(have hn4:w1.heap.size<w3.heap.size:=by have:=f3.size;have:=HL1.out;omega);(have F3:=Hd f3);(have P3:=Hd p3);(have C3:=Hd hcs);clear f3 p3 hcs hA3))
    all_goals
     go_wp2_with fail
     have CC:IsCs (fun b=>w.heap.size<b) w3 (Zau 26 [x,x2]) [.int .i64 tk,.string tn,.slice a2 n2 c2,.slice a3 n3 c3,.int .i64 tk',.string tn',.slice a2' n2' c2',.slice a3' n3' c3']:=by
      have e1:=(IsCs.fr F3.out _ _ C2.out).mono (A':=fun b=>w.heap.size<b) (fun b _ hb=>by simp at hb;omega);have e2:=C3.out.mono (A':=fun b=>w.heap.size<b) (fun b _ hb=>by have:=HL1.out;have:=HL0.out;omega);have:=e1.append _ _ _ _ e2
      simpa[Zau] using this
     have F4:Fr B w ((putL w3 w.heap.size [.int .i64 6,.string ⟨#[]⟩,.slice none 0 0,.slice (some ⟨w3.heap.size,0,none⟩) 2 2]).alloc (.cells #[.int .i64 tk,.string tn,.slice a2 n2 c2,.slice a3 n3 c3,.int .i64 tk',.string tn',.slice a2' n2' c2',.slice a3' n3' c3'] 26)):=((F.out.trans F3.out).putL (nl _) _).alloc _;have P4:PS B M ((putL w3 w.heap.size [.int .i64 6,.string ⟨#[]⟩,.slice none 0 0,.slice (some ⟨w3.heap.size,0,none⟩) 2 2]).alloc (.cells #[.int .i64 tk,.string tn,.slice a2 n2 c2,.slice a3 n3 c3,.int .i64 tk',.string tn',.slice a2' n2' c2',.slice a3' n3' c3'] 26)) pb all r2 (told++(ds++d2)):=((P3.out.putL HA3.out (by decide) HPB.out _).alloc _).assoc;have A4:Fou ((putL w3 w.heap.size [.int .i64 6,.string ⟨#[]⟩,.slice none 0 0,.slice (some ⟨w3.heap.size,0,none⟩) 2 2]).alloc (.cells #[.int .i64 tk,.string tn,.slice a2 n2 c2,.slice a3 n3 c3,.int .i64 tk',.string tn',.slice a2' n2' c2',.slice a3' n3' c3'] 26)) w.heap.size 26 _ _ _ _:=Zab (Zam (vs:=[.int .i64 6,.string ⟨#[]⟩,.slice none 0 0,.slice (some ⟨w3.heap.size,0,none⟩) 2 2]) HA3.out rfl) _;have CC2:=ZaK (e:=26) (size:=4) (n:=2) (g:=w3.heap.size) (by decide) (ZaW w.heap.size [.int .i64 6,.string ⟨#[]⟩,.slice none 0 0,.slice (some ⟨w3.heap.size,0,none⟩) 2 2] 0 w3).2.2.2 hn3 (by decide) rfl (CC.putL w.heap.size (fun b hb=>Nat.ne_of_gt hb) [.int .i64 6,.string ⟨#[]⟩,.slice none 0 0,.slice (some ⟨w3.heap.size,0,none⟩) 2 2]);have CC3:=IsCs.cons (IsC.num _ _ 6) (IsCs.cons (IsC.str _ _ []) (IsCs.cons (IsC.none _ _ 1 (e:=9) (by decide)) (IsCs.cons CC2 (IsCs.nil _ _))));have C4:IsCs (fun b=>w.heap.size≤b) ((putL w3 w.heap.size [.int .i64 6,.string ⟨#[]⟩,.slice none 0 0,.slice (some ⟨w3.heap.size,0,none⟩) 2 2]).alloc (.cells #[.int .i64 tk,.string tn,.slice a2 n2 c2,.slice a3 n3 c3,.int .i64 tk',.string tn',.slice a2' n2' c2',.slice a3' n3' c3'] 26)) (encT 26 (.mk 6 [] [] [x,x2])) [.int .i64 6,.string ⟨#[]⟩,.slice none 0 0,.slice (some ⟨w3.heap.size,0,none⟩) 2 2]:=CC3.mono (fun b _ hb=>Nat.le_of_lt hb);exact Zd5 rfl rfl rfl A4 (.ok HW.out F4 ⟨_,rfl,C4⟩ P4)
def left (pb:Nat)(all:List Tk)(w:World):Nat:=all.length-(intOf ((w.cell? ⟨pb,1,none⟩).getD (.int .i64 0))).toNat
theorem PS.left{B M:Nat}{w:World}{pb:Nat}{all ts:List Tk}{told:List Dn}(h:PS B M w pb all ts told):left pb all w=ts.length:=by
 obtain⟨h1,h2,h3,h4,h5,vt,vd,i,h6,h7,h8,h9,h10⟩:=h;have:w.cell? ⟨pb,1,none⟩=some (.int .i64 i):=by simp[World.cell?,h6]
 unfold Go.Proofs.YtijnjoonbjdafaaGreatDoor.left;rw[this,h9,List.length_drop];simp[intOf]
theorem PS.len{B M:Nat}{w:World}{pb:Nat}{all ts:List Tk}{told:List Dn}(h:PS B M w pb all ts told):ts.length≤1000000∧0<ts.length:=by
 obtain⟨h1,h2,⟨p,e,h3,h3'⟩,h4,h5,vt,vd,i,h6,h7,h8,h9,h10⟩:=h;refine⟨?_,by rw[h3];simp⟩;rw[h9,List.length_drop];omega
theorem Zns:(Tryz.prog.info? 26).map (fun i=>(i.zero,i.size,i.bytes))=some (some (.agg #[.int .i64 0,.string ⟨#[]⟩,.slice none 0 0,.slice none 0 0]),4,72):=by kernel_rfl
theorem Fr.grownNew{n₀:Nat}{w W W':World}(h:Fr n₀ w W){row:Option Nat}(hg:W.grownBy W' row)(ht:∀b,row=some b→w.heap.size≤b):Fr n₀ w W':=by
 refine⟨hg.os.trans h.os,hg.tape.trans h.tape,hg.output.trans h.output,Nat.le_trans h.size hg.size,fun k o hk hd=>?_⟩;have hk':=h.block k o hk hd;refine (hg.block k (gE hk').1 ?_).trans hk';intro e1;have:=ht k e1.symm;have:=(gE hk).1;omega
theorem Za5{w w':World}{row:Option Nat}{b:Nat}{o:Obj}(h:w.heap[b]?=some o)(hg:w.grownBy w' row)(hn:some b≠row):w'.heap[b]?=some o:=(hg.block b (gE h).1 hn).trans h
theorem ZdA{ts:List Tk}(h:0<ts.length):ts.tail.length+1=ts.length:=by rw[List.length_tail];omega
theorem Zjq{l:List PT}(h:¬l.length=1):Zeb l=.mk 7 [] [] l:=by
 match l with
 | []=>rfl
 | [t]=>simp at h
 | t::u::r=>rfl
theorem ZjR{B M:Nat}{pb:Nat}{all:List Tk}(k d:Nat)
  (HA:∀w ts told,PS B M w pb all ts told→Calls Tryz.prog 80 #[.pointer (some ⟨pb,0,none⟩),.int .i64 d] w (Post B M w pb all told (vT w.heap.size) (arr k ts)))
  (w:World) (ts:List Tk) (told:List Dn) (h:PS B M w pb all ts told) :
  Calls Tryz.prog 43 #[.pointer (some ⟨pb,0,none⟩),.int .i64 d] w (Post B M w pb all told (vT w.heap.size) (typP (arr k) ts)):=by
 obtain⟨i0,hi,hz0,hz1,hz2⟩:=info_parts Zns;have HA:=Hd HA;have HPB:=Hd h.lt;have p0:=Hd (h.alloc zT);have HL:=Hd h.len;have hA0:(w.alloc zT).heap[w.heap.size]?=some zT:=hN w _;have hF0:Fr B w (w.alloc zT):=(Fr.refl B w).alloc _;have HB:=Hd h.hi;clear h;obtain⟨res,hres⟩:=eX (typP (arr k) ts);rw[←hres];have HQ:=Hd hres;clear hres;go_enter Tryz.func43,Tryz.ntmps43
 go_wp2_with fail
 refine (HA.out _ _ _ p0.out).mono ?_;rintro e w1 ⟨f1,h1⟩;cases hr:arr k ts with
 | bad y rest ds=>
  rw[hr] at h1;obtain⟨rfl,p1⟩:=h1;go_wp2_with fail
  exact Zap rfl (.bad (HQ.out.trans (by rw[typP,hr,R.bind_bad])) (hF0.trans f1) p1)
 | ok x rest ds=>
  have HS:=Hd (show rest.length≤ts.length by have:=(Zcz k).2 ts;rw[hr] at this;exact this);have HW:=Hd (HQ.out.trans (by rw[typP,hr,R.bind_ok]));rw[hr] at h1;obtain⟨⟨cs,rfl,hcs⟩,p1⟩:=h1;obtain⟨tk,tn,a2,n2,c2,a3,n3,c3,rfl⟩:=Zbq hcs;have hA1:=Zab (f1.cells hA0 (by decide)) (.cells #[.int .i64 tk,.string tn,.slice a2 n2 c2,.slice a3 n3 c3] 26);have HA1:=Hd hA1;have HF1:=Hd ((hF0.trans f1).alloc (.cells #[.int .i64 tk,.string tn,.slice a2 n2 c2,.slice a3 n3 c3] 26));have HL0:=Hd (show w.heap.size<w1.heap.size by have:=f1.size;simp at this;omega);have C1:=Hd ((hcs.below ((Below.refl _ _).alloc (nl _) (.cells #[.int .i64 tk,.string tn,.slice a2 n2 c2,.slice a3 n3 c3] 26))).mono (A':=fun b=>w.heap.size<b) (fun b _ hb=>by simp at hb;omega));have C1':=Hd (hcs);have P1:=Hd (p1.alloc (.cells #[.int .i64 tk,.string tn,.slice a2 n2 c2,.slice a3 n3 c3] 26));clear hr f1 p1 hcs hF0 p0 hA0 hA1;go_wp2_with fail
  go_loopw [5] (fun s5 wr=>∃(acc:List PT) (ts':List Tk) (ds':List Dn) (n:Nat) (xs:List Value) (g cap:Nat),s5=.slice (some ⟨g,0,none⟩) acc.length cap∧ts'.length≤n∧acc.length+ts'.length≤1000001∧0<acc.length∧PS B M wr pb all ts' (told++ds')∧Fr B w wr∧w.heap.size<g∧wr.ownsRow 0 26 4 s5 acc.length xs∧IsCs (fun b=>w.heap.size<b∧b≠g) wr (Zau 26 acc) xs∧wr.heap[w.heap.size]?=some zT∧Hid (res=((ZaV (arr k) n acc ts').bind fun l r=>.ok (Zeb l) r []).tell ds')) (fun _ wr=>left pb all wr)
  case atStart=>
   refine⟨[x],rest,ds,rest.length,[.int .i64 tk,.string tn,.slice a2 n2 c2,.slice a3 n3 c3],w1.heap.size,1,rfl,nl _,?_,by simp,P1.out,HF1.out,HL0.out,?_,?_,HA1.out,HW.out⟩
   ·have:=HS.out;have:=HL.out.1;simp;omega
   ·exact World.ownsRow_lit w1 _ 1 (Nat.zero_le _) (by decide) rfl
   ·have:=(C1'.out.mono (A':=fun b=>w.heap.size<b∧b≠w1.heap.size) (fun b hb hb'=>by simp at hb';exact⟨by omega,by omega⟩)).below ((Below.refl _ _).alloc (nl _) (.cells #[.int .i64 tk,.string tn,.slice a2 n2 c2,.slice a3 n3 c3] 26))
    simpa[Zau] using this
  case round=>
   obtain⟨acc,ts',ds',n,xs,g,cap,rfl,hn,hac,hpos,p,hF,hg,hrow,hcs,hA,hq⟩:=hrel;have P:=Hd p;have F:=Hd hF;have HR:=Hd hrow;have C:=Hd hcs;have HAr:=Hd hA;have HN:=Hd hn;have HAC:=Hd hac;have HG:=Hd hg;have HLE:=Hd p.left;have HL':=Hd p.len;clear p hF hrow hcs hA hn hac hg;go_wp2_with fail
   refine (Zay P.out [124]).mono ?_;rintro e w2 ⟨rfl,p2,f2⟩;have F2:=Hd (F.out.trans f2);have R2:=Hd (f2.row HR.out (by decide));have C2:=Hd (IsCs.fr f2 _ _ C.out);have A2:=Hd (f2.cells HAr.out (by decide));clear f2 F HR C HAr;cases hm:isM [124] ts' with
   | true=>
    simp only[hm,if_true] at p2;have P2:=Hd p2;obtain⟨n',rfl⟩:∃n',n=n'+1:=⟨n-1,by have:=HN.out;have:=HL'.out.2;omega⟩;have hq2:res=(((arr k ts'.tail).bind fun t r=>ZaV (arr k) n' (acc++[t]) r).bind fun l r=>.ok (Zeb l) r []).tell ds':=by rw[hq.out,ZaV,hm];rfl
    have HQ2:=Hd hq2;have HT:=Hd (ZdA HL'.out.2);clear p2 hm hq2 hq;go_wp2_with fail
    refine (HA.out _ _ _ P2.out).mono ?_;rintro e w3 ⟨f3,h3⟩;cases hr:arr k ts'.tail with
    | bad y r3 d3=>
     rw[hr] at h3;obtain⟨rfl,p3⟩:=h3;go_wp2_with fail
     exact Zap rfl (.bad (HQ2.out.trans (by rw[hr,R.bind_bad,R.bind_bad,R.tell_bad])) (F2.out.trans f3) p3.assoc)
    | ok y r3 d3=>
     have HS3:=Hd (show r3.length≤ts'.tail.length by have:=(Zcz k).2 ts'.tail;rw[hr] at this;exact this);rw[hr] at h3;obtain⟨⟨cs,rfl,hcs⟩,p3⟩:=h3;obtain⟨yk,yn,b2,m2,e2,b3,m3,e3,rfl⟩:=Zbq hcs;have HQ3:=Hd (show res=((ZaV (arr k) n' (acc++[y]) r3).bind fun l r=>.ok (Zeb l) r []).tell (ds'++d3) from HQ2.out.trans (by rw[hr,R.bind_ok,R.bind_tell,R.tell_tell]));have F3:=Hd ((F2.out.trans f3).alloc (.cells #[.int .i64 yk,.string yn,.slice b2 m2 e2,.slice b3 m3 e3] 26));have R3:=Hd ((f3.row R2.out (by decide)).alloc (.cells #[.int .i64 yk,.string yn,.slice b2 m2 e2,.slice b3 m3 e3] 26));have HGL:=Hd (show g<w2.heap.size from (R2.out.lt g rfl).2);have C3:=Hd ((IsCs.fr f3 _ _ C2.out).below ((Below.refl _ _).alloc (nl _) (.cells #[.int .i64 yk,.string yn,.slice b2 m2 e2,.slice b3 m3 e3] 26)));have A3:=Hd (Zab (f3.cells A2.out (by decide)) (.cells #[.int .i64 yk,.string yn,.slice b2 m2 e2,.slice b3 m3 e3] 26));have P3:=Hd (p3.alloc (.cells #[.int .i64 yk,.string yn,.slice b2 m2 e2,.slice b3 m3 e3] 26));have E3:=Hd ((hcs.mono (A':=fun b=>w.heap.size<b∧b≠g∧b≠w3.heap.size) (fun b hb hb'=>by have:=HGL.out;have:=HG.out;exact⟨by omega,by omega,by omega⟩)).below ((Below.refl _ _).alloc (nl _) (.cells #[.int .i64 yk,.string yn,.slice b2 m2 e2,.slice b3 m3 e3] 26)));have HSZ:=Hd (show w2.heap.size≤w3.heap.size from f3.size);have hnb:=World.news_of_block (hN w3 (.cells #[.int .i64 yk,.string yn,.slice b2 m2 e2,.slice b3 m3 e3] 26));have HNB:=Hd hnb;have HONE:=Hd (hcs.one);have hmx:acc.length+1≤maxLen:=by have:=HAC.out;unfold maxLen;omega
     have hmb:(acc.length+1)*72≤140737488355328:=by have:=HAC.out;omega
     clear f3 p3 hcs hr hnb F2 R2 A2 P2 C2;go_wp2_with (first | (at_builtin;refine wpList_append_lies _ rfl (.tmp 12) (.tmp 16) 24 rfl 0 26 i0 _ 4 72 Tryz.underlying24 hi hz0 hz1 hz2 rfl (by decide) (.slice (some ⟨g,0,none⟩) acc.length cap) acc.length xs rfl R3.out ⟨w3.heap.size,0,none⟩ 1 1 [.int .i64 yk,.string yn,.slice b2 m2 e2,.slice b3 m3 e3] rfl rfl HNB.out HONE.out (by decide) hmx hmb (Nat.zero_le _) (w3.heap.size+1) (World.size_alloc _ _) ?_;intro g' cap' w4 hown4 hg4 hat4 hlt4))
     have hgg:w.heap.size<g':=by
      have:=HG.out;rcases hat4 with e | e
      ·cases e;exact this
      ·have:=HSZ.out;have:=HGL.out;omega
     have hP4:PS B M w4 pb all r3 (told++(ds'++d3)):=(P3.out.grown R3.out (by decide) (fun b hb=>by have e:g=b:=Option.some.inj hb;have:=HG.out;have:=HPB.out;omega) hg4).assoc;refine⟨⟨acc++[y],r3,ds'++d3,n',xs++[.int .i64 yk,.string yn,.slice b2 m2 e2,.slice b3 m3 e3],g',cap',by simp,?_,?_,by simp,hP4,F3.out.grownNew hg4 (fun b hb=>by cases hb;exact Nat.le_of_lt HG.out),hgg,by simpa using hown4,?_,Za5 A3.out hg4 (fun e=>by cases e;exact absurd HG.out (Nat.lt_irrefl _)),HQ3⟩,?_⟩
     ·have:=HS3.out;have:=HT.out;have:=HN.out;omega
     ·have:=HS3.out;have:=HT.out;have:=HAC.out;simp;omega
     ·rw[ZbZ];have c1:=(C3.out.mono (A':=fun b=>w.heap.size<b∧b≠g∧b<w3.heap.size+1) (fun b hb hb'=>⟨hb'.1,hb'.2,by simpa using hb⟩)).grown hg4 (fun b hb e=>by cases e;exact hb.2.1 rfl);have c2:=(E3.out.mono (A':=fun b=>w.heap.size<b∧b≠g∧b<w3.heap.size+1) (fun b hb hb'=>⟨hb'.1,hb'.2.1,by simpa using hb⟩)).grown hg4 (fun b hb e=>by cases e;exact hb.2.1 rfl);have c3:IsCs (fun b=>w.heap.size<b∧b≠g∧b<w3.heap.size+1) w4 (Zau 26 acc++Zau 26 [y]) (xs++[.int .i64 yk,.string yn,.slice b2 m2 e2,.slice b3 m3 e3]):=c1.append _ _ _ _ (by simpa[Zau] using c2);refine c3.mono (fun b _ hb=>⟨hb.1,?_⟩);rcases hat4 with e | e
      ·cases e;exact hb.2.1
      ·omega
     ·rw[hP4.left,HLE.out];have:=HS3.out;have:=HT.out;omega
   | false=>
    simp only[hm,ff,if_false] at p2;have P2:=Hd p2;have hun:ZaV (arr k) n acc ts'=.ok acc ts' []:=by
     cases n with
     | zero=>rfl
     | succ n=>rw[ZaV,hm];rfl
    have HQ2:=Hd (show res=.ok (Zeb acc) ts' (ds'++[]) by rw[hq.out,hun];rfl);obtain⟨⟨q0,q1,q2,q3⟩,u0,u1,u2,u3⟩:=Zae (t:=26) A2.out;have HGL:=Hd (show g<w2.heap.size from (R2.out.lt g rfl).2);clear p2 hm hun hq;by_cases h1:acc.length=1
    ·obtain⟨y,rfl⟩:∃y,acc=[y]:=List.length_eq_one_iff.1 h1;have C2':=Hd (show IsCs (fun b=>w.heap.size<b∧b≠g) w2 (encT 26 y) xs by have:=C2.out;simpa[Zau] using this);obtain⟨yk,yn,b2,m2,e2,b3,m3,e3,rfl⟩:=Zbq C2'.out;have r0:=R2.out.cellAt 0 (by simp);have r1:=R2.out.cellAt 1 (by simp);have r2:=R2.out.cellAt 2 (by simp);have r3:=R2.out.cellAt 3 (by simp);simp only[List.getElem?_cons_zero,List.getElem?_cons_succ] at r0 r1 r2 r3;clear h1;go_wp2_with fail
     exact Zd5 rfl rfl rfl (Zam (vs:=[.int .i64 yk,.string yn,.slice b2 m2 e2,.slice b3 m3 e3]) A2.out rfl) (.ok HQ2.out (F2.out.putL (nl _) [_,_,_,_]) ⟨_,rfl,(C2'.out.putL w.heap.size (fun b hb=>Nat.ne_of_gt hb.1) [.int .i64 yk,.string yn,.slice b2 m2 e2,.slice b3 m3 e3]).mono (fun b _ hb=>Nat.le_of_lt hb.1)⟩ (by rw[List.append_nil];exact P2.out.putL A2.out (by decide) HPB.out [.int .i64 yk,.string yn,.slice b2 m2 e2,.slice b3 m3 e3]))
    ·have h1':((acc.length:Int)==1)=false:=by simp;omega
     have h1'':¬(acc.length:Int)=1:=by omega
     go_wp2_with fail
     have R3:(putL w2 w.heap.size [.int .i64 7,.string ⟨#[]⟩,.slice none 0 0,.slice (some ⟨g,0,none⟩) acc.length cap]).ownsRow 0 26 4 (.slice (some ⟨g,0,none⟩) acc.length cap) acc.length xs:=
      Zbc (S:=fun b=>b=w.heap.size) R2.out (by rw[(ZaW w.heap.size [.int .i64 7,.string ⟨#[]⟩,.slice none 0 0,.slice (some ⟨g,0,none⟩) acc.length cap] 0 w2).2.2.2];exact nl _) (fun b _ hb=>ZaS _ _ _ _ _ hb) (fun b hb=>by cases hb;exact Nat.ne_of_gt HG.out)
     have C3:=C2.out.putL w.heap.size (fun b hb=>Nat.ne_of_gt hb.1) [.int .i64 7,.string ⟨#[]⟩,.slice none 0 0,.slice (some ⟨g,0,none⟩) acc.length cap];have C4:IsCs (fun b=>w.heap.size<b) (putL w2 w.heap.size [.int .i64 7,.string ⟨#[]⟩,.slice none 0 0,.slice (some ⟨g,0,none⟩) acc.length cap]) (encT 26 (Zeb acc)) [.int .i64 7,.string ⟨#[]⟩,.slice none 0 0,.slice (some ⟨g,0,none⟩) acc.length cap]:=by
      rw[Zjq h1];simp only[encT,List.map_nil,lN];exact .cons (.num _ _ _) (.cons (.str _ _ _) (.cons (.none _ _ _ (by decide)) (.cons (.row (by decide) R3 (fun b hb=>by cases hb;exact HG.out) (C3.mono (fun b _ hb=>hb.1))) (.nil _ _))))
     exact Zd5 rfl rfl rfl (Zam (vs:=[.int .i64 7,.string ⟨#[]⟩,.slice none 0 0,.slice (some ⟨g,0,none⟩) acc.length cap]) A2.out rfl) (.ok HQ2.out (F2.out.putL (nl _) [_,_,_,_]) ⟨_,rfl,C4.mono (fun b _ hb=>Nat.le_of_lt hb)⟩ (by rw[List.append_nil];exact P2.out.putL A2.out (by decide) HPB.out [.int .i64 7,.string ⟨#[]⟩,.slice none 0 0,.slice (some ⟨g,0,none⟩) acc.length cap]))
open Go.RowKit Go.Shelf Go.Maps
def SetIs (w:World)(mb:Nat)(seen:List Bs):Prop:=∃D:DataW Unit,w.ownsMap Tryz.prog 9 unitElem mb seen.length D∧Maps.IsMap D∧∀s:Bs,Maps.has D (.string s)=decide (s∈seen)
theorem SetIs.made (w:World):SetIs (w.alloc (.map #[] 0)) w.heap.size []:=⟨.map [],World.ownsMap_made _ _ _ _,Maps.isMap_empty,fun s=>by simp[Maps.has_eq]⟩
theorem SetIs.fr{n₀:Nat}{w w':World}{mb:Nat}{seen:List Bs}(h:SetIs w mb seen)(hF:Fr n₀ w w'):SetIs w' mb seen:=by
 obtain⟨D,⟨es,clock,hb,r⟩,h2⟩:=h;exact⟨D,⟨es,clock,hF.block mb _ hb (.inr fun _ _ _ e=>by cases e),r⟩,h2⟩
theorem SetIs.alloc{w:World}{mb:Nat}{seen:List Bs}(h:SetIs w mb seen)(o:Obj):SetIs (w.alloc o) mb seen:=h.fr (n₀:=0) ((Fr.refl _ _).alloc o)
theorem SetIs.put{w:World}{mb:Nat}{seen:List Bs}{D:DataW Unit}(h:w.ownsMap Tryz.prog 9 unitElem mb (seen.length+1) D){D0:DataW Unit}(h0:Maps.IsMap D0)(hs:∀s:Bs,Maps.has D0 (.string s)=decide (s∈seen))(x:Bs)(hD:D=D0.put (.string x) (.agg [])):SetIs w mb (x::seen):=by
 subst hD;refine⟨_,h,h0.put _ _,fun s=>?_⟩;by_cases e:s=x
 ·subst e;rw[Maps.has_put_same h0 (show WideAt.IsKeyLit (.string s) from trivial)];simp
 ·rw[Maps.has_put_other (fun e'=>e (by injection e')),hs];simp[e]
theorem SetIs.lt{w:World}{mb:Nat}{seen:List Bs}(h:SetIs w mb seen):mb<w.heap.size:=by
 obtain⟨D,⟨es,clock,hb,r⟩,h2⟩:=h;exact (gE hb).1
theorem SetIs.grown{w w':World}{mb:Nat}{seen:List Bs}(h:SetIs w mb seen){row:Option Nat}(hg:w.grownBy w' row)(hn:some mb≠row):SetIs w' mb seen:=by
 obtain⟨D,⟨es,clock,hb,r⟩,h2⟩:=h;exact⟨D,⟨es,clock,Za5 hb hg hn,r⟩,h2⟩
theorem Zno{n₀:Nat}{w w':World}{mb n:Nat}{D:DataW Unit}(h:w.ownsMap Tryz.prog 9 unitElem mb n D)(hF:Fr n₀ w w'):w'.ownsMap Tryz.prog 9 unitElem mb n D:=by
 obtain⟨es,clock,hb,r⟩:=h;exact⟨es,clock,hF.block mb _ hb (.inr fun _ _ _ e=>by cases e),r⟩
theorem PS.told_eq{B M:Nat}{w:World}{pb:Nat}{all ts:List Tk}{t1 t2:List Dn}(h:PS B M w pb all ts t1)(e:t1=t2):PS B M w pb all ts t2:=e▸h
theorem PS.hd_mem{B M:Nat}{w:World}{pb:Nat}{all ts:List Tk}{told:List Dn}(h:PS B M w pb all ts told):hd ts∈all:=by
 obtain⟨-,-,h3,-,-,vt,vd,i,-,-,-,h9,-⟩:=h;have:hd ts∈ts:=by
  obtain⟨p,e,h3,-⟩:=h3;rw[h3];cases p<;>simp[hd]
 rw[h9] at this;rw[h9];exact List.mem_of_mem_drop this
theorem law9:Keyed Tryz.prog 9:=string_keyed Tryz.underlying9
theorem ZjK (w:World):(zeroValue 139).run Tryz.prog w=.ok (.agg #[]) w:=by kernel_rfl
theorem key9{s:Bs}(h:s.length≤1000000):keyOf Tryz.prog 9 (.string ⟨s.toArray⟩)=some (.string s):=by
 have:=WideMaps.keyOf_string_mk (P:=Tryz.prog) (k:=9) Tryz.underlying9 (s:=⟨s.toArray⟩) (by unfold maxLen;rw[Lib.size_eq];simp;omega)
 simpa using this
theorem Zhb:(Tryz.prog.info? 153).map (fun i=>(i.zero,i.size,i.bytes))=some (some (.agg #[.int .i64 0,.int .i64 0,.string ⟨#[]⟩]),3,32):=by kernel_rfl
theorem PS.tells{B M:Nat}{w w' w'':World}{pb:Nat}{all ts:List Tk}{told:List Dn}(h:PS B M w pb all ts told)(y:Dn)(hM:told.length+1+ts.length≤M){v0 v1 v2:Value}(hp:w.heap[pb]?=some (.cells #[v0,v1,v2] 112 (0,0))){g cap:Nat}(hg:w.grownBy w' v2.ownBlock)(hr:w'.ownsRow B 153 3 (.slice (some ⟨g,0,none⟩) (told.length+1) cap) (told.length+1) (ZbC told++y.cells))
  (hv:v2.ownBlock=some g∨w.heap.size≤g) (hw:w''=w'.setCell ⟨pb,2,none⟩ (.slice (some ⟨g,0,none⟩) (told.length+1) cap)):PS B M w'' pb all ts (told++[y])∧Fr B w w'':=by
 subst hw;obtain⟨h1,h2,h3,h4,h5,vt,vd,i,h6,h7,h8,h9,h10⟩:=h;have hpb:=(gE hp).1;rw[hp] at h6;simp only[Option.some.injEq,Obj.cells.injEq,Array.mk.injEq,List.cons.injEq,and_true] at h6;obtain⟨rfl,rfl,rfl⟩:=h6;have hF:Fr B w w':=(Fr.refl B w).grown h8 (.inl (by decide)) hg;have hne:some pb≠v2.ownBlock:=by
  intro e;rcases h8.2 with ⟨rfl,_⟩ | ⟨g',cap',cur,rfl,_,hgg,_⟩
  ·cases e
  ·simp only[Value.ownBlock,Option.some.injEq] at e;subst e;rw[hp] at hgg;cases hgg
 have hp':w'.heap[pb]?=some (.cells #[v0,.int .i64 i,v2] 112 (0,0)):=(hg.block pb hpb hne).trans hp;have hne2:∀{base:Nat}{e:TypeId}{v:Value}{n:Nat}{xs:List Value},w'.ownsRow base e 3 v n xs→e≠112→∀u,(w'.setCell ⟨pb,2,none⟩ u).ownsRow base e 3 v n xs:=by
  intro base e v n xs hr he u;refine⟨hr.1,?_⟩;rcases hr.2 with hn | ⟨g,cap,cur,hv,hg0,hg,rest⟩
  ·exact .inl hn
  ·refine .inr ⟨g,cap,cur,hv,hg0,(Below.heap_setCell w' ⟨pb,2,none⟩ _ g ?_).trans hg,rest⟩;rintro rfl;rw[hp'] at hg;cases hg;exact he rfl
 refine⟨⟨h1,by have:=hg.size;simp[World.setCell];omega,h3,by simp;omega,h5,v0,_,i,heap_setCell_same w' pb 2 _ _ _ hp',hne2 (hF.row h7 (by decide)) (by decide) _,?_,h9,h10⟩,hF.setOwn hp' (by decide) h1 _⟩;rw[Zhh,lA];exact hne2 hr (by decide) _
theorem PS.mapped{B M:Nat}{w w':World}{pb:Nat}{all ts:List Tk}{told:List Dn}(h:PS B M w pb all ts told){mb:Nat}{seen:List Bs}(hs:SetIs w mb seen)(hg:w.grownBy w' (some mb))(hlt:pb<mb):PS B M w' pb all ts told:=by
 obtain⟨D,⟨es,clock,hb,-⟩,-⟩:=hs;refine h.other hg.size fun k o hk hd=>(hg.block k (gE hk).1 ?_).trans hk
 intro e;have e':k=mb:=Option.some.inj e;subst e';rcases hd with hd | ⟨c,fz,rfl⟩
 ·omega
 ·rw[hb] at hk;cases hk
theorem ZeD{ts:List Tk}{nm:Tk}{r:List Tk}{d:List Dn}(h:Zaj ts=.ok nm r d):nm=hd ts∧r=ts.tail∧d=[]:=by
 unfold Zaj at h;split at h
 ·injection h with h1 h2 h3
  exact⟨h1.symm,h2.symm,h3.symm⟩
 ·cases h
def ZcE (l:List (Bs×PT)):List Dt:=l.flatMap fun x=>.str x.1::encT 26 x.2
theorem Zjz (l:List (Bs×PT))(x:Bs×PT):ZcE (l++[x])=ZcE l++(.str x.1::encT 26 x.2):=by simp[ZcE]
def vFT (lo:Nat)(fs:List (Bs×PT))(e:Ending)(w':World):Prop:=∃v xs,e=.returned v∧w'.ownsRow 0 252 5 v fs.length xs∧(∀b,v.ownBlock=some b→lo≤b)∧IsCs (fun b=>lo≤b∧some b≠v.ownBlock) w' (ZcE fs) xs
theorem ZoN:(Tryz.prog.info? 252).map (fun i=>(i.zero,i.size,i.bytes))=some (some (.agg #[.string ⟨#[]⟩,.int .i64 0,.string ⟨#[]⟩,.slice none 0 0,.slice none 0 0]),5,88):=by kernel_rfl
theorem ZmL{B M:Nat}{pb:Nat}{all:List Tk}(hM:M≤10000000)(hall:∀t∈all,t.t.length≤1000000)(sign:Bs)(read:List Tk→R PT)(hshr:∀ts,Shr ts.length (read ts))(b0 b1:Nat)(Bx:World→Prop)(hBx:∀w w',Bx w→Fr B w w'→Bx w')
  (HC:∀w ts told,PS B M w pb all ts told→Bx w→Calls Tryz.prog 191 #[.pointer (some ⟨b0,0,none⟩),.pointer (some ⟨b1,0,none⟩)] w (Post B M w pb all told (vT w.heap.size) (read ts)))
  (w:World) (ts:List Tk) (told:List Dn) (h:PS B M w pb all ts told) (hb:Bx w) :
  Calls Tryz.prog 190 #[.pointer (some ⟨pb,0,none⟩),.string ⟨sign.toArray⟩,.func (.func 191) #[] #[.pointer (some ⟨b0,0,none⟩),.pointer (some ⟨b1,0,none⟩)]] w (Post B M w pb all told (vFT w.heap.size) (Zbh sign read ts)):=by
 have hmm:=@run_makeMap Tryz.prog;obtain⟨i0,hi,hz0,hz1,hz2⟩:=info_parts ZoN;obtain⟨j0,hj,hy0,hy1,hy2⟩:=info_parts Zhb;have HC:=Hd HC;have HSH:=Hd hshr;have HALL:=Hd hall;have HBX:=Hd hBx;have HPB:=Hd h.lt;have HL:=Hd h.len;have HB0:=Hd hb;have HB:=Hd h.hi;have P0:=Hd h;clear h hb hshr hall hBx;obtain⟨res,hres⟩:=eX (Zbh sign read ts);rw[←hres];have HQ:=Hd hres;clear hres;go_enter Tryz.func190,Tryz.ntmps190
 go_wp2_with fail
 refine (Zay P0.out [125]).mono ?_;rintro e w1 ⟨rfl,p1,f1⟩;cases hm:isM [125] ts with
 | true=>
  simp only[hm,if_true] at p1;have hq:res=.ok [] ts.tail []:=by rw[HQ.out,Zbh,hm];rfl
  have HW:=Hd hq;clear hm hq;go_wp2_with fail
  go_ret
  exact .ok HW.out f1 ⟨_,[],rfl,World.ownsRow_nil _ _ _ _,fun b hb=>(by cases hb),IsCs.nil _ _⟩ p1.nil
 | false=>
  simp only[hm,ff,if_false] at p1;have hq:res=ZaA sign read ts.length [] [] ts:=by rw[HQ.out,Zbh,hm];rfl
  have HW:=Hd hq;have P1:=Hd p1;have F1:=Hd f1;have B1:=Hd (HBX.out _ _ HB0.out f1);clear hm hq p1 f1;go_wp2_with fail
  go_loopw [7] (fun s7 wr=>∃(seen:List Bs) (acc:List (Bs×PT)) (ts':List Tk) (ds':List Dn) (n:Nat) (xs:List Value),ts'.length≤n∧acc.length+ts'.length≤1000000∧seen.length+ts'.length≤1000000∧PS B M wr pb all ts' (told++ds')∧Fr B w wr∧SetIs wr w1.heap.size seen∧wr.ownsRow 0 252 5 s7 acc.length xs∧(∀b,s7.ownBlock=some b→w1.heap.size<b)∧IsCs (fun b=>w1.heap.size<b∧some b≠s7.ownBlock) wr (ZcE acc) xs∧Hid (res=(ZaA sign read n seen acc ts').tell ds')) (fun _ wr=>left pb all wr)
  case atStart=>
   refine⟨[],[],ts,[],ts.length,[],nl _,by simpa using HL.out.1,by simpa using HL.out.1,(P1.out.alloc _).nil,F1.out.alloc _,SetIs.made _,World.ownsRow_nil _ _ _ _,fun b hb=>(by cases hb),IsCs.nil _ _,?_⟩;rw[HW.out,R.tell_nil];exact rfl
  case round=>
   obtain⟨seen,acc,ts',ds',n,xs,hn,hac,hse,p,hF,hset,hrow,hown,hcs,hq⟩:=hrel;have P:=Hd p;have F:=Hd hF;have S:=Hd hset;have HR:=Hd hrow;have HO:=Hd hown;have C:=Hd hcs;have HN:=Hd hn;have HAC:=Hd hac;have HSE:=Hd hse;have HLE:=Hd p.left;have HL':=Hd p.len;have HT:=Hd (ZdA p.len.2);have HMEM:=Hd (HALL.out _ p.hd_mem);have hbd:=p.bd;have HBD:=Hd hbd;have HMB:=Hd hset.lt;obtain⟨n',rfl⟩:∃n',n=n'+1:=⟨n-1,by have:=p.len.2;omega⟩;clear p hF hset hrow hown hcs hn hac hse hbd;go_wp2_with fail
   refine (ZbW P.out).mono ?_;rintro e w2 ⟨f2,h2⟩;cases hr:Zaj ts' with
   | bad y r2 d2=>
    rw[hr] at h2;obtain⟨rfl,p2⟩:=h2;go_wp2_with fail
    exact Zap rfl (.bad (hq.out.trans (by rw[ZaA,hr,R.bind_bad,R.tell_bad])) (F.out.trans f2) p2.assoc)
   | ok nm r2 d2=>
    rw[hr] at h2;obtain⟨h2,p2⟩:=h2;cases h2;obtain⟨e1,rfl,rfl⟩:=ZeD hr;have hk:nm.t.length≤1000000:=by rw[e1];exact HMEM.out
    have HKEY:=Hd (key9 hk);rw[List.append_nil] at p2;have TK:=Hd (show (w2.alloc (.cells #[.int .i64 nm.k,.int .i64 nm.a,.string ⟨nm.t.toArray⟩] 105)).heap[w2.heap.size]?=_ from hN w2 _);have P2:=Hd (p2.alloc (.cells #[.int .i64 nm.k,.int .i64 nm.a,.string ⟨nm.t.toArray⟩] 105));have F2:=Hd ((F.out.trans f2).alloc (.cells #[.int .i64 nm.k,.int .i64 nm.a,.string ⟨nm.t.toArray⟩] 105));have S2:=Hd ((S.out.fr f2).alloc (.cells #[.int .i64 nm.k,.int .i64 nm.a,.string ⟨nm.t.toArray⟩] 105));have R2:=Hd ((f2.row HR.out (by decide)).alloc (.cells #[.int .i64 nm.k,.int .i64 nm.a,.string ⟨nm.t.toArray⟩] 105));have C2:=Hd ((IsCs.fr f2 _ _ C.out).below ((Below.refl _ _).alloc (nl _) (.cells #[.int .i64 nm.k,.int .i64 nm.a,.string ⟨nm.t.toArray⟩] 105)));have HSZ2:=Hd (show wr.heap.size≤w2.heap.size from f2.size);have HQ2:=Hd (hq.out.trans (by rw[ZaA,hr,R.bind_ok,R.tell_nil]));clear hr p2 f2 e1 hk S HR C F P hq;obtain⟨D,hmo,hmi,hms⟩:=S2.out;have MO:=Hd hmo;have MS:=Hd hms;have MI:=Hd hmi;clear hmo hms hmi;unfold tokV;obtain⟨tw,htw⟩:∃tw:Bool,tw=decide (nm.t∈seen):=⟨_,rfl⟩;have hhas:Maps.has D (.string nm.t)=tw:=by rw[MS.out,htw]
    have HTW:=Hd htw;clear htw;go_upto_if 25 with (first
      | (at_lookup;refine wpList_lookup_own_unit _ rfl _ _ 135 rfl 9 139 law9 Tryz.underlying135 (ZjK _) w1.heap.size _ D rfl MO.out _ _ rfl HKEY.out ?_;rw[hhas]))
    obtain⟨W3,hW3⟩:=eY ((w2.alloc (.cells #[.int .i64 nm.k,.int .i64 nm.a,.string ⟨nm.t.toArray⟩] 105)).alloc (.cells #[] 139));have P3:=Hd (show PS B M W3 pb all ts'.tail (told++ds') by rw[←hW3];exact P2.out.alloc _);have F3:=Hd (show Fr B w W3 by rw[←hW3];exact F2.out.alloc _);have M3:=Hd (show W3.ownsMap Tryz.prog 9 unitElem w1.heap.size seen.length D by rw[←hW3];exact MO.out.alloc _);have R3:=Hd (show W3.ownsRow 0 252 5 u7 acc.length xs by rw[←hW3];exact R2.out.alloc _);have C3:=Hd (show IsCs (fun b=>w1.heap.size<b∧some b≠u7.ownBlock) W3 (ZcE acc) xs by rw[←hW3];exact C2.out.below ((Below.refl _ _).alloc (nl _) _));have hT3:Thr W3 w2.heap.size 105 (.int .i64 nm.k) (.int .i64 nm.a) (.string ⟨nm.t.toArray⟩):=by rw[←hW3];exact Zab TK.out _
    have HSZ3:=Hd (show W3.heap.size=w2.heap.size+2 by rw[←hW3];simp);rw[hW3];clear hW3 P2 F2 R2 C2 TK MO;go_cut [] from 16 to 60 (fun wx=>PS B M wx pb all ts'.tail (told++ds'++(if tw then [⟨nm.a,4,nm.t⟩] else []))∧Fr B W3 wx)
    case first=>
     cases tw with
     | false=>
      go_wp2_with fail
      go_meet
      exact⟨by simpa using P3.out,Fr.refl _ _⟩
     | true=>
      go_wp2_with fail
      obtain⟨vt,vd,i3,h6,-,h8,-⟩:=P3.out.ex;obtain⟨⟨c0,c1,c2⟩,u0,u1,u2⟩:=Zan h6;obtain⟨⟨t0,t1,t2⟩,-⟩:=Zan hT3;have H6:=Hd h6;have R65:Hid (∀W:World,W.heap=(W3.alloc (.cells #[.int .i64 nm.a,.int .i64 4,.string ⟨nm.t.toArray⟩] 153)).heap→W.ownsRow B 153 3 vd (told++ds').length (ZbC (told++ds'))):=fun W e=>by
       have:=h8.alloc (.cells #[.int .i64 nm.a,.int .i64 4,.string ⟨nm.t.toArray⟩] 153);refine⟨this.1,?_⟩;rw[e];exact this.2
      have hmx:(told++ds').length+1≤maxLen:=by have:=HBD.out;unfold maxLen;omega
      have hmb:((told++ds').length+1)*32≤140737488355328:=by have:=HBD.out;omega
      have HBS:=Hd (show B≤W3.heap.size+1 by have:=P3.out.hi;omega);have HN65:=Hd (World.news_of_block (hN W3 (.cells #[.int .i64 nm.a,.int .i64 4,.string ⟨nm.t.toArray⟩] 153)));have HPL:=Hd P3.out.lt;have HV:=Hd h8;have HNE:=Hd (show some pb≠vd.ownBlock from fun e=>by
       rcases h8.2 with ⟨rfl,_⟩ | ⟨g',cap',cur,rfl,_,hgg,_⟩
       ·cases e
       ·simp only[Value.ownBlock,Option.some.injEq] at e;subst e;rw[H6.out] at hgg;cases hgg)
      clear h6 h8;have hpl:=P3.out.lt;have HBT:=Hd (show (told++ds').length+1+ts'.tail.length≤M by have:=HBD.out;have:=HT.out;omega);go_region_law (refine step_append_lies _ rfl (.tmp 30) (.tmp 36) 50 rfl B 153 j0 _ 3 32 Tryz.underlying50 hj hy0 hy1 hy2 rfl (by decide) vd (told++ds').length (ZbC (told++ds')) rfl (R65.out _ rfl) ⟨W3.heap.size,0,none⟩ 1 1 [.int .i64 nm.a,.int .i64 4,.string ⟨nm.t.toArray⟩] rfl rfl (fun j u hu=>HN65.out j u hu) one3 (by decide) hmx hmb (by simpa using HBS.out) _ rfl ?_;intro g cap W5 hown5 hg5 hloc5 hlt5;(have hp5:Thr W5 pb 112 vt (.int .i64 i3) vd:=(hg5.block pb (Nat.lt_succ_of_lt HPL.out |> fun h=>by simpa using h) HNE.out).trans (Zab H6.out (.cells #[.int .i64 nm.a,.int .i64 4,.string ⟨nm.t.toArray⟩] 153)));obtain⟨⟨e0,e1,e2⟩,y0,y1,y2⟩:=Zan hp5;(have HO5:=Hd hown5);(have HG5:=Hd hg5);(have HL5:=Hd hloc5);clear hown5 hg5 hloc5 hp5)
      all_goals
       go_wp2_with fail
       go_meet
       have hL:vd.ownBlock=some g∨(W3.alloc (.cells #[.int .i64 nm.a,.int .i64 4,.string ⟨nm.t.toArray⟩] 153)).heap.size≤g:=HL5.out.imp id (fun e=>by rw[e];exact nl _);have hg6:(W3.alloc (.cells #[.int .i64 nm.a,.int .i64 4,.string ⟨nm.t.toArray⟩] 153)).grownBy W5 vd.ownBlock:=⟨HG5.out.os,HG5.out.tape,HG5.out.output,HG5.out.size,HG5.out.block⟩;obtain⟨a1,a2⟩:=(P3.out.alloc (.cells #[.int .i64 nm.a,.int .i64 4,.string ⟨nm.t.toArray⟩] 153)).tells ⟨nm.a,4,nm.t⟩ HBT.out (Zab H6.out _) hg6 HO5.out hL rfl;simp only[lA] at a1 a2;exact⟨a1,((Fr.refl B W3).alloc _).trans a2⟩
    case rest=>
     obtain⟨p4,f4⟩:=hcut;obtain⟨dd,hdd⟩:∃dd:List Dn,dd=(if tw=true then [⟨nm.a,4,nm.t⟩] else []):=⟨_,rfl⟩;rw[←hdd] at p4;have HDD:=Hd (show dd=(if nm.t∈seen then [⟨nm.a,4,nm.t⟩] else []) by rw[hdd,HTW.out];by_cases e:nm.t∈seen<;>simp[e]);have HQ3:=Hd (show res=R.tell ds' (R.tell dd ((want sign ts'.tail).bind fun _ r=>(read r).bind fun v r=>
      if isM [44] r=true then ZaA sign read n' (nm.t::seen) (if nm.t∈seen then acc else acc++[(nm.t,v)]) r.tail
      else (want [125] r).bind fun _ r=>R.ok (if nm.t∈seen then acc else acc++[(nm.t,v)]) r [])) by rw[HDD.out];exact HQ2.out)
     have P4:=Hd p4;have F4:=Hd (F3.out.trans f4);have M4:=Hd (Zno M3.out f4);have R4:=Hd (f4.row R3.out (by decide));have C4:=Hd (IsCs.fr f4 _ _ C3.out);have HT4:=Hd (f4.cells hT3 (by decide));have HSZ4:=Hd (show w2.heap.size<wc.heap.size by have:=f4.size;have:=HSZ3.out;omega);obtain⟨⟨t0,t1,t2⟩,-⟩:=Zan (show Thr wc w2.heap.size 105 (.int .i64 nm.k) (.int .i64 nm.a) (.string ⟨nm.t.toArray⟩) from HT4.out);clear p4 f4 hdd HQ2 P3 F3 M3 R3 C3 hT3 S2 HSZ3 hhas;go_wp2_with (first | (at_mapUpdate;refine wpList_mapUpdate_own _ rfl _ _ _ 135 rfl 9 139 law9 Tryz.underlying135 _ w1.heap.size seen.length D rfl M4.out (by have:=HSE.out;unfold maxLen;omega) _ _ _ rfl rfl HKEY.out _ [] unitElem_mk ?_;intro w5 hown5 hg5))
     have S5:=Hd (SetIs.put hown5 MI.out MS.out nm.t rfl);have P5:=Hd (P4.out.mapped ⟨D,M4.out,MI.out,MS.out⟩ hg5 (by have:=HPB.out;have:=F1.out.size;omega));have F5:=Hd (F4.out.grownNew hg5 (fun b hb=>by cases hb;exact F1.out.size));have T5:=Hd (Za5 HT4.out hg5 (fun e=>by have e':=Option.some.inj e;have:=HMB.out;have:=HSZ2.out;omega));have R5:=Hd (Zbc (S:=fun b=>b=w1.heap.size) R4.out hg5.size (fun b hb hn=>hg5.block b hb (fun e=>hn (by cases e;rfl))) (fun b hb e=>by subst e;exact absurd (HO.out _ hb) (Nat.lt_irrefl _)));have C5:=Hd (C4.out.grown hg5 (fun b hb e=>by cases e;exact absurd hb.1 (Nat.lt_irrefl _)));have HSZ5:=Hd (show w2.heap.size<w5.heap.size by have:=hg5.size;have:=HSZ4.out;omega);clear hown5 hg5 P4 F4 M4 R4 C4 HT4 t0 t1 t2 MI MS HKEY;refine (ZaU P5.out sign).mono ?_;rintro e w6 ⟨f6,h6⟩;cases hr:want sign ts'.tail with
     | bad y r6 d6=>
      rw[hr] at h6;obtain⟨rfl,p6⟩:=h6;go_wp2_with fail
      exact Zap rfl (.bad (HQ3.out.trans (by rw[hr,R.bind_bad,R.tell_bad,R.tell_bad])) (F5.out.trans f6) (p6.told_eq (by simp)))
     | ok x6 r6 d6=>
      have HS6:=Hd (show r6.length≤ts'.tail.length by have:=ZaQ sign ts'.tail;rw[hr] at this;exact this);rw[hr] at h6;obtain⟨h6,p6⟩:=h6;cases h6;have HQ6:=Hd (HQ3.out.trans (by rw[hr,R.bind_ok,R.tell_tell]));have P6:=Hd p6;have F6:=Hd (F5.out.trans f6);have S6:=Hd (S5.out.fr f6);have T6:=Hd (f6.cells T5.out (by decide));have R6:=Hd (f6.row R5.out (by decide));have C6:=Hd (IsCs.fr f6 _ _ C5.out);have B6:=Hd (HBX.out _ _ HB0.out F6.out);have HSZ6:=Hd (show w2.heap.size<w6.heap.size by have:=f6.size;have:=HSZ5.out;omega);clear f6 p6 hr P5 F5 S5 T5 R5 C5 HQ3 HSZ5;go_wp2_with fail
      refine (HC.out _ _ _ P6.out B6.out).mono ?_;rintro e w7 ⟨f7,h7⟩;cases hr:read r6 with
      | bad y r7 d7=>
       rw[hr] at h7;obtain⟨rfl,p7⟩:=h7;go_wp2_with fail
       exact Zap rfl (.bad (HQ6.out.trans (by rw[hr,R.bind_bad,R.tell_bad,R.tell_bad])) (F6.out.trans f7) (p7.told_eq (by simp)))
      | ok v r7 d7=>
       have HS7:=Hd (show r7.length≤r6.length by have:=HSH.out r6;rw[hr] at this;exact this);rw[hr] at h7;obtain⟨⟨cs,rfl,hcs⟩,p7⟩:=h7;obtain⟨tk,tn,a2,n2,c2,a3,n3,c3,rfl⟩:=Zbq hcs;obtain⟨acc',hacc'⟩:∃acc',acc'=(if nm.t∈seen then acc else acc++[(nm.t,v)]):=⟨_,rfl⟩;have HQ7:=Hd (show res=R.tell (ds'++dd++d6++d7) (if isM [44] r7=true then ZaA sign read n' (nm.t::seen) acc' r7.tail else (want [125] r7).bind fun _ r=>R.ok acc' r []) from HQ6.out.trans (by rw[hr,R.bind_ok,hacc'];simp only[R.tell_tell,aA]));have HACC:=Hd (show acc'=(if tw=true then acc else acc++[(nm.t,v)]) by rw[hacc',HTW.out];by_cases e:nm.t∈seen<;>simp[e]);have P7:=Hd ((p7.told_eq (show _=told++(ds'++dd++d6++d7) by simp)).alloc (.cells #[.int .i64 tk,.string tn,.slice a2 n2 c2,.slice a3 n3 c3] 26));have F7:=Hd ((F6.out.trans f7).alloc (.cells #[.int .i64 tk,.string tn,.slice a2 n2 c2,.slice a3 n3 c3] 26));have S7:=Hd ((S6.out.fr f7).alloc (.cells #[.int .i64 tk,.string tn,.slice a2 n2 c2,.slice a3 n3 c3] 26));have T7:=Hd (Zab (f7.cells T6.out (by decide)) (.cells #[.int .i64 tk,.string tn,.slice a2 n2 c2,.slice a3 n3 c3] 26));have R7:=Hd ((f7.row R6.out (by decide)).alloc (.cells #[.int .i64 tk,.string tn,.slice a2 n2 c2,.slice a3 n3 c3] 26));have C7:=Hd ((IsCs.fr f7 _ _ C6.out).below ((Below.refl _ _).alloc (nl _) (.cells #[.int .i64 tk,.string tn,.slice a2 n2 c2,.slice a3 n3 c3] 26)));have V7:=Hd (hcs.below ((Below.refl _ _).alloc (nl _) (.cells #[.int .i64 tk,.string tn,.slice a2 n2 c2,.slice a3 n3 c3] 26)));have N7:=Hd (show (w7.alloc (.cells #[.int .i64 tk,.string tn,.slice a2 n2 c2,.slice a3 n3 c3] 26)).heap[w7.heap.size]?=_ from hN w7 _);have HSZ7:=Hd (show w6.heap.size≤w7.heap.size from f7.size);have HRL:=Hd (show ∀b,u7.ownBlock=some b→b<w6.heap.size from fun b hb=>(R6.out.lt b hb).2);clear f7 p7 hr hcs hacc' P6 F6 S6 T6 R6 C6 B6 HQ6;go_upto_if 50 with fail
       obtain⟨W8,hW8⟩:=eY (w7.alloc (.cells #[.int .i64 tk,.string tn,.slice a2 n2 c2,.slice a3 n3 c3] 26));have HS8:=Hd (show W8.heap.size=w7.heap.size+1 by rw[←hW8];simp);rw[hW8] at P7 F7 S7 T7 R7 C7 V7 N7;rw[hW8];clear hW8;go_cut [7] from 16 to 60 (fun s7 wx=>∃xs',wx.ownsRow 0 252 5 s7 acc'.length xs'∧(∀b,s7.ownBlock=some b→w1.heap.size<b)∧IsCs (fun b=>w1.heap.size<b∧some b≠s7.ownBlock) wx (ZcE acc') xs'∧PS B M wx pb all r7 (told++(ds'++dd++d6++d7))∧Fr B w wx∧SetIs wx w1.heap.size (nm.t::seen))
       case first=>
        cases tw with
        | true=>
         go_wp2_with fail
         go_meet
         obtain rfl:acc'=acc:=by simpa using HACC.out
         exact⟨xs,R7.out,HO.out,C7.out,P7.out,F7.out,S7.out⟩
        | false=>
         obtain⟨⟨t0,t1,t2⟩,-⟩:=Zan (show Thr W8 w2.heap.size 105 (.int .i64 nm.k) (.int .i64 nm.a) (.string ⟨nm.t.toArray⟩) from T7.out);obtain⟨⟨q0,q1,q2,q3⟩,-⟩:=Zae (t:=26) N7.out;have R8:=Hd (R7.out.alloc (.cells #[.string ⟨nm.t.toArray⟩,.int .i64 tk,.string tn,.slice a2 n2 c2,.slice a3 n3 c3] 252));have HNB:=Hd (World.news_of_block (hN W8 (.cells #[.string ⟨nm.t.toArray⟩,.int .i64 tk,.string tn,.slice a2 n2 c2,.slice a3 n3 c3] 252)));have HONE:=Hd (show ∀u∈[Value.string ⟨nm.t.toArray⟩,.int .i64 tk,.string tn,.slice a2 n2 c2,.slice a3 n3 c3],u.oneCell'=true from List.forall_mem_cons.2 ⟨rfl,V7.out.one⟩);have hmx:acc.length+1≤maxLen:=by have:=HAC.out;unfold maxLen;omega
         have hmb:(acc.length+1)*88≤140737488355328:=by have:=HAC.out;omega
         go_wp2_with (first | (at_builtin;refine wpList_append_lies _ rfl (.tmp 51) (.tmp 56) 248 rfl 0 252 i0 _ 5 88 Tryz.underlying248 hi hz0 hz1 hz2 rfl (by decide) u7 acc.length xs rfl R8.out ⟨W8.heap.size,0,none⟩ 1 1 [.string ⟨nm.t.toArray⟩,.int .i64 tk,.string tn,.slice a2 n2 c2,.slice a3 n3 c3] rfl rfl HNB.out HONE.out (by decide) hmx hmb (Nat.zero_le _) (W8.heap.size+1) (World.size_alloc _ _) ?_;intro g' cap' w9 hown9 hg9 hat9 hlt9))
         go_meet
         obtain rfl:acc'=acc++[(nm.t,v)]:=by simpa using HACC.out
         have hgg:w1.heap.size<g':=by
          rcases hat9 with e | e
          ·exact HO.out g' e
          ·have:=HMB.out;have:=HSZ2.out;have:=HSZ6.out;have:=HSZ7.out;have:=HS8.out;omega
         have hP9:=((P7.out.alloc (.cells #[.string ⟨nm.t.toArray⟩,.int .i64 tk,.string tn,.slice a2 n2 c2,.slice a3 n3 c3] 252)).grown R8.out (by decide) (fun b hb=>by have:=HO.out b hb;have:=HPB.out;have:=F1.out.size;omega) hg9);have hS9:=(S7.out.alloc (.cells #[.string ⟨nm.t.toArray⟩,.int .i64 tk,.string tn,.slice a2 n2 c2,.slice a3 n3 c3] 252)).grown hg9 (fun e=>by have:=HO.out _ e.symm;omega);refine⟨xs++[.string ⟨nm.t.toArray⟩,.int .i64 tk,.string tn,.slice a2 n2 c2,.slice a3 n3 c3],by simpa using hown9,fun b hb=>(by cases hb;exact hgg),?_,hP9,(F7.out.alloc _).grownNew hg9 (fun b hb=>by have:=HO.out b hb;have:=F1.out.size;omega),hS9⟩;rw[Zjz];have c1:=((C7.out.below ((Below.refl _ _).alloc (nl _) (.cells #[.string ⟨nm.t.toArray⟩,.int .i64 tk,.string tn,.slice a2 n2 c2,.slice a3 n3 c3] 252))).mono (A':=fun b=>w1.heap.size<b∧some b≠u7.ownBlock∧b<W8.heap.size+1) (fun b hb hb'=>⟨hb'.1,hb'.2,by simpa using hb⟩)).grown hg9 (fun b hb=>hb.2.1);have c2:=((V7.out.mono (A':=fun b=>w1.heap.size<b∧some b≠u7.ownBlock∧b<W8.heap.size+1) (fun b hb hb'=>⟨by have:=HMB.out;have:=HSZ2.out;have:=HSZ6.out;omega,fun e=>by have:=HRL.out b e.symm;omega,by omega⟩)).below ((Below.refl _ _).alloc (nl _) (.cells #[.string ⟨nm.t.toArray⟩,.int .i64 tk,.string tn,.slice a2 n2 c2,.slice a3 n3 c3] 252))).grown hg9 (fun b hb=>hb.2.1);have c3:=c1.append _ _ _ _ (.cons (.str _ _ nm.t) c2);refine c3.mono (fun b _ hb=>⟨hb.1,fun e=>?_⟩);have e':b=g':=by cases e;rfl
         subst e';rcases hat9 with e | e
         ·exact hb.2.1 e.symm
         ·omega
       case rest=>
        obtain⟨xs',hr9,ho9,hc9,hp9,hf9,hs9⟩:=hcut;have HACL:=Hd (show acc'.length≤acc.length+1 by rw[HACC.out];split<;>simp);have P9:=Hd hp9;have F9:=Hd hf9;have S9:=Hd hs9;have R9:=Hd hr9;have O9:=Hd ho9;have C9:=Hd hc9;clear hr9 ho9 hc9 hp9 hf9 hs9 P7 F7 S7 T7 R7 C7 V7 N7 HACC HDD HTW;go_wp2_with fail
        refine (Zay P9.out [44]).mono ?_;rintro e w10 ⟨rfl,p10,f10⟩;have F10:=Hd (F9.out.trans f10);have S10:=Hd (S9.out.fr f10);have R10:=Hd (f10.row R9.out (by decide));have C10:=Hd (IsCs.fr f10 _ _ C9.out);clear f10;cases hm:isM [44] r7 with
        | true=>
         simp only[hm,if_true] at p10;have P10:=Hd p10;have HQ10:=Hd (show res=R.tell (ds'++dd++d6++d7) (ZaA sign read n' (nm.t::seen) acc' r7.tail) by rw[HQ7.out,hm];rfl);have HTL:=Hd (Za8 r7);clear p10 hm HQ7;go_wp2_with fail
         refine⟨⟨nm.t::seen,acc',r7.tail,ds'++dd++d6++d7,n',xs',?_,?_,?_,P10.out,F10.out,S10.out,R10.out,O9.out,C10.out,HQ10⟩,?_⟩
         ·have:=HTL.out;have:=HS7.out;have:=HS6.out;have:=HT.out;have:=HN.out;omega
         ·have:=HTL.out;have:=HS7.out;have:=HS6.out;have:=HT.out;have:=HAC.out;have:=HACL.out;omega
         ·have:=HTL.out;have:=HS7.out;have:=HS6.out;have:=HT.out;have:=HSE.out;simp;omega
         ·rw[P10.out.left,HLE.out];have:=HTL.out;have:=HS7.out;have:=HS6.out;have:=HT.out;omega
        | false=>
         simp only[hm,ff,if_false] at p10;have P10:=Hd p10;have HQ10:=Hd (show res=R.tell (ds'++dd++d6++d7) ((want [125] r7).bind fun _ r=>R.ok acc' r []) by rw[HQ7.out,hm];rfl);clear p10 hm HQ7;go_wp2_with fail
         refine (ZaU P10.out [125]).mono ?_;rintro e w11 ⟨f11,h11⟩;cases hr:want [125] r7 with
         | bad y r11 d11=>
          rw[hr] at h11;obtain⟨rfl,p11⟩:=h11;go_wp2_with fail
          exact Zap rfl (.bad (HQ10.out.trans (by rw[hr,R.bind_bad,R.tell_bad])) (F10.out.trans f11) p11.assoc)
         | ok x11 r11 d11=>
          rw[hr] at h11;obtain⟨h11,p11⟩:=h11;cases h11;have HQ11:=Hd (HQ10.out.trans (by rw[hr,R.bind_ok,R.tell_ok,R.tell_ok,List.append_nil]));have R11:=Hd (f11.row R10.out (by decide));have C11:=Hd (IsCs.fr f11 _ _ C10.out);have F11:=Hd (F10.out.trans f11);have P11:=Hd p11;clear hr f11 p11;go_wp2_with fail
          go_ret
          exact .ok HQ11.out F11.out ⟨_,xs',rfl,R11.out,fun b hb=>(by have:=O9.out b hb;have:=F1.out.size;omega),C11.out.mono (fun b _ hb=>⟨by have:=hb.1;have:=F1.out.size;omega,hb.2⟩)⟩ P11.out.assoc
end Go.Proofs.YtijnjoonbjdafaaGreatDoor

import Derived.Test.YtijnjoonbjdafaaGreatDoorSpM
namespace Go.Proofs.YtijnjoonbjdafaaGreatDoor
set_option maxHeartbeats 20000000
set_option maxRecDepth 20000
open Go.RowKit Go.Shelf Go.Maps
def Zee (l:List (Bs×PE)):List Dt:=l.flatMap fun x=>.str x.1::encE 26 36 x.2
theorem ZjA (l:List (Bs×PE))(x:Bs×PE):Zee (l++[x])=Zee l++(.str x.1::encE 26 36 x.2):=by simp[Zee]
def vFE (lo:Nat)(fs:List (Bs×PE))(e:Ending)(w':World):Prop:=∃v xs,e=.returned v∧w'.ownsRow 0 280 8 v fs.length xs∧(∀b,v.ownBlock=some b→lo≤b)∧IsCs (fun b=>lo≤b∧some b≠v.ownBlock) w' (Zee fs) xs
theorem ZoM:(Tryz.prog.info? 280).map (fun i=>(i.zero,i.size,i.bytes))=some (some (.agg #[.string ⟨#[]⟩,.int .i64 0,.int .i64 0,.string ⟨#[]⟩,.int .i64 0,.slice none 0 0,.slice none 0 0,.slice none 0 0]),8,128):=by kernel_rfl
theorem ZmM{B M:Nat}{pb:Nat}{all:List Tk}(hM:M≤10000000)(hall:∀t∈all,t.t.length≤1000000)(sign:Bs)(read:List Tk→R PE)(hshr:∀ts,Shr ts.length (read ts))(b0 b1:Nat)(Bx:World→Prop)(hBx:∀w w',Bx w→Fr B w w'→Bx w')
  (HC:∀w ts told,PS B M w pb all ts told→Bx w→Calls Tryz.prog 199 #[.pointer (some ⟨b0,0,none⟩),.pointer (some ⟨b1,0,none⟩)] w (Post B M w pb all told (vE w.heap.size) (read ts)))
  (w:World) (ts:List Tk) (told:List Dn) (h:PS B M w pb all ts told) (hb:Bx w) :
  Calls Tryz.prog 198 #[.pointer (some ⟨pb,0,none⟩),.string ⟨sign.toArray⟩,.func (.func 199) #[] #[.pointer (some ⟨b0,0,none⟩),.pointer (some ⟨b1,0,none⟩)]] w (Post B M w pb all told (vFE w.heap.size) (Zbh sign read ts)):=by
 have hmm:=@run_makeMap Tryz.prog;obtain⟨i0,hi,hz0,hz1,hz2⟩:=info_parts ZoM;obtain⟨j0,hj,hy0,hy1,hy2⟩:=info_parts Zhb;have HC:=Hd HC;have HSH:=Hd hshr;have HALL:=Hd hall;have HBX:=Hd hBx;have HPB:=Hd h.lt;have HL:=Hd h.len;have HB0:=Hd hb;have HB:=Hd h.hi;have P0:=Hd h;clear h hb hshr hall hBx;obtain⟨res,hres⟩:=eX (Zbh sign read ts);rw[←hres];have HQ:=Hd hres;clear hres;go_enter Tryz.func198,Tryz.ntmps198
 go_wp2_with fail
 refine (Zay P0.out [125]).mono ?_;rintro e w1 ⟨rfl,p1,f1⟩;cases hm:isM [125] ts with
 | true=>
  simp only[hm,if_true] at p1;have hq:res=.ok [] ts.tail []:=by rw[HQ.out,Zbh,hm];rfl
  have HW:=Hd hq;clear hm hq;go_wp2_with fail
  go_ret
  exact .ok HW.out f1 ⟨_,[],rfl,World.ownsRow_nil _ _ _ _,fun b hb=>(by cases hb),IsCs.nil _ _⟩ p1.nil
 | false=>
  simp only[hm,ff,if_false] at p1;have hq:res=ZaA sign read ts.length [] [] ts:=by rw[HQ.out,Zbh,hm];rfl
  have HW:=Hd hq;have P1:=Hd p1;have F1:=Hd f1;have B1:=Hd (HBX.out _ _ HB0.out f1);clear hm hq p1 f1;go_wp2_with fail
  go_loopw [7] (fun s7 wr=>∃(seen:List Bs) (acc:List (Bs×PE)) (ts':List Tk) (ds':List Dn) (n:Nat) (xs:List Value),ts'.length≤n∧acc.length+ts'.length≤1000000∧seen.length+ts'.length≤1000000∧PS B M wr pb all ts' (told++ds')∧Fr B w wr∧SetIs wr w1.heap.size seen∧wr.ownsRow 0 280 8 s7 acc.length xs∧(∀b,s7.ownBlock=some b→w1.heap.size<b)∧IsCs (fun b=>w1.heap.size<b∧some b≠s7.ownBlock) wr (Zee acc) xs∧Hid (res=(ZaA sign read n seen acc ts').tell ds')) (fun _ wr=>left pb all wr)
  case atStart=>
   refine⟨[],[],ts,[],ts.length,[],nl _,by simpa using HL.out.1,by simpa using HL.out.1,(P1.out.alloc _).nil,F1.out.alloc _,SetIs.made _,World.ownsRow_nil _ _ _ _,fun b hb=>(by cases hb),IsCs.nil _ _,?_⟩;rw[HW.out,R.tell_nil];exact rfl
  case round=>
   obtain⟨seen,acc,ts',ds',n,xs,hn,hac,hse,p,hF,hset,hrow,hown,hcs,hq⟩:=hrel;have P:=Hd p;have F:=Hd hF;have S:=Hd hset;have HR:=Hd hrow;have HO:=Hd hown;have C:=Hd hcs;have HN:=Hd hn;have HAC:=Hd hac;have HSE:=Hd hse;have HLE:=Hd p.left;have HL':=Hd p.len;have HT:=Hd (ZdA p.len.2);have HMEM:=Hd (HALL.out _ p.hd_mem);have hbd:=p.bd;have HBD:=Hd hbd;have HMB:=Hd hset.lt;obtain⟨n',rfl⟩:∃n',n=n'+1:=⟨n-1,by have:=p.len.2;omega⟩;clear p hF hset hrow hown hcs hn hac hse hbd;go_wp2_with fail
   refine (ZbW P.out).mono ?_;rintro e w2 ⟨f2,h2⟩;cases hr:Zaj ts' with
   | bad y r2 d2=>
    rw[hr] at h2;obtain⟨rfl,p2⟩:=h2;go_wp2_with fail
    exact Zap rfl (.bad (hq.out.trans (by rw[ZaA,hr,R.bind_bad,R.tell_bad])) (F.out.trans f2) p2.assoc)
   | ok nm r2 d2=>
    rw[hr] at h2;obtain⟨h2,p2⟩:=h2;cases h2;obtain⟨e1,rfl,rfl⟩:=ZeD hr;have hk:nm.t.length≤1000000:=by rw[e1];exact HMEM.out
    have HKEY:=Hd (key9 hk);rw[List.append_nil] at p2;have TK:=Hd (show (w2.alloc (.cells #[.int .i64 nm.k,.int .i64 nm.a,.string ⟨nm.t.toArray⟩] 105)).heap[w2.heap.size]?=_ from hN w2 _);have P2:=Hd (p2.alloc (.cells #[.int .i64 nm.k,.int .i64 nm.a,.string ⟨nm.t.toArray⟩] 105));have F2:=Hd ((F.out.trans f2).alloc (.cells #[.int .i64 nm.k,.int .i64 nm.a,.string ⟨nm.t.toArray⟩] 105));have S2:=Hd ((S.out.fr f2).alloc (.cells #[.int .i64 nm.k,.int .i64 nm.a,.string ⟨nm.t.toArray⟩] 105));have R2:=Hd ((f2.row HR.out (by decide)).alloc (.cells #[.int .i64 nm.k,.int .i64 nm.a,.string ⟨nm.t.toArray⟩] 105));have C2:=Hd ((IsCs.fr f2 _ _ C.out).below ((Below.refl _ _).alloc (nl _) (.cells #[.int .i64 nm.k,.int .i64 nm.a,.string ⟨nm.t.toArray⟩] 105)));have HSZ2:=Hd (show wr.heap.size≤w2.heap.size from f2.size);have HQ2:=Hd (hq.out.trans (by rw[ZaA,hr,R.bind_ok,R.tell_nil]));clear hr p2 f2 e1 hk S HR C F P hq;obtain⟨D,hmo,hmi,hms⟩:=S2.out;have MO:=Hd hmo;have MS:=Hd hms;have MI:=Hd hmi;clear hmo hms hmi;unfold tokV;obtain⟨tw,htw⟩:∃tw:Bool,tw=decide (nm.t∈seen):=⟨_,rfl⟩;have hhas:Maps.has D (.string nm.t)=tw:=by rw[MS.out,htw]
    have HTW:=Hd htw;clear htw;go_upto_if 25 with (first
      | (at_lookup;refine wpList_lookup_own_unit _ rfl _ _ 135 rfl 9 139 law9 Tryz.underlying135 (ZjK _) w1.heap.size _ D rfl MO.out _ _ rfl HKEY.out ?_;rw[hhas]))
    obtain⟨W3,hW3⟩:=eY ((w2.alloc (.cells #[.int .i64 nm.k,.int .i64 nm.a,.string ⟨nm.t.toArray⟩] 105)).alloc (.cells #[] 139));have P3:=Hd (show PS B M W3 pb all ts'.tail (told++ds') by rw[←hW3];exact P2.out.alloc _);have F3:=Hd (show Fr B w W3 by rw[←hW3];exact F2.out.alloc _);have M3:=Hd (show W3.ownsMap Tryz.prog 9 unitElem w1.heap.size seen.length D by rw[←hW3];exact MO.out.alloc _);have R3:=Hd (show W3.ownsRow 0 280 8 u7 acc.length xs by rw[←hW3];exact R2.out.alloc _);have C3:=Hd (show IsCs (fun b=>w1.heap.size<b∧some b≠u7.ownBlock) W3 (Zee acc) xs by rw[←hW3];exact C2.out.below ((Below.refl _ _).alloc (nl _) _));have hT3:Thr W3 w2.heap.size 105 (.int .i64 nm.k) (.int .i64 nm.a) (.string ⟨nm.t.toArray⟩):=by rw[←hW3];exact Zab TK.out _
    have HSZ3:=Hd (show W3.heap.size=w2.heap.size+2 by rw[←hW3];simp);rw[hW3];clear hW3 P2 F2 R2 C2 TK MO;go_cut [] from 16 to 60 (fun wx=>PS B M wx pb all ts'.tail (told++ds'++(if tw then [⟨nm.a,4,nm.t⟩] else []))∧Fr B W3 wx)
    case first=>
     cases tw with
     | false=>
      go_wp2_with fail
      go_meet
      exact⟨by simpa using P3.out,Fr.refl _ _⟩
     | true=>
      go_wp2_with fail
      obtain⟨vt,vd,i3,h6,-,h8,-⟩:=P3.out.ex;obtain⟨⟨c0,c1,c2⟩,u0,u1,u2⟩:=Zan h6;obtain⟨⟨t0,t1,t2⟩,-⟩:=Zan hT3;have H6:=Hd h6;have R65:Hid (∀W:World,W.heap=(W3.alloc (.cells #[.int .i64 nm.a,.int .i64 4,.string ⟨nm.t.toArray⟩] 153)).heap→W.ownsRow B 153 3 vd (told++ds').length (ZbC (told++ds'))):=fun W e=>by
       have:=h8.alloc (.cells #[.int .i64 nm.a,.int .i64 4,.string ⟨nm.t.toArray⟩] 153);refine⟨this.1,?_⟩;rw[e];exact this.2
      have hmx:(told++ds').length+1≤maxLen:=by have:=HBD.out;unfold maxLen;omega
      have hmb:((told++ds').length+1)*32≤140737488355328:=by have:=HBD.out;omega
      have HBS:=Hd (show B≤W3.heap.size+1 by have:=P3.out.hi;omega);have HN65:=Hd (World.news_of_block (hN W3 (.cells #[.int .i64 nm.a,.int .i64 4,.string ⟨nm.t.toArray⟩] 153)));have HPL:=Hd P3.out.lt;have HV:=Hd h8;have HNE:=Hd (show some pb≠vd.ownBlock from fun e=>by
       rcases h8.2 with ⟨rfl,_⟩ | ⟨g',cap',cur,rfl,_,hgg,_⟩
       ·cases e
       ·simp only[Value.ownBlock,Option.some.injEq] at e;subst e;rw[H6.out] at hgg;cases hgg)
      clear h6 h8;have hpl:=P3.out.lt;have HBT:=Hd (show (told++ds').length+1+ts'.tail.length≤M by have:=HBD.out;have:=HT.out;omega);go_region_law (refine step_append_lies _ rfl (.tmp 30) (.tmp 36) 50 rfl B 153 j0 _ 3 32 Tryz.underlying50 hj hy0 hy1 hy2 rfl (by decide) vd (told++ds').length (ZbC (told++ds')) rfl (R65.out _ rfl) ⟨W3.heap.size,0,none⟩ 1 1 [.int .i64 nm.a,.int .i64 4,.string ⟨nm.t.toArray⟩] rfl rfl (fun j u hu=>HN65.out j u hu) one3 (by decide) hmx hmb (by simpa using HBS.out) _ rfl ?_;intro g cap W5 hown5 hg5 hloc5 hlt5;(have hp5:Thr W5 pb 112 vt (.int .i64 i3) vd:=(hg5.block pb (Nat.lt_succ_of_lt HPL.out |> fun h=>by simpa using h) HNE.out).trans (Zab H6.out (.cells #[.int .i64 nm.a,.int .i64 4,.string ⟨nm.t.toArray⟩] 153)));obtain⟨⟨e0,e1,e2⟩,y0,y1,y2⟩:=Zan hp5;(have HO5:=Hd hown5);(have HG5:=Hd hg5);(have HL5:=Hd hloc5);clear hown5 hg5 hloc5 hp5)
      all_goals
       go_wp2_with fail
       go_meet
       have hL:vd.ownBlock=some g∨(W3.alloc (.cells #[.int .i64 nm.a,.int .i64 4,.string ⟨nm.t.toArray⟩] 153)).heap.size≤g:=HL5.out.imp id (fun e=>by rw[e];exact nl _);have hg6:(W3.alloc (.cells #[.int .i64 nm.a,.int .i64 4,.string ⟨nm.t.toArray⟩] 153)).grownBy W5 vd.ownBlock:=⟨HG5.out.os,HG5.out.tape,HG5.out.output,HG5.out.size,HG5.out.block⟩;obtain⟨a1,a2⟩:=(P3.out.alloc (.cells #[.int .i64 nm.a,.int .i64 4,.string ⟨nm.t.toArray⟩] 153)).tells ⟨nm.a,4,nm.t⟩ HBT.out (Zab H6.out _) hg6 HO5.out hL rfl;simp only[lA] at a1 a2;exact⟨a1,((Fr.refl B W3).alloc _).trans a2⟩
    case rest=>
     obtain⟨p4,f4⟩:=hcut;obtain⟨dd,hdd⟩:∃dd:List Dn,dd=(if tw=true then [⟨nm.a,4,nm.t⟩] else []):=⟨_,rfl⟩;rw[←hdd] at p4;have HDD:=Hd (show dd=(if nm.t∈seen then [⟨nm.a,4,nm.t⟩] else []) by rw[hdd,HTW.out];by_cases e:nm.t∈seen<;>simp[e]);have HQ3:=Hd (show res=R.tell ds' (R.tell dd ((want sign ts'.tail).bind fun _ r=>(read r).bind fun v r=>
      if isM [44] r=true then ZaA sign read n' (nm.t::seen) (if nm.t∈seen then acc else acc++[(nm.t,v)]) r.tail
      else (want [125] r).bind fun _ r=>R.ok (if nm.t∈seen then acc else acc++[(nm.t,v)]) r [])) by rw[HDD.out];exact HQ2.out)
     have P4:=Hd p4;have F4:=Hd (F3.out.trans f4);have M4:=Hd (Zno M3.out f4);have R4:=Hd (f4.row R3.out (by decide));have C4:=Hd (IsCs.fr f4 _ _ C3.out);have HT4:=Hd (f4.cells hT3 (by decide));have HSZ4:=Hd (show w2.heap.size<wc.heap.size by have:=f4.size;have:=HSZ3.out;omega);obtain⟨⟨t0,t1,t2⟩,-⟩:=Zan (show Thr wc w2.heap.size 105 (.int .i64 nm.k) (.int .i64 nm.a) (.string ⟨nm.t.toArray⟩) from HT4.out);clear p4 f4 hdd HQ2 P3 F3 M3 R3 C3 hT3 S2 HSZ3 hhas;go_wp2_with (first | (at_mapUpdate;refine wpList_mapUpdate_own _ rfl _ _ _ 135 rfl 9 139 law9 Tryz.underlying135 _ w1.heap.size seen.length D rfl M4.out (by have:=HSE.out;unfold maxLen;omega) _ _ _ rfl rfl HKEY.out _ [] unitElem_mk ?_;intro w5 hown5 hg5))
     have S5:=Hd (SetIs.put hown5 MI.out MS.out nm.t rfl);have P5:=Hd (P4.out.mapped ⟨D,M4.out,MI.out,MS.out⟩ hg5 (by have:=HPB.out;have:=F1.out.size;omega));have F5:=Hd (F4.out.grownNew hg5 (fun b hb=>by cases hb;exact F1.out.size));have T5:=Hd (Za5 HT4.out hg5 (fun e=>by have e':=Option.some.inj e;have:=HMB.out;have:=HSZ2.out;omega));have R5:=Hd (Zbc (S:=fun b=>b=w1.heap.size) R4.out hg5.size (fun b hb hn=>hg5.block b hb (fun e=>hn (by cases e;rfl))) (fun b hb e=>by subst e;exact absurd (HO.out _ hb) (Nat.lt_irrefl _)));have C5:=Hd (C4.out.grown hg5 (fun b hb e=>by cases e;exact absurd hb.1 (Nat.lt_irrefl _)));have HSZ5:=Hd (show w2.heap.size<w5.heap.size by have:=hg5.size;have:=HSZ4.out;omega);clear hown5 hg5 P4 F4 M4 R4 C4 HT4 t0 t1 t2 MI MS HKEY;refine (ZaU P5.out sign).mono ?_;rintro e w6 ⟨f6,h6⟩;cases hr:want sign ts'.tail with
     | bad y r6 d6=>
      rw[hr] at h6;obtain⟨rfl,p6⟩:=h6;go_wp2_with fail
      exact Zap rfl (.bad (HQ3.out.trans (by rw[hr,R.bind_bad,R.tell_bad,R.tell_bad])) (F5.out.trans f6) (p6.told_eq (by simp)))
     | ok x6 r6 d6=>
      have HS6:=Hd (show r6.length≤ts'.tail.length by have:=ZaQ sign ts'.tail;rw[hr] at this;exact this);rw[hr] at h6;obtain⟨h6,p6⟩:=h6;cases h6;have HQ6:=Hd (HQ3.out.trans (by rw[hr,R.bind_ok,R.tell_tell]));have P6:=Hd p6;have F6:=Hd (F5.out.trans f6);have S6:=Hd (S5.out.fr f6);have T6:=Hd (f6.cells T5.out (by decide));have R6:=Hd (f6.row R5.out (by decide));have C6:=Hd (IsCs.fr f6 _ _ C5.out);have B6:=Hd (HBX.out _ _ HB0.out F6.out);have HSZ6:=Hd (show w2.heap.size<w6.heap.size by have:=f6.size;have:=HSZ5.out;omega);clear f6 p6 hr P5 F5 S5 T5 R5 C5 HQ3 HSZ5;go_wp2_with fail
      refine (HC.out _ _ _ P6.out B6.out).mono ?_;rintro e w7 ⟨f7,h7⟩;cases hr:read r6 with
      | bad y r7 d7=>
       rw[hr] at h7;obtain⟨rfl,p7⟩:=h7;go_wp2_with fail
       exact Zap rfl (.bad (HQ6.out.trans (by rw[hr,R.bind_bad,R.tell_bad,R.tell_bad])) (F6.out.trans f7) (p7.told_eq (by simp)))
      | ok v r7 d7=>
       have HS7:=Hd (show r7.length≤r6.length by have:=HSH.out r6;rw[hr] at this;exact this);rw[hr] at h7;obtain⟨⟨cs,rfl,hcs⟩,p7⟩:=h7;obtain⟨ek,ea,en,em,a4,n4,c4,a5,n5,c5,a6,n6,c6,rfl⟩:=ZaT hcs;obtain⟨acc',hacc'⟩:∃acc',acc'=(if nm.t∈seen then acc else acc++[(nm.t,v)]):=⟨_,rfl⟩;have HQ7:=Hd (show res=R.tell (ds'++dd++d6++d7) (if isM [44] r7=true then ZaA sign read n' (nm.t::seen) acc' r7.tail else (want [125] r7).bind fun _ r=>R.ok acc' r []) from HQ6.out.trans (by rw[hr,R.bind_ok,hacc'];simp only[R.tell_tell,aA]));have HACC:=Hd (show acc'=(if tw=true then acc else acc++[(nm.t,v)]) by rw[hacc',HTW.out];by_cases e:nm.t∈seen<;>simp[e]);have P7:=Hd ((p7.told_eq (show _=told++(ds'++dd++d6++d7) by simp)).alloc (.cells #[.int .i64 ek,.int .i64 ea,.string en,.int .i64 em,.slice a4 n4 c4,.slice a5 n5 c5,.slice a6 n6 c6] 36));have F7:=Hd ((F6.out.trans f7).alloc (.cells #[.int .i64 ek,.int .i64 ea,.string en,.int .i64 em,.slice a4 n4 c4,.slice a5 n5 c5,.slice a6 n6 c6] 36));have S7:=Hd ((S6.out.fr f7).alloc (.cells #[.int .i64 ek,.int .i64 ea,.string en,.int .i64 em,.slice a4 n4 c4,.slice a5 n5 c5,.slice a6 n6 c6] 36));have T7:=Hd (Zab (f7.cells T6.out (by decide)) (.cells #[.int .i64 ek,.int .i64 ea,.string en,.int .i64 em,.slice a4 n4 c4,.slice a5 n5 c5,.slice a6 n6 c6] 36));have R7:=Hd ((f7.row R6.out (by decide)).alloc (.cells #[.int .i64 ek,.int .i64 ea,.string en,.int .i64 em,.slice a4 n4 c4,.slice a5 n5 c5,.slice a6 n6 c6] 36));have C7:=Hd ((IsCs.fr f7 _ _ C6.out).below ((Below.refl _ _).alloc (nl _) (.cells #[.int .i64 ek,.int .i64 ea,.string en,.int .i64 em,.slice a4 n4 c4,.slice a5 n5 c5,.slice a6 n6 c6] 36)));have V7:=Hd (hcs.below ((Below.refl _ _).alloc (nl _) (.cells #[.int .i64 ek,.int .i64 ea,.string en,.int .i64 em,.slice a4 n4 c4,.slice a5 n5 c5,.slice a6 n6 c6] 36)));have N7:=Hd (show (w7.alloc (.cells #[.int .i64 ek,.int .i64 ea,.string en,.int .i64 em,.slice a4 n4 c4,.slice a5 n5 c5,.slice a6 n6 c6] 36)).heap[w7.heap.size]?=_ from hN w7 _);have HSZ7:=Hd (show w6.heap.size≤w7.heap.size from f7.size);have HRL:=Hd (show ∀b,u7.ownBlock=some b→b<w6.heap.size from fun b hb=>(R6.out.lt b hb).2);clear f7 p7 hr hcs hacc' P6 F6 S6 T6 R6 C6 B6 HQ6;go_upto_if 50 with fail
       obtain⟨W8,hW8⟩:=eY (w7.alloc (.cells #[.int .i64 ek,.int .i64 ea,.string en,.int .i64 em,.slice a4 n4 c4,.slice a5 n5 c5,.slice a6 n6 c6] 36));have HS8:=Hd (show W8.heap.size=w7.heap.size+1 by rw[←hW8];simp);rw[hW8] at P7 F7 S7 T7 R7 C7 V7 N7;rw[hW8];clear hW8;go_cut [7] from 16 to 60 (fun s7 wx=>∃xs',wx.ownsRow 0 280 8 s7 acc'.length xs'∧(∀b,s7.ownBlock=some b→w1.heap.size<b)∧IsCs (fun b=>w1.heap.size<b∧some b≠s7.ownBlock) wx (Zee acc') xs'∧PS B M wx pb all r7 (told++(ds'++dd++d6++d7))∧Fr B w wx∧SetIs wx w1.heap.size (nm.t::seen))
       case first=>
        cases tw with
        | true=>
         go_wp2_with fail
         go_meet
         obtain rfl:acc'=acc:=by simpa using HACC.out
         exact⟨xs,R7.out,HO.out,C7.out,P7.out,F7.out,S7.out⟩
        | false=>
         obtain⟨⟨t0,t1,t2⟩,-⟩:=Zan (show Thr W8 w2.heap.size 105 (.int .i64 nm.k) (.int .i64 nm.a) (.string ⟨nm.t.toArray⟩) from T7.out);obtain⟨⟨q0,q1,q2,q3,q4,q5,q6⟩,-⟩:=Zai (t:=36) N7.out;have R8:=Hd (R7.out.alloc (.cells #[.string ⟨nm.t.toArray⟩,.int .i64 ek,.int .i64 ea,.string en,.int .i64 em,.slice a4 n4 c4,.slice a5 n5 c5,.slice a6 n6 c6] 280));have HNB:=Hd (World.news_of_block (hN W8 (.cells #[.string ⟨nm.t.toArray⟩,.int .i64 ek,.int .i64 ea,.string en,.int .i64 em,.slice a4 n4 c4,.slice a5 n5 c5,.slice a6 n6 c6] 280)));have HONE:=Hd (show ∀u∈[Value.string ⟨nm.t.toArray⟩,.int .i64 ek,.int .i64 ea,.string en,.int .i64 em,.slice a4 n4 c4,.slice a5 n5 c5,.slice a6 n6 c6],u.oneCell'=true from List.forall_mem_cons.2 ⟨rfl,V7.out.one⟩);have hmx:acc.length+1≤maxLen:=by have:=HAC.out;unfold maxLen;omega
         have hmb:(acc.length+1)*128≤140737488355328:=by have:=HAC.out;omega
         go_wp2_with (first | (at_builtin;refine wpList_append_lies _ rfl (.tmp 51) (.tmp 56) 261 rfl 0 280 i0 _ 8 128 Tryz.underlying261 hi hz0 hz1 hz2 rfl (by decide) u7 acc.length xs rfl R8.out ⟨W8.heap.size,0,none⟩ 1 1 [.string ⟨nm.t.toArray⟩,.int .i64 ek,.int .i64 ea,.string en,.int .i64 em,.slice a4 n4 c4,.slice a5 n5 c5,.slice a6 n6 c6] rfl rfl HNB.out HONE.out (by decide) hmx hmb (Nat.zero_le _) (W8.heap.size+1) (World.size_alloc _ _) ?_;intro g' cap' w9 hown9 hg9 hat9 hlt9))
         go_meet
         obtain rfl:acc'=acc++[(nm.t,v)]:=by simpa using HACC.out
         have hgg:w1.heap.size<g':=by
          rcases hat9 with e | e
          ·exact HO.out g' e
          ·have:=HMB.out;have:=HSZ2.out;have:=HSZ6.out;have:=HSZ7.out;have:=HS8.out;omega
         have hP9:=((P7.out.alloc (.cells #[.string ⟨nm.t.toArray⟩,.int .i64 ek,.int .i64 ea,.string en,.int .i64 em,.slice a4 n4 c4,.slice a5 n5 c5,.slice a6 n6 c6] 280)).grown R8.out (by decide) (fun b hb=>by have:=HO.out b hb;have:=HPB.out;have:=F1.out.size;omega) hg9);have hS9:=(S7.out.alloc (.cells #[.string ⟨nm.t.toArray⟩,.int .i64 ek,.int .i64 ea,.string en,.int .i64 em,.slice a4 n4 c4,.slice a5 n5 c5,.slice a6 n6 c6] 280)).grown hg9 (fun e=>by have:=HO.out _ e.symm;omega);refine⟨xs++[.string ⟨nm.t.toArray⟩,.int .i64 ek,.int .i64 ea,.string en,.int .i64 em,.slice a4 n4 c4,.slice a5 n5 c5,.slice a6 n6 c6],by simpa using hown9,fun b hb=>(by cases hb;exact hgg),?_,hP9,(F7.out.alloc _).grownNew hg9 (fun b hb=>by have:=HO.out b hb;have:=F1.out.size;omega),hS9⟩;rw[ZjA];have c1:=((C7.out.below ((Below.refl _ _).alloc (nl _) (.cells #[.string ⟨nm.t.toArray⟩,.int .i64 ek,.int .i64 ea,.string en,.int .i64 em,.slice a4 n4 c4,.slice a5 n5 c5,.slice a6 n6 c6] 280))).mono (A':=fun b=>w1.heap.size<b∧some b≠u7.ownBlock∧b<W8.heap.size+1) (fun b hb hb'=>⟨hb'.1,hb'.2,by simpa using hb⟩)).grown hg9 (fun b hb=>hb.2.1);have c2:=((V7.out.mono (A':=fun b=>w1.heap.size<b∧some b≠u7.ownBlock∧b<W8.heap.size+1) (fun b hb hb'=>⟨by have:=HMB.out;have:=HSZ2.out;have:=HSZ6.out;omega,fun e=>by have:=HRL.out b e.symm;omega,by omega⟩)).below ((Below.refl _ _).alloc (nl _) (.cells #[.string ⟨nm.t.toArray⟩,.int .i64 ek,.int .i64 ea,.string en,.int .i64 em,.slice a4 n4 c4,.slice a5 n5 c5,.slice a6 n6 c6] 280))).grown hg9 (fun b hb=>hb.2.1);have c3:=c1.append _ _ _ _ (.cons (.str _ _ nm.t) c2);refine c3.mono (fun b _ hb=>⟨hb.1,fun e=>?_⟩);have e':b=g':=by cases e;rfl
         subst e';rcases hat9 with e | e
         ·exact hb.2.1 e.symm
         ·omega
       case rest=>
        obtain⟨xs',hr9,ho9,hc9,hp9,hf9,hs9⟩:=hcut;have HACL:=Hd (show acc'.length≤acc.length+1 by rw[HACC.out];split<;>simp);have P9:=Hd hp9;have F9:=Hd hf9;have S9:=Hd hs9;have R9:=Hd hr9;have O9:=Hd ho9;have C9:=Hd hc9;clear hr9 ho9 hc9 hp9 hf9 hs9 P7 F7 S7 T7 R7 C7 V7 N7 HACC HDD HTW;go_wp2_with fail
        refine (Zay P9.out [44]).mono ?_;rintro e w10 ⟨rfl,p10,f10⟩;have F10:=Hd (F9.out.trans f10);have S10:=Hd (S9.out.fr f10);have R10:=Hd (f10.row R9.out (by decide));have C10:=Hd (IsCs.fr f10 _ _ C9.out);clear f10;cases hm:isM [44] r7 with
        | true=>
         simp only[hm,if_true] at p10;have P10:=Hd p10;have HQ10:=Hd (show res=R.tell (ds'++dd++d6++d7) (ZaA sign read n' (nm.t::seen) acc' r7.tail) by rw[HQ7.out,hm];rfl);have HTL:=Hd (Za8 r7);clear p10 hm HQ7;go_wp2_with fail
         refine⟨⟨nm.t::seen,acc',r7.tail,ds'++dd++d6++d7,n',xs',?_,?_,?_,P10.out,F10.out,S10.out,R10.out,O9.out,C10.out,HQ10⟩,?_⟩
         ·have:=HTL.out;have:=HS7.out;have:=HS6.out;have:=HT.out;have:=HN.out;omega
         ·have:=HTL.out;have:=HS7.out;have:=HS6.out;have:=HT.out;have:=HAC.out;have:=HACL.out;omega
         ·have:=HTL.out;have:=HS7.out;have:=HS6.out;have:=HT.out;have:=HSE.out;simp;omega
         ·rw[P10.out.left,HLE.out];have:=HTL.out;have:=HS7.out;have:=HS6.out;have:=HT.out;omega
        | false=>
         simp only[hm,ff,if_false] at p10;have P10:=Hd p10;have HQ10:=Hd (show res=R.tell (ds'++dd++d6++d7) ((want [125] r7).bind fun _ r=>R.ok acc' r []) by rw[HQ7.out,hm];rfl);clear p10 hm HQ7;go_wp2_with fail
         refine (ZaU P10.out [125]).mono ?_;rintro e w11 ⟨f11,h11⟩;cases hr:want [125] r7 with
         | bad y r11 d11=>
          rw[hr] at h11;obtain⟨rfl,p11⟩:=h11;go_wp2_with fail
          exact Zap rfl (.bad (HQ10.out.trans (by rw[hr,R.bind_bad,R.tell_bad])) (F10.out.trans f11) p11.assoc)
         | ok x11 r11 d11=>
          rw[hr] at h11;obtain⟨h11,p11⟩:=h11;cases h11;have HQ11:=Hd (HQ10.out.trans (by rw[hr,R.bind_ok,R.tell_ok,R.tell_ok,List.append_nil]));have R11:=Hd (f11.row R10.out (by decide));have C11:=Hd (IsCs.fr f11 _ _ C10.out);have F11:=Hd (F10.out.trans f11);have P11:=Hd p11;clear hr f11 p11;go_wp2_with fail
          go_ret
          exact .ok HQ11.out F11.out ⟨_,xs',rfl,R11.out,fun b hb=>(by have:=O9.out b hb;have:=F1.out.size;omega),C11.out.mono (fun b _ hb=>⟨by have:=hb.1;have:=F1.out.size;omega,hb.2⟩)⟩ P11.out.assoc
open Go.RowKit Go.Shelf
theorem ZiT{A:Nat→Prop}{w:World}:∀(fs:List (Bs×PE)) (xs:List Value),IsCs A w (Zee fs) xs→∃ys:List (Bs×List Value),xs=ys.flatMap ZbG∧fs.length=ys.length∧∀i (h1:i<fs.length) (h2:i<ys.length),ys[i].1=fs[i].1∧IsCs A w (encE 26 36 fs[i].2) ys[i].2
 | [],xs,h=>by
  simp only[Zee,List.flatMap_nil,IsCs] at h;subst h;exact⟨[],rfl,rfl,fun i h1=>by simp at h1⟩
 | f::r,xs,h=>by
  have e:Zee (f::r)=.str f.1::(encE 26 36 f.2++Zee r):=by simp[Zee]
  rw[e] at h;obtain⟨x,zs,rfl,h1,h2⟩:=h.uncons;obtain⟨a,b,rfl,h3,h4⟩:=h2.split;simp only[IsC] at h1;subst h1;obtain⟨ys,rfl,hl,hq⟩:=ZiT r b h4;refine⟨(f.1,a)::ys,by simp[ZbG],by simpa using hl,fun i a1 a2=>?_⟩;cases i with
  | zero=>exact⟨rfl,h3⟩
  | succ i=>exact hq i (by simpa using a1) (by simpa using a2)
theorem Zni{A:Nat→Prop}{w:World}:∀(vs:List PE) (ys:List (Bs×List Value)),vs.length=ys.length→(∀i (h1:i<vs.length) (h2:i<ys.length),IsCs A w (encE 26 36 vs[i]) ys[i].2)→IsCs A w (Zaw 26 36 vs) (ys.flatMap (·.2))
 | [],[],_,_=>by simp only[Zaw,List.flatMap_nil];exact IsCs.nil _ _
 | [],_::_,h,_=>by simp at h
 | _::_,[],h,_=>by simp at h
 | v::vs,y::ys,h,hq=>by
  have h1:=hq 0 (by simp) (by simp);simp only[List.getElem_cons_zero] at h1;rw[Zaw,List.flatMap_cons];exact h1.append _ _ _ _ (Zni vs ys (by simpa using h) (fun i a b=>hq (i+1) (by simpa using a) (by simpa using b)))
theorem Znr:(Tryz.prog.info? 36).map (fun i=>(i.zero,i.size,i.bytes))=some (some (.agg #[.int .i64 0,.int .i64 0,.string ⟨#[]⟩,.int .i64 0,.slice none 0 0,.slice none 0 0,.slice none 0 0]),7,112):=by kernel_rfl
theorem ZoW{w:World}{b:Nat}{t:TypeId}{v0 v1 v2 v3 v4 v5 v6 v7:Value}(h:w.heap[b]?=some (.cells #[v0,v1,v2,v3,v4,v5,v6,v7] t (0,0))):w.cell? ⟨b,0,none⟩=some v0∧w.cell? ⟨b,1,none⟩=some v1∧w.cell? ⟨b,2,none⟩=some v2∧w.cell? ⟨b,3,none⟩=some v3∧w.cell? ⟨b,4,none⟩=some v4∧w.cell? ⟨b,5,none⟩=some v5∧w.cell? ⟨b,6,none⟩=some v6∧w.cell? ⟨b,7,none⟩=some v7:=by simp[World.cell?,h]
theorem ZnW{A:Nat→Prop}(w:World)(fs:List (Bs×PE))(v:Value)(xs:List Value)(hr:w.ownsRow 0 280 8 v fs.length xs)(hc:IsCs A w (Zee fs) xs)(hn:fs.length≤1000000) :
  Calls Tryz.prog 197 #[v] w fun e w'=>Below w.heap.size w w'∧∃vn vv,e=.returned (.tuple #[vn,vv])∧IsCs (fun b=>A b∧b<w.heap.size∨w.heap.size≤b) w' [.row 9 1 (fs.map (·.1)).length ((fs.map (·.1)).map .str),.row 36 7 (fs.map (·.2)).length (Zaw 26 36 (fs.map (·.2)))] [vn,vv]:=by
 obtain⟨i0,hi,hz0,hz1,hz2⟩:=info_parts Znr;obtain⟨j0,hj,hy0,hy1,hy2⟩:=info_parts Zk5;obtain⟨ys,rfl,hl,hq⟩:=ZiT fs xs hc;obtain⟨a0,cap,rfl⟩:∃a0 cap,v=.slice a0 fs.length cap:=by
  rcases hr.2 with ⟨rfl,e⟩ | ⟨g,cap,cur,rfl,_⟩
  ·exact⟨none,0,by rw[e]⟩
  ·exact⟨_,_,rfl⟩
 have hlen:∀y∈ys,(ZbG y).length=8:=by
  intro y hy;obtain⟨i,h1,rfl⟩:=List.getElem_of_mem hy;have:=(hq i (by omega) h1).2.length;rw[ZaB] at this;simp[ZbG,this]
 have HG:∀i (h2:i<ys.length),∃g,a0=some ⟨g,0,none⟩∧g<w.heap.size∧∀j x,j<8→(ZbG ys[i])[j]?=some x→∀W,Below w.heap.size w W→W.cell? ⟨g,i*8+j,none⟩=some x:=by
  intro i h2;rcases hr.2 with ⟨_,e⟩ | ⟨g,cap',cur,e,hb,hg,hcc,hm,hs,ht⟩
  ·omega
  ·cases e;refine⟨g,rfl,(gE hg).1,fun j x hj hx W hW=>?_⟩;have hr':=ZaM hr hW;rw[hr'.cellAt (i*8+j) (by have:=Nat.mul_le_mul_right 8 (show i+1≤fs.length by omega);rw[Nat.add_mul] at this;omega),Zez ZbG ys hlen i j h2 hj];exact hx
 have HQ:=Hd hq;have HL:=Hd hl;have HGG:=Hd HG;have HNN:=Hd hn;obtain⟨n,hnn⟩:=eX (fs.length);rw[←hnn];have HLN:=Hd (show ys.length=n by rw[hnn];exact hl.symm);have HN:=Hd (show n≤1000000 by rw[hnn];exact hn);have HFN:=Hd hnn;clear hr hc hlen HG hq hl hn hnn;go_enter Tryz.func197,Tryz.ntmps197
 go_wp2_with fail
 go_loopw [4,5,10] (fun s4 s5 s10 wr=>∃(i:Nat),s10=.int .i64 i∧i≤n∧Below w.heap.size w wr∧wr.ownsRow 0 9 1 s4 i ((ys.take i).map fun y=>Value.string ⟨y.1.toArray⟩)∧wr.ownsRow 0 36 7 s5 i ((ys.take i).flatMap (·.2))∧(∀b,s4.ownBlock=some b→w.heap.size≤b)∧(∀b,s5.ownBlock=some b→w.heap.size≤b)∧(∀b,s4.ownBlock=some b→s5.ownBlock≠some b)) (fun _ _ s10 _=>n-(intOf s10).toNat)
 case atStart=>
  exact⟨0,rfl,Nat.zero_le _,Below.refl _ _,World.ownsRow_nil _ _ _ _,World.ownsRow_nil _ _ _ _,(fun b hb=>by cases hb),(fun b hb=>by cases hb),(fun b hb=>by cases hb)⟩
 case round=>
  obtain⟨i,rfl,hin,hB,hr4,hr5,ho4,ho5,hne⟩:=hrel;by_cases hlt:i<n
  ·have hd1:decide ((i:Int)<(n:Int))=true:=by simp;omega
   have hd2:decide (i<n)=true:=by simp;omega
   have hy:i<ys.length:=by have:=HLN.out;omega
   obtain⟨g,rfl,hgl,hcell⟩:=HGG.out i hy;obtain⟨hq1,hq2⟩:=HQ.out i (by have:=HFN.out;omega) hy;obtain⟨ek,ea,en,em,a4,n4,c4,a5,n5,c5,a6,n6,c6,hcs⟩:=ZaT hq2;have hcc:ZbG ys[i]=[.string ⟨(ys[i]).1.toArray⟩,.int .i64 ek,.int .i64 ea,.string en,.int .i64 em,.slice a4 n4 c4,.slice a5 n5 c5,.slice a6 n6 c6]:=by rw[ZbG,hcs]
   rw[hcc] at hcell;have x0:=hcell 0 (.string ⟨(ys[i]).1.toArray⟩) (by decide) rfl wr hB;have x1:=hcell 1 (.int .i64 ek) (by decide) rfl wr hB;have x2:=hcell 2 (.int .i64 ea) (by decide) rfl wr hB;have x3:=hcell 3 (.string en) (by decide) rfl wr hB;have x4:=hcell 4 (.int .i64 em) (by decide) rfl wr hB;have x5:=hcell 5 (.slice a4 n4 c4) (by decide) rfl wr hB;have x6:=hcell 6 (.slice a5 n5 c5) (by decide) rfl wr hB;have x7:=hcell 7 (.slice a6 n6 c6) (by decide) rfl wr hB;rw[aZ] at x0;have HTK:=Hd (show ys.take (i+1)=ys.take i++[ys[i]] from ZgG ys i hy);have HCS:=Hd hcs;obtain⟨nm,hnm⟩:∃nm:ByteArray,nm=⟨(ys[i]).1.toArray⟩:=⟨_,rfl⟩;rw[←hnm] at x0;have HNM:=Hd hnm;have HBL:=Hd hB;have R4:=Hd hr4;have R5:=Hd hr5;have O4:=Hd ho4;have O5:=Hd ho5;have NE:=Hd hne;have HLT:=Hd hlt;have HSZ:=Hd hB.size;have HL4:=Hd (show ∀b,u4.ownBlock=some b→b<wr.heap.size from fun b hb=>(hr4.lt b hb).2);have HL5:=Hd (show ∀b,u5.ownBlock=some b→b<wr.heap.size from fun b hb=>(hr5.lt b hb).2);have R4a:=Hd ((hr4.alloc (.cells #[.string nm,.int .i64 ek,.int .i64 ea,.string en,.int .i64 em,.slice a4 n4 c4,.slice a5 n5 c5,.slice a6 n6 c6] 280)).alloc (.cells #[.string nm] 9));have HNA:=Hd (World.news_of_block (hN (wr.alloc (.cells #[.string nm,.int .i64 ek,.int .i64 ea,.string en,.int .i64 em,.slice a4 n4 c4,.slice a5 n5 c5,.slice a6 n6 c6] 280)) (.cells #[.string nm] 9)));have hmx:i+1≤maxLen:=by have:=HN.out;unfold maxLen;omega
   have hmb:(i+1)*16≤140737488355328:=by have:=HN.out;omega
   have hmb2:(i+1)*112≤140737488355328:=by have:=HN.out;omega
   clear hB hr4 hr5 ho4 ho5 hne hcell hcs hcc hq1 hq2 hlt hnm hin;go_upto_region 7 with (first | (at_builtin;refine wpList_append_lies _ rfl (.tmp 14) (.tmp 17) 23 rfl 0 9 j0 _ 1 16 Tryz.underlying23 hj hy0 hy1 hy2 rfl (by decide) u4 i _ rfl R4a.out ⟨wr.heap.size+1,0,none⟩ 1 1 [.string nm] rfl rfl (fun j u hu=>by have:=HNA.out j u hu;simpa using this) (by simp[Value.oneCell']) (by decide) hmx hmb (Nat.zero_le _) (wr.heap.size+2) (by simp) ?_;intro g4 cap4 w4 hown4 hg4 hat4 hlt4))
   have hF4:w4.heap[wr.heap.size]?=some (.cells #[.string nm,.int .i64 ek,.int .i64 ea,.string en,.int .i64 em,.slice a4 n4 c4,.slice a5 n5 c5,.slice a6 n6 c6] 280):=Za5 (Zab (hN wr _) _) hg4 (fun e=>by have:=HL4.out _ e.symm;omega);obtain⟨q0,q1,q2,q3,q4,q5,q6,q7⟩:=ZoW hF4;have G4:=Hd hg4;have A4:=Hd hat4;have N4:=Hd hown4;have HS4:=Hd (show wr.heap.size+2≤w4.heap.size by have:=hg4.size;simpa using this);have R5a:=Hd ((ZdO ((R5.out.alloc (.cells #[.string nm,.int .i64 ek,.int .i64 ea,.string en,.int .i64 em,.slice a4 n4 c4,.slice a5 n5 c5,.slice a6 n6 c6] 280)).alloc (.cells #[.string nm] 9)) hg4 (fun b hb e=>NE.out b e.symm hb)).alloc (.cells #[.int .i64 ek,.int .i64 ea,.string en,.int .i64 em,.slice a4 n4 c4,.slice a5 n5 c5,.slice a6 n6 c6] 36));have HNC:=Hd (World.news_of_block (hN w4 (.cells #[.int .i64 ek,.int .i64 ea,.string en,.int .i64 em,.slice a4 n4 c4,.slice a5 n5 c5,.slice a6 n6 c6] 36)));have HONE:=Hd (show ∀u∈([.int .i64 ek,.int .i64 ea,.string en,.int .i64 em,.slice a4 n4 c4,.slice a5 n5 c5,.slice a6 n6 c6]:List Value),u.oneCell'=true by simp[Value.oneCell']);clear hg4 hat4 hown4 hF4;go_wp2_with (first | (at_builtin;refine wpList_append_lies _ rfl (.tmp 19) (.tmp 22) 34 rfl 0 36 i0 _ 7 112 Tryz.underlying34 hi hz0 hz1 hz2 rfl (by decide) u5 i _ rfl R5a.out ⟨w4.heap.size,0,none⟩ 1 1 [.int .i64 ek,.int .i64 ea,.string en,.int .i64 em,.slice a4 n4 c4,.slice a5 n5 c5,.slice a6 n6 c6] rfl rfl HNC.out HONE.out (by decide) hmx hmb2 (Nat.zero_le _) (w4.heap.size+1) (World.size_alloc _ _) ?_;intro g5 cap5 w5 hown5 hg5 hat5 hlt5))
   have hb4:Below w.heap.size w w4:=Below.grownAt ((HBL.out.alloc HSZ.out _).alloc (by simp;have:=HSZ.out;omega) _) G4.out O4.out (by simp;have:=HSZ.out;omega);have hb5:Below w.heap.size w w5:=Below.grownAt (hb4.alloc hb4.size _) hg5 O5.out (by simp;have:=hb4.size;omega);have o4:w.heap.size≤g4:=by
    rcases A4.out with e | e
    ·exact O4.out _ e
    ·have:=HSZ.out;omega
   have o5:w.heap.size≤g5:=by
    rcases hat5 with e | e
    ·exact O5.out _ e
    ·have:=hb4.size;omega
   have l4:g4<w4.heap.size:=(N4.out.lt g4 rfl).2;have ne4:u5.ownBlock≠some g4:=by
    intro e5;rcases A4.out with e | e
    ·exact NE.out _ e e5
    ·have:=HL5.out _ e5;omega
   refine⟨⟨i+1,by simp,by have:=HLT.out;omega,hb5,?_,?_,(fun b hb=>by cases hb;exact o4),(fun b hb=>by cases hb;exact o5),?_⟩,?_⟩
   ·rw[HTK.out,List.map_append];have:=ZdO (N4.out.alloc (.cells #[.int .i64 ek,.int .i64 ea,.string en,.int .i64 em,.slice a4 n4 c4,.slice a5 n5 c5,.slice a6 n6 c6] 36)) hg5 (fun b hb e=>ne4 (by cases hb;exact e.symm))
    simpa[←HNM.out] using this
   ·rw[HTK.out,List.flatMap_append]
    simpa[HCS.out] using hown5
   ·intro b hb e;cases hb;have e':g5=g4:=by cases e;rfl
    rcases hat5 with e5 | e5
    ·exact ne4 (e'▸e5)
    ·omega
   ·simp[intOf];have:=HLT.out;omega
  ·have hd1:decide ((i:Int)<(n:Int))=false:=by simp;omega
   have hd2:decide (i<n)=false:=by simp;omega
   obtain rfl:i=n:=by omega
   have HBL:=Hd hB;have R4:=Hd hr4;have R5:=Hd hr5;have O4:=Hd ho4;have O5:=Hd ho5;clear hB hr4 hr5 ho4 ho5 hne hin hlt;go_wp2_with fail
   go_ret2
   refine⟨HBL.out,_,_,rfl,?_⟩;have e4:ys.take i=ys:=List.take_of_length_le (by have:=HLN.out;omega);have r4:=R4.out;have r5:=R5.out;rw[e4,HFN.out] at r4 r5;have k1:∀j (h1:j<(fs.map (·.1)).length) (h2:j<ys.length),ys[j].1=(fs.map (·.1))[j]:=fun j h1 h2=>by rw[List.getElem_map];exact (HQ.out j (by simpa using h1) h2).1
   have k2:∀j (h1:j<(fs.map (·.2)).length) (h2:j<ys.length),IsCs (fun b=>A b∧b<w.heap.size∨w.heap.size≤b) wr (encE 26 36 (fs.map (·.2))[j]) ys[j].2:=fun j h1 h2=>by
    rw[List.getElem_map];exact ((HQ.out j (by simpa using h1) h2).2.mono (A':=fun b=>A b∧b<w.heap.size∨w.heap.size≤b) (fun b hb ha=>.inl ⟨ha,hb⟩)).below HBL.out
   refine .cons (.row (by decide) (by rw[List.length_map];exact r4) (fun b hb=>.inr (O4.out b hb)) (Zea _ _ _ _ (by rw[List.length_map];exact HL.out) k1)) (.cons (.row (by decide) (by rw[List.length_map];exact r5) (fun b hb=>.inr (O5.out b hb)) (Zni _ _ (by rw[List.length_map];exact HL.out) k2)) (.nil _ _))
end Go.Proofs.YtijnjoonbjdafaaGreatDoor

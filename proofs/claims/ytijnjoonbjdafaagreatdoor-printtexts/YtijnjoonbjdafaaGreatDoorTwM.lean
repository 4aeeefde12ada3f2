/-
  ParseOne: the law's walk.
  The walk of PrintTexts: it tells true.
  PrintTexts returns true for every input: the row, and the card. No condition beside the form's own.
-/
import Derived.Test.YtijnjoonbjdafaaGreatDoorRvM
import Derived.Test.YtijnjoonbjdafaaGreatDoorCards
import Derived.Test.YtijnjoonbjdafaaGreatDoorTie
import Derived.Stop.LaidErr
import Derived.LaidMore
import Derived.ProofKit
import Derived.OpenShut
import Derived.ShutString
namespace Go.Proofs.YtijnjoonbjdafaaGreatDoor
set_option maxHeartbeats 20000000
set_option maxRecDepth 20000
open Go.RowKit Go.Shelf
theorem bareTe{e:TypeId}(he:stT e=false)(A:Nat→Prop)(w:World):IsCs A w (encT e qT0) [.int .i64 0,.string ⟨#[]⟩,.slice none 0 0,.slice none 0 0]:=by
 simp only[qT0,encT,Zau,List.map_nil,lN];exact .cons (.num _ _ 0) (.cons (.str _ _ []) (.cons (.none _ _ _ (by decide)) (.cons (.none _ _ _ he) (.nil _ _))))
theorem bareEe{e f:TypeId}(he:stT e=false)(hf:stT f=false)(A:Nat→Prop)(w:World):IsCs A w (encE e f qE0) [.int .i64 0,.int .i64 0,.string ⟨#[]⟩,.int .i64 0,.slice none 0 0,.slice none 0 0,.slice none 0 0]:=by
 simp only[qE0,encE,Zaw,Zau,List.map_nil,lN];exact .cons (.num _ _ 0) (.cons (.num _ _ 0) (.cons (.str _ _ []) (.cons (.num _ _ 0) (.cons (.none _ _ _ (by decide)) (.cons (.none _ _ _ hf) (.cons (.none _ _ _ he) (.nil _ _)))))))
theorem optT{e:TypeId}(he:stT e=false){A:Nat→Prop}{w:World}{o:Option PT}{x:Ending}{k:Nat}{n:Bs}{ns:List Bs}{l:List PT}(ht:o.getD qT0=.mk k n ns l)(h:OptV (fun x cs=>IsCs A w (encT e x) cs) #[.int .i64 0,.string ⟨#[]⟩,.slice none 0 0,.slice none 0 0] o x) :
  ∃a2 c2 a3 c3,x=.returned (.tuple #[.agg #[.int .i64 k,.string ⟨n.toArray⟩,.slice a2 ns.length c2,.slice a3 l.length c3],.bool o.isSome])∧IsCs A w (encT e (.mk k n ns l)) [.int .i64 k,.string ⟨n.toArray⟩,.slice a2 ns.length c2,.slice a3 l.length c3]:=by
 cases o with
 | none=>
  cases ht;exact⟨none,0,none,0,h,bareTe he A w⟩
 | some t=>
  obtain⟨cs,h1,h2⟩:=h;have ht:t=.mk k n ns l:=ht;subst ht;obtain⟨v2,v3,rfl,k2,k3⟩:=ZbL h2;obtain⟨_,r2,-,-⟩:=k2.unrow;obtain⟨a2,c2,rfl⟩:=Zag r2;obtain⟨_,r3,-,-⟩:=k3.unrow;obtain⟨a3,c3,rfl⟩:=Zag r3;exact⟨a2,c2,a3,c3,h1,h2⟩
theorem optE{e f:TypeId}(he:stT e=false)(hf:stT f=false){A:Nat→Prop}{w:World}{o:Option PE}{x:Ending}{ek ea:Nat}{en:Bs}{em:Nat}{ens:List Bs}{el:List PE}{ets:List PT}(ht:o.getD qE0=.mk ek ea en em ens el ets)(h:OptV (fun x cs=>IsCs A w (encE e f x) cs) #[.int .i64 0,.int .i64 0,.string ⟨#[]⟩,.int .i64 0,.slice none 0 0,.slice none 0 0,.slice none 0 0] o x) :
  ∃a4 c4 a5 c5 a6 c6,x=.returned (.tuple #[.agg #[.int .i64 ek,.int .i64 ea,.string ⟨en.toArray⟩,.int .i64 em,.slice a4 ens.length c4,.slice a5 el.length c5,.slice a6 ets.length c6],.bool o.isSome])∧IsCs A w (encE e f (.mk ek ea en em ens el ets)) [.int .i64 ek,.int .i64 ea,.string ⟨en.toArray⟩,.int .i64 em,.slice a4 ens.length c4,.slice a5 el.length c5,.slice a6 ets.length c6]:=by
 cases o with
 | none=>
  cases ht;exact⟨none,0,none,0,none,0,h,bareEe he hf A w⟩
 | some t=>
  obtain⟨cs,h1,h2⟩:=h;have ht:t=.mk ek ea en em ens el ets:=ht;subst ht;obtain⟨a4,c4,a5,c5,a6,c6,hcs,-,-,-⟩:=Zfh h2;subst hcs;exact⟨a4,c4,a5,c5,a6,c6,h1,h2⟩
theorem Zh9{α:Type}{m:α→Nat}{f:List Tk→R α}{ts:List Tk}{told:List Dn}{x:α}(hf:Sb ts.length m (f ts))(h:Zbj (ZbJ f ts) told=some x):m x≤ts.length:=by
 unfold Zbj ZbJ at h;cases hh:f ts with
 | bad y r d=>rw[hh,R.bind_bad] at h;cases h
 | ok y r d=>
  rw[hh,R.bind_ok] at h;have h1:=hf y r d hh;by_cases hk:(hd r).k=6
  ·rw[if_pos hk] at h;simp only[R.tell_ok] at h;split at h
   ·cases h;omega
   ·cases h
  ·rw[if_neg hk] at h;cases h
set_option maxRecDepth 100000
open Go.RowKit Go.Shelf Go.Sort
theorem Zgz{α:Type}{P:α→Prop}{f:List Tk→R α}{ts:List Tk}{told:List Dn}{x:α}(hf:Sh P (f ts))(h:Zbj (ZbJ f ts) told=some x):P x:=by
 unfold Zbj ZbJ at h;cases hh:f ts with
 | bad y r d=>rw[hh,R.bind_bad] at h;cases h
 | ok y r d=>
  rw[hh,R.bind_ok] at h;have h1:=hf y r d hh;by_cases hk:(hd r).k=6
  ·rw[if_pos hk] at h;simp only[R.tell_ok] at h;split at h
   ·cases h;exact h1
   ·cases h
  ·rw[if_neg hk] at h;cases h
structure Dkt (K:Nat)(l:List PD):Prop where
 nd:∀d∈l,ND d
 wd:∀d∈l,WD d
 len:(prF l).length≤K
 sz:szDs l≤1000000
theorem dkt_of (s:Bs)(n:Nat)(h:s.length≤n)(hn:n≤100000):Dkt (3*n+2) (Zbt s).1:=by
 obtain⟨h1,h2⟩:=Znz s;have h3:=all_sb s;exact⟨all_nd s,fun d hd=>Zf9 _ _ d hd,by omega,by omega⟩
theorem Zol{l:List PD}{d:PD}(h:d∈l):(prD d).length≤(prF l).length:=by
 obtain⟨i,hi,rfl⟩:=List.getElem_of_mem h;have h1:=Ziu l (i+1);rw[Zet l (List.getElem?_eq_getElem hi),lA] at h1;omega
structure Tkt (t:PT):Prop where
 w:WT t
 z:szT t≤1000000
 len:(prT 0 t).length≤1000000
structure Ekt (x:PE):Prop where
 w:WE x
 n:NE x
 z:szE x≤1000000
 len:(prE 0 x).length≤1000000
theorem ZiY (s:ByteArray)(w:World)(hTab:Tab w.heap.size w):Calls Tryz.prog 4 #[.string s] w (Tells w):=by
 have HA:=Hd (Zpf w);have HTAB:=Hd hTab;have HLN:=Hd (show (toks s.data.toList).length≤s.size+1 by rw[Lib.size_eq];exact Zco _);by_cases hsz:2000<s.size
 ·have hd1:decide ((2000:Int)<(s.size:Int))=true:=dT (by omega);have hd2:decide (2000<s.size)=true:=dT (by omega);clear hsz hTab;go_enter Tryz.func4,Tryz.ntmps4
  go_wp2_with fail
  refine HA.out.mono ?_;rintro e w1 ⟨rfl,b1⟩;go_wp2_with fail
  go_ret
  exact⟨rfl,b1⟩
 have hd1:decide ((2000:Int)<(s.size:Int))=false:=dF (by omega);have hd2:decide (2000<s.size)=false:=dF (by omega);have h5:s.size≤100000:=by omega
 have hls:s.data.toList.length=s.size:=Array.length_toList;have HC1:=Hd (Zid s h5);have HC2:=Hd (ZiX s h5);have HC3:=Hd (Zlh s h5);have HC4:=Hd (Zjx s h5);have HP1:=Hd (ZkQ s h5);have HP2:=Hd (Zi6 s h5);have hdok:=dkt_of s.data.toList 2000 (by omega) (by decide);obtain⟨dl,hdl⟩:=eX ((Zbt s.data.toList).1);obtain⟨nd,hnd⟩:=eX ((Zbt s.data.toList).2.length);rw[←hdl] at HP1 HP2 hdok;have DK:=Hd hdok;obtain⟨oT,hoT⟩:=eX (Zbj (ZbJ (typ 64) (toks s.data.toList)) (dns s.data.toList));obtain⟨oE,hoE⟩:=eX (Zbj (ZbJ (exp 64) (toks s.data.toList)) (dns s.data.toList));rw[←hoT] at HC1 HC2;rw[←hoE] at HC3 HC4;have hTK:oT.isSome=true→Tkt (oT.getD qT0):=by
  intro hs;cases h:oT with
  | none=>rw[h] at hs;cases hs
  | some x=>
   have h1:=Zh9 ((ZiG 64).1 _) (hoT.symm.trans h);have h2:=Zgz ((ZiF 64).1 _) (hoT.symm.trans h);have h3:=(wT_inv (show wT s.data.toList=some x from hoT.symm.trans h)).2;have:=HLN.out;exact⟨h2,by show szT x≤_;omega,by show (prT 0 x).length≤_;omega⟩
 have hEK:oE.isSome=true→Ekt (oE.getD qE0):=by
  intro hs;cases h:oE with
  | none=>rw[h] at hs;cases hs
  | some x=>
   have h1:=Zh9 (Zll 64 _) (hoE.symm.trans h);have h2:=Zgz (Zlk 64 _) (hoE.symm.trans h);have h3:=wE_inv (show wE s.data.toList=some x from hoE.symm.trans h);have h4:=h3.2;have:=HLN.out;exact⟨h2,ve_ne h3.1.ve,by show szE x≤_;omega,by show (prE 0 x).length≤_;omega⟩
 obtain⟨T,hT⟩:=eY (oT.getD qT0);obtain⟨E,hE⟩:=eY (oE.getD qE0);rw[hT] at hTK;rw[hE] at hEK;obtain⟨k,n,ns,l⟩:=T;obtain⟨ek,ea,en,em,ens,el,ets⟩:=E;obtain⟨bT,hbT⟩:=eX (oT.isSome);obtain⟨bE,hbE⟩:=eX (oE.isSome);rw[←hbT] at hTK;rw[←hbE] at hEK;have HTK:=Hd hTK;have HEK:=Hd hEK;have HT:=Hd hT;have HE:=Hd hE;have HBT:=Hd hbT;have HBE:=Hd hbE;obtain⟨SF,hSF⟩:∃S:ByteArray,S=⟨(prF dl).toArray⟩:=⟨_,rfl⟩;have HSF:=Hd hSF;clear hsz h5 hls hoT hoE hTK hEK hT hE hbT hbE hdl hdok hnd hSF hTab;go_enter Tryz.func4,Tryz.ntmps4
 go_wp2_with fail
 refine HA.out.mono ?_;rintro e w1 ⟨rfl,b1⟩;have B1:=Hd b1;clear b1;go_wp2_with fail
 refine (HP1.out w1).mono ?_;rintro e v2 ⟨vl,vd,rfl,b2,i2,r2⟩;obtain⟨_,q2,-,-⟩:=i2.unrow;obtain⟨al,cl,rfl⟩:=Zag q2;obtain⟨ad,cd,rfl⟩:=Zag r2;have S2:=Hd (Sub.of_row i2 (by rw[ZdF];exact ZaF (ZcX 26 36) _));have C2:=Hd (B1.out.trans (b2.mono B1.out.size));clear b2 i2 r2 q2 HP1;go_wp2_with fail
 refine (HP2.out v2).mono ?_;rintro e v3 ⟨ul,ud,rfl,b3,i3⟩;obtain⟨_,q3,-,-⟩:=i3.unrow;obtain⟨bl,bc,rfl⟩:=Zag q3;have S3:=Hd (Sub.of_row i3 (by rw[ZdF];exact ZaF (ZcX 31 41) _));have S2b:=Hd (S2.out.below b3);have C3:=Hd (C2.out.trans (b3.mono C2.out.size));clear b3 i3 q3 HP2;have HF1:=Hd (Zfz dl (fun d hd=>DK.out.nd d hd) _ _ v3 S2b.out (Tab.up (Lib.TabBelow.on HTAB.out C3.out) C3.out.size) (by have:=DK.out.len;omega) (by have:=ZdL dl;have:=DK.out.sz;omega));rw[←HSF.out] at HF1;go_wp2_with fail
 refine HF1.out.mono ?_;rintro e v4 ⟨rfl,b4⟩;have HF2:=Hd (Zkj dl (fun d hd=>DK.out.wd d hd) (fun d hd=>(DK.out.nd d hd).es) DK.out.sz (by have:=DK.out.len;omega) _ v4 _ (S3.out.below b4));rw[←HSF.out] at HF2;have S4:=Hd (S2b.out.below b4);have C4:=Hd (C3.out.trans (b4.mono C3.out.size));clear b4 HF1;go_wp2_with fail
 refine HF2.out.mono ?_;rintro e v5 ⟨rfl,b5⟩;have S5:=Hd (S4.out.below b5);have C5:=Hd (C4.out.trans (b5.mono C4.out.size));have hs5:SF.size≤100000:=by
  have:=DK.out.len;rw[HSF.out];show (prF dl).toArray.size≤_;rw[List.size_toArray];omega
 clear b5 HF2;go_wp2_with fail
 go_loopw [7,8] (fun s7 s8 wr=>∃i:Nat,s8=.int .i64 i∧i≤dl.length∧s7=.string ⟨(prF (dl.take i)).toArray⟩∧Hid (Below v5.heap.size v5 wr)) (fun _ s8 _=>dl.length-(intOf s8).toNat)
 case atStart=>exact⟨0,rfl,Nat.zero_le _,rfl,Below.refl _ _⟩
 case round=>
  obtain⟨i,rfl,hil,rfl,hB⟩:=hrel;have hbig:dl.length≤1000000:=by have:=ZdL dl;have:=DK.out.sz;omega
  have C6:=Hd (C5.out.trans (hB.out.mono C5.out.size));by_cases hi2:i<dl.length
  ·have hlt:decide ((i:Int)<(dl.length:Int))=true:=dT (by omega);have hltn:decide (i<dl.length)=true:=dT hi2;obtain⟨t,ht⟩:=eX (dl[i]);have hget:dl[i]?=some t:=by rw[ht];exact List.getElem?_eq_getElem hi2
   have hmem:t∈dl:=by rw[ht];exact List.getElem_mem hi2
   have hle:=Zol hmem;have hpl:=Ziu dl i;have hK:=DK.out.len;have HTK2:=Hd (Zet dl hget);obtain⟨g,o,cs,rfl,hg,hcs,hcell⟩:=Sub.at (ZcX 26 36) (S5.out.below hB.out) hget (by omega);have HP:=Hd (Zjg t (DK.out.nd t hmem) _ cs wr hcs (Tab.up (Lib.TabBelow.on HTAB.out C6.out) C6.out.size) (by omega));obtain⟨pt,hpt⟩:=eX (prF (dl.take i));obtain⟨pd,hpd⟩:=eX (prD t);have hlp:pt.length≤100000:=by rw[hpt];omega
   have hld:pd.length≤100000:=by rw[hpd];omega
   rw[←hpt] at HTK2⊢;rw[←hpd] at HTK2 HP;obtain⟨dk,da,dn,dts,des⟩:=t;obtain⟨a3,c3,a4,c4,rfl,-,-⟩:=Zgs hcs;have q0:=hcell 0 _ rfl;have q1:=hcell 1 _ rfl;have q2:=hcell 2 _ rfl;have q3:=hcell 3 _ rfl;have q4:=hcell 4 _ rfl;rw[aZ] at q0;clear ht hget hmem hle hpl hK hg hcs hcell hpt hpd;go_wp2_with fail
   refine HP.out.mono ?_;rintro e v6 ⟨rfl,b6⟩;have B6:=Hd (hB.out.trans (b6.mono hB.out.size));clear b6 q0 q1 q2 q3 q4 HP;go_wp2_with fail
   refine⟨⟨i+1,by simp,by omega,?_,B6⟩,?_⟩
   ·rw[HTK2.out,Zcc]
   ·simp[intOf];omega
  ·have hge:i=dl.length:=by omega
   have hlt:decide ((i:Int)<(dl.length:Int))=false:=dF (by omega);have hltn:decide (i<dl.length)=false:=dF hi2;have HSE:=Hd (show (⟨(prF (dl.take i)).toArray⟩:ByteArray)=SF by rw[hge,List.take_length,HSF.out]);rw[HSE.out];have S6:=Hd (S5.out.below hB.out);clear hge hi2 hil;go_wp2_with fail
   refine (HC1.out wr).mono ?_;rintro e w2 ⟨b,hv⟩;obtain⟨pa2,pc2,pa3,pc3,rfl,i⟩:=optT (by decide) HT.out hv;rw[←HBT.out];obtain⟨W3,hW⟩:=eY (w2.alloc (.cells #[.int .i64 k,.string ⟨n.toArray⟩,.slice pa2 ns.length pc2,.slice pa3 l.length pc3] 26));have bn:Below w2.heap.size w2 W3:=by rw[←hW];exact (Below.refl _ _).alloc (nl _) _
   have bb:=b.trans (bn.mono b.size);have B3:=Hd (C6.out.trans (bb.mono C6.out.size));have SS2:=Hd (S6.out.below bb);have X0a:=Hd (show Fou W3 w2.heap.size 26 (.int .i64 k) (.string ⟨n.toArray⟩) (.slice pa2 ns.length pc2) (.slice pa3 l.length pc3) by rw[←hW];exact hN w2 _);have I0a:=Hd ((i.mono (A':=fun _=>True) (fun _ _ _=>trivial)).below bn);have HW3:=Hd hW;clear b hv i bn bb hW;go_upto_region 15 with fail
   rw[HW3.out];go_wp2_with fail
   refine (HC2.out W3).mono ?_;rintro e w4 ⟨b,hv⟩;obtain⟨qa2,qc2,qa3,qc3,rfl,i⟩:=optT (by decide) HT.out hv;rw[←HBT.out];obtain⟨W5,hW⟩:=eY (w4.alloc (.cells #[.int .i64 k,.string ⟨n.toArray⟩,.slice qa2 ns.length qc2,.slice qa3 l.length qc3] 31));have bn:Below w4.heap.size w4 W5:=by rw[←hW];exact (Below.refl _ _).alloc (nl _) _
   have bb:=b.trans (bn.mono b.size);have B5:=Hd (B3.out.trans (bb.mono B3.out.size));have SS4:=Hd (SS2.out.below bb);have X1a:=Hd (show Fou W5 w4.heap.size 31 (.int .i64 k) (.string ⟨n.toArray⟩) (.slice qa2 ns.length qc2) (.slice qa3 l.length qc3) by rw[←hW];exact hN w4 _);have I1a:=Hd ((i.mono (A':=fun _=>True) (fun _ _ _=>trivial)).below bn);have X04:=mB4 bb X0a;have I04:=Hd (I0a.out.below bb);have HW5:=Hd hW;clear b hv i bn bb hW;go_upto_region 16 with fail
   rw[HW5.out];go_wp2_with fail
   refine (HC3.out W5).mono ?_;rintro e w6 ⟨b,hv⟩;obtain⟨ra4,rc4,ra5,rc5,ra6,rc6,rfl,i⟩:=optE (by decide) (by decide) HE.out hv;rw[←HBE.out];obtain⟨W7,hW⟩:=eY (w6.alloc (.cells #[.int .i64 ek,.int .i64 ea,.string ⟨en.toArray⟩,.int .i64 em,.slice ra4 ens.length rc4,.slice ra5 el.length rc5,.slice ra6 ets.length rc6] 36));have bn:Below w6.heap.size w6 W7:=by rw[←hW];exact (Below.refl _ _).alloc (nl _) _
   have bb:=b.trans (bn.mono b.size);have B7:=Hd (B5.out.trans (bb.mono B5.out.size));have SS6:=Hd (SS4.out.below bb);have X2a:=Hd (show Sev W7 w6.heap.size 36 (.int .i64 ek) (.int .i64 ea) (.string ⟨en.toArray⟩) (.int .i64 em) (.slice ra4 ens.length rc4) (.slice ra5 el.length rc5) (.slice ra6 ets.length rc6) by rw[←hW];exact hN w6 _);have I2a:=Hd ((i.mono (A':=fun _=>True) (fun _ _ _=>trivial)).below bn);have X06:=mB4 bb X04;have I06:=Hd (I04.out.below bb);have X16:=mB4 bb X1a;have I16:=Hd (I1a.out.below bb);have HW7:=Hd hW;clear b hv i bn bb hW;go_upto_region 17 with fail
   rw[HW7.out];go_wp2_with fail
   refine (HC4.out W7).mono ?_;rintro e w8 ⟨b,hv⟩;obtain⟨ua4,uc4,ua5,uc5,ua6,uc6,rfl,i⟩:=optE (by decide) (by decide) HE.out hv;rw[←HBE.out];obtain⟨W9,hW⟩:=eY (w8.alloc (.cells #[.int .i64 ek,.int .i64 ea,.string ⟨en.toArray⟩,.int .i64 em,.slice ua4 ens.length uc4,.slice ua5 el.length uc5,.slice ua6 ets.length uc6] 41));have bn:Below w8.heap.size w8 W9:=by rw[←hW];exact (Below.refl _ _).alloc (nl _) _
   have bb:=b.trans (bn.mono b.size);have B9:=Hd (B7.out.trans (bb.mono B7.out.size));have SS8:=Hd (SS6.out.below bb);have X3a:=Hd (show Sev W9 w8.heap.size 41 (.int .i64 ek) (.int .i64 ea) (.string ⟨en.toArray⟩) (.int .i64 em) (.slice ua4 ens.length uc4) (.slice ua5 el.length uc5) (.slice ua6 ets.length uc6) by rw[←hW];exact hN w8 _);have I3a:=Hd ((i.mono (A':=fun _=>True) (fun _ _ _=>trivial)).below bn);have X08:=mB4 bb X06;have I08:=Hd (I06.out.below bb);have X18:=mB4 bb X16;have I18:=Hd (I16.out.below bb);have X28:=mB7 bb X2a;have I28:=Hd (I2a.out.below bb);have HW9:=Hd hW;clear b hv i bn bb hW;go_upto_region 18 with fail
   rw[HW9.out];have hRG:=fun p:Regrown=>below_regrown W9 p.d p.os
   have S7:=Hd SS8.out;have cF:∀p:Regrown,Calls Tryz.prog 21 #[.slice al dl.length cl] (grow (redrawn W9 p.d) p.os) fun e w''=>e=.returned (.string SF)∧∃p:Regrown,w''=grow (redrawn W9 p.d) p.os:=by
    intro p;refine Calls.regrown_of ?_;rw[HSF.out];exact Zfz dl (fun d hd=>DK.out.nd d hd) _ _ _ (S7.out.below (hRG p)) (Tab.up (Lib.TabBelow.on HTAB.out (B9.out.trans ((hRG p).mono B9.out.size))) (B9.out.trans ((hRG p).mono B9.out.size)).size) (by have:=DK.out.len;omega) (by have:=ZdL dl;have:=DK.out.sz;omega)
   obtain⟨⟨s00,s01,s02,s03⟩,-⟩:=Zae (t:=26) X08.out;have hl0:w2.heap.size<W9.heap.size:=(gE X08.out).1;have y00:=rgc hl0 s00;have y01:=rgc hl0 s01;have y02:=rgc hl0 s02;have y03:=rgc hl0 s03;clear s00 s01 s02 s03;obtain⟨⟨s10,s11,s12,s13⟩,-⟩:=Zae (t:=31) X18.out;have hl1:w4.heap.size<W9.heap.size:=(gE X18.out).1;have y10:=rgc hl1 s10;have y11:=rgc hl1 s11;have y12:=rgc hl1 s12;have y13:=rgc hl1 s13;clear s10 s11 s12 s13;obtain⟨⟨s20,s21,s22,s23,s24,s25,s26⟩,-⟩:=Zai (t:=36) X28.out;have hl2:w6.heap.size<W9.heap.size:=(gE X28.out).1;have y20:=rgc hl2 s20;have y21:=rgc hl2 s21;have y22:=rgc hl2 s22;have y23:=rgc hl2 s23;have y24:=rgc hl2 s24;have y25:=rgc hl2 s25;have y26:=rgc hl2 s26;clear s20 s21 s22 s23 s24 s25 s26;obtain⟨⟨s30,s31,s32,s33,s34,s35,s36⟩,-⟩:=Zai (t:=41) X3a.out;have hl3:w8.heap.size<W9.heap.size:=(gE X3a.out).1;have y30:=rgc hl3 s30;have y31:=rgc hl3 s31;have y32:=rgc hl3 s32;have y33:=rgc hl3 s33;have y34:=rgc hl3 s34;have y35:=rgc hl3 s35;have y36:=rgc hl3 s36;clear s30 s31 s32 s33 s34 s35 s36;obtain⟨ST,hST⟩:∃S:ByteArray,S=⟨(prT 0 (.mk k n ns l)).toArray⟩:=⟨_,rfl⟩;obtain⟨SE,hSE⟩:∃S:ByteArray,S=⟨(prE 0 (.mk ek ea en em ens el ets)).toArray⟩:=⟨_,rfl⟩;have cT:bT=true→∀p:Regrown,Calls Tryz.prog 24 #[.agg #[.int .i64 k,.string ⟨n.toArray⟩,.slice pa2 ns.length pc2,.slice pa3 l.length pc3]] (grow (redrawn W9 p.d) p.os) fun e w''=>e=.returned (.string ST)∧∃p:Regrown,w''=grow (redrawn W9 p.d) p.os:=by
    intro hb p;refine Calls.regrown_of ?_;rw[hST];exact Zfy _ _ _ _ (I08.out.below (hRG p)) (Nat.le_trans (HTK.out hb).len (by decide))
   have cU:bT=true→∀p:Regrown,Calls Tryz.prog 25 #[.agg #[.int .i64 k,.string ⟨n.toArray⟩,.slice qa2 ns.length qc2,.slice qa3 l.length qc3],.int .i64 0] (grow (redrawn W9 p.d) p.os) fun e w''=>e=.returned (.string ST)∧∃p:Regrown,w''=grow (redrawn W9 p.d) p.os:=by
    intro hb p;refine Calls.regrown_of ?_;rw[hST];exact ZeT _ (HTK.out hb).w (HTK.out hb).z 0 (by decide) (HTK.out hb).len _ _ _ (I18.out.below (hRG p))
   have cX:bE=true→∀p:Regrown,Calls Tryz.prog 26 #[.agg #[.int .i64 ek,.int .i64 ea,.string ⟨en.toArray⟩,.int .i64 em,.slice ra4 ens.length rc4,.slice ra5 el.length rc5,.slice ra6 ets.length rc6]] (grow (redrawn W9 p.d) p.os) fun e w''=>e=.returned (.string SE)∧∃p:Regrown,w''=grow (redrawn W9 p.d) p.os:=by
    intro hb p;refine Calls.regrown_of ?_;rw[hSE];exact Zjf _ (HEK.out hb).n _ _ _ (I28.out.below (hRG p)) (Tab.up (Lib.TabBelow.on HTAB.out (B9.out.trans ((hRG p).mono B9.out.size))) (B9.out.trans ((hRG p).mono B9.out.size)).size) (HEK.out hb).len
   have cY:bE=true→∀p:Regrown,Calls Tryz.prog 27 #[.agg #[.int .i64 ek,.int .i64 ea,.string ⟨en.toArray⟩,.int .i64 em,.slice ua4 ens.length uc4,.slice ua5 el.length uc5,.slice ua6 ets.length uc6],.bool false] (grow (redrawn W9 p.d) p.os) fun e w''=>e=.returned (.string SE)∧∃p:Regrown,w''=grow (redrawn W9 p.d) p.os:=by
    intro hb p;refine Calls.regrown_of ?_;rw[hSE];exact ZgN _ (HEK.out hb).w (HEK.out hb).n (HEK.out hb).z false (HEK.out hb).len _ _ _ (I3a.out.below (hRG p))
   have heqF:(SF.toList==SF.toList)=true:=by simp
   have heqT:(ST.toList==ST.toList)=true:=by simp
   have heqE:(SE.toList==SE.toList)=true:=by simp
   have HBW:=Hd B9.out;clear hST hSE hRG hl0 hl1 hl2 hl3;cases bT with
   | true=>
    have cT:=cT rfl;have cU:=cU rfl;cases bE with
    | true=>
     have cX:=cX rfl;have cY:=cY rfl;refine wp_region_quiet_below (by kernel_rfl) (by kernel_rfl) ?_
     repeat (go_big_quiet_step (first | (with_reducible exact cF _) | (with_reducible exact cT _) | (with_reducible exact cU _) | (with_reducible exact cX _) | (with_reducible exact cY _)))
     refine wpQuiet_nil ?_;intro w9 hw9;have b9:Below W9.heap.size W9 w9:=by
      obtain⟨p,rfl⟩:=hw9;exact below_regrown W9 p.d p.os
     clear hw9;go_wp2_with fail
     go_ret
     exact⟨rfl,HBW.out.trans (b9.mono HBW.out.size)⟩
    | false=>
     clear cX cY;refine wp_region_quiet_below (by kernel_rfl) (by kernel_rfl) ?_
     repeat (go_big_quiet_step (first | (with_reducible exact cF _) | (with_reducible exact cT _) | (with_reducible exact cU _)))
     refine wpQuiet_nil ?_;intro w9 hw9;have b9:Below W9.heap.size W9 w9:=by
      obtain⟨p,rfl⟩:=hw9;exact below_regrown W9 p.d p.os
     clear hw9;go_wp2_with fail
     go_ret
     exact⟨rfl,HBW.out.trans (b9.mono HBW.out.size)⟩
   | false=>
    clear cT cU;cases bE with
    | true=>
     have cX:=cX rfl;have cY:=cY rfl;refine wp_region_quiet_below (by kernel_rfl) (by kernel_rfl) ?_
     repeat (go_big_quiet_step (first | (with_reducible exact cF _) | (with_reducible exact cX _) | (with_reducible exact cY _)))
     refine wpQuiet_nil ?_;intro w9 hw9;have b9:Below W9.heap.size W9 w9:=by
      obtain⟨p,rfl⟩:=hw9;exact below_regrown W9 p.d p.os
     clear hw9;go_wp2_with fail
     go_ret
     exact⟨rfl,HBW.out.trans (b9.mono HBW.out.size)⟩
    | false=>
     clear cX cY;refine wp_region_quiet_below (by kernel_rfl) (by kernel_rfl) ?_
     repeat (go_big_quiet_step (first | (with_reducible exact cF _)))
     refine wpQuiet_nil ?_;intro w9 hw9;have b9:Below W9.heap.size W9 w9:=by
      obtain⟨p,rfl⟩:=hw9;exact below_regrown W9 p.d p.os
     clear hw9;go_wp2_with fail
     go_ret
     exact⟨rfl,HBW.out.trans (b9.mono HBW.out.size)⟩
open Go.ChangeShapes Go.WideShapes Go.ChangeAt Go.RowKit
open Go.ChangeMaps (open_string shut_string)
theorem tab_of{W:World}(hL:laidMetH Tryz.prog Rows.printTextsRow.laid W):Tab W.heap.size W:=by
 have hL':laidMet Tryz.prog Rows.printTextsRow.laid W:=hL;exact Lib.tabBelow_of_tabIs (Lib.tabIs_of_head (g:=0) (t:=271) (e:=231) (n:=20) (by kernel_rfl) (by kernel_rfl) (by kernel_rfl) (by kernel_rfl) (by kernel_rfl) (by kernel_rfl) (show laidMet Tryz.prog (("internal/strconv.uint64pow10",Lib.tabData .u64 Lib.pow10Tab)::[("strconv.ErrRange",Rows.laid_strconv_ErrRange),("strconv.ErrSyntax",Rows.laid_strconv_ErrSyntax)]) W from laidMet.tail (laidMet.tail hL')))
theorem Zmr:ownKnob Tryz.prog.godebug=none:=by kernel_rfl
set_option maxRecDepth 100000 in
theorem ZmR (os:Os)(args:Array Value):laidMetH Tryz.prog Rows.printTextsRow.laid ((World.doorLaid Tryz.prog 62 os).forCall (fun _ _=>0) ⟨#[],args,[]⟩).memory:=
 laidMetH_of_parts3 (fuel:=8) (laidMet_of_run' 8 (by kernel_rfl) (by kernel_rfl)) (by kernel_rfl) (by kernel_rfl)
set_option maxRecDepth 100000 in
theorem Zd6 (os:Os)(started:os.Started)(H:Type)(enc:TypeId×Value→H) :
  ReturnsInHanded {} Tryz.checked os 4 .any (fun w args=>(Rows.printTextsSpec.pre enc Tryz.prog Tryz.f4 [] false w args∧laidMetH Tryz.prog Rows.printTextsRow.laid w)∧sizedMet enc Tryz.prog Tryz.f4 (OpenSpec.ofChange Rows.printTextsSpec) false w args)
   (Rows.printTextsSpec.post enc Tryz.prog Tryz.f4 false true false false):=by
 refine returnsInHanded_of_change_and (C:=Tryz.checked) (X:=fun w _=>laidMetH Tryz.prog Rows.printTextsRow.laid w) (fun _ _ _ hh h=>h.of_heap hh) Zmr started (by kernel_rfl) Tryz.func4
  (ChangeSpec.witness_shaped (enc:=enc) (C:=Tryz.checked) (os:=os) (X:=fun w _=>laidMetH Tryz.prog Rows.printTextsRow.laid w) false (World.doorLaid Tryz.prog 62 os) #[.string ⟨#[]⟩] 8 rfl (World.shaped_of_RefB (by kernel_rfl) (by kernel_rfl)) (by kernel_rfl) (by kernel_rfl) (by kernel_rfl) (ZmR os _)) ?_
 intro W base args ds gs before hval0 hW _ _ hL _;have hval:∀(j:Nat) t v,Tryz.f4.params[j]?=some t→args[j]?=some v→Value.okWide Tryz.prog W .any base t v:=hval0;have hW':=hW;obtain⟨p,q,hA0,hV,rfl,hfz,hnd⟩:=hW;have hA:DataW.TrodAll enc Tryz.prog W 0 (fun _=>true) true Tryz.f4.params.toList args.toList ds p:=hA0;rw[Tryz.params4] at hA hval;obtain⟨v0,vs0,d0,ds0,p0,q0,hargs,rfl,rfl,h0,r0⟩:=trodAll_cons hA;obtain⟨rfl,rfl,rfl⟩:=trodAll_nil r0;obtain rfl:args=#[v0]:=by cases args;simp_all
 obtain⟨rfl,rfl⟩:=trodVars_none hV;obtain⟨a0,rfl,rfl,rfl,w0⟩:=open_string Tryz.underlying9 (hval 0 9 v0 rfl rfl) h0;clear hA0 hval0;simp only[List.append_nil] at hW';refine (ZiY a0 W (tab_of hL)).mono fun e W' ⟨he,bel⟩=>?_
 subst he;exact⟨_,rfl,_,_,_,[],_,[],hW',trodAll_mk1 (shut_bool Tryz.underlying4 _),(trodAll_cons_mk (shut_string Tryz.underlying9 w0) trodAll_mk0),rfl,bel.frame _,fun h=>by cases h⟩
theorem ZeX:Rows.printTextsRow.holds Tryz.pinned (OpenSpec.ofChange Rows.printTextsSpec):=
 OpenClaim.holds_of_wide 4 Tryz.f4 rfl rfl rfl rfl rfl rfl rfl ⟨rfl,rfl,rfl,rfl,rfl⟩ rfl rfl rfl rfl rfl (by kernel_rfl) Tryz.func4 (by kernel_rfl)
  (of_decide_eq_true (by kernel_rfl)) (by unfold Func.isWrapper;first | (rw[if_pos (by decide +kernel)];kernel_rfl) | (rw[if_neg (by decide +kernel)];exact⟨rfl,rfl⟩))
  (fun os started H enc _=>Zd6 os started H enc)
theorem ZeW:Rows.PrintTextsSaid:=ZeX
theorem printTexts_card:Rows.PrintTextsCardSaid:=
 Claim7.holds_tied_plain_at .later [] [.data,.data,.data,.sentinel,.sentinel] true (true, "fdd8c0b5adef6158281b51e6b647c9c41b08859366cd205010f617463d3ad39d") true
  ZeW (fun _ h=>by cases h) (by kernel_rfl) (fun _ h=>by cases h) printTexts_row_tie rfl ⟨rfl,rfl⟩ (by kernel_rfl) rfl
  (fun f fn hf hfn=>by
   obtain rfl:f=4:=Option.some.inj ((show Tryz.prog.funcNamed "cupel/cupellaw06.PrintTexts" =some 4 by kernel_rfl).symm.trans hf) |>.symm
   obtain rfl:fn=Tryz.f4:=(Option.some.inj (Tryz.func4.symm.trans hfn)).symm;exact⟨by kernel_rfl,fun j t ht=>by
    rw[Tryz.params4] at ht;have h5:t=9∨t=5:=by
     rcases j with _ | j
     ·left;simpa using ht.symm
     ·simp at ht
    rcases h5 with rfl | rfl
    ·exact (show Tryz.prog.wantsStandIn 9=false by kernel_rfl)
    ·exact (show Tryz.prog.wantsStandIn 5=false by kernel_rfl)⟩)
  (by kernel_rfl)
#print axioms printTexts_card
end Go.Proofs.YtijnjoonbjdafaaGreatDoor

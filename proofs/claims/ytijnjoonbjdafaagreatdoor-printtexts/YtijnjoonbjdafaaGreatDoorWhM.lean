import Derived.Test.YtijnjoonbjdafaaGreatDoorAtM
namespace Go.Proofs.YtijnjoonbjdafaaGreatDoor
set_option maxHeartbeats 20000000
set_option maxRecDepth 20000
open Go.RowKit Go.Shelf
def ZbJ{α:Type}(read:List Tk→R α)(ts:List Tk):R α:=(read ts).bind fun x r=>if (hd r).k=6 then .ok x r [] else .bad (syn r) r []
def BxW (pb b3 b6 rd:Nat)(fty:TypeId)(w:World):Prop:=w.heap[b3]?=some (.cells #[.func (.func rd) #[] #[]] fty (0,0))∧w.heap[b6]?=some (.cells #[.pointer (some ⟨pb,0,none⟩)] 89 (0,0))∧stT fty=false
theorem Bx2W.fr{B pb b3 b6 rd:Nat}{fty:TypeId}(w w':World)(h:BxW pb b3 b6 rd fty w)(hF:Fr B w w'):BxW pb b3 b6 rd fty w':=⟨hF.cells h.1 h.2.2,hF.cells h.2.1 (by decide),h.2.2⟩
theorem ZlN{B M:Nat}{pb:Nat}{all:List Tk}
  (HT:∀w ts told,PS B M w pb all ts told→Calls Tryz.prog 43 #[.pointer (some ⟨pb,0,none⟩),.int .i64 1] w (Post B M w pb all told (vT w.heap.size) (typ 64 ts)))
  (b3 b6:Nat) (w:World) (ts:List Tk) (told:List Dn) (h:PS B M w pb all ts told) (hb:BxW pb b3 b6 43 87 w) :
  Calls Tryz.prog 78 #[.pointer (some ⟨b3,0,none⟩),.pointer (some ⟨b6,0,none⟩)] w (Post B M w pb all told (vT w.heap.size) (ZbJ (typ 64) ts)):=by
 have HT:=Hd HT;have HPB:=Hd h.lt;have P0:=Hd (h.alloc zT);have A0:=Hd (show (w.alloc zT).heap[w.heap.size]?=some zT from hN w zT);have F0:=Hd ((Fr.refl B w).alloc zT);have HBW:=Hd hb;obtain⟨h0,h1,-⟩:=hb;have c0:w.cell? ⟨b3,0,none⟩=some (.func (.func 43) #[] #[]):=by simp[World.cell?,h0]
 have c1:w.cell? ⟨b6,0,none⟩=some (.pointer (some ⟨pb,0,none⟩)):=by simp[World.cell?,h1]
 have l0:b3<w.heap.size:=(gE h0).1;have l1:b6<w.heap.size:=(gE h1).1;have m0:¬b3=w.heap.size:=Nat.ne_of_lt l0;have m1:¬b6=w.heap.size:=Nat.ne_of_lt l1;have hfl:=Zgl;have HFL:=Hd hfl;clear h h0 h1 hfl;obtain⟨res,hres⟩:=eX (ZbJ (typ 64) ts);rw[←hres];have HQ:=Hd hres;clear hres;go_enter Tryz.func78,Tryz.ntmps78
 go_wp2_with fail
 refine (HT.out _ _ _ P0.out).mono ?_;rintro e w1 ⟨f1,h1⟩;cases hr:typ 64 ts with
 | bad y rest ds=>
  rw[hr] at h1;obtain⟨rfl,p1⟩:=h1;go_wp2_with fail
  exact Zap rfl (.bad (HQ.out.trans (by rw[ZbJ,hr,R.bind_bad])) (F0.out.trans f1) p1)
 | ok x rest ds=>
  have HQ1:=Hd (show res=R.tell ds (if (hd rest).k=6 then .ok x rest [] else .bad (syn rest) rest []) from HQ.out.trans (by rw[ZbJ,hr,R.bind_ok]));rw[hr] at h1;obtain⟨⟨cs,rfl,hcs⟩,p1⟩:=h1;obtain⟨tk,tn,a2,n2,c2,a3,n3,c3,rfl⟩:=Zbq hcs;have hb1:=Bx2W.fr (B:=B) _ _ HBW.out (((Fr.refl B w).alloc zT).trans f1 |>.alloc (.cells #[.int .i64 tk,.string tn,.slice a2 n2 c2,.slice a3 n3 c3] 26));have c1':(w1.alloc (.cells #[.int .i64 tk,.string tn,.slice a2 n2 c2,.slice a3 n3 c3] 26)).cell? ⟨b6,0,none⟩=some (.pointer (some ⟨pb,0,none⟩)):=by
   have:=hb1.2.1;simp[World.cell?,this]
  have HB1:=Hd hb1;have P1:=Hd (p1.alloc (.cells #[.int .i64 tk,.string tn,.slice a2 n2 c2,.slice a3 n3 c3] 26));have F1:=Hd ((F0.out.trans f1).alloc (.cells #[.int .i64 tk,.string tn,.slice a2 n2 c2,.slice a3 n3 c3] 26));have A1:=Hd (Zab (f1.cells A0.out (by decide)) (.cells #[.int .i64 tk,.string tn,.slice a2 n2 c2,.slice a3 n3 c3] 26));have Z1:=Hd (show w.heap.size<w1.heap.size by have:=f1.size;simp at this;omega);have L1:=Hd (Lv.new (t:=26) (by decide) Z1.out (show w.heap.size<(w.alloc zT).heap.size by simp) hcs);clear hr f1 p1 hcs hb1 HQ c0 c1 l0 l1 m0 m1;go_upto_region 2 with fail
  obtain⟨W,hW⟩:=eY (w1.alloc (.cells #[.int .i64 tk,.string tn,.slice a2 n2 c2,.slice a3 n3 c3] 26));rw[hW] at P1 F1 A1 L1 HB1 c1';rw[hW];clear hW;have HNW:=Hd (Zcl P1.out);obtain⟨t,ht⟩:=eX (hd rest);have HTT:=Hd ht;rw[←ht] at HNW;clear ht;have hfl:=HFL.out;by_cases hk:t.k=6
  ·have hk1:(t.k:Int)=6:=by omega
   have hk2:((t.k:Int) !=6)=false:=by simpa using hk1
   have HW:=Hd (show res=.ok x rest ds by rw[HQ1.out,if_pos (by rw[←HTT.out];exact hk),R.tell_ok,List.append_nil]);clear hk1 hk;go_wp2_with fail
   refine HNW.out.mono ?_;rintro e w2 ⟨rfl,b2⟩;have P2:=Hd (P1.out.below b2);have F2:=Hd (F1.out.below b2);have A2:=Hd ((b2.block _ (gE A1.out).1).trans A1.out);have L2:=Hd (L1.out.below b2);have HTH:=Hd (Zaf A2.out rfl);obtain⟨⟨q0,q1,q2,q3⟩,-⟩:=Zae (t:=26) L2.out.blk;clear b2;unfold tokV;go_wp2_with (first | (refine Zaa rfl 26 (.tmp 2) (.tmp 14) rfl w.heap.size _ rfl rfl HTH.out Zc8 (all_oneCell_toArray (by simp[Value.oneCell'])) ?_;intro W9 hW9))
   have e9:W9=putL w2 w.heap.size [.int .i64 tk,.string tn,.slice a2 n2 c2,.slice a3 n3 c3]:=hW9.out;subst e9;exact Zkl rfl rfl rfl (Zam (vs:=[.int .i64 tk,.string tn,.slice a2 n2 c2,.slice a3 n3 c3]) A2.out rfl) (.ok HW.out (F2.out.putL (nl _) _) ⟨_,rfl,(L2.out.data.putL _ (fun b hb=>Nat.ne_of_gt hb) _).mono (fun b _ hb=>Nat.le_of_lt hb)⟩ (P2.out.putL A2.out (by decide) HPB.out _))
  ·have hk1:¬(t.k:Int)=6:=by omega
   have hk2:((t.k:Int) !=6)=true:=by simpa using hk1
   have HW:=Hd (show res=.bad (syn rest) rest ds by rw[HQ1.out,if_neg (by rw[←HTT.out];exact hk),R.tell_bad,List.append_nil]);clear hk1 hk;go_wp2_with fail
   refine HNW.out.mono ?_;rintro e w2 ⟨rfl,b2⟩;have P2:=Hd (P1.out.below b2);have F2:=Hd (F1.out.below b2);have hb2:=Bx2W.fr (B:=B) _ _ HB1.out (Fr.of_below b2);have c2:w2.cell? ⟨b6,0,none⟩=some (.pointer (some ⟨pb,0,none⟩)):=by
    have:=hb2.2.1;simp[World.cell?,this]
   clear b2 hb2;unfold tokV;go_wp2_with fail
   refine (ZbX P2.out).mono ?_;rintro e w3 ⟨rfl,b3'⟩;unfold gvV;go_wp2_with fail
   exact Zap rfl (.bad HW.out (F2.out.below b3') (P2.out.below b3'))
theorem ZlO{B M:Nat}{pb:Nat}{all:List Tk}
  (HT:∀w ts told,PS B M w pb all ts told→Calls Tryz.prog 47 #[.pointer (some ⟨pb,0,none⟩),.int .i64 1] w (Post B M w pb all told (vE w.heap.size) (exp 64 ts)))
  (b3 b6:Nat) (w:World) (ts:List Tk) (told:List Dn) (h:PS B M w pb all ts told) (hb:BxW pb b3 b6 47 98 w) :
  Calls Tryz.prog 87 #[.pointer (some ⟨b3,0,none⟩),.pointer (some ⟨b6,0,none⟩)] w (Post B M w pb all told (vE w.heap.size) (ZbJ (exp 64) ts)):=by
 have HT:=Hd HT;have HPB:=Hd h.lt;have P0:=Hd (h.alloc zE);have A0:=Hd (show (w.alloc zE).heap[w.heap.size]?=some zE from hN w zE);have F0:=Hd ((Fr.refl B w).alloc zE);have HBW:=Hd hb;obtain⟨h0,h1,-⟩:=hb;have c0:w.cell? ⟨b3,0,none⟩=some (.func (.func 47) #[] #[]):=by simp[World.cell?,h0]
 have c1:w.cell? ⟨b6,0,none⟩=some (.pointer (some ⟨pb,0,none⟩)):=by simp[World.cell?,h1]
 have l0:b3<w.heap.size:=(gE h0).1;have l1:b6<w.heap.size:=(gE h1).1;have m0:¬b3=w.heap.size:=Nat.ne_of_lt l0;have m1:¬b6=w.heap.size:=Nat.ne_of_lt l1;have hfl:=Zgl;have HFL:=Hd hfl;clear h h0 h1 hfl;obtain⟨res,hres⟩:=eX (ZbJ (exp 64) ts);rw[←hres];have HQ:=Hd hres;clear hres;go_enter Tryz.func87,Tryz.ntmps87
 go_wp2_with fail
 refine (HT.out _ _ _ P0.out).mono ?_;rintro e w1 ⟨f1,h1⟩;cases hr:exp 64 ts with
 | bad y rest ds=>
  rw[hr] at h1;obtain⟨rfl,p1⟩:=h1;go_wp2_with fail
  exact Zap rfl (.bad (HQ.out.trans (by rw[ZbJ,hr,R.bind_bad])) (F0.out.trans f1) p1)
 | ok x rest ds=>
  have HQ1:=Hd (show res=R.tell ds (if (hd rest).k=6 then .ok x rest [] else .bad (syn rest) rest []) from HQ.out.trans (by rw[ZbJ,hr,R.bind_ok]));rw[hr] at h1;obtain⟨⟨cs,rfl,hcs⟩,p1⟩:=h1;obtain⟨ek,ea,en,em,a4,n4,c4,a5,n5,c5,a6,n6,c6,rfl⟩:=ZaT hcs;have hb1:=Bx2W.fr (B:=B) _ _ HBW.out (((Fr.refl B w).alloc zE).trans f1 |>.alloc (.cells #[.int .i64 ek,.int .i64 ea,.string en,.int .i64 em,.slice a4 n4 c4,.slice a5 n5 c5,.slice a6 n6 c6] 36));have c1':(w1.alloc (.cells #[.int .i64 ek,.int .i64 ea,.string en,.int .i64 em,.slice a4 n4 c4,.slice a5 n5 c5,.slice a6 n6 c6] 36)).cell? ⟨b6,0,none⟩=some (.pointer (some ⟨pb,0,none⟩)):=by
   have:=hb1.2.1;simp[World.cell?,this]
  have HB1:=Hd hb1;have P1:=Hd (p1.alloc (.cells #[.int .i64 ek,.int .i64 ea,.string en,.int .i64 em,.slice a4 n4 c4,.slice a5 n5 c5,.slice a6 n6 c6] 36));have F1:=Hd ((F0.out.trans f1).alloc (.cells #[.int .i64 ek,.int .i64 ea,.string en,.int .i64 em,.slice a4 n4 c4,.slice a5 n5 c5,.slice a6 n6 c6] 36));have A1:=Hd (Zab (f1.cells A0.out (by decide)) (.cells #[.int .i64 ek,.int .i64 ea,.string en,.int .i64 em,.slice a4 n4 c4,.slice a5 n5 c5,.slice a6 n6 c6] 36));have Z1:=Hd (show w.heap.size<w1.heap.size by have:=f1.size;simp at this;omega);have L1:=Hd (Lv.new (t:=36) (by decide) Z1.out (show w.heap.size<(w.alloc zE).heap.size by simp) hcs);clear hr f1 p1 hcs hb1 HQ c0 c1 l0 l1 m0 m1;go_upto_region 2 with fail
  obtain⟨W,hW⟩:=eY (w1.alloc (.cells #[.int .i64 ek,.int .i64 ea,.string en,.int .i64 em,.slice a4 n4 c4,.slice a5 n5 c5,.slice a6 n6 c6] 36));rw[hW] at P1 F1 A1 L1 HB1 c1';rw[hW];clear hW;have HNW:=Hd (Zcl P1.out);obtain⟨t,ht⟩:=eX (hd rest);have HTT:=Hd ht;rw[←ht] at HNW;clear ht;have hfl:=HFL.out;by_cases hk:t.k=6
  ·have hk1:(t.k:Int)=6:=by omega
   have hk2:((t.k:Int) !=6)=false:=by simpa using hk1
   have HW:=Hd (show res=.ok x rest ds by rw[HQ1.out,if_pos (by rw[←HTT.out];exact hk),R.tell_ok,List.append_nil]);clear hk1 hk;go_wp2_with fail
   refine HNW.out.mono ?_;rintro e w2 ⟨rfl,b2⟩;have P2:=Hd (P1.out.below b2);have F2:=Hd (F1.out.below b2);have A2:=Hd ((b2.block _ (gE A1.out).1).trans A1.out);have L2:=Hd (L1.out.below b2);have HTH:=Hd (Zaf A2.out rfl);obtain⟨⟨q0,q1,q2,q3,q4,q5,q6⟩,-⟩:=Zai (t:=36) L2.out.blk;clear b2;unfold tokV;go_wp2_with (first | (refine Zaa rfl 36 (.tmp 2) (.tmp 14) rfl w.heap.size _ rfl rfl HTH.out Zbi (all_oneCell_toArray (by simp[Value.oneCell'])) ?_;intro W9 hW9))
   have e9:W9=putL w2 w.heap.size [.int .i64 ek,.int .i64 ea,.string en,.int .i64 em,.slice a4 n4 c4,.slice a5 n5 c5,.slice a6 n6 c6]:=hW9.out;subst e9;exact ZcC rfl rfl rfl (Zam (vs:=[.int .i64 ek,.int .i64 ea,.string en,.int .i64 em,.slice a4 n4 c4,.slice a5 n5 c5,.slice a6 n6 c6]) A2.out rfl) (.ok HW.out (F2.out.putL (nl _) _) ⟨_,rfl,(L2.out.data.putL _ (fun b hb=>Nat.ne_of_gt hb) _).mono (fun b _ hb=>Nat.le_of_lt hb)⟩ (P2.out.putL A2.out (by decide) HPB.out _))
  ·have hk1:¬(t.k:Int)=6:=by omega
   have hk2:((t.k:Int) !=6)=true:=by simpa using hk1
   have HW:=Hd (show res=.bad (syn rest) rest ds by rw[HQ1.out,if_neg (by rw[←HTT.out];exact hk),R.tell_bad,List.append_nil]);clear hk1 hk;go_wp2_with fail
   refine HNW.out.mono ?_;rintro e w2 ⟨rfl,b2⟩;have P2:=Hd (P1.out.below b2);have F2:=Hd (F1.out.below b2);have hb2:=Bx2W.fr (B:=B) _ _ HB1.out (Fr.of_below b2);have c2:w2.cell? ⟨b6,0,none⟩=some (.pointer (some ⟨pb,0,none⟩)):=by
    have:=hb2.2.1;simp[World.cell?,this]
   clear b2 hb2;unfold tokV;go_wp2_with fail
   refine (ZbX P2.out).mono ?_;rintro e w3 ⟨rfl,b3'⟩;unfold gvV;go_wp2_with fail
   exact Zap rfl (.bad HW.out (F2.out.below b3') (P2.out.below b3'))
theorem Zdh{w:World}{b:Nat}{v:Value}{t:TypeId}(h:w.heap[b]?=some (.cells #[v] t (0,0))):w.cell? ⟨b,0,none⟩=some v:=by simp[World.cell?,h]
def Zbj{α:Type}(r:R α)(t0:List Dn):Option α:=
 match r with
 | .ok x _ d=>if t0++d=[] then some x else none
 | .bad _ _ _=>none
def OptV{α:Type}(is:α→List Value→Prop)(zero:Array Value)(o:Option α)(e:Ending):Prop:=
 match o with
 | some x=>∃cs,e=.returned (.tuple #[.agg cs.toArray,.bool true])∧is x cs
 | none=>e=.returned (.tuple #[.agg zero,.bool false])
theorem ZnB (s:ByteArray)(hs:s.size≤100000)(w:World) :
  Calls Tryz.prog 42 #[.string s,.func (.func 43) #[] #[]] w fun e w'=>Below w.heap.size w w'∧OptV (fun x cs=>IsCs (fun b=>w.heap.size≤b) w' (encT 26 x) cs) #[.int .i64 0,.string ⟨#[]⟩,.slice none 0 0,.slice none 0 0] (Zbj (ZbJ (typ 64) (toks s.data.toList)) (dns s.data.toList)) e:=by
 obtain⟨W0,hW0⟩:=eY ((w.alloc (.cells #[.func (.func 43) #[] #[]] 87)).alloc zT);have HNEW:=Hd (ZhK s hs W0);have HS:=Hd (show s.data.toList.length≤100000 by rw[Lib.size_eq] at hs;exact hs);obtain⟨all,hall⟩:=eX (toks s.data.toList);obtain⟨t0,ht0⟩:=eX (dns s.data.toList);rw[←hall,←ht0] at HNEW⊢;obtain⟨out,hout⟩:=eX (Zbj (ZbJ (typ 64) all) t0);rw[←hout];have HALL:Hid (∀t∈all,t.t.length≤1000000):=by
  intro t ht;rw[hall] at ht;have:=ZeJ _ t ht;have:=HS.out;omega
 have HLEN:=Hd (show t0.length+all.length≤10000000 by
  rw[hall,ht0];have:=Zco s.data.toList;have:=Zdi s.data.toList;have:=HS.out
  simp only[dns,List.length_map];omega)
 have HO:=Hd hout;have A0:=Hd (show W0.heap[w.heap.size+1]?=some zT by
  rw[←hW0];have:=hN (w.alloc (.cells #[.func (.func 43) #[] #[]] 87)) zT
  simpa using this)
 have X0:=Hd (show W0.heap[w.heap.size]?=some (.cells #[.func (.func 43) #[] #[]] 87 (0,0)) by rw[←hW0];exact Zab (hN w _) _);have B0:=Hd (show Below w.heap.size w W0 by rw[←hW0];exact ((Below.refl _ w).alloc (nl _) _).alloc (by simp) _);have HS0:=Hd (show W0.heap.size=w.heap.size+2 by rw[←hW0];simp);have HW0:=Hd hW0;clear hs hall ht0 hout hW0;go_enter Tryz.func42,Tryz.ntmps42
 go_upto_region 1 with fail
 rw[HW0.out];go_wp2_with fail
 refine HNEW.out.mono ?_;rintro e w1 ⟨pb,rfl,b1,p1⟩;have P1:=Hd (p1.alloc (bxP pb));have hx1:=Zab ((b1.block _ (by have:=HS0.out;omega)).trans X0.out) (bxP pb);have A1:=Hd (Zab ((b1.block _ (by have:=HS0.out;omega)).trans A0.out) (bxP pb));have B1:=Hd (B0.out.trans ((b1.alloc b1.size (bxP pb)).mono (by have:=HS0.out;omega)));have hbx:BxW pb w.heap.size w1.heap.size 43 87 (w1.alloc (bxP pb)):=⟨hx1,hN w1 _,by decide⟩;have HBX:=Hd hbx;have HZ1:=Hd (show w.heap.size+2≤w1.heap.size by have:=b1.size;have:=HS0.out;omega);have HAT:=Hd (ZlH HLEN.out (BxW pb w.heap.size w1.heap.size 43 87) Bx2W.fr (ZbJ (typ 64)) w.heap.size w1.heap.size (fun W ts told hp hb=>ZlN ((Zge HLEN.out HALL.out 64 1 rfl).2) w.heap.size w1.heap.size W ts told hp hb) (w1.alloc (bxP pb)) all t0 P1.out hbx);have hc6:(w1.alloc (bxP pb)).cell? ⟨w1.heap.size,0,none⟩=some (.pointer (some ⟨pb,0,none⟩)):=Zdh hbx.2.1;clear b1 p1 hx1 hbx;go_upto_region 2 with fail
 obtain⟨W2,hW2⟩:=eY (w1.alloc (bxP pb));rw[hW2] at P1 A1 B1 HBX HAT hc6;rw[hW2];have HS2:=Hd (show W2.heap.size=w1.heap.size+1 by rw[←hW2];simp);clear hW2;go_wp2_with fail
 refine HAT.out.mono ?_;rintro e w3 ⟨f3,h3⟩;clear hc6;obtain⟨res,hres⟩:=eX (ZbJ (typ 64) all);rw[←hres] at h3 HO;clear hres HAT;have hb3:=Bx2W.fr (B:=W0.heap.size) _ _ HBX.out f3;have A3:=Hd (f3.cells A1.out (by decide));have B3:=Hd (show Below w.heap.size w w3 from B1.out.trans ((f3.belows (by have:=HS2.out;have:=HZ1.out;have:=HS0.out;omega)).mono (by have:=HS0.out;omega)));have HZ3:=Hd f3.size;cases hr:res with
 | bad y rest ds=>
  rw[hr] at h3;obtain⟨rfl,p3⟩:=h3;have P3:=Hd (p3.alloc zT);have HB:=Hd (show BxW pb w.heap.size w1.heap.size 43 87 (w3.alloc zT) from Bx2W.fr (B:=0) _ _ hb3 ((Fr.refl 0 w3).alloc _));have A4:=Hd (Zab A3.out zT);have B4:=Hd (B3.out.alloc B3.out.size zT);have HE:=Hd (show out=none by rw[HO.out,hr];rfl);have HPOS:=Hd (show 0<(t0++ds++[y]).length by simp only[lA,lC,lN];omega);clear hr p3 f3 hb3;go_upto_region 3 with fail
  obtain⟨W4,hW4⟩:=eY (w3.alloc (zT));rw[hW4] at P3 HB A4 B4;rw[hW4];clear hW4;obtain⟨vt,vd,i3,h6,-,h8,-⟩:=P3.out.ex;obtain⟨⟨k0,k1,k2⟩,-⟩:=Zan h6;obtain⟨ad,cd,hvd⟩:=Zag h8;subst hvd;obtain⟨nd,hnd⟩:=eX ((t0++ds++[y]).length);rw[←hnd] at k2;have hgt:decide ((0:Int)<(nd:Int))=true:=by rw[hnd];have:=HPOS.out;simp only[decide_eq_true_eq];omega
  have hgt2:(0:Int)<(nd:Int):=by simpa using hgt
  have hgt3:0<nd:=by omega
  have cb:W4.cell? ⟨w1.heap.size,0,none⟩=some (.pointer (some ⟨pb,0,none⟩)):=Zdh HB.out.2.1;have HTH:=Hd (Zaf (Zab A4.out zT) rfl);clear h6 h8 hnd;go_wp2_with (first | (refine Zaa rfl 26 (.tmp 4) (.tmp 24) rfl (w.heap.size+1) _ rfl rfl HTH.out Zc8 (all_oneCell_toArray (by simp[Value.oneCell'])) ?_;intro W9 hW9))
  have e9:W9=putL (W4.alloc zT) (w.heap.size+1) [.int .i64 0,.string ⟨#[]⟩,.slice none 0 0,.slice none 0 0]:=hW9.out;have hA9:W9.heap[w.heap.size+1]?=some (.cells #[.int .i64 0,.string ⟨#[]⟩,.slice none 0 0,.slice none 0 0] 26 (0,0)):=by rw[e9];exact Zam (vs:=[.int .i64 0,.string ⟨#[]⟩,.slice none 0 0,.slice none 0 0]) (Zab A4.out zT) rfl
  obtain⟨⟨r0,r1,r2,r3⟩,-⟩:=Zae (t:=26) hA9;refine bodyPost_ret (v:=.tuple #[.agg #[.int .i64 0,.string ⟨#[]⟩,.slice none 0 0,.slice none 0 0],.bool false]) ?_ rfl ⟨?_,?_⟩
  ·simp[results,Tryz.results42,go_sem,r0,r1,r2,r3]
  ·rw[e9];exact Below.putL (B4.out.alloc B4.out.size zT) (by omega) _
  ·rw[HE.out];exact rfl
 | ok x rest ds=>
  rw[hr] at h3;obtain⟨⟨cs,rfl,hcs⟩,p3⟩:=h3;obtain⟨tk,tn,a2,n2,c2,a3,n3,c3,rfl⟩:=Zbq hcs;have P3:=Hd (p3.alloc (.cells #[.int .i64 tk,.string tn,.slice a2 n2 c2,.slice a3 n3 c3] 26));have HB:=Hd (show BxW pb w.heap.size w1.heap.size 43 87 (w3.alloc (.cells #[.int .i64 tk,.string tn,.slice a2 n2 c2,.slice a3 n3 c3] 26)) from Bx2W.fr (B:=0) _ _ hb3 ((Fr.refl 0 w3).alloc _));have A4:=Hd (Zab A3.out (.cells #[.int .i64 tk,.string tn,.slice a2 n2 c2,.slice a3 n3 c3] 26));have B4:=Hd (B3.out.alloc B3.out.size (.cells #[.int .i64 tk,.string tn,.slice a2 n2 c2,.slice a3 n3 c3] 26));have C4:=Hd ((hcs.mono (A':=fun b=>w.heap.size≤b∧b≠w.heap.size+1) (fun b _ hb=>by have:=HS2.out;have:=HZ1.out;exact⟨by omega,by omega⟩)).below ((Below.refl _ _).alloc (nl _) (.cells #[.int .i64 tk,.string tn,.slice a2 n2 c2,.slice a3 n3 c3] 26)));have N4:=Hd (show (w3.alloc (.cells #[.int .i64 tk,.string tn,.slice a2 n2 c2,.slice a3 n3 c3] 26)).heap[w3.heap.size]?=some (.cells #[.int .i64 tk,.string tn,.slice a2 n2 c2,.slice a3 n3 c3] 26 (0,0)) from hN w3 _);by_cases hnil:t0++ds=[]
  ·have HE:=Hd (show out=some x by rw[HO.out,hr];simp only[Zbj];rw[if_pos hnil]);have HZERO:=Hd (show (t0++ds).length=0 by rw[hnil];rfl);clear hr p3 f3 hb3 hcs hnil;go_upto_region 3 with fail
   obtain⟨W4,hW4⟩:=eY (w3.alloc (.cells #[.int .i64 tk,.string tn,.slice a2 n2 c2,.slice a3 n3 c3] 26));rw[hW4] at P3 HB A4 B4 C4 N4;rw[hW4];clear hW4;obtain⟨vt,vd,i3,h6,-,h8,-⟩:=P3.out.ex;obtain⟨⟨k0,k1,k2⟩,-⟩:=Zan h6;obtain⟨ad,cd,hvd⟩:=Zag h8;rw[HZERO.out] at hvd;subst hvd;have cb:W4.cell? ⟨w1.heap.size,0,none⟩=some (.pointer (some ⟨pb,0,none⟩)):=Zdh HB.out.2.1;obtain⟨⟨q0,q1,q2,q3⟩,-⟩:=Zae (t:=26) N4.out;have HTH:=Hd (Zaf A4.out rfl);clear h6 h8;go_wp2_with (first | (refine Zaa rfl 26 (.tmp 4) (.tmp 25) rfl (w.heap.size+1) _ rfl rfl HTH.out Zc8 (all_oneCell_toArray (by simp[Value.oneCell'])) ?_;intro W9 hW9))
   have e9:W9=putL W4 (w.heap.size+1) [.int .i64 tk,.string tn,.slice a2 n2 c2,.slice a3 n3 c3]:=hW9.out;have hA9:W9.heap[w.heap.size+1]?=some (.cells #[.int .i64 tk,.string tn,.slice a2 n2 c2,.slice a3 n3 c3] 26 (0,0)):=by rw[e9];exact Zam (vs:=[.int .i64 tk,.string tn,.slice a2 n2 c2,.slice a3 n3 c3]) A4.out rfl
   obtain⟨⟨r0,r1,r2,r3⟩,-⟩:=Zae (t:=26) hA9;refine bodyPost_ret (v:=.tuple #[.agg #[.int .i64 tk,.string tn,.slice a2 n2 c2,.slice a3 n3 c3],.bool true]) ?_ rfl ⟨?_,?_⟩
   ·simp[results,Tryz.results42,go_sem,r0,r1,r2,r3]
   ·rw[e9];exact Below.putL B4.out (by omega) _
   ·rw[HE.out];refine⟨[.int .i64 tk,.string tn,.slice a2 n2 c2,.slice a3 n3 c3],rfl,?_⟩;rw[e9];exact (C4.out.putL _ (fun b hb=>hb.2) _).mono (fun b _ hb=>hb.1)
  ·have HE:=Hd (show out=none by rw[HO.out,hr];simp only[Zbj];rw[if_neg hnil]);have HPOS:=Hd (show 0<(t0++ds).length from List.length_pos_iff.2 hnil);clear hr p3 f3 hb3 hcs hnil C4 N4;go_upto_region 3 with fail
   obtain⟨W4,hW4⟩:=eY (w3.alloc (.cells #[.int .i64 tk,.string tn,.slice a2 n2 c2,.slice a3 n3 c3] 26));rw[hW4] at P3 HB A4 B4;rw[hW4];clear hW4;obtain⟨vt,vd,i3,h6,-,h8,-⟩:=P3.out.ex;obtain⟨⟨k0,k1,k2⟩,-⟩:=Zan h6;obtain⟨ad,cd,hvd⟩:=Zag h8;subst hvd;obtain⟨nd,hnd⟩:=eX ((t0++ds).length);rw[←hnd] at k2;have hgt:decide ((0:Int)<(nd:Int))=true:=by rw[hnd];have:=HPOS.out;simp only[decide_eq_true_eq];omega
   have hgt2:(0:Int)<(nd:Int):=by simpa using hgt
   have hgt3:0<nd:=by omega
   have cb:W4.cell? ⟨w1.heap.size,0,none⟩=some (.pointer (some ⟨pb,0,none⟩)):=Zdh HB.out.2.1;have HTH:=Hd (Zaf (Zab A4.out zT) rfl);clear h6 h8 hnd;go_wp2_with (first | (refine Zaa rfl 26 (.tmp 4) (.tmp 24) rfl (w.heap.size+1) _ rfl rfl HTH.out Zc8 (all_oneCell_toArray (by simp[Value.oneCell'])) ?_;intro W9 hW9))
   have e9:W9=putL (W4.alloc zT) (w.heap.size+1) [.int .i64 0,.string ⟨#[]⟩,.slice none 0 0,.slice none 0 0]:=hW9.out;have hA9:W9.heap[w.heap.size+1]?=some (.cells #[.int .i64 0,.string ⟨#[]⟩,.slice none 0 0,.slice none 0 0] 26 (0,0)):=by rw[e9];exact Zam (vs:=[.int .i64 0,.string ⟨#[]⟩,.slice none 0 0,.slice none 0 0]) (Zab A4.out zT) rfl
   obtain⟨⟨r0,r1,r2,r3⟩,-⟩:=Zae (t:=26) hA9;refine bodyPost_ret (v:=.tuple #[.agg #[.int .i64 0,.string ⟨#[]⟩,.slice none 0 0,.slice none 0 0],.bool false]) ?_ rfl ⟨?_,?_⟩
   ·simp[results,Tryz.results42,go_sem,r0,r1,r2,r3]
   ·rw[e9];exact Below.putL (B4.out.alloc B4.out.size zT) (by omega) _
   ·rw[HE.out];exact rfl
theorem Zid (s:ByteArray)(hs:s.size≤100000)(w:World) :
  Calls Tryz.prog 10 #[.string s] w fun e w'=>Below w.heap.size w w'∧OptV (fun x cs=>IsCs (fun b=>w.heap.size≤b) w' (encT 26 x) cs) #[.int .i64 0,.string ⟨#[]⟩,.slice none 0 0,.slice none 0 0] (Zbj (ZbJ (typ 64) (toks s.data.toList)) (dns s.data.toList)) e:=by
 have HW:=Hd (ZnB s hs (w.alloc zT));obtain⟨out,hout⟩:=eX (Zbj (ZbJ (typ 64) (toks s.data.toList)) (dns s.data.toList));rw[←hout] at HW⊢;have A0:=Hd (show (w.alloc zT).heap[w.heap.size]?=some zT from hN w zT);clear hs hout;go_enter Tryz.func10,Tryz.ntmps10
 go_wp2_with fail
 refine HW.out.mono ?_;rintro e w1 ⟨b1,h1⟩;have A1:=Hd ((b1.block _ (by simp)).trans A0.out);have B1:=Hd (((Below.refl _ w).alloc (nl _) zT).trans (b1.mono (by simp)));have HTH:=Hd (Zaf A1.out rfl);cases ho:out with
 | none=>
  rw[ho] at h1;have h1:e=.returned (.tuple #[.agg #[.int .i64 0,.string ⟨#[]⟩,.slice none 0 0,.slice none 0 0],.bool false]):=h1;subst h1;have HOO:=Hd ho;clear b1 ho;go_wp2_with (first | (refine Zaa rfl 26 (.tmp 2) (.tmp 6) rfl w.heap.size _ rfl rfl HTH.out Zc8 (all_oneCell_toArray (by simp[Value.oneCell'])) ?_;intro W9 hW9))
  have e9:W9=putL w1 w.heap.size [.int .i64 0,.string ⟨#[]⟩,.slice none 0 0,.slice none 0 0]:=hW9.out;have hA9:W9.heap[w.heap.size]?=some (.cells #[.int .i64 0,.string ⟨#[]⟩,.slice none 0 0,.slice none 0 0] 26 (0,0)):=by rw[e9];exact Zam (vs:=[.int .i64 0,.string ⟨#[]⟩,.slice none 0 0,.slice none 0 0]) A1.out rfl
  obtain⟨⟨r0,r1,r2,r3⟩,-⟩:=Zae (t:=26) hA9;refine bodyPost_ret (v:=.tuple #[.agg #[.int .i64 0,.string ⟨#[]⟩,.slice none 0 0,.slice none 0 0],.bool false]) ?_ rfl ⟨?_,?_⟩
  ·simp[results,Tryz.results10,go_sem,r0,r1,r2,r3]
  ·rw[e9];exact Below.putL B1.out (nl _) _
  ·rw[HOO.out];exact rfl
 | some x=>
  rw[ho] at h1;unfold OptV at h1;obtain⟨cs,h1,hcs⟩:=h1;subst h1;have HOO:=Hd ho;obtain⟨tk,tn,a2,n2,c2,a3,n3,c3,rfl⟩:=Zbq hcs;have C1:=Hd (hcs.mono (A':=fun b=>w.heap.size<b) (fun b _ hb=>by simp at hb;omega));clear b1 ho hcs;go_wp2_with (first | (refine Zaa rfl 26 (.tmp 2) (.tmp 6) rfl w.heap.size _ rfl rfl HTH.out Zc8 (all_oneCell_toArray (by simp[Value.oneCell'])) ?_;intro W9 hW9))
  have e9:W9=putL w1 w.heap.size [.int .i64 tk,.string tn,.slice a2 n2 c2,.slice a3 n3 c3]:=hW9.out;have hA9:W9.heap[w.heap.size]?=some (.cells #[.int .i64 tk,.string tn,.slice a2 n2 c2,.slice a3 n3 c3] 26 (0,0)):=by rw[e9];exact Zam (vs:=[.int .i64 tk,.string tn,.slice a2 n2 c2,.slice a3 n3 c3]) A1.out rfl
  obtain⟨⟨r0,r1,r2,r3⟩,-⟩:=Zae (t:=26) hA9;refine bodyPost_ret (v:=.tuple #[.agg #[.int .i64 tk,.string tn,.slice a2 n2 c2,.slice a3 n3 c3],.bool true]) ?_ rfl ⟨?_,?_⟩
  ·simp[results,Tryz.results10,go_sem,r0,r1,r2,r3]
  ·rw[e9];exact Below.putL B1.out (nl _) _
  ·rw[HOO.out];refine⟨[.int .i64 tk,.string tn,.slice a2 n2 c2,.slice a3 n3 c3],rfl,?_⟩;rw[e9];exact (C1.out.putL _ (fun b hb=>Nat.ne_of_gt hb) _).mono (fun b _ hb=>Nat.le_of_lt hb)
theorem ZnC (s:ByteArray)(hs:s.size≤100000)(w:World) :
  Calls Tryz.prog 46 #[.string s,.func (.func 47) #[] #[]] w fun e w'=>Below w.heap.size w w'∧OptV (fun x cs=>IsCs (fun b=>w.heap.size≤b) w' (encE 26 36 x) cs) #[.int .i64 0,.int .i64 0,.string ⟨#[]⟩,.int .i64 0,.slice none 0 0,.slice none 0 0,.slice none 0 0] (Zbj (ZbJ (exp 64) (toks s.data.toList)) (dns s.data.toList)) e:=by
 obtain⟨W0,hW0⟩:=eY ((w.alloc (.cells #[.func (.func 47) #[] #[]] 98)).alloc zE);have HNEW:=Hd (ZhK s hs W0);have HS:=Hd (show s.data.toList.length≤100000 by rw[Lib.size_eq] at hs;exact hs);obtain⟨all,hall⟩:=eX (toks s.data.toList);obtain⟨t0,ht0⟩:=eX (dns s.data.toList);rw[←hall,←ht0] at HNEW⊢;obtain⟨out,hout⟩:=eX (Zbj (ZbJ (exp 64) all) t0);rw[←hout];have HALL:Hid (∀t∈all,t.t.length≤1000000):=by
  intro t ht;rw[hall] at ht;have:=ZeJ _ t ht;have:=HS.out;omega
 have HNUM:Hid (∀t∈all,t.k=3→NumT t.t):=by rw[hall];exact ZdJ _
 have HLEN:=Hd (show t0.length+all.length≤10000000 by
  rw[hall,ht0];have:=Zco s.data.toList;have:=Zdi s.data.toList;have:=HS.out
  simp only[dns,List.length_map];omega)
 have HO:=Hd hout;have A0:=Hd (show W0.heap[w.heap.size+1]?=some zE by
  rw[←hW0];have:=hN (w.alloc (.cells #[.func (.func 47) #[] #[]] 98)) zE
  simpa using this)
 have X0:=Hd (show W0.heap[w.heap.size]?=some (.cells #[.func (.func 47) #[] #[]] 98 (0,0)) by rw[←hW0];exact Zab (hN w _) _);have B0:=Hd (show Below w.heap.size w W0 by rw[←hW0];exact ((Below.refl _ w).alloc (nl _) _).alloc (by simp) _);have HS0:=Hd (show W0.heap.size=w.heap.size+2 by rw[←hW0];simp);have HW0:=Hd hW0;clear hs hall ht0 hout hW0;go_enter Tryz.func46,Tryz.ntmps46
 go_upto_region 1 with fail
 rw[HW0.out];go_wp2_with fail
 refine HNEW.out.mono ?_;rintro e w1 ⟨pb,rfl,b1,p1⟩;have P1:=Hd (p1.alloc (bxP pb));have hx1:=Zab ((b1.block _ (by have:=HS0.out;omega)).trans X0.out) (bxP pb);have A1:=Hd (Zab ((b1.block _ (by have:=HS0.out;omega)).trans A0.out) (bxP pb));have B1:=Hd (B0.out.trans ((b1.alloc b1.size (bxP pb)).mono (by have:=HS0.out;omega)));have hbx:BxW pb w.heap.size w1.heap.size 47 98 (w1.alloc (bxP pb)):=⟨hx1,hN w1 _,by decide⟩;have HBX:=Hd hbx;have HZ1:=Hd (show w.heap.size+2≤w1.heap.size by have:=b1.size;have:=HS0.out;omega);have HAT:=Hd (ZlI HLEN.out (BxW pb w.heap.size w1.heap.size 47 98) Bx2W.fr (ZbJ (exp 64)) w.heap.size w1.heap.size (fun W ts told hp hb=>ZlO (ZhN HLEN.out HALL.out HNUM.out 64 1 rfl) w.heap.size w1.heap.size W ts told hp hb) (w1.alloc (bxP pb)) all t0 P1.out hbx);have hc6:(w1.alloc (bxP pb)).cell? ⟨w1.heap.size,0,none⟩=some (.pointer (some ⟨pb,0,none⟩)):=Zdh hbx.2.1;clear b1 p1 hx1 hbx;go_upto_region 2 with fail
 obtain⟨W2,hW2⟩:=eY (w1.alloc (bxP pb));rw[hW2] at P1 A1 B1 HBX HAT hc6;rw[hW2];have HS2:=Hd (show W2.heap.size=w1.heap.size+1 by rw[←hW2];simp);clear hW2;go_wp2_with fail
 refine HAT.out.mono ?_;rintro e w3 ⟨f3,h3⟩;clear hc6;obtain⟨res,hres⟩:=eX (ZbJ (exp 64) all);rw[←hres] at h3 HO;clear hres HAT;have hb3:=Bx2W.fr (B:=W0.heap.size) _ _ HBX.out f3;have A3:=Hd (f3.cells A1.out (by decide));have B3:=Hd (show Below w.heap.size w w3 from B1.out.trans ((f3.belows (by have:=HS2.out;have:=HZ1.out;have:=HS0.out;omega)).mono (by have:=HS0.out;omega)));have HZ3:=Hd f3.size;cases hr:res with
 | bad y rest ds=>
  rw[hr] at h3;obtain⟨rfl,p3⟩:=h3;have P3:=Hd (p3.alloc zE);have HB:=Hd (show BxW pb w.heap.size w1.heap.size 47 98 (w3.alloc zE) from Bx2W.fr (B:=0) _ _ hb3 ((Fr.refl 0 w3).alloc _));have A4:=Hd (Zab A3.out zE);have B4:=Hd (B3.out.alloc B3.out.size zE);have HE:=Hd (show out=none by rw[HO.out,hr];rfl);have HPOS:=Hd (show 0<(t0++ds++[y]).length by simp only[lA,lC,lN];omega);clear hr p3 f3 hb3;go_upto_region 3 with fail
  obtain⟨W4,hW4⟩:=eY (w3.alloc (zE));rw[hW4] at P3 HB A4 B4;rw[hW4];clear hW4;obtain⟨vt,vd,i3,h6,-,h8,-⟩:=P3.out.ex;obtain⟨⟨k0,k1,k2⟩,-⟩:=Zan h6;obtain⟨ad,cd,hvd⟩:=Zag h8;subst hvd;obtain⟨nd,hnd⟩:=eX ((t0++ds++[y]).length);rw[←hnd] at k2;have hgt:decide ((0:Int)<(nd:Int))=true:=by rw[hnd];have:=HPOS.out;simp only[decide_eq_true_eq];omega
  have hgt2:(0:Int)<(nd:Int):=by simpa using hgt
  have hgt3:0<nd:=by omega
  have cb:W4.cell? ⟨w1.heap.size,0,none⟩=some (.pointer (some ⟨pb,0,none⟩)):=Zdh HB.out.2.1;have HTH:=Hd (Zaf (Zab A4.out zE) rfl);clear h6 h8 hnd;go_wp2_with (first | (refine Zaa rfl 36 (.tmp 4) (.tmp 24) rfl (w.heap.size+1) _ rfl rfl HTH.out Zbi (all_oneCell_toArray (by simp[Value.oneCell'])) ?_;intro W9 hW9))
  have e9:W9=putL (W4.alloc zE) (w.heap.size+1) [.int .i64 0,.int .i64 0,.string ⟨#[]⟩,.int .i64 0,.slice none 0 0,.slice none 0 0,.slice none 0 0]:=hW9.out;have hA9:W9.heap[w.heap.size+1]?=some (.cells #[.int .i64 0,.int .i64 0,.string ⟨#[]⟩,.int .i64 0,.slice none 0 0,.slice none 0 0,.slice none 0 0] 36 (0,0)):=by rw[e9];exact Zam (vs:=[.int .i64 0,.int .i64 0,.string ⟨#[]⟩,.int .i64 0,.slice none 0 0,.slice none 0 0,.slice none 0 0]) (Zab A4.out zE) rfl
  obtain⟨⟨r0,r1,r2,r3,r4,r5,r6⟩,-⟩:=Zai (t:=36) hA9;refine bodyPost_ret (v:=.tuple #[.agg #[.int .i64 0,.int .i64 0,.string ⟨#[]⟩,.int .i64 0,.slice none 0 0,.slice none 0 0,.slice none 0 0],.bool false]) ?_ rfl ⟨?_,?_⟩
  ·simp[results,Tryz.results46,go_sem,r0,r1,r2,r3,r4,r5,r6]
  ·rw[e9];exact Below.putL (B4.out.alloc B4.out.size zE) (by omega) _
  ·rw[HE.out];exact rfl
 | ok x rest ds=>
  rw[hr] at h3;obtain⟨⟨cs,rfl,hcs⟩,p3⟩:=h3;obtain⟨ek,ea,en,em,a4,n4,c4,a5,n5,c5,a6,n6,c6,rfl⟩:=ZaT hcs;have P3:=Hd (p3.alloc (.cells #[.int .i64 ek,.int .i64 ea,.string en,.int .i64 em,.slice a4 n4 c4,.slice a5 n5 c5,.slice a6 n6 c6] 36));have HB:=Hd (show BxW pb w.heap.size w1.heap.size 47 98 (w3.alloc (.cells #[.int .i64 ek,.int .i64 ea,.string en,.int .i64 em,.slice a4 n4 c4,.slice a5 n5 c5,.slice a6 n6 c6] 36)) from Bx2W.fr (B:=0) _ _ hb3 ((Fr.refl 0 w3).alloc _));have A4:=Hd (Zab A3.out (.cells #[.int .i64 ek,.int .i64 ea,.string en,.int .i64 em,.slice a4 n4 c4,.slice a5 n5 c5,.slice a6 n6 c6] 36));have B4:=Hd (B3.out.alloc B3.out.size (.cells #[.int .i64 ek,.int .i64 ea,.string en,.int .i64 em,.slice a4 n4 c4,.slice a5 n5 c5,.slice a6 n6 c6] 36));have C4:=Hd ((hcs.mono (A':=fun b=>w.heap.size≤b∧b≠w.heap.size+1) (fun b _ hb=>by have:=HS2.out;have:=HZ1.out;exact⟨by omega,by omega⟩)).below ((Below.refl _ _).alloc (nl _) (.cells #[.int .i64 ek,.int .i64 ea,.string en,.int .i64 em,.slice a4 n4 c4,.slice a5 n5 c5,.slice a6 n6 c6] 36)));have N4:=Hd (show (w3.alloc (.cells #[.int .i64 ek,.int .i64 ea,.string en,.int .i64 em,.slice a4 n4 c4,.slice a5 n5 c5,.slice a6 n6 c6] 36)).heap[w3.heap.size]?=some (.cells #[.int .i64 ek,.int .i64 ea,.string en,.int .i64 em,.slice a4 n4 c4,.slice a5 n5 c5,.slice a6 n6 c6] 36 (0,0)) from hN w3 _);by_cases hnil:t0++ds=[]
  ·have HE:=Hd (show out=some x by rw[HO.out,hr];simp only[Zbj];rw[if_pos hnil]);have HZERO:=Hd (show (t0++ds).length=0 by rw[hnil];rfl);clear hr p3 f3 hb3 hcs hnil;go_upto_region 3 with fail
   obtain⟨W4,hW4⟩:=eY (w3.alloc (.cells #[.int .i64 ek,.int .i64 ea,.string en,.int .i64 em,.slice a4 n4 c4,.slice a5 n5 c5,.slice a6 n6 c6] 36));rw[hW4] at P3 HB A4 B4 C4 N4;rw[hW4];clear hW4;obtain⟨vt,vd,i3,h6,-,h8,-⟩:=P3.out.ex;obtain⟨⟨k0,k1,k2⟩,-⟩:=Zan h6;obtain⟨ad,cd,hvd⟩:=Zag h8;rw[HZERO.out] at hvd;subst hvd;have cb:W4.cell? ⟨w1.heap.size,0,none⟩=some (.pointer (some ⟨pb,0,none⟩)):=Zdh HB.out.2.1;obtain⟨⟨q0,q1,q2,q3,q4,q5,q6⟩,-⟩:=Zai (t:=36) N4.out;have HTH:=Hd (Zaf A4.out rfl);clear h6 h8;go_wp2_with (first | (refine Zaa rfl 36 (.tmp 4) (.tmp 25) rfl (w.heap.size+1) _ rfl rfl HTH.out Zbi (all_oneCell_toArray (by simp[Value.oneCell'])) ?_;intro W9 hW9))
   have e9:W9=putL W4 (w.heap.size+1) [.int .i64 ek,.int .i64 ea,.string en,.int .i64 em,.slice a4 n4 c4,.slice a5 n5 c5,.slice a6 n6 c6]:=hW9.out;have hA9:W9.heap[w.heap.size+1]?=some (.cells #[.int .i64 ek,.int .i64 ea,.string en,.int .i64 em,.slice a4 n4 c4,.slice a5 n5 c5,.slice a6 n6 c6] 36 (0,0)):=by rw[e9];exact Zam (vs:=[.int .i64 ek,.int .i64 ea,.string en,.int .i64 em,.slice a4 n4 c4,.slice a5 n5 c5,.slice a6 n6 c6]) A4.out rfl
   obtain⟨⟨r0,r1,r2,r3,r4,r5,r6⟩,-⟩:=Zai (t:=36) hA9;refine bodyPost_ret (v:=.tuple #[.agg #[.int .i64 ek,.int .i64 ea,.string en,.int .i64 em,.slice a4 n4 c4,.slice a5 n5 c5,.slice a6 n6 c6],.bool true]) ?_ rfl ⟨?_,?_⟩
   ·simp[results,Tryz.results46,go_sem,r0,r1,r2,r3,r4,r5,r6]
   ·rw[e9];exact Below.putL B4.out (by omega) _
   ·rw[HE.out];refine⟨[.int .i64 ek,.int .i64 ea,.string en,.int .i64 em,.slice a4 n4 c4,.slice a5 n5 c5,.slice a6 n6 c6],rfl,?_⟩;rw[e9];exact (C4.out.putL _ (fun b hb=>hb.2) _).mono (fun b _ hb=>hb.1)
  ·have HE:=Hd (show out=none by rw[HO.out,hr];simp only[Zbj];rw[if_neg hnil]);have HPOS:=Hd (show 0<(t0++ds).length from List.length_pos_iff.2 hnil);clear hr p3 f3 hb3 hcs hnil C4 N4;go_upto_region 3 with fail
   obtain⟨W4,hW4⟩:=eY (w3.alloc (.cells #[.int .i64 ek,.int .i64 ea,.string en,.int .i64 em,.slice a4 n4 c4,.slice a5 n5 c5,.slice a6 n6 c6] 36));rw[hW4] at P3 HB A4 B4;rw[hW4];clear hW4;obtain⟨vt,vd,i3,h6,-,h8,-⟩:=P3.out.ex;obtain⟨⟨k0,k1,k2⟩,-⟩:=Zan h6;obtain⟨ad,cd,hvd⟩:=Zag h8;subst hvd;obtain⟨nd,hnd⟩:=eX ((t0++ds).length);rw[←hnd] at k2;have hgt:decide ((0:Int)<(nd:Int))=true:=by rw[hnd];have:=HPOS.out;simp only[decide_eq_true_eq];omega
   have hgt2:(0:Int)<(nd:Int):=by simpa using hgt
   have hgt3:0<nd:=by omega
   have cb:W4.cell? ⟨w1.heap.size,0,none⟩=some (.pointer (some ⟨pb,0,none⟩)):=Zdh HB.out.2.1;have HTH:=Hd (Zaf (Zab A4.out zE) rfl);clear h6 h8 hnd;go_wp2_with (first | (refine Zaa rfl 36 (.tmp 4) (.tmp 24) rfl (w.heap.size+1) _ rfl rfl HTH.out Zbi (all_oneCell_toArray (by simp[Value.oneCell'])) ?_;intro W9 hW9))
   have e9:W9=putL (W4.alloc zE) (w.heap.size+1) [.int .i64 0,.int .i64 0,.string ⟨#[]⟩,.int .i64 0,.slice none 0 0,.slice none 0 0,.slice none 0 0]:=hW9.out;have hA9:W9.heap[w.heap.size+1]?=some (.cells #[.int .i64 0,.int .i64 0,.string ⟨#[]⟩,.int .i64 0,.slice none 0 0,.slice none 0 0,.slice none 0 0] 36 (0,0)):=by rw[e9];exact Zam (vs:=[.int .i64 0,.int .i64 0,.string ⟨#[]⟩,.int .i64 0,.slice none 0 0,.slice none 0 0,.slice none 0 0]) (Zab A4.out zE) rfl
   obtain⟨⟨r0,r1,r2,r3,r4,r5,r6⟩,-⟩:=Zai (t:=36) hA9;refine bodyPost_ret (v:=.tuple #[.agg #[.int .i64 0,.int .i64 0,.string ⟨#[]⟩,.int .i64 0,.slice none 0 0,.slice none 0 0,.slice none 0 0],.bool false]) ?_ rfl ⟨?_,?_⟩
   ·simp[results,Tryz.results46,go_sem,r0,r1,r2,r3,r4,r5,r6]
   ·rw[e9];exact Below.putL (B4.out.alloc B4.out.size zE) (by omega) _
   ·rw[HE.out];exact rfl
theorem Zlh (s:ByteArray)(hs:s.size≤100000)(w:World) :
  Calls Tryz.prog 12 #[.string s] w fun e w'=>Below w.heap.size w w'∧OptV (fun x cs=>IsCs (fun b=>w.heap.size≤b) w' (encE 26 36 x) cs) #[.int .i64 0,.int .i64 0,.string ⟨#[]⟩,.int .i64 0,.slice none 0 0,.slice none 0 0,.slice none 0 0] (Zbj (ZbJ (exp 64) (toks s.data.toList)) (dns s.data.toList)) e:=by
 have HW:=Hd (ZnC s hs (w.alloc zE));obtain⟨out,hout⟩:=eX (Zbj (ZbJ (exp 64) (toks s.data.toList)) (dns s.data.toList));rw[←hout] at HW⊢;have A0:=Hd (show (w.alloc zE).heap[w.heap.size]?=some zE from hN w zE);clear hs hout;go_enter Tryz.func12,Tryz.ntmps12
 go_wp2_with fail
 refine HW.out.mono ?_;rintro e w1 ⟨b1,h1⟩;have A1:=Hd ((b1.block _ (by simp)).trans A0.out);have B1:=Hd (((Below.refl _ w).alloc (nl _) zE).trans (b1.mono (by simp)));have HTH:=Hd (Zaf A1.out rfl);cases ho:out with
 | none=>
  rw[ho] at h1;have h1:e=.returned (.tuple #[.agg #[.int .i64 0,.int .i64 0,.string ⟨#[]⟩,.int .i64 0,.slice none 0 0,.slice none 0 0,.slice none 0 0],.bool false]):=h1;subst h1;have HOO:=Hd ho;clear b1 ho;go_wp2_with (first | (refine Zaa rfl 36 (.tmp 2) (.tmp 6) rfl w.heap.size _ rfl rfl HTH.out Zbi (all_oneCell_toArray (by simp[Value.oneCell'])) ?_;intro W9 hW9))
  have e9:W9=putL w1 w.heap.size [.int .i64 0,.int .i64 0,.string ⟨#[]⟩,.int .i64 0,.slice none 0 0,.slice none 0 0,.slice none 0 0]:=hW9.out;have hA9:W9.heap[w.heap.size]?=some (.cells #[.int .i64 0,.int .i64 0,.string ⟨#[]⟩,.int .i64 0,.slice none 0 0,.slice none 0 0,.slice none 0 0] 36 (0,0)):=by rw[e9];exact Zam (vs:=[.int .i64 0,.int .i64 0,.string ⟨#[]⟩,.int .i64 0,.slice none 0 0,.slice none 0 0,.slice none 0 0]) A1.out rfl
  obtain⟨⟨r0,r1,r2,r3,r4,r5,r6⟩,-⟩:=Zai (t:=36) hA9;refine bodyPost_ret (v:=.tuple #[.agg #[.int .i64 0,.int .i64 0,.string ⟨#[]⟩,.int .i64 0,.slice none 0 0,.slice none 0 0,.slice none 0 0],.bool false]) ?_ rfl ⟨?_,?_⟩
  ·simp[results,Tryz.results12,go_sem,r0,r1,r2,r3,r4,r5,r6]
  ·rw[e9];exact Below.putL B1.out (nl _) _
  ·rw[HOO.out];exact rfl
 | some x=>
  rw[ho] at h1;unfold OptV at h1;obtain⟨cs,h1,hcs⟩:=h1;subst h1;have HOO:=Hd ho;obtain⟨ek,ea,en,em,a4,n4,c4,a5,n5,c5,a6,n6,c6,rfl⟩:=ZaT hcs;have C1:=Hd (hcs.mono (A':=fun b=>w.heap.size<b) (fun b _ hb=>by simp at hb;omega));clear b1 ho hcs;go_wp2_with (first | (refine Zaa rfl 36 (.tmp 2) (.tmp 6) rfl w.heap.size _ rfl rfl HTH.out Zbi (all_oneCell_toArray (by simp[Value.oneCell'])) ?_;intro W9 hW9))
  have e9:W9=putL w1 w.heap.size [.int .i64 ek,.int .i64 ea,.string en,.int .i64 em,.slice a4 n4 c4,.slice a5 n5 c5,.slice a6 n6 c6]:=hW9.out;have hA9:W9.heap[w.heap.size]?=some (.cells #[.int .i64 ek,.int .i64 ea,.string en,.int .i64 em,.slice a4 n4 c4,.slice a5 n5 c5,.slice a6 n6 c6] 36 (0,0)):=by rw[e9];exact Zam (vs:=[.int .i64 ek,.int .i64 ea,.string en,.int .i64 em,.slice a4 n4 c4,.slice a5 n5 c5,.slice a6 n6 c6]) A1.out rfl
  obtain⟨⟨r0,r1,r2,r3,r4,r5,r6⟩,-⟩:=Zai (t:=36) hA9;refine bodyPost_ret (v:=.tuple #[.agg #[.int .i64 ek,.int .i64 ea,.string en,.int .i64 em,.slice a4 n4 c4,.slice a5 n5 c5,.slice a6 n6 c6],.bool true]) ?_ rfl ⟨?_,?_⟩
  ·simp[results,Tryz.results12,go_sem,r0,r1,r2,r3,r4,r5,r6]
  ·rw[e9];exact Below.putL B1.out (nl _) _
  ·rw[HOO.out];refine⟨[.int .i64 ek,.int .i64 ea,.string en,.int .i64 em,.slice a4 n4 c4,.slice a5 n5 c5,.slice a6 n6 c6],rfl,?_⟩;rw[e9];exact (C1.out.putL _ (fun b hb=>Nat.ne_of_gt hb) _).mono (fun b _ hb=>Nat.le_of_lt hb)
end Go.Proofs.YtijnjoonbjdafaaGreatDoor

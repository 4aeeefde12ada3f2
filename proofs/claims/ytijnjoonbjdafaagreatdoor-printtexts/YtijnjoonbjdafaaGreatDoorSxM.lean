import Derived.Test.YtijnjoonbjdafaaGreatDoorWhM
import Derived.Lib.QuietBelow
namespace Go.Proofs.YtijnjoonbjdafaaGreatDoor
set_option maxHeartbeats 20000000
set_option maxRecDepth 20000
open Go.RowKit Go.Shelf
theorem ZlW{l:Bs}{L:List (Nat×Nat×Bs)}(h:ZnM l=L):toks l=L.map fun x=>⟨x.1,x.2.1,x.2.2⟩:=by
 rw[←h,←ZlX,List.map_map];exact (List.map_id _).symm.trans (List.map_congr_left fun _ _=>rfl)
theorem Zo0{l:Bs}{L:List (Nat×Nat)}(h:ZnK l=L):dns l=L.map fun x=>⟨x.1,x.2,[]⟩:=by
 rw[←h,←ZlV,List.map_map];rfl
def Zk2 (t:Tk):Bool:=(t.k==2 || t.k==5)&&t.t==[59]
def Qt (t:Tk):Prop:=t.k≠6∧Zk2 t=false
def Eats{α:Type}(ts:List Tk)(x:R α):Prop:=∃p,ts=p++x.rest∧∀t∈p,Qt t
theorem Eats.here{α:Type}{ts:List Tk}{x:R α}(h:x.rest=ts):Eats ts x:=⟨[],by rw[h];rfl,by simp⟩
theorem R.rest_tell{α:Type}(d:List Dn)(x:R α):(x.tell d).rest=x.rest:=by cases x<;>rfl
theorem Eats.tell{α:Type}{ts:List Tk}{x:R α}(h:Eats ts x)(d:List Dn):Eats ts (x.tell d):=by
 obtain⟨p,h1,h2⟩:=h;exact⟨p,by rw[R.rest_tell];exact h1,h2⟩
theorem Eats.more{α:Type}{p ts:List Tk}{x:R α}(h:Eats ts x)(hp:∀t∈p,Qt t):Eats (p++ts) x:=by
 obtain⟨q,h1,h2⟩:=h;refine⟨p++q,by rw[aA,←h1],fun t ht=>?_⟩;rcases List.mem_append.1 ht with ht | ht
 ·exact hp t ht
 ·exact h2 t ht
theorem Eats.bind{α β:Type}{ts:List Tk}{x:R α}{f:α→List Tk→R β}(h:Eats ts x)(hf:∀a r,Eats r (f a r)):Eats ts (x.bind f):=by
 cases x with
 | bad y r d=>exact h
 | ok a r d=>
  obtain⟨p,h1,h2⟩:=h;have h1:ts=p++r:=h1;rw[h1];exact ((hf a r).tell d).more h2
theorem Eats.ok{α:Type}(x:α)(r:List Tk)(d:List Dn):Eats r (R.ok x r d):=.here rfl
theorem Eats.step{α:Type}{ts:List Tk}{x:R α}(h:Eats ts.tail x)(hq:ts≠[]→Qt (hd ts)):Eats ts x:=by
 cases ts with
 | nil=>exact h
 | cons t r=>exact h.more (p:=[t]) (by intro u hu;simp at hu;subst hu;exact hq (by simp))
theorem Zcq{m:Bs}{ts:List Tk}(h:isM m ts=true)(hm:m≠[59]):Qt (hd ts):=by
 simp only[isM,Bool.and_eq_true,Bool.or_eq_true,beq_iff_eq] at h;refine⟨by omega,?_⟩;simp only[Zk2,Bool.and_eq_false_iff]
 right
 rw[h.2]
 simpa using hm
theorem Zg8{ts:List Tk}{k:Nat}(h:(hd ts).k=k)(h6:k≠6∧k≠2∧k≠5):Qt (hd ts):=by
 refine⟨by omega,?_⟩;simp only[Zk2,Bool.and_eq_false_iff,Bool.or_eq_false_iff,beq_eq_false_iff_ne]
 left
 omega
theorem Za7{m:Bs}(hm:m≠[59])(ts:List Tk):Eats ts (want m ts):=by
 unfold want;split
 next h=>exact (Eats.ok _ _ _).step fun _=>Zcq h hm
 ·exact .here rfl
theorem Zbs (ts:List Tk):Eats ts (Zaj ts):=by
 unfold Zaj;split
 next h=>exact (Eats.ok _ _ _).step fun _=>Zg8 h (by omega)
 ·exact .here rfl
theorem Zff{α:Type}{sign:Bs}(hs:sign≠[59]){read:List Tk→R α}(hr:∀ts,Eats ts (read ts)):∀(n:Nat) (seen:List Bs) (acc:List (Bs×α)) (ts:List Tk),Eats ts (ZaA sign read n seen acc ts)
 | 0,_,_,ts=>.here rfl
 | n+1,seen,acc,ts=>by
  unfold ZaA;refine (Zbs ts).bind fun nm r=>Eats.tell ((Za7 hs r).bind fun _ r=>(hr r).bind fun v r=>?_) _
  split
  next h=>exact (Zff hs hr n _ _ _).step fun _=>Zcq h (by decide)
  ·exact (Za7 (by decide) r).bind fun _ r=>Eats.ok _ _ _
theorem ZgS{α:Type}{sign:Bs}(hs:sign≠[59]){read:List Tk→R α}(hr:∀ts,Eats ts (read ts))(ts:List Tk):Eats ts (Zbh sign read ts):=by
 unfold Zbh;split
 next h=>exact (Eats.ok _ _ _).step fun _=>Zcq h (by decide)
 ·exact Zff hs hr _ _ _ _
theorem Zjj{typ:List Tk→R PT}(ht:∀ts,Eats ts (typ ts))(ts:List Tk):Eats ts (Za9 typ ts):=by
 unfold Za9;split
 next h=>exact (Eats.ok _ _ _).step fun _=>Zg8 h (by omega)
 split
 next h=>exact (Eats.ok _ _ _).step fun _=>Zcq h (by decide)
 split
 next h=>exact (Eats.ok _ _ _).step fun _=>Zcq h (by decide)
 split
 next h=>exact (Eats.ok _ _ _).step fun _=>Zcq h (by decide)
 split
 next h=>exact (Eats.ok _ _ _).step fun _=>Zcq h (by decide)
 split
 next h=>exact ((ZgS (by decide) ht _).bind fun _ r=>Eats.ok _ _ _).step fun _=>Zcq h (by decide)
 split
 next h=>exact ((ht _).bind fun t r=>(Za7 (by decide) r).bind fun _ r=>Eats.ok _ _ _).step fun _=>Zcq h (by decide)
 ·exact .here rfl
theorem ZjG{plain arrow:List Tk→R PT}(hp:∀ts,Eats ts (plain ts))(ha:∀ts,Eats ts (arrow ts))(ts:List Tk):Eats ts (Zck plain arrow ts):=by
 unfold Zck;refine (hp ts).bind fun t r=>?_
 split
 next h=>exact ((ha _).bind fun _ r=>Eats.ok _ _ _).step fun _=>Zcq h (by decide)
 ·exact .here rfl
theorem Zfr{arrow:List Tk→R PT}(ha:∀ts,Eats ts (arrow ts)):∀(n:Nat) (acc:List PT) (ts:List Tk),Eats ts (ZaV arrow n acc ts)
 | 0,_,ts=>.here rfl
 | n+1,acc,ts=>by
  unfold ZaV;split
  next h=>exact ((ha _).bind fun _ r=>Zfr ha n _ r).step fun _=>Zcq h (by decide)
  ·exact .here rfl
theorem ZjS{arrow:List Tk→R PT}(ha:∀ts,Eats ts (arrow ts))(ts:List Tk):Eats ts (typP arrow ts):=by
 unfold typP;exact (ha ts).bind fun t r=>(Zfr ha _ _ r).bind fun l r=>Eats.ok _ _ _
theorem Zev:∀n,(∀ts,Eats ts (typ n ts))∧(∀ts,Eats ts (arr n ts))
 | 0=>⟨fun _=>.here rfl,fun _=>.here rfl⟩
 | n+1=>by
  have ih:=Zev n;have ha:∀ts,Eats ts (arr (n+1) ts):=ZjG (Zjj ih.1) ih.2;exact⟨ZjS ha,ha⟩
theorem Zfk{expr:List Tk→R PE}(he:∀ts,Eats ts (expr ts)):∀(n:Nat) (e:PE) (ts:List Tk),Eats ts (ZbD expr n e ts)
 | 0,_,ts=>.here rfl
 | n+1,e,ts=>by
  unfold ZbD;split
  next h=>exact ((he _).bind fun _ r=>(Za7 (by decide) r).bind fun _ r=>Zfk he n _ r).step fun _=>Zcq h (by decide)
  split
  next h=>exact ((Zbs _).bind fun _ r=>Zfk he n _ r).step fun _=>Zcq h (by decide)
  ·exact .here rfl
theorem ZjE{typ:List Tk→R PT}{expr:List Tk→R PE}(ht:∀ts,Eats ts (typ ts))(he:∀ts,Eats ts (expr ts))(ts:List Tk):Eats ts (Za0 typ expr ts):=by
 unfold Za0;split
 next h=>exact (Eats.ok _ _ _).step fun _=>Zg8 h (by omega)
 split
 next h=>exact (Eats.ok _ _ _).step fun _=>Zg8 h (by omega)
 split
 next h=>exact (Eats.ok _ _ _).step fun _=>Zg8 h (by omega)
 split
 next h=>exact (Eats.ok _ _ _).step fun _=>Zcq h (by decide)
 split
 next h=>exact (Eats.ok _ _ _).step fun _=>Zcq h (by decide)
 split
 next h=>exact ((ZgS (by decide) he _).bind fun _ r=>Eats.ok _ _ _).step fun _=>Zcq h (by decide)
 split
 next h=>
  refine Eats.step ((he _).bind fun e r=>?_) fun _=>Zcq h (by decide)
  split
  next h=>exact ((ht _).bind fun t r=>(Za7 (by decide) r).bind fun _ r=>Eats.ok _ _ _).step fun _=>Zcq h (by decide)
  ·exact (Za7 (by decide) r).bind fun _ r=>Eats.ok _ _ _
 ·exact .here rfl
theorem Zli{typ:List Tk→R PT}{expr:List Tk→R PE}(ht:∀ts,Eats ts (typ ts))(he:∀ts,Eats ts (expr ts))(ts:List Tk):Eats ts (ZcI typ expr ts):=by
 unfold ZcI;split
 next h=>exact Eats.step ((Za7 (by decide) _).bind fun _ r=>(Zbs r).bind fun _ r=>(Za7 (by decide) r).bind fun _ r=>(ht r).bind fun _ r=>(Za7 (by decide) r).bind fun _ r=>(he r).bind fun _ r=>Eats.ok _ _ _) fun _=>Zcq h (by decide)
 split
 next h=>exact Eats.step ((Zbs _).bind fun _ r=>(Za7 (by decide) r).bind fun _ r=>(he r).bind fun _ r=>(Za7 (by decide) r).bind fun _ r=>(he r).bind fun _ r=>Eats.ok _ _ _) fun _=>Zcq h (by decide)
 split
 next h=>exact Eats.step ((he _).bind fun _ r=>(Za7 (by decide) r).bind fun _ r=>(he r).bind fun _ r=>(Za7 (by decide) r).bind fun _ r=>(he r).bind fun _ r=>Eats.ok _ _ _) fun _=>Zcq h (by decide)
 ·exact (ZjE ht he ts).bind fun e r=>Zfk he _ _ r
theorem ZeA:∀n ts,Eats ts (exp n ts)
 | 0,_=>.here rfl
 | n+1,ts=>Zli (Zev n).1 (ZeA n) ts
theorem R.bind_assoc{α β γ:Type}(x:R α)(f:α→List Tk→R β)(g:β→List Tk→R γ):(x.bind f).bind g=x.bind fun a r=>(f a r).bind g:=by
 cases x with
 | bad y r d=>rfl
 | ok a r d=>simp only[R.bind_ok,R.bind_tell]
def ZhW (ts:List Tk):R PD:=
 if isM [117,115,101] ts then (Zaj ts.tail).bind fun nm r=>.ok ⟨1,nm.a,nm.t,[],[]⟩ r []
 else if isM [116,121,112,101] ts then (Zaj ts.tail).bind fun nm r=>(want [61] r).bind fun _ r=>(typ 64 r).bind fun t r=>.ok ⟨2,nm.a,nm.t,[t],[]⟩ r []
 else (want [108,101,116] ts).bind fun _ r=>(Zaj r).bind fun nm r=>
  if isM [58] r then (typ 64 r.tail).bind fun t r=>(want [61] r).bind fun _ r=>(exp 64 r).bind fun e r=>.ok ⟨3,nm.a,nm.t,[t],[e]⟩ r []
  else (want [61] r).bind fun _ r=>(exp 64 r).bind fun e r=>.ok ⟨3,nm.a,nm.t,[],[e]⟩ r []
theorem ZfS (ts:List Tk):ZbI ts=(ZhW ts).bind fun d r=>(want [59] r).bind fun _ r=>.ok d r []:=by
 unfold ZbI ZhW;split
 ·simp only[R.bind_assoc,R.bind_ok,R.tell_nil]
 split
 ·simp only[R.bind_assoc,R.bind_ok,R.tell_nil]
 ·simp only[R.bind_assoc]
  congr 1
  funext u r
  congr 1
  funext nm r
  split<;>simp only[R.bind_assoc,R.bind_ok,R.tell_nil]
theorem Zk9 (ts:List Tk):Eats ts (ZhW ts):=by
 have hT:=(Zev 64).1;have hE:=ZeA 64;unfold ZhW;split
 next h=>exact Eats.step ((Zbs _).bind fun _ r=>Eats.ok _ _ _) fun _=>Zcq h (by decide)
 split
 next h=>exact Eats.step ((Zbs _).bind fun _ r=>(Za7 (by decide) r).bind fun _ r=>(hT r).bind fun _ r=>Eats.ok _ _ _) fun _=>Zcq h (by decide)
 ·refine (Za7 (by decide) ts).bind fun _ r=>(Zbs r).bind fun _ r=>?_
  split
  next h=>exact Eats.step ((hT _).bind fun _ r=>(Za7 (by decide) r).bind fun _ r=>(hE r).bind fun _ r=>Eats.ok _ _ _) fun _=>Zcq h (by decide)
  ·exact (Za7 (by decide) r).bind fun _ r=>(hE r).bind fun _ r=>Eats.ok _ _ _
theorem Zdg (ts:List Tk):(∀d r e,ZbI ts=.ok d r e→∃p c,ts=p++c::r∧(∀t∈p,Qt t)∧(isM [59] (c::r)=true∨r=[]))∧(∀y r e,ZbI ts=.bad y r e→∃p,ts=p++r∧∀t∈p,Qt t):=by
 obtain⟨p,h1,h2⟩:=Zk9 ts;rw[ZfS];cases h:ZhW ts with
 | bad y r e=>
  rw[h] at h1;refine⟨fun _ _ _ h=>(by cases h),fun y' r' e' h'=>?_⟩;rw[R.bind_bad] at h';cases h';exact⟨p,h1,h2⟩
 | ok d r e=>
  rw[h] at h1;have h1:ts=p++r:=h1;rw[R.bind_ok];unfold want;split
  next hm=>
   refine⟨fun d' r' e' h'=>?_,fun _ _ _ h=>(by cases h)⟩;cases h';cases r with
   | nil=>simp[isM,hd] at hm
   | cons c r=>exact⟨p,c,h1,h2,.inl hm⟩
  next hm=>
   refine⟨fun _ _ _ h=>(by cases h),fun y' r' e' h'=>?_⟩;cases h';exact⟨p,h1,h2⟩
theorem Eats.le{α:Type}{ts:List Tk}{x:R α}(h:Eats ts x):x.rest.length≤ts.length:=by
 obtain⟨p,h,-⟩:=h;have:=congrArg List.length h;rw[lA] at this;omega
theorem Zgi{m:Bs}{ts:List Tk}(h:isM m ts=true):∃t r,ts=t::r:=by
 cases ts with
 | nil=>simp[isM,hd] at h
 | cons t r=>exact⟨t,r,rfl⟩
theorem Zg9{ts:List Tk}{k:Nat}(h:(hd ts).k=k)(h6:k≠6):∃t r,ts=t::r:=by
 cases ts with
 | nil=>exact absurd h.symm h6
 | cons t r=>exact⟨t,r,rfl⟩
theorem Zj1{ts:List Tk}(h:∃t r,ts=t::r):ts.tail.length<ts.length:=by
 obtain⟨t,r,rfl⟩:=h;simp
theorem ZnD (m:Bs)(ts:List Tk):(∃y r d,want m ts=.bad y r d)∨(want m ts).rest.length<ts.length:=by
 unfold want;split
 next h=>exact .inr (Zj1 (Zgi h))
 ·exact .inl ⟨_,_,_,rfl⟩
theorem Zhr (ts:List Tk):(∃y r d,Zaj ts=.bad y r d)∨(Zaj ts).rest.length<ts.length:=by
 unfold Zaj;split
 next h=>exact .inr (Zj1 (Zg9 h (by decide)))
 ·exact .inl ⟨_,_,_,rfl⟩
section
variable {ts ts' : List Tk}
end
section
variable {ts ts' : List Tk}
end
theorem Zc7{p:UInt8→Bool}{c:UInt8}(hc:p c=false)(b:Bs):∀l:Bs,Zad p (l++c::b)=Zad p l
 | []=>by simp[Zad,hc]
 | x::r=>by simp only[cA,Zad,Zc7 hc b r]
theorem Zcp{p:UInt8→Bool}:∀(t:Bs),(∀c∈t,p c=true)→Zad p t=t.length
 | [],_=>by simp[Zad]
 | x::r,h=>by simp only[Zad,h x (by simp),if_true,Zcp r (fun c hc=>h c (by simp[hc])),lC]
theorem ZeQ{p:UInt8→Bool}:∀(l b:Bs),Zad p l=l.length→Zad p (l++b)=l.length+Zad p b
 | [],b,_=>by simp
 | c::r,b,h=>by
  simp only[cA,Zad,lC] at h⊢;by_cases hc:p c=true
  ·simp only[hc,if_true] at h⊢;rw[ZeQ r b (by omega)];omega
  ·simp[hc] at h
def Pc.up (k:Nat)(x:Pc):Pc:=⟨x.at_+k,x.s⟩
def Tk.pl (φ:Nat→Nat)(t:Tk):Tk:=⟨t.k,φ t.a,t.t⟩
def Dn.pl (φ:Nat→Nat)(d:Dn):Dn:=⟨φ d.a,d.d,d.n⟩
theorem ZeY (k:Nat):∀(N a:Nat) (l:Bs),l.length≤N→Zaq (a+k) l=(Zaq a l).map (Pc.up k)
 | N,a,[],_=>by simp[Zcs]
 | 0,a,c::r,h=>by simp at h
 | N+1,a,c::r,h=>by
  have hn:=ZbS (c::r) (by simp);have ih:=ZeY k N (a+(Zac (c::r)).n) ((c::r).drop (Zac (c::r)).n) (by rw[List.length_drop];omega);rw[Nat.add_right_comm] at ih;by_cases hp:(Zac (c::r)).k≠0∨(Zac (c::r)).d≠0
  ·rw[Zbf (a+k) (c::r) (by simp) hp,Zbf a (c::r) (by simp) hp,ih];rfl
  ·rw[ZbA (a+k) (c::r) (by simp) (by omega) (by omega),ZbA a (c::r) (by simp) (by omega) (by omega),ih]
theorem Zb8 (x:Pc)(l:List Pc):ZaG (x::l)=(if x.s.k=0 then [] else [⟨x.s.k,x.at_,x.s.t⟩])++ZaG l:=by
 unfold ZaG;by_cases h:x.s.k=0<;>simp[h]
theorem Zcu (x:Pc)(l:List Pc):Za2 (x::l)=(if x.s.d=0 then [] else [⟨x.at_,x.s.d⟩])++Za2 l:=by
 unfold Za2;by_cases h:x.s.d=0<;>simp[h]
theorem ZjX (k:Nat)(l:List Pc):ZaG (l.map (Pc.up k))=(ZaG l).map (Tk.pl (·+k)):=by
 induction l with
 | nil=>rfl
 | cons x r ih=>
  rw[List.map_cons,Zb8,Zb8,ih,List.map_append];by_cases h:x.s.k=0<;>simp[h,Pc.up,Tk.pl]
def tk (a:Nat)(l:Bs):List Tk:=ZaG (Zaq a l)
def td (a:Nat)(l:Bs):List Dn:=(Za2 (Zaq a l)).map fun d=>⟨d.a,d.d,[]⟩
theorem ZnL (l:Bs):toks l=tk 0 l++[⟨6,l.length,[]⟩]:=rfl
theorem tk_up (a k:Nat)(l:Bs):tk (a+k) l=(tk a l).map (Tk.pl (·+k)):=by rw[tk,ZeY k l.length a l (nl _),ZjX];rfl
theorem td_up (a k:Nat)(l:Bs):td (a+k) l=(td a l).map (Dn.pl (·+k)):=by
 rw[td,ZeY k l.length a l (nl _),td]
 induction Zaq a l with
 | nil=>rfl
 | cons x r ih=>
  rw[List.map_cons,Zcu,Zcu,List.map_append,ih,List.map_append,List.map_append];by_cases h:x.s.d=0<;>simp[h,Pc.up,Dn.pl]
theorem ZnO (l:Bs):∀t∈tk 0 l,t.k≠6:=fun t ht=>by have:=ZjW l t ht;omega
def brk (c:UInt8):Bool:=!ZaH c&&c !=62
theorem Zek{c:UInt8}(hc:Zav c=true)(a:Nat)(rest:Bs):Zaq a (c::rest)=Zaq (a+1) rest:=by
 have h:=ZcK c rest (.inl hc);rw[ZbA a (c::rest) (by simp) h.1 h.2];have e:(Zac (c::rest)).n=1:=by simp[Zac,hc]
 rw[e];rfl
theorem sg_not (c:UInt8):isSg c=true→Zav c=false∧c≠35∧ZaC c=false∧ZaD c=false∧c≠34∧c≠45:=by
 have:=Zc6 (fun c=>!isSg c || (!Zav c&&c !=35&&!ZaC c&&!ZaD c&&c !=34&&c !=45)) (by decide +kernel) c;simp at this;intro h;simp[h] at this;exact⟨this.1.1.1.1.1,this.1.1.1.1.2,this.1.1.1.2,this.1.1.2,this.1.2,this.2⟩
theorem ZeZ{c:UInt8}(hc:isSg c=true)(a:Nat)(rest:Bs):Zaq a (c::rest)=⟨a,⟨1,5,[c],0⟩⟩::Zaq (a+1) rest:=by
 obtain⟨h1,h2,h3,h4,h5,h6⟩:=sg_not c hc;have hs:Zac (c::rest)=⟨1,5,[c],0⟩:=by
  simp only[Zac,h1,h2,h3,h4,h5,h6,hc,ff,if_false,if_true,false_and]
 rw[Zbf a (c::rest) (by simp) (by rw[hs];simp),hs];rfl
theorem ZlY{c:UInt8}(hc:Zav c=true)(a:Nat)(rest:Bs):tk a (c::rest)=tk (a+1) rest:=by rw[tk,Zek hc];rfl
theorem ZlZ{c:UInt8}(hc:Zav c=true)(a:Nat)(rest:Bs):td a (c::rest)=td (a+1) rest:=by rw[td,Zek hc];rfl
theorem ZnN{c:UInt8}(hc:isSg c=true)(a:Nat)(rest:Bs):tk a (c::rest)=⟨5,a,[c]⟩::tk (a+1) rest:=by rw[tk,ZeZ hc,Zb8];rfl
theorem ZnP{c:UInt8}(hc:isSg c=true)(a:Nat)(rest:Bs):td a (c::rest)=td (a+1) rest:=by rw[td,ZeZ hc,Zcu];rfl
mutual
def PE.pl (φ:Nat→Nat):PE→PE
 | .mk k a n m ns l ts=>.mk k (φ a) n m ns (PE.pls φ l) ts
def PE.pls (φ:Nat→Nat):List PE→List PE
 | []=>[]
 | x::r=>PE.pl φ x::PE.pls φ r
end
theorem ZkD (φ:Nat→Nat):∀l,PE.pls φ l=l.map (PE.pl φ)
 | []=>by rw[PE.pls];rfl
 | x::r=>by rw[PE.pls,ZkD φ r];rfl
def PD.pl (φ:Nat→Nat)(d:PD):PD:=⟨d.k,φ d.a,d.n,d.ts,PE.pls φ d.es⟩
section
variable {φ : Nat → Nat}
theorem isM_6{m:Bs}{ts:List Tk}(h:isM m ts=true):(hd ts).k≠6:=by
 simp only[isM,Bool.and_eq_true,Bool.or_eq_true,beq_iff_eq] at h;omega
end
theorem Zon:∀r:List Tk,(Za4 r).length≤r.length
 | []=>nl _
 | t::r=>by
  simp only[Za4];split
  ·exact nl _
  split
  ·simp
  ·have:=Zon r;simp only[lC];omega
theorem Ze1{n:Nat}{ts:List Tk}(h:(hd ts).k=6):ZaO n ts=([],[]):=by
 cases n with
 | zero=>rfl
 | succ n=>rw[ZaO,if_pos h]
section
variable {ts ts' : List Tk}
end
mutual
def szT:PT→Nat
 | .mk _ _ ns l=>1+ns.length+szTs l
def szTs:List PT→Nat
 | []=>0
 | t::r=>szT t+szTs r
end
mutual
def szE:PE→Nat
 | .mk _ _ _ _ ns l ts=>1+ns.length+szEs l+szTs ts
def szEs:List PE→Nat
 | []=>0
 | t::r=>szE t+szEs r
end
def szD (d:PD):Nat:=1+szEs d.es+szTs d.ts
def szDs (l:List PD):Nat:=(l.map szD).sum
theorem ZnS (t:PT):1≤szT t:=by cases t;rw[szT];omega
theorem ZnT (t:PE):1≤szE t:=by cases t;rw[szE];omega
theorem Zig:∀l,l.length≤szTs l
 | []=>nl _
 | t::r=>by have:=Zig r;have:=ZnS t;rw[szTs,lC];omega
theorem Zih:∀l,l.length≤szEs l
 | []=>nl _
 | t::r=>by have:=Zih r;have:=ZnT t;rw[szEs,lC];omega
theorem ZeO:∀l m,szTs (l++m)=szTs l+szTs m
 | [],m=>by simp[szTs]
 | t::r,m=>by rw[cA,szTs,szTs,ZeO r m];omega
theorem Zeo:∀(l:List PT) (i:Nat) (t:PT),l[i]?=some t→szT t≤szTs l
 | [],i,t,h=>by simp at h
 | x::r,0,t,h=>by simp at h;subst h;rw[szTs];omega
 | x::r,i+1,t,h=>by have:=Zeo r i t (by simpa using h);rw[szTs];omega
theorem ZfZ:∀(l:List PE) (i:Nat) (t:PE),l[i]?=some t→szE t≤szEs l
 | [],i,t,h=>by simp at h
 | x::r,0,t,h=>by simp at h;subst h;rw[szEs];omega
 | x::r,i+1,t,h=>by have:=ZfZ r i t (by simpa using h);rw[szEs];omega
theorem Zii:∀(l:List PD) (i:Nat) (t:PD),l[i]?=some t→szD t≤szDs l
 | [],i,t,h=>by simp at h
 | x::r,0,t,h=>by simp at h;subst h;simp[szDs]
 | x::r,i+1,t,h=>by have:=Zii r i t (by simpa using h);simp[szDs] at *;omega
theorem ZdL:∀l,l.length≤szDs l
 | []=>nl _
 | t::r=>by have:=ZdL r;simp[szDs,szD] at *;omega
def Sb{α:Type}(n:Nat)(m:α→Nat)(x:R α):Prop:=∀a r d,x=.ok a r d→m a+r.length≤n
theorem Sb.tell{α:Type}{n:Nat}{m:α→Nat}{x:R α}(h:Sb n m x)(d:List Dn):Sb n m (x.tell d):=by
 intro a r e he;cases x with
 | bad y r' d'=>cases he
 | ok a' r' d'=>injection he with h1 h2 h3;subst h1 h2;exact h _ _ _ rfl
theorem Sb.bind{α β:Type}{n n':Nat}{m:α→Nat}{m':β→Nat}{x:R α}{f:α→List Tk→R β}(h:Sb n m x)(hf:∀a r,m a+r.length≤n→Sb n' m' (f a r)):Sb n' m' (x.bind f):=by
 cases x with
 | bad y r d=>intro _ _ _ e;cases e
 | ok a r d=>exact (hf a r (h _ _ _ rfl)).tell d
theorem Sb.ok{α:Type}{n:Nat}{m:α→Nat}{a:α}{r:List Tk}{d:List Dn}(h:m a+r.length≤n):Sb n m (.ok a r d):=by
 intro _ _ _ e;injection e with h1 h2 h3;subst h1 h2;exact h
theorem Sb.bad{α:Type}{n:Nat}{m:α→Nat}{y:Dn}{r:List Tk}{d:List Dn}:Sb n m (.bad y r d:R α):=by intro _ _ _ e;cases e
theorem Zfu{ts:List Tk}(h:(hd ts).k≠6):ts.tail.length+1=ts.length:=by
 cases ts with
 | nil=>exact absurd rfl h
 | cons t r=>rfl
theorem Zbr{m:Bs}{ts:List Tk}(h:isM m ts=true):ts.tail.length+1=ts.length:=Zfu (isM_6 h)
theorem ZbB (m:Bs)(ts:List Tk):Sb ts.length (fun _=>1) (want m ts):=by
 unfold want;split
 next h=>exact .ok (by have:=Zbr h;omega)
 ·exact .bad
theorem ZdD (ts:List Tk):Sb ts.length (fun _=>1) (Zaj ts):=by
 unfold Zaj;split
 next h=>exact .ok (by have:=Zfu (ts:=ts) (by omega);omega)
 ·exact .bad
def sF{α:Type}(m:α→Nat)(l:List (Bs×α)):Nat:=(l.map fun x=>m x.2+1).sum
theorem Zkg{α:Type}(m:α→Nat)(l k:List (Bs×α)):sF m (l++k)=sF m l+sF m k:=by simp[sF]
theorem Znj{α:Type}(m:α→Nat)(x:Bs×α):∀l,sF m (insF x l)=m x.2+1+sF m l
 | []=>by simp[insF,sF]
 | y::r=>by
  rw[insF];split
  ·have:=Znj m x r;simp only[sF,List.map_cons,List.sum_cons] at this⊢;omega
  ·simp[sF]
theorem Zkf{α:Type}(m:α→Nat):∀l:List (Bs×α),sF m (Zb1 l)=sF m l
 | []=>rfl
 | x::r=>by rw[Zb1,Znj,Zkf m r];simp[sF]
theorem sF_T:∀l:List (Bs×PT),szTs (l.map (·.2))+l.length=sF szT l
 | []=>rfl
 | x::r=>by have:=sF_T r;simp only[List.map_cons,szTs,sF,List.sum_cons,lC] at this⊢;omega
theorem sF_E:∀l:List (Bs×PE),szEs (l.map (·.2))+l.length=sF szE l
 | []=>rfl
 | x::r=>by have:=sF_E r;simp only[List.map_cons,szEs,sF,List.sum_cons,lC] at this⊢;omega
theorem Zhg{α:Type}(m:α→Nat)(sign:Bs)(read:List Tk→R α)(hr:∀ts,Sb ts.length m (read ts)):∀(n:Nat) (seen:List Bs) (acc:List (Bs×α)) (ts:List Tk),Sb (ts.length+sF m acc) (sF m) (ZaA sign read n seen acc ts)
 | 0,_,acc,ts=>.ok (by omega)
 | n+1,seen,acc,ts=>by
  unfold ZaA;refine (ZdD ts).bind fun nm r h1=>Sb.tell ((ZbB sign r).bind fun _ r h2=>(hr r).bind fun v r h3=>?_) _
  have ha:sF m (if nm.t∈seen then acc else acc++[(nm.t,v)])≤sF m acc+(m v+1):=by
   split
   ·omega
   ·rw[Zkg];simp[sF]
  split
  next hm=>
   have:=Zbr hm;intro a r' d e;have:=Zhg m sign read hr n _ _ _ a r' d e;omega
  ·refine (ZbB _ r).bind fun _ r h4=>.ok ?_
   omega
theorem Zks{α:Type}(m:α→Nat)(sign:Bs)(read:List Tk→R α)(hr:∀ts,Sb ts.length m (read ts))(ts:List Tk):Sb ts.length (sF m) (Zbh sign read ts):=by
 unfold Zbh;split
 next h=>exact .ok (by have:=Zbr h;simp only[sF,List.map_nil,List.sum_nil];omega)
 ·intro a r d e;have:=Zhg m sign read hr _ _ _ _ a r d e
  simpa[sF] using this
theorem Zmn (ty:List Tk→R PT)(ht:∀ts,Sb ts.length szT (ty ts))(ts:List Tk):Sb ts.length szT (Za9 ty ts):=by
 unfold Za9;split
 next h=>exact .ok (by have:=Zfu (ts:=ts) (by omega);simp[szT,szTs];omega)
 split
 next h=>exact .ok (by have:=Zbr h;simp[tInt,szT,szTs];omega)
 split
 next h=>exact .ok (by have:=Zbr h;simp[ZgI,szT,szTs];omega)
 split
 next h=>exact .ok (by have:=Zbr h;simp[Zj2,szT,szTs];omega)
 split
 next h=>exact .ok (by have:=Zbr h;simp[tDyn,szT,szTs];omega)
 split
 next h=>exact (Zks szT _ _ ht _).bind fun fs r h1=>.ok (by have:=Zbr h;have h2:=sF_T (Zb1 fs);rw[Zkf] at h2;rw[recT,szT,List.length_map];omega)
 split
 next h=>exact (ht _).bind fun t r h1=>(ZbB _ r).bind fun _ r h2=>.ok (by have:=Zbr h;omega)
 ·exact .bad
theorem Znf (pl ar:List Tk→R PT)(hp:∀ts,Sb ts.length szT (pl ts))(ha:∀ts,Sb ts.length szT (ar ts))(ts:List Tk):Sb ts.length szT (Zck pl ar ts):=by
 unfold Zck;refine (hp ts).bind fun t r h1=>?_
 split
 next h=>exact (ha _).bind fun u r h2=>.ok (by have:=Zbr h;simp[szT,szTs];omega)
 ·exact .ok h1
theorem Zib (ar:List Tk→R PT)(ha:∀ts,Sb ts.length szT (ar ts)):∀(n:Nat) (acc:List PT) (ts:List Tk),Sb (ts.length+szTs acc+acc.length) (fun l=>szTs l+l.length) (ZaV ar n acc ts)
 | 0,acc,ts=>.ok (by omega)
 | n+1,acc,ts=>by
  unfold ZaV;split
  next h=>
   refine (ha _).bind fun t r h1=>?_
   intro a r' d e;have h2:szTs a+a.length+r'.length≤r.length+szTs (acc++[t])+(acc++[t]).length:=Zib ar ha n _ _ a r' d e;have:=Zbr h;show szTs a+a.length+r'.length≤_;simp only[ZeO,szTs,lA,lC,lN] at h2;omega
  ·exact .ok (by omega)
theorem ZoI (l:List PT):szT (Zeb l)≤szTs l+l.length-1∨l.length=0:=by
 match l with
 | []=>right;rfl
 | [t]=>left;simp[Zeb,szTs]
 | t::u::r=>left;simp only[Zeb,szT,lC,lN];omega
theorem ZeG (ar:List Tk→R PT):∀(n:Nat) (acc:List PT) (ts:List Tk) (l:List PT) (r:List Tk) (d:List Dn),ZaV ar n acc ts=.ok l r d→acc.length≤l.length
 | 0,acc,ts,l,r,d,h=>by injection h with h1;subst h1;exact nl _
 | n+1,acc,ts,l,r,d,h=>by
  unfold ZaV at h;split at h
  ·cases ha:ar ts.tail with
   | bad y r' d'=>rw[ha] at h;cases h
   | ok t r' d'=>
    rw[ha,R.bind_ok] at h;cases hu:ZaV ar n (acc++[t]) r' with
    | bad y r2 d2=>rw[hu] at h;cases h
    | ok l2 r2 d2=>
     rw[hu] at h;injection h with h1
     subst h1;have:=ZeG ar n _ _ _ _ _ hu;simp at this;omega
  ·injection h with h1;subst h1;exact nl _
theorem ZnH (ar:List Tk→R PT)(ha:∀ts,Sb ts.length szT (ar ts))(ts:List Tk):Sb ts.length szT (typP ar ts):=by
 unfold typP;refine (ha ts).bind fun t r h1=>?_
 cases hu:ZaV ar r.length [t] r with
 | bad y r' d'=>exact .bad
 | ok l r' d'=>
  have h2:=Zib ar ha _ _ _ l r' d' hu;have h3:=ZeG ar _ _ _ _ _ _ hu;have h4:=ZoI l;refine Sb.tell (.ok ?_) d';simp[szTs] at h2 h3;omega
theorem ZiG:∀n,(∀ts,Sb ts.length szT (typ n ts))∧(∀ts,Sb ts.length szT (arr n ts))
 | 0=>⟨fun _=>.bad,fun _=>.bad⟩
 | n+1=>by
  have ih:=ZiG n;have ha:∀ts,Sb ts.length szT (arr (n+1) ts):=Znf _ _ (Zmn _ ih.1) ih.2;exact⟨ZnH _ ha,ha⟩
theorem Zh4 (ex:List Tk→R PE)(he:∀ts,Sb ts.length szE (ex ts)):∀(n:Nat) (e:PE) (ts:List Tk),Sb (ts.length+szE e) szE (ZbD ex n e ts)
 | 0,e,ts=>.ok (by omega)
 | n+1,e,ts=>by
  unfold ZbD;split
  next h=>
   refine (he _).bind fun g r h1=>(ZbB _ r).bind fun _ r h2=>?_
   intro a r' d ee;have h3:=Zh4 ex he n _ _ a r' d ee;have:=Zbr h;simp[szE,szEs,szTs] at h3;omega
  split
  next h=>
   refine (ZdD _).bind fun nm r h1=>?_
   intro a r' d ee;have h3:=Zh4 ex he n _ _ a r' d ee;have:=Zbr h;simp[szE,szEs,szTs] at h3;omega
  ·exact .ok (by omega)
theorem Znb (ty:List Tk→R PT)(ex:List Tk→R PE)(ht:∀ts,Sb ts.length szT (ty ts))(he:∀ts,Sb ts.length szE (ex ts))(ts:List Tk):Sb ts.length szE (Za0 ty ex ts):=by
 unfold Za0;split
 next h=>exact .ok (by have:=Zfu (ts:=ts) (by omega);simp[szE,szEs,szTs];omega)
 split
 next h=>exact .ok (by have:=Zfu (ts:=ts) (by omega);simp[szE,szEs,szTs];omega)
 split
 next h=>exact .ok (by have:=Zfu (ts:=ts) (by omega);simp[szE,szEs,szTs];omega)
 split
 next h=>exact .ok (by have:=Zbr h;simp[szE,szEs,szTs];omega)
 split
 next h=>exact .ok (by have:=Zbr h;simp[szE,szEs,szTs];omega)
 split
 next h=>exact (Zks szE _ _ he _).bind fun fs r h1=>.ok (by have:=Zbr h;have h2:=sF_E fs;rw[recE,szE,List.length_map,szTs];omega)
 split
 next h=>
  refine (he _).bind fun e r h1=>?_
  have:=Zbr h;split
  next h2=>exact (ht _).bind fun t r h3=>(ZbB _ r).bind fun _ r h4=>.ok (by have:=Zbr h2;simp[szE,szEs,szTs];omega)
  ·exact (ZbB _ r).bind fun _ r h4=>.ok (by omega)
 ·exact .bad
theorem ZoY (ty:List Tk→R PT)(ex:List Tk→R PE)(ht:∀ts,Sb ts.length szT (ty ts))(he:∀ts,Sb ts.length szE (ex ts))(ts:List Tk):Sb ts.length szE (ZcI ty ex ts):=by
 unfold ZcI;split
 next h=>
  unfold funP;have:=Zbr h;exact (ZbB _ _).bind fun _ r h1=>(ZdD r).bind fun _ r h2=>(ZbB _ r).bind fun _ r h3=>(ht r).bind fun t r h4=>(ZbB _ r).bind fun _ r h5=>(he r).bind fun e r h6=>.ok (by simp[szE,szEs,szTs];omega)
 split
 next h=>
  unfold letP;have:=Zbr h;exact (ZdD _).bind fun _ r h1=>(ZbB _ r).bind fun _ r h2=>(he r).bind fun _ r h3=>(ZbB _ r).bind fun _ r h4=>(he r).bind fun _ r h5=>.ok (by simp[szE,szEs,szTs];omega)
 split
 next h=>
  unfold ifP;have:=Zbr h;exact (he _).bind fun _ r h1=>(ZbB _ r).bind fun _ r h2=>(he r).bind fun _ r h3=>(ZbB _ r).bind fun _ r h4=>(he r).bind fun _ r h5=>.ok (by simp[szE,szEs,szTs];omega)
 ·refine (Znb ty ex ht he ts).bind fun e r h1=>?_
  intro a r' d ee;have:=Zh4 ex he _ _ _ a r' d ee;omega
theorem Zll:∀n ts,Sb ts.length szE (exp n ts)
 | 0,_=>.bad
 | n+1,ts=>ZoY _ _ (ZiG n).1 (Zll n) ts
theorem ZoS (ts:List Tk):Sb ts.length szD (ZhW ts):=by
 have hT:=(ZiG 64).1;have hE:=Zll 64;unfold ZhW;split
 next h=>exact (ZdD _).bind fun _ r h1=>.ok (by have:=Zbr h;simp[szD,szEs,szTs];omega)
 split
 next h=>exact (ZdD _).bind fun _ r h1=>(ZbB _ r).bind fun _ r h2=>(hT r).bind fun _ r h3=>.ok (by have:=Zbr h;simp[szD,szEs,szTs];omega)
 ·refine (ZbB _ ts).bind fun _ r h1=>(ZdD r).bind fun _ r h2=>?_
  split
  next h=>exact (hT _).bind fun _ r h3=>(ZbB _ r).bind fun _ r h4=>(hE r).bind fun _ r h5=>.ok (by have:=Zbr h;simp[szD,szEs,szTs];omega)
  ·exact (ZbB _ r).bind fun _ r h4=>(hE r).bind fun _ r h5=>.ok (by simp[szD,szEs,szTs];omega)
theorem Zlu (ts:List Tk):Sb ts.length szD (ZbI ts):=by
 rw[ZfS];exact (ZoS ts).bind fun d r h1=>(ZbB _ r).bind fun _ r h2=>.ok (by omega)
theorem ZgZ:∀r:List Tk,(Za4 r).length≤r.length
 | []=>nl _
 | t::r=>by
  simp only[Za4];split
  ·exact nl _
  split
  ·simp
  ·have:=ZgZ r;simp only[lC];omega
theorem Zga:∀(n:Nat) (ts:List Tk),szDs (ZaO n ts).1≤ts.length
 | 0,ts=>Nat.zero_le _
 | n+1,ts=>by
  unfold ZaO;split
  ·exact Nat.zero_le _
  ·have hs:=Zlu ts;have he:=(Zdg ts).2;cases hd:ZbI ts with
   | ok d r e=>
    have h1:=hs _ _ _ hd;have h2:=Zga n r;simp[szDs] at *;omega
   | bad y r e=>
    obtain⟨p,h1,-⟩:=he _ _ _ hd;have h2:=Zga n (Za4 r);have h3:=ZgZ r;have h4:r.length≤ts.length:=by rw[h1];simp
    simp only;omega
theorem all_sb (l:Bs):szDs (Zbt l).1≤l.length+1:=Nat.le_trans (Zga _ _) (Zco l)
theorem Zh5{w w' w'':World}{row:Option Nat}(h:Below w.heap.size w w')(hg:w'.grownBy w'' row)(hr:∀b,row=some b→w.heap.size≤b):Below w.heap.size w w'':=
 ⟨hg.os.trans h.os,hg.tape.trans h.tape,hg.output.trans h.output,Nat.le_trans h.size hg.size,fun k hk=>(hg.block k (ll hk h.size) (fun e=>by have:=hr k e.symm;omega)).trans (h.block k hk)⟩
theorem ZcX (e f:TypeId)(d:PD):(encD e f d).length=5:=rfl
theorem Zm1{e f:TypeId}{A:Nat→Prop}{w:World}{d:PD}{cs:List Value}(h:IsCs A w (encD e f d) cs):∃v3 v4,cs=[.int .i64 d.k,.int .i64 d.a,.string ⟨d.n.toArray⟩,v3,v4]∧IsC A w (.row e 4 d.ts.length (Zau e d.ts)) v3∧IsC A w (.row f 7 d.es.length (Zaw e f d.es)) v4:=by
 rw[encD] at h;obtain⟨x0,ys,rfl,k0,h⟩:=h.uncons;obtain⟨x1,ys,rfl,k1,h⟩:=h.uncons;obtain⟨x2,ys,rfl,k2,h⟩:=h.uncons;obtain⟨x3,ys,rfl,k3,h⟩:=h.uncons;obtain⟨x4,ys,rfl,k4,h⟩:=h.uncons;simp only[IsC] at k0 k1 k2;obtain rfl:ys=[]:=by simpa only[IsCs] using h
 subst k0 k1 k2;exact⟨x3,x4,rfl,k3,k4⟩
def Tells (w:World)(e:Ending)(w':World):Prop:=e=.returned (.bool true)∧Below w.heap.size w w'
theorem four{A:Nat→Prop}{w:World}{t:PT}{e:TypeId}{cs:List Value}(h:IsCs A w (encT e t) cs):∃x0 x1 x2 x3,cs=[x0,x1,x2,x3]:=by
 have:=IsCs.length _ _ h;rw[Zas] at this
 match cs,this with
 | [x0,x1,x2,x3],_=>exact⟨x0,x1,x2,x3,rfl⟩
open Go.RowKit Go.Shelf Go.Sort
end Go.Proofs.YtijnjoonbjdafaaGreatDoor

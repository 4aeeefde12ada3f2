import Derived.Test.YtijnjoonbjdafaaGreatDoorPrM
import Derived.Laws.IdiomStrings
import Derived.Deep.Cut
namespace Go.Proofs.YtijnjoonbjdafaaGreatDoor
set_option maxHeartbeats 20000000
set_option maxRecDepth 20000
inductive WT:PT→Prop
 | mk {k:Nat}{n:Bs}{ns:List Bs}{l:List PT}(hk:1≤k∧k≤8) (h5:k=5→ns.length=l.length) (h6:k=6→l.length=2) (h7:k=7→2≤l.length) (h0:k≠5→k≠6→k≠7→l=[]) (hn:k≠5→ns=[]) (h8:k≠8→n=[]) (hl:∀x∈l,WT x):WT (.mk k n ns l)
def needE (k:Nat):Nat:=if k=6∨k=8∨k=11 then 1 else if k=7∨k=9 then 2 else if k=10 then 3 else 0
inductive WE:PE→Prop
 | mk {k a:Nat}{n:Bs}{m:Nat}{ns:List Bs}{l:List PE}{ts:List PT}(hk:1≤k∧k≤11) (h5:k=5→ns.length=l.length) (hNq:needE k≤l.length) (hT:k=8∨k=11→1≤ts.length) (hl:∀x∈l,WE x) (ht:∀x∈ts,WT x):WE (.mk k a n m ns l ts)
structure WD (d:PD):Prop where
 kind:d.k=1∨d.k=2∨d.k=3
 two:d.k=2→1≤d.ts.length
 three:d.k=3→1≤d.es.length
 ts:∀t∈d.ts,WT t
 es:∀e∈d.es,WE e
def Sh{α:Type}(P:α→Prop)(x:R α):Prop:=∀a r d,x=.ok a r d→P a
theorem Sh.tell{α:Type}{P:α→Prop}{x:R α}(h:Sh P x)(d:List Dn):Sh P (x.tell d):=by
 intro a r e he;cases x with
 | bad y r' d'=>cases he
 | ok a' r' d'=>injection he with h1 h2 h3;subst h1 h2;exact h _ _ _ rfl
theorem Sh.bind{α β:Type}{P:α→Prop}{P':β→Prop}{x:R α}{f:α→List Tk→R β}(h:Sh P x)(hf:∀a r,P a→Sh P' (f a r)):Sh P' (x.bind f):=by
 cases x with
 | bad y r d=>intro _ _ _ e;cases e
 | ok a r d=>exact (hf a r (h _ _ _ rfl)).tell d
theorem Sh.any{α:Type}(x:R α):Sh (fun _=>True) x:=fun _ _ _ _=>trivial
theorem Sh.ok{α:Type}{P:α→Prop}{a:α}{r:List Tk}{d:List Dn}(h:P a):Sh P (.ok a r d):=by
 intro _ _ _ e;injection e with h1 h2 h3;subst h1 h2;exact h
theorem Sh.bad{α:Type}{P:α→Prop}{y:Dn}{r:List Tk}{d:List Dn}:Sh P (.bad y r d:R α):=by intro _ _ _ e;cases e
def FsP{α:Type}(P:α→Prop)(l:List (Bs×α)):Prop:=∀x∈l,P x.2
theorem Zhf{α:Type}(P:α→Prop)(sign:Bs)(read:List Tk→R α)(hr:∀ts,Sh P (read ts)):∀(n:Nat) (seen:List Bs) (acc:List (Bs×α)) (ts:List Tk),FsP P acc→Sh (FsP P) (ZaA sign read n seen acc ts)
 | 0,_,acc,ts,h=>.ok h
 | n+1,seen,acc,ts,h=>by
  unfold ZaA;refine (Sh.any _).bind fun nm r _=>Sh.tell ((Sh.any _).bind fun _ r _=>(hr r).bind fun v r h3=>?_) _
  have ha:FsP P (if nm.t∈seen then acc else acc++[(nm.t,v)]):=by
   split
   ·exact h
   ·intro x hx;rcases List.mem_append.1 hx with hx | hx
    ·exact h x hx
    ·rw[List.mem_singleton.1 hx];exact h3
  split
  ·exact Zhf P sign read hr n _ _ _ ha
  ·exact (Sh.any _).bind fun _ r _=>.ok ha
theorem Zkr{α:Type}(P:α→Prop)(sign:Bs)(read:List Tk→R α)(hr:∀ts,Sh P (read ts))(ts:List Tk):Sh (FsP P) (Zbh sign read ts):=by
 unfold Zbh;split
 ·exact .ok (by intro x hx;cases hx)
 ·exact Zhf P sign read hr _ _ _ _ (by intro x hx;cases hx)
theorem ZiC{α:Type}{x y:Bs×α}:∀{l:List (Bs×α)},y∈insF x l→y=x∨y∈l
 | [],h=>by simpa[insF] using h
 | z::r,h=>by
  rw[insF] at h;split at h
  ·rcases List.mem_cons.1 h with rfl | h
   ·exact .inr (by simp)
   ·rcases ZiC h with h | h
    ·exact .inl h
    ·exact .inr (by simp[h])
  ·rcases List.mem_cons.1 h with rfl | h
   ·exact .inl rfl
   ·exact .inr h
theorem Zg4{α:Type}{y:Bs×α}:∀{l:List (Bs×α)},y∈Zb1 l→y∈l
 | [],h=>by simp[Zb1] at h
 | x::r,h=>by
  rcases ZiC h with rfl | h
  ·simp
  ·exact List.mem_cons_of_mem _ (Zg4 h)
theorem ZfT{k:Nat}(hk:k=1∨k=2∨k=3∨k=4):WT (.mk k [] [] []):=.mk (by omega) (by omega) (by omega) (by omega) (fun _ _ _=>rfl) (fun _=>rfl) (fun _=>rfl) (by intro _ h;cases h)
theorem wt_rec{fs:List (Bs×PT)}(h:FsP WT fs):WT (recT fs):=.mk (by omega) (fun _=>by simp) (by omega) (by omega) (fun h=>absurd rfl h) (fun h=>absurd rfl h) (fun _=>rfl) (by
 intro x hx;obtain⟨y,hy,rfl⟩:=List.mem_map.1 hx;exact h y (Zg4 hy))
theorem Zmm (ty:List Tk→R PT)(ht:∀ts,Sh WT (ty ts))(ts:List Tk):Sh WT (Za9 ty ts):=by
 unfold Za9;split
 ·exact .ok (.mk (by omega) (by omega) (by omega) (by omega) (fun _ _ _=>rfl) (fun _=>rfl) (fun h=>absurd rfl h) (by intro _ h;cases h))
 split
 ·exact .ok (ZfT (by omega))
 split
 ·exact .ok (ZfT (by omega))
 split
 ·exact .ok (ZfT (by omega))
 split
 ·exact .ok (ZfT (by omega))
 split
 ·exact (Zkr WT _ _ ht _).bind fun fs r h1=>.ok (wt_rec h1)
 split
 ·exact (ht _).bind fun t r h1=>(Sh.any _).bind fun _ r _=>.ok h1
 ·exact .bad
theorem Zne (pl ar:List Tk→R PT)(hp:∀ts,Sh WT (pl ts))(ha:∀ts,Sh WT (ar ts))(ts:List Tk):Sh WT (Zck pl ar ts):=by
 unfold Zck;refine (hp ts).bind fun t r h1=>?_
 split
 ·exact (ha _).bind fun u r h2=>.ok (.mk (by omega) (by omega) (fun _=>rfl) (by omega) (fun _ h=>absurd rfl h) (fun _=>rfl) (fun _=>rfl) (by intro x hx;simp at hx;rcases hx with rfl | rfl;exact h1;exact h2))
 ·exact .ok h1
theorem Zia (ar:List Tk→R PT)(ha:∀ts,Sh WT (ar ts)):∀(n:Nat) (acc:List PT) (ts:List Tk),(∀x∈acc,WT x)∧1≤acc.length→Sh (fun l=>(∀x∈l,WT x)∧1≤l.length) (ZaV ar n acc ts)
 | 0,acc,ts,h=>.ok h
 | n+1,acc,ts,h=>by
  unfold ZaV;split
  ·refine (ha _).bind fun t r h1=>Zia ar ha n _ _ ⟨?_,by simp⟩
   intro x hx;rcases List.mem_append.1 hx with hx | hx
   ·exact h.1 x hx
   ·rw[List.mem_singleton.1 hx];exact h1
  ·exact .ok h
theorem ZoJ{l:List PT}(h:(∀x∈l,WT x)∧1≤l.length):WT (Zeb l):=by
 match l with
 | []=>exact absurd h.2 (by simp)
 | [t]=>exact h.1 t (by simp)
 | t::u::r=>exact .mk (by omega) (by omega) (by omega) (fun _=>by simp) (fun _ _ h=>absurd rfl h) (fun _=>rfl) (fun _=>rfl) h.1
theorem ZnG (ar:List Tk→R PT)(ha:∀ts,Sh WT (ar ts))(ts:List Tk):Sh WT (typP ar ts):=
 (ha ts).bind fun _ r h1=>(Zia ar ha _ _ r ⟨by simpa using h1,by simp⟩).bind fun _ _ h2=>.ok (ZoJ h2)
theorem ZiF:∀n,(∀ts,Sh WT (typ n ts))∧(∀ts,Sh WT (arr n ts))
 | 0=>⟨fun _=>.bad,fun _=>.bad⟩
 | n+1=>by
  have ih:=ZiF n;have ha:∀ts,Sh WT (arr (n+1) ts):=Zne _ _ (Zmm _ ih.1) ih.2;exact⟨ZnG _ ha,ha⟩
theorem ZeC{k a m:Nat}{n:Bs}(hk:k=1∨k=2∨k=3∨k=4):WE (.mk k a n m [] [] []):=.mk (by omega) (fun _=>rfl) (by rcases hk with rfl | rfl | rfl | rfl<;>exact nl _) (by omega) (by intro _ h;cases h) (by intro _ h;cases h)
theorem Zh3 (ex:List Tk→R PE)(he:∀ts,Sh WE (ex ts)):∀(n:Nat) (e:PE) (ts:List Tk),WE e→Sh WE (ZbD ex n e ts)
 | 0,e,ts,h=>.ok h
 | n+1,e,ts,h=>by
  unfold ZbD;split
  ·exact (he _).bind fun g r h1=>(Sh.any _).bind fun _ r _=>Zh3 ex he n _ _ (.mk (by omega) (by omega) (nl _) (by omega) (by intro x hx;simp at hx;rcases hx with rfl | rfl;exact h;exact h1) (by intro _ h;cases h))
  split
  ·exact (Sh.any _).bind fun nm r _=>Zh3 ex he n _ _ (.mk (by omega) (by omega) (nl _) (by omega) (by intro x hx;simp at hx;subst hx;exact h) (by intro _ h;cases h))
  ·exact .ok h
theorem Zda{α:Type}{P:α→Prop}{a:α}(h:P a):∀x∈[a],P x:=by intro x hx;rw[List.mem_singleton.1 hx];exact h
theorem Zna (ty:List Tk→R PT)(ex:List Tk→R PE)(ht:∀ts,Sh WT (ty ts))(he:∀ts,Sh WE (ex ts))(ts:List Tk):Sh WE (Za0 ty ex ts):=by
 unfold Za0;split
 ·exact .ok (ZeC (by omega))
 split
 ·exact .ok (ZeC (by omega))
 split
 ·exact .ok (ZeC (by omega))
 split
 ·exact .ok (ZeC (by omega))
 split
 ·exact .ok (ZeC (by omega))
 split
 ·exact (Zkr WE _ _ he _).bind fun fs r h1=>.ok (.mk (by omega) (fun _=>by simp) (Nat.zero_le _) (by omega) (by intro x hx;obtain⟨y,hy,rfl⟩:=List.mem_map.1 hx;exact h1 y hy) (by intro _ h;cases h))
 split
 ·refine (he _).bind fun e r h1=>?_
  split
  ·exact (ht _).bind fun t r h3=>(Sh.any _).bind fun _ r _=>.ok (.mk (by omega) (by omega) (nl _) (fun _=>nl _) (Zda h1) (Zda h3))
  ·exact (Sh.any _).bind fun _ r _=>.ok h1
 ·exact .bad
theorem ZoX (ty:List Tk→R PT)(ex:List Tk→R PE)(ht:∀ts,Sh WT (ty ts))(he:∀ts,Sh WE (ex ts))(ts:List Tk):Sh WE (ZcI ty ex ts):=by
 unfold ZcI;split
 ·unfold funP;exact (Sh.any _).bind fun _ r _=>(Sh.any _).bind fun _ r _=>(Sh.any _).bind fun _ r _=>(ht r).bind fun t r h4=>(Sh.any _).bind fun _ r _=>(he r).bind fun e r h6=>.ok (.mk (by omega) (by omega) (nl _) (fun _=>nl _) (Zda h6) (Zda h4))
 split
 ·unfold letP;exact (Sh.any _).bind fun _ r _=>(Sh.any _).bind fun _ r _=>(he r).bind fun _ r h3=>(Sh.any _).bind fun _ r _=>(he r).bind fun _ r h5=>.ok (.mk (by omega) (by omega) (nl _) (by omega) (by intro x hx;simp at hx;rcases hx with rfl | rfl;exact h3;exact h5) (by intro _ h;cases h))
 split
 ·unfold ifP;exact (he _).bind fun _ r h1=>(Sh.any _).bind fun _ r _=>(he r).bind fun _ r h3=>(Sh.any _).bind fun _ r _=>(he r).bind fun _ r h5=>.ok (.mk (by omega) (by omega) (nl _) (by omega) (by intro x hx;simp at hx;rcases hx with rfl | rfl | rfl;exact h1;exact h3;exact h5) (by intro _ h;cases h))
 ·exact (Zna ty ex ht he ts).bind fun e r h1=>Zh3 ex he _ _ _ h1
theorem Zlk:∀n ts,Sh WE (exp n ts)
 | 0,_=>.bad
 | n+1,ts=>ZoX _ _ (ZiF n).1 (Zlk n) ts
theorem Zo3 (ts:List Tk):Sh WD (ZbI ts):=by
 have hT:=(ZiF 64).1;have hE:=Zlk 64;unfold ZbI;split
 ·exact (Sh.any _).bind fun _ r _=>(Sh.any _).bind fun _ r _=>.ok ⟨by simp,by simp,by simp,by simp,by simp⟩
 split
 ·exact (Sh.any _).bind fun _ r _=>(Sh.any _).bind fun _ r _=>(hT r).bind fun t r h3=>(Sh.any _).bind fun _ r _=>.ok ⟨by simp,by simp,by simp,Zda h3,by simp⟩
 ·refine (Sh.any _).bind fun _ r _=>(Sh.any _).bind fun _ r _=>?_
  split
  ·exact (hT _).bind fun _ r h3=>(Sh.any _).bind fun _ r _=>(hE r).bind fun _ r h5=>(Sh.any _).bind fun _ r _=>.ok ⟨by simp,by simp,by simp,Zda h3,Zda h5⟩
  ·exact (Sh.any _).bind fun _ r _=>(hE r).bind fun _ r h5=>(Sh.any _).bind fun _ r _=>.ok ⟨by simp,by simp,by simp,by simp,Zda h5⟩
theorem Zf9:∀(n:Nat) (ts:List Tk),∀d∈(ZaO n ts).1,WD d
 | 0,ts=>by simp[ZaO]
 | n+1,ts=>by
  unfold ZaO;split
  ·simp
  ·cases hd:ZbI ts with
   | ok d r e=>
    intro x hx;rcases List.mem_cons.1 hx with rfl | hx
    ·exact Zo3 ts _ _ _ hd
    ·exact Zf9 n r x hx
   | bad y r e=>exact Zf9 n (Za4 r)
def jt (s:Bs)(l:List Bs)(i:Nat):Bs:=Zaz s (l.take i)
theorem ZhQ (s:Bs)(l:List Bs):jt s l 0=[]:=rfl
theorem Zew{s x:Bs}{l:List Bs}(h:l[0]?=some x):jt s l 1=x:=by
 cases l with
 | nil=>cases h
 | cons y r=>simp at h;subst h;rfl
theorem Zgf{s x:Bs}{l:List Bs}{i:Nat}(hi:0<i)(h:l[i]?=some x):jt s l (i+1)=jt s l i++(s++x):=by
 unfold jt;rw[List.take_add_one,h];refine Zec s _ x ?_;intro e;have:=congrArg List.length e;have h2:=(List.getElem?_eq_some_iff.1 h).1;rw[List.length_take,lN] at this;omega
theorem Zk1 (s:Bs)(l:List Bs){n:Nat}(h:n=l.length):jt s l n=Zaz s l:=by rw[jt,h,List.take_length]
theorem ZhM{α β:Type}{f:α→β}{l:List α}{i:Nat}{x:α}(h:l[i]?=some x):(l.map f)[i]?=some (f x):=by rw[List.getElem?_map,h];rfl
theorem Ziz{sg:Bs}{ns ls:List Bs}{i:Nat}{n x:Bs}(h:ns[i]?=some n)(k:ls[i]?=some x):(Zbz sg ns ls)[i]?=some (n++(sg++x)):=by rw[ZdR sg ns ls i n h,k];rfl
theorem two_of{α:Type}{l:List α}(h:l.length=2):∃a b,l=[a,b]:=by
 match l,h with
 | [a,b],_=>exact⟨a,b,rfl⟩
theorem Zlr{m:Nat}(h:m<10):dig m=[(48+m).toUInt8]:=by rw[dig,dif_pos h]
theorem dig_ge{m:Nat}(h:¬m<10):dig m=dig (m/10)++dig (m%10):=by rw[dig,dif_neg h,Zlr (m:=m%10) (Nat.mod_lt _ (by decide))]
theorem ZiQ (m:Nat):(dig m).length≤m+1:=by
 induction m using Nat.strongRecOn with
 | ind m ih=>
  by_cases h:m<10
  ·rw[Zlr h];simp
  ·rw[dig,dif_neg h,lA];have:=ih (m/10) (by omega);simp;omega
theorem Zcc (a b:Bs):((⟨a.toArray⟩:ByteArray)++⟨b.toArray⟩)=⟨(a++b).toArray⟩:=by
 apply ByteArray.ext;simp
theorem Znq (s:Bs):∀(l:List Bs) (i:Nat),∃r,Zaz s l=jt s l i++r
 | _,0=>⟨_,rfl⟩
 | [],i+1=>⟨[],rfl⟩
 | [x],i+1=>⟨[],by simp[jt,Zaz]⟩
 | x::y::l,i+1=>by
  obtain⟨r,h⟩:=Znq s (y::l) i;cases i with
  | zero=>exact⟨s++Zaz s (y::l),rfl⟩
  | succ i=>
   refine⟨r,?_⟩;have e:jt s (x::y::l) (i+2)=x++(s++jt s (y::l) (i+1)):=by
    unfold jt;rw[List.take_succ_cons,List.take_succ_cons,Zaz]
   rw[Zaz,h,e];simp only[aA]
theorem ZhR (s:Bs)(l:List Bs)(i:Nat):(jt s l i).length≤(Zaz s l).length:=by
 obtain⟨r,h⟩:=Znq s l i;rw[h,lA];omega
theorem Zgg{s x:Bs}{l:List Bs}{i:Nat}(h:l[i]?=some x):x.length≤(Zaz s l).length:=by
 have h1:=ZhR s l (i+1);by_cases hi:i=0
 ·subst hi;rw[Zew h] at h1;exact h1
 ·rw[Zgf (by omega) h,lA,lA] at h1;omega
open Go.RowKit Go.Shelf
theorem rgc{W:World}{b o:Nat}{v:Value}(hg:b<W.heap.size)(h:W.cell? ⟨b,o,none⟩=some v):∀p:Regrown,(Go.Sort.grow (redrawn W p.d) p.os).cell? ⟨b,o,none⟩=some v:=fun p=>((below_regrown W p.d p.os).cell (p:=⟨b,o,none⟩) hg).trans h
theorem rgB{W w5:World}(h:∃p:Regrown,w5=Go.Sort.grow (redrawn W p.d) p.os):Hid (Below W.heap.size W w5):=by
 obtain⟨p,rfl⟩:=h;exact below_regrown W p.d p.os
theorem rg4{W:World}{g o i:Nat}{v0 v1 v2 v3:Value}(hg:g<W.heap.size)(hc:∀j x,[v0,v1,v2,v3][j]?=some x→W.cell? ⟨g,o+i*4+j,none⟩=some x){b:Nat}(hb:o+i*4=b):(∀p:Regrown,(Go.Sort.grow (redrawn W p.d) p.os).cell? ⟨g,b,none⟩=some v0)∧(∀p:Regrown,(Go.Sort.grow (redrawn W p.d) p.os).cell? ⟨g,b+1,none⟩=some v1)∧(∀p:Regrown,(Go.Sort.grow (redrawn W p.d) p.os).cell? ⟨g,b+2,none⟩=some v2)∧(∀p:Regrown,(Go.Sort.grow (redrawn W p.d) p.os).cell? ⟨g,b+3,none⟩=some v3):=by
 subst hb;exact⟨rgc hg (hc 0 _ rfl),rgc hg (hc 1 _ rfl),rgc hg (hc 2 _ rfl),rgc hg (hc 3 _ rfl)⟩
theorem rg7{W:World}{g o i:Nat}{v0 v1 v2 v3 v4 v5 v6:Value}(hg:g<W.heap.size)(hc:∀j x,[v0,v1,v2,v3,v4,v5,v6][j]?=some x→W.cell? ⟨g,o+i*7+j,none⟩=some x){b:Nat}(hb:o+i*7=b):(∀p:Regrown,(Go.Sort.grow (redrawn W p.d) p.os).cell? ⟨g,b,none⟩=some v0)∧(∀p:Regrown,(Go.Sort.grow (redrawn W p.d) p.os).cell? ⟨g,b+1,none⟩=some v1)∧(∀p:Regrown,(Go.Sort.grow (redrawn W p.d) p.os).cell? ⟨g,b+2,none⟩=some v2)∧(∀p:Regrown,(Go.Sort.grow (redrawn W p.d) p.os).cell? ⟨g,b+3,none⟩=some v3)∧(∀p:Regrown,(Go.Sort.grow (redrawn W p.d) p.os).cell? ⟨g,b+4,none⟩=some v4)∧(∀p:Regrown,(Go.Sort.grow (redrawn W p.d) p.os).cell? ⟨g,b+5,none⟩=some v5)∧(∀p:Regrown,(Go.Sort.grow (redrawn W p.d) p.os).cell? ⟨g,b+6,none⟩=some v6):=by
 subst hb;exact⟨rgc hg (hc 0 _ rfl),rgc hg (hc 1 _ rfl),rgc hg (hc 2 _ rfl),rgc hg (hc 3 _ rfl),rgc hg (hc 4 _ rfl),rgc hg (hc 5 _ rfl),rgc hg (hc 6 _ rfl)⟩
theorem rgk{F:FuncId}{args:Array Value}{v:Value}{W:World}(h:∀W',Below W.heap.size W W'→Calls Tryz.prog F args W' fun e w'=>e=.returned v∧Below W'.heap.size W' w'):∀p:Regrown,Calls Tryz.prog F args (Go.Sort.grow (redrawn W p.d) p.os) fun e w''=>e=.returned v∧∃p:Regrown,w''=Go.Sort.grow (redrawn W p.d) p.os:=fun p=>Calls.regrown_of (h _ (below_regrown W p.d p.os))
theorem ZmS (m:Nat)(h:m<10)(w:World):(convert 81 9 (.slice (some ⟨w.heap.size,0,none⟩) 1 1)).run Tryz.prog (w.alloc (.cells #[.int .u8 (48+(m:Int))] 5))=.ok (.string ⟨#[(48+m).toUInt8]⟩) (w.alloc (.cells #[.int .u8 (48+(m:Int))] 5)):=by
 refine run_convert_bytes_back (w.alloc (.cells #[.int .u8 (48+(m:Int))] 5)) 81 9 5 ⟨w.heap.size,0,none⟩ 1 [(48+m).toUInt8] Tryz.underlying81 Tryz.underlying5 Tryz.underlying9 ?_;intro j hj;obtain rfl:j=0:=by simp at hj;omega
 have e:((48+m).toUInt8.toNat:Int)=48+(m:Int):=by
  have:(48+m).toUInt8.toNat=48+m:=by simp[Nat.toUInt8];omega
  rw[this];omega
 simp only[List.getElem_cons_zero,e];have:=hN w (.cells #[.int .u8 (48+(m:Int))] 5);show (w.alloc (.cells #[.int .u8 (48+(m:Int))] 5)).cell? ⟨w.heap.size,0,none⟩=_;unfold World.cell?;rw[this];rfl
theorem Zmh:∀(N m:Nat),m≤N→m≤9223372036854775807→∀w:World,Calls Tryz.prog 63 #[.int .i64 m] w fun e w'=>e=.returned (.string ⟨(dig m).toArray⟩)∧Below w.heap.size w w':=by
  intro N
  induction N with
  | zero=>?_
  | succ N ih=>?_
  all_goals
    intro m hNq hm w;by_cases h:m<10
    · have hg:decide ((9:Int)<(m:Int))=false:=dF (by omega)
      have hg2:decide (9<m)=false:=dF (by omega);have HD:=Hd (Zlr h);have hcv:=ZmS m h w;obtain⟨c,hc⟩:=eX ((48+m).toUInt8);rw[←hc] at hcv HD;have h9:(m:Int)≤9:=by omega
      clear h hc;go_enter Tryz.func63,Tryz.ntmps63
      go_wp2_with fail
      refine bodyPost_ret (v:=.string ⟨#[c]⟩) (by simp[results,Tryz.results63,go_sem]) rfl ?_;exact⟨by rw[HD.out],(Below.refl _ _).alloc (nl _) _⟩
    · first
      | exact absurd hNq (by omega)
      | (have hg:decide ((9:Int)<(m:Int))=true:=dT (by omega)
         have hg2:decide (9<m)=true:=dT (by omega);have HD:=Hd (dig_ge h);have C1:=Hd (ih (m/10) (by omega) (by omega));have C2:=Hd (ih (m%10) (by omega) (by omega));obtain⟨k1,hk1⟩:=eX (m/10);obtain⟨k2,hk2⟩:=eX (m%10);rw[←hk1] at C1 HD;rw[←hk2] at C2 HD;have e1:((m:Int)/10)=(k1:Int):=by omega
         have e2:((m:Int)%10)=(k2:Int):=by omega
         have hl1:(dig k1).length≤1000000000000000000:=by have:=ZiQ k1;omega
         have hl2:(dig k2).length≤1000000:=by have:=ZiQ k2;omega
         clear h ih hk1 hk2;go_enter Tryz.func63,Tryz.ntmps63
         go_wp2_with fail
         refine (C1.out w).mono ?_;rintro e w1 ⟨rfl,b1⟩;have B1:=Hd b1;clear b1 C1;go_wp2_with fail
         refine (C2.out w1).mono ?_;rintro e w2 ⟨rfl,b2⟩;have B2:=Hd b2;clear b2 C2;go_wp2_with fail
         refine bodyPost_ret (v:=.string ⟨(dig m).toArray⟩) (by rw[HD.out,←Zcc];simp[results,Tryz.results63,go_sem]) rfl ⟨rfl,?_⟩;exact B1.out.trans (B2.out.mono B1.out.size))
theorem Zog (m:Nat)(hm:m≤9223372036854775807)(w:World):Calls Tryz.prog 63 #[.int .i64 m] w fun e w'=>e=.returned (.string ⟨(dig m).toArray⟩)∧Below w.heap.size w w':=Zmh m m (nl _) hm w
open Go.RowKit Go.Shelf Go.Sort
theorem ZcJ:∀ns:List Bs,ns.map Dt.str=ns.flatMap fun s=>[Dt.str s]
 | []=>rfl
 | n::ns=>by rw[List.map_cons,ZcJ ns,List.flatMap_cons];rfl
theorem ZbP{e:TypeId}{A:Nat→Prop}{w:World}{k:Nat}{n:Bs}{ns:List Bs}{l:List PT}{cs:List Value}(h:IsCs A w (encT e (.mk k n ns l)) cs):∃a2 c2 a3 c3,cs=[.int .i64 k,.string ⟨n.toArray⟩,.slice a2 ns.length c2,.slice a3 l.length c3]∧IsC A w (.row 9 1 ns.length (ns.map .str)) (.slice a2 ns.length c2)∧IsC A w (.row e 4 l.length (Zau e l)) (.slice a3 l.length c3):=by
 rw[encT] at h;obtain⟨x0,ys,rfl,k0,h⟩:=h.uncons;obtain⟨x1,ys,rfl,k1,h⟩:=h.uncons;obtain⟨x2,ys,rfl,k2,h⟩:=h.uncons;obtain⟨x3,ys,rfl,k3,h⟩:=h.uncons;simp only[IsC] at k0 k1;obtain rfl:ys=[]:=by simpa only[IsCs] using h
 subst k0 k1;obtain⟨_,r2,-,-⟩:=k2.unrow;obtain⟨a2,c2,rfl⟩:=Zag r2;obtain⟨_,r3,-,-⟩:=k3.unrow;obtain⟨a3,c3,rfl⟩:=Zag r3;exact⟨a2,c2,a3,c3,rfl,k2,k3⟩
def RtOk (t:PT):Prop:=∀(q:Nat),q≤2→(prT q t).length≤1000000→∀(A:Nat→Prop) (w:World) (cs:List Value),IsCs A w (encT 31 t) cs→Calls Tryz.prog 25 #[.agg cs.toArray,.int .i64 q] w fun e w'=>e=.returned (.string ⟨(prT q t).toArray⟩)∧Below w.heap.size w w'
theorem rt_int (n:Bs)(ns:List Bs)(l:List PT):RtOk (.mk 1 n ns l):=by
 intro q hq _ A w cs h;obtain⟨a2,c2,a3,c3,rfl,h2,h3⟩:=ZbP h;obtain⟨txt,htxt⟩:=eX (prT q (.mk 1 n ns l));have HX:=Hd (show txt=[105,110,116] by rw[htxt,Zb2,Zcm,if_neg (by unfold lvlT;simp;omega)];rfl);rw[←htxt];clear htxt h h2 h3;go_enter Tryz.func25,Tryz.ntmps25
 go_wp2_with fail
 refine bodyPost_ret (v:=.string ⟨txt.toArray⟩) (by rw[HX.out];simp[results,Tryz.results25,go_sem]) rfl ⟨rfl,?_⟩;exact (Below.refl _ _).alloc (nl _) _
theorem Zn4 (n:Bs)(ns:List Bs)(l:List PT):RtOk (.mk 2 n ns l):=by
 intro q hq _ A w cs h;obtain⟨a2,c2,a3,c3,rfl,h2,h3⟩:=ZbP h;obtain⟨txt,htxt⟩:=eX (prT q (.mk 2 n ns l));have HX:=Hd (show txt=[98,111,111,108] by rw[htxt,Zb2,Zcm,if_neg (by unfold lvlT;simp;omega)];rfl);rw[←htxt];clear htxt h h2 h3;go_enter Tryz.func25,Tryz.ntmps25
 go_wp2_with fail
 refine bodyPost_ret (v:=.string ⟨txt.toArray⟩) (by rw[HX.out];simp[results,Tryz.results25,go_sem]) rfl ⟨rfl,?_⟩;exact (Below.refl _ _).alloc (nl _) _
theorem Zn3 (n:Bs)(ns:List Bs)(l:List PT):RtOk (.mk 3 n ns l):=by
 intro q hq _ A w cs h;obtain⟨a2,c2,a3,c3,rfl,h2,h3⟩:=ZbP h;obtain⟨txt,htxt⟩:=eX (prT q (.mk 3 n ns l));have HX:=Hd (show txt=[116,101,120,116] by rw[htxt,Zb2,Zcm,if_neg (by unfold lvlT;simp;omega)];rfl);rw[←htxt];clear htxt h h2 h3;go_enter Tryz.func25,Tryz.ntmps25
 go_wp2_with fail
 refine bodyPost_ret (v:=.string ⟨txt.toArray⟩) (by rw[HX.out];simp[results,Tryz.results25,go_sem]) rfl ⟨rfl,?_⟩;exact (Below.refl _ _).alloc (nl _) _
theorem rt_dyn (n:Bs)(ns:List Bs)(l:List PT):RtOk (.mk 4 n ns l):=by
 intro q hq _ A w cs h;obtain⟨a2,c2,a3,c3,rfl,h2,h3⟩:=ZbP h;obtain⟨txt,htxt⟩:=eX (prT q (.mk 4 n ns l));have HX:=Hd (show txt=[63] by rw[htxt,Zb2,Zcm,if_neg (by unfold lvlT;simp;omega)];rfl);rw[←htxt];clear htxt h h2 h3;go_enter Tryz.func25,Tryz.ntmps25
 go_wp2_with fail
 refine bodyPost_ret (v:=.string ⟨txt.toArray⟩) (by rw[HX.out];simp[results,Tryz.results25,go_sem]) rfl ⟨rfl,?_⟩;exact (Below.refl _ _).alloc (nl _) _
theorem rt_ref (n:Bs)(ns:List Bs)(l:List PT):RtOk (.mk 8 n ns l):=by
 intro q hq _ A w cs h;obtain⟨a2,c2,a3,c3,rfl,h2,h3⟩:=ZbP h;obtain⟨txt,htxt⟩:=eX (prT q (.mk 8 n ns l));have HX:=Hd (show txt=n by rw[htxt,Zb2,Zcm,if_neg (by unfold lvlT;simp;omega)];rfl);rw[←htxt];clear htxt h h2 h3;go_enter Tryz.func25,Tryz.ntmps25
 go_wp2_with fail
 refine bodyPost_ret (v:=.string ⟨txt.toArray⟩) (by rw[HX.out];simp[results,Tryz.results25,go_sem]) rfl ⟨rfl,?_⟩;exact (Below.refl _ _).alloc (nl _) _
theorem rt_rec (n:Bs)(ns:List Bs)(l:List PT)(hl:ns.length=l.length)(hsz:l.length≤1000000)(HT:∀t∈l,RtOk t):RtOk (.mk 5 n ns l):=by
 intro q hq hlen A w cs h;obtain⟨a2,c2,a3,c3,rfl,h2,h3⟩:=ZbP h;obtain⟨W,hW⟩:=eY (w.alloc (.cells #[.int .i64 5,.string ⟨n.toArray⟩,.slice a2 ns.length c2,.slice a3 (l).length c3] 31));have hB:Below w.heap.size w W:=by rw[←hW];exact (Below.refl _ _).alloc (nl _) _
 have HP:=Hd (show Fou W w.heap.size 31 (.int .i64 5) (.string ⟨n.toArray⟩) (.slice a2 ns.length c2) (.slice a3 (l).length c3) by rw[←hW];exact hN w _);have S2:=Hd ((Sub.of_row h2 (by simp)).below hB);have S3:=Hd (show Sub A W (Zau 31 (l)) (l).length (.slice a3 (l).length c3) from (Sub.of_row h3 (by rw[ZaE];exact ZaF (Zas 31) (l))).below hB);rw[ZcJ] at S2;rw[ZaE] at S3;have HB:=Hd hB;have HLT:=Hd (show w.heap.size<W.heap.size from (gE HP.out).1);have HW:=Hd hW;obtain⟨txt,htxt⟩:=eX (prT q (.mk 5 n ns (l)));rw[←htxt] at hlen⊢;have HTX:=Hd htxt;have HQ:=Hd hq;change Calls Tryz.prog 25 #[.agg #[.int .i64 5,.string ⟨n.toArray⟩,.slice a2 ns.length c2,.slice a3 (l).length c3],.int .i64 q] w _;have HL:=Hd hl;have HZ:=Hd hsz;have HT:=Hd HT;obtain⟨P,hP⟩:=eX (Zbz [58,32] ns (l.map (prT 0)));have HPL:=Hd (show P.length=l.length by rw[hP,Zci,hl]);have HX:=Hd (show txt=123::(Zaz [44,32] P++[125]) by rw[htxt,Zb2,Zcm,if_neg (by unfold lvlT;simp;omega),hP];rfl);have HLEN:=Hd (show (Zaz [44,32] P).length≤1000000 by rw[HX.out] at hlen;simp at hlen;omega);have HPP:=Hd hP;have hnl:(ns.length:Int)=(l.length:Int):=by rw[hl]
 clear hl hsz hP hlen;clear h h2 h3 hB hW htxt;obtain⟨⟨p0,p1,p2,p3⟩,-⟩:=Zae HP.out;rw[HL.out] at HP p2;go_enter Tryz.func25,Tryz.ntmps25
 go_upto_region 1 with fail
 rw[HW.out];go_wp2_with fail
 go_loopw [5,6] (fun s5 s6 wr=>∃i:Nat,s6=.int .i64 i∧i≤l.length∧s5=.string ⟨(jt [44,32] P i).toArray⟩∧Hid (Below W.heap.size W wr)) (fun _ s6 _=>l.length-(intOf s6).toNat)
 case atStart=>exact⟨0,rfl,Nat.zero_le _,rfl,Below.refl _ _⟩
 case round=>
  obtain⟨i,rfl,hil,rfl,hB⟩:=hrel;have PR:=Hd ((hB.out.block _ HLT.out).trans HP.out);obtain⟨⟨p0,p1,p2,p3⟩,-⟩:=Zae PR.out;by_cases hi2:i<l.length
  ·have hlt:decide ((i:Int)<(l.length:Int))=true:=dT (by omega);have hltn:decide (i<l.length)=true:=dT hi2;obtain⟨m,hm⟩:∃m,ns[i]?=some m:=⟨_,List.getElem?_eq_getElem (by rw[HL.out];exact hi2)⟩;obtain⟨t,ht⟩:=eX (l[i]);have hget:l[i]?=some t:=by rw[ht];exact List.getElem?_eq_getElem hi2
   have hmem:t∈l:=by rw[ht];exact List.getElem_mem hi2
   obtain⟨T,hT⟩:=eX (prT 0 t);have hPi:P[i]?=some (m++([58,32]++T)):=by rw[HPP.out,hT];exact Ziz hm (ZhM hget)
   have HPI:=Hd hPi;have h1:=Zgg (s:=[44,32]) hPi;have h2:=ZhR [44,32] P i;have h3:=HLEN.out;simp only[lA,lC,lN] at h1;have hlm:m.length≤1000000:=by omega
   have hlT:T.length≤1000000:=by omega
   have hlj:(jt [44,32] P i).length≤1000000:=by omega
   obtain⟨gn,on,ds,rfl,hgn,hds,hdc⟩:=Sub.at (k:=1) (fun _=>rfl) (S2.out.below hB.out) hm (by rw[HL.out];omega);obtain⟨g,o,cs,rfl,hg,hcs,hcell⟩:=Sub.at (Zas 31) (S3.out.below hB.out) hget (by omega);obtain⟨x,ys,rfl,k0,-⟩:=hds.uncons;simp only[IsC] at k0;subst k0;have n0:=hdc 0 _ rfl;rw[aZ,Nat.mul_one] at n0;have HCT:=Hd (HT.out t hmem 0 (by decide) (by rw[←hT];exact hlT));rw[←hT] at HCT;obtain⟨tk,tn,tns,tl⟩:=t;obtain⟨e2,f2,e3,f3,rfl,-,-⟩:=ZbP hcs;have HCS:=Hd hcs;have hbz:=HZ.out;have HGN:=Hd hgn;have HG:=Hd hg;have HLW:=Hd (ll HLT.out hB.out.size);have cS1:∀p:Regrown,Calls Tryz.prog 25 #[.agg #[.int .i64 tk,.string ⟨tn.toArray⟩,.slice e2 tns.length f2,.slice e3 tl.length f3],.int .i64 0] (grow (redrawn wr p.d) p.os) fun e w''=>e=.returned (.string ⟨T.toArray⟩)∧∃p:Regrown,w''=grow (redrawn wr p.d) p.os:=by
    intro p;refine Calls.regrown_of ?_;exact HCT.out _ _ _ (HCS.out.below (below_regrown wr p.d p.os))
   have y2:=rgc HLW.out p2;have y3:=rgc HLW.out p3;have yn:=rgc HGN.out n0;obtain⟨s0,s1,s2,s3⟩:=rg4 HG.out hcell rfl;clear hget ht hmem hT hm hPi h1 h2 h3 hds hdc hcs hcell hgn hg n0 p0 p1 p3;by_cases hi0:i=0
   ·have hz1:decide ((0:Int)<(i:Int))=false:=dF (by omega);have hz2:decide (0<i)=false:=dF (by omega);have HI0:=Hd hi0;clear hi0;go_wp2_with fail
    refine wp_region_quiet_below (by kernel_rfl) (by kernel_rfl) ?_
    repeat (go_big_quiet_step (first | exact cS1 _))
    refine wpQuiet_nil ?_;intro w5 hw5;have B5:=rgB hw5;clear hw5;go_wp2_with fail
    refine⟨⟨i+1,by simp,by omega,?_,Hd (hB.out.trans (B5.out.mono hB.out.size))⟩,?_⟩
    ·obtain rfl:=HI0.out;rw[Zew HPI.out,ZhQ];simp only[Zcc,aA,List.nil_append]
    ·simp[intOf];omega
   ·have hz1:decide ((0:Int)<(i:Int))=true:=dT (by omega);have hz2:decide (0<i)=true:=dT (by omega);have HI0:=Hd (show 0<i by omega);clear hi0;go_wp2_with fail
    refine wp_region_quiet_below (by kernel_rfl) (by kernel_rfl) ?_
    repeat (go_big_quiet_step (first | exact cS1 _))
    refine wpQuiet_nil ?_;intro w5 hw5;have B5:=rgB hw5;clear hw5;go_wp2_with fail
    refine⟨⟨i+1,by simp,by omega,?_,Hd (hB.out.trans (B5.out.mono hB.out.size))⟩,?_⟩
    ·rw[Zgf HI0.out HPI.out];simp only[Zcc,aA]
    ·simp[intOf];omega
  ·have hge:i=l.length:=by omega
   have hlt:decide ((i:Int)<(l.length:Int))=false:=dF (by omega);have hltn:decide (i<l.length)=false:=dF hi2;have HE:=Hd (Zk1 [44,32] P (n:=i) (by rw[HPL.out];exact hge));have h2:=ZhR [44,32] P i;have h3:=HLEN.out;have hlj:(jt [44,32] P i).length≤1000000:=by omega
   clear hge h2 h3;go_wp2_with fail
   have e:((⟨[123].toArray⟩:ByteArray)++⟨(jt [44,32] P i).toArray⟩++⟨[125].toArray⟩)=⟨txt.toArray⟩:=by
    rw[HX.out,←HE.out];simp only[Zcc];rfl
   refine bodyPost_ret (v:=.string ⟨txt.toArray⟩) (by simp[results,Tryz.results25,go_sem,e]) rfl ⟨rfl,?_⟩;exact HB.out.trans (hB.out.mono HB.out.size)
theorem rt_uni (n:Bs)(ns:List Bs)(l:List PT)(hl:2≤l.length)(hsz:l.length≤1000000)(HT:∀t∈l,RtOk t):RtOk (.mk 7 n ns l):=by
 intro q hq hlen A w cs h;obtain⟨a2,c2,a3,c3,rfl,h2,h3⟩:=ZbP h;obtain⟨W,hW⟩:=eY (w.alloc (.cells #[.int .i64 7,.string ⟨n.toArray⟩,.slice a2 ns.length c2,.slice a3 (l).length c3] 31));have hB:Below w.heap.size w W:=by rw[←hW];exact (Below.refl _ _).alloc (nl _) _
 have HP:=Hd (show Fou W w.heap.size 31 (.int .i64 7) (.string ⟨n.toArray⟩) (.slice a2 ns.length c2) (.slice a3 (l).length c3) by rw[←hW];exact hN w _);have S2:=Hd ((Sub.of_row h2 (by simp)).below hB);have S3:=Hd (show Sub A W (Zau 31 (l)) (l).length (.slice a3 (l).length c3) from (Sub.of_row h3 (by rw[ZaE];exact ZaF (Zas 31) (l))).below hB);rw[ZcJ] at S2;rw[ZaE] at S3;have HB:=Hd hB;have HLT:=Hd (show w.heap.size<W.heap.size from (gE HP.out).1);have HW:=Hd hW;obtain⟨txt,htxt⟩:=eX (prT q (.mk 7 n ns (l)));rw[←htxt] at hlen⊢;have HTX:=Hd htxt;have HQ:=Hd hq;change Calls Tryz.prog 25 #[.agg #[.int .i64 7,.string ⟨n.toArray⟩,.slice a2 ns.length c2,.slice a3 (l).length c3],.int .i64 q] w _;have HL:=Hd hl;have HZ:=Hd hsz;have HT:=Hd HT;obtain⟨P,hP⟩:=eX (l.map (prT 1));have HPL:=Hd (show P.length=l.length by rw[hP,List.length_map]);have HX:=Hd (show txt=Zcm q 7 (Zaz [32,124,32] P) by
  rw[htxt,Zb2,hP];unfold ZdZ;rw[if_neg (by decide),if_neg (by decide),if_neg (by decide),if_neg (by decide),if_neg (by decide),if_neg (by decide),if_neg (by decide),if_pos rfl,if_neg (by
   intro e;have:=congrArg List.length e;rw[List.length_map,lN] at this;omega)])
 have HLEN:=Hd (show (Zaz [32,124,32] P).length≤1000000 by
  rw[HX.out,Zcm] at hlen;split at hlen
  ·simp only[lA,lC] at hlen;omega
  ·exact hlen)
 have HPP:=Hd hP;have hne:((l.length:Int)==0)=false:=bF (by omega);have hne2:(l.length==0)=false:=bF (by omega);clear hl hsz hP hlen;clear h h2 h3 hB hW htxt;obtain⟨⟨p0,p1,p2,p3⟩,-⟩:=Zae HP.out;go_enter Tryz.func25,Tryz.ntmps25
 go_upto_region 1 with fail
 rw[HW.out];go_wp2_with fail
 go_loopw [5,7] (fun s5 s7 wr=>∃i:Nat,s7=.int .i64 i∧i≤l.length∧s5=.string ⟨(jt [32,124,32] P i).toArray⟩∧Hid (Below W.heap.size W wr)) (fun _ s7 _=>l.length-(intOf s7).toNat)
 case atStart=>exact⟨0,rfl,Nat.zero_le _,rfl,Below.refl _ _⟩
 case round=>
  obtain⟨i,rfl,hil,rfl,hB⟩:=hrel;have PR:=Hd ((hB.out.block _ HLT.out).trans HP.out);obtain⟨⟨p0,p1,p2,p3⟩,-⟩:=Zae PR.out;by_cases hi2:i<l.length
  ·have hlt:decide ((i:Int)<(l.length:Int))=true:=dT (by omega);have hltn:decide (i<l.length)=true:=dT hi2;obtain⟨t,ht⟩:=eX (l[i]);have hget:l[i]?=some t:=by rw[ht];exact List.getElem?_eq_getElem hi2
   have hmem:t∈l:=by rw[ht];exact List.getElem_mem hi2
   obtain⟨T,hT⟩:=eX (prT 1 t);have hPi:P[i]?=some T:=by rw[HPP.out,hT];exact ZhM hget
   have HPI:=Hd hPi;have h1:=Zgg (s:=[32,124,32]) hPi;have h2:=ZhR [32,124,32] P i;have h3:=HLEN.out;have hlT:T.length≤1000000:=by omega
   have hlj:(jt [32,124,32] P i).length≤1000000:=by omega
   obtain⟨g,o,cs,rfl,hg,hcs,hcell⟩:=Sub.at (Zas 31) (S3.out.below hB.out) hget (by omega);have HCT:=Hd (HT.out t hmem 1 (by decide) (by rw[←hT];exact hlT));rw[←hT] at HCT;obtain⟨tk,tn,tns,tl⟩:=t;obtain⟨e2,f2,e3,f3,rfl,-,-⟩:=ZbP hcs;have d0:=hcell 0 _ rfl;have d1:=hcell 1 _ rfl;have d2:=hcell 2 _ rfl;have d3:=hcell 3 _ rfl;rw[aZ] at d0;have HCS:=Hd hcs;have hbz:=HZ.out;have HC:=Hd (HCT.out _ wr _ HCS.out);clear hget ht hmem hT hPi h1 h2 h3 hcs hcell hg p0 p1;by_cases hi0:i=0
   ·have hz1:decide ((0:Int)<(i:Int))=false:=dF (by omega);have hz2:decide (0<i)=false:=dF (by omega);have HI0:=Hd hi0;clear hi0;go_wp2_with fail
    refine HC.out.mono ?_;rintro e w5 ⟨rfl,b5⟩;have B5:=Hd b5;clear b5;go_wp2_with fail
    refine⟨⟨i+1,by simp,by omega,?_,Hd (hB.out.trans (B5.out.mono hB.out.size))⟩,?_⟩
    ·obtain rfl:=HI0.out;rw[Zew HPI.out,ZhQ];simp only[Zcc,List.nil_append]
    ·simp[intOf];omega
   ·have hz1:decide ((0:Int)<(i:Int))=true:=dT (by omega);have hz2:decide (0<i)=true:=dT (by omega);have HI0:=Hd (show 0<i by omega);clear hi0;go_wp2_with fail
    refine HC.out.mono ?_;rintro e w5 ⟨rfl,b5⟩;have B5:=Hd b5;clear b5;go_wp2_with fail
    refine⟨⟨i+1,by simp,by omega,?_,Hd (hB.out.trans (B5.out.mono hB.out.size))⟩,?_⟩
    ·rw[Zgf HI0.out HPI.out];simp only[Zcc,aA]
    ·simp[intOf];omega
  ·have hge:i=l.length:=by omega
   have hlt:decide ((i:Int)<(l.length:Int))=false:=dF (by omega);have hltn:decide (i<l.length)=false:=dF hi2;have HE:=Hd (Zk1 [32,124,32] P (n:=i) (by rw[HPL.out];exact hge));have h2:=ZhR [32,124,32] P i;have h3:=HLEN.out;have hlj:(jt [32,124,32] P i).length≤1000000:=by omega
   clear hge h2 h3;by_cases hq0:0<q
   ·have hz1:decide ((0:Int)<(q:Int))=true:=dT (by omega);have hz2:decide (0<q)=true:=dT hq0;have e:((⟨[40].toArray⟩:ByteArray)++⟨(jt [32,124,32] P i).toArray⟩++⟨[41].toArray⟩)=⟨txt.toArray⟩:=by
     rw[HX.out,←HE.out,Zcm,if_pos (show lvlT 7<q from hq0)];simp only[Zcc];rfl
    clear hq0;go_wp2_with fail
    refine bodyPost_ret (v:=.string ⟨txt.toArray⟩) (by simp[results,Tryz.results25,go_sem]) rfl ⟨rfl,?_⟩;exact HB.out.trans (hB.out.mono HB.out.size)
   ·have hz1:decide ((0:Int)<(q:Int))=false:=dF (by omega);have hz2:decide (0<q)=false:=dF hq0;have e:(jt [32,124,32] P i)=txt:=by
     rw[HX.out,←HE.out,Zcm,if_neg (show ¬lvlT 7<q from hq0)]
    clear hq0;go_wp2_with fail
    refine bodyPost_ret (v:=.string ⟨txt.toArray⟩) (by simp[results,Tryz.results25,go_sem,e]) rfl ⟨rfl,?_⟩;exact HB.out.trans (hB.out.mono HB.out.size)
theorem rt_fun (n:Bs)(ns:List Bs)(a b:PT)(HTa:RtOk a)(HTb:RtOk b):RtOk (.mk 6 n ns [a,b]):=by
 intro q hq hlen A w cs h;obtain⟨a2,c2,a3,c3,rfl,h2,h3⟩:=ZbP h;obtain⟨W,hW⟩:=eY (w.alloc (.cells #[.int .i64 6,.string ⟨n.toArray⟩,.slice a2 ns.length c2,.slice a3 2 c3] 31));have hB:Below w.heap.size w W:=by rw[←hW];exact (Below.refl _ _).alloc (nl _) _
 have HP:=Hd (show Fou W w.heap.size 31 (.int .i64 6) (.string ⟨n.toArray⟩) (.slice a2 ns.length c2) (.slice a3 2 c3) by rw[←hW];exact hN w _);have S2:=Hd ((Sub.of_row h2 (by simp)).below hB);have S3:=Hd (show Sub A W (Zau 31 ([a,b])) 2 (.slice a3 2 c3) from (Sub.of_row h3 (by rw[ZaE];exact ZaF (Zas 31) ([a,b]))).below hB);rw[ZcJ] at S2;rw[ZaE] at S3;have HB:=Hd hB;have HLT:=Hd (show w.heap.size<W.heap.size from (gE HP.out).1);have HW:=Hd hW;obtain⟨txt,htxt⟩:=eX (prT q (.mk 6 n ns ([a,b])));rw[←htxt] at hlen⊢;have HTX:=Hd htxt;have HQ:=Hd hq;change Calls Tryz.prog 25 #[.agg #[.int .i64 6,.string ⟨n.toArray⟩,.slice a2 ns.length c2,.slice a3 2 c3],.int .i64 q] w _;have HTa:=Hd HTa;have HTb:=Hd HTb;obtain⟨T,hT⟩:=eX (prT 2 a);obtain⟨U,hU⟩:=eX (prT 1 b);have HX:=Hd (show txt=Zcm q 6 (T++(32::45::62::32::U)) by rw[htxt,Zb2,hT,hU];rfl);have hl2:T.length+U.length≤1000000:=by
  rw[HX.out,Zcm] at hlen;split at hlen<;>simp only[lA,lC] at hlen<;>omega
 have hlT:T.length≤1000000:=by omega
 have hlU:U.length≤1000000:=by omega
 have HCa:=Hd (HTa.out 2 (by decide) (by rw[←hT];exact hlT));have HCb:=Hd (HTb.out 1 (by decide) (by rw[←hU];exact hlU));rw[←hT] at HCa;rw[←hU] at HCb;clear hT hU hlen HTa HTb;clear h h2 h3 hB hW htxt;obtain⟨⟨p0,p1,p2,p3⟩,-⟩:=Zae HP.out;obtain⟨g,o,cs,rfl,hg,hcs,hcell⟩:=Sub.at (i:=0) (Zas 31) S3.out (show [a,b][0]?=some a from rfl) (by decide);obtain⟨g',o',cs',eq,-,hcs',hcell'⟩:=Sub.at (i:=1) (Zas 31) S3.out (show [a,b][1]?=some b from rfl) (by decide);have eg:g'=g∧o'=o:=by
  injection eq with eq
  injection eq with e1 e2 e3
  exact⟨e1.symm,e2.symm⟩
 obtain⟨rfl,rfl⟩:=eg;clear eq;obtain⟨ak,an,ans,al⟩:=a;obtain⟨e2,f2,e3,f3,rfl,-,-⟩:=ZbP hcs;obtain⟨bk,bn,bns,bl⟩:=b;obtain⟨r2,t2,r3,t3,rfl,-,-⟩:=ZbP hcs';have HCS:=Hd hcs;have HCS':=Hd hcs';have HG:=Hd hg;have cS1:∀p:Regrown,Calls Tryz.prog 25 #[.agg #[.int .i64 ak,.string ⟨an.toArray⟩,.slice e2 ans.length f2,.slice e3 al.length f3],.int .i64 2] (grow (redrawn W p.d) p.os) fun e w''=>e=.returned (.string ⟨T.toArray⟩)∧∃p:Regrown,w''=grow (redrawn W p.d) p.os:=by
  intro p;refine Calls.regrown_of ?_;exact HCa.out _ _ _ (HCS.out.below (below_regrown W p.d p.os))
 have cS2:∀p:Regrown,Calls Tryz.prog 25 #[.agg #[.int .i64 bk,.string ⟨bn.toArray⟩,.slice r2 bns.length t2,.slice r3 bl.length t3],.int .i64 1] (grow (redrawn W p.d) p.os) fun e w''=>e=.returned (.string ⟨U.toArray⟩)∧∃p:Regrown,w''=grow (redrawn W p.d) p.os:=by
  intro p;refine Calls.regrown_of ?_;exact HCb.out _ _ _ (HCS'.out.below (below_regrown W p.d p.os))
 have y3:=rgc HLT.out p3;obtain⟨s0,s1,s2,s3⟩:=rg4 HG.out hcell (b:=o') (by simp);obtain⟨s4,s5,s6,s7⟩:=rg4 HG.out hcell' (b:=o'+4) (by simp);clear hcs hcs' hcell hcell' hg p1 p2 p3;go_enter Tryz.func25,Tryz.ntmps25
 go_upto_region 1 with fail
 rw[HW.out];go_wp2_with fail
 refine wp_region_quiet_below (by kernel_rfl) (by kernel_rfl) ?_
 repeat (go_big_quiet_step (first | with_reducible exact cS1 _ | with_reducible exact cS2 _))
 refine wpQuiet_nil ?_;intro w5 hw5;have B5:=rgB hw5;clear hw5;by_cases hq2:q=2
 ·have hz1:((q:Int)==2)=true:=by simp only[beq_iff_eq];omega
  have hz2:(q==2)=true:=by simp only[beq_iff_eq];exact hq2
  have e:((⟨[40].toArray⟩:ByteArray)++(⟨T.toArray⟩++⟨[32,45,62,32].toArray⟩++⟨U.toArray⟩)++⟨[41].toArray⟩)=⟨txt.toArray⟩:=by
   rw[HX.out,Zcm,if_pos (show lvlT 6<q from by rw[hq2];decide)];simp only[Zcc,aA];rfl
  clear hq2;go_wp2_with fail
  refine bodyPost_ret (v:=.string ⟨txt.toArray⟩) (by simp[results,Tryz.results25,go_sem]) rfl ⟨rfl,?_⟩;exact HB.out.trans (B5.out.mono HB.out.size)
 ·have hz1:((q:Int)==2)=false:=bF (by omega);have hz2:(q==2)=false:=by simp only[beq_eq_false_iff_ne,ne_eq];exact hq2
  have e:((⟨T.toArray⟩++⟨[32,45,62,32].toArray⟩++⟨U.toArray⟩):ByteArray)=⟨txt.toArray⟩:=by
   have:=HQ.out;rw[HX.out,Zcm,if_neg (show ¬lvlT 6<q by rw[show lvlT 6=1 from rfl];omega)];simp only[Zcc,aA];rfl
  clear hq2;go_wp2_with fail
  refine bodyPost_ret (v:=.string ⟨txt.toArray⟩) (by simp[results,Tryz.results25,go_sem,e]) rfl ⟨rfl,?_⟩;exact HB.out.trans (B5.out.mono HB.out.size)
theorem ZeT:∀t:PT,WT t→szT t≤1000000→RtOk t:=by
 intro t h
 induction h with
 | @mk k n ns l hk h5 h6 h7 h0 hn h8 hl ih=>
  intro hs;rw[szT] at hs;have hlen:=Zig l;have hT:∀t∈l,RtOk t:=fun t ht=>by
   obtain⟨i,hi,rfl⟩:=List.getElem_of_mem ht;have:=Zeo l i _ (List.getElem?_eq_getElem hi);exact ih _ ht (by omega)
  have hc:k=1∨k=2∨k=3∨k=4∨k=5∨k=6∨k=7∨k=8:=by omega
  rcases hc with rfl | rfl | rfl | rfl | rfl | rfl | rfl | rfl
  ·exact rt_int n ns l
  ·exact Zn4 n ns l
  ·exact Zn3 n ns l
  ·exact rt_dyn n ns l
  ·exact rt_rec n ns l (h5 rfl) (by omega) hT
  ·obtain⟨a,b,rfl⟩:=two_of (h6 rfl);exact rt_fun n ns a b (hT a (by simp)) (hT b (by simp))
  ·exact rt_uni n ns l (h7 rfl) (by omega) hT
  ·exact rt_ref n ns l
end Go.Proofs.YtijnjoonbjdafaaGreatDoor

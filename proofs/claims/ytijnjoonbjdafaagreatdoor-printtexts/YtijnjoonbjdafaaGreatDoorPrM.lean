import Derived.Test.YtijnjoonbjdafaaGreatDoorSxM
namespace Go.Proofs.YtijnjoonbjdafaaGreatDoor
set_option maxHeartbeats 20000000
set_option maxRecDepth 100000
section
variable {α : Type}
def Zaz (s:List α):List (List α)→List α
 | []=>[]
 | [x]=>x
 | x::y::r=>x++(s++Zaz s (y::r))
theorem Zec (s:List α):∀(l:List (List α)) (x:List α),l≠[]→Zaz s (l++[x])=Zaz s l++(s++x)
 | [],_,h=>absurd rfl h
 | [y],x,_=>rfl
 | y::z::r,x,_=>by
  have:=Zec s (z::r) x (by simp);simp only[cA] at this⊢;rw[Zaz,this,Zaz];simp only[aA]
def Zbz (sg:List α):List (List α)→List (List α)→List (List α)
 | [],_=>[]
 | n::ns,ls=>(n++(sg++ls.headD []))::Zbz sg ns ls.tail
theorem Zci (sg:List α):∀ns ls:List (List α),(Zbz sg ns ls).length=ns.length
 | [],_=>rfl
 | n::ns,ls=>by rw[Zbz,lC,Zci,lC]
theorem ZdR (sg:List α):∀(ns ls:List (List α)) (i:Nat) (n:List α),ns[i]?=some n→(Zbz sg ns ls)[i]?=some (n++(sg++ls[i]?.getD []))
 | [],_,i,n,h=>by simp at h
 | m::ns,ls,0,n,h=>by
  simp at h;subst h;cases ls<;>rfl
 | m::ns,ls,i+1,n,h=>by
  have:=ZdR sg ns ls.tail i n (by simpa using h);rw[Zbz,List.getElem?_cons_succ,this];cases ls<;>simp
end
def lvlT (k:Nat):Nat:=if k=7 then 0 else if k=6 then 1 else 2
def ZdZ (k:Nat)(n:Bs)(ns:List Bs)(l0 l1 l2:List Bs):Bs:=
 if k=1 then [105,110,116] else if k=2 then [98,111,111,108] else if k=3 then [116,101,120,116] else if k=4 then [63]
 else if k=8 then n
 else if k=5 then 123::(Zaz [44,32] (Zbz [58,32] ns l0)++[125])
 else if k=6 then l2.headD []++(32::45::62::32::l1.tail.headD [])
 else if k=7 then (if l1=[] then [110,101,118,101,114] else Zaz [32,124,32] l1)
 else []
def Zcm (q k:Nat)(b:Bs):Bs:=if lvlT k<q then 40::(b++[41]) else b
mutual
def prT:Nat→PT→Bs
 | q,.mk k n ns l=>Zcm q k (ZdZ k n ns (prTs 0 l) (prTs 1 l) (prTs 2 l))
def prTs:Nat→List PT→List Bs
 | _,[]=>[]
 | q,t::r=>prT q t::prTs q r
end
theorem Zes (q:Nat):∀l,prTs q l=l.map (prT q)
 | []=>by rw[prTs];rfl
 | t::r=>by rw[prTs,Zes q r];rfl
theorem Zb2 (q k:Nat)(n:Bs)(ns:List Bs)(l:List PT):prT q (.mk k n ns l)=Zcm q k (ZdZ k n ns (l.map (prT 0)) (l.map (prT 1)) (l.map (prT 2))):=by rw[prT,Zes,Zes,Zes]
def dig (m:Nat):Bs:=if _h:m<10 then [(48+m).toUInt8] else dig (m/10)++[(48+m%10).toUInt8]
termination_by m
decreasing_by omega
def lvlE (k:Nat):Nat:=if k=8∨k=9∨k=10 then 0 else 2
def Zcr (k:Nat)(n:Bs)(m:Nat)(ns:List Bs)(e0 e2 t0:List Bs):Bs:=
 if k=1 then dig m else if k=2 then 34::(n++[34]) else if k=3 then (if m=1 then [116,114,117,101] else [102,97,108,115,101])
 else if k=4 then n
 else if k=5 then 123::(Zaz [44,32] (Zbz [32,61,32] ns e0)++[125])
 else if k=6 then e2.headD []++46::n
 else if k=7 then e2.headD []++40::(e0.tail.headD []++[41])
 else if k=8 then [102,117,110]++(32::40::(n++32::58::32::(t0.headD []++41::32::e0.headD [])))
 else if k=9 then [108,101,116]++(32::(n++32::61::32::(e0.headD []++32::([105,110]++32::e0.tail.headD []))))
 else if k=10 then [105,102]++(32::(e0.headD []++32::([116,104,101,110]++32::(e0.tail.headD []++32::([101,108,115,101]++32::e0.tail.tail.headD [])))))
 else if k=11 then 40::(e0.headD []++32::58::32::(t0.headD []++[41]))
 else []
def ZbO (q k:Nat)(b:Bs):Bs:=if lvlE k<q then 40::(b++[41]) else b
mutual
def prE:Nat→PE→Bs
 | q,.mk k _ n m ns l ts=>ZbO q k (Zcr k n m ns (prEs 0 l) (prEs 2 l) (ts.map (prT 0)))
def prEs:Nat→List PE→List Bs
 | _,[]=>[]
 | q,t::r=>prE q t::prEs q r
end
theorem Zf4 (q:Nat):∀l,prEs q l=l.map (prE q)
 | []=>by rw[prEs];rfl
 | t::r=>by rw[prEs,Zf4 q r];rfl
theorem ZaX (q k a:Nat)(n:Bs)(m:Nat)(ns:List Bs)(l:List PE)(ts:List PT):prE q (.mk k a n m ns l ts)=ZbO q k (Zcr k n m ns (l.map (prE 0)) (l.map (prE 2)) (ts.map (prT 0))):=by rw[prE,Zf4,Zf4]
def hdD (d:PD):Bs:=
 if d.k=1 then [117,115,101]++32::d.n
 else if d.k=2 then [116,121,112,101]++32::(d.n++32::61::32::(d.ts.map (prT 0)).headD [])
 else if d.k=3 then [108,101,116]++32::(d.n++((if d.ts=[] then [] else 32::58::32::(d.ts.map (prT 0)).headD [])++32::61::32::(d.es.map (prE 0)).headD []))
 else []
def prD (d:PD):Bs:=if d.k=1∨d.k=2∨d.k=3 then hdD d++[59,10] else []
def prF (l:List PD):Bs:=l.flatMap prD
/-! The same as tokens. -/
def wK (w:Bs):Tk:=⟨2,0,w⟩
def sK (s:Bs):Tk:=⟨5,0,s⟩
def nK (n:Bs):Tk:=⟨1,0,n⟩
def ZiU (k:Nat)(n:Bs)(ns:List Bs)(l0 l1 l2:List (List Tk)):List Tk:=
 if k=1 then [wK [105,110,116]] else if k=2 then [wK [98,111,111,108]] else if k=3 then [wK [116,101,120,116]] else if k=4 then [sK [63]]
 else if k=8 then [nK n]
 else if k=5 then sK [123]::(Zaz [sK [44]] (Zbz [sK [58]] (ns.map fun n=>[nK n]) l0)++[sK [125]])
 else if k=6 then l2.headD []++(sK [45,62]::l1.tail.headD [])
 else if k=7 then (if l1=[] then [nK [110,101,118,101,114]] else Zaz [sK [124]] l1)
 else []
def Ze4 (q k:Nat)(b:List Tk):List Tk:=if lvlT k<q then sK [40]::(b++[sK [41]]) else b
mutual
def uT:Nat→PT→List Tk
 | q,.mk k n ns l=>Ze4 q k (ZiU k n ns (uTs 0 l) (uTs 1 l) (uTs 2 l))
def uTs:Nat→List PT→List (List Tk)
 | _,[]=>[]
 | q,t::r=>uT q t::uTs q r
end
theorem ZfV (q:Nat):∀l,uTs q l=l.map (uT q)
 | []=>by rw[uTs];rfl
 | t::r=>by rw[uTs,ZfV q r];rfl
theorem ZfX (q k:Nat)(n:Bs)(ns:List Bs)(l:List PT):uT q (.mk k n ns l)=Ze4 q k (ZiU k n ns (l.map (uT 0)) (l.map (uT 1)) (l.map (uT 2))):=by rw[uT,ZfV,ZfV,ZfV]
def ZiV (k:Nat)(n:Bs)(m:Nat)(ns:List Bs)(e0 e2 t0:List (List Tk)):List Tk:=
 if k=1 then [⟨3,0,dig m⟩] else if k=2 then [⟨4,0,n⟩] else if k=3 then (if m=1 then [wK [116,114,117,101]] else [wK [102,97,108,115,101]])
 else if k=4 then [nK n]
 else if k=5 then sK [123]::(Zaz [sK [44]] (Zbz [sK [61]] (ns.map fun n=>[nK n]) e0)++[sK [125]])
 else if k=6 then e2.headD []++[sK [46],nK n]
 else if k=7 then e2.headD []++sK [40]::(e0.tail.headD []++[sK [41]])
 else if k=8 then wK [102,117,110]::sK [40]::nK n::sK [58]::(t0.headD []++sK [41]::e0.headD [])
 else if k=9 then wK [108,101,116]::nK n::sK [61]::(e0.headD []++wK [105,110]::e0.tail.headD [])
 else if k=10 then wK [105,102]::(e0.headD []++wK [116,104,101,110]::(e0.tail.headD []++wK [101,108,115,101]::e0.tail.tail.headD []))
 else if k=11 then sK [40]::(e0.headD []++sK [58]::(t0.headD []++[sK [41]]))
 else []
def Ze5 (q k:Nat)(b:List Tk):List Tk:=if lvlE k<q then sK [40]::(b++[sK [41]]) else b
mutual
def uE:Nat→PE→List Tk
 | q,.mk k _ n m ns l ts=>Ze5 q k (ZiV k n m ns (uEs 0 l) (uEs 2 l) (ts.map (uT 0)))
def uEs:Nat→List PE→List (List Tk)
 | _,[]=>[]
 | q,t::r=>uE q t::uEs q r
end
theorem Zhs (q:Nat):∀l,uEs q l=l.map (uE q)
 | []=>by rw[uEs];rfl
 | t::r=>by rw[uEs,Zhs q r];rfl
theorem Zc4 (q k a:Nat)(n:Bs)(m:Nat)(ns:List Bs)(l:List PE)(ts:List PT):uE q (.mk k a n m ns l ts)=Ze5 q k (ZiV k n m ns (l.map (uE 0)) (l.map (uE 2)) (ts.map (uT 0))):=by rw[uE,Zhs,Zhs]
def uD (d:PD):List Tk:=
 if d.k=1 then [wK [117,115,101],nK d.n,sK [59]]
 else if d.k=2 then wK [116,121,112,101]::nK d.n::sK [61]::((d.ts.map (uT 0)).headD []++[sK [59]])
 else if d.k=3 then wK [108,101,116]::nK d.n::((if d.ts=[] then [] else sK [58]::(d.ts.map (uT 0)).headD [])++sK [61]::((d.es.map (uE 0)).headD []++[sK [59]]))
 else []
/-! Lexing. -/
def Zr:Nat→Nat:=fun _=>0
def tz (l:Bs):List Tk:=(tk 0 l).map (Tk.pl Zr)
theorem ZlS (a:Nat)(l:Bs):(tk a l).map (Tk.pl Zr)=tz l:=by
 rw[show a=0+a by omega,tk_up,List.map_map];rfl
theorem Zie (a:Nat)(l:Bs):td a l=[]↔td 0 l=[]:=by
 have h:td a l=(td 0 l).map (Dn.pl (·+a)):=by
  have:=td_up 0 a l
  rwa [Nat.zero_add] at this
 rw[h,List.map_eq_nil_iff]
def Lz (l:Bs)(u:List Tk):Prop:=(∀c∈l,c≠10)∧∀(c:UInt8) (b:Bs),brk c=true→tz (l++c::b)=u++tz (c::b)∧(td 0 (c::b)=[]→td 0 (l++c::b)=[])
theorem Lz.nil:Lz [] []:=⟨by simp,fun c b _=>⟨rfl,id⟩⟩
theorem Lz.sg{s:UInt8}{m:Bs}{v:List Tk}(hs:isSg s=true)(h:Lz m v):Lz (s::m) (sK [s]::v):=by
 refine⟨fun c hc=>?_,fun c b hc=>?_⟩
 ·rcases List.mem_cons.1 hc with rfl | hc
  ·rintro rfl;exact absurd hs (by decide)
  ·exact h.1 c hc
 ·obtain⟨h1,h2⟩:=h.2 c b hc;refine⟨?_,fun e=>?_⟩
  ·rw[cA,tz,ZnN hs,List.map_cons,ZlS,h1];rfl
  ·rw[cA,ZnP hs,Zie];exact h2 e
theorem Lz.bl{m:Bs}{v:List Tk}(h:Lz m v):Lz (32::m) v:=by
 refine⟨fun c hc=>?_,fun c b hc=>?_⟩
 ·rcases List.mem_cons.1 hc with rfl | hc
  ·decide
  ·exact h.1 c hc
 ·obtain⟨h1,h2⟩:=h.2 c b hc;refine⟨?_,fun e=>?_⟩
  ·rw[cA,tz,ZlY (by decide),ZlS,h1]
  ·rw[cA,ZlZ (by decide),Zie];exact h2 e
theorem Lz.cut{l:Bs}{c:UInt8}{m:Bs}{u v:List Tk}(h:Lz l u)(hc:brk c=true)(k:Lz (c::m) v):Lz (l++c::m) (u++v):=by
 refine⟨fun x hx=>?_,fun x b hx=>?_⟩
 ·rcases List.mem_append.1 hx with hx | hx
  ·exact h.1 x hx
  ·exact k.1 x hx
 ·obtain⟨h1,h2⟩:=h.2 c (m++x::b) hc;obtain⟨k1,k2⟩:=k.2 x b hx;refine⟨?_,fun e=>?_⟩
  ·rw[aA,cA,h1,←cA,k1,aA]
  ·rw[aA,cA];exact h2 (by rw[←cA];exact k2 e)
theorem Zgd{l:Bs}{k:Nat}{t:Bs}(h10:∀c∈l,c≠10)(hk:k≠0)(hs:∀(c:UInt8) (b:Bs),brk c=true→Zac (l++c::b)=⟨l.length,k,t,0⟩):Lz l [⟨k,0,t⟩]:=by
 refine⟨h10,fun c b hc=>?_⟩;have e:=hs c b hc;have e1:Zaq 0 (l++c::b)=⟨0,Zac (l++c::b)⟩::Zaq (0+(Zac (l++c::b)).n) ((l++c::b).drop (Zac (l++c::b)).n):=Zbf 0 _ (by simp) (by rw[e];exact .inl hk);rw[e] at e1;have e2:(l++c::b).drop l.length=c::b:=List.drop_left;simp only[e2] at e1;refine⟨?_,fun h=>?_⟩
 ·rw[tz,tk,e1,Zb8,if_neg hk,List.map_append];show [_]++_=[_]++_
  congr 1
  exact ZlS _ _
 ·rw[td,e1,Zcu,if_pos rfl,List.nil_append];exact (Zie _ _).2 h
def NmB (n:Bs):Prop:=(∃c r,n=c::r∧ZaC c=true)∧(∀c∈n,ZaH c=true)∧Zbu n=false
theorem ZkP{c:UInt8}(h:ZaH c=true):c≠10:=by rintro rfl;exact absurd h (by decide)
theorem Zl1 (c:UInt8):ZaC c=true→Zav c=false∧c≠35:=by
 have h:=Zc6 (fun c=>!ZaC c || (!Zav c&&c !=35)) (by decide) c;intro hs
 simpa[hs] using h
theorem ZiE{w:Bs}{c:UInt8}{r:Bs}(hw:w=c::r)(hc:ZaC c=true)(ha:∀c∈w,ZaH c=true):Lz w [⟨ZaL w,0,w⟩]:=by
 refine Zgd (fun x hx=>ZkP (ha x hx)) (by unfold ZaL;split<;>decide) fun x b hx=>?_
 have hx':ZaH x=false:=by simp only[brk,Bool.and_eq_true,Bool.not_eq_true'] at hx;exact hx.1
 have e:=(Zc7 hx' b w).trans (Zcp w ha);obtain⟨n1,n2⟩:=Zl1 c hc;have e2:(w++x::b).take w.length=w:=List.take_left;have e3:Zac (c::(r++x::b))=⟨Zad ZaH (w++x::b),ZaL ((w++x::b).take (Zad ZaH (w++x::b))),(w++x::b).take (Zad ZaH (w++x::b)),0⟩:=by
  rw[hw];simp only[cA,Zac,n1,n2,hc,if_true,if_false,ff]
 rw[e,e2] at e3
 conv=>lhs;rw[hw,cA]
 exact e3
theorem Zcy{n:Bs}(h:NmB n):Lz n [nK n]:=by
 obtain⟨⟨c,r,e,hc⟩,ha,hw⟩:=h;have:=ZiE e hc ha
 rwa [show ZaL n=1 by unfold ZaL;rw[hw];rfl] at this
theorem Zca (w:Bs)(h:Zbu w=true):Lz w [wK w]:=by
 have hk:ZaL w=2:=by unfold ZaL;rw[h];rfl
 have h1:w∈words:=by simpa[Zbu] using h
 have h2:∀w∈words,(match w with | c::_=>ZaC c | []=>false)=true∧w.all ZaH=true:=by decide
 obtain⟨h3,h4⟩:=h2 w h1;cases w with
 | nil=>cases h3
 | cons c r=>
  have:=ZiE rfl h3 (by simpa using h4)
  rwa [hk] at this
theorem lw_int:Lz [105,110,116] [wK [105,110,116]]:=Zca _ (by decide)
theorem ZoD:Lz [98,111,111,108] [wK [98,111,111,108]]:=Zca _ (by decide)
theorem ZoB:Lz [116,101,120,116] [wK [116,101,120,116]]:=Zca _ (by decide)
theorem Zoz:Lz [116,114,117,101] [wK [116,114,117,101]]:=Zca _ (by decide)
theorem Zmw:Lz [102,97,108,115,101] [wK [102,97,108,115,101]]:=Zca _ (by decide)
theorem lw_fun:Lz [102,117,110] [wK [102,117,110]]:=Zca _ (by decide)
theorem ZkV:Lz [108,101,116] [wK [108,101,116]]:=Zca _ (by decide)
theorem lw_in:Lz [105,110] [wK [105,110]]:=Zca _ (by decide)
theorem lw_if:Lz [105,102] [wK [105,102]]:=Zca _ (by decide)
theorem ZoA:Lz [116,104,101,110] [wK [116,104,101,110]]:=Zca _ (by decide)
theorem ZoC:Lz [101,108,115,101] [wK [101,108,115,101]]:=Zca _ (by decide)
theorem lw_use:Lz [117,115,101] [wK [117,115,101]]:=Zca _ (by decide)
theorem Zoy:Lz [116,121,112,101] [wK [116,121,112,101]]:=Zca _ (by decide)
theorem Zmv:Lz [110,101,118,101,114] [nK [110,101,118,101,114]]:=Zcy ⟨⟨110,_,rfl,by decide⟩,by decide,by decide⟩
theorem lz_num{l:Bs}(hne:l≠[])(hl:l.length≤18)(ha:∀c∈l,ZaD c=true):Lz l [⟨3,0,l⟩]:=by
 refine Zgd (fun x hx=>ZkP (by simp[ZaH,ha x hx])) (by decide) fun x b hx=>?_
 have hx':ZaD x=false:=by
  simp only[brk,Bool.and_eq_true,Bool.not_eq_true',ZaH,Bool.or_eq_false_iff] at hx;exact hx.1.2
 have e:=(Zc7 hx' b l).trans (Zcp l ha);have e2:(l++x::b).take l.length=l:=List.take_left;cases l with
 | nil=>exact absurd rfl hne
 | cons c r=>
  have hc:=ha c (by simp);have h:=Zc6 (fun c=>!ZaD c || (!Zav c&&c !=35&&!ZaC c)) (by decide) c;have h:Zav c=false∧c≠35∧ZaC c=false:=by
   have:((!Zav c)=true∧(c !=35)=true)∧(!ZaC c)=true:=by simpa[hc] using h
   simpa[and_assoc] using this
  have e3:Zac (c::(r++x::b))=(if 18<Zad ZaD (c::r++x::b) then ⟨Zad ZaD (c::r++x::b),3,[48],13⟩ else ⟨Zad ZaD (c::r++x::b),3,(c::r++x::b).take (Zad ZaD (c::r++x::b)),0⟩):=by
   simp only[cA,Zac,h.1,h.2.1,h.2.2,hc,if_true,if_false,ff]
  rw[e,if_neg (by omega),e2] at e3;rw[cA];exact e3
theorem Zfn (t:Bs)(r:Bs)(ha:∀c∈t,Zal c=true):Zad Zal (t++34::r)=t.length:=by
 rw[ZeQ t (34::r) (Zcp t ha)];simp[Zad,Zal]
theorem Zox{t:Bs}(ha:∀c∈t,Zal c=true):Lz (34::(t++[34])) [⟨4,0,t⟩]:=by
 refine Zgd (fun x hx=>?_) (by decide) fun x b hx=>?_
 ·simp only[List.mem_cons,List.mem_append,List.not_mem_nil,or_false] at hx;rcases hx with rfl | hx | rfl
  ·decide
  ·rintro rfl;exact absurd (ha _ hx) (by decide)
  ·decide
 ·have e:(34::(t++[34]))++x::b=34::(t++34::(x::b)):=by simp
  rw[e,ZeP,Zfn t _ ha,if_pos (by simp)];simp
theorem Lz.arrow{m:Bs}{v:List Tk}(h:Lz m v):Lz (45::62::m) (sK [45,62]::v):=by
 refine⟨fun c hc=>?_,fun c b hc=>?_⟩
 ·rcases List.mem_cons.1 hc with rfl | hc
  ·decide
  rcases List.mem_cons.1 hc with rfl | hc
  ·decide
  ·exact h.1 c hc
 ·obtain⟨h1,h2⟩:=h.2 c b hc;have e:∀r:Bs,Zac (45::62::r)=⟨2,5,[45,62],0⟩:=fun r=>by
   simp only[Zac,show Zav 45=false by decide,show (45:UInt8)≠35 by decide,show ZaC 45=false by decide,show ZaD 45=false by decide,show (45:UInt8)≠34 by decide,if_false,ff,List.head?_cons,and_self,if_true]
  have e1:∀r:Bs,Zaq 0 (45::62::r)=⟨0,⟨2,5,[45,62],0⟩⟩::Zaq 2 r:=fun r=>by
   rw[Zbf 0 _ (by simp) (by rw[e];exact .inl (by decide)),e];rfl
  refine⟨?_,fun h=>?_⟩
  ·rw[cA,cA,tz,tk,e1,Zb8,if_neg (by decide),List.map_append,cA,←h1];show [_]++_=_;rw[List.singleton_append]
   congr 1
   exact ZlS _ _
  ·rw[cA,cA,td,e1,Zcu,if_pos rfl,List.nil_append];exact (Zie _ _).2 (h2 h)
inductive Lzs:List Bs→List (List Tk)→Prop
 | nil:Lzs [] []
 | cons {x u xs us}(h:Lz x u) (hs:Lzs xs us):Lzs (x::xs) (u::us)
theorem Lzs.headD{xs:List Bs}{us:List (List Tk)}(h:Lzs xs us):Lz (xs.headD []) (us.headD []):=by
 cases h with
 | nil=>exact .nil
 | cons h _=>exact h
theorem Lzs.tail{xs:List Bs}{us:List (List Tk)}(h:Lzs xs us):Lzs xs.tail us.tail:=by
 cases h with
 | nil=>exact .nil
 | cons _ h=>exact h
theorem Lzs.map{α:Type}{f:α→Bs}{g:α→List Tk}:∀l:List α,(∀x∈l,Lz (f x) (g x))→Lzs (l.map f) (l.map g)
 | [],_=>.nil
 | x::r,h=>.cons (h x (by simp)) (Lzs.map r fun y hy=>h y (by simp[hy]))
theorem Lzs.join{c:UInt8}{s:Bs}{v:List Tk}(hc:brk c=true)(hs:∀m u,Lz m u→Lz (c::(s++m)) (v++u)){xs:List Bs}{us:List (List Tk)}(h:Lzs xs us):Lz (Zaz (c::s) xs) (Zaz v us):=by
 induction h with
 | nil=>exact .nil
 | @cons x u xs us h1 h2 ih=>
  cases h2 with
  | nil=>exact h1
  | cons h3 h4=>exact h1.cut hc (hs _ _ ih)
theorem Lzs.pair{c:UInt8}{s:Bs}{v:List Tk}(hc:brk c=true)(hs:∀m u,Lz m u→Lz (c::(s++m)) (v++u)):∀(ns:List Bs) (xs:List Bs) (us:List (List Tk)),(∀n∈ns,NmB n)→Lzs xs us→Lzs (Zbz (c::s) ns xs) (Zbz v (ns.map fun n=>[nK n]) us)
 | [],_,_,_,_=>.nil
 | n::ns,xs,us,hn,h=>.cons ((Zcy (hn n (by simp))).cut hc (hs _ _ h.headD)) (Lzs.pair hc hs ns _ _ (fun m hm=>hn m (by simp[hm])) h.tail)
inductive VT:PT→Prop
 | mk {k:Nat}{n:Bs}{ns:List Bs}{l:List PT}(h1:k=8→NmB n) (h2:∀x∈ns,NmB x) (h3:∀x∈l,VT x):VT (.mk k n ns l)
theorem lz_T{t:PT}(h:VT t):∀q,Lz (prT q t) (uT q t):=by
 induction h with
 | @mk k n ns l h1 h2 h3 ih=>
  intro q;have hb:Lz (ZdZ k n ns (l.map (prT 0)) (l.map (prT 1)) (l.map (prT 2))) (ZiU k n ns (l.map (uT 0)) (l.map (uT 1)) (l.map (uT 2))):=by
   have L:∀q,Lzs (l.map (prT q)) (l.map (uT q)):=fun q=>Lzs.map l fun x hx=>ih x hx q
   unfold ZdZ ZiU;by_cases e:k=1
   ·subst e;exact lw_int
   by_cases e:k=2
   ·subst e;exact ZoD
   by_cases e:k=3
   ·subst e;exact ZoB
   by_cases e:k=4
   ·subst e;exact .sg (by decide) .nil
   by_cases e:k=8
   ·have:=Zcy (h1 e);subst e;exact this
   by_cases e:k=5
   ·subst e;exact .sg (by decide) (.cut (Lzs.join (by decide) (fun m u h=>.sg (by decide) h.bl) (Lzs.pair (by decide) (fun m u h=>.sg (by decide) h.bl) ns _ _ h2 (L 0))) (by decide) (.sg (by decide) .nil))
   by_cases e:k=6
   ·subst e;exact .cut (L 2).headD (by decide) (.bl (.arrow (.bl (L 1).tail.headD)))
   by_cases e:k=7
   ·subst e;by_cases hl:l=[]
    ·subst hl;exact Zmv
    ·have hl1:¬l.map (prT 1)=[]:=by simpa using hl
     have hl2:¬l.map (uT 1)=[]:=by simpa using hl
     simp only[hl1,hl2,if_false];exact Lzs.join (by decide) (fun m u h=>.bl (.sg (by decide) h.bl)) (L 1)
   ·simp only[*,if_false];exact .nil
  rw[Zb2,ZfX,Zcm,Ze4];split
  ·exact .sg (by decide) (.cut hb (by decide) (.sg (by decide) .nil))
  ·exact hb
inductive VE:PE→Prop
 | mk {k a:Nat}{n:Bs}{m:Nat}{ns:List Bs}{l:List PE}{ts:List PT}(h0:k=1→(dig m).length≤18) (h4:k=2→∀c∈n,Zal c=true) (h1:k=4∨k=6∨k=8∨k=9→NmB n) (h2:∀x∈ns,NmB x) (h5:∀x∈ts,VT x) (h3:∀x∈l,VE x):VE (.mk k a n m ns l ts)
theorem dig_ne (m:Nat):dig m≠[]:=by
 rw[dig];split<;>simp
theorem Zhi (m:Nat)(h:m<10):ZaD (48+m).toUInt8=true:=by
 have:∀m:Nat,m<10→ZaD (48+m).toUInt8=true:=by decide
 exact this m h
theorem ZfR (m:Nat):∀c∈dig m,ZaD c=true:=by
 induction m using Nat.strongRecOn with
 | ind m ih=>
  rw[dig];split
  next h=>intro c hc;simp only[List.mem_singleton] at hc;subst hc;exact Zhi m h
  next h=>
   intro c hc;rcases List.mem_append.1 hc with hc | hc
   ·exact ih (m/10) (by omega) c hc
   ·simp only[List.mem_singleton] at hc;subst hc;exact Zhi _ (Nat.mod_lt _ (by omega))
theorem lz_E{x:PE}(h:VE x):∀q,Lz (prE q x) (uE q x):=by
 induction h with
 | @mk k a n m ns l ts h0 h4 h1 h2 h5 h3 ih=>
  intro q;have hb:Lz (Zcr k n m ns (l.map (prE 0)) (l.map (prE 2)) (ts.map (prT 0))) (ZiV k n m ns (l.map (uE 0)) (l.map (uE 2)) (ts.map (uT 0))):=by
   have L:∀q,Lzs (l.map (prE q)) (l.map (uE q)):=fun q=>Lzs.map l fun x hx=>ih x hx q
   have T:Lzs (ts.map (prT 0)) (ts.map (uT 0)):=Lzs.map ts fun x hx=>lz_T (h5 x hx) 0
   unfold Zcr ZiV;by_cases e:k=1
   ·have:=lz_num (dig_ne m) (h0 e) (ZfR m);subst e;exact this
   by_cases e:k=2
   ·have:=Zox (h4 e);subst e;exact this
   by_cases e:k=3
   ·subst e;by_cases hm:m=1
    ·subst hm;exact Zoz
    ·simp only[hm,if_false];exact Zmw
   by_cases e:k=4
   ·have:=Zcy (h1 (.inl e));subst e;exact this
   by_cases e:k=5
   ·subst e;exact .sg (by decide) (.cut (Lzs.join (by decide) (fun m u h=>.sg (by decide) h.bl) (Lzs.pair (by decide) (fun m u h=>.bl (.sg (by decide) h.bl)) ns _ _ h2 (L 0))) (by decide) (.sg (by decide) .nil))
   by_cases e:k=6
   ·have hn:=Zcy (h1 (.inr (.inl e)));subst e;exact .cut (L 2).headD (by decide) (.sg (by decide) hn)
   by_cases e:k=7
   ·subst e;exact .cut (L 2).headD (by decide) (.sg (by decide) (.cut (L 0).tail.headD (by decide) (.sg (by decide) .nil)))
   by_cases e:k=8
   ·have hn:=Zcy (h1 (.inr (.inr (.inl e))));subst e;exact .cut (u:=[_]) lw_fun (by decide) (.bl (.sg (by decide) (.cut (u:=[_]) hn (by decide) (.bl (.sg (by decide) (.bl (.cut T.headD (by decide) (.sg (by decide) (.bl (L 0).headD)))))))))
   by_cases e:k=9
   ·have hn:=Zcy (h1 (.inr (.inr (.inr e))));subst e;exact .cut (u:=[_]) ZkV (by decide) (.bl (.cut (u:=[_]) hn (by decide) (.bl (.sg (by decide) (.bl (.cut (L 0).headD (by decide) (.bl (.cut (u:=[_]) lw_in (by decide) (.bl (L 0).tail.headD)))))))))
   by_cases e:k=10
   ·subst e;exact .cut (u:=[_]) lw_if (by decide) (.bl (.cut (L 0).headD (by decide) (.bl (.cut (u:=[_]) ZoA (by decide) (.bl (.cut (L 0).tail.headD (by decide) (.bl (.cut (u:=[_]) ZoC (by decide) (.bl (L 0).tail.tail.headD)))))))))
   by_cases e:k=11
   ·subst e;exact .sg (by decide) (.cut (L 0).headD (by decide) (.bl (.sg (by decide) (.bl (.cut T.headD (by decide) (.sg (by decide) .nil))))))
   ·simp only[*,if_false];exact .nil
  rw[ZaX,Zc4,ZbO,Ze5];split
  ·exact .sg (by decide) (.cut hb (by decide) (.sg (by decide) .nil))
  ·exact hb
def TkOk (t:Tk):Prop:=(t.k=1→NmB t.t)∧(t.k=3→NumT t.t)∧(t.k=4→∀c∈t.t,Zal c=true)
def Oks (ts:List Tk):Prop:=∀t∈ts,TkOk t
def wt (ts:List Tk):Nat:=(ts.map fun t=>t.t.length+2).sum
theorem Zhq (t:Tk)(ts:List Tk):wt (t::ts)=t.t.length+2+wt ts:=by simp[wt]
theorem Oks.tail{ts:List Tk}(h:Oks ts):Oks ts.tail:=fun t ht=>h t (List.mem_of_mem_tail ht)
theorem R.bind_ok_inv{α β:Type}{x:R α}{f:α→List Tk→R β}{b:β}{r:List Tk}{d:List Dn}(h:x.bind f=.ok b r d):∃a r' d1 d2,x=.ok a r' d1∧f a r'=.ok b r d2:=by
 cases x with
 | bad y r' d'=>cases h
 | ok a r' d'=>
  rw[R.bind_ok] at h;cases hf:f a r' with
  | bad y r2 d2=>rw[hf] at h;cases h
  | ok b2 r2 d2=>
   rw[hf] at h;cases h;exact⟨a,r',d',d2,rfl,hf⟩
theorem R.tell_ok_inv{β:Type}{x:R β}{e:List Dn}{b:β}{r:List Tk}{d:List Dn}(h:x.tell e=.ok b r d):∃d',x=.ok b r d':=by
 cases x with
 | bad y r' d'=>cases h
 | ok a r' d'=>cases h;exact⟨d',rfl⟩
theorem ZdU{ts:List Tk}{k:Nat}(h:(hd ts).k=k)(hk:k≠6)(ho:Oks ts):TkOk (hd ts)∧Oks ts.tail∧wt ts=(hd ts).t.length+2+wt ts.tail:=by
 obtain⟨t,r,rfl⟩:=Zg9 h hk;exact⟨ho t (by simp),ho.tail,Zhq t r⟩
theorem Zbd{m:Bs}{ts:List Tk}(h:isM m ts=true)(ho:Oks ts):Oks ts.tail∧wt ts=m.length+2+wt ts.tail:=by
 obtain⟨t,r,rfl⟩:=Zgi h;refine⟨ho.tail,?_⟩;rw[Zhq];have:t.t=m:=by
  simp only[isM,Bool.and_eq_true,beq_iff_eq] at h;exact h.2
 rw[this];rfl
theorem ZaR{m:Bs}{ts:List Tk}{a:Unit}{r:List Tk}{d:List Dn}(h:want m ts=.ok a r d)(ho:Oks ts):Oks r∧wt ts=m.length+2+wt r:=by
 unfold want at h;split at h
 next hm=>cases h;exact Zbd hm ho
 next=>cases h
theorem ZcF{ts:List Tk}{a:Tk}{r:List Tk}{d:List Dn}(h:Zaj ts=.ok a r d)(ho:Oks ts):NmB a.t∧Oks r∧wt ts=a.t.length+2+wt r:=by
 unfold Zaj at h;split at h
 next hm=>
  cases h;obtain⟨h1,h2,h3⟩:=ZdU hm (by decide) ho;exact⟨h1.1 hm,h2,h3⟩
 next=>cases h
section
variable {α : Type}
def sG (c:α→Nat)(l:List (Bs×α)):Nat:=(l.map fun x=>x.1.length+c x.2+5).sum
theorem Zke (c:α→Nat)(l k:List (Bs×α)):sG c (l++k)=sG c l+sG c k:=by simp[sG]
theorem Zn0 (c:α→Nat)(l:List (Bs×α)):sG c (Zb1 l)=sG c l:=((ZbY l).map _).sum_nat
theorem Zfd{sign:Bs}{read:List Tk→R α}{P:α→Prop}{c:α→Nat}(hr:∀ts x r d,Oks ts→read ts=.ok x r d→P x∧Oks r∧c x+wt r≤wt ts)(hs:sign.length=1) :
  ∀(n:Nat) (seen:List Bs) (acc:List (Bs×α)) (ts:List Tk) (l:List (Bs×α)) (r:List Tk) (d:List Dn),Oks ts→(∀x∈acc,NmB x.1∧P x.2)→ZaA sign read n seen acc ts=.ok l r d→(∀x∈l,NmB x.1∧P x.2)∧Oks r∧sG c l+wt r≤sG c acc+wt ts
 | 0,seen,acc,ts,l,r,d,ho,ha,h=>by
  cases h;exact⟨ha,ho,nl _⟩
 | n+1,seen,acc,ts,l,r,d,ho,ha,h=>by
  rw[ZaA] at h;obtain⟨nm,r1,_,_,e1,h⟩:=R.bind_ok_inv h;obtain⟨n1,o1,w1⟩:=ZcF e1 ho;obtain⟨_,h⟩:=R.tell_ok_inv h;obtain⟨_,r2,_,_,e2,h⟩:=R.bind_ok_inv h;obtain⟨o2,w2⟩:=ZaR e2 o1;obtain⟨v,r3,_,_,e3,h⟩:=R.bind_ok_inv h;obtain⟨p3,o3,w3⟩:=hr _ _ _ _ o2 e3;have ha':∀x∈(if nm.t∈seen then acc else acc++[(nm.t,v)]),NmB x.1∧P x.2:=by
   split
   ·exact ha
   ·intro x hx;rcases List.mem_append.1 hx with hx | hx
    ·exact ha x hx
    ·simp only[List.mem_singleton] at hx;subst hx;exact⟨n1,p3⟩
  have hc:sG c (if nm.t∈seen then acc else acc++[(nm.t,v)])≤sG c acc+(nm.t.length+c v+5):=by
   split
   ·omega
   ·rw[Zke];simp[sG]
  split at h
  next hm=>
   obtain⟨o4,w4⟩:=Zbd hm o3;obtain⟨q1,q2,q3⟩:=Zfd hr hs n _ _ _ l r _ o4 ha' h;refine⟨q1,q2,?_⟩;simp only[lC,lN] at w4;omega
  next=>
   obtain⟨_,r4,_,_,e4,h⟩:=R.bind_ok_inv h;obtain⟨o4,w4⟩:=ZaR e4 o3;cases h;refine⟨ha',o4,?_⟩;simp only[lC,lN] at w4;omega
theorem ZgQ{sign:Bs}{read:List Tk→R α}{P:α→Prop}{c:α→Nat}(hr:∀ts x r d,Oks ts→read ts=.ok x r d→P x∧Oks r∧c x+wt r≤wt ts)(hs:sign.length=1){ts:List Tk}{l:List (Bs×α)}{r:List Tk}{d:List Dn}(ho:Oks ts)(h:Zbh sign read ts=.ok l r d):(∀x∈l,NmB x.1∧P x.2)∧Oks r∧sG c l+wt r≤wt ts:=by
 unfold Zbh at h;split at h
 next hm=>
  cases h;obtain⟨o1,w1⟩:=Zbd hm ho;exact⟨by simp,o1,by simp[sG];omega⟩
 next=>
  have:=Zfd hr hs _ _ _ _ _ _ _ ho (by simp) h
  simpa[sG] using this
theorem Ze7{β:Type}(s:List β):∀l:List (List β),(Zaz s l).length≤(l.map fun x=>x.length+s.length).sum
 | []=>by simp[Zaz]
 | [x]=>by simp[Zaz]
 | x::y::r=>by
  have:=Ze7 s (y::r);rw[Zaz];simp only[lA,List.map_cons,List.sum_cons] at this⊢;omega
theorem Ziy{f:α→Bs}{sg:Bs}(hs:sg.length≤3):∀l:List (Bs×α),((Zbz sg (l.map (·.1)) (l.map fun x=>f x.2)).map fun x=>x.length+2).sum≤sG (fun x=>(f x).length) l
 | []=>by simp[Zbz,sG]
 | x::r=>by
  have:=Ziy (f:=f) hs r;simp only[List.map_cons,Zbz,List.headD_cons,List.tail_cons,List.sum_cons,lA,sG] at this⊢;omega
theorem Zkn{f:α→Bs}{sg:Bs}(hs:sg.length≤3)(l:List (Bs×α)):(Zaz [44,32] (Zbz sg (l.map (·.1)) (l.map fun x=>f x.2))).length≤sG (fun x=>(f x).length) l:=
 Nat.le_trans (Ze7 _ _) (Ziy hs l)
theorem Zgh (m:Bs)(r:List Tk):isM m (sK m::r)=true:=by simp[isM,hd,sK]
theorem isM_w (m:Bs)(r:List Tk):isM m (wK m::r)=true:=by simp[isM,hd,wK]
theorem ZcZ (m:Bs)(r:List Tk):want m (sK m::r)=.ok () r []:=by rw[want,Zgh];rfl
theorem ZjN (m:Bs)(r:List Tk):want m (wK m::r)=.ok () r []:=by rw[want,isM_w];rfl
theorem ZkU (m:Bs)(r:List Tk):Zaj (nK m::r)=.ok (nK m) r []:=rfl
theorem Zfg{sign:Bs}{read:List Tk→R α}(u:α→List Tk)(g:α→α):∀(l:List (Bs×α)) (n:Nat) (seen:List Bs) (acc:List (Bs×α)) (r:List Tk),
  l≠[]→l.length≤n→(l.map (·.1)).Nodup→(∀x∈l,x.1∉seen)→(∀x∈l,∀q,(isM [44] q=true∨isM [125] q=true)→read (u x.2++q)=.ok (g x.2) q [])→
  ZaA sign read n seen acc (Zaz [sK [44]] (Zbz [sK sign] ((l.map (·.1)).map fun n=>[nK n]) (l.map fun x=>u x.2))++sK [125]::r)=.ok (acc++l.map fun x=>(x.1,g x.2)) r []
 | [],_,_,_,_,h,_,_,_,_=>absurd rfl h
 | x::l,0,_,_,_,_,h,_,_,_=>by simp at h
 | [x],n+1,seen,acc,r,_,_,_,hs,hr=>by
  have h1:=hr x (by simp) (sK [125]::r) (.inr (Zgh _ _));have hi:isM [44] (sK [125]::r)=false:=rfl;have hx:x.1∉seen:=hs x (by simp);simp only[List.map_cons,List.map_nil,Zbz,Zaz,List.headD_cons,cA,List.nil_append];rw[ZaA,ZkU,R.bind_ok,ZcZ,R.bind_ok,h1,R.bind_ok,hi,ZcZ,R.bind_ok];have hx':¬(nK x.1).t∈seen:=hx;simp only[if_neg hx',R.tell_nil,ff,if_false];rfl
 | x::y::l,n+1,seen,acc,r,_,hn,hd,hs,hr=>by
  obtain⟨d1,d2⟩:=List.nodup_cons.1 (by rw[List.map_cons] at hd;exact hd);have hx:x.1∉seen:=hs x (by simp);have ih:=Zfg (sign:=sign) (read:=read) u g (y::l) n (x.1::seen) (acc++[(x.1,g x.2)]) r (by simp) (by simpa using hn) d2 (fun z hz=>by
   simp only[List.mem_cons,not_or];refine⟨fun e=>d1 (e▸List.mem_map_of_mem hz),hs z (by simp[List.mem_cons.1 hz])⟩) (fun z hz=>hr z (by simp[List.mem_cons.1 hz]))
  generalize hq:Zaz [sK [44]] (Zbz [sK sign] (((y::l).map (·.1)).map fun n=>[nK n]) ((y::l).map fun x=>u x.2))=q at ih
  have e:Zaz [sK [44]] (Zbz [sK sign] (((x::y::l).map (·.1)).map fun n=>[nK n]) ((x::y::l).map fun x=>u x.2))++sK [125]::r=nK x.1::sK sign::(u x.2++sK [44]::(q++sK [125]::r)):=by
   rw[←hq];simp only[List.map_cons,Zbz,Zaz,List.headD_cons,List.tail_cons,cA,List.nil_append,aA]
  have h1:=hr x (by simp) (sK [44]::(q++sK [125]::r)) (.inl (Zgh _ _));rw[e,ZaA,ZkU,R.bind_ok,ZcZ,R.bind_ok,h1,R.bind_ok,Zgh,if_pos rfl];have hx':¬(nK x.1).t∈seen:=hx;simp only[if_neg hx',R.tell_nil,List.tail_cons];refine Eq.trans ih ?_;simp
theorem ZgT{sign:Bs}{read:List Tk→R α}(u:α→List Tk)(g:α→α)(l:List (Bs×α))(r:List Tk)(hd:(l.map (·.1)).Nodup)(hr:∀x∈l,∀q,(isM [44] q=true∨isM [125] q=true)→read (u x.2++q)=.ok (g x.2) q []) :
  Zbh sign read (Zaz [sK [44]] (Zbz [sK sign] ((l.map (·.1)).map fun n=>[nK n]) (l.map fun x=>u x.2))++sK [125]::r)=.ok (l.map fun x=>(x.1,g x.2)) r []:=by
 cases l with
 | nil=>rfl
 | cons x l=>
  have hl:∀k:List (Bs×α),k.length≤(Zaz [sK [44]] (Zbz [sK sign] ((k.map (·.1)).map fun n=>[nK n]) (k.map fun x=>u x.2))++sK [125]::r).length:=by
   intro k
   induction k with
   | nil=>simp
   | cons y k ih=>
    cases k with
    | nil=>simp;omega
    | cons z k=>
     simp only[List.map_cons,Zbz,Zaz,List.headD_cons,List.tail_cons,cA,List.nil_append,aA,lC,lA] at ih⊢;omega
  have h:=Zfg (sign:=sign) (read:=read) u g (x::l) _ [] [] r (by simp) (hl _) hd (by simp) hr;have e:isM [125] (Zaz [sK [44]] (Zbz [sK sign] (((x::l).map (·.1)).map fun n=>[nK n]) ((x::l).map fun x=>u x.2))++sK [125]::r)=false:=by
   cases l<;>rfl
  rw[Zbh,e,if_neg (by decide),h];simp
end
def PT.kd:PT→Nat | .mk k _ _ _=>k
def R0 (n:Nat)(t:PT):Prop:=∀m,n≤m→∀r,isM [45,62] r=false→isM [124] r=false→typ m (uT 0 t++r)=.ok t r []
def R1 (n:Nat)(t:PT):Prop:=∀m,n≤m→∀r,isM [45,62] r=false→arr m (uT 1 t++r)=.ok t r []
def R2 (n:Nat)(t:PT):Prop:=∀m,n≤m→∀r,Za9 (typ m) (uT 2 t++r)=.ok t r []
theorem ZnF (n:Nat)(ts:List Tk):typ (n+1) ts=(arr (n+1) ts).bind fun t r=>(ZaV (arr (n+1)) r.length [t] r).bind fun l r=>.ok (Zeb l) r []:=rfl
theorem Zpd (n:Nat)(ts:List Tk):arr (n+1) ts=(Za9 (typ n) ts).bind fun t r=>if isM [45,62] r then (arr n r.tail).bind fun u r=>.ok (.mk 6 [] [] [t,u]) r [] else .ok t r []:=rfl
theorem ZfW{q q':Nat}{t:PT}(h:lvlT t.kd<q↔lvlT t.kd<q'):uT q t=uT q' t:=by
 obtain⟨k,n,ns,l⟩:=t;rw[ZfX,ZfX,Ze4,Ze4];have h:lvlT k<q↔lvlT k<q':=h;by_cases e:lvlT k<q
 ·rw[if_pos e,if_pos (h.1 e)]
 ·rw[if_neg e,if_neg (fun e'=>e (h.2 e'))]
theorem ZlQ{q:Nat}{t:PT}(h:lvlT t.kd<q):uT q t=sK [40]::(uT 0 t++[sK [41]]):=by
 obtain⟨k,n,ns,l⟩:=t;have h:lvlT k<q:=h;rw[ZfX,ZfX,Ze4,Ze4,if_pos h,if_neg (by omega)]
theorem Zis{n:Nat}{t:PT}(h:R2 n t)(e:uT 1 t=uT 2 t):R1 (n+1) t:=by
 intro m hm r h1;obtain⟨m,rfl⟩:∃m',m=m'+1:=⟨m-1,by omega⟩;rw[e,Zpd,h m (by omega),R.bind_ok,h1];rfl
theorem Zit{n:Nat}{t:PT}(h:R1 n t)(e:uT 0 t=uT 1 t):R0 n t:=by
 intro m hm r h1 h2;cases m with
 | zero=>have:=h 0 hm [] rfl;cases this
 | succ m=>
  rw[e,ZnF,h (m+1) hm r h1,R.bind_ok];have:ZaV (arr (m+1)) r.length [t] r=.ok [t] r []:=by
   cases hr:r.length with
   | zero=>rfl
   | succ k=>rw[ZaV,h2];rfl
  rw[this];rfl
theorem ZhF{n:Nat}{Z r:List Tk}{t:PT}(h:typ n Z=.ok t (sK [41]::r) []):Za9 (typ n) (sK [40]::Z)=.ok t r []:=by
 have h1:Za9 (typ n) (sK [40]::Z)=(typ n Z).bind fun t r=>(want [41] r).bind fun _ r=>.ok t r []:=rfl
 rw[h1,h,R.bind_ok,ZcZ];rfl
theorem Zir{n:Nat}{t:PT}(h:R0 n t)(e:lvlT t.kd<2):R2 n t:=by
 intro m hm r;rw[ZlQ e,cA,aA];exact ZhF (h m hm _ rfl rfl)
theorem R0.mono{n m:Nat}{t:PT}(h:R0 n t)(hm:n≤m):R0 m t:=fun k hk=>h k (Nat.le_trans hm hk)
theorem R1.mono{n m:Nat}{t:PT}(h:R1 n t)(hm:n≤m):R1 m t:=fun k hk=>h k (Nat.le_trans hm hk)
theorem R2.mono{n m:Nat}{t:PT}(h:R2 n t)(hm:n≤m):R2 m t:=fun k hk=>h k (Nat.le_trans hm hk)
theorem Znp (k:Nat):lvlT k≤2:=by unfold lvlT;split<;>(try split)<;>omega
theorem ZkC (t:PT):(prT 0 t).length≤(prT 1 t).length∧(prT 1 t).length≤(prT 2 t).length∧(prT 2 t).length≤(prT 0 t).length+2:=by
 obtain⟨k,n,ns,l⟩:=t;rw[Zb2,Zb2,Zb2,Zcm,Zcm,Zcm];have:∀b:Bs,(40::(b++[41])).length=b.length+2:=by simp
 by_cases h0:lvlT k=0
 ·rw[if_neg (by omega),if_pos (by omega),if_pos (by omega),this];omega
 by_cases h1:lvlT k=1
 ·rw[if_neg (by omega),if_neg (by omega),if_pos (by omega),this];omega
 ·have:=Znp k;rw[if_neg (by omega),if_neg (by omega),if_neg (by omega)];omega
theorem Zd0{n:Nat}{t:PT}(h:R2 n t)(e:lvlT t.kd=2):R0 (n+1) t∧R1 (n+1) t∧R2 n t:=by
 have h1:=Zis h (ZfW (by omega));exact⟨Zit h1 (ZfW (by omega)),h1,h⟩
theorem kd6{k:Nat}(h:lvlT k=1):k=6:=by
 unfold lvlT at h;split at h
 ·omega
 split at h
 ·assumption
 ·omega
def AT (n:Nat)(ts:List Tk):Prop:=∀t r d,typ n ts=.ok t r d→VT t∧Oks r∧(prT 0 t).length+wt r≤wt ts∧R0 n t∧R2 n t∧(t.kd≠7→R1 n t)
def BT (n:Nat)(ts:List Tk):Prop:=∀t r d,arr n ts=.ok t r d→VT t∧Oks r∧(prT 1 t).length+wt r≤wt ts∧R0 n t∧R1 n t∧R2 n t
def CT (n:Nat)(ts:List Tk):Prop:=∀t r d,Za9 (typ n) ts=.ok t r d→VT t∧Oks r∧(prT 2 t).length+wt r≤wt ts∧R0 (n+1) t∧R1 (n+1) t∧R2 n t
theorem Zob{fs:List (Bs×PT)}(h:∀x∈fs,NmB x.1∧VT x.2):VT (recT fs):=by
 refine .mk (fun e=>by cases e) (fun x hx=>?_) (fun x hx=>?_)
 ·obtain⟨y,hy,rfl⟩:=List.mem_map.1 hx;exact (h y ((ZbY fs).mem_iff.1 hy)).1
 ·obtain⟨y,hy,rfl⟩:=List.mem_map.1 hx;exact (h y ((ZbY fs).mem_iff.1 hy)).2
theorem Zmo{n:Nat}(H:∀ts,Oks ts→AT n ts)(ts:List Tk)(ho:Oks ts):CT n ts:=by
 intro t r d h;unfold Za9 at h;split at h
 next h1=>
  cases h;obtain⟨o1,o2,o3⟩:=ZdU h1 (by decide) ho;have e2:uT 2 (.mk 8 (hd ts).t [] [])=[nK (hd ts).t]:=by rw[ZfX];rfl
  refine⟨.mk (fun _=>o1.1 h1) (by simp) (by simp),o2,?_,Zd0 (fun m _ r=>?_) rfl⟩
  ·rw[Zb2];simp only[Zcm,lvlT,ZdZ];simp;omega
  ·rw[e2];rfl
 split at h
 next h1=>
  cases h;obtain⟨o2,o3⟩:=Zbd h1 ho;refine⟨.mk (fun e=>by cases e) (by simp) (by simp),o2,?_,Zd0 (fun m _ r=>rfl) rfl⟩;rw[o3,show prT 2 tInt=[105,110,116] from rfl];simp
 split at h
 next h1=>
  cases h;obtain⟨o2,o3⟩:=Zbd h1 ho;refine⟨.mk (fun e=>by cases e) (by simp) (by simp),o2,?_,Zd0 (fun m _ r=>rfl) rfl⟩;rw[o3,show prT 2 ZgI=[98,111,111,108] from rfl];simp
 split at h
 next h1=>
  cases h;obtain⟨o2,o3⟩:=Zbd h1 ho;refine⟨.mk (fun e=>by cases e) (by simp) (by simp),o2,?_,Zd0 (fun m _ r=>rfl) rfl⟩;rw[o3,show prT 2 Zj2=[116,101,120,116] from rfl];simp
 split at h
 next h1=>
  cases h;obtain⟨o2,o3⟩:=Zbd h1 ho;refine⟨.mk (fun e=>by cases e) (by simp) (by simp),o2,?_,Zd0 (fun m _ r=>rfl) rfl⟩;rw[o3,show prT 2 tDyn=[63] from rfl];simp
 split at h
 next h1=>
  obtain⟨o2,o3⟩:=Zbd h1 ho;obtain⟨fs,r1,_,_,e1,h⟩:=R.bind_ok_inv h;cases h;obtain⟨q1,q2,q3⟩:=ZgQ (P:=fun t=>VT t∧R0 n t) (c:=fun t=>(prT 0 t).length) (fun ts x r d ho h=>by
   obtain⟨a1,a2,a3,a4,-⟩:=H ts ho x r d h;exact⟨⟨a1,a4⟩,a2,a3⟩) rfl o2 e1
  have hn:=Zdo e1;refine⟨Zob fun x hx=>⟨(q1 x hx).1,(q1 x hx).2.1⟩,q2,?_,Zd0 (fun m hm r=>?_) rfl⟩
  ·have h2:=Zkn (f:=prT 0) (sg:=[58,32]) (by decide) (Zb1 fs);rw[Zn0] at h2;have h3:prT 2 (recT fs)=123::(Zaz [44,32] (Zbz [58,32] ((Zb1 fs).map (·.1)) ((Zb1 fs).map fun x=>prT 0 x.2))++[125]):=by
    rw[recT,Zb2,List.map_map,List.map_map,List.map_map];rfl
   rw[h3,o3];simp only[lC,lA,lN];omega
  ·have h3:uT 2 (recT fs)=sK [123]::(Zaz [sK [44]] (Zbz [sK [58]] (((Zb1 fs).map (·.1)).map fun n=>[nK n]) ((Zb1 fs).map fun x=>uT 0 x.2))++[sK [125]]):=by
    rw[recT,ZfX,List.map_map,List.map_map,List.map_map];rfl
   have hp:=ZbY fs;have hb:=ZgT (sign:=[58]) (read:=typ m) (uT 0) id (Zb1 fs) r ((hp.map _).nodup_iff.2 hn) (fun x hx q hq=>by
    refine (q1 x (hp.mem_iff.1 hx)).2.2 m hm q ?_ ?_
    ·rcases hq with hq | hq<;>simp only[isM,Bool.and_eq_true,beq_iff_eq] at hq<;>simp[isM,hq.2]
    ·rcases hq with hq | hq<;>simp only[isM,Bool.and_eq_true,beq_iff_eq] at hq<;>simp[isM,hq.2])
   rw[h3,cA,aA,List.singleton_append];have h4:∀Z,Za9 (typ m) (sK [123]::Z)=(Zbh [58] (typ m) Z).bind fun fs r=>.ok (recT fs) r []:=fun Z=>rfl
   rw[h4,hb,R.bind_ok];have h5:(Zb1 fs).map (fun x=>(x.1,id x.2))=Zb1 fs:=by simp
   rw[h5,recT,recT,Zf0 (List.Perm.refl _) (ZeR fs) ((hp.map _).nodup_iff.2 hn)];rfl
 split at h
 next h1=>
  obtain⟨o2,o3⟩:=Zbd h1 ho;obtain⟨t1,r1,_,_,e1,h⟩:=R.bind_ok_inv h;obtain⟨a1,a2,a3,a4,a5,a6⟩:=H _ o2 _ _ _ e1;obtain⟨_,r2,_,_,e2,h⟩:=R.bind_ok_inv h;obtain⟨b1,b2⟩:=ZaR e2 a2;cases h;have hl:=ZkC t;refine⟨a1,b1,?_,a4.mono (Nat.le_succ n),?_,a5⟩
  ·rw[o3];rw[b2] at a3
   simp only[lC,lN] at a3⊢;omega
  ·by_cases h0:lvlT t.kd=1
   ·exact (a6 (by rw[kd6 h0];decide)).mono (Nat.le_succ n)
   ·exact Zis a5 (ZfW (by have:=Znp t.kd;omega))
 next=>cases h
theorem Zng{n:Nat}(HC:∀ts,Oks ts→CT n ts)(HB:∀ts,Oks ts→BT n ts)(ts:List Tk)(ho:Oks ts):BT (n+1) ts:=by
 intro t r d h;rw[Zpd] at h;obtain⟨t1,r1,_,_,e1,h⟩:=R.bind_ok_inv h;obtain⟨a1,a2,a3,a4,a5,a6⟩:=HC _ ho _ _ _ e1;split at h
 next hm=>
  obtain⟨o2,o3⟩:=Zbd hm a2;obtain⟨t2,r2,_,_,e2,h⟩:=R.bind_ok_inv h;obtain⟨b1,b2,b3,b4,b5,b6⟩:=HB _ o2 _ _ _ e2;cases h;have eu:uT 1 (.mk 6 [] [] [t1,t2])=uT 2 t1++sK [45,62]::uT 1 t2:=by rw[ZfX];rfl
  have ep:prT 1 (.mk 6 [] [] [t1,t2])=prT 2 t1++(32::45::62::32::prT 1 t2):=by rw[Zb2];rfl
  have h1:R1 (n+1) (.mk 6 [] [] [t1,t2]):=by
   intro m hm r hr;obtain⟨m,rfl⟩:∃m',m=m'+1:=⟨m-1,by omega⟩;rw[eu,aA,cA,Zpd,a6 m (by omega),R.bind_ok,Zgh,if_pos rfl,List.tail_cons,b5 m (by omega) r hr];rfl
  have h0:=Zit h1 (ZfW (by simp[PT.kd,lvlT]));refine⟨.mk (fun e=>by cases e) (by simp) (fun x hx=>?_),b2,?_,h0,h1,Zir h0 (by show lvlT 6<2;decide)⟩
  ·simp only[List.mem_cons,List.not_mem_nil,or_false] at hx;rcases hx with rfl | rfl
   ·exact a1
   ·exact b1
  ·rw[ep];simp only[lA,lC,lN] at o3⊢;omega
 next=>
  cases h;have hl:=ZkC t;exact⟨a1,a2,by omega,a4,a5,a6.mono (Nat.le_succ n)⟩
theorem Zfq{f:List Tk→R PT}{P:PT→Prop}(hf:∀ts,Oks ts→∀t r d,f ts=.ok t r d→P t∧Oks r∧(prT 1 t).length+wt r≤wt ts):∀(n:Nat) (acc:List PT) (ts:List Tk) (l:List PT) (r:List Tk) (d:List Dn),Oks ts→(∀x∈acc,P x)→ZaV f n acc ts=.ok l r d→(∀x∈l,P x)∧Oks r∧(l.map fun t=>(prT 1 t).length+3).sum+wt r≤(acc.map fun t=>(prT 1 t).length+3).sum+wt ts
 | 0,acc,ts,l,r,d,ho,ha,h=>by cases h;exact⟨ha,ho,nl _⟩
 | n+1,acc,ts,l,r,d,ho,ha,h=>by
  rw[ZaV] at h;split at h
  next hm=>
   obtain⟨o2,o3⟩:=Zbd hm ho;obtain⟨t1,r1,_,_,e1,h⟩:=R.bind_ok_inv h;obtain⟨p1,p2,p3⟩:=hf _ o2 _ _ _ e1;obtain⟨q1,q2,q3⟩:=Zfq hf n _ _ _ _ _ p2 (fun x hx=>by
    rcases List.mem_append.1 hx with hx | hx
    ·exact ha x hx
    ·simp only[List.mem_singleton] at hx;subst hx;exact p1) h
   refine⟨q1,q2,?_⟩;simp only[List.map_append,List.map_cons,List.map_nil,List.sum_append,List.sum_cons,List.sum_nil,lC,lN] at q3 o3;omega
  next=>cases h;exact⟨ha,ho,nl _⟩
theorem Zfs{f:List Tk→R PT}:∀(l:List PT) (n:Nat) (acc:List PT) (r:List Tk),l.length≤n→isM [45,62] r=false→isM [124] r=false→(∀x∈l,∀q,isM [45,62] q=false→f (uT 1 x++q)=.ok x q [])→ZaV f n acc (l.flatMap (fun x=>sK [124]::uT 1 x)++r)=.ok (acc++l) r []
 | [],n,acc,r,_,_,h2,_=>by
  cases n with
  | zero=>simp[ZaV]
  | succ n=>simp only[List.flatMap_nil,List.nil_append,ZaV,h2,List.append_nil];rfl
 | x::l,0,_,_,h,_,_,_=>by simp at h
 | x::l,n+1,acc,r,h,h1,h2,hf=>by
  have ih:=Zfs (f:=f) l n (acc++[x]) r (by simpa using h) h1 h2 (fun y hy=>hf y (by simp[hy]));have hx:=hf x (by simp) (l.flatMap (fun x=>sK [124]::uT 1 x)++r) (by
   cases l with
   | nil=>exact h1
   | cons y l=>rfl)
  simp only[List.flatMap_cons,cA,aA];rw[ZaV,Zgh,if_pos rfl,List.tail_cons,hx,R.bind_ok,ih];simp[R.tell]
theorem ZfF{α β:Type}(s:β)(f:α→List β):∀(x:α) (l:List α),Zaz [s] ((x::l).map f)=f x++l.flatMap fun y=>s::f y
 | x,[]=>by simp[Zaz]
 | x,y::l=>by
  have:=ZfF s f y l;simp only[List.map_cons] at this⊢;rw[Zaz,this];simp
theorem ZoU (l:List PT):l.length≤(l.flatMap fun x=>sK [124]::uT 1 x).length:=by
 induction l with
 | nil=>simp
 | cons x l ih=>simp only[List.flatMap_cons,lA,lC] at ih⊢;omega
theorem typ_at{n:Nat}(HB:∀ts,Oks ts→BT (n+1) ts)(ts:List Tk)(ho:Oks ts):AT (n+1) ts:=by
 intro t r d h;rw[ZnF] at h;obtain⟨t1,r1,_,_,e1,h⟩:=R.bind_ok_inv h;obtain⟨a1,a2,a3,a4,a5,a6⟩:=HB _ ho _ _ _ e1;obtain⟨l,r2,_,_,e2,h⟩:=R.bind_ok_inv h;cases h;have hpos:=ZeG _ _ _ _ _ _ _ e2;obtain⟨q1,q2,q3⟩:=Zfq (P:=fun t=>VT t∧R0 (n+1) t∧R1 (n+1) t∧R2 (n+1) t) (fun ts ho t r d h=>by
  obtain⟨b1,b2,b3,b4,b5,b6⟩:=HB ts ho t r d h;exact⟨⟨b1,b4,b5,b6⟩,b2,b3⟩) _ _ _ _ _ _ a2 (by simpa using ⟨a1,a4,a5,a6⟩) e2
 simp only[List.map_cons,List.map_nil,List.sum_cons,List.sum_nil] at q3;cases l with
 | nil=>simp at hpos
 | cons x l=>
  cases l with
  | nil=>
   obtain⟨v1,v2,v3,v4⟩:=q1 x (by simp);have hl:=ZkC x;simp only[List.map_cons,List.map_nil,List.sum_cons,List.sum_nil] at q3;refine⟨v1,q2,?_,v2,v4,fun _=>v3⟩;show (prT 0 x).length+wt r≤wt ts;omega
  | cons y l=>
   have e0:uT 0 (.mk 7 [] [] (x::y::l))=Zaz [sK [124]] ((x::y::l).map (uT 1)):=by rw[ZfX];rfl
   have p0:prT 0 (.mk 7 [] [] (x::y::l))=Zaz [32,124,32] ((x::y::l).map (prT 1)):=by rw[Zb2];rfl
   have h0:R0 (n+1) (.mk 7 [] [] (x::y::l)):=by
    intro m hm r hr1 hr2;obtain⟨m,rfl⟩:∃m',m=m'+1:=⟨m-1,by omega⟩;have hx:=(q1 x (by simp)).2.2.1 (m+1) hm ((y::l).flatMap (fun y=>sK [124]::uT 1 y)++r) rfl;rw[e0,ZfF,aA,ZnF,hx,R.bind_ok,Zfs (y::l) _ [x] r (by rw[lA];have:=ZoU (y::l);omega) hr1 hr2 (fun z hz q hq=>(q1 z (by simp[List.mem_cons.1 hz])).2.2.1 (m+1) hm q hq),R.bind_ok];rfl
   refine⟨.mk (fun e=>by cases e) (by simp) (fun z hz=>(q1 z hz).1),q2,?_,h0,Zir h0 (by show lvlT 7<2;decide),fun h=>absurd rfl h⟩;show (prT 0 (.mk 7 [] [] (x::y::l))).length+wt r≤wt ts;have h3:=Ze7 [32,124,32] ((x::y::l).map (prT 1));rw[p0];have h4:(((x::y::l).map (prT 1)).map fun b=>b.length+([32,124,32]:Bs).length)=(x::y::l).map fun t=>(prT 1 t).length+3:=by rw[List.map_map];rfl
   rw[h4] at h3;have h5:(Zaz [32,124,32] ((x::y::l).map (prT 1))).length+3≤((x::y::l).map fun t=>(prT 1 t).length+3).sum:=by
    have:∀(z:PT) (l:List PT),(Zaz [32,124,32] ((z::l).map (prT 1))).length+3=((z::l).map fun t=>(prT 1 t).length+3).sum:=by
     intro z l
     induction l generalizing z with
     | nil=>simp[Zaz]
     | cons w l ih=>
      have:=ih w;simp only[List.map_cons,Zaz,lA,lC,lN,List.sum_cons] at this⊢;omega
    exact Nat.le_of_eq (this x (y::l))
   omega
theorem ZjI:∀n,(∀ts,Oks ts→AT n ts)∧(∀ts,Oks ts→BT n ts)
 | 0=>⟨(fun ts _ t r d h=>by cases h),(fun ts _ t r d h=>by cases h)⟩
 | n+1=>by
  obtain⟨h1,h2⟩:=ZjI n;have h3:=Zng (Zmo h1) h2;exact⟨typ_at h3,h3⟩
def Stp (r:List Tk):Prop:=isM [40] r=false∧isM [46] r=false
theorem ZdX{ex:List Tk→R PE}{n:Nat}{e:PE}{r:List Tk}(h:Stp r):ZbD ex n e r=.ok e r []:=by
 cases n with
 | zero=>rfl
 | succ n=>rw[ZbD,h.1,h.2];rfl
theorem ZdY (k:Nat):∀(n m:Nat) (e:PE) (ts:List Tk),ts.length≤n→ts.length≤m→ZbD (exp k) n e ts=ZbD (exp k) m e ts
 | 0,m,e,ts,h,_=>by
  have:ts=[]:=List.eq_nil_of_length_eq_zero (by omega);subst this;rw[ZdX ⟨rfl,rfl⟩,ZdX ⟨rfl,rfl⟩]
 | n+1,0,e,ts,_,h=>by
  have:ts=[]:=List.eq_nil_of_length_eq_zero (by omega);subst this;rw[ZdX ⟨rfl,rfl⟩,ZdX ⟨rfl,rfl⟩]
 | n+1,m+1,e,ts,h1,h2=>by
  rw[ZbD,ZbD];split
  next hm=>
   have ht:=Zbr hm;have he:=ZeA k ts.tail;cases hx:exp k ts.tail with
   | bad y r d=>rfl
   | ok g r d=>
    rw[hx] at he;have hl:r.length≤ts.tail.length:=he.le;rw[R.bind_ok,R.bind_ok];have hw:=ZnD [41] r;cases hz:want [41] r with
    | bad y r' d'=>rfl
    | ok g' r' d'=>
     rw[hz] at hw;have hl':r'.length<r.length:=by
      rcases hw with ⟨y,_,_,h⟩ | h
      ·cases h
      ·exact h
     rw[R.bind_ok,R.bind_ok,ZdY k n m _ r' (by omega) (by omega)]
  next=>
   split
   next hm=>
    have ht:=Zbr hm;have hw:=Zhr ts.tail;cases hz:Zaj ts.tail with
    | bad y r' d'=>rfl
    | ok g' r' d'=>
     rw[hz] at hw;have hl':r'.length<ts.tail.length:=by
      rcases hw with ⟨y,_,_,h⟩ | h
      ·cases h
      ·exact h
     rw[R.bind_ok,R.bind_ok,ZdY k n m _ r' (by omega) (by omega)]
   next=>rfl
def PE.kd:PE→Nat | .mk k _ _ _ _ _ _=>k
theorem Zem (φ:Nat→Nat)(k a:Nat)(n:Bs)(m:Nat)(ns:List Bs)(l:List PE)(ts:List PT):PE.pl φ (.mk k a n m ns l ts)=.mk k (φ a) n m ns (l.map (PE.pl φ)) ts:=by rw[PE.pl,ZkD]
def E0 (n:Nat)(x:PE):Prop:=∀m,n≤m→∀r,Stp r→exp m (uE 0 x++r)=.ok (x.pl Zr) r []
def Ch (n:Nat)(x:PE):Prop:=∀m,n≤m→∀r,((Za0 (typ m) (exp m) (uE 2 x++r)).bind fun e r=>ZbD (exp m) r.length e r)=ZbD (exp m) r.length (x.pl Zr) r
theorem E0.mono{n m:Nat}{t:PE}(h:E0 n t)(hm:n≤m):E0 m t:=fun k hk=>h k (Nat.le_trans hm hk)
theorem Ch.mono{n m:Nat}{t:PE}(h:Ch n t)(hm:n≤m):Ch m t:=fun k hk=>h k (Nat.le_trans hm hk)
theorem ZnE{x:PE}(h:lvlE x.kd=2):uE 0 x=uE 2 x:=by
 obtain⟨k,a,n,m,ns,l,ts⟩:=x;have h:lvlE k=2:=h;rw[Zc4,Zc4,Ze5,Ze5,if_neg (by omega),if_neg (by omega)]
theorem ZlR{x:PE}(h:lvlE x.kd=0):uE 2 x=sK [40]::(uE 0 x++[sK [41]]):=by
 obtain⟨k,a,n,m,ns,l,ts⟩:=x;have h:lvlE k=0:=h;rw[Zc4,Zc4,Ze5,Ze5,if_pos (by omega),if_neg (by omega)]
theorem Znm (x:PE):(prE 0 x).length≤(prE 2 x).length∧(prE 2 x).length≤(prE 0 x).length+2:=by
 obtain⟨k,a,n,m,ns,l,ts⟩:=x;rw[ZaX,ZaX,ZbO,ZbO,if_neg (by omega)];have:∀b:Bs,(40::(b++[41])).length=b.length+2:=by simp
 split
 ·rw[this];omega
 ·omega
theorem Zh6{n:Nat}{Z r:List Tk}{x:PE}(h:exp n Z=.ok x (sK [41]::r) []):Za0 (typ n) (exp n) (sK [40]::Z)=.ok x r []:=by
 have h1:Za0 (typ n) (exp n) (sK [40]::Z)=(exp n Z).bind fun e r=>if isM [58] r then (typ n r.tail).bind fun t r=>(want [41] r).bind fun _ r=>.ok (.mk 11 0 [] 0 [] [e] [t]) r [] else (want [41] r).bind fun _ r=>.ok e r []:=rfl
 have h2:isM [58] (sK [41]::r)=false:=rfl;rw[h1,h,R.bind_ok,h2,ZcZ];rfl
theorem Zgr{n:Nat}{x:PE}(h:E0 n x)(e:lvlE x.kd=0):Ch n x:=by
 intro m hm r;rw[ZlR e,cA,aA,List.singleton_append,Zh6 (h m hm _ ⟨rfl,rfl⟩),R.bind_ok,R.tell_nil]
theorem ZjD{ty:List Tk→R PT}{ex:List Tk→R PE}{w:Bs}(hw:w=[102,117,110]∨w=[108,101,116]∨w=[105,102]){ts:List Tk}(h:isM w ts=true):Za0 ty ex ts=.bad (syn ts) ts []:=by
 obtain⟨t,r,rfl⟩:=Zgi h;simp only[isM,Bool.and_eq_true,Bool.or_eq_true,beq_iff_eq,hd,List.headD_cons] at h;obtain⟨hk,ht⟩:=h;have e:∀s:Bs,isM s (t::r)=true→s=w:=fun s hs=>by
  simp only[isM,Bool.and_eq_true,beq_iff_eq,hd,List.headD_cons] at hs;rw[←hs.2,ht]
 have f:∀s:Bs,s≠w→isM s (t::r)=false:=fun s hs=>by
  cases e':isM s (t::r) with
  | false=>rfl
  | true=>exact absurd (e s e') hs
 have k3:¬(hd (t::r)).k=3:=by show ¬t.k=3;omega
 have k4:¬(hd (t::r)).k=4:=by show ¬t.k=4;omega
 have k1:¬(hd (t::r)).k=1:=by show ¬t.k=1;omega
 unfold Za0;rw[if_neg k3,if_neg k4,if_neg k1];rcases hw with rfl | rfl | rfl<;>simp only[f _ (show ([116,114,117,101]:Bs)≠_ by decide),f _ (show ([102,97,108,115,101]:Bs)≠_ by decide),f _ (show ([123]:Bs)≠_ by decide),f _ (show ([40]:Bs)≠_ by decide),if_false,ff]
theorem Zgo{n:Nat}{x:PE}(h:Ch n x)(e:lvlE x.kd=2):E0 (n+1) x:=by
 intro m hm r hr;obtain⟨m,rfl⟩:∃m',m=m'+1:=⟨m-1,by omega⟩;have hc:=h m (by omega) r;rw[ZdX hr,←ZnE e] at hc;have hno:∀w:Bs,w=[102,117,110]∨w=[108,101,116]∨w=[105,102]→isM w (uE 0 x++r)=false:=fun w hw=>by
  cases e':isM w (uE 0 x++r) with
  | false=>rfl
  | true=>
   rw[ZjD hw e'] at hc;cases hc
 have h1:exp (m+1) (uE 0 x++r)=ZcI (typ m) (exp m) (uE 0 x++r):=rfl;rw[h1,ZcI,hno _ (.inl rfl),hno _ (.inr (.inl rfl)),hno _ (.inr (.inr rfl))];exact hc
theorem Zpa{n a:Nat}{f g:PE}(hf:Ch n f)(hg:E0 n g):Ch n (.mk 7 a [] 0 [] [f,g] []):=by
 intro m hm r;have e:uE 2 (.mk 7 a [] 0 [] [f,g] [])=uE 2 f++sK [40]::(uE 0 g++[sK [41]]):=by rw[Zc4];rfl
 have h:=hf m hm (sK [40]::(uE 0 g++sK [41]::r));rw[e,aA,cA,aA,List.singleton_append,h,lC,ZbD,Zgh,if_pos rfl,List.tail_cons,hg m hm _ ⟨rfl,rfl⟩,R.bind_ok,ZcZ,R.bind_ok,R.tell_nil,R.tell_nil,ZdY m _ r.length _ r (by simp;omega) (nl _),Zem];rfl
theorem ZmZ{n a:Nat}{nm:Bs}{f:PE}(hf:Ch n f):Ch n (.mk 6 a nm 0 [] [f] []):=by
 intro m hm r;have e:uE 2 (.mk 6 a nm 0 [] [f] [])=uE 2 f++[sK [46],nK nm]:=by rw[Zc4];rfl
 have h:=hf m hm (sK [46]::nK nm::r);have h0:isM [40] (sK [46]::nK nm::r)=false:=rfl;rw[e,aA,cA,List.singleton_append,h,lC,ZbD,h0,Zgh,if_neg (by decide),if_pos rfl,List.tail_cons,ZkU,R.bind_ok,R.tell_nil,ZdY m _ r.length _ r (by simp) (nl _),Zem];rfl
/-! Numbers. -/
theorem Zd8 (l:Bs)(c:UInt8):ZbM (l++[c])=10*ZbM l+(c.toNat-48):=by simp[ZbM]
theorem Zg2 (m:Nat):ZbM (dig m)=m:=by
 induction m using Nat.strongRecOn with
 | ind m ih=>
  have hd:∀k:Nat,k<10→(48+k).toUInt8.toNat-48=k:=by decide
  rw[dig];split
  next h=>show ZbM ([]++[_])=_;rw[Zd8,hd m h];simp[ZbM]
  next h=>rw[Zd8,ih (m/10) (by omega),hd (m%10) (Nat.mod_lt _ (by omega))];omega
theorem Zls:∀(k m:Nat),m<10 ^ (k+1)→(dig m).length≤k+1
 | 0,m,h=>by rw[dig,dif_pos (by simpa using h)];simp
 | k+1,m,h=>by
  rw[dig];split
  ·simp
  ·have:=Zls k (m/10) (by rw[Nat.pow_succ] at h;omega);simp only[lA,lC,lN];omega
theorem ZiB (l:Bs)(hl:∀c∈l,48≤c.toNat∧c.toNat≤57):ZbM l<10 ^ l.length:=by
 induction hn:l.length generalizing l with
 | zero=>
  have:l=[]:=List.eq_nil_of_length_eq_zero hn;subst this;simp[ZbM]
 | succ n ih=>
  rcases List.eq_nil_or_concat l with rfl | ⟨q,c,rfl⟩
  ·cases hn
  ·rw[List.concat_eq_append] at hl hn⊢;have h1:=ih q (fun c hc=>hl c (by simp[hc])) (by simpa using hn);have h2:=hl c (by simp);rw[Zd8,Nat.pow_succ];omega
theorem Zoo{l:Bs}(h:NumT l):(dig (ZbM l)).length≤l.length:=by
 obtain⟨h1,h2,h3⟩:=h;have h4:=ZiB l h3;cases hl:l.length with
 | zero=>exact absurd (List.eq_nil_of_length_eq_zero hl) h1
 | succ k=>rw[hl] at h4;exact Zls k _ h4
/-! What the readers of expressions tell. -/
def AE (n:Nat)(ts:List Tk):Prop:=∀x r d,exp n ts=.ok x r d→VE x∧Oks r∧(prE 0 x).length+wt r≤wt ts∧E0 n x∧Ch n x
def DE (n:Nat)(ts:List Tk):Prop:=∀x r d,Za0 (typ n) (exp n) ts=.ok x r d→VE x∧Oks r∧(prE 2 x).length+wt r≤wt ts∧E0 (n+1) x∧Ch n x
theorem Zdz{n:Nat}{x:PE}(h:Ch n x)(e:lvlE x.kd=2):E0 (n+1) x∧Ch n x:=⟨Zgo h e,h⟩
theorem Zhl{n:Nat}{x:PE}{u:Tk}(hu:uE 2 x=[u])(hb:∀m r,Za0 (typ m) (exp m) (u::r)=.ok (x.pl Zr) r []):Ch n x:=by
 intro m _ r;rw[hu,List.singleton_append,hb,R.bind_ok,R.tell_nil]
theorem Znc{n:Nat}(HT:∀ts,Oks ts→AT n ts)(H:∀ts,Oks ts→AE n ts)(ts:List Tk)(ho:Oks ts):DE n ts:=by
 intro x r d h;unfold Za0 at h;split at h
 next h1=>
  cases h;obtain⟨o1,o2,o3⟩:=ZdU h1 (by decide) ho;have hd:=Zoo (o1.2.1 h1);refine⟨.mk (fun _=>by have:=(o1.2.1 h1).2.1;omega) (fun e=>by cases e) (fun e=>by simp at e) (by simp) (by simp) (by simp),o2,?_,Zdz (Zhl (by rw[Zc4];rfl) fun m r=>?_) rfl⟩
  ·rw[ZaX];show (dig _).length+_≤_;omega
  ·have h2:∀b:Bs,Za0 (typ m) (exp m) (⟨3,0,b⟩::r)=.ok (.mk 1 0 [] (ZbM b) [] [] []) r []:=fun b=>rfl
   rw[h2,Zg2,Zem];rfl
 split at h
 next h1=>
  cases h;obtain⟨o1,o2,o3⟩:=ZdU h1 (by decide) ho;refine⟨.mk (fun e=>by cases e) (fun _=>o1.2.2 h1) (fun e=>by simp at e) (by simp) (by simp) (by simp),o2,?_,Zdz (Zhl (by rw[Zc4];rfl) fun m r=>by rw[Zem];rfl) rfl⟩;rw[ZaX];show (34::((hd ts).t++[34])).length+_≤_;simp;omega
 split at h
 next h1=>
  cases h;obtain⟨o1,o2,o3⟩:=ZdU h1 (by decide) ho;refine⟨.mk (fun e=>by cases e) (fun e=>by cases e) (fun _=>o1.1 h1) (by simp) (by simp) (by simp),o2,?_,Zdz (Zhl (by rw[Zc4];rfl) fun m r=>by rw[Zem];rfl) rfl⟩;rw[ZaX];show (hd ts).t.length+_≤_;omega
 split at h
 next h1=>
  cases h;obtain⟨o2,o3⟩:=Zbd h1 ho;refine⟨.mk (fun e=>by cases e) (fun e=>by cases e) (fun e=>by simp at e) (by simp) (by simp) (by simp),o2,?_,Zdz (Zhl (by rw[Zc4];rfl) fun m r=>by rw[Zem];rfl) rfl⟩;rw[ZaX,o3];show ([116,114,117,101]:Bs).length+_≤_;omega
 split at h
 next h1=>
  cases h;obtain⟨o2,o3⟩:=Zbd h1 ho;refine⟨.mk (fun e=>by cases e) (fun e=>by cases e) (fun e=>by simp at e) (by simp) (by simp) (by simp),o2,?_,Zdz (Zhl (by rw[Zc4];rfl) fun m r=>by rw[Zem];rfl) rfl⟩;rw[ZaX,o3];show ([102,97,108,115,101]:Bs).length+_≤_;omega
 split at h
 next h1=>
  obtain⟨o2,o3⟩:=Zbd h1 ho;obtain⟨fs,r1,_,_,e1,h⟩:=R.bind_ok_inv h;cases h;obtain⟨q1,q2,q3⟩:=ZgQ (P:=fun t=>VE t∧E0 n t) (c:=fun t=>(prE 0 t).length) (fun ts x r d ho h=>by
   obtain⟨a1,a2,a3,a4,-⟩:=H ts ho x r d h;exact⟨⟨a1,a4⟩,a2,a3⟩) rfl o2 e1
  have hn:=Zdo e1;refine⟨.mk (fun e=>by cases e) (fun e=>by cases e) (fun e=>by simp at e) (fun x hx=>?_) (by simp) (fun x hx=>?_),q2,?_,Zdz (fun m hm r=>?_) rfl⟩
  ·obtain⟨y,hy,rfl⟩:=List.mem_map.1 hx;exact (q1 y hy).1
  ·obtain⟨y,hy,rfl⟩:=List.mem_map.1 hx;exact (q1 y hy).2.1
  ·have h2:=Zkn (f:=prE 0) (sg:=[32,61,32]) (by decide) fs;have h3:prE 2 (recE (hd ts).a fs)=123::(Zaz [44,32] (Zbz [32,61,32] (fs.map (·.1)) (fs.map fun x=>prE 0 x.2))++[125]):=by
    rw[recE,ZaX,List.map_map,List.map_map];rfl
   rw[h3,o3];simp only[lC,lA,lN];omega
  ·have h3:uE 2 (recE (hd ts).a fs)=sK [123]::(Zaz [sK [44]] (Zbz [sK [61]] ((fs.map (·.1)).map fun n=>[nK n]) (fs.map fun x=>uE 0 x.2))++[sK [125]]):=by
    rw[recE,Zc4,List.map_map,List.map_map];rfl
   have hb:=ZgT (sign:=[61]) (read:=exp m) (uE 0) (PE.pl Zr) fs r hn (fun x hx q hq=>by
    refine (q1 x hx).2.2 m hm q ⟨?_,?_⟩
    ·rcases hq with hq | hq<;>simp only[isM,Bool.and_eq_true,beq_iff_eq] at hq<;>simp[isM,hq.2]
    ·rcases hq with hq | hq<;>simp only[isM,Bool.and_eq_true,beq_iff_eq] at hq<;>simp[isM,hq.2])
   rw[h3,cA,aA,List.singleton_append];have h4:∀Z,Za0 (typ m) (exp m) (sK [123]::Z)=(Zbh [61] (exp m) Z).bind fun fs r=>.ok (recE 0 fs) r []:=fun Z=>rfl
   rw[h4,hb,R.bind_ok,R.tell_ok,R.bind_ok];have h5:recE 0 (fs.map fun x=>(x.1,PE.pl Zr x.2))=PE.pl Zr (recE (hd ts).a fs):=by
    rw[recE,recE,Zem,List.map_map,List.map_map,List.map_map];rfl
   rw[h5];simp[R.tell_nil]
 split at h
 next h1=>
  obtain⟨o2,o3⟩:=Zbd h1 ho;obtain⟨x1,r1,_,_,e1,h⟩:=R.bind_ok_inv h;obtain⟨a1,a2,a3,a4,a5⟩:=H _ o2 _ _ _ e1;simp only[lC,lN] at o3;split at h
  next hm=>
   obtain⟨o4,o5⟩:=Zbd hm a2;obtain⟨t,r2,_,_,e2,h⟩:=R.bind_ok_inv h;obtain⟨b1,b2,b3,b4,-⟩:=HT _ o4 _ _ _ e2;obtain⟨_,r3,_,_,e3,h⟩:=R.bind_ok_inv h;obtain⟨c1,c2⟩:=ZaR e3 b2;cases h;simp only[lC,lN] at o5 c2;refine⟨.mk (fun e=>by cases e) (fun e=>by cases e) (fun e=>by simp at e) (by simp) (fun y hy=>?_) (fun y hy=>?_),c1,?_,Zdz (fun m hm r=>?_) rfl⟩
   ·simp only[List.mem_singleton] at hy;subst hy;exact b1
   ·simp only[List.mem_singleton] at hy;subst hy;exact a1
   ·rw[ZaX];show (40::(prE 0 x1++32::58::32::(prT 0 t++[41]))).length+_≤_;simp only[lC,lA,lN];omega
   ·have h3:uE 2 (.mk 11 (hd ts).a [] 0 [] [x1] [t])=sK [40]::(uE 0 x1++sK [58]::(uT 0 t++[sK [41]])):=by rw[Zc4];rfl
    have h4:∀Z,Za0 (typ m) (exp m) (sK [40]::Z)=(exp m Z).bind fun e r=>if isM [58] r then (typ m r.tail).bind fun t r=>(want [41] r).bind fun _ r=>.ok (.mk 11 0 [] 0 [] [e] [t]) r [] else (want [41] r).bind fun _ r=>.ok e r []:=fun Z=>rfl
    rw[h3,cA,aA,cA,aA,List.singleton_append,h4,a4 m hm _ ⟨rfl,rfl⟩,R.bind_ok,Zgh,if_pos rfl,List.tail_cons,b4 m hm _ rfl rfl,R.bind_ok,ZcZ];simp only[R.bind_ok,R.tell_nil,Zem];rfl
  next=>
   obtain⟨_,r2,_,_,e2,h⟩:=R.bind_ok_inv h;obtain⟨b1,b2⟩:=ZaR e2 a2;cases h;simp only[lC,lN] at b2;have hl:=Znm x;exact⟨a1,b1,by omega,a4.mono (Nat.le_succ n),a5⟩
 next=>cases h
theorem Zfj{n:Nat}(H:∀ts,Oks ts→AE n ts):∀(k:Nat) (e:PE) (ts:List Tk) (x:PE) (r:List Tk) (d:List Dn),Oks ts→VE e→E0 (n+1) e→Ch n e→ZbD (exp n) k e ts=.ok x r d→VE x∧Oks r∧(prE 2 x).length+wt r≤(prE 2 e).length+wt ts∧E0 (n+1) x∧Ch n x
 | 0,e,ts,x,r,d,ho,v,h1,h2,h=>by cases h;exact⟨v,ho,nl _,h1,h2⟩
 | k+1,e,ts,x,r,d,ho,v,h1,h2,h=>by
  rw[ZbD] at h;split at h
  next hm=>
   obtain⟨o2,o3⟩:=Zbd hm ho;obtain⟨g,r1,_,_,e1,h⟩:=R.bind_ok_inv h;obtain⟨a1,a2,a3,a4,a5⟩:=H _ o2 _ _ _ e1;obtain⟨_,r2,_,_,e2,h⟩:=R.bind_ok_inv h;obtain⟨b1,b2⟩:=ZaR e2 a2;have hc:=Zpa (a:=(hd ts).a) h2 a4;obtain⟨q1,q2,q3,q4⟩:=Zfj H k _ _ x r _ b1 (.mk (fun e=>by cases e) (fun e=>by cases e) (fun e=>by simp at e) (by simp) (by simp) (fun y hy=>by
    simp only[List.mem_cons,List.not_mem_nil,or_false] at hy;rcases hy with rfl | rfl
    ·exact v
    ·exact a1)) (Zgo hc rfl) hc h
   refine⟨q1,q2,?_,q4⟩;have:prE 2 (.mk 7 (hd ts).a [] 0 [] [e,g] [])=prE 2 e++40::(prE 0 g++[41]):=by rw[ZaX];rfl
   rw[this] at q3;simp only[lA,lC,lN] at q3 o3 b2;omega
  next=>
   split at h
   next hm=>
    obtain⟨o2,o3⟩:=Zbd hm ho;obtain⟨nm,r1,_,_,e1,h⟩:=R.bind_ok_inv h;obtain⟨n1,b1,b2⟩:=ZcF e1 o2;have hc:=ZmZ (a:=nm.a) (nm:=nm.t) h2;obtain⟨q1,q2,q3,q4⟩:=Zfj H k _ _ x r _ b1 (.mk (fun e=>by cases e) (fun e=>by cases e) (fun _=>n1) (by simp) (by simp) (fun y hy=>by
     simp only[List.mem_singleton] at hy;subst hy;exact v)) (Zgo hc rfl) hc h
    refine⟨q1,q2,?_,q4⟩;have:prE 2 (.mk 6 nm.a nm.t 0 [] [e] [])=prE 2 e++46::nm.t:=by rw[ZaX];rfl
    rw[this] at q3;simp only[lA,lC,lN] at q3 o3;omega
   next=>cases h;exact⟨v,ho,nl _,h1,h2⟩
theorem exp_ae{n:Nat}(HT:∀ts,Oks ts→AT n ts)(H:∀ts,Oks ts→AE n ts)(ts:List Tk)(ho:Oks ts):AE (n+1) ts:=by
 intro x r d h;have h0:exp (n+1) ts=ZcI (typ n) (exp n) ts:=rfl;rw[h0] at h;unfold ZcI at h;split at h
 next hm=>
  obtain⟨o1,o2⟩:=Zbd hm ho;unfold funP at h;obtain⟨_,r1,_,_,e1,h⟩:=R.bind_ok_inv h;obtain⟨p1,w1⟩:=ZaR e1 o1;obtain⟨nm,r2,_,_,e2,h⟩:=R.bind_ok_inv h;obtain⟨n1,p2,w2⟩:=ZcF e2 p1;obtain⟨_,r3,_,_,e3,h⟩:=R.bind_ok_inv h;obtain⟨p3,w3⟩:=ZaR e3 p2;obtain⟨t,r4,_,_,e4,h⟩:=R.bind_ok_inv h;obtain⟨b1,p4,w4,b4,-⟩:=HT _ p3 _ _ _ e4;obtain⟨_,r5,_,_,e5,h⟩:=R.bind_ok_inv h;obtain⟨p5,w5⟩:=ZaR e5 p4;obtain⟨e,r6,_,_,e6,h⟩:=R.bind_ok_inv h;obtain⟨a1,p6,w6,a4,-⟩:=H _ p5 _ _ _ e6;cases h;simp only[lC,lN] at o2 w1 w3 w5;have hE:E0 (n+1) (.mk 8 (hd ts).a nm.t 0 [] [e] [t]):=by
   intro m hm r hr;obtain⟨m,rfl⟩:∃m',m=m'+1:=⟨m-1,by omega⟩;have h1:uE 0 (.mk 8 (hd ts).a nm.t 0 [] [e] [t])=wK [102,117,110]::sK [40]::nK nm.t::sK [58]::(uT 0 t++sK [41]::uE 0 e):=by rw[Zc4];rfl
   have h2:∀Z,exp (m+1) (wK [102,117,110]::sK [40]::nK nm.t::sK [58]::Z)=((((typ m Z).bind fun t r=>(want [41] r).bind fun _ r=>(exp m r).bind fun e r=>.ok (.mk 8 0 nm.t 0 [] [e] [t]) r []).tell []).tell []).tell []:=fun Z=>rfl
   rw[h1];simp only[cA,aA];rw[h2,b4 m (by omega) _ rfl rfl,R.bind_ok,ZcZ,R.bind_ok,a4 m (by omega) r hr];simp only[R.bind_ok,R.tell_nil,Zem];rfl
  refine⟨.mk (fun e=>by cases e) (fun e=>by cases e) (fun _=>n1) (by simp) (fun y hy=>?_) (fun y hy=>?_),p6,?_,hE,Zgr hE rfl⟩
  ·simp only[List.mem_singleton] at hy;subst hy;exact b1
  ·simp only[List.mem_singleton] at hy;subst hy;exact a1
  ·rw[ZaX];show ([102,117,110]++(32::40::(nm.t++32::58::32::(prT 0 t++41::32::prE 0 e)))).length+_≤_;simp only[lC,lA,lN];omega
 split at h
 next hm=>
  obtain⟨o1,o2⟩:=Zbd hm ho;unfold letP at h;obtain⟨nm,r1,_,_,e1,h⟩:=R.bind_ok_inv h;obtain⟨n1,p1,w1⟩:=ZcF e1 o1;obtain⟨_,r2,_,_,e2,h⟩:=R.bind_ok_inv h;obtain⟨p2,w2⟩:=ZaR e2 p1;obtain⟨v,r3,_,_,e3,h⟩:=R.bind_ok_inv h;obtain⟨a1,p3,w3,a4,-⟩:=H _ p2 _ _ _ e3;obtain⟨_,r4,_,_,e4,h⟩:=R.bind_ok_inv h;obtain⟨p4,w4⟩:=ZaR e4 p3;obtain⟨b,r5,_,_,e5,h⟩:=R.bind_ok_inv h;obtain⟨b1,p5,w5,b4,-⟩:=H _ p4 _ _ _ e5;cases h;simp only[lC,lN] at o2 w2 w4;have hE:E0 (n+1) (.mk 9 (hd ts).a nm.t 0 [] [v,b] []):=by
   intro m hm r hr;obtain⟨m,rfl⟩:∃m',m=m'+1:=⟨m-1,by omega⟩;have h1:uE 0 (.mk 9 (hd ts).a nm.t 0 [] [v,b] [])=wK [108,101,116]::nK nm.t::sK [61]::(uE 0 v++wK [105,110]::uE 0 b):=by rw[Zc4];rfl
   have h2:∀Z,exp (m+1) (wK [108,101,116]::nK nm.t::sK [61]::Z)=(((exp m Z).bind fun v r=>(want [105,110] r).bind fun _ r=>(exp m r).bind fun b r=>.ok (.mk 9 0 nm.t 0 [] [v,b] []) r []).tell []).tell []:=fun Z=>rfl
   rw[h1];simp only[cA,aA];rw[h2,a4 m (by omega) _ ⟨rfl,rfl⟩,R.bind_ok,ZjN,R.bind_ok,b4 m (by omega) r hr];simp only[R.bind_ok,R.tell_nil,Zem];rfl
  refine⟨.mk (fun e=>by cases e) (fun e=>by cases e) (fun _=>n1) (by simp) (by simp) (fun y hy=>?_),p5,?_,hE,Zgr hE rfl⟩
  ·simp only[List.mem_cons,List.not_mem_nil,or_false] at hy;rcases hy with rfl | rfl
   ·exact a1
   ·exact b1
  ·rw[ZaX];show ([108,101,116]++(32::(nm.t++32::61::32::(prE 0 v++32::([105,110]++32::prE 0 b))))).length+_≤_;simp only[lC,lA,lN];omega
 split at h
 next hm=>
  obtain⟨o1,o2⟩:=Zbd hm ho;unfold ifP at h;obtain⟨x1,r1,_,_,e1,h⟩:=R.bind_ok_inv h;obtain⟨a1,p1,w1,a4,-⟩:=H _ o1 _ _ _ e1;obtain⟨_,r2,_,_,e2,h⟩:=R.bind_ok_inv h;obtain⟨p2,w2⟩:=ZaR e2 p1;obtain⟨x2,r3,_,_,e3,h⟩:=R.bind_ok_inv h;obtain⟨b1,p3,w3,b4,-⟩:=H _ p2 _ _ _ e3;obtain⟨_,r4,_,_,e4,h⟩:=R.bind_ok_inv h;obtain⟨p4,w4⟩:=ZaR e4 p3;obtain⟨x3,r5,_,_,e5,h⟩:=R.bind_ok_inv h;obtain⟨c1,p5,w5,c4,-⟩:=H _ p4 _ _ _ e5;cases h;simp only[lC,lN] at o2 w2 w4;have hE:E0 (n+1) (.mk 10 (hd ts).a [] 0 [] [x1,x2,x3] []):=by
   intro m hm r hr;obtain⟨m,rfl⟩:∃m',m=m'+1:=⟨m-1,by omega⟩;have h1:uE 0 (.mk 10 (hd ts).a [] 0 [] [x1,x2,x3] [])=wK [105,102]::(uE 0 x1++wK [116,104,101,110]::(uE 0 x2++wK [101,108,115,101]::uE 0 x3)):=by rw[Zc4];rfl
   have h2:∀Z,exp (m+1) (wK [105,102]::Z)=(exp m Z).bind fun x r=>(want [116,104,101,110] r).bind fun _ r=>(exp m r).bind fun y r=>(want [101,108,115,101] r).bind fun _ r=>(exp m r).bind fun z r=>.ok (.mk 10 0 [] 0 [] [x,y,z] []) r []:=fun Z=>rfl
   rw[h1];simp only[cA,aA];rw[h2,a4 m (by omega) _ ⟨rfl,rfl⟩,R.bind_ok,ZjN,R.bind_ok,b4 m (by omega) _ ⟨rfl,rfl⟩,R.bind_ok,ZjN,R.bind_ok,c4 m (by omega) r hr];simp only[R.bind_ok,R.tell_nil,Zem];rfl
  refine⟨.mk (fun e=>by cases e) (fun e=>by cases e) (fun e=>by simp at e) (by simp) (by simp) (fun y hy=>?_),p5,?_,hE,Zgr hE rfl⟩
  ·simp only[List.mem_cons,List.not_mem_nil,or_false] at hy;rcases hy with rfl | rfl | rfl
   ·exact a1
   ·exact b1
   ·exact c1
  ·rw[ZaX];show ([105,102]++(32::(prE 0 x1++32::([116,104,101,110]++32::(prE 0 x2++32::([101,108,115,101]++32::prE 0 x3)))))).length+_≤_;simp only[lC,lA,lN];omega
 next=>
  obtain⟨e,r1,_,_,e1,h⟩:=R.bind_ok_inv h;obtain⟨a1,a2,a3,a4,a5⟩:=Znc HT H _ ho _ _ _ e1;obtain⟨q1,q2,q3,q4,q5⟩:=Zfj H _ _ _ _ _ _ a2 a1 a4 a5 h;have hl:=Znm x;exact⟨q1,q2,by omega,q4,q5.mono (Nat.le_succ n)⟩
theorem ZjJ:∀n,∀ts,Oks ts→AE n ts
 | 0=>fun ts _ x r d h=>by cases h
 | n+1=>exp_ae (ZjI n).1 (ZjJ n)
structure GD (d:PD):Prop where
 kind:d.k=1∨d.k=2∨d.k=3
 name:NmB d.n
 lz:Lz (hdD d++[59]) (uD d)
 back:∀r,ZbI (uD d++r)=.ok (d.pl Zr) r []
theorem Zlv{ts:List Tk}(ho:Oks ts){d:PD}{r:List Tk}{x:List Dn}(h:ZbI ts=.ok d r x):GD d∧Oks r∧(prD d).length+wt r≤wt ts:=by
 unfold ZbI at h;split at h
 next hm=>
  obtain⟨o1,o2⟩:=Zbd hm ho;obtain⟨nm,r1,_,_,e1,h⟩:=R.bind_ok_inv h;obtain⟨n1,p1,w1⟩:=ZcF e1 o1;obtain⟨_,r2,_,_,e2,h⟩:=R.bind_ok_inv h;obtain⟨p2,w2⟩:=ZaR e2 p1;cases h;simp only[lC,lN] at o2 w2;refine⟨⟨.inl rfl,n1,?_,fun r=>rfl⟩,p2,?_⟩
  ·have h1:hdD ⟨1,nm.a,nm.t,[],[]⟩++[59]=[117,115,101]++32::(nm.t++[59]):=rfl;rw[h1];exact .cut (u:=[_]) lw_use (by decide) (.bl (.cut (u:=[_]) (Zcy n1) (by decide) (.sg (by decide) .nil)))
  ·show ([117,115,101]++32::nm.t++[59,10]).length+_≤_;simp only[lC,lA,lN];omega
 split at h
 next hm=>
  obtain⟨o1,o2⟩:=Zbd hm ho;obtain⟨nm,r1,_,_,e1,h⟩:=R.bind_ok_inv h;obtain⟨n1,p1,w1⟩:=ZcF e1 o1;obtain⟨_,r2,_,_,e2,h⟩:=R.bind_ok_inv h;obtain⟨p2,w2⟩:=ZaR e2 p1;obtain⟨t,r3,_,_,e3,h⟩:=R.bind_ok_inv h;obtain⟨a1,p3,w3,a4,-⟩:=(ZjI 64).1 _ p2 _ _ _ e3;obtain⟨_,r4,_,_,e4,h⟩:=R.bind_ok_inv h;obtain⟨p4,w4⟩:=ZaR e4 p3;cases h;simp only[lC,lN] at o2 w2 w4;refine⟨⟨.inr (.inl rfl),n1,?_,fun r=>?_⟩,p4,?_⟩
  ·have h1:hdD ⟨2,nm.a,nm.t,[t],[]⟩++[59]=[116,121,112,101]++32::(nm.t++32::61::32::(prT 0 t++[59])):=by
    show ([116,121,112,101]++32::(nm.t++32::61::32::prT 0 t))++[59]=_;simp
   rw[h1];exact .cut (u:=[_]) Zoy (by decide) (.bl (.cut (u:=[_]) (Zcy n1) (by decide) (.bl (.sg (by decide) (.bl (.cut (lz_T a1 0) (by decide) (.sg (by decide) .nil)))))))
  ·have h1:uD ⟨2,nm.a,nm.t,[t],[]⟩=wK [116,121,112,101]::nK nm.t::sK [61]::(uT 0 t++[sK [59]]):=rfl;have h2:∀Z,ZbI (wK [116,121,112,101]::nK nm.t::sK [61]::Z)=(((typ 64 Z).bind fun t r=>(want [59] r).bind fun _ r=>.ok ⟨2,0,nm.t,[t],[]⟩ r []).tell []).tell []:=fun Z=>rfl
   rw[h1];simp only[cA,aA,List.nil_append];rw[h2,a4 64 (nl _) _ rfl rfl,R.bind_ok,ZcZ];simp only[R.bind_ok,R.tell_nil];rfl
  ·show ([116,121,112,101]++32::(nm.t++32::61::32::prT 0 t)++[59,10]).length+_≤_;simp only[lC,lA,lN];omega
 next=>
  obtain⟨_,r0,_,_,e0,h⟩:=R.bind_ok_inv h;obtain⟨o1,o2⟩:=ZaR e0 ho;obtain⟨nm,r1,_,_,e1,h⟩:=R.bind_ok_inv h;obtain⟨n1,p1,w1⟩:=ZcF e1 o1;split at h
  next hm=>
   obtain⟨p2,w2⟩:=Zbd hm p1;obtain⟨t,r3,_,_,e3,h⟩:=R.bind_ok_inv h;obtain⟨a1,p3,w3,a4,-⟩:=(ZjI 64).1 _ p2 _ _ _ e3;obtain⟨_,r4,_,_,e4,h⟩:=R.bind_ok_inv h;obtain⟨p4,w4⟩:=ZaR e4 p3;obtain⟨e,r5,_,_,e5,h⟩:=R.bind_ok_inv h;obtain⟨b1,p5,w5,b4,-⟩:=ZjJ 64 _ p4 _ _ _ e5;obtain⟨_,r6,_,_,e6,h⟩:=R.bind_ok_inv h;obtain⟨p6,w6⟩:=ZaR e6 p5;cases h;simp only[lC,lN] at o2 w2 w4 w6;refine⟨⟨.inr (.inr rfl),n1,?_,fun r=>?_⟩,p6,?_⟩
   ·have h1:hdD ⟨3,nm.a,nm.t,[t],[e]⟩++[59]=[108,101,116]++32::(nm.t++32::58::32::(prT 0 t++32::61::32::(prE 0 e++[59]))):=by
     show ([108,101,116]++32::(nm.t++(32::58::32::prT 0 t++32::61::32::prE 0 e)))++[59]=_;simp
    rw[h1];exact .cut (u:=[_]) ZkV (by decide) (.bl (.cut (u:=[_]) (Zcy n1) (by decide) (.bl (.sg (by decide) (.bl (.cut (lz_T a1 0) (by decide) (.bl (.sg (by decide) (.bl (.cut (lz_E b1 0) (by decide) (.sg (by decide) .nil)))))))))))
   ·have h1:uD ⟨3,nm.a,nm.t,[t],[e]⟩=wK [108,101,116]::nK nm.t::sK [58]::(uT 0 t++sK [61]::(uE 0 e++[sK [59]])):=rfl;have h2:∀Z,ZbI (wK [108,101,116]::nK nm.t::sK [58]::Z)=(((typ 64 Z).bind fun t r=>(want [61] r).bind fun _ r=>(exp 64 r).bind fun e r=>(want [59] r).bind fun _ r=>.ok ⟨3,0,nm.t,[t],[e]⟩ r []).tell []).tell []:=fun Z=>rfl
    rw[h1];simp only[cA,aA,List.nil_append];rw[h2,a4 64 (nl _) _ rfl rfl,R.bind_ok,ZcZ,R.bind_ok,b4 64 (nl _) _ ⟨rfl,rfl⟩,R.bind_ok,ZcZ];simp only[R.bind_ok,R.tell_nil,PD.pl,PE.pls];rfl
   ·show ([108,101,116]++32::(nm.t++(32::58::32::prT 0 t++32::61::32::prE 0 e))++[59,10]).length+_≤_;simp only[lC,lA,lN];omega
  next=>
   obtain⟨_,r4,_,_,e4,h⟩:=R.bind_ok_inv h;obtain⟨p4,w4⟩:=ZaR e4 p1;obtain⟨e,r5,_,_,e5,h⟩:=R.bind_ok_inv h;obtain⟨b1,p5,w5,b4,-⟩:=ZjJ 64 _ p4 _ _ _ e5;obtain⟨_,r6,_,_,e6,h⟩:=R.bind_ok_inv h;obtain⟨p6,w6⟩:=ZaR e6 p5;cases h;simp only[lC,lN] at o2 w4 w6;refine⟨⟨.inr (.inr rfl),n1,?_,fun r=>?_⟩,p6,?_⟩
   ·have h1:hdD ⟨3,nm.a,nm.t,[],[e]⟩++[59]=[108,101,116]++32::(nm.t++32::61::32::(prE 0 e++[59])):=by
     show ([108,101,116]++32::(nm.t++([]++32::61::32::prE 0 e)))++[59]=_;simp
    rw[h1];exact .cut (u:=[_]) ZkV (by decide) (.bl (.cut (u:=[_]) (Zcy n1) (by decide) (.bl (.sg (by decide) (.bl (.cut (lz_E b1 0) (by decide) (.sg (by decide) .nil)))))))
   ·have h1:uD ⟨3,nm.a,nm.t,[],[e]⟩=wK [108,101,116]::nK nm.t::sK [61]::(uE 0 e++[sK [59]]):=rfl;have h2:∀Z,ZbI (wK [108,101,116]::nK nm.t::sK [61]::Z)=((((exp 64 Z).bind fun e r=>(want [59] r).bind fun _ r=>.ok ⟨3,0,nm.t,[],[e]⟩ r []).tell []).tell []).tell []:=fun Z=>rfl
    rw[h1];simp only[cA,aA,List.nil_append];rw[h2,b4 64 (nl _) _ ⟨rfl,rfl⟩,R.bind_ok,ZcZ];simp only[R.bind_ok,R.tell_nil,PD.pl,PE.pls];rfl
   ·show ([108,101,116]++32::(nm.t++([]++32::61::32::prE 0 e))++[59,10]).length+_≤_;simp only[lC,lA,lN];omega
theorem Zgx{p r:List Tk}:wt r≤wt (p++r):=by simp[wt]
theorem ZdC:∀ts:List Tk,∃p,ts=p++Za4 ts
 | []=>⟨[],rfl⟩
 | t::r=>by
  rw[Za4];split
  ·exact⟨[],rfl⟩
  split
  ·exact⟨[t],rfl⟩
  ·obtain⟨p,hp⟩:=ZdC r;exact⟨t::p,by rw[cA,←hp]⟩
theorem Zdp{p r:List Tk}(h:Oks (p++r)):Oks r:=fun t ht=>h t (by simp[ht])
theorem Zgb:∀(n:Nat) (ts:List Tk),Oks ts→(∀d∈(ZaO n ts).1,GD d)∧(prF (ZaO n ts).1).length≤wt ts
 | 0,ts,_=>⟨by simp[ZaO],by simp[ZaO,prF]⟩
 | n+1,ts,ho=>by
  by_cases hk:(hd ts).k=6
  ·rw[Ze1 hk];exact⟨by simp,by simp[prF]⟩
  ·rw[Zct hk];cases h:ZbI ts with
   | ok d r e=>
    obtain⟨g,o,w⟩:=Zlv ho h;obtain⟨ih1,ih2⟩:=Zgb n r o;refine⟨fun x hx=>?_,?_⟩
    ·rcases List.mem_cons.1 hx with rfl | hx
     ·exact g
     ·exact ih1 x hx
    ·show (prF (d::_)).length≤_;rw[prF,List.flatMap_cons,lA];show _+(prF _).length≤_;omega
   | bad y r e=>
    obtain⟨p,hp,-⟩:=(Zdg ts).2 y r e h;obtain⟨q,hq⟩:=ZdC r;have o:Oks (Za4 r):=Zdp (p:=q) (by rw[←hq];exact Zdp (p:=p) (by rw[←hp];exact ho));obtain⟨ih1,ih2⟩:=Zgb n (Za4 r) o;refine⟨ih1,Nat.le_trans ih2 ?_⟩
    have h1:wt (Za4 r)≤wt r:=by
     conv=>rhs;rw[hq]
     exact Zgx
    have h2:wt r≤wt ts:=by rw[hp];exact Zgx
    omega
theorem Zik{Q:Step→Prop}(hQ:∀l:Bs,l≠[]→Q (Zac l))(l:Bs):∀t∈toks l,t=⟨6,l.length,[]⟩∨∃s,Q s∧s.k≠0∧t.k=s.k∧t.t=s.t:=by
 intro t ht;rcases ZfY ht with h | ⟨x,hx,hk,rfl⟩
 ·exact .inl h
 ·exact .inr ⟨x.s,Zf7 hQ l.length 0 l (nl _) x hx,hk,rfl,rfl⟩
theorem Zif{p:UInt8→Bool}(l:Bs):∀c∈l.take (Zad p l),p c=true:=by
 intro c hc;obtain⟨i,hi,rfl⟩:=List.getElem_of_mem hc;have h1:i<Zad p l:=by rw[List.length_take] at hi;omega
 obtain⟨c,hc,hp⟩:=Zb9 p l i h1;have h2:i<l.length:=by rw[List.length_take] at hi;omega
 rw[List.getElem_take];rw[List.getElem?_eq_getElem h2] at hc;cases hc;exact hp
theorem Zfv (l:Bs)(h:l≠[]):((Zac l).k=1→NmB (Zac l).t)∧((Zac l).k=4→∀c∈(Zac l).t,Zal c=true):=by
 cases l with
 | nil=>exact absurd rfl h
 | cons c r=>
  simp only[Zac];split
  ·exact⟨by simp,by simp⟩
  split
  ·exact⟨by simp,by simp⟩
  split
  next hc=>
   refine⟨fun h=>?_,fun h=>?_⟩
   ·have h':ZaL ((c::r).take (Zad ZaH (c::r)))=1:=h;refine⟨⟨c,r.take (Zad ZaH r),?_,hc⟩,Zif _,?_⟩
    ·show (c::r).take (Zad ZaH (c::r))=_;rw[Zad,if_pos (Zfw hc),List.take_succ_cons]
    ·unfold ZaL at h';split at h'
     next=>cases h'
     next hw=>exact eq_false_of_ne_true hw
   ·have h':ZaL ((c::r).take (Zad ZaH (c::r)))=4:=h;unfold ZaL at h';split at h'<;>cases h'
  split
  ·split<;>exact⟨by simp,by simp⟩
  split
  ·split
   ·exact⟨by simp,fun _=>Zif _⟩
   ·exact⟨by simp,by simp⟩
  split
  ·exact⟨by simp,by simp⟩
  split<;>exact⟨by simp,by simp⟩
theorem Zen (l:Bs):Oks (toks l):=by
 intro t ht;refine⟨fun hk=>?_,ZdJ l t ht,fun hk=>?_⟩
 ·rcases Zik (Q:=fun s=>(s.k=1→NmB s.t)∧(s.k=4→∀c∈s.t,Zal c=true)) Zfv l t ht with rfl | ⟨s,hs,-,e1,e2⟩
  ·cases hk
  ·rw[e2];exact hs.1 (e1▸hk)
 ·rcases Zik (Q:=fun s=>(s.k=1→NmB s.t)∧(s.k=4→∀c∈s.t,Zal c=true)) Zfv l t ht with rfl | ⟨s,hs,-,e1,e2⟩
  ·cases hk
  ·rw[e2];exact hs.2 (e1▸hk)
theorem ZnU (l:Bs)(h:l≠[]):(Zac l).t.length+2≤3*(Zac l).n:=by
 have hn:=ZbS l h;cases l with
 | nil=>exact absurd rfl h
 | cons c r=>
  revert hn
  simp only[Zac];split
  ·intro hn;simp
  split
  ·intro hn;simp only[lN] at hn⊢;omega
  split
  ·intro hn;simp only[List.length_take] at hn⊢;omega
  split
  ·split
   ·intro hn;simp only[lC,lN] at hn⊢;omega
   ·intro hn;simp only[List.length_take] at hn⊢;omega
  split
  ·split
   ·intro hn;simp only[List.length_take] at hn⊢;omega
   ·intro hn;simp only[lN] at hn⊢;omega
  split
  ·intro hn;simp
  split<;>(intro hn;simp)
theorem Znn:∀(N a:Nat) (l:Bs),l.length≤N→((pcs a l).map fun x=>x.s.t.length+2).sum≤3*l.length
 | 0,a,l,h=>by
  have:l=[]:=List.eq_nil_of_length_eq_zero (by omega);subst this;simp[Zcx]
 | N+1,a,l,h=>by
  by_cases hl:l=[]
  ·subst hl;simp[Zcx]
  ·have hn:=ZbS l hl;have hw:=ZnU l hl;have ih:=Znn N (a+(Zac l).n) (l.drop (Zac l).n) (by rw[List.length_drop];omega);rw[ZcR a l hl];simp only[List.map_cons,List.sum_cons,List.length_drop] at ih⊢;omega
theorem Zgw:∀l:List Pc,wt (ZaG l)≤(l.map fun x=>x.s.t.length+2).sum
 | []=>by simp[ZaG,wt]
 | x::l=>by
  have ih:=Zgw l;rw[Zb8];simp only[List.map_cons,List.sum_cons];split
  ·simp only[List.nil_append];omega
  ·simp only[List.singleton_append,Zhq];omega
theorem ZfN (p:Pc→Bool)(f:Pc→Nat):∀l:List Pc,((l.filter p).map f).sum≤(l.map f).sum
 | []=>by simp
 | x::l=>by
  have:=ZfN p f l;rw[List.filter_cons];split<;>simp only[List.map_cons,List.sum_cons]<;>omega
theorem Zhp (l:Bs):wt (toks l)≤3*l.length+2:=by
 have h1:=Znn l.length 0 l (nl _);have h2:=ZfN Pc.isPiece (fun x=>x.s.t.length+2) (pcs 0 l);have h3:=Zgw (Zaq 0 l);unfold toks;unfold Zaq at h3⊢;simp only[wt,List.map_append,List.sum_append,List.map_cons,List.map_nil,List.sum_cons,List.sum_nil,lN] at h3⊢;omega
theorem Znz (s:Bs):(∀d∈(Zbt s).1,GD d)∧(prF (Zbt s).1).length≤3*s.length+2:=by
 obtain⟨h1,h2⟩:=Zgb (toks s).length (toks s) (Zen s);exact⟨h1,Nat.le_trans h2 (Zhp s)⟩
/-! The text does not tell places. -/
def wT (l:Bs):Option PT:=Zbj (ZbJ (typ 64) (toks l)) (dns l)
def wE (l:Bs):Option PE:=Zbj (ZbJ (exp 64) (toks l)) (dns l)
theorem ZgA{α:Type}{f:List Tk→R α}(he:∀ts,Eats ts (f ts)){l:Bs}{x:α}(h:Zbj (ZbJ f (toks l)) (dns l)=some x):td 0 l=[]∧f (toks l)=.ok x [⟨6,l.length,[]⟩] []:=by
 unfold ZbJ at h;have he:=he (toks l);cases hx:f (toks l) with
 | bad y r d=>rw[hx] at h;simp[R.bind,Zbj] at h
 | ok y r d=>
  rw[hx] at h he;rw[R.bind_ok] at h;by_cases hk:(hd r).k=6
  ·rw[if_pos hk] at h;simp only[R.tell,Zbj,List.append_nil] at h;split at h
   next hnil=>
    cases h;obtain⟨h1,h2⟩:=List.append_eq_nil_iff.1 hnil;subst h2;refine⟨h1,?_⟩;obtain⟨p,e1,e2⟩:=he;have e1:toks l=p++r:=e1;rw[ZnL] at e1;have hr:r=[⟨6,l.length,[]⟩]:=by
     cases r with
     | nil=>rw[List.append_nil] at e1;exact absurd rfl (e2 ⟨6,l.length,[]⟩ (by rw[←e1];simp)).1
     | cons t r=>
      rcases List.eq_nil_or_concat r with rfl | ⟨q,e',rfl⟩
      ·have:=List.append_inj' e1 rfl;simp at this;rw[this.2]
      ·rw[List.concat_eq_append] at e1;have e3:tk 0 l++[⟨6,l.length,[]⟩]=(p++t::q)++[e']:=by rw[e1];simp
       have:=(List.append_inj' e3 rfl).1;exact absurd hk (ZnO l t (by rw[this];simp))
    rw[hr]
   ·cases h
  ·rw[if_neg hk] at h;simp[R.tell,Zbj] at h
structure GT (t:PT):Prop where
 vt:VT t
 r0:R0 64 t
theorem wT_inv{l:Bs}{t:PT}(h:wT l=some t):GT t∧(prT 0 t).length≤3*l.length+2:=by
 obtain⟨-,h2⟩:=ZgA (fun ts=>(Zev 64).1 ts) h;obtain⟨a1,a2,a3,a4,-⟩:=(ZjI 64).1 _ (Zen l) _ _ _ h2;have:=Zhp l;exact⟨⟨a1,a4⟩,by omega⟩
structure GE (x:PE):Prop where
 ve:VE x
 e0:E0 64 x
theorem wE_inv{l:Bs}{x:PE}(h:wE l=some x):GE x∧(prE 0 x).length≤3*l.length+2:=by
 obtain⟨-,h2⟩:=ZgA (fun ts=>ZeA 64 ts) h;obtain⟨a1,a2,a3,a4,-⟩:=ZjJ 64 _ (Zen l) _ _ _ h2;have:=Zhp l;exact⟨⟨a1,a4⟩,by omega⟩
/-! Within others. -/
/-! One line. -/
theorem ZfA (l m:List PD):prF (l++m)=prF l++prF m:=by simp[prF]
end Go.Proofs.YtijnjoonbjdafaaGreatDoor

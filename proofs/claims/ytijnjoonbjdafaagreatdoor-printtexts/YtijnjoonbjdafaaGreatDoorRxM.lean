import Derived.Test.YtijnjoonbjdafaaGreatDoorSpM
namespace Go.Proofs.YtijnjoonbjdafaaGreatDoor
set_option maxHeartbeats 20000000
set_option maxRecDepth 20000
structure Q where
 ts:List Tk
 nd:Nat
 bad:Bool
def Q.is (m:Bs)(s:Q):Bool:=!s.bad&&isM m s.ts
def Q.give (s:Q):Q:=if s.bad then s else ⟨s.ts,s.nd+1,true⟩
def Q.more (s:Q):Q:=⟨s.ts,s.nd+1,s.bad⟩
def Q.next (s:Q):Q:=⟨s.ts.tail,s.nd,s.bad⟩
def Q.take (m:Bs)(s:Q):Q:=if s.is m then s.next else s.give
def zTk:Tk:=⟨0,0,[]⟩
def Q.name (s:Q):Tk×Q:=if s.bad then (zTk,s) else if (hd s.ts).k=1 then (hd s.ts,s.next) else (zTk,s.give)
def qT0:PT:=.mk 0 [] [] []
def qE0:PE:=.mk 0 0 [] 0 [] [] []
def Zce (f:Q→PT×Q):Nat→List PT→Q→List PT×Q
 | 0,acc,s=>(acc,s)
 | n+1,acc,s=>if s.is [124] then Zce f n (acc++[(f (s.take [124])).1]) (f (s.take [124])).2 else (acc,s)
def typS (arrow:Q→PT×Q)(s:Q):PT×Q:=
 if s.bad then (qT0,s)
 else if (arrow s).2.is [124] then (.mk 7 [] [] (Zce arrow (arrow s).2.ts.length [(arrow s).1] (arrow s).2).1,(Zce arrow (arrow s).2.ts.length [(arrow s).1] (arrow s).2).2)
 else arrow s
def Zcn (last:Bool)(plain arrow:Q→PT×Q)(s:Q):PT×Q:=
 if (plain s).2.is [45,62] then
  if last then ((plain s).1,((plain s).2.take [45,62]).give)
  else (.mk 6 [] [] [(plain s).1,(arrow ((plain s).2.take [45,62])).1],(arrow ((plain s).2.take [45,62])).2)
 else plain s
section
variable {α : Type}
def Q.comma (s:Q):Q:=if s.is [125] then s else if (s.take [44]).is [125] then (s.take [44]).give else s.take [44]
def Q.head (sign:Bs)(s:Q):Tk×Q:=(s.name.1,s.name.2.take sign)
def fldS (sign:Bs)(read:Q→α×Q)(ins:List (Bs×α)→Bs→α→List (Bs×α)):Nat→List (Bs×α)→Q→Option (List (Bs×α))×Q
 | 0,acc,s=>(some acc,s)
 | n+1,acc,s=>
  if s.bad || s.is [125] then (some acc,s)
  else if (s.head sign).2.bad then (none,(s.head sign).2)
  else if (s.head sign).1.t∈acc.map (·.1) then fldS sign read ins n acc (read (s.head sign).2.more).2.comma
  else fldS sign read ins n (ins acc (s.head sign).1.t (read (s.head sign).2).1) (read (s.head sign).2).2.comma
end
def insT (l:List (Bs×PT))(n:Bs)(x:PT):List (Bs×PT):=insF (n,x) l
def insE (l:List (Bs×PE))(n:Bs)(x:PE):List (Bs×PE):=l++[(n,x)]
def rowT (fs:List (Bs×PT)):PT:=.mk 5 [] (fs.map (·.1)) (fs.map (·.2))
def clsS{α:Type}(p:Option (List (Bs×α))×Q):Option (List (Bs×α))×Q:=
 match p with
 | (some l,s)=>(some l,s.take [125])
 | (none,s)=>(none,s)
def rowS{α β:Type}(f:List (Bs×α)→β)(z:β)(p:Option (List (Bs×α))×Q):β×Q:=
 match p with
 | (some fs,s)=>(f fs,s)
 | (none,s)=>(z,s)
def recS (typ:Q→PT×Q)(s:Q):PT×Q:=if s.ts=[] then (rowT [],s) else rowS rowT qT0 (clsS (fldS [58] typ insT s.ts.length [] s))
def Zbx (typ:Q→PT×Q)(s:Q):PT×Q:=
 if s.bad then (qT0,s)
 else if (hd s.ts).k=1 then (.mk 8 (hd s.ts).t [] [],s.next)
 else if s.is [105,110,116] then (tInt,s.take [105,110,116])
 else if s.is [98,111,111,108] then (ZgI,s.take [98,111,111,108])
 else if s.is [116,101,120,116] then (Zj2,s.take [116,101,120,116])
 else if s.is [63] then (tDyn,s.take [63])
 else if s.is [123] then recS typ (s.take [123])
 else if (s.take [40]).bad then (qT0,s.take [40])
 else ((typ (s.take [40])).1,(typ (s.take [40])).2.take [41])
def lvS:Nat→(Q→PT×Q)×(Q→PT×Q)
 | 0=>(fun s=>(qT0,s.give),fun s=>(qT0,s.give))
 | n+1=>(typS (Zcn (n==0) (Zbx (lvS n).1) (lvS n).2),Zcn (n==0) (Zbx (lvS n).1) (lvS n).2)
def qTyp (n:Nat):Q→PT×Q:=(lvS n).1
def qArr (n:Nat):Q→PT×Q:=(lvS n).2
def rowE (a:Nat)(fs:List (Bs×PE)):PE:=.mk 5 a [] 0 (fs.map (·.1)) (fs.map (·.2)) []
def Zi2 (a:Nat)(expr:Q→PE×Q)(s:Q):PE×Q:=if s.ts=[] then (rowE a [],s) else rowS (rowE a) qE0 (clsS (fldS [61] expr insE s.ts.length [] s))
def brkS (a:Nat)(typ:Q→PT×Q)(expr:Q→PE×Q)(s:Q):PE×Q:=
 if (expr s).2.is [58] then (.mk 11 a [] 0 [] [(expr s).1] [(typ ((expr s).2.take [58])).1],(typ ((expr s).2.take [58])).2.take [41])
 else ((expr s).1,(expr s).2.take [41])
def Zdy (typ:Q→PT×Q)(expr:Q→PE×Q)(s:Q):PE×Q:=
 if s.bad then (qE0,s)
 else if (hd s.ts).k=1 then (.mk 4 (hd s.ts).a (hd s.ts).t 0 [] [] [],s.next)
 else if (hd s.ts).k=3 then (.mk 1 (hd s.ts).a [] (ZbM (hd s.ts).t) [] [] [],s.next)
 else if (hd s.ts).k=4 then (.mk 2 (hd s.ts).a (hd s.ts).t 0 [] [] [],s.next)
 else if s.is [116,114,117,101] then (.mk 3 (hd s.ts).a [] 1 [] [] [],s.take [116,114,117,101])
 else if s.is [102,97,108,115,101] then (.mk 3 (hd s.ts).a [] 0 [] [] [],s.take [102,97,108,115,101])
 else if s.is [123] then Zi2 (hd s.ts).a expr (s.take [123])
 else if (s.take [40]).bad then (qE0,s.take [40])
 else brkS (hd s.ts).a typ expr (s.take [40])
def ZcB (expr:Q→PE×Q):Nat→PE→Q→PE×Q
 | 0,x,s=>(x,s)
 | n+1,x,s=>
  if s.is [40] then ZcB expr n (.mk 7 (hd s.ts).a [] 0 [] [x,(expr (s.take [40])).1] []) ((expr (s.take [40])).2.take [41])
  else if s.is [46] then ZcB expr n (.mk 6 (s.take [46]).name.1.a (s.take [46]).name.1.t 0 [] [x] []) (s.take [46]).name.2
  else (x,s)
def ZcO (s:Q):Tk×Q:=(((s.take [102,117,110]).take [40]).name.1,((s.take [102,117,110]).take [40]).name.2.take [58])
def funS (a:Nat)(typ:Q→PT×Q)(expr:Q→PE×Q)(s:Q):PE×Q:=
 if (ZcO s).2.bad then (qE0,(ZcO s).2)
 else if ((typ (ZcO s).2).2.take [41]).bad then (qE0,(typ (ZcO s).2).2.take [41])
 else (.mk 8 a (ZcO s).1.t 0 [] [(expr ((typ (ZcO s).2).2.take [41])).1] [(typ (ZcO s).2).1],(expr ((typ (ZcO s).2).2.take [41])).2)
def Zjp (s:Q):Tk×Q:=((s.take [108,101,116]).name.1,(s.take [108,101,116]).name.2.take [61])
def letS (a:Nat)(expr:Q→PE×Q)(s:Q):PE×Q:=
 (.mk 9 a (Zjp s).1.t 0 [] [(expr (Zjp s).2).1,(expr ((expr (Zjp s).2).2.take [105,110])).1] [],(expr ((expr (Zjp s).2).2.take [105,110])).2)
def if1 (expr:Q→PE×Q)(s:Q):PE×Q:=expr (s.take [105,102])
def if2 (expr:Q→PE×Q)(s:Q):PE×Q:=expr ((if1 expr s).2.take [116,104,101,110])
def if3 (expr:Q→PE×Q)(s:Q):PE×Q:=expr ((if2 expr s).2.take [101,108,115,101])
def ifS (a:Nat)(expr:Q→PE×Q)(s:Q):PE×Q:=(.mk 10 a [] 0 [] [(if1 expr s).1,(if2 expr s).1,(if3 expr s).1] [],(if3 expr s).2)
def Zjw (typ:Q→PT×Q)(expr:Q→PE×Q)(s:Q):PE×Q:=
 if s.bad then (qE0,s)
 else if s.is [102,117,110] then funS (hd s.ts).a typ expr s
 else if s.is [108,101,116] then letS (hd s.ts).a expr s
 else if s.is [105,102] then ifS (hd s.ts).a expr s
 else ZcB expr (Zdy typ expr s).2.ts.length (Zdy typ expr s).1 (Zdy typ expr s).2
def qExp:Nat→Q→PE×Q
 | 0=>fun s=>(qE0,s.give)
 | n+1=>Zjw (qTyp n) (qExp n)
/-! Once it has given up, nothing goes on. -/
theorem ZcM{m:Bs}{s:Q}(h:s.bad=true):s.is m=false:=by simp[Q.is,h]
theorem Zey{s:Q}(h:s.bad=true):s.give=s:=by simp[Q.give,h]
theorem Zax{m:Bs}{s:Q}(h:s.bad=true):s.take m=s:=by simp[Q.take,ZcM h,Zey h]
theorem Zms{s:Q}(h:s.bad=true):s.name=(zTk,s):=by simp[Q.name,h]
theorem Zlb (s:Q):s.give.bad=true:=by unfold Q.give;split<;>simp_all
theorem ZhY (s:Q):s.give.ts=s.ts:=by unfold Q.give;split<;>simp_all
theorem ZcD{m:Bs}{ts:List Tk}{nd:Nat}:(Q.mk ts nd false).is m=isM m ts:=by simp[Q.is]
def Rel{α:Type}(nd:Nat):R α→α×Q→Prop
 | .ok x r d,p=>p=(x,⟨r,nd+d.length,false⟩)
 | .bad _ r _,p=>p.2.ts=r∧p.2.bad=true
def Rdr{α:Type}(f:List Tk→R α)(g:Q→α×Q):Prop:=(∀ts nd,Rel nd (f ts) (g ⟨ts,nd,false⟩))∧∀s:Q,s.bad=true→(g s).2=s
theorem Rel.ok{α:Type}{nd:Nat}{f:R α}{p:α×Q}(h:Rel nd f p)(hb:p.2.bad=false):∃d,f=.ok p.1 p.2.ts d∧p.2=⟨p.2.ts,nd+d.length,false⟩:=by
 cases f with
 | ok x r d=>have h:p=_:=h;subst h;exact⟨d,rfl,rfl⟩
 | bad y r d=>exact absurd h.2 (by simp[hb])
theorem Rel.tell{β:Type}{nd:Nat}{d:List Dn}{f:R β}{q:β×Q}(h:Rel (nd+d.length) f q):Rel nd (f.tell d) q:=by
 cases f with
 | ok x r e=>
  have h:q=_:=h;subst h;show _=_;rw[lA,Nat.add_assoc]
 | bad y r e=>exact h
theorem Rel.bind{α β:Type}{nd:Nat}{f:R α}{p:α×Q}{g:α→List Tk→R β}{q:β×Q}(h:Rel nd f p)
  (hok:∀(x:α) (r:List Tk) (m:Nat),p=(x,⟨r,m,false⟩)→Rel m (g x r) q) (hbad:p.2.bad=true→q.2=p.2):Rel nd (f.bind g) q:=by
 cases f with
 | ok x r d=>
  have h:p=_:=h;exact (hok x r _ h).tell
 | bad y r d=>
  obtain⟨h1,h2⟩:=h;have h3:=hbad h2;refine⟨?_,?_⟩
  ·rw[h3];exact h1
  ·rw[h3];exact h2
theorem Rel.bind'{α β:Type}{nd:Nat}{f:R α}{p:α×Q}{g:α→List Tk→R β}{q:β×Q}(h:Rel nd f p)
  (hok:∀(x:α) (r:List Tk) (d:List Dn),f=.ok x r d→p=(x,⟨r,nd+d.length,false⟩)→Rel (nd+d.length) (g x r) q) (hbad:p.2.bad=true→q.2=p.2):Rel nd (f.bind g) q:=by
 cases f with
 | ok x r d=>
  have h:p=_:=h;exact (hok x r d rfl h).tell
 | bad y r d=>
  obtain⟨h1,h2⟩:=h;have h3:=hbad h2;refine⟨?_,?_⟩
  ·rw[h3];exact h1
  ·rw[h3];exact h2
theorem Zbe (m:Bs)(ts:List Tk)(nd:Nat):Rel nd (want m ts) ((),(Q.mk ts nd false).take m):=by
 unfold want Q.take;rw[ZcD];cases isM m ts with
 | true=>rfl
 | false=>exact⟨rfl,rfl⟩
theorem Zdn (ts:List Tk)(nd:Nat):Rel nd (Zaj ts) (Q.mk ts nd false).name:=by
 unfold Zaj Q.name;by_cases h:(hd ts).k=1
 ·rw[if_pos h,if_neg (by simp),if_pos h];rfl
 ·rw[if_neg h,if_neg (by simp),if_neg h];exact⟨rfl,rfl⟩
theorem Za3{m:Bs}{ts:List Tk}{nd:Nat}(h:isM m ts=true):(Q.mk ts nd false).take m=⟨ts.tail,nd,false⟩:=by
 unfold Q.take;rw[ZcD,if_pos h];rfl
theorem ZeM{m:Bs}{ts:List Tk}{nd:Nat}(h:isM m ts=false):(Q.mk ts nd false).take m=⟨ts,nd+1,true⟩:=by
 unfold Q.take;rw[ZcD,h,if_neg (by decide)];rfl
/-! Types. -/
theorem Zmk{plain arrow:List Tk→R PT}{qp qa:Q→PT×Q}(hp:Rdr plain qp)(ha:Rdr arrow qa):Rdr (Zck plain arrow) (Zcn false qp qa):=by
 refine⟨fun ts nd=>?_,fun s hs=>?_⟩
 ·refine (hp.1 ts nd).bind (fun x r m e=>?_) (fun hb=>?_)
  ·unfold Zcn;rw[e,ZcD];cases h:isM [45,62] r with
   | true=>
    rw[if_pos rfl,if_pos rfl,if_neg (by decide),Za3 h];refine (ha.1 r.tail m).bind (fun y r' m' e'=>?_) (fun hb=>rfl);rw[e'];rfl
   | false=>rw[if_neg (by decide),if_neg (by decide)];rfl
  ·unfold Zcn;rw[ZcM hb,if_neg (by decide)]
 ·unfold Zcn;have h:=hp.2 s hs;rw[ZcM (by rw[h];exact hs),if_neg (by decide),h]
theorem Zoh{plain:List Tk→R PT}{qp:Q→PT×Q}(hp:Rdr plain qp)(qa:Q→PT×Q):Rdr (Zck plain fun ts=>.bad (deep ts) ts []) (Zcn true qp qa):=by
 refine⟨fun ts nd=>?_,fun s hs=>?_⟩
 ·refine (hp.1 ts nd).bind (fun x r m e=>?_) (fun hb=>?_)
  ·unfold Zcn;rw[e,ZcD];cases h:isM [45,62] r with
   | true=>
    rw[if_pos rfl,if_pos rfl,if_pos rfl,Za3 h];exact⟨rfl,rfl⟩
   | false=>rw[if_neg (by decide),if_neg (by decide)];rfl
  ·unfold Zcn;rw[ZcM hb,if_neg (by decide)]
 ·unfold Zcn;have h:=hp.2 s hs;rw[ZcM (by rw[h];exact hs),if_neg (by decide),h]
theorem ZjQ{f:Q→PT×Q}:∀(n:Nat) (acc:List PT) (s:Q),s.bad=true→Zce f n acc s=(acc,s)
 | 0,_,_,_=>rfl
 | n+1,acc,s,h=>by rw[Zce,ZcM h,if_neg (by decide)]
theorem ZgO{f:List Tk→R PT}{g:Q→PT×Q}(h:Rdr f g):∀(n:Nat) (acc:List PT) (ts:List Tk) (nd:Nat),Rel nd (ZaV f n acc ts) (Zce g n acc ⟨ts,nd,false⟩)
 | 0,acc,ts,nd=>rfl
 | n+1,acc,ts,nd=>by
  unfold ZaV Zce;rw[ZcD];cases hm:isM [124] ts with
  | false=>rw[if_neg (by decide),if_neg (by decide)];rfl
  | true=>
   rw[if_pos rfl,if_pos rfl,Za3 hm];refine (h.1 ts.tail nd).bind (fun x r m e=>?_) (fun hb=>?_)
   ·rw[e];exact ZgO h n _ r m
   ·rw[ZjQ n _ _ hb]
theorem ZgE (f:List Tk→R PT):∀(n:Nat) (acc:List PT) (ts:List Tk) (l:List PT) (r:List Tk) (d:List Dn),ZaV f n acc ts=.ok l r d→acc.length≤l.length
 | 0,acc,ts,l,r,d,h=>by unfold ZaV at h;cases h;exact nl _
 | n+1,acc,ts,l,r,d,h=>by
  unfold ZaV at h;split at h
  ·cases hf:f ts.tail with
   | bad y r' d'=>rw[hf,R.bind_bad] at h;cases h
   | ok x r' d'=>
    rw[hf,R.bind_ok] at h;cases hu:ZaV f n (acc++[x]) r' with
    | bad y r2 d2=>rw[hu] at h;cases h
    | ok l2 r2 d2=>
     rw[hu,R.tell_ok] at h;cases h;have:=ZgE f n _ _ _ _ _ hu;simp only[lA,lC,lN] at this;omega
  ·cases h;exact nl _
theorem ZjP{f:List Tk→R PT}{n:Nat}{x:PT}{ts:List Tk}{l:List PT}{r:List Tk}{d:List Dn}(hn:n≠0)(hm:isM [124] ts=true)(h:ZaV f n [x] ts=.ok l r d):2≤l.length:=by
 cases n with
 | zero=>exact absurd rfl hn
 | succ n=>
  unfold ZaV at h;rw[if_pos hm] at h;cases hf:f ts.tail with
  | bad y r' d'=>rw[hf,R.bind_bad] at h;cases h
  | ok y r' d'=>
   rw[hf,R.bind_ok] at h;cases hu:ZaV f n ([x]++[y]) r' with
   | bad y r2 d2=>rw[hu] at h;cases h
   | ok l2 r2 d2=>
    rw[hu,R.tell_ok] at h;cases h;exact ZgE f n _ _ _ _ _ hu
theorem ZmF{l:List PT}(h:2≤l.length):Zeb l=.mk 7 [] [] l:=by
 cases l with
 | nil=>simp at h
 | cons a l=>cases l with
  | nil=>simp at h
  | cons b l=>rfl
theorem Zk3{m:Bs}{ts:List Tk}(h:isM m ts=true):ts.length≠0:=by
 cases ts with
 | nil=>simp[isM,hd] at h
 | cons t r=>simp
theorem rd_typ{f:List Tk→R PT}{g:Q→PT×Q}(h:Rdr f g):Rdr (typP f) (typS g):=by
 refine⟨fun ts nd=>?_,fun s hs=>?_⟩
 ·refine (h.1 ts nd).bind (fun x r m e=>?_) (fun hb=>?_)
  ·unfold typS;rw[e,ZcD,if_neg (by simp)];cases hm:isM [124] r with
   | false=>
    rw[if_neg (by decide)];cases r with
    | nil=>rfl
    | cons t r'=>rw[lC];unfold ZaV;rw[hm,if_neg (by decide)];rfl
   | true=>
    rw[if_pos rfl];refine (ZgO h r.length [x] r m).bind' (fun l r' d e1 e'=>?_) (fun hb=>rfl);rw[e',ZmF (ZjP (Zk3 hm) hm e1)];rfl
  ·unfold typS;rw[ZcM hb,if_neg (by simp),if_neg (by decide)]
 ·unfold typS;rw[if_pos hs]
/-! Records. -/
section
variable {α : Type}
theorem Zgk{sign:Bs}{read:Q→α×Q}{ins:List (Bs×α)→Bs→α→List (Bs×α)}:∀(n:Nat) (acc:List (Bs×α)) (s:Q),s.bad=true→fldS sign read ins n acc s=(some acc,s)
 | 0,_,_,_=>rfl
 | n+1,acc,s,h=>by rw[fldS,h];rfl
theorem Zhk{s:Q}(h:s.bad=true):s.comma=s:=by
 unfold Q.comma;rw[ZcM h,if_neg (by decide),Zax h,ZcM h,if_neg (by decide)]
def Ze6 (ins:List (Bs×α)→Bs→α→List (Bs×α))(acc:List (Bs×α)):List (Bs×α):=acc.foldl (fun l x=>ins l x.1 x.2) []
theorem Zk0 (ins:List (Bs×α)→Bs→α→List (Bs×α))(acc:List (Bs×α))(n:Bs)(v:α):Ze6 ins (acc++[(n,v)])=ins (Ze6 ins acc) n v:=by simp[Ze6]
def Kept (ins:List (Bs×α)→Bs→α→List (Bs×α))(nd:Nat):R (List (Bs×α))→Option (List (Bs×α))×Q→Prop
 | .ok x r d,p=>p=(some (Ze6 ins x),⟨r,nd+d.length,false⟩)
 | .bad _ r _,p=>p.2.ts=r∧p.2.bad=true
theorem Kept.tell{ins:List (Bs×α)→Bs→α→List (Bs×α)}{nd:Nat}{d:List Dn}{f:R (List (Bs×α))}{q:Option (List (Bs×α))×Q}(h:Kept ins (nd+d.length) f q):Kept ins nd (f.tell d) q:=by
 cases f with
 | ok x r e=>
  have h:q=_:=h;subst h;show _=_;rw[lA,Nat.add_assoc]
 | bad y r e=>exact h
theorem Kept.bind{β:Type}{ins:List (Bs×α)→Bs→α→List (Bs×α)}{nd:Nat}{f:R β}{p:β×Q}{g:β→List Tk→R (List (Bs×α))}{q:Option (List (Bs×α))×Q}(h:Rel nd f p)
  (hok:∀(x:β) (r:List Tk) (m:Nat),p=(x,⟨r,m,false⟩)→Kept ins m (g x r) q) (hbad:p.2.bad=true→q.2=p.2):Kept ins nd (f.bind g) q:=by
 cases f with
 | ok x r d=>
  have h:p=_:=h;exact (hok x r _ h).tell
 | bad y r d=>
  obtain⟨h1,h2⟩:=h;have h3:=hbad h2;refine⟨?_,?_⟩
  ·rw[h3];exact h1
  ·rw[h3];exact h2
end
section
variable {α : Type}
theorem Zfe{sign:Bs}{read:List Tk→R α}{qread:Q→α×Q}{ins:List (Bs×α)→Bs→α→List (Bs×α)}(hr:Rdr read qread)(hs:∀ts,Shr ts.length (read ts))
  (hins:∀l n v x,x∈(ins l n v).map (·.1)↔x=n∨x∈l.map (·.1)) :
  ∀(n m:Nat) (seen:List Bs) (acc l:List (Bs×α)) (ts:List Tk) (nd:Nat),l=Ze6 ins acc→ts.length≤n→n≠0→ts.length≤m→isM [125] ts=false→(∀x,x∈seen↔x∈l.map (·.1))→
   Kept ins nd (ZaA sign read n seen acc ts) (clsS (fldS sign qread ins m l ⟨ts,nd,false⟩))
 | 0,_,_,_,_,_,_,_,_,h,_,_,_=>absurd rfl h
 | n+1,0,seen,acc,l,ts,nd,hl,hn,_,hm,h125,hseen=>by
  have:ts=[]:=List.eq_nil_of_length_eq_zero (by omega);subst this;exact⟨rfl,rfl⟩
 | n+1,m+1,seen,acc,l,ts,nd,hl,hn,_,hm,h125,hseen=>by
  unfold ZaA fldS;rw[ZcD,h125,if_neg (by simp)];by_cases hk:(hd ts).k=1
  ·have hw:Zaj ts=.ok (hd ts) ts.tail []:=by simp[Zaj,hk]
   have hq:(Q.mk ts nd false).name=(hd ts,⟨ts.tail,nd,false⟩):=by simp[Q.name,hk,Q.next]
   have hlt:ts.tail.length+1≤ts.length:=by
    cases ts with
    | nil=>exact absurd hk (by decide)
    | cons t r=>simp
   rw[hw,R.bind_ok,R.tell_nil];unfold Q.head;rw[hq];cases hsg:isM sign ts.tail with
   | false=>
    have h1:want sign ts.tail=.bad (syn ts.tail) ts.tail []:=by simp[want,hsg]
    simp only[ZeM hsg,if_pos];rw[h1,R.bind_bad];exact⟨rfl,rfl⟩
   | true=>
    have h1:want sign ts.tail=.ok () ts.tail.tail []:=by simp[want,hsg]
    have hlt2:ts.tail.tail.length≤ts.tail.length:=Za8 _;simp only[Za3 hsg,ff,if_false];rw[h1,R.bind_ok,R.tell_nil];have hgo:∀(acc' l':List (Bs×α)) (x:α) (r:List Tk) (k:Nat) (out:Option (List (Bs×α))×Q),l'=Ze6 ins acc'→(∀y,y∈(hd ts).t::seen↔y∈l'.map (·.1))→r.length≤ts.tail.tail.length→
      out=clsS (fldS sign qread ins m l' (Q.mk r k false).comma)→
      Kept ins k (if isM [44] r then ZaA sign read n ((hd ts).t::seen) acc' r.tail else (want [125] r).bind fun _ r=>.ok acc' r []) out:=by
     intro acc' l' x r k out hl' hseen' hrl hout;subst hout;cases hc:isM [44] r with
     | true=>
      rw[if_pos rfl];have hrt:r.tail.length+1≤r.length:=by
       have:=Zk3 hc;rw[List.length_tail];omega
      have hno:isM [125] r=false:=by
       unfold isM at hc⊢;simp only[Bool.and_eq_true,beq_iff_eq] at hc;rw[hc.2];simp
      have hcm:(Q.mk r k false).comma=if isM [125] r.tail then (Q.mk r.tail (k+1) true) else ⟨r.tail,k,false⟩:=by
       unfold Q.comma;rw[ZcD,hno,if_neg (by decide),Za3 hc,ZcD];rfl
      rw[hcm];cases h5:isM [125] r.tail with
      | true=>
       rw[if_pos rfl,Zgk _ _ _ rfl];have hn0:n≠0:=by omega
       obtain⟨n',rfl⟩:∃n',n=n'+1:=⟨n-1,by omega⟩;have hk1:(hd r.tail).k≠1:=by
        intro e;simp only[isM,e] at h5;simp at h5
       have hw1:Zaj r.tail=.bad (syn r.tail) r.tail []:=by simp[Zaj,hk1]
       unfold ZaA;rw[hw1,R.bind_bad];exact⟨rfl,rfl⟩
      | false=>
       rw[if_neg (by decide)];exact Zfe hr hs hins n m _ acc' l' r.tail k hl' (by omega) (by omega) (by omega) h5 hseen'
     | false=>
      rw[if_neg (by decide)];have hcm:(Q.mk r k false).comma=if isM [125] r then (Q.mk r k false) else ⟨r,k+1,true⟩:=by
       unfold Q.comma;rw[ZcD,ZeM hc];split<;>rfl
      rw[hcm];cases h5:isM [125] r with
      | true=>
       rw[if_pos rfl];have hf:fldS sign qread ins m l' ⟨r,k,false⟩=(some l',⟨r,k,false⟩):=by
        cases m with
        | zero=>rfl
        | succ m=>unfold fldS;rw[ZcD,h5,if_pos (by simp)]
       have hw1:want [125] r=.ok () r.tail []:=by simp[want,h5]
       rw[hf,hw1,R.bind_ok];show Kept ins k _ (some l',(Q.mk r k false).take [125]);rw[Za3 h5,hl'];rfl
      | false=>
       have hw1:want [125] r=.bad (syn r) r []:=by simp[want,h5]
       rw[if_neg (by decide),Zgk _ _ _ rfl,hw1,R.bind_bad];exact⟨rfl,rfl⟩
    by_cases htw:(hd ts).t∈seen
    ·have htl:(hd ts).t∈l.map (·.1):=(hseen _).1 htw;simp only[if_pos htw,if_pos htl];refine Kept.tell ?_;refine Kept.bind (hr.1 ts.tail.tail (nd+1)) (fun x r k e=>?_) (fun hb=>?_)
     ·have hsh:r.length≤ts.tail.tail.length:=by
       have h2:=hr.1 ts.tail.tail (nd+1);obtain⟨d,hd'⟩:=h2.ok (by rw[e]);have h3:=hs ts.tail.tail;rw[hd'.1,e] at h3;exact h3
      refine hgo acc l x r k _ hl (fun y=>?_) hsh ?_
      ·rw[List.mem_cons,hseen];exact⟨fun h=>h.elim (fun h=>h▸htl) id,.inr⟩
      ·have e':qread (Q.mk ts.tail.tail nd false).more=_:=e;rw[e']
     ·show (clsS (fldS sign qread ins m l (qread ⟨ts.tail.tail,nd+1,false⟩).2.comma)).2=_;rw[Zhk hb,Zgk _ _ _ hb];exact Zax hb
    ·have htl:¬(hd ts).t∈l.map (·.1):=fun h=>htw ((hseen _).2 h)
     simp only[if_neg htw,if_neg htl];refine Kept.tell ?_;refine Kept.bind (hr.1 ts.tail.tail nd) (fun x r k e=>?_) (fun hb=>?_)
     ·have hsh:r.length≤ts.tail.tail.length:=by
       have h2:=hr.1 ts.tail.tail nd;obtain⟨d,hd'⟩:=h2.ok (by rw[e]);have h3:=hs ts.tail.tail;rw[hd'.1,e] at h3;exact h3
      refine hgo (acc++[((hd ts).t,x)]) (ins l (hd ts).t x) x r k _ (by rw[Zk0,hl]) (fun y=>?_) hsh ?_
      ·rw[List.mem_cons,hseen,hins]
      ·rw[e]
     ·rw[Zhk hb,Zgk _ _ _ hb];exact Zax hb
  ·have hw:Zaj ts=.bad (syn ts) ts []:=by simp[Zaj,hk]
   have hq:((Q.mk ts nd false).head sign).2=⟨ts,nd+1,true⟩:=by
    have h1:(Q.mk ts nd false).name=(zTk,⟨ts,nd+1,true⟩):=by simp[Q.name,hk,Q.give]
    unfold Q.head;rw[h1];show (Q.mk ts (nd+1) true).take sign=_;exact Zax rfl
   rw[hw,R.bind_bad,hq,if_pos rfl];exact⟨rfl,rfl⟩
end
section
variable {α β : Type}
theorem row_2 (f:List (Bs×α)→β)(z:β)(p:Option (List (Bs×α))×Q):(rowS f z p).2=p.2:=by
 obtain⟨o,s⟩:=p;cases o<;>rfl
theorem Zim{sign:Bs}{read:List Tk→R α}{qread:Q→α×Q}{ins:List (Bs×α)→Bs→α→List (Bs×α)}(hr:Rdr read qread)(hs:∀ts,Shr ts.length (read ts))
  (hins:∀l n v x,x∈(ins l n v).map (·.1)↔x=n∨x∈l.map (·.1)) (f g:List (Bs×α)→β) (z:β) (hfg:∀l,(l.map (·.1)).Nodup→f (Ze6 ins l)=g l) (ts:List Tk) (nd:Nat) (hts:ts≠[]) :
  Rel nd ((Zbh sign read ts).bind fun fs r=>.ok (g fs) r []) (rowS f z (clsS (fldS sign qread ins ts.length [] ⟨ts,nd,false⟩))):=by
 have hlen:ts.length≠0:=by
  intro h;exact hts (List.eq_nil_of_length_eq_zero h)
 have hK:Kept ins nd (Zbh sign read ts) (clsS (fldS sign qread ins ts.length [] ⟨ts,nd,false⟩)):=by
  unfold Zbh;cases h5:isM [125] ts with
  | true=>
   rw[if_pos rfl];have hf:fldS sign qread ins ts.length [] ⟨ts,nd,false⟩=(some [],⟨ts,nd,false⟩):=by
    obtain⟨n,hn⟩:∃n,ts.length=n+1:=⟨ts.length-1,by omega⟩;rw[hn];unfold fldS;rw[ZcD,h5,if_pos (by simp)]
   have h2:clsS (some ([]:List (Bs×α)),Q.mk ts nd false)=(some [],(Q.mk ts nd false).take [125]):=rfl;rw[hf,h2,Za3 h5];rfl
  | false=>
   rw[if_neg (by decide)];exact Zfe hr hs hins ts.length ts.length [] [] [] ts nd rfl (nl _) hlen (nl _) h5 (by simp)
 have hnd:∀l r d,Zbh sign read ts=.ok l r d→(l.map (·.1)).Nodup:=fun l r d h=>Zdo h
 generalize clsS (fldS sign qread ins ts.length [] ⟨ts,nd,false⟩)=p at hK⊢
 cases hx:Zbh sign read ts with
 | ok x r d=>
  rw[hx] at hK;have hK:p=_:=hK;subst hK;rw[R.bind_ok];show _=_;simp only[rowS,List.append_nil];rw[hfg x (hnd _ _ _ hx)]
 | bad y r d=>
  rw[hx] at hK;obtain⟨h1,h2⟩:=hK;rw[R.bind_bad];refine⟨?_,?_⟩
  ·rw[row_2];exact h1
  ·rw[row_2];exact h2
end
theorem keepT:∀l:List (Bs×PT),(l.map (·.1)).Nodup→Ze6 insT l=Zb1 l:=by
 have hp:∀(l acc:List (Bs×PT)),Zgv acc→Zgv (l.foldl (fun l x=>insT l x.1 x.2) acc)∧(l.foldl (fun l x=>insT l x.1 x.2) acc).Perm (acc++l):=by
  intro l
  induction l with
  | nil=>intro acc h;exact⟨h,by simp⟩
  | cons x l ih=>
   intro acc h;obtain⟨h1,h2⟩:=ih (insT acc x.1 x.2) (Zgj _ _ h);refine⟨h1,h2.trans ?_⟩;have h3:(insT acc x.1 x.2).Perm (x::acc):=ZcN x acc;exact (h3.append_right l).trans (by simpa using (List.perm_middle (a:=x) (l₁:=acc) (l₂:=l)).symm)
 intro l hn;obtain⟨h1,h2⟩:=hp l [] List.Pairwise.nil;exact (Zf0 (by simpa[Ze6] using h2) h1 hn).symm
theorem keepE:∀l:List (Bs×PE),Ze6 insE l=l:=by
 have:∀(l acc:List (Bs×PE)),l.foldl (fun l x=>insE l x.1 x.2) acc=acc++l:=by
  intro l
  induction l with
  | nil=>simp
  | cons x l ih=>intro acc;rw[List.foldl_cons,ih];simp[insE]
 intro l
 simpa[Ze6] using this l []
theorem ZmH (l:List (Bs×PT))(n:Bs)(v:PT)(x:Bs):x∈(insT l n v).map (·.1)↔x=n∨x∈l.map (·.1):=by
 have h:=((ZcN (n,v) l).map (·.1)).mem_iff (a:=x);rw[insT,h];simp
theorem ZmI (l:List (Bs×PE))(n:Bs)(v:PE)(x:Bs):x∈(insE l n v).map (·.1)↔x=n∨x∈l.map (·.1):=by
 simp[insE,or_comm]
theorem ZoK{m m':Bs}{ts:List Tk}(h:isM m ts=true)(hne:m≠m'):isM m' ts=false:=by
 have h1:=h;unfold isM at h1⊢;simp only[Bool.and_eq_true,beq_iff_eq] at h1;rw[h1.2];simp[hne]
theorem Zmb{f:List Tk→R PT}{g:Q→PT×Q}(h:Rdr f g)(hs:∀ts,Shr ts.length (f ts))(ts:List Tk)(nd:Nat) :
  Rel nd ((Zbh [58] f ts).bind fun fs r=>.ok (recT fs) r []) (recS g ⟨ts,nd,false⟩):=by
 unfold recS;by_cases hts:ts=[]
 ·subst hts;rfl
 ·rw[if_neg hts];exact Zim h hs ZmH rowT recT qT0 (fun l hl=>by rw[keepT l hl];rfl) ts nd hts
theorem Zmi{f:List Tk→R PT}{g:Q→PT×Q}(h:Rdr f g)(hs:∀ts,Shr ts.length (f ts)):Rdr (Za9 f) (Zbx g):=by
 refine⟨fun ts nd=>?_,fun s hs=>?_⟩
 ·unfold Za9 Zbx;simp only[ZcD,ff,if_false];by_cases hk:(hd ts).k=1
  ·rw[if_pos hk,if_pos hk];rfl
  rw[if_neg hk,if_neg hk];cases h1:isM [105,110,116] ts with
  | true=>rw[if_pos rfl,if_pos rfl,Za3 h1];rfl
  | false=>
  simp only[ff,if_false];cases h1:isM [98,111,111,108] ts with
  | true=>rw[if_pos rfl,if_pos rfl,Za3 h1];rfl
  | false=>
  simp only[ff,if_false];cases h1:isM [116,101,120,116] ts with
  | true=>rw[if_pos rfl,if_pos rfl,Za3 h1];rfl
  | false=>
  simp only[ff,if_false];cases h1:isM [63] ts with
  | true=>rw[if_pos rfl,if_pos rfl,Za3 h1];rfl
  | false=>
  simp only[ff,if_false];cases h1:isM [123] ts with
  | true=>rw[if_pos rfl,if_pos rfl,Za3 h1];exact Zmb h hs _ _
  | false=>
  simp only[ff,if_false];cases h1:isM [40] ts with
  | true=>
   rw[if_pos rfl,Za3 h1];simp only[ff,if_false];refine (h.1 ts.tail nd).bind (fun x r m e=>?_) (fun hb=>Zax hb);rw[e];refine (Zbe [41] r m).bind (fun _ r' m' e'=>?_) (fun hb=>rfl);rw[Prod.mk.injEq] at e';show _=_;rw[e'.2];rfl
  | false=>
   simp only[ff,if_false];rw[ZeM h1,if_pos rfl];exact⟨rfl,rfl⟩
 ·unfold Zbx;rw[if_pos hs]
theorem Zhv:∀n,Rdr (typ n) (qTyp n)∧Rdr (arr n) (qArr n)
 | 0=>⟨⟨fun _ _=>⟨rfl,rfl⟩,fun _ hs=>Zey hs⟩,⟨fun _ _=>⟨rfl,rfl⟩,fun _ hs=>Zey hs⟩⟩
 | n+1=>by
  have hp:Rdr (Za9 (typ n)) (Zbx (qTyp n)):=Zmi (Zhv n).1 (Zcz n).1;have ha:Rdr (arr (n+1)) (qArr (n+1)):=by
   show Rdr (Zck (Za9 (typ n)) (arr n)) (Zcn (n==0) (Zbx (qTyp n)) (qArr n));cases n with
   | zero=>exact Zoh hp _
   | succ n=>exact Zmk hp (Zhv (n+1)).2
  exact⟨rd_typ ha,ha⟩
/-! Expressions. -/
theorem Zmc (a:Nat){f:List Tk→R PE}{g:Q→PE×Q}(h:Rdr f g)(hs:∀ts,Shr ts.length (f ts))(ts:List Tk)(nd:Nat) :
  Rel nd ((Zbh [61] f ts).bind fun fs r=>.ok (recE a fs) r []) (Zi2 a g ⟨ts,nd,false⟩):=by
 unfold Zi2;by_cases hts:ts=[]
 ·subst hts;rfl
 ·rw[if_neg hts];exact Zim h hs ZmI (rowE a) (recE a) qE0 (fun l _=>by rw[keepE l];rfl) ts nd hts
theorem Zmj{f:List Tk→R PT}{g:Q→PT×Q}{fe:List Tk→R PE}{ge:Q→PE×Q}(h:Rdr f g)(he:Rdr fe ge)(hs:∀ts,Shr ts.length (fe ts)):Rdr (Za0 f fe) (Zdy g ge):=by
 refine⟨fun ts nd=>?_,fun s hs=>?_⟩
 ·unfold Za0 Zdy;simp only[ZcD,ff,if_false];by_cases hk3:(hd ts).k=3
  ·rw[if_pos hk3,if_neg (show ¬(hd ts).k=1 by omega),if_pos hk3];rfl
  by_cases hk4:(hd ts).k=4
  ·rw[if_neg hk3,if_pos hk4,if_neg (show ¬(hd ts).k=1 by omega),if_neg hk3,if_pos hk4];rfl
  by_cases hk1:(hd ts).k=1
  ·rw[if_neg hk3,if_neg hk4,if_pos hk1,if_pos hk1];rfl
  rw[if_neg hk3,if_neg hk4,if_neg hk1,if_neg hk1,if_neg hk3,if_neg hk4];cases h1:isM [116,114,117,101] ts with
  | true=>rw[if_pos rfl,if_pos rfl,Za3 h1];rfl
  | false=>
  simp only[ff,if_false];cases h1:isM [102,97,108,115,101] ts with
  | true=>rw[if_pos rfl,if_pos rfl,Za3 h1];rfl
  | false=>
  simp only[ff,if_false];cases h1:isM [123] ts with
  | true=>rw[if_pos rfl,if_pos rfl,Za3 h1];exact Zmc _ he hs _ _
  | false=>
  simp only[ff,if_false];cases h1:isM [40] ts with
  | true=>
   rw[if_pos rfl,Za3 h1];simp only[ff,if_false];refine (he.1 ts.tail nd).bind (fun x r m e=>?_) (fun hb=>?_)
   ·unfold brkS;rw[e,ZcD];cases h2:isM [58] r with
    | true=>
     rw[if_pos rfl,if_pos rfl,Za3 h2];refine (h.1 r.tail m).bind (fun t r' m' e'=>?_) (fun hb=>Zax hb);rw[e'];refine (Zbe [41] r' m').bind (fun _ r2 m2 e2=>?_) (fun hb=>rfl);rw[Prod.mk.injEq] at e2;show _=_;rw[e2.2];rfl
    | false=>
     rw[if_neg (by decide),if_neg (by decide)];refine (Zbe [41] r m).bind (fun _ r2 m2 e2=>?_) (fun hb=>rfl);rw[Prod.mk.injEq] at e2;show _=_;rw[e2.2];rfl
   ·unfold brkS;rw[ZcM hb,if_neg (by decide)];exact Zax hb
  | false=>
   simp only[ff,if_false];rw[ZeM h1,if_pos rfl];exact⟨rfl,rfl⟩
 ·unfold Zdy;rw[if_pos hs]
theorem ZeB{g:Q→PE×Q}:∀(n:Nat) (x:PE) (s:Q),s.bad=true→ZcB g n x s=(x,s)
 | 0,_,_,_=>rfl
 | n+1,x,s,h=>by rw[ZcB,ZcM h,ZcM h,if_neg (by decide),if_neg (by decide)]
theorem Zf1{f:List Tk→R PE}{g:Q→PE×Q}(h:Rdr f g):∀(n:Nat) (x:PE) (ts:List Tk) (nd:Nat),Rel nd (ZbD f n x ts) (ZcB g n x ⟨ts,nd,false⟩)
 | 0,x,ts,nd=>rfl
 | n+1,x,ts,nd=>by
  unfold ZbD ZcB;simp only[ZcD];cases h1:isM [40] ts with
  | true=>
   rw[if_pos rfl,if_pos rfl,Za3 h1];refine (h.1 ts.tail nd).bind (fun y r m e=>?_) (fun hb=>?_)
   ·rw[e];refine (Zbe [41] r m).bind (fun _ r2 m2 e2=>?_) (fun hb=>?_)
    ·rw[Prod.mk.injEq] at e2;show Rel _ _ (ZcB g n _ ((Q.mk r m false).take [41]));rw[e2.2];exact Zf1 h n _ r2 m2
    ·show (ZcB g n _ ((Q.mk r m false).take [41])).2=_;rw[ZeB _ _ _ hb]
   ·rw[Zax hb,ZeB _ _ _ hb]
  | false=>
  simp only[ff,if_false];cases h1:isM [46] ts with
  | true=>
   rw[if_pos rfl,if_pos rfl,Za3 h1];refine (Zdn ts.tail nd).bind (fun y r m e=>?_) (fun hb=>?_)
   ·rw[e];exact Zf1 h n _ r m
   ·rw[ZeB _ _ _ hb]
  | false=>rw[if_neg (by decide),if_neg (by decide)];rfl
theorem Zoi{f:List Tk→R PT}{g:Q→PT×Q}{fe:List Tk→R PE}{ge:Q→PE×Q}(h:Rdr f g)(he:Rdr fe ge)(hs:∀ts,Shr ts.length (fe ts)):Rdr (ZcI f fe) (Zjw g ge):=by
 refine⟨fun ts nd=>?_,fun s hs=>?_⟩
 ·unfold ZcI Zjw;simp only[ZcD,ff,if_false];cases h1:isM [102,117,110] ts with
  | true=>
   rw[if_pos rfl,if_pos rfl];unfold funP funS ZcO;rw[Za3 h1];refine (Zbe [40] ts.tail nd).bind (fun _ r m e=>?_) (fun hb=>?_)
   ·rw[Prod.mk.injEq] at e;rw[e.2];refine (Zdn r m).bind (fun y r m e=>?_) (fun hb=>?_)
    ·rw[e];refine (Zbe [58] r m).bind (fun _ r m e=>?_) (fun hb=>?_)
     ·rw[Prod.mk.injEq] at e;simp only[e.2];rw[if_neg (by simp)];refine (h.1 r m).bind (fun t r m e=>?_) (fun hb=>?_)
      ·rw[e];refine (Zbe [41] r m).bind (fun _ r m e=>?_) (fun hb=>?_)
       ·rw[Prod.mk.injEq] at e;simp only[e.2];rw[if_neg (by simp)];refine (he.1 r m).bind (fun t r m e=>?_) (fun hb=>rfl);rw[e];rfl
       ·rw[if_pos hb]
      ·rw[Zax hb,if_pos hb]
     ·rw[if_pos hb]
    ·rw[Zax hb,if_pos hb]
   ·rw[Zms hb,Zax hb,if_pos hb]
  | false=>
  simp only[ff,if_false];cases h1:isM [108,101,116] ts with
  | true=>
   rw[if_pos rfl,if_pos rfl];unfold letP letS Zjp;rw[Za3 h1];refine (Zdn ts.tail nd).bind (fun y r m e=>?_) (fun hb=>?_)
   ·rw[e];refine (Zbe [61] r m).bind (fun _ r m e=>?_) (fun hb=>?_)
    ·rw[Prod.mk.injEq] at e;simp only[e.2];refine (he.1 r m).bind (fun t r m e=>?_) (fun hb=>?_)
     ·rw[e];refine (Zbe [105,110] r m).bind (fun _ r m e=>?_) (fun hb=>?_)
      ·rw[Prod.mk.injEq] at e;simp only[e.2];refine (he.1 r m).bind (fun t r m e=>?_) (fun hb=>rfl);rw[e];rfl
      ·exact he.2 _ hb
     ·rw[Zax hb];exact he.2 _ hb
    ·rw[he.2 _ hb,Zax hb];exact he.2 _ hb
   ·rw[Zax hb,he.2 _ hb,Zax hb];exact he.2 _ hb
  | false=>
  simp only[ff,if_false];cases h1:isM [105,102] ts with
  | true=>
   rw[if_pos rfl,if_pos rfl];unfold ifP ifS if3 if2 if1;rw[Za3 h1];refine (he.1 ts.tail nd).bind (fun t r m e=>?_) (fun hb=>?_)
   ·rw[e];refine (Zbe [116,104,101,110] r m).bind (fun _ r m e=>?_) (fun hb=>?_)
    ·rw[Prod.mk.injEq] at e;simp only[e.2];refine (he.1 r m).bind (fun t r m e=>?_) (fun hb=>?_)
     ·rw[e];refine (Zbe [101,108,115,101] r m).bind (fun _ r m e=>?_) (fun hb=>?_)
      ·rw[Prod.mk.injEq] at e;simp only[e.2];refine (he.1 r m).bind (fun t r m e=>?_) (fun hb=>rfl);rw[e];rfl
      ·exact he.2 _ hb
     ·rw[Zax hb];exact he.2 _ hb
    ·rw[he.2 _ hb,Zax hb];exact he.2 _ hb
   ·rw[Zax hb,he.2 _ hb,Zax hb];exact he.2 _ hb
  | false=>
  simp only[ff,if_false];refine ((Zmj h he hs).1 ts nd).bind (fun t r m e=>?_) (fun hb=>?_)
  ·rw[e];exact Zf1 he _ _ _ _
  ·rw[ZeB _ _ _ hb]
 ·unfold Zjw;rw[if_pos hs]
theorem Ziq:∀n,Rdr (exp n) (qExp n)
 | 0=>⟨fun _ _=>⟨rfl,rfl⟩,fun _ hs=>Zey hs⟩
 | n+1=>Zoi (Zhv n).1 (Ziq n) (Zdd n)
open Go.RowKit Go.Shelf
structure QS (B M:Nat)(w:World)(rb:Nat)(all:List Tk)(s:Q):Prop where
 lo:B≤rb
 hi:B≤w.heap.size
 fin:∃p e,s.ts=p++[e]∧e.k=6
 bd:s.nd+2*s.ts.length+(if s.bad then 0 else 1)≤M
 big:all.length≤1000000
 ex:∃(vt vd:Value) (i:Nat) (xs:List Value),w.heap[rb]?=some (.cells #[vt,.int .i64 i,vd,.bool s.bad] 92 (0,0))∧w.ownsRow 0 96 3 vt all.length (Zbn all)∧w.ownsRow B 192 3 vd s.nd xs∧s.ts=all.drop i∧∀b,vt.ownBlock=some b→b<rb
theorem QS.other{B M:Nat}{w w':World}{rb:Nat}{all:List Tk}{s:Q}(h:QS B M w rb all s)(hs:w.heap.size≤w'.heap.size)(hk:∀k o,w.heap[k]?=some o→(k≤rb∨∃c fz,o=.cells c 192 fz)→w'.heap[k]?=some o):QS B M w' rb all s:=by
 obtain⟨h1,h2,h3,h4,h5,vt,vd,i,xs,h6,h7,h8,h9,h10⟩:=h;refine⟨h1,Nat.le_trans h2 hs,h3,h4,h5,vt,vd,i,xs,hk _ _ h6 (.inl (nl _)),⟨h7.1,?_⟩,⟨h8.1,?_⟩,h9,h10⟩
 ·rcases h7.2 with hn | ⟨g,cap,cur,hv,hg0,hg,rest⟩
  ·exact .inl hn
  ·exact .inr ⟨g,cap,cur,hv,hg0,hk _ _ hg (.inl (Nat.le_of_lt (h10 g (by rw[hv];rfl)))),rest⟩
 ·rcases h8.2 with hn | ⟨g,cap,cur,hv,hg0,hg,rest⟩
  ·exact .inl hn
  ·exact .inr ⟨g,cap,cur,hv,hg0,hk _ _ hg (.inr ⟨_,_,rfl⟩),rest⟩
theorem QS.below{B M:Nat}{w w':World}{rb:Nat}{all:List Tk}{s:Q}(h:QS B M w rb all s)(hb:Below w.heap.size w w'):QS B M w' rb all s:=
 h.other hb.size fun k _ hk _=>(hb.block k (gE hk).1).trans hk
theorem QS.alloc{B M:Nat}{w:World}{rb:Nat}{all:List Tk}{s:Q}(h:QS B M w rb all s)(o:Obj):QS B M (w.alloc o) rb all s:=h.below ((Below.refl _ _).alloc (nl _) _)
theorem QS.drew{B M:Nat}{w:World}{rb:Nat}{all:List Tk}{s:Q}(h:QS B M w rb all s):QS B M w.drew rb all s:=h.below (Below.refl _ w).drew
theorem QS.lt{B M:Nat}{w:World}{rb:Nat}{all:List Tk}{s:Q}(h:QS B M w rb all s):rb<w.heap.size:=by
 obtain⟨vt,vd,i,xs,h6,-⟩:=h.ex;exact (gE h6).1
theorem QS.setNew{B M:Nat}{w:World}{rb:Nat}{all:List Tk}{s:Q}(h:QS B M w rb all s){b:Nat}{c:Array Value}{t:TypeId}{fz:Nat×Nat}(hb:w.heap[b]?=some (.cells c t fz))(ht:t≠192)(hlt:rb<b)(i:Nat)(v:Value):QS B M (w.setCell ⟨b,i,none⟩ v) rb all s:=by
 refine h.other (by simp[World.setCell]) fun k o hk hd=>(Below.heap_setCell w ⟨b,i,none⟩ v k ?_).trans hk
 intro e;have e':k=b:=e;subst e';rcases hd with hd | ⟨c',fz',rfl⟩
 ·omega
 ·rw[hb] at hk;cases hk;exact ht rfl
theorem QS.putL{B M:Nat}{w:World}{rb:Nat}{all:List Tk}{s:Q}(h:QS B M w rb all s){b:Nat}{c:Array Value}{t:TypeId}{fz:Nat×Nat}(hb:w.heap[b]?=some (.cells c t fz))(ht:t≠192)(hlt:rb<b)(vs:List Value):QS B M (putL w b vs) rb all s:=by
 obtain⟨h1,h2,h3,h4⟩:=ZaW b vs 0 w;refine h.other (by rw[h4];exact nl _) fun k o hk hd=>(ZaS b vs 0 w k ?_).trans hk
 rintro rfl;rcases hd with hd | ⟨c',fz',rfl⟩
 ·omega
 ·rw[hb] at hk;cases hk;exact ht rfl
theorem QS.grown{B M:Nat}{w w':World}{rb:Nat}{all:List Tk}{s:Q}(h:QS B M w rb all s){base:Nat}{e:TypeId}{sz:Nat}{v:Value}{n:Nat}{xs:List Value}(hr:w.ownsRow base e sz v n xs)(he:e≠192)(hv:∀b,v.ownBlock=some b→rb<b)(hg:w.grownBy w' v.ownBlock):QS B M w' rb all s:=by
 refine h.other hg.size fun k o hk hd=>(hg.block k (gE hk).1 ?_).trans hk
 intro e1;rcases hd with hd | ⟨c',fz',rfl⟩
 ·have:=hv k e1.symm;omega
 ·rcases hr.2 with ⟨rfl,_⟩ | ⟨g,cap,cur,rfl,hb,hgg,_⟩
  ·cases e1
  ·simp only[Value.ownBlock,Option.some.injEq] at e1;subst e1;rw[hgg] at hk;cases hk;exact he rfl
theorem QS.first{B M:Nat}{w:World}{rb:Nat}{all:List Tk}{s:Q}(h:QS B M w rb all s):∃(g cap i:Nat) (vd:Value),w.heap[rb]?=some (.cells #[.slice (some ⟨g,0,none⟩) all.length cap,.int .i64 i,vd,.bool s.bad] 92 (0,0))∧i<all.length∧all.length≤1000000∧g<w.heap.size∧
  w.cell? ⟨g,i*3,none⟩=some (.int .i64 ((hd s.ts).k:Nat))∧w.cell? ⟨g,i*3+1,none⟩=some (.int .i64 ((hd s.ts).a:Nat))∧w.cell? ⟨g,i*3+2,none⟩=some (.string ⟨(hd s.ts).t.toArray⟩)∧
  (∃r,s.ts=hd s.ts::r∧r=all.drop (i+1)):=by
 obtain⟨h1,h2,⟨p,e,h3,h3'⟩,h4,h5,vt,vd,i,xs,h6,h7,h8,h9,-⟩:=h;have hi:i<all.length:=by
  rcases Nat.lt_or_ge i all.length with h | h
  ·exact h
  ·rw[List.drop_of_length_le h] at h9;rw[h9] at h3;simp at h3
 have hx:all[i]?=some (hd s.ts):=by
  rw[h9,hd,List.headD_eq_head?_getD,List.head?_drop,List.getElem?_eq_getElem hi];rfl
 have h7':=h7;rw[ZjY,←List.length_map (f:=Tk.tri)] at h7';obtain⟨a0,cap,rfl,q1,q2,q3,q4,q5⟩:=ZjU h7' rfl;obtain⟨g,o,rfl,hg,c0,c1,c2⟩:=q5 i (hd s.ts).tri (by rw[List.getElem?_map,hx];rfl);obtain⟨g',e1,-⟩:=q4 _ rfl;cases e1;rw[List.length_map] at h6;rw[Nat.zero_add,Nat.mul_comm] at c0 c1 c2;refine⟨g,cap,i,vd,h6,hi,h5,hg,c0,c1,c2,all.drop (i+1),?_,rfl⟩;rw[h9,List.drop_eq_getElem_cons hi] at *;rfl
theorem QS.ne{B M:Nat}{w:World}{rb:Nat}{all:List Tk}{s:Q}(h:QS B M w rb all s):s.ts≠[]:=by
 obtain⟨p,e,h,-⟩:=h.fin;rw[h];simp
theorem Zn8{f:Func}{R:Ending→World→Prop}{a:Act}{w:World}{b:Nat}{u0 u1 u2:Value}(hf:f.results=#[.cell 2 96])(ht:a.eval (.tmp 2)=.pointer (some ⟨b,0,none⟩))(hd:a.defers=[])
  (h:Thr w b 96 u0 u1 u2) (hR:R (.returned (.agg #[u0,u1,u2])) w):bodyPost Tryz.prog f R Exit.ret a w:=by
 obtain⟨⟨c0,c1,c2⟩,-⟩:=Zan h;refine bodyPost_ret ?_ hd hR;simp[Act.eval] at ht;simp[results,hf,go_sem,c0,c1,c2,ht]
theorem Zao{B M:Nat}{w:World}{rb:Nat}{all:List Tk}{s:Q}(h:QS B M w rb all s)(m:Bs) :
  Calls Tryz.prog 58 #[.pointer (some ⟨rb,0,none⟩),.string ⟨m.toArray⟩] w fun e w'=>e=.returned (.bool (s.is m))∧Below w.heap.size w w':=by
 obtain⟨g,cap,i,vd,h6,hi,hb,hg,c0,c1,c2,-⟩:=h.first
 obtain⟨⟨p0,p1,p2,p3⟩,-⟩:=Zae h6;have hrb:=h.lt;have HM:=Hd (show s.is m=(!s.bad&&((((hd s.ts).k:Int)==2 || ((hd s.ts).k:Int)==5)&&((hd s.ts).t==m))) by rw[Q.is,ZiD]);obtain⟨⟨tk,ta,tt⟩,ht⟩:∃t,t=hd s.ts:=⟨_,rfl⟩;rw[←ht] at HM c0 c1 c2;obtain⟨out,hout⟩:=eX (s.is m);rw[←hout] at HM⊢;obtain⟨bd,hbd⟩:=eX (s.bad);rw[←hbd] at HM p3;clear ht hout hbd h h6;simp only at HM c0 c1 c2;go_enter Tryz.func58,Tryz.ntmps58
 go_wp2_with fail
 go_region
 have hne:¬rb=w.heap.size:=Nat.ne_of_lt hrb;cases bd with
 | true=>
  go_wp2_with fail
  go_ret
  exact⟨by rw[HM.out];rfl,((Below.refl _ w).drew).alloc (nl _) _⟩
 | false=>
  go_wp2_with fail
  all_goals
   go_ret
   refine⟨?_,((Below.refl _ w).drew).alloc (nl _) _⟩;rw[HM.out]
   simp_all
theorem ZhV:(Tryz.prog.info? 192).map (fun i=>(i.zero,i.size,i.bytes))=some (some (.agg #[.int .i64 0,.int .i64 0,.string ⟨#[]⟩]),3,32):=by kernel_rfl
theorem QS.reM{B M M':Nat}{w:World}{rb:Nat}{all:List Tk}{s:Q}(h:QS B M w rb all s)(hM:s.nd+2*s.ts.length+(if s.bad then 0 else 1)≤M'):QS B M' w rb all s:=⟨h.lo,h.hi,h.fin,hM,h.big,h.ex⟩
theorem QS.told{B M:Nat}{w w' w'':World}{rb:Nat}{all:List Tk}{s:Q}(h:QS B M w rb all s){v0 v1 v2 v3:Value}(hp:w.heap[rb]?=some (.cells #[v0,v1,v2,v3] 92 (0,0))){g cap:Nat}(hg:w.grownBy w' v2.ownBlock){xs':List Value}(hr:w'.ownsRow B 192 3 (.slice (some ⟨g,0,none⟩) (s.nd+1) cap) (s.nd+1) xs')
  (hw:w''=w'.setCell ⟨rb,2,none⟩ (.slice (some ⟨g,0,none⟩) (s.nd+1) cap)):QS B (M+1) w'' rb all s.more∧Fr B w w'':=by
 subst hw;obtain⟨h1,h2,h3,h4,h5,vt,vd,i,xs,h6,h7,h8,h9,h10⟩:=h;have hpb:=(gE hp).1;rw[hp] at h6;simp only[Option.some.injEq,Obj.cells.injEq,Array.mk.injEq,List.cons.injEq,and_true] at h6;obtain⟨rfl,rfl,rfl,rfl⟩:=h6;have hF:Fr B w w':=(Fr.refl B w).grown h8 (.inl (by decide)) hg;have hne:some rb≠v2.ownBlock:=by
  intro e;rcases h8.2 with ⟨rfl,_⟩ | ⟨g',cap',cur,rfl,_,hgg,_⟩
  ·cases e
  ·simp only[Value.ownBlock,Option.some.injEq] at e;subst e;rw[hp] at hgg;cases hgg
 have hp':w'.heap[rb]?=some (.cells #[v0,.int .i64 i,v2,.bool s.bad] 92 (0,0)):=(hg.block rb hpb hne).trans hp;have hne2:∀{base:Nat}{e:TypeId}{v:Value}{n:Nat}{xs:List Value},w'.ownsRow base e 3 v n xs→e≠92→∀u,(w'.setCell ⟨rb,2,none⟩ u).ownsRow base e 3 v n xs:=by
  intro base e v n xs hr he u;refine⟨hr.1,?_⟩;rcases hr.2 with hn | ⟨g,cap,cur,hv,hg0,hg,rest⟩
  ·exact .inl hn
  ·refine .inr ⟨g,cap,cur,hv,hg0,(Below.heap_setCell w' ⟨rb,2,none⟩ _ g ?_).trans hg,rest⟩;rintro rfl;rw[hp'] at hg;cases hg;exact he rfl
 refine⟨⟨h1,by have:=hg.size;simp[World.setCell];omega,h3,?_,h5,v0,_,i,xs',heap_setCell_same w' rb 2 _ _ _ hp',hne2 (hF.row h7 (by decide)) (by decide) _,hne2 hr (by decide) _,h9,h10⟩,hF.setOwn hp' (by decide) h1 _⟩;show s.nd+1+2*s.ts.length+(if s.bad then 0 else 1)≤M+1;omega
theorem QS.setBad{B M:Nat}{w:World}{rb:Nat}{all:List Tk}{ts:List Tk}{nd:Nat}{bd:Bool}(h:QS B (M+1) w rb all ⟨ts,nd,bd⟩)(hM:nd+2*ts.length≤M):QS B M (w.setCell ⟨rb,3,none⟩ (.bool true)) rb all ⟨ts,nd,true⟩∧Fr B w (w.setCell ⟨rb,3,none⟩ (.bool true)):=by
 obtain⟨h1,h2,h3,h4,h5,vt,vd,i,xs,h6,h7,h8,h9,h10⟩:=h;have hne2:∀{base:Nat}{e:TypeId}{v:Value}{n:Nat}{xs:List Value},w.ownsRow base e 3 v n xs→e≠92→∀u,(w.setCell ⟨rb,3,none⟩ u).ownsRow base e 3 v n xs:=by
  intro base e v n xs hr he u;refine⟨hr.1,?_⟩;rcases hr.2 with hn | ⟨g,cap,cur,hv,hg0,hg,rest⟩
  ·exact .inl hn
  ·refine .inr ⟨g,cap,cur,hv,hg0,(Below.heap_setCell w ⟨rb,3,none⟩ _ g ?_).trans hg,rest⟩;rintro rfl;rw[h6] at hg;cases hg;exact he rfl
 exact⟨⟨h1,by simpa[World.setCell] using h2,h3,by simpa using hM,h5,vt,vd,i,xs,heap_setCell_same w rb 3 _ _ _ h6,hne2 h7 (by decide) _,hne2 h8 (by decide) _,h9,h10⟩,(Fr.refl B w).setOwn h6 (by decide) h1 _⟩
theorem QS.passed{B M:Nat}{w:World}{rb:Nat}{all:List Tk}{s:Q}(h:QS B M w rb all s)(hk:(hd s.ts).k≠6){v0 v2 v3:Value}{i:Nat}(hp:w.heap[rb]?=some (.cells #[v0,.int .i64 i,v2,v3] 92 (0,0))) :
  QS B M (w.setCell ⟨rb,1,none⟩ (.int .i64 ((i:Int)+1))) rb all s.next∧Fr B w (w.setCell ⟨rb,1,none⟩ (.int .i64 ((i:Int)+1))):=by
 rw[show (i:Int)+1=((i+1:Nat):Int) by omega];have hF:Fr B w (w.setCell ⟨rb,1,none⟩ (.int .i64 ((i+1:Nat):Int))):=(Fr.refl B w).setOwn hp (by decide) h.lo _;obtain⟨h1,h2,⟨p,e,h3,h3'⟩,h4,h5,vt,vd,j,xs,h6,h7,h8,h9,h10⟩:=h;rw[hp] at h6;simp only[Option.some.injEq,Obj.cells.injEq,Array.mk.injEq,List.cons.injEq,and_true,true_and,Value.int.injEq] at h6;obtain⟨rfl,hij,rfl,rfl⟩:=h6;have hij':i=j:=by omega
 subst hij';have hs:=heap_setCell_same w rb 1 _ _ (.int .i64 ((i+1:Nat):Int)) hp;have hne:∀{base:Nat}{e:TypeId}{v:Value}{n:Nat}{xs:List Value},w.ownsRow base e 3 v n xs→e≠92→(w.setCell ⟨rb,1,none⟩ (.int .i64 ((i+1:Nat):Int))).ownsRow base e 3 v n xs:=by
  intro base e v n xs hr he;refine⟨hr.1,?_⟩;rcases hr.2 with hn | ⟨g,cap,cur,hv,hg0,hg,rest⟩
  ·exact .inl hn
  ·refine .inr ⟨g,cap,cur,hv,hg0,(Below.heap_setCell w ⟨rb,1,none⟩ _ g ?_).trans hg,rest⟩;rintro rfl;rw[hp] at hg;cases hg;exact he rfl
 refine⟨⟨h1,by simpa[World.setCell] using h2,?_,?_,h5,v0,v2,i+1,xs,hs,hne h7 (by decide),hne h8 (by decide),?_,h10⟩,hF⟩
 ·cases p with
  | nil=>simp at h3;rw[h3] at hk;exact absurd h3' hk
  | cons x r=>exact⟨r,e,by show s.ts.tail=_;rw[h3];rfl,h3'⟩
 ·show s.nd+2*s.ts.tail.length+(if s.bad then 0 else 1)≤M;rw[List.length_tail];omega
 ·show s.ts.tail=_;rw[h9,List.tail_drop]
theorem ZbR{B M:Nat}(hM:M≤10000000){w:World}{rb:Nat}{all:List Tk}{s:Q}(h:QS B M w rb all s)(c:Nat) :
  Calls Tryz.prog 83 #[.pointer (some ⟨rb,0,none⟩),.int .i64 c] w fun e w'=>e=.returned (.tuple #[])∧QS B M w' rb all s.give∧Fr B w w':=by
 obtain⟨j0,hj,hy0,hy1,hy2⟩:=info_parts ZhV;obtain⟨g,cap,i,vd,h6,hi,hb,hg,c0,c1,c2,-⟩:=h.first
 obtain⟨⟨p0,p1,p2,p3⟩,-⟩:=Zae h6;have hrb:=h.lt;have HQ:=Hd h;obtain⟨ts,nd,bd⟩:=s;cases bd with
 | true=>
  have p3:w.cell? ⟨rb,3,none⟩=some (.bool true):=p3;clear h h6 c0 c1 c2 p0 p1 p2 hi hb hg hj hy0 hy1 hy2;go_enter Tryz.func83,Tryz.ntmps83
  go_wp2_with fail
  exact bodyPost_ret (results_none Tryz.results83 _ _ _) rfl ⟨rfl,HQ.out,Fr.refl B w⟩
 | false=>
  have H6:=Hd h6;simp only at c0 c1 c2 p3;obtain⟨⟨tk,ta,tt⟩,ht⟩:∃t,t=hd ts:=⟨_,rfl⟩;rw[←ht] at c0 c1 c2;have hne:¬rb=w.heap.size:=Nat.ne_of_lt hrb;clear ht h h6;simp only at c0 c1 c2;go_enter Tryz.func83,Tryz.ntmps83
  go_wp2_with fail
  go_region
  clear p0 p1 p2 p3;by_cases hc:c=2
  ·have hc2:((c:Int)==2)=true:=by simp only[beq_iff_eq];omega
   clear hc;obtain⟨W2,hW2⟩:=eY (((w.alloc (.cells #[.int .i64 tk,.int .i64 ta,.string ⟨tt.toArray⟩] 96)).alloc (.cells #[.int .i64 ta,.int .i64 c,.string ⟨tt.toArray⟩] 192)).drew);have b2:Below w.heap.size w W2:=by rw[←hW2];exact (((Below.refl _ w).alloc (nl _) _).alloc (by simp) _).drew
   have a2:W2.heap[w.heap.size+1]?=some (.cells #[.int .i64 ta,.int .i64 c,.string ⟨tt.toArray⟩] 192 (0,0)):=by
    rw[←hW2];have:=hN (w.alloc (.cells #[.int .i64 tk,.int .i64 ta,.string ⟨tt.toArray⟩] 96)) (.cells #[.int .i64 ta,.int .i64 c,.string ⟨tt.toArray⟩] 192);rw[World.size_alloc] at this;exact this
   have Q2:=HQ.out.below b2;have F2:=Hd (Fr.of_below (n₀:=B) b2);have HQ2:=Hd Q2;have HW2:=Hd hW2;have h62:=(b2.block rb hrb).trans H6.out;have H62:=Hd h62;obtain⟨⟨d0,d1,d2⟩,-⟩:=Zan a2;obtain⟨⟨p0,p1,p2,p3⟩,g0,g1,g2,g3⟩:=Zae h62;obtain⟨vt,vd',i',xs,k6,-,k8,-⟩:=Q2.ex;rw[h62] at k6;simp only[Option.some.injEq,Obj.cells.injEq,Array.mk.injEq,List.cons.injEq,and_true] at k6;obtain⟨rfl,-,rfl⟩:=k6;have R65:Hid (∀W:World,W.heap=(W2.alloc (.cells #[.int .i64 ta,.int .i64 c,.string ⟨tt.toArray⟩] 192)).heap→W.ownsRow B 192 3 vd nd xs):=fun W e=>by
    have:=k8.alloc (.cells #[.int .i64 ta,.int .i64 c,.string ⟨tt.toArray⟩] 192);refine⟨this.1,?_⟩;rw[e];exact this.2
   have HBD:=Hd (show nd+2*ts.length+1≤M from HQ.out.bd);have hmx:nd+1≤maxLen:=by have:=HBD.out;unfold maxLen;omega
   have hmb:(nd+1)*32≤140737488355328:=by have:=HBD.out;omega
   have HBS:=Hd (show B≤W2.heap.size+1 by have:=Q2.hi;omega);have HN65:=Hd (World.news_of_block (hN W2 (.cells #[.int .i64 ta,.int .i64 c,.string ⟨tt.toArray⟩] 192)));have HPL:=Hd Q2.lt;have HNE:=Hd (show some rb≠vd.ownBlock from fun e=>by
    rcases k8.2 with ⟨rfl,_⟩ | ⟨g',cap',cur,rfl,_,hgg,_⟩
    ·cases e
    ·simp only[Value.ownBlock,Option.some.injEq] at e;subst e;rw[H62.out] at hgg;cases hgg)
   have hpl:=Q2.lt;clear h62 k8 Q2 b2 hW2 a2 hrb hne;go_upto_region 5 with fail
   rw[HW2.out];go_region_law (refine step_append_lies _ rfl (.tmp 33) (.tmp 35) 54 rfl B 192 j0 _ 3 32 Tryz.underlying54 hj hy0 hy1 hy2 rfl (by decide) vd nd xs rfl (R65.out _ rfl) ⟨W2.heap.size,0,none⟩ 1 1 [.int .i64 ta,.int .i64 c,.string ⟨tt.toArray⟩] rfl rfl (fun j u hu=>HN65.out j u hu) one3 (by decide) hmx hmb (by simpa using HBS.out) _ rfl ?_;intro g' cap' W5 hown5 hg5 hloc5 hlt5;(have hp5:Fou W5 rb 92 (.slice (some ⟨g,0,none⟩) all.length cap) (.int .i64 i) vd (.bool false):=(hg5.block rb (Nat.lt_succ_of_lt HPL.out |> fun h=>by simpa using h) HNE.out).trans (Zab H62.out (.cells #[.int .i64 ta,.int .i64 c,.string ⟨tt.toArray⟩] 192)));obtain⟨⟨e0,e1,e2,e3⟩,y0,y1,y2,y3⟩:=Zae hp5;(have HO5:=Hd hown5);(have HG5:=Hd hg5);(have HL5:=Hd hloc5);clear hown5 hg5 hloc5 hp5)
   all_goals
    go_wp2_with fail
    go_end0
    have hg6:(W2.alloc (.cells #[.int .i64 ta,.int .i64 c,.string ⟨tt.toArray⟩] 192)).grownBy W5 vd.ownBlock:=⟨HG5.out.os,HG5.out.tape,HG5.out.output,HG5.out.size,HG5.out.block⟩;obtain⟨a1,a2⟩:=(HQ2.out.alloc (.cells #[.int .i64 ta,.int .i64 c,.string ⟨tt.toArray⟩] 192)).told (Zab H62.out _) hg6 HO5.out rfl;obtain⟨a3,a4⟩:=QS.setBad (ts:=ts) (nd:=nd+1) (bd:=false) a1 (by have:=HBD.out;omega);exact⟨rfl,a3,F2.out.trans (((Fr.refl B W2).alloc _).trans (a2.trans a4))⟩
  ·have hc2:((c:Int)==2)=false:=bF (by omega);have hc3:¬(c:Int)=2:=by omega
   clear hc;obtain⟨W2,hW2⟩:=eY (((w.alloc (.cells #[.int .i64 tk,.int .i64 ta,.string ⟨tt.toArray⟩] 96)).alloc (.cells #[.int .i64 ta,.int .i64 c,.string ⟨#[]⟩] 192)).drew);have b2:Below w.heap.size w W2:=by rw[←hW2];exact (((Below.refl _ w).alloc (nl _) _).alloc (by simp) _).drew
   have a2:W2.heap[w.heap.size+1]?=some (.cells #[.int .i64 ta,.int .i64 c,.string ⟨#[]⟩] 192 (0,0)):=by
    rw[←hW2];have:=hN (w.alloc (.cells #[.int .i64 tk,.int .i64 ta,.string ⟨tt.toArray⟩] 96)) (.cells #[.int .i64 ta,.int .i64 c,.string ⟨#[]⟩] 192);rw[World.size_alloc] at this;exact this
   have Q2:=HQ.out.below b2;have F2:=Hd (Fr.of_below (n₀:=B) b2);have HQ2:=Hd Q2;have HW2:=Hd hW2;have h62:=(b2.block rb hrb).trans H6.out;have H62:=Hd h62;obtain⟨⟨d0,d1,d2⟩,-⟩:=Zan a2;obtain⟨⟨p0,p1,p2,p3⟩,g0,g1,g2,g3⟩:=Zae h62;obtain⟨vt,vd',i',xs,k6,-,k8,-⟩:=Q2.ex;rw[h62] at k6;simp only[Option.some.injEq,Obj.cells.injEq,Array.mk.injEq,List.cons.injEq,and_true] at k6;obtain⟨rfl,-,rfl⟩:=k6;have R65:Hid (∀W:World,W.heap=(W2.alloc (.cells #[.int .i64 ta,.int .i64 c,.string ⟨#[]⟩] 192)).heap→W.ownsRow B 192 3 vd nd xs):=fun W e=>by
    have:=k8.alloc (.cells #[.int .i64 ta,.int .i64 c,.string ⟨#[]⟩] 192);refine⟨this.1,?_⟩;rw[e];exact this.2
   have HBD:=Hd (show nd+2*ts.length+1≤M from HQ.out.bd);have hmx:nd+1≤maxLen:=by have:=HBD.out;unfold maxLen;omega
   have hmb:(nd+1)*32≤140737488355328:=by have:=HBD.out;omega
   have HBS:=Hd (show B≤W2.heap.size+1 by have:=Q2.hi;omega);have HN65:=Hd (World.news_of_block (hN W2 (.cells #[.int .i64 ta,.int .i64 c,.string ⟨#[]⟩] 192)));have HPL:=Hd Q2.lt;have HNE:=Hd (show some rb≠vd.ownBlock from fun e=>by
    rcases k8.2 with ⟨rfl,_⟩ | ⟨g',cap',cur,rfl,_,hgg,_⟩
    ·cases e
    ·simp only[Value.ownBlock,Option.some.injEq] at e;subst e;rw[H62.out] at hgg;cases hgg)
   have hpl:=Q2.lt;clear h62 k8 Q2 b2 hW2 a2 hrb hne;go_upto_region 5 with fail
   rw[HW2.out];go_region_law (refine step_append_lies _ rfl (.tmp 33) (.tmp 35) 54 rfl B 192 j0 _ 3 32 Tryz.underlying54 hj hy0 hy1 hy2 rfl (by decide) vd nd xs rfl (R65.out _ rfl) ⟨W2.heap.size,0,none⟩ 1 1 [.int .i64 ta,.int .i64 c,.string ⟨#[]⟩] rfl rfl (fun j u hu=>HN65.out j u hu) one3 (by decide) hmx hmb (by simpa using HBS.out) _ rfl ?_;intro g' cap' W5 hown5 hg5 hloc5 hlt5;(have hp5:Fou W5 rb 92 (.slice (some ⟨g,0,none⟩) all.length cap) (.int .i64 i) vd (.bool false):=(hg5.block rb (Nat.lt_succ_of_lt HPL.out |> fun h=>by simpa using h) HNE.out).trans (Zab H62.out (.cells #[.int .i64 ta,.int .i64 c,.string ⟨#[]⟩] 192)));obtain⟨⟨e0,e1,e2,e3⟩,y0,y1,y2,y3⟩:=Zae hp5;(have HO5:=Hd hown5);(have HG5:=Hd hg5);(have HL5:=Hd hloc5);clear hown5 hg5 hloc5 hp5)
   all_goals
    go_wp2_with fail
    go_end0
    have hg6:(W2.alloc (.cells #[.int .i64 ta,.int .i64 c,.string ⟨#[]⟩] 192)).grownBy W5 vd.ownBlock:=⟨HG5.out.os,HG5.out.tape,HG5.out.output,HG5.out.size,HG5.out.block⟩;obtain⟨a1,a2⟩:=(HQ2.out.alloc (.cells #[.int .i64 ta,.int .i64 c,.string ⟨#[]⟩] 192)).told (Zab H62.out _) hg6 HO5.out rfl;obtain⟨a3,a4⟩:=QS.setBad (ts:=ts) (nd:=nd+1) (bd:=false) a1 (by have:=HBD.out;omega);exact⟨rfl,a3,F2.out.trans (((Fr.refl B W2).alloc _).trans (a2.trans a4))⟩
theorem ZfG{m:Bs}{s:Q}(h:s.is m=true):s.bad=false∧isM m s.ts=true:=by
 simp only[Q.is,Bool.and_eq_true,Bool.not_eq_true'] at h;exact h
theorem Zah{B M:Nat}(hM:M≤10000000){w:World}{rb:Nat}{all:List Tk}{s:Q}(h:QS B M w rb all s)(m:Bs) :
  Calls Tryz.prog 85 #[.pointer (some ⟨rb,0,none⟩),.string ⟨m.toArray⟩] w fun e w'=>e=.returned (.tuple #[])∧QS B M w' rb all (s.take m)∧Fr B w w':=by
 have HI:=Hd (Zao h m);have HQ:=Hd h;clear h;cases hm:s.is m with
 | true=>
  obtain⟨hb,hi⟩:=ZfG hm;have HK:=Hd (isM_k hi).1;have HE:=Hd (show s.take m=s.next by rw[Q.take,hm,if_pos rfl]);rw[hm] at HI;clear hm hb hi;go_enter Tryz.func85,Tryz.ntmps85
  go_wp2_with fail
  refine HI.out.mono ?_;rintro e w1 ⟨rfl,b1⟩;have q1:=HQ.out.below b1;obtain⟨g,cap,i,vd,h6,hi,hb,-⟩:=q1.first
  obtain⟨⟨p0,p1,p2,p3⟩,f0,f1,f2,f3⟩:=Zae h6;have HP:=Hd (q1.passed HK.out h6);have F1:=Hd (Fr.of_below (n₀:=B) b1);clear q1 b1 h6;go_wp2_with fail
  exact bodyPost_ret (results_none Tryz.results85 _ _ _) rfl ⟨rfl,by rw[HE.out];exact HP.out.1,F1.out.trans HP.out.2⟩
 | false=>
  have HE:=Hd (show s.take m=s.give by rw[Q.take,hm,if_neg (by decide)]);rw[hm] at HI;clear hm;go_enter Tryz.func85,Tryz.ntmps85
  go_wp2_with fail
  refine HI.out.mono ?_;rintro e w1 ⟨rfl,b1⟩;have HG:=Hd (ZbR hM (HQ.out.below b1) 2);have F1:=Hd (Fr.of_below (n₀:=B) b1);clear b1;go_wp2_with fail
  refine HG.out.mono ?_;rintro e w2 ⟨rfl,q2,f2⟩;have Q2:=Hd q2;have F2:=Hd (F1.out.trans f2);clear q2 f2 HG;go_wp2_with fail
  go_end0
  exact⟨rfl,by rw[HE.out];exact Q2.out,F2.out⟩
theorem ZbQ{B M:Nat}(hM:M≤10000000){w:World}{rb:Nat}{all:List Tk}{s:Q}(h:QS B M w rb all s) :
  Calls Tryz.prog 93 #[.pointer (some ⟨rb,0,none⟩)] w fun e w'=>e=.returned (tokV s.name.1)∧QS B M w' rb all s.name.2∧Fr B w w':=by
 have hR:=h.alloc (.cells #[.int .i64 0,.int .i64 0,.string ⟨#[]⟩] 96);obtain⟨W1,hW1⟩:=eY (w.alloc (.cells #[.int .i64 0,.int .i64 0,.string ⟨#[]⟩] 96));rw[hW1] at hR;have a1:Thr W1 w.heap.size 96 (.int .i64 0) (.int .i64 0) (.string ⟨#[]⟩):=by rw[←hW1];exact ZaI w _ _ _ _
 have b1:Below w.heap.size w W1:=by rw[←hW1];exact (Below.refl _ w).alloc (nl _) _
 obtain⟨g,cap,i,vd,h6,hi,hb,hg,c0,c1,c2,-⟩:=hR.first
 obtain⟨⟨p0,p1,p2,p3⟩,f0,f1,f2,f3⟩:=Zae h6;obtain⟨⟨d0,d1,d2⟩,e0,e1,e2⟩:=Zan a1;have HRB:=Hd h.lt;have hrw:¬rb=w.heap.size:=Nat.ne_of_lt h.lt;have hwr:¬w.heap.size=rb:=fun e=>hrw e.symm
 have hlt1:w.heap.size<W1.heap.size:=(gE a1).1;have hrb1:rb<W1.heap.size:=hR.lt;have HQ:=Hd hR;have HA1:=Hd a1;have F1:=Hd (Fr.of_below (n₀:=B) b1);have H6:=Hd h6;have HW1:=Hd hW1;obtain⟨out,hout⟩:=eX (s.name);rw[←hout];have HN:=Hd (show out=if s.bad then (zTk,s) else if (hd s.ts).k=1 then (hd s.ts,s.next) else (zTk,s.give) from hout);obtain⟨⟨tk,ta,tt⟩,ht⟩:∃t,t=hd s.ts:=⟨_,rfl⟩;rw[←ht] at c0 c1 c2 HN;have HT:=Hd ht;obtain⟨bd,hbd⟩:=eX (s.bad);rw[←hbd] at p3 HN;simp only at c0 c1 c2 HN;have n1:¬rb=W1.heap.size:=Nat.ne_of_lt hrb1;have n2:¬w.heap.size=W1.heap.size:=Nat.ne_of_lt hlt1;clear hR h6 a1 b1 hW1 hout ht hbd h;cases bd with
 | true=>
  go_enter Tryz.func93,Tryz.ntmps93
  go_upto_region 1 with fail
  rw[HW1.out];go_region
  go_wp2_with fail
  have hn:out=(zTk,s):=by rw[HN.out];rfl
  rw[hn];exact Zn8 rfl rfl rfl (Zab (ZeL HA1.out _ _ _) _) ⟨rfl,((HQ.out.putL HA1.out (by decide) HRB.out [_,_,_]).alloc _).drew,((F1.out.putL (nl _) [_,_,_]).alloc _).drew⟩
 | false=>
  obtain⟨W2,hW2⟩:=eY ((W1.alloc (.cells #[.int .i64 tk,.int .i64 ta,.string ⟨tt.toArray⟩] 96)).drew);have b2:Below W1.heap.size W1 W2:=by rw[←hW2];exact ((Below.refl _ W1).alloc (nl _) _).drew
  have a2:Thr W2 W1.heap.size 96 (.int .i64 tk) (.int .i64 ta) (.string ⟨tt.toArray⟩):=by rw[←hW2];exact ZaI W1 _ _ _ _
  have a12:Thr W2 w.heap.size 96 (.int .i64 0) (.int .i64 0) (.string ⟨#[]⟩):=(b2.block _ hlt1).trans HA1.out;have Q2:=Hd (HQ.out.below b2);have F2:=Hd (F1.out.trans (Fr.of_below (n₀:=B) b2));have HA2:=Hd a2;have HA12:=Hd a12;have HW2:=Hd hW2;have h62:=(b2.block rb hrb1).trans H6.out;have H62:=Hd h62;have hlt2:W1.heap.size<W2.heap.size:=(gE a2).1;have HL12:=Hd hlt1;by_cases hk:tk=1
  ·have hk1:((tk:Int)==1)=true:=by simp only[beq_iff_eq];omega
   have hk2:((tk:Int) !=1)=false:=by rw[bne,hk1];rfl
   have hn:out=(⟨tk,ta,tt⟩,s.next):=by rw[HN.out,hk];rfl
   have HK:=Hd (show (hd s.ts).k≠6 by rw[←HT.out];show tk≠6;omega);have HNN:=Hd hn;have HTK:=Hd hk;have HP:=Hd (Q2.out.passed HK.out H62.out);clear hW2 a2 a12 b2 h62 hk hn;go_enter Tryz.func93,Tryz.ntmps93
   go_upto_region 1 with fail
   rw[HW1.out];go_region
   go_upto_region 4 with fail
   rw[HW2.out];clear p0 p1 p2 p3 f0 f1 f2 f3 d0 d1 d2 e0 e1 e2 c0 c1 c2;obtain⟨⟨p0,p1,p2,p3⟩,f0,f1,f2,f3⟩:=Zae H62.out;obtain⟨⟨d0,d1,d2⟩,e0,e1,e2⟩:=Zan HA12.out;obtain⟨⟨t0,t1,t2⟩,-⟩:=Zan HA2.out;go_wp2_with fail
   have a13:Thr (W2.setCell ⟨rb,1,none⟩ (.int .i64 ((i:Int)+1))) w.heap.size 96 (.int .i64 0) (.int .i64 0) (.string ⟨#[]⟩):=(Below.heap_setCell W2 ⟨rb,1,none⟩ _ w.heap.size hwr).trans HA12.out;rw[HNN.out];exact Zn8 rfl rfl rfl (ZeL a13 _ _ _) ⟨rfl,HP.out.1.putL a13 (by decide) HRB.out [_,_,_],(F2.out.trans HP.out.2).putL (nl _) [_,_,_]⟩
  ·have hk1:((tk:Int)==1)=false:=bF (by omega);have hk2:((tk:Int) !=1)=true:=by rw[bne,hk1];rfl
   have hn:out=(zTk,s.give):=by rw[HN.out,if_neg hk];rfl
   have HNN:=Hd hn;have HG:=Hd (ZbR hM Q2.out 2);clear hW2 a2 a12 b2 h62 hk hn;go_enter Tryz.func93,Tryz.ntmps93
   go_upto_region 1 with fail
   rw[HW1.out];go_region
   go_upto_region 4 with fail
   rw[HW2.out];clear p0 p1 p2 p3 f0 f1 f2 f3 d0 d1 d2 e0 e1 e2 c0 c1 c2;obtain⟨⟨p0,p1,p2,p3⟩,f0,f1,f2,f3⟩:=Zae H62.out;obtain⟨⟨t0,t1,t2⟩,-⟩:=Zan HA2.out;go_wp2_with fail
   refine HG.out.mono ?_;rintro e w3 ⟨rfl,q3,f3'⟩;have a13:Thr w3 w.heap.size 96 (.int .i64 0) (.int .i64 0) (.string ⟨#[]⟩):=f3'.cells HA12.out (by decide);have HA13:=Hd a13;have Q3:=Hd q3;have F3:=Hd (F2.out.trans f3');obtain⟨⟨d0,d1,d2⟩,e0,e1,e2⟩:=Zan a13;clear p0 p1 p2 p3 f0 f1 f2 f3 t0 t1 t2 q3 f3' HG a13;go_wp2_with fail
   rw[HNN.out];exact Zn8 rfl rfl rfl (ZeL HA13.out _ _ _) ⟨rfl,Q3.out.putL HA13.out (by decide) HRB.out [_,_,_],F3.out.putL (nl _) [_,_,_]⟩
theorem Zag{w:World}{base:Nat}{e:TypeId}{size:Nat}{v:Value}{n:Nat}{xs:List Value}(h:w.ownsRow base e size v n xs):∃a c,v=.slice a n c:=by
 rcases h.2 with ⟨rfl,rfl⟩ | ⟨g,cap,cur,rfl,_⟩
 ·exact⟨_,_,rfl⟩
 ·exact⟨_,_,rfl⟩
theorem ZeU{A:Nat→Prop}{w:World}{e:TypeId}{size n:Nat}{l:List Dt}{v:Value}(h:IsC A w (.row e size n l) v)(hn:n≠0):∃g c xs,v=.slice (some ⟨g,0,none⟩) n c∧A g∧g<w.heap.size∧IsCs A w l xs∧∀j x,j<n*size→xs[j]?=some x→w.cell? ⟨g,j,none⟩=some x:=by
 obtain⟨xs,h1,h2,h3⟩:=h.unrow;rcases h1.2 with ⟨_,e⟩ | ⟨g,c,cur,rfl,hb,hg,rest⟩
 ·exact absurd e hn
 ·exact⟨g,c,xs,rfl,h2 g rfl,(gE hg).1,h3,fun j x hj hx=>by rw[h1.cellAt j hj];exact hx⟩
def Sub (A:Nat→Prop)(w:World)(l:List Dt)(n:Nat)(v:Value):Prop:=
 ∃a0 cap xs,v=.slice a0 n cap∧IsCs A w l xs∧(n≠0→∃g o,a0=some ⟨g,o,none⟩∧g<w.heap.size∧∀j x,xs[j]?=some x→w.cell? ⟨g,o+j,none⟩=some x)
theorem Sub.of_row{A:Nat→Prop}{w:World}{e:TypeId}{k n:Nat}{l:List Dt}{v:Value}(h:IsC A w (.row e k n l) v)(hl:l.length=n*k):Sub A w l n v:=by
 obtain⟨xs,h1,h2,h3⟩:=h.unrow;obtain⟨a0,cap,rfl⟩:=Zag h1;refine⟨a0,cap,xs,rfl,h3,fun hn=>?_⟩;obtain⟨g,c,ys,hv,hA,hg,hcs,hcell⟩:=ZeU h hn;cases hv;refine⟨g,0,rfl,hg,fun j x hx=>?_⟩;have hj:j<n*k:=by
  have:=(List.getElem?_eq_some_iff.1 hx).1;rw[IsCs.length _ _ h3] at this;omega
 rw[Nat.zero_add,h1.cellAt j hj];exact hx
theorem Sub.below{A:Nat→Prop}{w w':World}{n:Nat}{l:List Dt}{v:Value}(h:Sub A w l n v)(hb:Below w.heap.size w w'):Sub A w' l n v:=by
 obtain⟨a0,cap,xs,h1,h2,h3⟩:=h;refine⟨a0,cap,xs,h1,h2.below hb,fun hn=>?_⟩;obtain⟨g,o,e1,e2,e3⟩:=h3 hn;exact⟨g,o,e1,ll e2 hb.size,fun j x hx=>(hb.cell (p:=⟨g,o+j,none⟩) e2).trans (e3 j x hx)⟩
theorem IsCs.at{α:Type}{f:α→List Dt}{k:Nat}(hf:∀x,(f x).length=k){A:Nat→Prop}{w:World}:∀(l:List α) (i:Nat) (t:α) (xs:List Value),IsCs A w (l.flatMap f) xs→l[i]?=some t→∃cs,IsCs A w (f t) cs∧∀j x,cs[j]?=some x→xs[i*k+j]?=some x
 | [],i,t,xs,_,h=>by simp at h
 | y::r,0,t,xs,hc,h=>by
  simp at h;subst h;rw[List.flatMap_cons] at hc;obtain⟨a,b,rfl,h1,h2⟩:=hc.split;refine⟨a,h1,fun j x hx=>?_⟩;rw[Nat.zero_mul,Nat.zero_add,List.getElem?_append_left (List.getElem?_eq_some_iff.1 hx).1];exact hx
 | y::r,i+1,t,xs,hc,h=>by
  rw[List.flatMap_cons] at hc;obtain⟨a,b,rfl,h1,h2⟩:=hc.split;obtain⟨cs,h3,h4⟩:=IsCs.at hf r i t b h2 (by simpa using h);refine⟨cs,h3,fun j x hx=>?_⟩;have hl:a.length=k:=by rw[IsCs.length _ _ h1,hf]
  rw[List.getElem?_append_right (by rw[hl,Nat.succ_mul];omega),hl,show (i+1)*k+j-k=i*k+j by rw[Nat.succ_mul];omega];exact h4 j x hx
theorem ZaE (e:TypeId):∀l,Zau e l=l.flatMap (encT e)
 | []=>by rw[Zau];rfl
 | t::r=>by rw[Zau,ZaE e r];rfl
theorem Zcb (e f:TypeId):∀l,Zaw e f l=l.flatMap (encE e f)
 | []=>by rw[Zaw];rfl
 | t::r=>by rw[Zaw,Zcb e f r];rfl
theorem ZaF{α:Type}{f:α→List Dt}{k:Nat}(hf:∀x,(f x).length=k):∀l:List α,(l.flatMap f).length=l.length*k
 | []=>by simp
 | x::r=>by rw[List.flatMap_cons,lA,ZaF hf r,hf,lC,Nat.succ_mul];omega
theorem Sub.at{α:Type}{f:α→List Dt}{k:Nat}(hf:∀x,(f x).length=k){A:Nat→Prop}{w:World}{l:List α}{a0:Option Addr}{n cap:Nat}(h:Sub A w (l.flatMap f) n (.slice a0 n cap)){i:Nat}{t:α}(hi:l[i]?=some t)(hn:n≠0) :
  ∃g o cs,a0=some ⟨g,o,none⟩∧g<w.heap.size∧IsCs A w (f t) cs∧∀j x,cs[j]?=some x→w.cell? ⟨g,o+i*k+j,none⟩=some x:=by
 obtain⟨b0,c2,xs,h1,h2,h3⟩:=h;cases h1;obtain⟨g,o,e1,e2,e3⟩:=h3 hn;obtain⟨cs,e4,e5⟩:=IsCs.at hf l i t xs h2 hi;exact⟨g,o,cs,e1,e2,e4,fun j x hx=>by rw[Nat.add_assoc];exact e3 _ x (e5 j x hx)⟩
theorem Zd1:∀ns:List Bs,ns.map Dt.str=ns.flatMap fun s=>[Dt.str s]
 | []=>rfl
 | n::ns=>by simp[Zd1 ns]
theorem Zla (ns:List Bs)(hsz:ns.length≤1000000)(nm:Bs)(A:Nat→Prop)(w:World)(v:Value)(h:Sub A w (ns.map .str) ns.length v) :
  Calls Tryz.prog 139 #[v,.string ⟨nm.toArray⟩] w fun e w'=>e=.returned (.bool (decide (nm∈ns)))∧w=w':=by
 obtain⟨a0,cap,_,rfl,-,-⟩:=id h;rw[Zd1] at h;have S1:=Hd h;have HSZ:=Hd hsz;clear h hsz;go_enter Tryz.func139,Tryz.ntmps139
 go_wp2_with fail
 go_loop [5] (fun s5=>∃i:Nat,s5=.int .i64 i∧i≤ns.length∧Hid (nm∉ns.take i)) (fun s5=>ns.length-(intOf s5).toNat)
 case atStart=>exact⟨0,rfl,Nat.zero_le _,Hd (by simp)⟩
 case round=>
  obtain⟨i,rfl,hil,hN⟩:=hrel;by_cases hi2:i<ns.length
  ·have hlt:decide ((i:Int)<(ns.length:Int))=true:=dT (by omega);have hltn:decide (i<ns.length)=true:=dT hi2;obtain⟨s,hget⟩:∃s,ns[i]?=some s:=⟨_,List.getElem?_eq_getElem hi2⟩;obtain⟨g,o,cs,rfl,hg,hcs,hcell⟩:=Sub.at (k:=1) (fun _=>rfl) S1.out hget (by omega);obtain⟨x,ys,rfl,k0,-⟩:=hcs.uncons;simp only[IsC] at k0;subst k0;have d0:=hcell 0 _ rfl;rw[aZ,Nat.mul_one] at d0;have hbig:=HSZ.out;have HG:=Hd hget;clear hget hcs hcell;by_cases he:s=nm
   ·have hb:(s==nm)=true:=by simpa using he
    have HE:=Hd (show decide (nm∈ns)=true by
     have:=List.mem_of_getElem? HG.out;rw[he] at this
     simpa using this)
    clear he;go_wp2_with fail
    go_ret
    exact⟨by rw[HE.out];rfl,rfl⟩
   ·have hb:(s==nm)=false:=by simpa using he
    have HE:=Hd (show nm∉ns.take (i+1) by
     rw[List.take_add_one,HG.out];simp only[Option.toList_some,List.mem_append,List.mem_singleton,not_or];exact⟨hN.out,fun e=>he e.symm⟩)
    clear he;go_wp2_with fail
    exact⟨⟨i+1,by simp,by omega,HE⟩,by simp[intOf];omega⟩
  ·have hge:i=ns.length:=by omega
   have hlt:decide ((i:Int)<(ns.length:Int))=false:=dF (by omega);have hltn:decide (i<ns.length)=false:=dF hi2;have HE:=Hd (show decide (nm∈ns)=false by
    have:=hN.out;rw[hge,List.take_length] at this
    simpa using this)
   clear hge;go_wp2_with fail
   go_ret
   exact⟨by rw[HE.out];rfl,rfl⟩
theorem Zka{α:Type}{f:List Tk→R α}{g:Q→α×Q}(h:Rdr f g)(hs:∀ts,Shr ts.length (f ts))(s:Q):(g s).2.ts.length≤s.ts.length:=by
 obtain⟨ts,nd,b⟩:=s;cases b with
 | true=>rw[h.2 _ rfl];exact nl _
 | false=>
  have h1:=h.1 ts nd;have h2:=hs ts;cases hf:f ts with
  | ok x r d=>
   rw[hf] at h1 h2;have h1:g ⟨ts,nd,false⟩=_:=h1;rw[h1];exact h2
  | bad y r d=>
   rw[hf] at h1 h2;obtain⟨h3,-⟩:=h1;rw[h3];exact h2
theorem ZbL{e:TypeId}{A:Nat→Prop}{w:World}{k:Nat}{n:Bs}{ns:List Bs}{l:List PT}{cs:List Value}(h:IsCs A w (encT e (.mk k n ns l)) cs):∃v2 v3,cs=[.int .i64 k,.string ⟨n.toArray⟩,v2,v3]∧IsC A w (.row 9 1 ns.length (ns.map .str)) v2∧IsC A w (.row e 4 l.length (Zau e l)) v3:=by
 rw[encT] at h;obtain⟨x0,ys,rfl,k0,h⟩:=h.uncons;obtain⟨x1,ys,rfl,k1,h⟩:=h.uncons;obtain⟨x2,ys,rfl,k2,h⟩:=h.uncons;obtain⟨x3,ys,rfl,k3,h⟩:=h.uncons;simp only[IsC] at k0 k1;obtain rfl:ys=[]:=by simpa only[IsCs] using h
 subst k0 k1;exact⟨x2,x3,rfl,k2,k3⟩
def vTq (lo:Nat)(t:PT)(e:Ending)(w':World):Prop:=∃cs,e=.returned (.agg cs.toArray)∧IsCs (fun b=>lo≤b) w' (encT 31 t) cs
def QPT (B M:Nat)(w:World)(rb:Nat)(all:List Tk)(p:PT×Q)(e:Ending)(w':World):Prop:=Fr B w w'∧vTq w.heap.size p.1 e w'∧QS B M w' rb all p.2
def RdsT (f B M rb:Nat)(all:List Tk)(d:Nat)(g:Q→PT×Q):Prop:=∀(w:World) (s:Q),QS B M w rb all s→Calls Tryz.prog f #[.pointer (some ⟨rb,0,none⟩),.int .i64 d] w (QPT B M w rb all (g s))
theorem retT{f:Func}{R:Ending→World→Prop}{a:Act}{w:World}{b:Nat}{u0 u1 u2 u3:Value}(hf:f.results=#[.cell 4 31])(ht:a.eval (.tmp 4)=.pointer (some ⟨b,0,none⟩))(hd:a.defers=[])
  (h:Fou w b 31 u0 u1 u2 u3) (hR:R (.returned (.agg #[u0,u1,u2,u3])) w):bodyPost Tryz.prog f R Exit.ret a w:=by
 obtain⟨⟨c0,c1,c2,c3⟩,-⟩:=Zae h;refine bodyPost_ret ?_ hd hR;simp[Act.eval] at ht;simp[results,hf,go_sem,c0,c1,c2,c3,ht]
theorem Zho (A:Nat→Prop)(w:World)(k:Nat)(n:Bs):IsCs A w (encT 31 (.mk k n [] [])) [.int .i64 k,.string ⟨n.toArray⟩,.slice none 0 0,.slice none 0 0]:=by
 simp only[encT,Zau,List.map_nil,lN];exact .cons (.num _ _ _) (.cons (.str _ _ _) (.cons (.none _ _ _ (by decide)) (.cons (.none _ _ _ (by decide)) (.nil _ _))))
theorem IsCs.frA{A:Nat→Prop}{n₀:Nat}{w w':World}{l:List Dt}{xs:List Value}(h:IsCs A w l xs)(hF:Fr n₀ w w'):IsCs A w' l xs:=IsCs.fr hF l xs h
theorem ZcA{w:World}{b:Nat}{t:TypeId}{v0 v1 v2 v3:Value}(h:Fou w b t v0 v1 v2 v3)(u0 u1 u2 u3:Value):Fou (putL w b [u0,u1,u2,u3]) b t u0 u1 u2 u3:=Zam (vs:=[u0,u1,u2,u3]) h rfl
abbrev zFou (w:World):World:=w.alloc (.cells #[.int .i64 0,.string ⟨#[]⟩,.slice none 0 0,.slice none 0 0] 31)
theorem zfou (w:World):Fou (zFou w) w.heap.size 31 (.int .i64 0) (.string ⟨#[]⟩) (.slice none 0 0) (.slice none 0 0):=hN w _
theorem endT{f:Func}{a:Act}{B M rb:Nat}{all:List Tk}{w w2:World}{q:Q}{t:PT}{v0 v1 v2 v3 u0 u1 u2 u3:Value}(hf:f.results=#[.cell 4 31])(ht:a.eval (.tmp 4)=.pointer (some ⟨w.heap.size,0,none⟩))(hd:a.defers=[])
  (ha:Fou w2 w.heap.size 31 v0 v1 v2 v3) (hF:Fr B w w2) (hQ:QS B M w2 rb all q) (hrb:rb<w.heap.size) (hc:IsCs (fun b=>w.heap.size<b) w2 (encT 31 t) [u0,u1,u2,u3]) :
  bodyPost Tryz.prog f (QPT B M w rb all (t,q)) Exit.ret a (putL w2 w.heap.size [u0,u1,u2,u3]):=
 retT hf ht hd (ZcA ha u0 u1 u2 u3) ⟨hF.putL (nl _) [u0,u1,u2,u3],⟨[u0,u1,u2,u3],rfl,(hc.putL w.heap.size (fun k hk=>Nat.ne_of_gt hk) [u0,u1,u2,u3]).mono (fun _ _ hk=>Nat.le_of_lt hk)⟩,hQ.putL ha (by decide) hrb [u0,u1,u2,u3]⟩
theorem Zi3{B M rb:Nat}{all:List Tk}(hM:M≤10000000):RdsT 45 B M rb all 65 (fun s=>(qT0,s.give)):=by
 intro w s h;have HRB:=Hd h.lt;obtain⟨W1,hW1⟩:=eY (zFou w);have a1:=zfou w;rw[hW1] at a1;have HA1:=Hd a1;have F1:=Hd (show Fr B w W1 by rw[←hW1];exact (Fr.refl B w).alloc _);have Q1:=Hd (show QS B M W1 rb all s by rw[←hW1];exact h.alloc _);have HG:=Hd (ZbR hM Q1.out 3);have HW1:=Hd (show w.alloc (.cells #[.int .i64 0,.string ⟨#[]⟩,.slice none 0 0,.slice none 0 0] 31)=W1 from hW1);clear h hW1 a1;go_enter Tryz.func45,Tryz.ntmps45
 go_upto_region 1 with fail
 rw[HW1.out];go_wp2_with fail
 refine HG.out.mono ?_;rintro e w2 ⟨rfl,q2,f2⟩;obtain⟨g,cap,i,vd,h6,-⟩:=q2.first
 rw[Zlb] at h6;obtain⟨⟨p0,p1,p2,p3⟩,-⟩:=Zae h6;have a2:Fou w2 w.heap.size 31 _ _ _ _:=f2.cells HA1.out (by decide);obtain⟨⟨d0,d1,d2,d3⟩,e0,e1,e2,e3⟩:=Zae a2;have HA2:=Hd a2;have Q2:=Hd q2;have F2:=Hd (F1.out.trans f2);clear q2 f2 a2 h6 HG;go_wp2_with fail
 exact endT rfl rfl rfl HA2.out F2.out Q2.out HRB.out (Zho _ _ 0 [])
theorem Zje{B M rb:Nat}{all:List Tk}(hM:M≤10000000)(d:Nat)(hd64:d≤64)(qp qa:Q→PT×Q)(HP:RdsT 134 B M rb all d qp)(HR:d+1≤64→RdsT 84 B M rb all (d+1) qa) :
  RdsT 84 B M rb all d (Zcn (d==64) qp qa):=by
 intro w s h;have HRB:=Hd h.lt;obtain⟨W1,hW1⟩:=eY (zFou w);have a1:=zfou w;rw[hW1] at a1;have HA1:=Hd a1;have F1:=Hd (show Fr B w W1 by rw[←hW1];exact (Fr.refl B w).alloc _);have Q1:=Hd (show QS B M W1 rb all s by rw[←hW1];exact h.alloc _);have HS1:=Hd (show W1.heap.size=w.heap.size+1 by rw[←hW1];simp);have HC1:=Hd (HP W1 s Q1.out);obtain⟨out,hout⟩:=eX (Zcn (d==64) qp qa s);rw[←hout];have HO:=Hd hout;obtain⟨⟨t1,s1⟩,hp⟩:∃p,p=qp s:=⟨_,rfl⟩;rw[←hp] at HC1;have HPP:=Hd hp;have HW1:=Hd (show w.alloc (.cells #[.int .i64 0,.string ⟨#[]⟩,.slice none 0 0,.slice none 0 0] 31)=W1 from hW1);clear h hW1 a1 hout hp HP;go_enter Tryz.func84,Tryz.ntmps84
 go_upto_region 1 with fail
 rw[HW1.out];go_wp2_with fail
 refine HC1.out.mono ?_;rintro e w2 ⟨f2,⟨cs,rfl,hc⟩,q2⟩;obtain⟨k,n,ns,l⟩:=t1;obtain⟨v2,v3,rfl,k2,k3⟩:=ZbL hc;obtain⟨_,r2,-,-⟩:=k2.unrow;obtain⟨a2,c2,rfl⟩:=Zag r2;obtain⟨_,r3,-,-⟩:=k3.unrow;obtain⟨a3,c3,rfl⟩:=Zag r3;have HTT:=Hd (show IsCs (fun b=>w.heap.size<b) w2 (encT 31 (.mk k n ns l)) [.int .i64 k,.string ⟨n.toArray⟩,.slice a2 ns.length c2,.slice a3 l.length c3] from hc.mono (fun b _ hb=>by have:=HS1.out;omega));have Q2:=Hd q2;have F2:=Hd (F1.out.trans f2);have HA2:=mF4 f2 HA1 (by decide);obtain⟨W3,hW3⟩:=eY (w2.alloc (.cells #[.int .i64 k,.string ⟨n.toArray⟩,.slice a2 ns.length c2,.slice a3 l.length c3] 31));have b3:Below w2.heap.size w2 W3:=by rw[←hW3];exact (Below.refl _ _).alloc (nl _) _
 have HX3:=Hd (show Fou W3 w2.heap.size 31 (.int .i64 k) (.string ⟨n.toArray⟩) (.slice a2 ns.length c2) (.slice a3 l.length c3) by rw[←hW3];exact hN w2 _);have B3:=Hd b3;have HI:=Hd (Zao (Q2.out.below b3) [45,62]);have HW3:=Hd hW3;have HLT:=Hd (show w.heap.size<w2.heap.size from (gE HA2.out).1);clear hc k2 k3 r2 r3 f2 q2 b3 hW3 HC1;go_upto_region 2 with fail
 rw[HW3.out];cases hm:s1.is [45,62] with
 | false=>
  rw[hm] at HI;have HON:=Hd (show out=(.mk k n ns l,s1) by rw[HO.out];unfold Zcn;rw[←HPP.out,hm,if_neg (by decide)]);clear hm;go_wp2_with fail
  refine HI.out.mono ?_;rintro e w4 ⟨rfl,b4⟩;have B4:=Hd (B3.out.trans (b4.mono B3.out.size));have hX4:=(b4.block _ (gE HX3.out).1).trans HX3.out;have hA4:=(B4.out.block _ HLT.out).trans HA2.out;obtain⟨⟨p0,p1,p2,p3⟩,-⟩:=Zae (t:=31) hX4;obtain⟨⟨d0,d1,d2,d3⟩,e0,e1,e2,e3⟩:=Zae (t:=31) hA4;have HA4:=Hd hA4;clear hX4 hA4 b4 HI;go_wp2_with fail
  rw[HON.out];exact endT rfl rfl rfl HA4.out (F2.out.below B4.out) (Q2.out.below B4.out) HRB.out (HTT.out.below B4.out)
 | true=>
  rw[hm] at HI;have HMM:=Hd hm;clear hm;go_wp2_with fail
  refine HI.out.mono ?_;rintro e w4 ⟨rfl,b4⟩;have B4:=Hd (B3.out.trans (b4.mono B3.out.size));have HTK:=Hd (Zah hM (Q2.out.below B4.out) [45,62]);have HX4:=Hd ((b4.block _ (gE HX3.out).1).trans HX3.out);have HA4:=Hd ((B4.out.block _ HLT.out).trans HA2.out);clear b4 HI;go_wp2_with fail
  refine HTK.out.mono ?_;rintro e w5 ⟨rfl,q5,f5⟩;have Q5:=Hd q5;have F5:=Hd ((F2.out.below B4.out).trans f5);have HX5:=mF4 f5 HX4 (by decide);have HA5:=mF4 f5 HA4 (by decide);have HT5:=Hd ((HTT.out.below B4.out).frA f5);clear q5 f5 HTK;by_cases hd:d=64
  ·have HON:=Hd (show out=(.mk k n ns l,(s1.take [45,62]).give) by rw[HO.out];unfold Zcn;rw[←HPP.out,HMM.out,if_pos rfl,hd];rfl);have hdd:decide ((64:Int)<(d:Int)+1)=true:=dT (by omega);have HG:=Hd (ZbR hM Q5.out 3);clear hd;go_wp2_with fail
   refine HG.out.mono ?_;rintro e w6 ⟨rfl,q6,f6⟩;have hX6:Fou w6 w2.heap.size 31 _ _ _ _:=f6.cells HX5.out (by decide);have hA6:Fou w6 w.heap.size 31 _ _ _ _:=f6.cells HA5.out (by decide);obtain⟨⟨p0,p1,p2,p3⟩,-⟩:=Zae hX6;obtain⟨⟨d0,d1,d2,d3⟩,e0,e1,e2,e3⟩:=Zae hA6;have HA6:=Hd hA6;have Q6:=Hd q6;have F6:=Hd (F5.out.trans f6);have HT6:=Hd (HT5.out.frA f6);clear q6 f6 HG hX6 hA6;go_wp2_with fail
   rw[HON.out];exact endT rfl rfl rfl HA6.out F6.out Q6.out HRB.out HT6.out
  ·have hdd:decide ((64:Int)<(d:Int)+1)=false:=dF (by omega);have HON:=Hd (show out=(.mk 6 [] [] [.mk k n ns l,(qa (s1.take [45,62])).1],(qa (s1.take [45,62])).2) by
    rw[HO.out];unfold Zcn;rw[←HPP.out,HMM.out,if_pos rfl,if_neg (by simpa using hd)])
   have HAR:=Hd (HR (by omega) w5 _ Q5.out);clear hd HR;go_wp2_with fail
   refine HAR.out.mono ?_;rintro e w6 ⟨f6,⟨cs6,rfl,hc6⟩,q6⟩;obtain⟨⟨u,s6⟩,hu⟩:∃p,p=qa (s1.take [45,62]):=⟨_,rfl⟩;rw[←hu] at hc6 q6 HON;obtain⟨k',n',ns',l'⟩:=u;obtain⟨v2,v3,rfl,k2,k3⟩:=ZbL hc6;obtain⟨_,r2,-,-⟩:=k2.unrow;obtain⟨a2',c2',rfl⟩:=Zag r2;obtain⟨_,r3,-,-⟩:=k3.unrow;obtain⟨a3',c3',rfl⟩:=Zag r3;have hX6:Fou w6 w2.heap.size 31 _ _ _ _:=f6.cells HX5.out (by decide);have hA6:Fou w6 w.heap.size 31 _ _ _ _:=f6.cells HA5.out (by decide);have HX6:=Hd hX6;have HA6:=Hd hA6;have Q6:=Hd q6;have F6:=Hd (F5.out.trans f6);have HT6:=Hd (HT5.out.frA f6);have hs5:=(gE HA5.out).1;have HU6:=Hd (show IsCs (fun b=>w.heap.size<b) w6 (encT 31 (.mk k' n' ns' l')) [.int .i64 k',.string ⟨n'.toArray⟩,.slice a2' ns'.length c2',.slice a3' l'.length c3'] from hc6.mono (fun b _ hb=>by omega));obtain⟨W7,hW7⟩:=eY (w6.alloc (.cells #[.int .i64 k',.string ⟨n'.toArray⟩,.slice a2' ns'.length c2',.slice a3' l'.length c3'] 31));have b7:Below w6.heap.size w6 W7:=by rw[←hW7];exact (Below.refl _ _).alloc (nl _) _
   have hY7:Fou W7 w6.heap.size 31 (.int .i64 k') (.string ⟨n'.toArray⟩) (.slice a2' ns'.length c2') (.slice a3' l'.length c3'):=by rw[←hW7];exact hN w6 _
   have hX7:=(b7.block _ (gE HX6.out).1).trans HX6.out;have hA7:=(b7.block _ (gE HA6.out).1).trans HA6.out;obtain⟨⟨p0,p1,p2,p3⟩,-⟩:=Zae (t:=31) hX7;obtain⟨⟨y0,y1,y2,y3⟩,-⟩:=Zae hY7;obtain⟨⟨d0,d1,d2,d3⟩,e0,e1,e2,e3⟩:=Zae (t:=31) hA7;have HA7:=Hd hA7;have B7:=Hd b7;have HW7:=Hd hW7;have hlt7:w.heap.size<W7.heap.size:=(gE hA7).1;have hne7:¬w.heap.size=W7.heap.size:=Nat.ne_of_lt hlt7;clear hc6 q6 f6 k2 k3 r2 r3 hX6 hA6 hX7 hA7 hY7 b7 hW7 hu HAR hs5;go_upto_region 9 with fail
   rw[HW7.out];go_wp2_with fail
   rw[HON.out];have h1:=((HT6.out.below B7.out).putL w.heap.size (fun _ hk=>Nat.ne_of_gt hk) [.int .i64 6,.string ⟨#[]⟩,.slice none 0 0,.slice (some ⟨W7.heap.size,0,none⟩) 2 2]);have h2:=((HU6.out.below B7.out).putL w.heap.size (fun _ hk=>Nat.ne_of_gt hk) [.int .i64 6,.string ⟨#[]⟩,.slice none 0 0,.slice (some ⟨W7.heap.size,0,none⟩) 2 2]);have hz:(putL W7 w.heap.size [.int .i64 6,.string ⟨#[]⟩,.slice none 0 0,.slice (some ⟨W7.heap.size,0,none⟩) 2 2]).heap.size=W7.heap.size:=(ZaW w.heap.size [.int .i64 6,.string ⟨#[]⟩,.slice none 0 0,.slice (some ⟨W7.heap.size,0,none⟩) 2 2] 0 W7).2.2.2;have h3:IsCs (fun b=>w.heap.size<b) (putL W7 w.heap.size [.int .i64 6,.string ⟨#[]⟩,.slice none 0 0,.slice (some ⟨W7.heap.size,0,none⟩) 2 2]) (Zau 31 [.mk k n ns l,.mk k' n' ns' l']) [.int .i64 k,.string ⟨n.toArray⟩,.slice a2 ns.length c2,.slice a3 l.length c3,.int .i64 k',.string ⟨n'.toArray⟩,.slice a2' ns'.length c2',.slice a3' l'.length c3']:=by
    rw[Zau,Zau,Zau,List.append_nil];exact h1.append _ _ _ _ h2
   have h4:=ZaK (e:=31) (size:=4) (n:=2) (g:=W7.heap.size) (A:=fun b=>w.heap.size<b) (by decide) hz hlt7 (by decide) rfl h3;refine retT rfl rfl rfl (Zab (ZcA HA7.out _ _ _ _) _) ⟨((F6.out.below B7.out).putL (nl _) [.int .i64 6,.string ⟨#[]⟩,.slice none 0 0,.slice (some ⟨W7.heap.size,0,none⟩) 2 2]).alloc _,⟨[.int .i64 6,.string ⟨#[]⟩,.slice none 0 0,.slice (some ⟨W7.heap.size,0,none⟩) 2 2],rfl,?_⟩,((Q6.out.below B7.out).putL HA7.out (by decide) HRB.out [.int .i64 6,.string ⟨#[]⟩,.slice none 0 0,.slice (some ⟨W7.heap.size,0,none⟩) 2 2]).alloc _⟩;exact (IsCs.cons (.num _ _ 6) (.cons (.str _ _ []) (.cons (.none _ _ 1 (by decide)) (.cons h4 (.nil _ _))))).mono (fun _ _ hk=>Nat.le_of_lt hk)
theorem Zk4:(Tryz.prog.info? 31).map (fun i=>(i.zero,i.size,i.bytes))=some (some (.agg #[.int .i64 0,.string ⟨#[]⟩,.slice none 0 0,.slice none 0 0]),4,72):=by kernel_rfl
theorem QS.left{B M:Nat}{w:World}{rb:Nat}{all:List Tk}{s:Q}(h:QS B M w rb all s):left rb all w=s.ts.length:=by
 obtain⟨h1,h2,h3,h4,h5,vt,vd,i,xs,h6,h7,h8,h9,h10⟩:=h;have:w.cell? ⟨rb,1,none⟩=some (.int .i64 i):=by simp[World.cell?,h6]
 unfold Go.Proofs.YtijnjoonbjdafaaGreatDoor.left;rw[this,h9,List.length_drop];simp[Go.RowKit.intOf]
theorem QS.len{B M:Nat}{w:World}{rb:Nat}{all:List Tk}{s:Q}(h:QS B M w rb all s):s.ts.length≤1000000∧0<s.ts.length:=by
 obtain⟨h1,h2,⟨p,e,h3,h3'⟩,h4,h5,vt,vd,i,xs,h6,h7,h8,h9,h10⟩:=h;refine⟨?_,by rw[h3];simp⟩;rw[h9,List.length_drop];omega
theorem ZnQ{m:Bs}{s:Q}(h:s.is m=true):s.take m=s.next:=by rw[Q.take,if_pos h]
structure UnQ (f:Q→PT×Q)(B M rb:Nat)(all:List Tk)(w wr:World)(hx:Nat)(out:List PT×Q)(acc:List PT)(sk:Q)(n g cap:Nat)(xs:List Value):Prop where
 un:Zce f n acc sk=out
 fuel:sk.ts.length≤n
 many:acc.length+sk.ts.length≤1000001
 qs:QS B M wr rb all sk
 fr:Fr B w wr
 res:Fou wr w.heap.size 31 (.int .i64 0) (.string ⟨#[]⟩) (.slice none 0 0) (.slice none 0 0)
 own:Fou wr hx 31 (.int .i64 7) (.string ⟨#[]⟩) (.slice none 0 0) (.slice (some ⟨g,0,none⟩) acc.length cap)
 hg:w.heap.size<g
 ne:g≠hx
 row:wr.ownsRow 0 31 4 (.slice (some ⟨g,0,none⟩) acc.length cap) acc.length xs
 cs:IsCs (fun b=>w.heap.size<b∧b≠g∧b≠hx) wr (Zau 31 acc) xs
theorem ZlP{qa:Q→PT×Q}{B M rb:Nat}{all:List Tk}{w wr w7 w8 w9:World}{hx:Nat}{fin:List PT×Q}{acc:List PT}{sk s8:Q}{n' n'' g cap g' cap':Nat}{xs:List Value}{t:PT}{u0 u1 u2 u3:Value}
  (HU:UnQ qa B M rb all w wr hx fin acc sk n' g cap xs) (HUN:Zce qa n'' (acc++[t]) s8=fin) (hle:s8.ts.length+1≤sk.ts.length) (hnn:n'=n''+1) (hrb:rb<w.heap.size) (hwx:w.heap.size<hx)
  (F7:Fr B w w7) (hxl:hx<w7.heap.size) (HA7:Fou w7 w.heap.size 31 (.int .i64 0) (.string ⟨#[]⟩) (.slice none 0 0) (.slice none 0 0)) (C7:IsCs (fun b=>w.heap.size<b∧b≠g∧b≠hx) w7 (Zau 31 acc) xs) (R7:w7.ownsRow 0 31 4 (.slice (some ⟨g,0,none⟩) acc.length cap) acc.length xs)
  (Q8:QS B M w8 rb all s8) (F8:Fr B w7 w8) (I8:IsCs (fun b=>w7.heap.size≤b) w8 (encT 31 t) [u0,u1,u2,u3])
  (hown:w9.ownsRow 0 31 4 (.slice (some ⟨g',0,none⟩) (acc.length+1) cap') (acc.length+1) (xs++[u0,u1,u2,u3])) (hg:(w8.alloc (.cells #[u0,u1,u2,u3] 31)).grownBy w9 (some g)) (hat:some g=some g'∨g'=w8.heap.size+1)
  (HX9:Fou w9 hx 31 (.int .i64 7) (.string ⟨#[]⟩) (.slice none 0 0) (.slice (some ⟨g,0,none⟩) acc.length cap)) :
  UnQ qa B M rb all w (w9.setCell ⟨hx,3,none⟩ (.slice (some ⟨g',0,none⟩) (acc.length+1) cap')) hx fin (acc++[t]) s8 n'' g' cap' (xs++[u0,u1,u2,u3]):=by
 have hgw:=HU.hg;have hgx:=HU.ne;have hs8:=F8.size;have hg7:g<w7.heap.size:=(R7.lt g rfl).2;have R8:=(F8.row R7 (by decide)).alloc (.cells #[u0,u1,u2,u3] 31);have hg':w.heap.size<g':=by
  rcases hat with e | e
  ·cases e;exact hgw
  ·omega
 have hne:g'≠hx:=by
  rcases hat with e | e
  ·cases e;exact hgx
  ·omega
 have ha9:Fou w9 w.heap.size 31 (.int .i64 0) (.string ⟨#[]⟩) (.slice none 0 0) (.slice none 0 0):=Za5 (Zab (F8.cells HA7 (by decide)) _) hg (fun e=>by cases e;exact absurd hgw (Nat.lt_irrefl _));have f9:Fr B w w9:=((F7.trans F8).alloc (.cells #[u0,u1,u2,u3] 31)).grownNew hg (fun b hb=>by cases hb;exact Nat.le_of_lt hgw);have q9:QS B M w9 rb all s8:=(Q8.alloc (.cells #[u0,u1,u2,u3] 31)).grown R8 (by decide) (fun b hb=>by have e:g=b:=Option.some.inj hb;omega) hg;have hmany:=HU.many;have hfuel:=HU.fuel;refine⟨HUN,by omega,?_,q9.setNew HX9 (by decide) (by omega) 3 _,f9.setNew (Nat.le_of_lt hwx) _,(Below.heap_setCell w9 ⟨hx,3,none⟩ _ w.heap.size (Nat.ne_of_lt hwx)).trans ha9,?_,hg',hne,?_,?_⟩
 ·rw[lA];show acc.length+1+_≤_;omega
 ·rw[lA];exact heap_setCell_same w9 hx 3 _ _ _ HX9
 ·rw[lA];exact Zbc (S:=fun b=>b=hx) hown (by simp[World.setCell]) (fun b _ hb=>Below.heap_setCell w9 ⟨hx,3,none⟩ _ b hb) (fun b hb=>by cases hb;exact hne)
 ·rw[ZbZ];have C8:=(C7.frA F8).below ((Below.refl _ _).alloc (nl _) (.cells #[u0,u1,u2,u3] 31));have E8:=I8.below ((Below.refl _ _).alloc (nl _) (.cells #[u0,u1,u2,u3] 31));have c1:=(C8.mono (A':=fun b=>w.heap.size<b∧b≠g∧b≠hx∧b<w8.heap.size+1) (fun b hb hb'=>⟨hb'.1,hb'.2.1,hb'.2.2,by simpa using hb⟩)).grown hg (fun b hb e=>by cases e;exact hb.2.1 rfl);have c2:=((I8.mono (A':=fun b=>w.heap.size<b∧b≠g∧b≠hx∧b<w8.heap.size+1) (fun b hb hb'=>⟨by have:=F7.size;omega,by omega,by omega,by omega⟩)).below ((Below.refl _ _).alloc (nl _) (.cells #[u0,u1,u2,u3] 31))).grown hg (fun b hb e=>by cases e;exact hb.2.1 rfl);have c3:IsCs (fun b=>w.heap.size<b∧b≠g∧b≠hx∧b<w8.heap.size+1) w9 (Zau 31 acc++Zau 31 [t]) (xs++[u0,u1,u2,u3]):=c1.append _ _ _ _ (by simpa[Zau] using c2);refine (c3.setCell hx 3 (fun k hk=>hk.2.2.1) _).mono (fun b _ hb=>⟨hb.1,?_,hb.2.2.1⟩);rcases hat with e | e
  ·cases e;exact hb.2.1
  ·omega
theorem Zkv{B M rb:Nat}{all:List Tk}(hM:M≤10000000)(d:Nat)(hd64:d≤64)(qa:Q→PT×Q)(hqa:∀s,(qa s).2.ts.length≤s.ts.length)(HA:RdsT 84 B M rb all d qa) :
    RdsT 45 B M rb all d (typS qa):=by
  intro w s h;obtain⟨i0,hi,hz0,hz1,hz2⟩:=info_parts Zk4;have HRB:=Hd h.lt;have HLEN:=Hd h.len;obtain⟨W1,hW1⟩:=eY (zFou w);have a1:=zfou w;rw[hW1] at a1;have HA1:=Hd a1;have F1:=Hd (show Fr B w W1 by rw[←hW1];exact (Fr.refl B w).alloc _);have q1:=(show QS B M W1 rb all s by rw[←hW1];exact h.alloc _);have Q1:=Hd q1;have HS1:=Hd (show W1.heap.size=w.heap.size+1 by rw[←hW1];simp);obtain⟨out,hout⟩:=eX (typS qa s);rw[←hout];have HO:=Hd hout;have HW1:=Hd (show w.alloc (.cells #[.int .i64 0,.string ⟨#[]⟩,.slice none 0 0,.slice none 0 0] 31)=W1 from hW1);have hdd:decide ((64:Int)<(d:Int))=false:=dF (by omega);obtain⟨g0,cap0,i1,vd0,h6,-⟩:=q1.first
  obtain⟨⟨p0,p1,p2,p3⟩,-⟩:=Zae h6;have HA:=Hd HA;have HQA:=Hd hqa;obtain⟨bd,hbd⟩:=eX (s.bad);rw[←hbd] at p3;have HBD:=Hd hbd;obtain⟨⟨d0,d1,d2,d3⟩,e0,e1,e2,e3⟩:=Zae a1;clear h hW1 a1 hout q1 h6 hbd hd64 hqa;go_enter Tryz.func45,Tryz.ntmps45
  go_upto_region 1 with fail
  rw[HW1.out];cases bd with
  | true=>
    have HON:=Hd (show out=(qT0,s) by rw[HO.out,typS,if_pos HBD.out.symm]);go_wp2_with fail
    rw[HON.out];exact endT rfl rfl rfl HA1.out F1.out Q1.out HRB.out (Zho _ _ 0 [])
  | false=>
    have HO2:=Hd (show out=if (qa s).2.is [124] then (.mk 7 [] [] (Zce qa (qa s).2.ts.length [(qa s).1] (qa s).2).1,(Zce qa (qa s).2.ts.length [(qa s).1] (qa s).2).2) else qa s by rw[HO.out,typS,if_neg (by rw[←HBD.out];decide)]);have HC1:=Hd (HA.out W1 s Q1.out);have HL1:=Hd (HQA.out s);obtain⟨⟨t1,s1⟩,hp⟩:∃p,p=qa s:=⟨_,rfl⟩;rw[←hp] at HC1 HO2 HL1;clear HO hp;go_wp2_with fail
    refine HC1.out.mono ?_;rintro e w2 ⟨f2,⟨cs,rfl,hc⟩,q2⟩;obtain⟨k,n,ns,l⟩:=t1;obtain⟨v2,v3,rfl,k2,k3⟩:=ZbL hc;obtain⟨_,r2,-,-⟩:=k2.unrow;obtain⟨a2,c2,rfl⟩:=Zag r2;obtain⟨_,r3,-,-⟩:=k3.unrow;obtain⟨a3,c3,rfl⟩:=Zag r3;have HTT:=Hd (show IsCs (fun b=>w.heap.size<b) w2 (encT 31 (.mk k n ns l)) [.int .i64 k,.string ⟨n.toArray⟩,.slice a2 ns.length c2,.slice a3 l.length c3] from hc.mono (fun b _ hb=>by have:=HS1.out;omega));have Q2:=Hd q2;have F2:=Hd (F1.out.trans f2);have HA2:=mF4 f2 HA1 (by decide);obtain⟨W3,hW3⟩:=eY (w2.alloc (.cells #[.int .i64 k,.string ⟨n.toArray⟩,.slice a2 ns.length c2,.slice a3 l.length c3] 31));have b3:Below w2.heap.size w2 W3:=by rw[←hW3];exact (Below.refl _ _).alloc (nl _) _
    have HX3:=Hd (show Fou W3 w2.heap.size 31 (.int .i64 k) (.string ⟨n.toArray⟩) (.slice a2 ns.length c2) (.slice a3 l.length c3) by rw[←hW3];exact hN w2 _);have B3:=Hd b3;have HI:=Hd (Zao (Q2.out.below b3) [124]);have HW3:=Hd hW3;have HLT:=Hd (show w.heap.size<w2.heap.size from (gE HA2.out).1);clear hc k2 k3 r2 r3 f2 q2 b3 hW3 HC1 p0 p1 p2 p3 d0 d1 d2 d3 e0 e1 e2 e3;go_upto_region 6 with fail
    rw[HW3.out];cases hm:s1.is [124] with
    | false=>
      rw[hm] at HI;have HON:=Hd (show out=(.mk k n ns l,s1) by rw[HO2.out,hm,if_neg (by decide)]);clear hm;go_wp2_with fail
      refine HI.out.mono ?_;rintro e w4 ⟨rfl,b4⟩;have B4:=Hd (B3.out.trans (b4.mono B3.out.size));have hX4:=(b4.block _ (gE HX3.out).1).trans HX3.out;have hA4:=(B4.out.block _ HLT.out).trans HA2.out;obtain⟨⟨p0,p1,p2,p3⟩,-⟩:=Zae (t:=31) hX4;obtain⟨⟨d0,d1,d2,d3⟩,e0,e1,e2,e3⟩:=Zae (t:=31) hA4;have HA4:=Hd hA4;clear hX4 hA4 b4 HI;go_wp2_with fail
      rw[HON.out];exact endT rfl rfl rfl HA4.out (F2.out.below B4.out) (Q2.out.below B4.out) HRB.out (HTT.out.below B4.out)
    | true=>
      rw[hm] at HI;have HON:=Hd (show out=(.mk 7 [] [] (Zce qa s1.ts.length [.mk k n ns l] s1).1,(Zce qa s1.ts.length [.mk k n ns l] s1).2) by rw[HO2.out,hm,if_pos rfl]);clear hm HO2;go_wp2_with fail
      refine HI.out.mono ?_;rintro e w4 ⟨rfl,b4⟩;have B4:=Hd (B3.out.trans (b4.mono B3.out.size));have hX4:=(b4.block _ (gE HX3.out).1).trans HX3.out;have HA4:=Hd ((B4.out.block _ HLT.out).trans HA2.out);have HX4L:=Hd (gE hX4).1;obtain⟨⟨p0,p1,p2,p3⟩,-⟩:=Zae (t:=31) hX4;obtain⟨W5,hW5⟩:=eY ((w4.alloc (.cells #[.int .i64 k,.string ⟨n.toArray⟩,.slice a2 ns.length c2,.slice a3 l.length c3] 31)).alloc (.cells #[.int .i64 7,.string ⟨#[]⟩,.slice none 0 0,.slice (some ⟨w4.heap.size,0,none⟩) 1 1] 31));have HW5:=Hd hW5;have Q4:=Hd (Q2.out.below B4.out);have F4:=Hd (F2.out.below B4.out);have HT4:=Hd (HTT.out.below B4.out);clear hX4 b4 HI hW5;go_upto_region 9 with fail
      rw[HW5.out];obtain⟨fin,hfin⟩:=eX (Zce qa s1.ts.length [.mk k n ns l] s1);rw[←hfin] at HON;have HFIN:=Hd hfin;have HS4:=Hd (show w.heap.size<w4.heap.size from (gE HA4.out).1);clear hfin p0 p1 p2 p3;go_loopw [] (fun wr=>∃(acc:List PT) (sk:Q) (n g cap:Nat) (xs:List Value),Hid (UnQ qa B M rb all w wr (w4.heap.size+1) fin acc sk n g cap xs)) (fun wr=>left rb all wr)
      case atStart=>
        refine⟨[.mk k n ns l],s1,s1.ts.length,w4.heap.size,1,[.int .i64 k,.string ⟨n.toArray⟩,.slice a2 ns.length c2,.slice a3 l.length c3],Hd ⟨HFIN.out.symm,nl _,?_,?_,?_,?_,?_,HS4.out,?_,?_,?_⟩⟩
        · have:=HLEN.out.1;have:s1.ts.length≤s.ts.length:=HL1.out;simp;omega
        · rw[←HW5.out];exact (Q4.out.alloc _).alloc _
        · rw[←HW5.out];exact (F4.out.alloc _).alloc _
        · rw[←HW5.out];exact Zab (Zab HA4.out _) _
        · rw[←HW5.out]
          have:=hN (w4.alloc (.cells #[.int .i64 k,.string ⟨n.toArray⟩,.slice a2 ns.length c2,.slice a3 l.length c3] 31)) (.cells #[.int .i64 7,.string ⟨#[]⟩,.slice none 0 0,.slice (some ⟨w4.heap.size,0,none⟩) 1 1] 31);rw[World.size_alloc] at this;exact this
        · omega
        · rw[←HW5.out]
          exact (World.ownsRow_lit w4 _ 1 (Nat.zero_le _) (by decide) rfl).alloc _
        · rw[←HW5.out]
          have:=(((HT4.out.mono (A':=fun b=>w.heap.size<b∧b≠w4.heap.size∧b≠w4.heap.size+1) (fun b hb hb'=>⟨hb',by omega,by omega⟩)).below ((Below.refl _ _).alloc (nl _) (.cells #[.int .i64 k,.string ⟨n.toArray⟩,.slice a2 ns.length c2,.slice a3 l.length c3] 31))).below ((Below.refl _ _).alloc (nl _) (.cells #[.int .i64 7,.string ⟨#[]⟩,.slice none 0 0,.slice (some ⟨w4.heap.size,0,none⟩) 1 1] 31)))
          simpa[Zau] using this
      case round=>
        obtain⟨acc,sk,n',g,cap,xs,HU⟩:=hrel;have HIS:=Hd (Zao HU.out.qs [124]);cases hm:sk.is [124] with
        | false=>
          rw[hm] at HIS;have HFN:=Hd (show fin=(acc,sk) by
            rw[←HU.out.un];cases n' with
            | zero=>rfl
            | succ n'=>rw[Zce,hm];rfl)
          clear hm;go_wp2_with fail
          refine HIS.out.mono ?_;rintro e w6 ⟨rfl,b6⟩;have hX6:=(b6.block _ (gE HU.out.own).1).trans HU.out.own;have hA6:=(b6.block _ (gE HU.out.res).1).trans HU.out.res;obtain⟨⟨p0,p1,p2,p3⟩,-⟩:=Zae (t:=31) hX6;obtain⟨⟨d0,d1,d2,d3⟩,e0,e1,e2,e3⟩:=Zae (t:=31) hA6;have HA6:=Hd hA6;have B6:=Hd b6;clear hX6 hA6 b6;go_wp2_with fail
          rw[HON.out,HFN.out];refine endT rfl rfl rfl HA6.out (HU.out.fr.below B6.out) (HU.out.qs.below B6.out) HRB.out ?_;simp only[encT,List.map_nil,lN];exact .cons (.num _ _ 7) (.cons (.str _ _ []) (.cons (.none _ _ _ (by decide)) (.cons (.row (by decide) (ZaM HU.out.row B6.out) (fun b hb=>by cases hb;exact HU.out.hg) ((HU.out.cs.below B6.out).mono (fun b _ hb=>hb.1))) (.nil _ _))))
        | true=>
          rw[hm] at HIS;have HM:=Hd hm;obtain⟨n'',hn''⟩:∃n'',n'=n''+1:=⟨n' - 1,by have:=HU.out.fuel;have:=HU.out.qs.len.2;omega⟩;have HUN:=Hd (show Zce qa n'' (acc++[(qa (sk.take [124])).1]) (qa (sk.take [124])).2=fin by
            rw[←HU.out.un,hn'',Zce,hm];rfl)
          have HNN:=Hd hn'';have HTL:=Hd (show (sk.take [124]).ts.length+1=sk.ts.length by rw[ZnQ hm];exact ZdA HU.out.qs.len.2);have HLE:=Hd (HQA.out (sk.take [124]));have HLF:=Hd HU.out.qs.left;clear hm hn'';go_wp2_with fail
          refine HIS.out.mono ?_;rintro e w6 ⟨rfl,b6⟩;have HTK:=Hd (Zah hM (HU.out.qs.below b6) [124]);have B6:=Hd b6;clear b6 HIS;go_wp2_with fail
          refine HTK.out.mono ?_;rintro e w7 ⟨rfl,q7,f7⟩;have Q7:=Hd q7;have F7:=Hd ((HU.out.fr.below B6.out).trans f7);have HX7:=Hd (show Fou w7 (w4.heap.size+1) 31 _ _ _ _ from f7.cells ((B6.out.block _ (gE HU.out.own).1).trans HU.out.own) (by decide));have HA7:=Hd (show Fou w7 w.heap.size 31 _ _ _ _ from f7.cells ((B6.out.block _ (gE HU.out.res).1).trans HU.out.res) (by decide));have R7:=Hd (f7.row (ZaM HU.out.row B6.out) (by decide));have C7:=Hd ((HU.out.cs.below B6.out).frA f7);have HC:Hid (∀X:World,X.heap=w7.heap∧X.os=w7.os∧X.tape=w7.tape∧X.output=w7.output→Calls Tryz.prog 84 #[.pointer (some ⟨rb,0,none⟩),.int .i64 d] X (QPT B M w7 rb all (qa (sk.take [124])))):=by
            rintro X ⟨x1,x2,x3,x4⟩;have hX:Below w7.heap.size w7 X:=⟨x2,x3,x4,by rw[x1];exact nl _,fun k _=>by rw[x1]⟩;refine (HA.out X _ (Q7.out.below hX)).mono ?_;rintro e w' ⟨y1,⟨cs,rfl,y2⟩,y3⟩;rw[x1] at y2;exact⟨(Fr.of_below hX).trans y1,⟨cs,rfl,y2⟩,y3⟩
          obtain⟨⟨u,s8⟩,hu⟩:∃p,p=qa (sk.take [124]):=⟨_,rfl⟩;rw[←hu] at HUN HC HLE;obtain⟨uk,un,uns,ul⟩:=u;obtain⟨⟨p0,p1,p2,p3⟩,t0,t1,t2,t3⟩:=Zae HX7.out;have hmx:acc.length+1≤maxLen:=by have:=HU.out.many;unfold maxLen;omega
          have hmb:(acc.length+1)*72≤140737488355328:=by have:=HU.out.many;omega
          have HGX:=Hd HU.out.ne;have HGL:=Hd HU.out.hg;obtain⟨hx,hhx⟩:=eX (w4.heap.size+1);rw[←hhx] at p0 p1 p2 p3 t0 t1 t2 t3 HX7 HGX HU C7⊢;have HHX:=Hd hhx;have hxl:hx<w7.heap.size:=(gE HX7.out).1;have HXL:=Hd hxl;clear q7 f7 HTK hu hhx p0 p1 p2;go_upto_region 11 with fail
          go_region_law
            (first
              | (go_simp;go_at_call 84;refine (HC.out _ ?_).mono ?_;exact⟨rfl,rfl,rfl,rfl⟩;rintro e w8 ⟨f8,⟨cs8,rfl,i8⟩,q8⟩;obtain⟨v2',v3',rfl,k2,k3⟩:=ZbL i8;obtain⟨_,r2,-,-⟩:=k2.unrow;obtain⟨a2',c2',rfl⟩:=Zag r2;obtain⟨_,r3,-,-⟩:=k3.unrow;obtain⟨a3',c3',rfl⟩:=Zag r3;(have hX8:Fou w8 hx 31 _ _ _ _:=f8.cells HX7.out (by decide));obtain⟨⟨-,-,-,s3⟩,-⟩:=Zae hX8;(have HX8:=Hd hX8);(have I8:=Hd i8);(have Q8:=Hd q8);(have F8:=Hd f8);(have hn1:¬hx=w8.heap.size:=by have:=f8.size;have:=HXL.out;omega);
                 (have R8:=Hd ((f8.row R7.out (by decide)).alloc (.cells #[.int .i64 uk,.string ⟨un.toArray⟩,.slice a2' uns.length c2',.slice a3' ul.length c3'] 31)));(have HNB:=Hd (World.news_of_block (hN w8 (.cells #[.int .i64 uk,.string ⟨un.toArray⟩,.slice a2' uns.length c2',.slice a3' ul.length c3'] 31))));(have HONE:=Hd i8.one);obtain⟨⟨-,-,-,s3'⟩,-⟩:=Zae (show Fou (w8.alloc (.cells #[.int .i64 uk,.string ⟨un.toArray⟩,.slice a2' uns.length c2',.slice a3' ul.length c3'] 31)) hx 31 _ _ _ _ from Zab hX8 (.cells #[.int .i64 uk,.string ⟨un.toArray⟩,.slice a2' uns.length c2',.slice a3' ul.length c3'] 31));clear hX8 i8 q8 f8 k2 k3 r2 r3)
              | (refine step_append_lies _ rfl (.tmp 31) (.tmp 35) 29 rfl 0 31 i0 _ 4 72 Tryz.underlying29 hi hz0 hz1 hz2 rfl (by decide) (.slice (some ⟨g,0,none⟩) acc.length cap) acc.length xs rfl R8.out ⟨w8.heap.size,0,none⟩ 1 1 [.int .i64 uk,.string ⟨un.toArray⟩,.slice a2' uns.length c2',.slice a3' ul.length c3'] rfl rfl HNB.out HONE.out (by decide) hmx hmb (Nat.zero_le _) (w8.heap.size+1) (World.size_alloc _ _) ?_;intro g' cap' w9 hown9 hg9 hat9 hlt9;(have hX9:Fou w9 hx 31 _ _ _ _:=Za5 (Zab HX8.out (.cells #[.int .i64 uk,.string ⟨un.toArray⟩,.slice a2' uns.length c2',.slice a3' ul.length c3'] 31)) hg9 (fun e=>HGX.out (Option.some.inj e).symm));obtain⟨⟨-,-,-,s3⟩,t0,t1,t2,t3⟩:=Zae hX9;(have HX9:=Hd hX9);clear hX9))
          go_wp2_with fail
          all_goals
            rw[←HHX.out];have HU9:=ZlP HU.out HUN.out (by have:=HLE.out;have:=HTL.out;omega) HNN.out HRB.out (by have:=HS4.out;have:=HHX.out;omega) F7.out HXL.out HA7.out C7.out R7.out Q8.out F8.out I8.out hown9 hg9 hat9 HX9.out;refine⟨⟨⟨_,_,_,_,_,_,Hd HU9⟩,rfl⟩,?_⟩;rw[HU9.qs.left,HLF.out];have:=HLE.out;have:=HTL.out;omega
def ZmU (s:Q):PD×Q:=(⟨1,(s.take [117,115,101]).name.1.a,(s.take [117,115,101]).name.1.t,[],[]⟩,(s.take [117,115,101]).name.2.take [59])
def ZmV (typ:Q→PT×Q)(s:Q):PD×Q:=
 (⟨2,(s.take [116,121,112,101]).name.1.a,(s.take [116,121,112,101]).name.1.t,[(typ ((s.take [116,121,112,101]).name.2.take [61])).1],[]⟩,(typ ((s.take [116,121,112,101]).name.2.take [61])).2.take [59])
def annS (typ:Q→PT×Q)(s:Q):List PT×Q:=if s.is [58] then ([(typ (s.take [58])).1],(typ (s.take [58])).2) else ([],s)
def Zlx (typ:Q→PT×Q)(expr:Q→PE×Q)(s:Q):PD×Q:=
 (⟨3,(s.take [108,101,116]).name.1.a,(s.take [108,101,116]).name.1.t,(annS typ (s.take [108,101,116]).name.2).1,[(expr ((annS typ (s.take [108,101,116]).name.2).2.take [61])).1]⟩,(expr ((annS typ (s.take [108,101,116]).name.2).2.take [61])).2.take [59])
def Zef (typ:Q→PT×Q)(expr:Q→PE×Q)(s:Q):PD×Q:=
 if s.is [117,115,101] then ZmU s
 else if s.is [116,121,112,101] then ZmV typ s
 else if s.is [108,101,116] then Zlx typ expr s
 else (⟨0,0,[],[],[]⟩,s.give)
def oneS{α:Type}(g:Q→α×Q)(ts:List Tk)(nd:Nat):Option α:=
 if (g ⟨ts,nd,false⟩).2.bad=true∨(hd (g ⟨ts,nd,false⟩).2.ts).k≠6∨(g ⟨ts,nd,false⟩).2.nd≠0 then none else some (g ⟨ts,nd,false⟩).1
theorem one_is{α:Type}{f:List Tk→R α}{g:Q→α×Q}(h:Rdr f g)(ts:List Tk)(told:List Dn):oneS g ts told.length=ZjM f ts told:=by
 have h1:=h.1 ts told.length;unfold oneS ZjM;cases hf:f ts with
 | ok x r d=>
  rw[hf] at h1;have h1:g ⟨ts,told.length,false⟩=_:=h1;rw[h1];cases told with
  | nil=>
   cases d with
   | nil=>by_cases hk:(hd r).k=6<;>simp[hk]
   | cons y d=>simp
  | cons y t=>simp
 | bad y r d=>
  rw[hf] at h1;rw[if_pos (.inl h1.2)];split<;>rfl
theorem Zpe{typ:Q→PT×Q}{s:Q}(h:s.bad=true):(annS typ s).2=s:=by rw[annS,ZcM h,if_neg (by decide)]
theorem Zoj (ts:List Tk)(nd:Nat):Rel nd (ZbI ts) (Zef (qTyp 64) (qExp 64) ⟨ts,nd,false⟩):=by
 have ht:Rdr (typ 64) (qTyp 64):=(Zhv 64).1;have he:Rdr (exp 64) (qExp 64):=Ziq 64;unfold ZbI Zef;rw[ZcD,ZcD,ZcD];cases h1:isM [117,115,101] ts with
 | true=>
  rw[if_pos rfl,if_pos rfl];unfold ZmU;rw[Za3 h1];refine (Zdn ts.tail nd).bind (fun y r m e=>?_) (fun hb=>?_)
  ·rw[e];refine (Zbe [59] r m).bind (fun _ r m e=>?_) (fun hb=>rfl);rw[Prod.mk.injEq] at e;simp only[e.2];rfl
  ·exact Zax hb
 | false=>
  simp only[ff,if_false];cases h2:isM [116,121,112,101] ts with
  | true=>
   rw[if_pos rfl,if_pos rfl];unfold ZmV;rw[Za3 h2];refine (Zdn ts.tail nd).bind (fun y r m e=>?_) (fun hb=>?_)
   ·rw[e];refine (Zbe [61] r m).bind (fun _ r m e=>?_) (fun hb=>?_)
    ·rw[Prod.mk.injEq] at e;simp only[e.2];refine (ht.1 r m).bind (fun t r m e=>?_) (fun hb=>?_)
     ·rw[e];refine (Zbe [59] r m).bind (fun _ r m e=>?_) (fun hb=>rfl);rw[Prod.mk.injEq] at e;simp only[e.2];rfl
     ·exact Zax hb
    ·simp only[];rw[ht.2 _ hb];exact Zax hb
   ·simp only[];rw[Zax (m:=[61]) hb,ht.2 _ hb];exact Zax hb
  | false=>
   simp only[ff,if_false];cases h3:isM [108,101,116] ts with
   | false=>
    rw[if_neg (by decide)];obtain⟨y,hy⟩:∃y,want [108,101,116] ts=.bad y ts []:=by unfold want;rw[h3];exact⟨_,rfl⟩
    rw[hy,R.bind_bad];exact⟨rfl,rfl⟩
   | true=>
    rw[if_pos rfl];unfold Zlx;refine (Zbe [108,101,116] ts nd).bind (fun _ r m e=>?_) (fun hb=>?_)
    ·rw[Prod.mk.injEq] at e;simp only[e.2];refine (Zdn r m).bind (fun y r m e=>?_) (fun hb=>?_)
     ·rw[e];simp only[annS];rw[ZcD];cases h4:isM [58] r with
      | true=>
       rw[if_pos rfl,if_pos rfl,Za3 h4];refine (ht.1 r.tail m).bind (fun t r m e=>?_) (fun hb=>?_)
       ·rw[e];refine (Zbe [61] r m).bind (fun _ r m e=>?_) (fun hb=>?_)
        ·rw[Prod.mk.injEq] at e;simp only[e.2];refine (he.1 r m).bind (fun t r m e=>?_) (fun hb=>?_)
         ·rw[e];refine (Zbe [59] r m).bind (fun _ r m e=>?_) (fun hb=>rfl);rw[Prod.mk.injEq] at e;simp only[e.2];rfl
         ·exact Zax hb
        ·simp only[];rw[he.2 _ hb];exact Zax hb
       ·simp only[];rw[Zax (m:=[61]) hb,he.2 _ hb];exact Zax hb
      | false=>
       rw[if_neg (by decide),if_neg (by decide)];refine (Zbe [61] r m).bind (fun _ r m e=>?_) (fun hb=>?_)
       ·rw[Prod.mk.injEq] at e;simp only[e.2];refine (he.1 r m).bind (fun t r m e=>?_) (fun hb=>?_)
        ·rw[e];refine (Zbe [59] r m).bind (fun _ r m e=>?_) (fun hb=>rfl);rw[Prod.mk.injEq] at e;simp only[e.2];rfl
        ·exact Zax hb
       ·simp only[];rw[he.2 _ hb];exact Zax hb
     ·simp only[];rw[Zpe hb,Zax (m:=[61]) hb,he.2 _ hb];exact Zax hb
    ·rw[Za3 h3] at hb;cases hb
end Go.Proofs.YtijnjoonbjdafaaGreatDoor

import Derived.Test.YtijnjoonbjdafaaGreatDoorRyM
import Derived.Test.YtijnjoonbjdafaaGreatDoorWhM
namespace Go.Proofs.YtijnjoonbjdafaaGreatDoor
set_option maxHeartbeats 20000000
open Go.RowKit Go.Shelf
theorem ZfJ (c:UInt8)(s:ByteArray)(hs:s.size≤1000000)(w:World) :
  Calls Tryz.prog 130 #[.int .u8 (c.toNat:Int),.string s] w fun e w'=>e=.returned (.bool (s.data.toList.contains c))∧w=w':=by
 go_enter Tryz.func130,Tryz.ntmps130
 go_wp2_with fail
 go_loopw [5] (fun s5 wr=>∃i:Nat,s5=.int .i64 (i:Int)∧i≤s.size∧(∀j,j<i→s.data.toList[j]?≠some c)∧w=wr) (fun s5 _=>s.size-(intOf s5).toNat)
 case atStart=>exact⟨0,rfl,Nat.zero_le _,fun j hj=>by omega,rfl⟩
 case round=>
  obtain⟨i,rfl,hi,hall,rfl⟩:=hrel;by_cases hlt:i<s.size
  ·have hg:=ZcV hlt;by_cases hc:s[i]=c
   ·have h1:s.data.toList.contains c=true:=by
     rw[List.contains_iff_mem];exact List.mem_of_getElem? (by rw[hg,hc])
    have H1:=Hd h1;have h2:((s[i].toNat:Int)==(c.toNat:Int))=true:=by rw[hc];simp
    have h3:(s[i].toNat:Int)=(c.toNat:Int):=by rw[hc]
    clear h1 hall hg hc;go_wp2_with fail
    go_ret
    exact⟨by rw[H1.out];rfl,rfl⟩
   ·have hn:s[i].toNat≠c.toNat:=fun e=>hc (Zc5 e)
    have h2:((s[i].toNat:Int)==(c.toNat:Int))=false:=by simp;omega
    have h3:¬(s[i].toNat:Int)=(c.toNat:Int):=by omega
    have HA:Hid (∀j,j<i+1→s.data.toList[j]?≠some c):=by
     show ∀j,j<i+1→s.data.toList[j]?≠some c;intro j hj;by_cases hji:j=i
     ·subst hji;rw[hg];intro e;exact hc (Option.some.inj e)
     ·exact hall j (by omega)
    clear hall hg hc hn;go_wp2_with fail
    go_roundw
    case rel=>exact⟨i+1,by go_num,by omega,HA.out,by first | rfl | trivial⟩
    case measure=>simp[intOf];omega
  ·have h1:s.data.toList.contains c=false:=by
    rw[Bool.eq_false_iff];intro e;rw[List.contains_iff_mem] at e;obtain⟨j,hj⟩:=List.mem_iff_getElem?.1 e;have:=(List.getElem?_eq_some_iff.1 hj).1;rw[←Lib.size_eq] at this;exact hall j (by omega) hj
   have H1:=Hd h1;clear h1 hall;go_wp2_with fail
   go_ret
   exact⟨by rw[H1.out];rfl,rfl⟩
theorem Zkd (c:UInt8):([32,9,10,13]:Bs).contains c=Zav c:=by
 have:=Zc6 (fun c=>([32,9,10,13]:Bs).contains c==Zav c) (by decide +kernel) c
 simpa using this
theorem Zkb (c:UInt8):([97,98,99,100,101,102,103,104,105,106,107,108,109,110,111,112,113,114,115,116,117,118,119,120,121,122,95]:Bs).contains c=ZaC c:=by
 have:=Zc6 (fun c=>([97,98,99,100,101,102,103,104,105,106,107,108,109,110,111,112,113,114,115,116,117,118,119,120,121,122,95]:Bs).contains c==ZaC c) (by decide +kernel) c;exact beq_iff_eq.1 this
theorem Zl6 (c:UInt8):([97,98,99,100,101,102,103,104,105,106,107,108,109,110,111,112,113,114,115,116,117,118,119,120,121,122,95,48,49,50,51,52,53,54,55,56,57]:Bs).contains c=ZaH c:=by
 have:=Zc6 (fun c=>([97,98,99,100,101,102,103,104,105,106,107,108,109,110,111,112,113,114,115,116,117,118,119,120,121,122,95,48,49,50,51,52,53,54,55,56,57]:Bs).contains c==ZaH c) (by decide +kernel) c;exact beq_iff_eq.1 this
theorem Zkc (c:UInt8):([48,49,50,51,52,53,54,55,56,57]:Bs).contains c=ZaD c:=by
 have:=Zc6 (fun c=>([48,49,50,51,52,53,54,55,56,57]:Bs).contains c==ZaD c) (by decide +kernel) c;exact beq_iff_eq.1 this
theorem Zl7 (c:UInt8):(!([10]:Bs).contains c)=Za6 c:=by
 have:=Zc6 (fun c=>(!([10]:Bs).contains c)==Za6 c) (by decide +kernel) c;exact beq_iff_eq.1 this
theorem Zl5 (c:UInt8):(!([34,10]:Bs).contains c)=Zal c:=by
 have:=Zc6 (fun c=>(!([34,10]:Bs).contains c)==Zal c) (by decide +kernel) c;exact beq_iff_eq.1 this
theorem ZgB (s some':ByteArray)(a:Nat)(p:UInt8→Bool)(hp:∀c,some'.data.toList.contains c=p c)(ha:a≤s.size)(hs:s.size≤1000000)(hs':some'.size≤1000000)(w:World) :
  Calls Tryz.prog 132 #[.string s,.int .i64 (a:Int),.string some'] w fun e w'=>e=.returned (.int .i64 ((a+Zad p (s.data.toList.drop a):Nat):Int))∧w=w':=by
 obtain⟨m,hmm⟩:=eX (Zad p (s.data.toList.drop a));rw[←hmm];have HA:=Hd (hmm▸Zb9 p (s.data.toList.drop a));have HE:=Hd (hmm▸Zcw p (s.data.toList.drop a));have hle:=hmm▸Za1 p (s.data.toList.drop a);rw[List.length_drop,←Lib.size_eq] at hle;have HI:Hid (∀(c:UInt8) (w:World),Calls Tryz.prog 130 #[.int .u8 (c.toNat:Int),.string some'] w fun e w'=>e=.returned (.bool (p c))∧w=w'):=by
  intro c w;rw[←hp c];exact ZfJ c some' hs' w
 clear hmm hp;go_enter Tryz.func132,Tryz.ntmps132
 go_wp2_with fail
 go_loopw [1] (fun s1 wr=>∃i:Nat,s1=.int .i64 (i:Int)∧a≤i∧i≤a+m∧w=wr) (fun s1 _=>a+m-(intOf s1).toNat)
 case atStart=>exact⟨a,rfl,nl _,by omega,rfl⟩
 case round=>
  obtain⟨i,rfl,hai,him,rfl⟩:=hrel;by_cases hlt:i<s.size
  ·have hget:(s.data.toList.drop a)[i-a]?=some s[i]:=by
    rw[List.getElem?_drop,Nat.add_sub_cancel' hai];exact ZcV hlt
   cases hpc:p s[i] with
   | true=>
    have hlm:i-a<m:=by
     rcases Nat.lt_or_ge (i-a) m with h | h
     ·exact h
     ·have e:i-a=m:=by omega
      rw[e] at hget;have:=HE.out _ hget;rw[hpc] at this;cases this
    have HP:=Hd hpc;clear hpc hget;go_wp2_with fail
    refine (HI.out _ _).mono ?_;rintro e w1 ⟨rfl,rfl⟩;rw[HP.out];go_wp2_with fail
    go_roundw
    case rel=>exact⟨i+1,by go_num,by omega,by omega,by first | rfl | trivial⟩
    case measure=>simp[intOf];omega
   | false=>
    have hlm:i=a+m:=by
     rcases Nat.lt_or_ge (i-a) m with h | h
     ·obtain⟨c,h1,h2⟩:=HA.out _ h;rw[hget] at h1;cases h1;rw[hpc] at h2;cases h2
     ·omega
    have HP:=Hd hpc;have HL:=Hd hlm;clear hpc hget hlm;go_wp2_with fail
    refine (HI.out _ _).mono ?_;rintro e w1 ⟨rfl,rfl⟩;rw[HP.out];go_wp2_with fail
    go_ret
    exact⟨by rw[←HL.out];rfl,rfl⟩
  ·have HL:Hid (i=a+m):=by show i=a+m;omega
   go_wp2_with fail
   go_ret
   exact⟨by rw[←HL.out];rfl,rfl⟩
theorem ZgC (s some':ByteArray)(a:Nat)(p:UInt8→Bool)(hp:∀c,(!some'.data.toList.contains c)=p c)(ha:a≤s.size)(hs:s.size≤1000000)(hs':some'.size≤1000000)(w:World) :
  Calls Tryz.prog 131 #[.string s,.int .i64 (a:Int),.string some'] w fun e w'=>e=.returned (.int .i64 ((a+Zad p (s.data.toList.drop a):Nat):Int))∧w=w':=by
 obtain⟨m,hmm⟩:=eX (Zad p (s.data.toList.drop a));rw[←hmm];have HA:=Hd (hmm▸Zb9 p (s.data.toList.drop a));have HE:=Hd (hmm▸Zcw p (s.data.toList.drop a));have hle:=hmm▸Za1 p (s.data.toList.drop a);rw[List.length_drop,←Lib.size_eq] at hle;have HI:Hid (∀(c:UInt8) (w:World),Calls Tryz.prog 130 #[.int .u8 (c.toNat:Int),.string some'] w fun e w'=>e=.returned (.bool (!p c))∧w=w'):=by
  intro c w;rw[←hp c,Bool.not_not];exact ZfJ c some' hs' w
 clear hmm hp;go_enter Tryz.func131,Tryz.ntmps131
 go_wp2_with fail
 go_loopw [1] (fun s1 wr=>∃i:Nat,s1=.int .i64 (i:Int)∧a≤i∧i≤a+m∧w=wr) (fun s1 _=>a+m-(intOf s1).toNat)
 case atStart=>exact⟨a,rfl,nl _,by omega,rfl⟩
 case round=>
  obtain⟨i,rfl,hai,him,rfl⟩:=hrel;by_cases hlt:i<s.size
  ·have hget:(s.data.toList.drop a)[i-a]?=some s[i]:=by
    rw[List.getElem?_drop,Nat.add_sub_cancel' hai];exact ZcV hlt
   cases hpc:p s[i] with
   | true=>
    have hlm:i-a<m:=by
     rcases Nat.lt_or_ge (i-a) m with h | h
     ·exact h
     ·have e:i-a=m:=by omega
      rw[e] at hget;have:=HE.out _ hget;rw[hpc] at this;cases this
    have HP:=Hd hpc;clear hpc hget;go_wp2_with fail
    refine (HI.out _ _).mono ?_;rintro e w1 ⟨rfl,rfl⟩;rw[HP.out];go_wp2_with fail
    go_roundw
    case rel=>exact⟨i+1,by go_num,by omega,by omega,by first | rfl | trivial⟩
    case measure=>simp[intOf];omega
   | false=>
    have hlm:i=a+m:=by
     rcases Nat.lt_or_ge (i-a) m with h | h
     ·obtain⟨c,h1,h2⟩:=HA.out _ h;rw[hget] at h1;cases h1;rw[hpc] at h2;cases h2
     ·omega
    have HP:=Hd hpc;have HL:=Hd hlm;clear hpc hget hlm;go_wp2_with fail
    refine (HI.out _ _).mono ?_;rintro e w1 ⟨rfl,rfl⟩;rw[HP.out];go_wp2_with fail
    go_ret
    exact⟨by rw[←HL.out];rfl,rfl⟩
  ·have HL:Hid (i=a+m):=by show i=a+m;omega
   go_wp2_with fail
   go_ret
   exact⟨by rw[←HL.out];rfl,rfl⟩
theorem ZjL (p:Nat)(hp:p<13):∃t,words[p]?=some t∧∀h,([Value.string ⟨#[117,115,101]⟩,.string ⟨#[116,121,112,101]⟩,.string ⟨#[108,101,116]⟩,.string ⟨#[105,110]⟩,.string ⟨#[105,102]⟩,.string ⟨#[116,104,101,110]⟩,.string ⟨#[101,108,115,101]⟩,.string ⟨#[102,117,110]⟩,.string ⟨#[116,114,117,101]⟩,.string ⟨#[102,97,108,115,101]⟩,.string ⟨#[105,110,116]⟩,.string ⟨#[98,111,111,108]⟩,.string ⟨#[116,101,120,116]⟩]:List Value)[p]'h=.string ⟨t.toArray⟩:=by
 match p,hp with
 | 0,_=>exact⟨_,rfl,fun _=>rfl⟩
 | 1,_=>exact⟨_,rfl,fun _=>rfl⟩
 | 2,_=>exact⟨_,rfl,fun _=>rfl⟩
 | 3,_=>exact⟨_,rfl,fun _=>rfl⟩
 | 4,_=>exact⟨_,rfl,fun _=>rfl⟩
 | 5,_=>exact⟨_,rfl,fun _=>rfl⟩
 | 6,_=>exact⟨_,rfl,fun _=>rfl⟩
 | 7,_=>exact⟨_,rfl,fun _=>rfl⟩
 | 8,_=>exact⟨_,rfl,fun _=>rfl⟩
 | 9,_=>exact⟨_,rfl,fun _=>rfl⟩
 | 10,_=>exact⟨_,rfl,fun _=>rfl⟩
 | 11,_=>exact⟨_,rfl,fun _=>rfl⟩
 | 12,_=>exact⟨_,rfl,fun _=>rfl⟩
def ZfU:Obj:=.cells #[Value.string ⟨#[117,115,101]⟩,.string ⟨#[116,121,112,101]⟩,.string ⟨#[108,101,116]⟩,.string ⟨#[105,110]⟩,.string ⟨#[105,102]⟩,.string ⟨#[116,104,101,110]⟩,.string ⟨#[101,108,115,101]⟩,.string ⟨#[102,117,110]⟩,.string ⟨#[116,114,117,101]⟩,.string ⟨#[102,97,108,115,101]⟩,.string ⟨#[105,110,116]⟩,.string ⟨#[98,111,111,108]⟩,.string ⟨#[116,101,120,116]⟩] 9
theorem Zgy (w:World)(p:Nat)(hp:p<13):∃t,words[p]?=some t∧(w.alloc ZfU).cell? ⟨w.heap.size,p,none⟩=some (.string ⟨t.toArray⟩):=by
 obtain⟨t,h1,h2⟩:=ZjL p hp;refine⟨t,h1,?_⟩;rw[ZlB (hN w ZfU)];rw[Array.getElem?_eq_getElem (by simpa using hp)];have:=h2 (by simpa using hp)
 simpa using this
theorem Zh8 (s:ByteArray)(w:World):Calls Tryz.prog 133 #[.string s] w fun e w'=>e=.returned (.bool (Zbu s.data.toList))∧Below w.heap.size w w':=by
 have hB:=(Below.refl w.heap.size w).alloc (nl _) ZfU;have hC:=Zgy w;obtain⟨w1,hw1⟩:=eX (w.alloc ZfU);rw[←hw1] at hB;simp only[←hw1] at hC;have HW1:Hid (w.alloc (.cells #[Value.string ⟨#[117,115,101]⟩,.string ⟨#[116,121,112,101]⟩,.string ⟨#[108,101,116]⟩,.string ⟨#[105,110]⟩,.string ⟨#[105,102]⟩,.string ⟨#[116,104,101,110]⟩,.string ⟨#[101,108,115,101]⟩,.string ⟨#[102,117,110]⟩,.string ⟨#[116,114,117,101]⟩,.string ⟨#[102,97,108,115,101]⟩,.string ⟨#[105,110,116]⟩,.string ⟨#[98,111,111,108]⟩,.string ⟨#[116,101,120,116]⟩] 9)=w1):=hw1.symm;have HC:=Hd hC;clear hw1 hC;go_enter Tryz.func133,Tryz.ntmps133
 go_wp2_with fail
 rw[HW1.out];go_loopw [4] (fun s4 wr=>∃i:Nat,s4=.int .i64 (i:Int)∧i≤13∧(∀j,j<i→words[j]?≠some s.data.toList)∧w1=wr) (fun s4 _=>13-(intOf s4).toNat)
 case atStart=>exact⟨0,rfl,Nat.zero_le _,fun j hj=>by omega,rfl⟩
 case round=>
  obtain⟨i,rfl,hi,hall,rfl⟩:=hrel;by_cases hlt:i<13
  ·obtain⟨t,ht,hc⟩:=HC.out i hlt;by_cases he:t=s.data.toList
   ·have H1:Hid (Zbu s.data.toList=true):=by
     show Zbu s.data.toList=true;rw[Zbu,List.contains_iff_mem,←he];exact List.mem_of_getElem? ht
    have e1:(⟨t.toArray⟩:ByteArray)=s:=by rw[he]
    rw[e1] at hc;clear ht he hall e1;go_wp2_with fail
    go_ret
    exact⟨by rw[H1.out];rfl,hB⟩
   ·have e1:((⟨t.toArray⟩:ByteArray).toList==s.toList)=false:=str_ne (by intro e;apply he;rw[←e]);obtain⟨X,hX⟩:∃X:ByteArray,X=⟨t.toArray⟩:=⟨_,rfl⟩;rw[←hX] at hc e1;have HA:Hid (∀j,j<i+1→words[j]?≠some s.data.toList):=by
     show ∀j,j<i+1→words[j]?≠some s.data.toList;intro j hj;by_cases hji:j=i
     ·subst hji;rw[ht];intro e;exact he (Option.some.inj e)
     ·exact hall j (by omega)
    clear hall ht he hX;go_wp2_with fail
    go_roundw
    case rel=>exact⟨i+1,by go_num,by omega,HA.out,by first | rfl | trivial⟩
    case measure=>simp[intOf];omega
  ·have h13:i=13:=by omega
   have H1:Hid (Zbu s.data.toList=false):=by
    show Zbu s.data.toList=false;rw[Zbu,Bool.eq_false_iff];intro e;rw[List.contains_iff_mem] at e;obtain⟨j,hj⟩:=List.mem_iff_getElem?.1 e;have h2:=(List.getElem?_eq_some_iff.1 hj).1;have h3:words.length=13:=rfl;exact hall j (by omega) hj
   clear hall;go_wp2_with fail
   go_ret
   exact⟨by rw[H1.out];rfl,hB⟩
theorem ZnY (c:UInt8):isSg c=true→Zav c=false∧c≠35∧ZaC c=false∧ZaD c=false∧c≠34∧c≠45:=by
 have:=Zc6 (fun c=>!isSg c || (!Zav c&&c !=35&&!ZaC c&&!ZaD c&&c !=34&&c !=45)) (by decide +kernel) c;simp at this;intro h;simp[h] at this;exact⟨this.1.1.1.1.1,this.1.1.1.1.2,this.1.1.1.2,this.1.1.2,this.1.2,this.2⟩
theorem info34:(Tryz.prog.info? 96).map (fun i=>(i.zero,i.size,i.bytes))=some (some (.agg #[.int .i64 0,.int .i64 0,.string ⟨#[]⟩]),3,32):=by kernel_rfl
theorem ZoL:(Tryz.prog.info? 192).map (fun i=>(i.zero,i.size,i.bytes))=some (some (.agg #[.int .i64 0,.int .i64 0,.string ⟨#[]⟩]),3,32):=by kernel_rfl
structure RefI (s:ByteArray)(pre:List Pc)(a:Nat):Prop where
 le:a≤s.size
 eq:Zaq 0 s.data.toList=pre++Zaq a (s.data.toList.drop a)
theorem RefI.start (s:ByteArray):RefI s [] 0:=⟨Nat.zero_le _,by simp⟩
theorem Zh2{s:ByteArray}{a:Nat}(h:a<s.size):s.data.toList.drop a≠[]:=by rw[Zb4 h];simp
theorem Zht{s:ByteArray}{a:Nat}(h:a<s.size):1≤(Zac (s.data.toList.drop a)).n∧a+(Zac (s.data.toList.drop a)).n≤s.size:=by
 have:=ZbS _ (Zh2 h);rw[List.length_drop,←Lib.size_eq] at this;omega
theorem RefI.gap{s:ByteArray}{pre:List Pc}{a:Nat}(h:RefI s pre a)(ha:a<s.size)(hk:(Zac (s.data.toList.drop a)).k=0)(hd:(Zac (s.data.toList.drop a)).d=0):RefI s pre (a+(Zac (s.data.toList.drop a)).n):=by
 refine⟨(Zht ha).2,?_⟩;rw[h.eq,ZbA a _ (Zh2 ha) hk hd,List.drop_drop]
theorem RefI.piece{s:ByteArray}{pre:List Pc}{a:Nat}(h:RefI s pre a)(ha:a<s.size)(hkd:(Zac (s.data.toList.drop a)).k≠0∨(Zac (s.data.toList.drop a)).d≠0):RefI s (pre++[⟨a,Zac (s.data.toList.drop a)⟩]) (a+(Zac (s.data.toList.drop a)).n):=by
 refine⟨(Zht ha).2,?_⟩;rw[h.eq,Zbf a _ (Zh2 ha) hkd,List.drop_drop,aA];rfl
theorem RefI.len{s:ByteArray}{pre:List Pc}{a:Nat}(h:RefI s pre a):(ZaG pre).length≤s.size∧(Za2 pre).length≤s.size:=by
 have h1:=congrArg List.length h.eq;rw[lA] at h1;have h2:=ZdQ s.data.toList.length 0 s.data.toList (nl _);rw[←Lib.size_eq] at h2;have h3:=ZdK pre;have h4:=ZeI pre;omega
theorem ZcQ{W:World}{B:Nat}{v:Value}{pre:List Pc}{a:Nat}{K:Int}{T:ByteArray}(st:Step)(h:W.ownsRow B 96 3 v ((ZaG pre).length+1) (Zbn (ZaG pre)++[.int .i64 K,.int .i64 (a:Int),.string T]))(hk0:st.k≠0)(hK:K=(st.k:Int))(hT:T=⟨st.t.toArray⟩) :
  W.ownsRow B 96 3 v (ZaG (pre++[⟨a,st⟩])).length (Zbn (ZaG (pre++[⟨a,st⟩]))):=by
 rw[Zb7,if_neg hk0,Zcf,lA];subst hK hT;exact h
theorem Zc9{W:World}{B:Nat}{v:Value}{pre:List Pc}{a:Nat}(st:Step)(h:W.ownsRow B 96 3 v (ZaG pre).length (Zbn (ZaG pre)))(hk0:st.k=0) :
  W.ownsRow B 96 3 v (ZaG (pre++[⟨a,st⟩])).length (Zbn (ZaG (pre++[⟨a,st⟩]))):=by
 rw[Zb7,if_pos hk0,List.append_nil];exact h
theorem Zd4{W:World}{B:Nat}{v:Value}{pre:List Pc}{a:Nat}{K:Int}(st:Step)(h:W.ownsRow B 192 3 v ((Za2 pre).length+1) (Zbv (Za2 pre)++[.int .i64 (a:Int),.int .i64 K,.string ⟨#[]⟩]))(hk0:st.d≠0)(hK:K=(st.d:Int)) :
  W.ownsRow B 192 3 v (Za2 (pre++[⟨a,st⟩])).length (Zbv (Za2 (pre++[⟨a,st⟩]))):=by
 rw[Zb6,if_neg hk0,Zdf,lA];subst hK;exact h
theorem Zdk{W:World}{B:Nat}{v:Value}{pre:List Pc}{a:Nat}(st:Step)(h:W.ownsRow B 192 3 v (Za2 pre).length (Zbv (Za2 pre)))(hk0:st.d=0) :
  W.ownsRow B 192 3 v (Za2 (pre++[⟨a,st⟩])).length (Zbv (Za2 (pre++[⟨a,st⟩]))):=by
 rw[Zb6,if_pos hk0,List.append_nil];exact h
theorem Zdl{W W':World}{base:Nat}{e:TypeId}{size:Nat}{v:Value}{n:Nat}{xs:List Value}(h:W.ownsRow base e size v n xs)(hb:Below W.heap.size W W'):W'.ownsRow base e size v n xs:=
 Zar h fun k _ hk=>(hb.block k (gE hk).1).trans hk
theorem ZaY{w W W':World}{e:TypeId}{v:Value}{n:Nat}{xs:List Value}(hB:Below w.heap.size w W)(hr:W.ownsRow w.heap.size e 3 v n xs)(hg:W.grownBy W' v.ownBlock):Below w.heap.size w W':=
 ⟨hg.os.trans hB.os,hg.tape.trans hB.tape,hg.output.trans hB.output,Nat.le_trans hB.size hg.size,fun k hk=>(hg.block k (ll hk hB.size) (by
  intro e1;have:=(hr.lt k e1.symm).1;omega)).trans (hB.block k hk)⟩
theorem ZgK{c:UInt8}(r:Bs)(h:Zav c=true):Zac (c::r)=⟨1,0,[],0⟩:=by simp only[Zac,h,if_true]
theorem Zj7 (r:Bs):Zac (35::r)=⟨Zad Za6 (35::r),0,[],0⟩:=by
 simp only[Zac,show Zav 35=false by decide,ff,if_false,if_true]
theorem Zj3{c:UInt8}(r:Bs)(hb:Zav c=false)(h35:c≠35)(h1:ZaC c=true):Zac (c::r)=⟨Zad ZaH (c::r),ZaL ((c::r).take (Zad ZaH (c::r))),(c::r).take (Zad ZaH (c::r)),0⟩:=by
 simp only[Zac,hb,h35,h1,ff,if_false,if_true]
theorem Zj6{c:UInt8}(r:Bs)(hb:Zav c=false)(h35:c≠35)(h1:ZaC c=false)(h2:ZaD c=true):Zac (c::r)=(if 18<Zad ZaD (c::r) then ⟨Zad ZaD (c::r),3,[48],13⟩ else ⟨Zad ZaD (c::r),3,(c::r).take (Zad ZaD (c::r)),0⟩):=by
 simp only[Zac,hb,h35,h1,h2,ff,if_false,if_true]
theorem Zj4{c:UInt8}(r:Bs)(hb:Zav c=false)(h35:c≠35)(h1:ZaC c=false)(h2:ZaD c=false)(h3:c≠34)(h4:¬(c=45∧r.head?=some 62))(h6:isSg c=true):Zac (c::r)=⟨1,5,[c],0⟩:=by
 simp only[Zac,hb,h35,h1,h2,h3,h4,h6,ff,if_false,if_true]
theorem Zj5{c:UInt8}(r:Bs)(hb:Zav c=false)(h35:c≠35)(h1:ZaC c=false)(h2:ZaD c=false)(h3:c≠34)(h4:¬(c=45∧r.head?=some 62))(h6:isSg c=false):Zac (c::r)=⟨1,0,[],1⟩:=by
 simp only[Zac,hb,h35,h1,h2,h3,h4,h6,ff,if_false]
theorem set_sg (c:UInt8):([61,58,59,44,46,40,41,123,125,124,63]:Bs).contains c=isSg c:=rfl
theorem ZbE (c:UInt8)(w:World):Calls Tryz.prog 130 #[.int .u8 (c.toNat:Int),.string ⟨#[32,9,10,13]⟩] w fun e w'=>e=.returned (.bool (Zav c))∧w=w':=by
 rw[←Zkd];exact ZfJ c _ (by decide) w
theorem ZbT (c:UInt8)(w:World):Calls Tryz.prog 130 #[.int .u8 (c.toNat:Int),.string ⟨#[97,98,99,100,101,102,103,104,105,106,107,108,109,110,111,112,113,114,115,116,117,118,119,120,121,122,95]⟩] w fun e w'=>e=.returned (.bool (ZaC c))∧w=w':=by
 rw[←Zkb];exact ZfJ c _ (by decide) w
theorem Zdw (c:UInt8)(w:World):Calls Tryz.prog 130 #[.int .u8 (c.toNat:Int),.string ⟨#[48,49,50,51,52,53,54,55,56,57]⟩] w fun e w'=>e=.returned (.bool (ZaD c))∧w=w':=by
 rw[←Zkc];exact ZfJ c _ (by decide) w
theorem ZoO (c:UInt8)(w:World):Calls Tryz.prog 130 #[.int .u8 (c.toNat:Int),.string ⟨#[61,58,59,44,46,40,41,123,125,124,63]⟩] w fun e w'=>e=.returned (.bool (isSg c))∧w=w':=by
 rw[←set_sg];exact ZfJ c _ (by decide) w
theorem ZhL (l:Bs):(⟨l.toArray⟩:ByteArray).data.toList=l:=by simp
theorem Zk6 (c:UInt8)(h:c.toNat=45)(w:World):Calls Tryz.prog 130 #[.int .u8 45,.string ⟨#[61,58,59,44,46,40,41,123,125,124,63]⟩] w fun e w'=>e=.returned (.bool false)∧w=w':=by
 have h2:=ZoO c w;have e1:isSg c=false:=by
  have:c=45:=Zc5 h;rw[this];decide
 rw[e1,h] at h2;exact h2
set_option maxRecDepth 20000 in
theorem Zn9 (s:ByteArray)(hs:s.size≤100000)(w:World) :
  Calls Tryz.prog 82 #[.string s] w fun e W'=>∃v u,e=.returned (.tuple #[v,u])∧
   W'.ownsRow w.heap.size 96 3 v ((ZaG (Zaq 0 s.data.toList)).length+1) (Zbn (ZaG (Zaq 0 s.data.toList)++[⟨6,s.size,[]⟩]))∧
   W'.ownsRow w.heap.size 192 3 u (Za2 (Zaq 0 s.data.toList)).length (Zbv (Za2 (Zaq 0 s.data.toList)))∧Below w.heap.size w W':=by
 obtain⟨i0,hi,hz0,hz1,hz2⟩:=info_parts info34;obtain⟨j0,hj,hy0,hy1,hy2⟩:=info_parts ZoL;go_enter Tryz.func82,Tryz.ntmps82
 go_wp2_with fail
 go_loopw [4,5,6] (fun s4 s5 s6 wr=>∃(pre:List Pc) (a:Nat),s6=.int .i64 (a:Int)∧RefI s pre a∧wr.ownsRow w.heap.size 96 3 s4 (ZaG pre).length (Zbn (ZaG pre))∧wr.ownsRow w.heap.size 192 3 s5 (Za2 pre).length (Zbv (Za2 pre))∧Below w.heap.size w wr) (fun _ _ s6 _=>s.size-(intOf s6).toNat)
 case atStart=>exact⟨[],0,rfl,RefI.start s,World.ownsRow_nil _ _ _ _,World.ownsRow_nil _ _ _ _,Below.refl _ _⟩
 case round=>
  obtain⟨pre,a,rfl,hR,hr0,hr1,hB⟩:=hrel;have hl0:=hR.len.1;have hl1:=hR.len.2;have hle:=hR.le;have hmx:(ZaG pre).length+1≤maxLen:=by unfold maxLen;omega
  have hmy:(Za2 pre).length+1≤maxLen:=by unfold maxLen;omega
  have hbs:=hB.size;have hba:∀o,w.heap.size≤(wr.alloc o).heap.size:=fun o=>by rw[World.size_alloc];omega
  have HR:=Hd hR;clear hR;by_cases hlt:a<s.size
  ·have hd:=Zb4 hlt;have hst:=Zht hlt;have HD:=Hd hd;clear hd;cases hb:Zav s[a] with
   | true=>
    have h1:Zac (s.data.toList.drop a)=⟨1,0,[],0⟩:=by rw[HD.out];exact ZgK _ hb
    have HG:Hid (RefI s pre (a+1)):=by
     have:=HR.out.gap hlt (by rw[h1]) (by rw[h1]);rw[h1] at this;exact this
    have HB:=Hd hb;clear h1 hb hst;go_wp2_with fail
    refine (ZbE _ _).mono ?_;rintro e w1 ⟨rfl,rfl⟩;rw[HB.out];go_wp2_with fail
    go_roundw
    case rel=>exact⟨pre,a+1,by go_num,HG.out,hr0,hr1,hB⟩
    case measure=>simp[intOf];omega
   | false=>
   have HB:=Hd hb;by_cases h35:s[a]=35
   ·have h1:Zac (s.data.toList.drop a)=⟨Zad Za6 (s.data.toList.drop a),0,[],0⟩:=by rw[HD.out,h35];exact Zj7 _
    have hg:=HR.out.gap hlt (by rw[h1]) (by rw[h1]);have hu:=ZgC s ⟨#[10]⟩ a Za6 Zl7 hle (by omega) (by decide);rw[h1] at hg hst;obtain⟨b,hbb⟩:=eX (a+Zad Za6 (s.data.toList.drop a));simp only[←hbb] at hg hu;have hab:a<b:=by have:=hst.1;simp only at this;omega
    have hbs2:=hg.le;have HG:=Hd hg;have HU:=Hd hu;have h35a:s[a].toNat=35:=by rw[h35];rfl
    have H35:=Hd h35a;clear h1 hb hst hg hu hbb h35 h35a;go_wp2_with fail
    refine (ZbE _ _).mono ?_;rintro e w1 ⟨rfl,rfl⟩;rw[HB.out];have k1:((s[a].toNat:Int)==35)=true:=by have:=H35.out;simp;omega
    have k2:(s[a].toNat:Int)=35:=by have:=H35.out;omega
    go_wp2_with fail
    refine (HU.out _).mono ?_;rintro e w1 ⟨rfl,rfl⟩;go_wp2_with fail
    go_roundw
    case rel=>exact⟨pre,b,rfl,HG.out,hr0,hr1,hB⟩
    case measure=>simp[intOf];omega
   have n35:s[a].toNat≠35:=fun e=>h35 (Zc5 e)
   have k35:((s[a].toNat:Int)==35)=false:=by simp;omega
   have k35':¬(s[a].toNat:Int)=35:=by omega
   clear n35;cases h1s:ZaC s[a] with
   | true=>
    have HS:=Hd h1s;have h1:Zac (s.data.toList.drop a)=⟨Zad ZaH (s.data.toList.drop a),ZaL ((s.data.toList.drop a).take (Zad ZaH (s.data.toList.drop a))),(s.data.toList.drop a).take (Zad ZaH (s.data.toList.drop a)),0⟩:=by rw[HD.out];exact Zj3 _ hb h35 h1s
    have hu:=ZgB s ⟨#[97,98,99,100,101,102,103,104,105,106,107,108,109,110,111,112,113,114,115,116,117,118,119,120,121,122,95,48,49,50,51,52,53,54,55,56,57]⟩ a ZaH Zl6 hle (by omega) (by decide);have HK0:Hid ((Zac (s.data.toList.drop a)).k≠0):=by show (Zac (s.data.toList.drop a)).k≠0;rw[h1];unfold ZaL;split<;>simp
    have HD0:Hid ((Zac (s.data.toList.drop a)).d=0):=by show (Zac (s.data.toList.drop a)).d=0;rw[h1]
    have hg:=HR.out.piece hlt (.inl HK0.out);have hnn:(Zac (s.data.toList.drop a)).n=Zad ZaH (s.data.toList.drop a):=by rw[h1]
    rw[hnn] at hg hst;obtain⟨b,hbb⟩:=eX (a+Zad ZaH (s.data.toList.drop a));have hex:s.extract a b=⟨((s.data.toList.drop a).take (Zad ZaH (s.data.toList.drop a))).toArray⟩:=by rw[ZdT,hbb,Nat.add_sub_cancel_left]
    have HTT:Hid (s.extract a b=⟨(Zac (s.data.toList.drop a)).t.toArray⟩):=by show s.extract a b=⟨(Zac (s.data.toList.drop a)).t.toArray⟩;rw[hex,h1]
    have hkk:((Zac (s.data.toList.drop a)).k:Int)=if Zbu (s.extract a b).data.toList then 2 else 1:=by
     rw[h1,hex,ZhL];simp only[ZaL];split<;>rfl
    simp only[←hbb] at hg hu hst;have hab:a<b:=by have:=hst.1;omega
    have hbs2:=hg.le;have HG:=Hd hg;have HU:=Hd hu;clear h1 hst hg hu hbb hnn hex h1s h35 hb;cases hw:Zbu (s.extract a b).data.toList with
    | true=>
     have HW:=Hd hw;have HKK:Hid ((2:Int)=((Zac (s.data.toList.drop a)).k:Int)):=by show (2:Int)=((Zac (s.data.toList.drop a)).k:Int);rw[hkk,hw];rfl
     clear hkk hw;go_wp2_with fail
     refine (ZbE _ _).mono ?_;rintro e w1 ⟨rfl,rfl⟩;rw[HB.out];go_wp2_with fail
     refine (ZbT _ _).mono ?_;rintro e w1 ⟨rfl,rfl⟩;rw[HS.out];go_wp2_with fail
     refine (HU.out _).mono ?_;rintro e w1 ⟨rfl,rfl⟩;go_wp2_with fail
     refine (Zh8 _ _).mono ?_;rintro e w1 ⟨rfl,b1⟩;rw[HW.out];have p0:=Zdl hr0 b1;have p1:=Zdl hr1 b1;have B1:=hB.trans (b1.mono hB.size);have hba1:∀o,w.heap.size≤(w1.alloc o).heap.size:=fun o=>by rw[World.size_alloc];have:=B1.size;omega
     go_wp2_with (first | (at_builtin;refine wpList_append_own _ rfl (.tmp 39) (.tmp 47) 90 rfl w.heap.size 96 i0 _ 3 32 Tryz.underlying90 hi hz0 hz1 hz2 rfl (by decide) _ _ _ rfl (p0.alloc _) ⟨w1.heap.size,0,none⟩ 1 1 [.int .i64 2,.int .i64 (a:Int),.string (s.extract a b)] rfl rfl (ZaP w1 _ _ _ 96) one3 hmx (by omega) (hba1 _) ?_;intro v' W5 hown5 hg5 hnil5;clear hnil5;obtain⟨g,cap,rfl⟩:=ownsRow_succ hown5))
     go_roundw
     case rel=>exact⟨pre++[⟨a,Zac (s.data.toList.drop a)⟩],b,by first | rfl | go_num,HG.out,ZcQ _ hown5 HK0.out HKK.out HTT.out,Zdk _ (Zar (p1.alloc _) (fun k c hk=>ZbK (p0.alloc _) hg5 hk (fun c fz h=>by cases h))) HD0.out,ZaY (B1.alloc B1.size _) (p0.alloc _) hg5⟩
     case measure=>simp[intOf];omega
    | false=>
     have HW:=Hd hw;have HKK:Hid ((1:Int)=((Zac (s.data.toList.drop a)).k:Int)):=by show (1:Int)=((Zac (s.data.toList.drop a)).k:Int);rw[hkk,hw];rfl
     clear hkk hw;go_wp2_with fail
     refine (ZbE _ _).mono ?_;rintro e w1 ⟨rfl,rfl⟩;rw[HB.out];go_wp2_with fail
     refine (ZbT _ _).mono ?_;rintro e w1 ⟨rfl,rfl⟩;rw[HS.out];go_wp2_with fail
     refine (HU.out _).mono ?_;rintro e w1 ⟨rfl,rfl⟩;go_wp2_with fail
     refine (Zh8 _ _).mono ?_;rintro e w1 ⟨rfl,b1⟩;rw[HW.out];have p0:=Zdl hr0 b1;have p1:=Zdl hr1 b1;have B1:=hB.trans (b1.mono hB.size);have hba1:∀o,w.heap.size≤(w1.alloc o).heap.size:=fun o=>by rw[World.size_alloc];have:=B1.size;omega
     go_wp2_with (first | (at_builtin;refine wpList_append_own _ rfl (.tmp 39) (.tmp 47) 90 rfl w.heap.size 96 i0 _ 3 32 Tryz.underlying90 hi hz0 hz1 hz2 rfl (by decide) _ _ _ rfl (p0.alloc _) ⟨w1.heap.size,0,none⟩ 1 1 [.int .i64 1,.int .i64 (a:Int),.string (s.extract a b)] rfl rfl (ZaP w1 _ _ _ 96) one3 hmx (by omega) (hba1 _) ?_;intro v' W5 hown5 hg5 hnil5;clear hnil5;obtain⟨g,cap,rfl⟩:=ownsRow_succ hown5))
     go_roundw
     case rel=>exact⟨pre++[⟨a,Zac (s.data.toList.drop a)⟩],b,by first | rfl | go_num,HG.out,ZcQ _ hown5 HK0.out HKK.out HTT.out,Zdk _ (Zar (p1.alloc _) (fun k c hk=>ZbK (p0.alloc _) hg5 hk (fun c fz h=>by cases h))) HD0.out,ZaY (B1.alloc B1.size _) (p0.alloc _) hg5⟩
     case measure=>simp[intOf];omega
   | false=>
   have HS:=Hd h1s;cases h2s:ZaD s[a] with
   | true=>
    have HDG:=Hd h2s;have h1:Zac (s.data.toList.drop a)=(if 18<Zad ZaD (s.data.toList.drop a) then ⟨Zad ZaD (s.data.toList.drop a),3,[48],13⟩ else ⟨Zad ZaD (s.data.toList.drop a),3,(s.data.toList.drop a).take (Zad ZaD (s.data.toList.drop a)),0⟩):=by rw[HD.out];exact Zj6 _ hb h35 h1s h2s
    have hu:=ZgB s ⟨#[48,49,50,51,52,53,54,55,56,57]⟩ a ZaD Zkc hle (by omega) (by decide);have HK3:Hid ((Zac (s.data.toList.drop a)).k=3):=by show (Zac (s.data.toList.drop a)).k=3;rw[h1];split<;>rfl
    have HK0:Hid ((Zac (s.data.toList.drop a)).k≠0):=by show (Zac (s.data.toList.drop a)).k≠0;rw[HK3.out];simp
    have HKK:Hid ((3:Int)=((Zac (s.data.toList.drop a)).k:Int)):=by show (3:Int)=((Zac (s.data.toList.drop a)).k:Int);rw[HK3.out];rfl
    have hg:=HR.out.piece hlt (.inl HK0.out);have hnn:(Zac (s.data.toList.drop a)).n=Zad ZaD (s.data.toList.drop a):=by rw[h1];split<;>rfl
    rw[hnn] at hg hst;obtain⟨b,hbb⟩:=eX (a+Zad ZaD (s.data.toList.drop a));have hex:s.extract a b=⟨((s.data.toList.drop a).take (Zad ZaD (s.data.toList.drop a))).toArray⟩:=by rw[ZdT,hbb,Nat.add_sub_cancel_left]
    by_cases h18:18<Zad ZaD (s.data.toList.drop a)
    ·rw[if_pos h18] at h1;have HTT:Hid ((⟨#[48]⟩:ByteArray)=⟨(Zac (s.data.toList.drop a)).t.toArray⟩):=by show (⟨#[48]⟩:ByteArray)=⟨(Zac (s.data.toList.drop a)).t.toArray⟩;rw[h1]
     have HD0:Hid ((Zac (s.data.toList.drop a)).d≠0):=by show (Zac (s.data.toList.drop a)).d≠0;rw[h1];simp
     have HDD:Hid ((13:Int)=((Zac (s.data.toList.drop a)).d:Int)):=by show (13:Int)=((Zac (s.data.toList.drop a)).d:Int);rw[h1];rfl
     simp only[←hbb] at hg hu hst;have hab:a+18<b:=by omega
     have hbs2:=hg.le;have HG:=Hd hg;have HU:=Hd hu;have k18:decide ((18:Int)<(b:Int)-(a:Int))=true:=by simp;omega
     have k18':(18:Int)<(b:Int)-(a:Int):=by omega
     clear h1 hst hg hu hbb hnn hex h1s h2s h35 hb h18;go_wp2_with fail
     refine (ZbE _ _).mono ?_;rintro e w1 ⟨rfl,rfl⟩;rw[HB.out];go_wp2_with fail
     refine (ZbT _ _).mono ?_;rintro e w1 ⟨rfl,rfl⟩;rw[HS.out];go_wp2_with fail
     refine (Zdw _ _).mono ?_;rintro e w1 ⟨rfl,rfl⟩;rw[HDG.out];go_wp2_with fail
     refine (HU.out _).mono ?_;rintro e w1 ⟨rfl,rfl⟩;go_wp2_with (first | (at_builtin;refine wpList_append_own _ rfl (.tmp 62) (.tmp 65) 54 rfl w.heap.size 192 j0 _ 3 32 Tryz.underlying54 hj hy0 hy1 hy2 rfl (by decide) _ _ _ rfl (hr1.alloc _) ⟨wr.heap.size,0,none⟩ 1 1 [.int .i64 (a:Int),.int .i64 13,.string ⟨#[]⟩] rfl rfl (ZaP wr _ _ _ 192) one3 hmy (by omega) (hba _) ?_;intro u' W7 hown7 hg7 hnil7;clear hnil7;obtain⟨g',cap',rfl⟩:=ownsRow_succ hown7;(have p0:=Zar (hr0.alloc (.cells #[.int .i64 (a:Int),.int .i64 13,.string ⟨#[]⟩] 192)) (fun k c hk=>ZbK (hr1.alloc _) hg7 hk (fun c fz h=>by cases h)));(have B7:=ZaY (hB.alloc hbs (.cells #[.int .i64 (a:Int),.int .i64 13,.string ⟨#[]⟩] 192)) (hr1.alloc _) hg7);(have hba7:∀o,w.heap.size≤(W7.alloc o).heap.size:=fun o=>by rw[World.size_alloc];have:=B7.size;omega)) | (at_builtin;refine wpList_append_own _ rfl (.tmp 67) (.tmp 71) 90 rfl w.heap.size 96 i0 _ 3 32 Tryz.underlying90 hi hz0 hz1 hz2 rfl (by decide) _ _ _ rfl (p0.alloc _) ⟨W7.heap.size,0,none⟩ 1 1 [.int .i64 3,.int .i64 (a:Int),.string ⟨#[48]⟩] rfl rfl (ZaP W7 _ _ _ 96) one3 hmx (by omega) (hba7 _) ?_;intro v' W5 hown5 hg5 hnil5;clear hnil5;obtain⟨g,cap,rfl⟩:=ownsRow_succ hown5))
     go_roundw
     case rel=>exact⟨pre++[⟨a,Zac (s.data.toList.drop a)⟩],b,by first | rfl | go_num,HG.out,ZcQ _ hown5 HK0.out HKK.out HTT.out,Zd4 _ (Zar (hown7.alloc _) (fun k c hk=>ZbK (p0.alloc _) hg5 hk (fun c fz h=>by cases h))) HD0.out HDD.out,ZaY (B7.alloc B7.size _) (p0.alloc _) hg5⟩
     case measure=>simp[intOf];omega
    ·rw[if_neg h18] at h1;have HTT:Hid (s.extract a b=⟨(Zac (s.data.toList.drop a)).t.toArray⟩):=by show s.extract a b=⟨(Zac (s.data.toList.drop a)).t.toArray⟩;rw[hex,h1]
     have HD0:Hid ((Zac (s.data.toList.drop a)).d=0):=by show (Zac (s.data.toList.drop a)).d=0;rw[h1]
     have hab0:=hst.1;simp only[←hbb] at hg hu hst;have hab:a<b:=by omega
     have hab2:b≤a+18:=by omega
     have hbs2:=hg.le;have HG:=Hd hg;have HU:=Hd hu;have k18:decide ((18:Int)<(b:Int)-(a:Int))=false:=by simp;omega
     have k18':¬(18:Int)<(b:Int)-(a:Int):=by omega
     clear h1 hst hg hu hbb hnn hex h1s h2s h35 hb h18 hab0;go_wp2_with fail
     refine (ZbE _ _).mono ?_;rintro e w1 ⟨rfl,rfl⟩;rw[HB.out];go_wp2_with fail
     refine (ZbT _ _).mono ?_;rintro e w1 ⟨rfl,rfl⟩;rw[HS.out];go_wp2_with fail
     refine (Zdw _ _).mono ?_;rintro e w1 ⟨rfl,rfl⟩;rw[HDG.out];go_wp2_with fail
     refine (HU.out _).mono ?_;rintro e w1 ⟨rfl,rfl⟩;go_wp2_with (first | (at_builtin;refine wpList_append_own _ rfl (.tmp 67) (.tmp 71) 90 rfl w.heap.size 96 i0 _ 3 32 Tryz.underlying90 hi hz0 hz1 hz2 rfl (by decide) _ _ _ rfl (hr0.alloc _) ⟨wr.heap.size,0,none⟩ 1 1 [.int .i64 3,.int .i64 (a:Int),.string (s.extract a b)] rfl rfl (ZaP wr _ _ _ 96) one3 hmx (by omega) (hba _) ?_;intro v' W5 hown5 hg5 hnil5;clear hnil5;obtain⟨g,cap,rfl⟩:=ownsRow_succ hown5))
     go_roundw
     case rel=>exact⟨pre++[⟨a,Zac (s.data.toList.drop a)⟩],b,by first | rfl | go_num,HG.out,ZcQ _ hown5 HK0.out HKK.out HTT.out,Zdk _ (Zar (hr1.alloc _) (fun k c hk=>ZbK (hr0.alloc _) hg5 hk (fun c fz h=>by cases h))) HD0.out,ZaY (hB.alloc hB.size _) (hr0.alloc _) hg5⟩
     case measure=>simp[intOf];omega
   | false=>
   have HDG:=Hd h2s;by_cases h34:s[a]=34
   ·have h34a:s[a].toNat=34:=by rw[h34];rfl
    have H34:=Hd h34a;have h1:Zac (s.data.toList.drop a)=(if (s.data.toList.drop (a+1))[Zad Zal (s.data.toList.drop (a+1))]?=some 34 then ⟨Zad Zal (s.data.toList.drop (a+1))+2,4,(s.data.toList.drop (a+1)).take (Zad Zal (s.data.toList.drop (a+1))),0⟩ else ⟨Zad Zal (s.data.toList.drop (a+1))+1,0,[],1⟩):=by rw[HD.out,h34,ZeP]
    have hu:=ZgC s ⟨#[34,10]⟩ (a+1) Zal Zl5 (by omega) (by omega) (by decide);have hsl:=Za1 Zal (s.data.toList.drop (a+1));rw[List.length_drop,←Lib.size_eq] at hsl;obtain⟨b,hbb⟩:=eX (a+1+Zad Zal (s.data.toList.drop (a+1)));have hgb:(s.data.toList.drop (a+1))[Zad Zal (s.data.toList.drop (a+1))]?=s.data.toList[b]?:=by rw[List.getElem?_drop,hbb]
    have hex:s.extract (a+1) b=⟨((s.data.toList.drop (a+1)).take (Zad Zal (s.data.toList.drop (a+1)))).toArray⟩:=by rw[ZdT,hbb,Nat.add_sub_cancel_left]
    simp only[←hbb] at hu;have hab:a+1≤b:=by omega
    have hbs2:b≤s.size:=by omega
    have hu2:∀w,Calls Tryz.prog 131 #[.string s,.int .i64 ((a:Int)+1),.string ⟨#[34,10]⟩] w fun e w'=>e=.returned (.int .i64 (b:Int))∧w=w':=fun w=>by
     have:=hu w;rw[show ((a+1:Nat):Int)=(a:Int)+1 by omega] at this;exact this
    have HU:=Hd hu2;rw[hgb] at h1;by_cases hq:s.data.toList[b]?=some 34
    ·have hbl:b<s.size:=by have:=(List.getElem?_eq_some_iff.1 hq).1;rw[←Lib.size_eq] at this;exact this
     have hqb:s[b].toNat=34:=by
      have:=ZcV hbl;rw[this] at hq;rw[Option.some.inj hq];rfl
     have HQB:=Hd hqb;rw[if_pos hq] at h1;have HK0:Hid ((Zac (s.data.toList.drop a)).k≠0):=by show (Zac (s.data.toList.drop a)).k≠0;rw[h1];simp
     have HKK:Hid ((4:Int)=((Zac (s.data.toList.drop a)).k:Int)):=by show (4:Int)=((Zac (s.data.toList.drop a)).k:Int);rw[h1];rfl
     have HD0:Hid ((Zac (s.data.toList.drop a)).d=0):=by show (Zac (s.data.toList.drop a)).d=0;rw[h1]
     have HTT:Hid (s.extract (a+1) b=⟨(Zac (s.data.toList.drop a)).t.toArray⟩):=by show s.extract (a+1) b=⟨(Zac (s.data.toList.drop a)).t.toArray⟩;rw[hex,h1]
     have HG:Hid (RefI s (pre++[⟨a,Zac (s.data.toList.drop a)⟩]) (b+1)):=by
      have:=HR.out.piece hlt (.inl HK0.out);have e:a+(Zac (s.data.toList.drop a)).n=b+1:=by rw[h1];simp only;omega
      rw[e] at this;exact this
     clear h1 hst hu hbb hgb hex h1s h2s h35 hb h34 h34a hq hqb hsl hu2;go_wp2_with fail
     refine (ZbE _ _).mono ?_;rintro e w1 ⟨rfl,rfl⟩;rw[HB.out];go_wp2_with fail
     refine (ZbT _ _).mono ?_;rintro e w1 ⟨rfl,rfl⟩;rw[HS.out];go_wp2_with fail
     refine (Zdw _ _).mono ?_;rintro e w1 ⟨rfl,rfl⟩;rw[HDG.out];have k34:((s[a].toNat:Int)==34)=true:=by have:=H34.out;simp;omega
     have k34':(s[a].toNat:Int)=34:=by have:=H34.out;omega
     go_wp2_with fail
     refine (HU.out _).mono ?_;rintro e w1 ⟨rfl,rfl⟩;clear k34 k34';have q1:((s[b].toNat:Int)==34)=true:=by have:=HQB.out;simp;omega
     have q2:(s[b].toNat:Int)=34:=by have:=HQB.out;omega
     go_wp2_with (first | (at_builtin;refine wpList_append_own _ rfl (.tmp 89) (.tmp 97) 90 rfl w.heap.size 96 i0 _ 3 32 Tryz.underlying90 hi hz0 hz1 hz2 rfl (by decide) _ _ _ rfl (hr0.alloc _) ⟨wr.heap.size,0,none⟩ 1 1 [.int .i64 4,.int .i64 (a:Int),.string (s.extract (a+1) b)] rfl rfl (ZaP wr _ _ _ 96) one3 hmx (by omega) (hba _) ?_;intro v' W5 hown5 hg5 hnil5;clear hnil5;obtain⟨g,cap,rfl⟩:=ownsRow_succ hown5))
     go_roundw
     case rel=>exact⟨pre++[⟨a,Zac (s.data.toList.drop a)⟩],b+1,by first | rfl | go_num,HG.out,ZcQ _ hown5 HK0.out HKK.out HTT.out,Zdk _ (Zar (hr1.alloc _) (fun k c hk=>ZbK (hr0.alloc _) hg5 hk (fun c fz h=>by cases h))) HD0.out,ZaY (hB.alloc hB.size _) (hr0.alloc _) hg5⟩
     case measure=>simp[intOf];omega
    ·have HNQ:Hid (∀h:b<s.size,s[b].toNat≠34):=by
      show ∀h:b<s.size,s[b].toNat≠34;intro h e;apply hq;rw[ZcV h];exact congrArg some (Zc5 e)
     rw[if_neg hq] at h1;have HK0:Hid ((Zac (s.data.toList.drop a)).k=0):=by show (Zac (s.data.toList.drop a)).k=0;rw[h1]
     have HD0:Hid ((Zac (s.data.toList.drop a)).d≠0):=by show (Zac (s.data.toList.drop a)).d≠0;rw[h1];simp
     have HDD:Hid ((1:Int)=((Zac (s.data.toList.drop a)).d:Int)):=by show (1:Int)=((Zac (s.data.toList.drop a)).d:Int);rw[h1];rfl
     have HG:Hid (RefI s (pre++[⟨a,Zac (s.data.toList.drop a)⟩]) b):=by
      have:=HR.out.piece hlt (.inr HD0.out);have e:a+(Zac (s.data.toList.drop a)).n=b:=by rw[h1];simp only;omega
      rw[e] at this;exact this
     clear h1 hst hu hbb hgb hex h1s h2s h35 hb h34 h34a hq hsl hu2;by_cases hbl:b<s.size
     ·have hnq:=HNQ.out hbl;go_wp2_with fail
      refine (ZbE _ _).mono ?_;rintro e w1 ⟨rfl,rfl⟩;rw[HB.out];go_wp2_with fail
      refine (ZbT _ _).mono ?_;rintro e w1 ⟨rfl,rfl⟩;rw[HS.out];go_wp2_with fail
      refine (Zdw _ _).mono ?_;rintro e w1 ⟨rfl,rfl⟩;rw[HDG.out];have k34:((s[a].toNat:Int)==34)=true:=by have:=H34.out;simp;omega
      have k34':(s[a].toNat:Int)=34:=by have:=H34.out;omega
      go_wp2_with fail
      refine (HU.out _).mono ?_;rintro e w1 ⟨rfl,rfl⟩;clear k34 k34';have q1:((s[b].toNat:Int)==34)=false:=by simp;omega
      have q2:¬(s[b].toNat:Int)=34:=by omega
      go_wp2_with (first | (at_builtin;refine wpList_append_own _ rfl (.tmp 101) (.tmp 104) 54 rfl w.heap.size 192 j0 _ 3 32 Tryz.underlying54 hj hy0 hy1 hy2 rfl (by decide) _ _ _ rfl (hr1.alloc _) ⟨wr.heap.size,0,none⟩ 1 1 [.int .i64 (a:Int),.int .i64 1,.string ⟨#[]⟩] rfl rfl (ZaP wr _ _ _ 192) one3 hmy (by omega) (hba _) ?_;intro u' W7 hown7 hg7 hnil7;clear hnil7;obtain⟨g',cap',rfl⟩:=ownsRow_succ hown7))
      go_roundw
      case rel=>exact⟨pre++[⟨a,Zac (s.data.toList.drop a)⟩],b,by first | rfl | go_num,HG.out,Zc9 _ (Zar (hr0.alloc _) (fun k c hk=>ZbK (hr1.alloc _) hg7 hk (fun c fz h=>by cases h))) HK0.out,Zd4 _ hown7 HD0.out HDD.out,ZaY (hB.alloc hB.size _) (hr1.alloc _) hg7⟩
      case measure=>simp[intOf];omega
     ·have hbe:b=s.size:=by omega
      have kb:decide ((b:Int)<(s.size:Int))=false:=by simp;omega
      have kb':decide (b<s.size)=false:=by simp;omega
      go_wp2_with fail
      refine (ZbE _ _).mono ?_;rintro e w1 ⟨rfl,rfl⟩;rw[HB.out];go_wp2_with fail
      refine (ZbT _ _).mono ?_;rintro e w1 ⟨rfl,rfl⟩;rw[HS.out];go_wp2_with fail
      refine (Zdw _ _).mono ?_;rintro e w1 ⟨rfl,rfl⟩;rw[HDG.out];have k34:((s[a].toNat:Int)==34)=true:=by have:=H34.out;simp;omega
      have k34':(s[a].toNat:Int)=34:=by have:=H34.out;omega
      go_wp2_with fail
      refine (HU.out _).mono ?_;rintro e w1 ⟨rfl,rfl⟩;clear k34 k34';go_wp2_with (first | (at_builtin;refine wpList_append_own _ rfl (.tmp 101) (.tmp 104) 54 rfl w.heap.size 192 j0 _ 3 32 Tryz.underlying54 hj hy0 hy1 hy2 rfl (by decide) _ _ _ rfl (hr1.alloc _) ⟨wr.heap.size,0,none⟩ 1 1 [.int .i64 (a:Int),.int .i64 1,.string ⟨#[]⟩] rfl rfl (ZaP wr _ _ _ 192) one3 hmy (by omega) (hba _) ?_;intro u' W7 hown7 hg7 hnil7;clear hnil7;obtain⟨g',cap',rfl⟩:=ownsRow_succ hown7))
      go_roundw
      case rel=>exact⟨pre++[⟨a,Zac (s.data.toList.drop a)⟩],b,by first | rfl | go_num,HG.out,Zc9 _ (Zar (hr0.alloc _) (fun k c hk=>ZbK (hr1.alloc _) hg7 hk (fun c fz h=>by cases h))) HK0.out,Zd4 _ hown7 HD0.out HDD.out,ZaY (hB.alloc hB.size _) (hr1.alloc _) hg7⟩
      case measure=>simp[intOf];omega
   have n34:s[a].toNat≠34:=fun e=>h34 (Zc5 e)
   have k34:((s[a].toNat:Int)==34)=false:=by simp;omega
   have k34':¬(s[a].toNat:Int)=34:=by omega
   clear n34;by_cases h45:s[a]=45∧(s.data.toList.drop (a+1)).head?=some 62
   ·obtain⟨h45a,h62⟩:=h45;have h45b:s[a].toNat=45:=by rw[h45a];rfl
    have H45:=Hd h45b;obtain⟨r,hX⟩:∃r,s.data.toList.drop (a+1)=62::r:=by
     cases hX:s.data.toList.drop (a+1) with
     | nil=>rw[hX] at h62;simp at h62
     | cons x r=>rw[hX] at h62;simp at h62;exact⟨r,by rw[h62]⟩
    have hlen:a+1<s.size:=by
     have:=congrArg List.length hX;rw[List.length_drop,←Lib.size_eq,lC] at this;omega
    have h62b:s[a+1].toNat=62:=by
     have:=Zb4 hlen;rw[hX] at this;have e:=(List.cons.inj this).1;rw[←e];rfl
    have H62:=Hd h62b;have h1:Zac (s.data.toList.drop a)=⟨2,5,[45,62],0⟩:=by rw[HD.out,h45a,hX,Zei]
    have HK0:Hid ((Zac (s.data.toList.drop a)).k≠0):=by show (Zac (s.data.toList.drop a)).k≠0;rw[h1];simp
    have HKK:Hid ((5:Int)=((Zac (s.data.toList.drop a)).k:Int)):=by show (5:Int)=((Zac (s.data.toList.drop a)).k:Int);rw[h1];rfl
    have HD0:Hid ((Zac (s.data.toList.drop a)).d=0):=by show (Zac (s.data.toList.drop a)).d=0;rw[h1]
    have HTT:Hid ((⟨#[45,62]⟩:ByteArray)=⟨(Zac (s.data.toList.drop a)).t.toArray⟩):=by show (⟨#[45,62]⟩:ByteArray)=⟨(Zac (s.data.toList.drop a)).t.toArray⟩;rw[h1]
    have HG:Hid (RefI s (pre++[⟨a,Zac (s.data.toList.drop a)⟩]) (a+1+1)):=by
     have:=HR.out.piece hlt (.inl HK0.out);have e:a+(Zac (s.data.toList.drop a)).n=a+1+1:=by rw[h1];rfl
     rw[e] at this;exact this
    clear h1 hst h1s h2s h35 hb h34 h45a h45b h62 hX h62b;go_wp2_with fail
    refine (ZbE _ _).mono ?_;rintro e w1 ⟨rfl,rfl⟩;rw[HB.out];go_wp2_with fail
    refine (ZbT _ _).mono ?_;rintro e w1 ⟨rfl,rfl⟩;rw[HS.out];go_wp2_with fail
    refine (Zdw _ _).mono ?_;rintro e w1 ⟨rfl,rfl⟩;rw[HDG.out];have k45:((s[a].toNat:Int)==45)=true:=by have:=H45.out;simp;omega
    have k45':(s[a].toNat:Int)=45:=by have:=H45.out;omega
    have k62:((s[a+1].toNat:Int)==62)=true:=by have:=H62.out;simp;omega
    have k62':(s[a+1].toNat:Int)=62:=by have:=H62.out;omega
    go_wp2_with (first | (at_builtin;refine wpList_append_own _ rfl (.tmp 122) (.tmp 125) 90 rfl w.heap.size 96 i0 _ 3 32 Tryz.underlying90 hi hz0 hz1 hz2 rfl (by decide) _ _ _ rfl (hr0.alloc _) ⟨wr.heap.size,0,none⟩ 1 1 [.int .i64 5,.int .i64 (a:Int),.string ⟨#[45,62]⟩] rfl rfl (ZaP wr _ _ _ 96) one3 hmx (by omega) (hba _) ?_;intro v' W5 hown5 hg5 hnil5;clear hnil5;obtain⟨g,cap,rfl⟩:=ownsRow_succ hown5))
    go_roundw
    case rel=>exact⟨pre++[⟨a,Zac (s.data.toList.drop a)⟩],a+1+1,by first | rfl | go_num,HG.out,ZcQ _ hown5 HK0.out HKK.out HTT.out,Zdk _ (Zar (hr1.alloc _) (fun k c hk=>ZbK (hr0.alloc _) hg5 hk (fun c fz h=>by cases h))) HD0.out,ZaY (hB.alloc hB.size _) (hr0.alloc _) hg5⟩
    case measure=>simp[intOf];omega
   have hna:∀h:a+1<s.size,s[a].toNat=45→s[a+1].toNat≠62:=by
    intro h e1 e2;apply h45;refine⟨Zc5 e1,?_⟩;rw[Zb4 h];exact congrArg some (Zc5 e2)
   have HNA:=Hd hna;clear hna;cases h6s:isSg s[a] with
   | true=>
    have HSG:=Hd h6s;have h1:Zac (s.data.toList.drop a)=⟨1,5,[s[a]],0⟩:=by rw[HD.out];exact Zj4 _ hb h35 h1s h2s h34 h45 h6s
    have n45:s[a].toNat≠45:=fun e=>(ZnY s[a] h6s).2.2.2.2.2 (Zc5 e)
    have HN45:=Hd n45;have hex:s.extract a (a+1)=⟨[s[a]].toArray⟩:=by rw[ZdT,Nat.add_sub_cancel_left,HD.out];rfl
    have HK0:Hid ((Zac (s.data.toList.drop a)).k≠0):=by show (Zac (s.data.toList.drop a)).k≠0;rw[h1];simp
    have HKK:Hid ((5:Int)=((Zac (s.data.toList.drop a)).k:Int)):=by show (5:Int)=((Zac (s.data.toList.drop a)).k:Int);rw[h1];rfl
    have HD0:Hid ((Zac (s.data.toList.drop a)).d=0):=by show (Zac (s.data.toList.drop a)).d=0;rw[h1]
    have HTT:Hid (s.extract a (a+1)=⟨(Zac (s.data.toList.drop a)).t.toArray⟩):=by show s.extract a (a+1)=⟨(Zac (s.data.toList.drop a)).t.toArray⟩;rw[hex,h1]
    have HG:Hid (RefI s (pre++[⟨a,Zac (s.data.toList.drop a)⟩]) (a+1)):=by
     have:=HR.out.piece hlt (.inl HK0.out);have e:a+(Zac (s.data.toList.drop a)).n=a+1:=by rw[h1]
     rw[e] at this;exact this
    clear h1 hst h1s h2s h35 hb h34 h45 h6s n45 hex;go_wp2_with fail
    refine (ZbE _ _).mono ?_;rintro e w1 ⟨rfl,rfl⟩;rw[HB.out];go_wp2_with fail
    refine (ZbT _ _).mono ?_;rintro e w1 ⟨rfl,rfl⟩;rw[HS.out];go_wp2_with fail
    refine (Zdw _ _).mono ?_;rintro e w1 ⟨rfl,rfl⟩;rw[HDG.out];have k45:((s[a].toNat:Int)==45)=false:=by have:=HN45.out;simp;omega
    have k45':¬(s[a].toNat:Int)=45:=by have:=HN45.out;omega
    go_wp2_with fail
    refine (ZoO _ _).mono ?_;rintro e w1 ⟨rfl,rfl⟩;rw[HSG.out];go_wp2_with (first | (at_builtin;refine wpList_append_own _ rfl (.tmp 129) (.tmp 136) 90 rfl w.heap.size 96 i0 _ 3 32 Tryz.underlying90 hi hz0 hz1 hz2 rfl (by decide) _ _ _ rfl (hr0.alloc _) ⟨wr.heap.size,0,none⟩ 1 1 [.int .i64 5,.int .i64 (a:Int),.string (s.extract a (a+1))] rfl rfl (ZaP wr _ _ _ 96) one3 hmx (by omega) (hba _) ?_;intro v' W5 hown5 hg5 hnil5;clear hnil5;obtain⟨g,cap,rfl⟩:=ownsRow_succ hown5))
    go_roundw
    case rel=>exact⟨pre++[⟨a,Zac (s.data.toList.drop a)⟩],a+1,by first | rfl | go_num,HG.out,ZcQ _ hown5 HK0.out HKK.out HTT.out,Zdk _ (Zar (hr1.alloc _) (fun k c hk=>ZbK (hr0.alloc _) hg5 hk (fun c fz h=>by cases h))) HD0.out,ZaY (hB.alloc hB.size _) (hr0.alloc _) hg5⟩
    case measure=>simp[intOf];omega
   | false=>
   have HSG:=Hd h6s;have h1:Zac (s.data.toList.drop a)=⟨1,0,[],1⟩:=by rw[HD.out];exact Zj5 _ hb h35 h1s h2s h34 h45 h6s
   have HK0:Hid ((Zac (s.data.toList.drop a)).k=0):=by show (Zac (s.data.toList.drop a)).k=0;rw[h1]
   have HD0:Hid ((Zac (s.data.toList.drop a)).d≠0):=by show (Zac (s.data.toList.drop a)).d≠0;rw[h1];simp
   have HDD:Hid ((1:Int)=((Zac (s.data.toList.drop a)).d:Int)):=by show (1:Int)=((Zac (s.data.toList.drop a)).d:Int);rw[h1];rfl
   have HG:Hid (RefI s (pre++[⟨a,Zac (s.data.toList.drop a)⟩]) (a+1)):=by
    have:=HR.out.piece hlt (.inr HD0.out);have e:a+(Zac (s.data.toList.drop a)).n=a+1:=by rw[h1]
    rw[e] at this;exact this
   clear h1 hst h1s h2s h35 hb h34 h45 h6s;by_cases n45:s[a].toNat=45
   ·by_cases hl2:a+1<s.size
    ·have n62:=HNA.out hl2 n45;have H45:=Hd n45;clear n45;go_wp2_with fail
     refine (ZbE _ _).mono ?_;rintro e w1 ⟨rfl,rfl⟩;rw[HB.out];go_wp2_with fail
     refine (ZbT _ _).mono ?_;rintro e w1 ⟨rfl,rfl⟩;rw[HS.out];go_wp2_with fail
     refine (Zdw _ _).mono ?_;rintro e w1 ⟨rfl,rfl⟩;rw[HDG.out];have k45:((s[a].toNat:Int)==45)=true:=by have:=H45.out;simp;omega
     have k45':(s[a].toNat:Int)=45:=by have:=H45.out;omega
     have k62:((s[a+1].toNat:Int)==62)=false:=by simp;omega
     have k62':¬(s[a+1].toNat:Int)=62:=by omega
     go_wp2_with fail
     refine (Zk6 s[a] H45.out _).mono ?_;rintro e w1 ⟨rfl,rfl⟩;go_wp2_with (first | (at_builtin;refine wpList_append_own _ rfl (.tmp 138) (.tmp 141) 54 rfl w.heap.size 192 j0 _ 3 32 Tryz.underlying54 hj hy0 hy1 hy2 rfl (by decide) _ _ _ rfl (hr1.alloc _) ⟨wr.heap.size,0,none⟩ 1 1 [.int .i64 (a:Int),.int .i64 1,.string ⟨#[]⟩] rfl rfl (ZaP wr _ _ _ 192) one3 hmy (by omega) (hba _) ?_;intro u' W7 hown7 hg7 hnil7;clear hnil7;obtain⟨g',cap',rfl⟩:=ownsRow_succ hown7))
     go_roundw
     case rel=>exact⟨pre++[⟨a,Zac (s.data.toList.drop a)⟩],a+1,by first | rfl | go_num,HG.out,Zc9 _ (Zar (hr0.alloc _) (fun k c hk=>ZbK (hr1.alloc _) hg7 hk (fun c fz h=>by cases h))) HK0.out,Zd4 _ hown7 HD0.out HDD.out,ZaY (hB.alloc hB.size _) (hr1.alloc _) hg7⟩
     case measure=>simp[intOf];omega
    ·have H45:=Hd n45;have kl:decide ((a:Int)+1<(s.size:Int))=false:=by simp;omega
     have kl':¬(a:Int)+1<(s.size:Int):=by omega
     clear n45;go_wp2_with fail
     refine (ZbE _ _).mono ?_;rintro e w1 ⟨rfl,rfl⟩;rw[HB.out];go_wp2_with fail
     refine (ZbT _ _).mono ?_;rintro e w1 ⟨rfl,rfl⟩;rw[HS.out];go_wp2_with fail
     refine (Zdw _ _).mono ?_;rintro e w1 ⟨rfl,rfl⟩;rw[HDG.out];have k45:((s[a].toNat:Int)==45)=true:=by have:=H45.out;simp;omega
     have k45':(s[a].toNat:Int)=45:=by have:=H45.out;omega
     go_wp2_with fail
     refine (Zk6 s[a] H45.out _).mono ?_;rintro e w1 ⟨rfl,rfl⟩;go_wp2_with (first | (at_builtin;refine wpList_append_own _ rfl (.tmp 138) (.tmp 141) 54 rfl w.heap.size 192 j0 _ 3 32 Tryz.underlying54 hj hy0 hy1 hy2 rfl (by decide) _ _ _ rfl (hr1.alloc _) ⟨wr.heap.size,0,none⟩ 1 1 [.int .i64 (a:Int),.int .i64 1,.string ⟨#[]⟩] rfl rfl (ZaP wr _ _ _ 192) one3 hmy (by omega) (hba _) ?_;intro u' W7 hown7 hg7 hnil7;clear hnil7;obtain⟨g',cap',rfl⟩:=ownsRow_succ hown7))
     go_roundw
     case rel=>exact⟨pre++[⟨a,Zac (s.data.toList.drop a)⟩],a+1,by first | rfl | go_num,HG.out,Zc9 _ (Zar (hr0.alloc _) (fun k c hk=>ZbK (hr1.alloc _) hg7 hk (fun c fz h=>by cases h))) HK0.out,Zd4 _ hown7 HD0.out HDD.out,ZaY (hB.alloc hB.size _) (hr1.alloc _) hg7⟩
     case measure=>simp[intOf];omega
   ·
    go_wp2_with fail
    refine (ZbE _ _).mono ?_;rintro e w1 ⟨rfl,rfl⟩;rw[HB.out];go_wp2_with fail
    refine (ZbT _ _).mono ?_;rintro e w1 ⟨rfl,rfl⟩;rw[HS.out];go_wp2_with fail
    refine (Zdw _ _).mono ?_;rintro e w1 ⟨rfl,rfl⟩;rw[HDG.out];have k45:((s[a].toNat:Int)==45)=false:=by simp;omega
    have k45':¬(s[a].toNat:Int)=45:=by omega
    go_wp2_with fail
    refine (ZoO _ _).mono ?_;rintro e w1 ⟨rfl,rfl⟩;rw[HSG.out];go_wp2_with (first | (at_builtin;refine wpList_append_own _ rfl (.tmp 138) (.tmp 141) 54 rfl w.heap.size 192 j0 _ 3 32 Tryz.underlying54 hj hy0 hy1 hy2 rfl (by decide) _ _ _ rfl (hr1.alloc _) ⟨wr.heap.size,0,none⟩ 1 1 [.int .i64 (a:Int),.int .i64 1,.string ⟨#[]⟩] rfl rfl (ZaP wr _ _ _ 192) one3 hmy (by omega) (hba _) ?_;intro u' W7 hown7 hg7 hnil7;clear hnil7;obtain⟨g',cap',rfl⟩:=ownsRow_succ hown7))
    go_roundw
    case rel=>exact⟨pre++[⟨a,Zac (s.data.toList.drop a)⟩],a+1,by first | rfl | go_num,HG.out,Zc9 _ (Zar (hr0.alloc _) (fun k c hk=>ZbK (hr1.alloc _) hg7 hk (fun c fz h=>by cases h))) HK0.out,Zd4 _ hown7 HD0.out HDD.out,ZaY (hB.alloc hB.size _) (hr1.alloc _) hg7⟩
    case measure=>simp[intOf];omega
  ·have hae:a=s.size:=by omega
   have hfin:Zaq 0 s.data.toList=pre:=by
    rw[HR.out.eq,List.drop_of_length_le (by rw[←Lib.size_eq];omega),Zcs,List.append_nil]
   have HF:=Hd hfin;clear hfin;subst hae;go_wp2_with (first | (at_builtin;refine wpList_append_own _ rfl (.tmp 144) (.tmp 148) 90 rfl w.heap.size 96 i0 _ 3 32 Tryz.underlying90 hi hz0 hz1 hz2 rfl (by decide) _ _ _ rfl (hr0.alloc _) ⟨wr.heap.size,0,none⟩ 1 1 [.int .i64 6,.int .i64 (s.size:Int),.string ⟨#[]⟩] rfl rfl (ZaP wr _ _ _ 96) one3 hmx (by omega) (hba _) ?_;intro v' W5 hown5 hg5 hnil5;clear hnil5;obtain⟨g,cap,rfl⟩:=ownsRow_succ hown5))
   go_ret2
   refine⟨_,_,rfl,?_,?_,?_⟩
   ·rw[HF.out,Zcf];exact hown5
   ·rw[HF.out];exact Zar (hr1.alloc _) (fun k c hk=>ZbK (hr0.alloc _) hg5 hk (fun c fz h=>by cases h))
   ·exact ZaY (hB.alloc hbs _) (hr0.alloc _) hg5
set_option maxRecDepth 20000
theorem Zg0{α:Type}{f:List Tk→R α}{g:Q→α×Q}(h:Rdr f g)(ts:List Tk)(told:List Dn):oneS g ts told.length=Zbj (ZbJ f ts) told:=by
 rw[one_is h];unfold ZjM Zbj ZbJ;cases hf:f ts with
 | bad y r d=>rw[R.bind_bad];split<;>rfl
 | ok x r d=>
  rw[R.bind_ok];by_cases hk:(hd r).k=6
  ·rw[if_pos hk];simp only[R.tell_ok,List.append_nil];cases told with
   | nil=>
    cases d with
    | nil=>simp[hk]
    | cons y d=>simp
   | cons y t=>simp
  ·rw[if_neg hk];cases d<;>(split<;>simp[R.tell,hk])
theorem retR{f:Func}{R:Ending→World→Prop}{a:Act}{w:World}{b:Nat}{u0 u1 u2 u3:Value}(hf:f.results=#[.cell 2 92])(ht:a.eval (.tmp 2)=.pointer (some ⟨b,0,none⟩))(hd:a.defers=[])
  (h:Fou w b 92 u0 u1 u2 u3) (hR:R (.returned (.agg #[u0,u1,u2,u3])) w):bodyPost Tryz.prog f R Exit.ret a w:=by
 obtain⟨⟨c0,c1,c2,c3⟩,-⟩:=Zae h;refine bodyPost_ret ?_ hd hR;simp[Act.eval] at ht;simp[results,hf,go_sem,c0,c1,c2,c3,ht]
theorem Zl9{f:Func}{R:Ending→World→Prop}{a:Act}{w:World}{b:Nat}{u0 u1 u2 u3 v:Value}(hf:f.results=#[.cell 2 31,.tmp 3])(ht:a.eval (.tmp 2)=.pointer (some ⟨b,0,none⟩))(hv:a.eval (.tmp 3)=v)(hd:a.defers=[])
  (h:Fou w b 31 u0 u1 u2 u3) (hR:R (.returned (.tuple #[.agg #[u0,u1,u2,u3],v])) w):bodyPost Tryz.prog f R Exit.ret a w:=by
 obtain⟨⟨c0,c1,c2,c3⟩,-⟩:=Zae h;refine bodyPost_ret ?_ hd hR;simp[Act.eval] at ht hv;simp[results,hf,go_sem,c0,c1,c2,c3,ht,hv]
theorem ZkR (s:ByteArray)(hs:s.size≤100000)(w:World) :
  Calls Tryz.prog 44 #[.string s] w fun e w'=>∃v u xs,e=.returned (.agg #[v,.int .i64 0,u,.bool false])∧w'.ownsRow 0 96 3 v (toks s.data.toList).length (Zbn (toks s.data.toList))∧w'.ownsRow w.heap.size 192 3 u (dns s.data.toList).length xs∧(∀b,v.ownBlock=some b→b<w'.heap.size)∧Below w.heap.size w w':=by
 obtain⟨W0,hW0⟩:=eY (w.alloc (.cells #[.slice none 0 0,.int .i64 0,.slice none 0 0,.bool false] 92));have HL:=Hd (Zn9 s hs W0);have HSZ:=Hd (Lib.size_eq s);have HA:=Hd (show Fou W0 w.heap.size 92 (.slice none 0 0) (.int .i64 0) (.slice none 0 0) (.bool false) by rw[←hW0];exact hN w _);have HB0:=Hd (show Below w.heap.size w W0 by rw[←hW0];exact (Below.refl _ _).alloc (nl _) _);have HS0:=Hd (show W0.heap.size=w.heap.size+1 by rw[←hW0];simp);have HW0:=Hd hW0;clear hs hW0;go_enter Tryz.func44,Tryz.ntmps44
 go_upto_region 1 with fail
 rw[HW0.out];go_wp2_with fail
 refine HL.out.mono ?_;rintro e W ⟨v,u,rfl,h1,h2,hb⟩;have ha:Fou W w.heap.size 92 _ _ _ _:=(hb.block _ (gE HA.out).1).trans HA.out;obtain⟨⟨d0,d1,d2,d3⟩,e0,e1,e2,e3⟩:=Zae ha;obtain⟨a0,c0,rfl⟩:=Zag h1;obtain⟨a1,c1,rfl⟩:=Zag h2;have H1:=Hd h1;have H2:=Hd h2;have HB:=Hd hb;have HAA:=Hd ha;obtain⟨n1,hn1⟩:=eX ((ZaG (Zaq 0 s.data.toList)).length+1);obtain⟨n2,hn2⟩:=eX ((Za2 (Zaq 0 s.data.toList)).length);rw[←hn1,←hn2];have HN1:=Hd hn1;have HN2:=Hd hn2;clear h1 h2 hb hn1 hn2 ha;go_wp2_with fail
 have hsz:(putL W w.heap.size [.slice a0 n1 c0,.int .i64 0,.slice a1 n2 c1,.bool false]).heap.size=W.heap.size:=(ZaW w.heap.size [.slice a0 n1 c0,.int .i64 0,.slice a1 n2 c1,.bool false] 0 W).2.2.2
 generalize hW':putL W w.heap.size [.slice a0 n1 c0,.int .i64 0,.slice a1 n2 c1,.bool false]=W' at hsz
 have HP:=Hd (show Fou W' w.heap.size 92 (.slice a0 n1 c0) (.int .i64 0) (.slice a1 n2 c1) (.bool false) by rw[←hW'];exact ZcA HAA.out _ _ _ _);have hfar:∀b,b≠w.heap.size→W'.heap[b]?=W.heap[b]?:=fun b hb=>by rw[←hW'];exact ZaS w.heap.size _ 0 W b hb
 have hbel:Below w.heap.size w W':=by rw[←hW'];exact Below.putL (HB0.out.trans (HB.out.mono HB0.out.size)) (nl _) _
 change bodyPost Tryz.prog _ _ _ _ (putL W w.heap.size [.slice a0 n1 c0,.int .i64 0,.slice a1 n2 c1,.bool false]);rw[hW'];refine retR rfl rfl rfl HP.out ⟨.slice a0 n1 c0,.slice a1 n2 c1,Zbv (Za2 (Zaq 0 s.data.toList)),rfl,?_,?_,?_,hbel⟩
 ·have:=H1.out;rw[←HN1.out] at this;have e1:(toks s.data.toList).length=n1:=by rw[HN1.out];simp[toks]
  rw[e1];have h3:ZaG (Zaq 0 s.data.toList)++[⟨6,s.size,[]⟩]=toks s.data.toList:=by rw[HSZ.out];rfl
  rw[h3] at this;have h4:=Zbc (S:=fun b=>b=w.heap.size) this (Nat.le_of_eq hsz.symm) (fun b _ hb=>hfar b hb) (fun b hb=>by have:=(this.lt b hb).1;have:=HS0.out;omega);refine⟨h4.1,?_⟩;rcases h4.2 with hn | ⟨g,cap,cur,hv,hb,hg,rest⟩
  ·exact .inl hn
  ·exact .inr ⟨g,cap,cur,hv,Nat.zero_le _,hg,rest⟩
 ·have:=H2.out;rw[←HN2.out] at this;have e1:(dns s.data.toList).length=n2:=by rw[HN2.out];simp[dns,told]
  rw[e1];have h4:=Zbc (S:=fun b=>b=w.heap.size) this (Nat.le_of_eq hsz.symm) (fun b _ hb=>hfar b hb) (fun b hb=>by have:=(this.lt b hb).1;have:=HS0.out;omega);refine⟨h4.1,?_⟩;rcases h4.2 with hn | ⟨g,cap,cur,hv,hb,hg,rest⟩
  ·exact .inl hn
  ·exact .inr ⟨g,cap,cur,hv,by have:=HS0.out;omega,hg,rest⟩
 ·intro b hb;rw[hsz];have:=H1.out;rw[←HN1.out] at this;exact (this.lt b hb).2
theorem ZiX (s:ByteArray)(hs:s.size≤100000)(w:World) :
  Calls Tryz.prog 11 #[.string s] w fun e w'=>Below w.heap.size w w'∧OptV (fun x cs=>IsCs (fun b=>w.heap.size≤b) w' (encT 31 x) cs) #[.int .i64 0,.string ⟨#[]⟩,.slice none 0 0,.slice none 0 0] (Zbj (ZbJ (typ 64) (toks s.data.toList)) (dns s.data.toList)) e:=by
 rw[←Zg0 (Zhv 64).1];obtain⟨W1,hW1⟩:=eY (zFou w);have HOF:=Hd (ZkR s hs W1);have a1:=zfou w;rw[hW1] at a1;have HA1:=Hd a1;have HB1:=Hd (show Below w.heap.size w W1 by rw[←hW1];exact (Below.refl _ _).alloc (nl _) _);have HS1:=Hd (show W1.heap.size=w.heap.size+1 by rw[←hW1];simp);have HW1:=Hd (show w.alloc (.cells #[.int .i64 0,.string ⟨#[]⟩,.slice none 0 0,.slice none 0 0] 31)=W1 from hW1);have HS:=Hd (show s.data.toList.length≤100000 by rw[Lib.size_eq] at hs;exact hs);have HTL:=Hd (Zco s.data.toList);have HDL:=Hd (show (dns s.data.toList).length≤s.data.toList.length by have:=Zdi s.data.toList;simpa[dns] using this);have HFIN:=Hd (show ∃p e,toks s.data.toList=p++[e]∧e.k=6 from⟨_,_,rfl,rfl⟩);obtain⟨all,hall⟩:=eX (toks s.data.toList);obtain⟨nd,hnd⟩:=eX ((dns s.data.toList).length);rw[←hall] at HOF HTL HFIN⊢;rw[←hnd] at HOF HDL⊢;obtain⟨out,hout⟩:=eX (oneS (qTyp 64) all nd);rw[←hout];have HOUT:=Hd hout;clear hs hW1 a1 hall hnd hout;go_enter Tryz.func11,Tryz.ntmps11
 go_upto_region 1 with fail
 rw[HW1.out];go_wp2_with fail
 refine HOF.out.mono ?_;rintro e w2 ⟨v,u,xs,rfl,r1,r2,hv,b2⟩;obtain⟨av,cv,rfl⟩:=Zag r1;obtain⟨au,cu,rfl⟩:=Zag r2;obtain⟨W3,hW3⟩:=eY (w2.alloc (.cells #[.slice av all.length cv,.int .i64 0,.slice au nd cu,.bool false] 92));have Q3:=Hd (show QS W1.heap.size 10000000 W3 w2.heap.size all ⟨all,nd,false⟩ by
  rw[←hW3];refine⟨b2.size,by have:=b2.size;simp;omega,HFIN.out,?_,?_,_,_,0,xs,hN w2 _,r1.alloc _,r2.alloc _,by simp,hv⟩
  ·have:=HTL.out;have:=HDL.out;have:=HS.out
   show nd+2*all.length+1≤10000000;omega
  ·have:=HTL.out;have:=HS.out;omega)
 have HW3:=Hd hW3;have HA3:=Hd (show Fou W3 w.heap.size 31 _ _ _ _ by rw[←hW3];exact Zab ((b2.block _ (gE HA1.out).1).trans HA1.out) _);have HB3:=Hd (show Below W1.heap.size W1 W3 by rw[←hW3];exact b2.alloc b2.size _);have HTY:=Hd (fun k n ns l s8 hp=>Zcg (Zf2 (nl _) 64 1 rfl).1 W3 _ Q3.out k n ns l s8 hp);obtain⟨⟨t,s8⟩,hu⟩:∃p,p=qTyp 64 ⟨all,nd,false⟩:=⟨_,rfl⟩;obtain⟨uk,un,uns,ul⟩:=t;have HT2:=Hd (HTY.out uk un uns ul s8 hu);have HON:=Hd (show out=if s8.bad=true∨(hd s8.ts).k≠6∨s8.nd≠0 then none else some (.mk uk un uns ul) by rw[HOUT.out,oneS,←hu]);clear r1 r2 hv b2 hW3 hu HOUT HTY;go_upto_region 2 with fail
 rw[HW3.out];go_wp2_with fail
 refine HT2.out.mono ?_;rintro e w4 ⟨a2',c2',a3',c3',rfl,f4,i4,q4⟩;obtain⟨W5,hW5⟩:=eY (w4.alloc (.cells #[.int .i64 uk,.string ⟨un.toArray⟩,.slice a2' uns.length c2',.slice a3' ul.length c3'] 31));have b5:Below w4.heap.size w4 W5:=by rw[←hW5];exact (Below.refl _ _).alloc (nl _) _
 have hX5:Fou W5 w4.heap.size 31 (.int .i64 uk) (.string ⟨un.toArray⟩) (.slice a2' uns.length c2') (.slice a3' ul.length c3'):=by rw[←hW5];exact hN w4 _
 have q5:=q4.below b5;have hA5:Fou W5 w.heap.size 31 _ _ _ _:=(f4.below b5).cells HA3.out (by decide);have HU5:=Hd ((i4.below b5).mono (A':=fun b=>w.heap.size<b) (fun b _ hb=>by have:=HB3.out.size;have:=HS1.out;omega));have HB5:=Hd (show Below w.heap.size w W5 from (HB1.out.trans (HB3.out.mono HB1.out.size)).trans (((f4.below b5).belows HB3.out.size).mono HB1.out.size));obtain⟨g,cap,i,vd,h6,hi,hbig,hg,c0,c1,c2,-⟩:=q5.first
 obtain⟨vt',vd',i',xs',k6,-,k8,-⟩:=q5.ex;rw[h6] at k6;simp only[Option.some.injEq,Obj.cells.injEq,Array.mk.injEq,List.cons.injEq,and_true] at k6;obtain⟨-,-,rfl,-⟩:=k6;obtain⟨ad,cd,rfl⟩:=Zag k8;obtain⟨⟨p0,p1,p2,p3⟩,-⟩:=Zae h6;obtain⟨⟨d0,d1,d2,d3⟩,e0,e1,e2,e3⟩:=Zae hA5;obtain⟨⟨z0,z1,z2,z3⟩,-⟩:=Zae hX5;have HA5:=Hd hA5;have HW5:=Hd hW5;obtain⟨kk,hkk⟩:=eX ((hd s8.ts).k);rw[←hkk] at c0 HON;obtain⟨n8,hn8⟩:=eX (s8.nd);rw[←hn8] at p2 HON;clear f4 i4 q4 hW5 b5 hX5 q5 hA5 h6 k8 c1 c2 hkk hn8 HT2;go_upto_region 3 with fail
 rw[HW5.out];cases hb8:s8.bad with
 | true=>
  rw[hb8] at p3;have HO2:=Hd (show out=none by rw[HON.out,hb8,if_pos (.inl rfl)]);clear hb8;go_wp2_with fail
  exact Zl9 rfl rfl rfl rfl (ZcA HA5.out (.int .i64 0) (.string ⟨#[]⟩) (.slice none 0 0) (.slice none 0 0)) ⟨Below.putL HB5.out (nl _) [.int .i64 0,.string ⟨#[]⟩,.slice none 0 0,.slice none 0 0],by rw[HO2.out];rfl⟩
 | false=>
  rw[hb8] at p3;rw[hb8] at HON;clear hb8;by_cases hk:kk=6
  ·have hk1:((kk:Int) !=6)=false:=by simp only[bne_eq_false_iff_eq];omega
   by_cases hn:n8=0
   ·have hn1:decide ((0:Int)<(n8:Int))=false:=dF (by omega);have hn2:decide (0<n8)=false:=dF (by omega);have HO2:=Hd (show out=some (.mk uk un uns ul) by rw[HON.out,hk,hn];simp);clear hk hn;go_wp2_with fail
    refine Zl9 rfl rfl rfl rfl (ZcA HA5.out (.int .i64 uk) (.string ⟨un.toArray⟩) (.slice a2' uns.length c2') (.slice a3' ul.length c3')) ⟨Below.putL HB5.out (nl _) [.int .i64 uk,.string ⟨un.toArray⟩,.slice a2' uns.length c2',.slice a3' ul.length c3'],?_⟩
    ·rw[HO2.out];exact⟨[.int .i64 uk,.string ⟨un.toArray⟩,.slice a2' uns.length c2',.slice a3' ul.length c3'],rfl,(HU5.out.putL w.heap.size (fun k hk=>Nat.ne_of_gt hk) [.int .i64 uk,.string ⟨un.toArray⟩,.slice a2' uns.length c2',.slice a3' ul.length c3']).mono (fun _ _ h=>Nat.le_of_lt h)⟩
   ·have hn1:decide ((0:Int)<(n8:Int))=true:=dT (by omega);have hn2:decide (0<n8)=true:=dT (by omega);have HO2:=Hd (show out=none by rw[HON.out,if_pos (.inr (.inr hn))]);clear hk hn;go_wp2_with fail
    exact Zl9 rfl rfl rfl rfl (ZcA HA5.out (.int .i64 0) (.string ⟨#[]⟩) (.slice none 0 0) (.slice none 0 0)) ⟨Below.putL HB5.out (nl _) [.int .i64 0,.string ⟨#[]⟩,.slice none 0 0,.slice none 0 0],by rw[HO2.out];rfl⟩
  ·have hk1:((kk:Int) !=6)=true:=by simp only[bne_iff_ne,ne_eq];omega
   have HO2:=Hd (show out=none by rw[HON.out,if_pos (.inr (.inl hk))]);clear hk;go_wp2_with fail
   exact Zl9 rfl rfl rfl rfl (ZcA HA5.out (.int .i64 0) (.string ⟨#[]⟩) (.slice none 0 0) (.slice none 0 0)) ⟨Below.putL HB5.out (nl _) [.int .i64 0,.string ⟨#[]⟩,.slice none 0 0,.slice none 0 0],by rw[HO2.out];rfl⟩
end Go.Proofs.YtijnjoonbjdafaaGreatDoor

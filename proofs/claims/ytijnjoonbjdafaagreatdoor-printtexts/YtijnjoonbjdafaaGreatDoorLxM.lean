import Derived.Test.YtijnjoonbjdafaaGreatDoorRows
import Derived.WalkKit
import Derived.WalkSpells
import Derived.WalkLawsBesides
import Derived.Maps.OwnSet
import Derived.Maps.OwnOps
import Derived.Maps.AppendAt
import Derived.Laws.OwnMore
import Derived.Laws.MakeOwn
import Derived.Lib.Hide
import Derived.Lib.Walk
import Derived.StillTailTactics
import Derived.Defers
import Derived.Recover
import Derived.BigRegion
import Derived.BigQuiet
import Derived.Deep.QuietTactic
import Derived.Handy
import Derived.Lib.Strings
import Derived.Lib.Bytealg
import Derived.Lib.BufferWrite
import Derived.Lib.UnsafeStr
import Derived.RangeFuncNested
import Derived.RangeFuncBound
import Derived.RangeFuncCalls
import Derived.RangeFuncLeaves
import Derived.RangeFuncFrom
import Derived.RangeFuncBox
import Derived.Shelf.Abstract
import Derived.Shelf.AbstractIn
import Derived.Shelf.RegionOpen
import Derived.OwnWalkIn
import Derived.TacticsInMore
import Derived.LoopNIn
import Derived.LoopIn
import Derived.Deep.RegionLaw
import Derived.Deep.AppendLies
import Derived.OneCell
namespace Go.Proofs.YtijnjoonbjdafaaGreatDoor
set_option maxHeartbeats 20000000
open Go.RowKit Go.Maps
structure Drawn (w w':World):Prop where
 heap:w'.heap=w.heap
 os:w'.os=w.os
 tape:w'.tape=w.tape
 output:w'.output=w.output
theorem str_ne{x s:ByteArray}(h:x≠s):(x.toList==s.toList)=false:=by
 rw[Bool.eq_false_iff];intro e;have e1:x.toList=s.toList:=by simpa using e
 rw[ByteArray.toList_eq,ByteArray.toList_eq] at e1;exact h (ByteArray.ext (Array.toList_inj.1 e1))
theorem Hd {p:Prop}(h:p):Hid p:=h
theorem gE {α:Type}{xs:Array α}{i:Nat}{a:α}(h:xs[i]?=some a):∃k:i<xs.size,xs[i]=a:=Array.getElem?_eq_some_iff.1 h
theorem nl (n:Nat):n≤n:=Nat.le_refl n
theorem lA {α:Type}{a b:List α}:(a++b).length=a.length+b.length:=List.length_append
theorem lC {α:Type}{a:α}{b:List α}:(a::b).length=b.length+1:=List.length_cons
theorem lN {α:Type}:([]:List α).length=0:=List.length_nil
theorem bF {α:Type}[DecidableEq α] {a b:α}(h:¬a=b):(a==b)=false:=by simpa using h
theorem dF {p:Prop}[Decidable p] (h:¬p):decide p=false:=decide_eq_false h
theorem eX {α:Type}(a:α):∃x,x=a:=⟨a,rfl⟩
theorem eY {α:Type}(a:α):∃x,a=x:=⟨a,rfl⟩
theorem aA {α:Type}(a b c:List α):a++b++c=a++(b++c):=List.append_assoc a b c
theorem cA {α:Type}{a:α}{b c:List α}:a::b++c=a::(b++c):=List.cons_append
theorem ff:(false=true)=False:=Bool.false_eq_true
theorem hN (w:World) (o:Obj):(w.alloc o).heap[w.heap.size]?=some o:=heap_alloc_new w o
theorem ll {n m k:Nat}(h:n<m) (k':m≤k):n<k:=Nat.lt_of_lt_of_le h k'
theorem aZ (n:Nat):n+0=n:=Nat.add_zero n
theorem dT {p:Prop}[Decidable p] (h:p):decide p=true:=decide_eq_true h
abbrev Bs:=List UInt8
def Zav (c:UInt8):Bool:=c.toNat==32 || c.toNat==9 || c.toNat==10 || c.toNat==13
def Za6 (c:UInt8):Bool:=c.toNat !=10
def Zal (c:UInt8):Bool:=c.toNat !=10&&c.toNat !=34
def ZaC (c:UInt8):Bool:=decide (97≤c.toNat)&&decide (c.toNat≤122) || c.toNat==95
def ZaD (c:UInt8):Bool:=decide (48≤c.toNat)&&decide (c.toNat≤57)
def ZaH (c:UInt8):Bool:=ZaC c || ZaD c
def isSg (c:UInt8):Bool:=[61,58,59,44,46,40,41,123,125,124,63].contains c
def words:List Bs:=[[117,115,101],[116,121,112,101],[108,101,116],[105,110],[105,102],[116,104,101,110],[101,108,115,101],[102,117,110],[116,114,117,101],[102,97,108,115,101],[105,110,116],[98,111,111,108],[116,101,120,116]]
def Zbu (s:Bs):Bool:=words.contains s
def Zad (p:UInt8→Bool):Bs→Nat
 | []=>0
 | c::r=>if p c then Zad p r+1 else 0
theorem Za1 (p:UInt8→Bool):∀l,Zad p l≤l.length
 | []=>Nat.le_refl _
 | c::r=>by
  have:=Za1 p r;simp only[Zad,List.length_cons];split<;>omega
theorem Zb9 (p:UInt8→Bool):∀(l:Bs) (i:Nat),i<Zad p l→∃c,l[i]?=some c∧p c=true
 | [],i,h=>by simp[Zad] at h
 | c::r,i,h=>by
  simp only[Zad] at h;split at h
  ·rename_i hc;cases i with
   | zero=>exact⟨c,rfl,hc⟩
   | succ i=>exact Zb9 p r i (by omega)
  ·omega
theorem Zcw (p:UInt8→Bool):∀(l:Bs) (c:UInt8),l[Zad p l]?=some c→p c=false
 | [],c,h=>by simp at h
 | x::r,c,h=>by
  simp only[Zad] at h;split at h
  ·rename_i hx;exact Zcw p r c (by simpa using h)
  ·rename_i hx;simp at h;subst h
   simpa using hx
structure Step where
 n:Nat
 k:Nat
 t:Bs
 d:Nat
def ZaL (s:Bs):Nat:=if Zbu s then 2 else 1
def Zac:Bs→Step
 | []=>⟨0,0,[],0⟩
 | c::r=>
  if Zav c then ⟨1,0,[],0⟩
  else if c=35 then ⟨Zad Za6 (c::r),0,[],0⟩
  else if ZaC c then ⟨Zad ZaH (c::r),ZaL ((c::r).take (Zad ZaH (c::r))),(c::r).take (Zad ZaH (c::r)),0⟩
  else if ZaD c then (if 18<Zad ZaD (c::r) then ⟨Zad ZaD (c::r),3,[48],13⟩ else ⟨Zad ZaD (c::r),3,(c::r).take (Zad ZaD (c::r)),0⟩)
  else if c=34 then (if r[Zad Zal r]?=some 34 then ⟨Zad Zal r+2,4,r.take (Zad Zal r),0⟩ else ⟨Zad Zal r+1,0,[],1⟩)
  else if c=45∧r.head?=some 62 then ⟨2,5,[45,62],0⟩
  else if isSg c then ⟨1,5,[c],0⟩
  else ⟨1,0,[],1⟩
theorem Zfw{c:UInt8}(h:ZaC c=true):ZaH c=true:=by simp[ZaH,h]
theorem Zcv{p:UInt8→Bool}{c:UInt8}(r:Bs)(h:p c=true):1≤Zad p (c::r):=by simp[Zad,h]
theorem Zhc:Za6 35=true:=by decide
theorem ZbS:∀l:Bs,l≠[]→1≤(Zac l).n∧(Zac l).n≤l.length
 | [],h=>absurd rfl h
 | c::r,_=>by
  simp only[Zac];split
  ·simp
  split
  ·rename_i h;subst h;exact⟨Zcv r Zhc,Za1 _ _⟩
  split
  ·rename_i h;exact⟨Zcv r (Zfw h),Za1 _ _⟩
  split
  ·rename_i h;split<;>exact⟨Zcv r h,Za1 _ _⟩
  split
  ·have h1:=Za1 Zal r;split
   ·rename_i h2;have:=(List.getElem?_eq_some_iff.1 h2).1;simp only[List.length_cons];omega
   ·simp only[List.length_cons];omega
  split
  ·rename_i h;cases r with
   | nil=>simp at h
   | cons x r=>simp
  split<;>simp
structure Pc where
 at_:Nat
 s:Step
def pcs (at_:Nat)(l:Bs):List Pc:=
 if _h:l=[] then [] else ⟨at_,Zac l⟩::pcs (at_+(Zac l).n) (l.drop (Zac l).n)
termination_by l.length
decreasing_by
 have:=ZbS l (by assumption);simp only[List.length_drop];omega
theorem Zcx (a:Nat):pcs a []=[]:=by rw[pcs];simp
theorem ZcR (a:Nat)(l:Bs)(h:l≠[]):pcs a l=⟨a,Zac l⟩::pcs (a+(Zac l).n) (l.drop (Zac l).n):=by rw[pcs];simp[h]
def Pc.isPiece (p:Pc):Bool:=p.s.k !=0 || p.s.d !=0
def Zaq (a:Nat)(l:Bs):List Pc:=(pcs a l).filter Pc.isPiece
theorem Zcs (a:Nat):Zaq a []=[]:=by simp[Zaq,Zcx]
theorem ZbA (a:Nat)(l:Bs)(h:l≠[])(h1:(Zac l).k=0)(h2:(Zac l).d=0):Zaq a l=Zaq (a+(Zac l).n) (l.drop (Zac l).n):=by
 simp[Zaq,ZcR a l h,Pc.isPiece,h1,h2]
theorem Zbf (a:Nat)(l:Bs)(h:l≠[])(h1:(Zac l).k≠0∨(Zac l).d≠0):Zaq a l=⟨a,Zac l⟩::Zaq (a+(Zac l).n) (l.drop (Zac l).n):=by
 have:Pc.isPiece ⟨a,Zac l⟩=true:=by
  simp[Pc.isPiece];rcases h1 with h1 | h1<;>simp[h1]
 simp[Zaq,ZcR a l h,this]
theorem ZcK (c:UInt8)(r:Bs):(Zav c=true∨c=35)→(Zac (c::r)).k=0∧(Zac (c::r)).d=0:=by
 intro h;simp only[Zac];split
 ·simp
 ·split
  ·simp
  ·rename_i h1 h2;rcases h with h | h
   ·exact absurd h h1
   ·exact absurd h h2
theorem ZgJ (c:UInt8)(r:Bs)(h1:Zav c=false)(h2:c≠35):(Zac (c::r)).k≠0∨(Zac (c::r)).d≠0:=by
 simp only[Zac,h1,h2,if_false,Bool.false_eq_true];split
 ·left;simp only[ZaL];split<;>simp
 split
 ·split<;>simp
 split
 ·split<;>simp
 split
 ·simp
 split<;>simp
theorem Zf6 (a:Nat):∀l:Bs,Zaq a l=Zaq (a+Zad Zav l) (l.drop (Zad Zav l)):=by
 intro l
 induction l generalizing a with
 | nil=>simp[Zad]
 | cons c r ih=>
  simp only[Zad];split
  ·rename_i hc;rw[ZbA a (c::r) (by simp) (ZcK c r (.inl hc)).1 (ZcK c r (.inl hc)).2];have e:(Zac (c::r)).n=1:=by simp[Zac,hc]
   rw[e,List.drop_succ_cons,List.drop_zero,ih (a+1),List.drop_succ_cons,Nat.add_right_comm,←Nat.add_assoc]
  ·simp
theorem Zf5 (a:Nat)(r:Bs):Zaq a (35::r)=Zaq (a+Zad Za6 (35::r)) ((35::r).drop (Zad Za6 (35::r))):=by
 have h:=ZcK 35 r (.inr rfl);rw[ZbA a (35::r) (by simp) h.1 h.2];have e:(Zac (35::r)).n=Zad Za6 (35::r):=by
  have:Zav 35=false:=by decide
  simp only[Zac,this,Bool.false_eq_true,if_false,if_true]
 rw[e]
set_option maxRecDepth 20000
open Go.RowKit
theorem Zer{x y:Bool}(h:x=y):Ending.returned (.bool x)=.returned (.bool y):=by rw[h]
theorem Zba (c:UInt8)(w:World):Calls Tryz.prog 203 #[.int .u8 (c.toNat:Int)] w fun e w'=>e=.returned (.bool (ZaC c))∧w=w':=by
 go_enter Tryz.func203,Tryz.ntmps203
 go_wp2
 all_goals
  go_ret
  refine⟨Zer (Bool.eq_iff_iff.2 ?_),rfl⟩;simp[ZaC]
  try omega
theorem ZhS (c:UInt8)(w:World):Calls Tryz.prog 201 #[.int .u8 (c.toNat:Int)] w fun e w'=>e=.returned (.bool (Zav c))∧w=w':=by
 go_enter Tryz.func201,Tryz.ntmps201
 go_wp2
 all_goals
  go_ret
  refine⟨Zer (Bool.eq_iff_iff.2 ?_),rfl⟩;simp[Zav]
  try omega
theorem ZbV (c:UInt8)(w:World):Calls Tryz.prog 205 #[.int .u8 (c.toNat:Int)] w fun e w'=>e=.returned (.bool (ZaD c))∧w=w':=by
 go_enter Tryz.func205,Tryz.ntmps205
 go_wp2
 all_goals
  go_ret
  refine⟨Zer (Bool.eq_iff_iff.2 ?_),rfl⟩;simp[ZaD]
  try omega
theorem Zdb (c:UInt8)(w:World):Calls Tryz.prog 202 #[.int .u8 (c.toNat:Int)] w fun e w'=>e=.returned (.bool (Za6 c))∧w=w':=by
 go_enter Tryz.func202,Tryz.ntmps202
 go_wp2
 all_goals
  go_ret
  refine⟨Zer (Bool.eq_iff_iff.2 ?_),rfl⟩;simp[Za6]
  try omega
theorem Zc6 (p:UInt8→Bool)(h:(List.range 256).all (fun n=>p n.toUInt8)=true)(c:UInt8):p c=true:=by
 have:=List.all_eq_true.1 h c.toNat (List.mem_range.2 c.toNat_lt)
 simpa using this
theorem ix48 (s:ByteArray)(c:Int)(w:World):(callFunc 254 #[.string s,.int .u8 c]).run Tryz.prog w=.ok (.value (.int .i64 (Lib.indexByte s.data.toList c.toNat.toUInt8))) w:=by
 rw[run_callFunc_extern Tryz.func254 (by kernel_rfl) (by kernel_rfl) (by kernel_rfl) (e:=Extern.BytealgIndexByte.indexByte) (by kernel_rfl),Lib.run_indexByteString];rfl
theorem Zl4 (c:UInt8):decide (0≤Lib.indexByte [61,58,59,44,46,40,41,123,125,124,63] c)=isSg c:=by
 have:=Zc6 (fun c=>decide (0≤Lib.indexByte [61,58,59,44,46,40,41,123,125,124,63] c)==isSg c) (by decide +kernel) c
 simpa using this
theorem ZfI (c:UInt8)(w:World):Calls Tryz.prog 210 #[.int .u8 (c.toNat:Int)] w fun e w'=>e=.returned (.bool (isSg c))∧w=w':=by
 have hx:=ix48 ⟨#[61,58,59,44,46,40,41,123,125,124,63]⟩ (c.toNat:Int);have he:=Zl4 c;go_enter Tryz.func210,Tryz.ntmps210
 go_wp2
 go_ret
 exact⟨rfl,rfl⟩
theorem ZhX (s p:ByteArray)(w:World):Calls Tryz.prog 227 #[.string s,.string p] w fun e w'=>e=.returned (.bool (Lib.hasPrefix s.data.toList p.data.toList))∧w=w':=by
 have h:=Lib.hasPrefix_raw s p;by_cases hp:p.size≤s.size
 ·go_enter Tryz.func227,Tryz.ntmps227
  go_wp2
  go_ret
  refine⟨?_,rfl⟩;rw[←h];simp[hp]
 ·go_enter Tryz.func227,Tryz.ntmps227
  go_wp2
  go_ret
  refine⟨?_,rfl⟩;rw[←h];simp[hp]
theorem ZcU (s p:ByteArray)(w:World):Calls Tryz.prog 208 #[.string s,.string p] w fun e w'=>e=.returned (.bool (Lib.hasPrefix s.data.toList p.data.toList))∧w=w':=by
 go_enter Tryz.func208,Tryz.ntmps208
 go_wp2_with (go_at_call 227;refine (ZhX _ _ _).mono ?_;rintro e w' ⟨rfl,rfl⟩)
 go_ret
 exact⟨rfl,rfl⟩
def ZaN (k a:Int)(t:ByteArray)(e d:Int):Value:=.agg #[.int .i64 k,.int .i64 a,.string t,.int .i64 e,.int .i64 d]
theorem ZcP (k:Int)(s:ByteArray)(a b:Nat)(hab:a≤b)(hb:b≤s.size)(w:World) :
  Calls Tryz.prog 209 #[.int .i64 k,.string s,.int .i64 a,.int .i64 b] w fun e w'=>e=.returned (ZaN k a (s.extract a b) b 0)∧Below w.heap.size w w':=by
 have hB:∀o,Below w.heap.size w (w.alloc o):=fun o=>(Below.refl _ w).alloc (nl _) o
 go_enter Tryz.func209,Tryz.ntmps209
 go_wp2
 go_returns
 exact⟨rfl,hB _⟩
theorem ZcT (a b:Nat)(w:World) :
  Calls Tryz.prog 211 #[.int .i64 a,.int .i64 b] w fun e w'=>e=.returned (ZaN 0 a ⟨#[]⟩ b 1)∧Below w.heap.size w w':=by
 have hB:∀o,Below w.heap.size w (w.alloc o):=fun o=>(Below.refl _ w).alloc (nl _) o
 go_enter Tryz.func211,Tryz.ntmps211
 go_wp2
 go_returns
 exact⟨rfl,hB _⟩
theorem Zfo (c:UInt8)(w:World):Calls Tryz.prog 224 #[.int .u8 (c.toNat:Int)] w fun e w'=>e=.returned (.bool (ZaH c))∧w=w':=by
 have h:ZaH c=(ZaC c || ZaD c):=rfl;cases h1:ZaC c with
 | true=>
  rw[h,h1];have H1:=Hd h1;clear h h1;go_enter Tryz.func224,Tryz.ntmps224
  go_wp2_with (go_at_call 203;refine (Zba _ _).mono ?_;rintro e w' ⟨rfl,rfl⟩;rw[H1.out])
  go_ret
  exact⟨rfl,rfl⟩
 | false=>
  rw[h,h1];have H1:=Hd h1;clear h h1;go_enter Tryz.func224,Tryz.ntmps224
  go_wp2_with (first | (go_at_call 203;refine (Zba _ _).mono ?_;rintro e w' ⟨rfl,rfl⟩;rw[H1.out]) | (go_at_call 205;refine (ZbV _ _).mono ?_;rintro e w' ⟨rfl,rfl⟩))
  go_ret
  exact⟨rfl,rfl⟩
theorem Zha (c:UInt8)(w:World):Calls Tryz.prog 226 #[.int .u8 (c.toNat:Int)] w fun e w'=>e=.returned (.bool (Zal c))∧w=w':=by
 cases h1:Za6 c with
 | true=>
  have h:Zal c=!((c.toNat:Int)==34):=by
   rw[Bool.eq_iff_iff];simp[Zal,Za6] at h1⊢;omega
  rw[h];have H1:=Hd h1;clear h h1;go_enter Tryz.func226,Tryz.ntmps226
  go_wp2_with (go_at_call 202;refine (Zdb _ _).mono ?_;rintro e w' ⟨rfl,rfl⟩;rw[H1.out])
  go_ret
  exact⟨rfl,rfl⟩
 | false=>
  have h:Zal c=false:=by
   simp[Zal,Za6] at h1⊢;omega
  rw[h];have H1:=Hd h1;clear h h1;go_enter Tryz.func226,Tryz.ntmps226
  go_wp2_with (go_at_call 202;refine (Zdb _ _).mono ?_;rintro e w' ⟨rfl,rfl⟩;rw[H1.out])
  go_ret
  exact⟨rfl,rfl⟩
theorem ZfH (s:ByteArray)(w:World):Calls Tryz.prog 225 #[.string s] w fun e w'=>e=.returned (.bool (Zbu s.data.toList))∧w=w':=by
 cases hw:Zbu s.data.toList with
 | true=>
  have hm:s.data.toList∈words:=by simpa[Zbu] using hw
  obtain⟨⟨l⟩⟩:=s;simp only[words,List.mem_cons,List.not_mem_nil,or_false] at hm;clear hw;rcases hm with rfl | rfl | rfl | rfl | rfl | rfl | rfl | rfl | rfl | rfl | rfl | rfl | rfl
  all_goals
   go_enter Tryz.func225,Tryz.ntmps225
   go_wp2
   go_ret
   exact⟨rfl,rfl⟩
 | false=>
  have hn:∀x∈words,(s.toList==x)=false:=by
   intro x hx;rw[Bool.eq_false_iff];intro e;have e1:s.data.toList=x:=by rw[←Lib.toList_data];simpa using e
   have:Zbu s.data.toList=true:=by simp[Zbu,e1,hx]
   rw[hw] at this;cases this
  clear hw;have n0:=hn [117,115,101] (by simp[words]);have n1:=hn [116,121,112,101] (by simp[words]);have n2:=hn [108,101,116] (by simp[words]);have n3:=hn [105,110] (by simp[words]);have n4:=hn [105,102] (by simp[words]);have n5:=hn [116,104,101,110] (by simp[words]);have n6:=hn [101,108,115,101] (by simp[words]);have n7:=hn [102,117,110] (by simp[words]);have n8:=hn [116,114,117,101] (by simp[words]);have n9:=hn [102,97,108,115,101] (by simp[words]);have n10:=hn [105,110,116] (by simp[words]);have n11:=hn [98,111,111,108] (by simp[words]);have n12:=hn [116,101,120,116] (by simp[words]);clear hn;go_enter Tryz.func225,Tryz.ntmps225
  go_wp2
  go_ret
  exact⟨rfl,rfl⟩
theorem info5:(Tryz.prog.info? 5).map (fun i=>(i.zero,i.size,i.bytes))=some (some (.int .u8 0),1,1):=by kernel_rfl
theorem Zlz (s:ByteArray)(w:World)(hlim:s.size≤281474976710656) :
  Calls Tryz.prog 174 #[.string s] w fun e w'=>e=.returned (.string s)∧Below w.heap.size w w':=by
 by_cases h0:s.size=0
 ·have hs:s=⟨#[]⟩:=by
   apply ByteArray.ext;exact Array.eq_empty_of_size_eq_zero h0
  subst hs;go_enter Tryz.func174,Tryz.ntmps174
  go_wp2
  go_ret
  exact⟨rfl,Below.refl _ _⟩
 ·obtain⟨i0,hi,hz0,hz1,hz2⟩:=info_parts info5;have hinfo:(Tryz.prog.info? 5).map (·.size)=some 1:=by rw[hi];simp[hz1]
  have hco:Tryz.prog.cellsOf 5=1:=by simp[Program.cellsOf,hi,hz1]
  obtain⟨M,hM⟩:=eX (madeCells (Value.int .u8 0).cells (((s.size:Nat):Int).toNat*i0.size));have hMs:M.size=s.size:=by rw[hM,size_madeCells,hz1];simp
  have hmk:∀W:World,(Instr.makeSlice 81 (.int .i64 (s.size:Int)) (.int .i64 (s.size:Int))).run Tryz.prog W=.ok (.slice (some ⟨W.heap.size,0,none⟩) s.size s.size) (W.alloc (.cells M 5)):=fun W=>by
   have h:=run_make (P:=Tryz.prog) W 81 5 i0 (.int .u8 0) Tryz.underlying81 hi hz0 .i64 .i64 (s.size:Int) (s.size:Int) (by omega) (by omega) (by rw[hz2];omega) (by omega);rw[←hM] at h
   simpa using h
  clear hM;have hcp:=Lib.run_copy_row_string (P:=Tryz.prog) (w.alloc (.cells M 5)) 81 9 3 5 w.heap.size 0 s.size s.size s M 5 Tryz.underlying81 hinfo (hN w _) (nl _) (by omega);obtain⟨Y,hY⟩:=eX ((M.toList.take 0++Lib.byteCells s.data.toList++M.toList.drop (0+s.size)).toArray);rw[←hY] at hcp;have hYl:Y.toList=Lib.byteCells s.data.toList:=by
   rw[hY,List.toList_toArray,List.take_zero,List.nil_append,List.drop_of_length_le (by rw[Array.length_toList];omega),List.append_nil]
  have hYs:Y.size=s.size:=by rw[←Array.length_toList,hYl,Lib.byteCells_length,←Lib.size_eq]
  have hgY:((w.alloc (.cells M 5)).setRow w.heap.size Y).heap[w.heap.size]?=some (.cells Y 5 (0,0)):=setRow_heap _ _ M _ 5 (0,0) (hN w _);have hne:s.data.toList≠[]:=fun e=>h0 (by rw[Lib.size_eq,e];rfl)
  have hUS:=Lib.run_unsafeString_row (P:=Tryz.prog) ((w.alloc (.cells M 5)).setRow w.heap.size Y) 173 3 9 5 Tryz.underlying173 hco w.heap.size Y.size (by unfold World.shape?;rw[hgY]) s.data.toList hne (by rw[←Lib.size_eq];omega) (by rw[←Lib.size_eq];omega)
   (fun j x hx=>Lib.cells_of_row hgY Y.size j _ (by rw[List.take_of_length_le (by rw[Array.length_toList];exact nl _),hYl];simp[Lib.byteCells,hx]))
  rw[←Lib.size_eq] at hUS;clear hY;go_enter Tryz.func174,Tryz.ntmps174
  go_wp2
  go_ret
  have hb1:Below w.heap.size w (w.alloc (.cells M 5)):=(Below.refl _ w).alloc (nl _) _;have hb2:Below w.heap.size (w.alloc (.cells M 5)) ((w.alloc (.cells M 5)).setRow w.heap.size Y):=⟨rfl,rfl,rfl,by simp,fun k hk=>setRow_other _ _ _ _ (by omega)⟩;exact⟨rfl,Lib.below_freeze (hb1.trans hb2) (p:=⟨w.heap.size,0,none⟩) (nl _) _⟩
theorem ZdM (s:ByteArray)(w:World)(hlim:s.size≤281474976710656) :
  Calls Tryz.prog 141 #[.string s] w fun e w'=>e=.returned (.string s)∧Below w.heap.size w w':=by
 go_enter Tryz.func141,Tryz.ntmps141
 go_wp2_with (go_at_call 174;refine (Zlz _ _ hlim).mono ?_;rintro e w' ⟨rfl,hb⟩)
 go_ret
 exact⟨rfl,hb⟩
open Go.RowKit Go.Shelf
attribute [local go_sem] Oper.semAt_some
structure Kr (n₀ Bs:Nat)(W W':World):Prop where
 below:Below n₀ W W'
 box:∀i,Bs≤i→i<Bs+3→W'.heap[i]?=W.heap[i]?
theorem Kr.refl (n₀ Bs:Nat)(W:World):Kr n₀ Bs W W:=⟨Below.refl _ _,fun _ _ _=>rfl⟩
theorem Kr.trans{n₀ Bs:Nat}{A B C:World}(h:Kr n₀ Bs A B)(k:Kr n₀ Bs B C):Kr n₀ Bs A C:=⟨h.below.trans k.below,fun i h1 h2=>(k.box i h1 h2).trans (h.box i h1 h2)⟩
theorem Kr.put{n₀ Bs:Nat}{w:World}(hn:n₀≤w.heap.size)(hb:Bs+3≤w.heap.size)(W:World)(l:Nat)(o o':Obj)(hl:w.heap.size≤l)(h:W.heap[l]?=some o)(hc:o.isCells=false)(hw:o.isWalk=false):Kr n₀ Bs W (W.putObj l o'):=
 ⟨belowK_b hn W l o o' hl h hc hw,fun i _ h2=>World.putObj_heap_other (by omega)⟩
theorem Kr.drew (n₀ Bs:Nat)(W:World):Kr n₀ Bs W W.drew:=⟨(Below.refl _ _).drew,fun _ _ _=>rfl⟩
theorem Zjv (W:World)(row:Option Nat):W.grownBy W.drew row:=⟨rfl,rfl,rfl,nl _,fun _ _ _=>rfl⟩
theorem Zfb (W:World)(n:Nat)(row:Option Nat):W.grownBy (W.drewN n) row:=⟨rfl,rfl,rfl,nl _,fun _ _ _=>rfl⟩
theorem Zak{W:World}{b:Nat}{v:Value}{t:TypeId}(h:W.heap[b]?=some (.cells #[v] t (0,0))):W.cell? ⟨b,0,none⟩=some v∧W.frozen? ⟨b,0,none⟩=false:=
 ⟨by simp[World.cell?,h],by simp[World.frozen?,h]⟩
theorem Zcd{W W':World}{row:Option Nat}{b:Nat}{c:Array Value}{t:TypeId}{fz:Nat×Nat}(h:W.heap[b]?=some (.cells c t fz))(hg:W.grownBy W' row)(hrow:∀r,row=some r→∃o:Obj,W.heap[r]?=some o∧o.isCells=false):W'.heap[b]?=some (.cells c t fz):=by
 refine (hg.block b (gE h).1 ?_).trans h;intro e;obtain⟨o,ho,hc⟩:=hrow b e.symm;rw[h] at ho;cases ho;simp[Obj.isCells] at hc
def idx (a j:Nat):List Int:=(List.range j).map (fun i=>((a+i:Nat):Int))
theorem ZiJ (a j:Nat):idx a (j+1)=idx a j++[((a+j:Nat):Int)]:=by simp[idx,List.range_succ]
theorem Zju (a j:Nat):(idx a j).length=j:=by simp[idx]
theorem ZmJ (a:Nat){j m:Nat}(h:j≤m):idx a j <+: idx a m:=by
 refine⟨((List.range (m-j)).map (fun i=>j+i)).map (fun i=>((a+i:Nat):Int)),?_⟩;rw[idx,idx,←List.map_append,←List.range_add,Nat.add_sub_cancel' h]
structure Boxes (Bs:Nat)(s:ByteArray)(a:Nat)(kf:Nat)(W:World):Prop where
 src:W.heap[Bs]?=some (.cells #[.string s] 9 (0,0))
 at_:W.heap[Bs+1]?=some (.cells #[.int .i64 a] 3 (0,0))
 such:W.heap[Bs+2]?=some (.cells #[.func (.func kf) #[] #[]] 264 (0,0))
theorem Boxes.kept{n₀ Bs:Nat}{s:ByteArray}{a kf:Nat}{W W':World}(h:Boxes Bs s a kf W)(k:Kr n₀ Bs W W'):Boxes Bs s a kf W':=
 ⟨(k.box Bs (by omega) (by omega)).trans h.src,(k.box (Bs+1) (by omega) (by omega)).trans h.at_,(k.box (Bs+2) (by omega) (by omega)).trans h.such⟩
set_option maxRecDepth 100000 in
theorem Zn2 (n:Nat)(hn:1≤n)(l Bs n₀ a:Nat)(s:ByteArray)(kf:Nat)(p:UInt8→Bool)(heg:∀args w,(callFunc kf args).run Tryz.prog w=.ok (.enter kf args) w)
  (hkf:∀(c:UInt8) (w:World),Calls Tryz.prog kf #[.int .u8 (c.toNat:Int)] w fun e w'=>e=.returned (.bool (p c))∧w=w') (ha:a≤s.size) (hs:s.size≤281474976710656)
  (J Jx:List Int→World→Prop) (B0:Nat) (hJ:AbidesFrom B0 J)
  (hY:∀pre x W,J pre W→pre.length<Zad p (s.data.toList.drop a)→YieldAt Fence.wide (n-1) Tryz.prog l #[.int .i64 x] W fun e W'=>
   (e=.returned (.bool true)∧J (pre++[x]) W'∧Kr n₀ Bs W W')∨(e=.returned (.bool false)∧Jx (pre++[x]) W'))
  (W:World) (hB:Boxes Bs s a kf W) (h0:J [] W) :
  CallsIn Fence.wide n Tryz.prog 245 #[.func (.yield l) #[] #[],.pointer (some ⟨Bs+1,0,none⟩),.pointer (some ⟨Bs,0,none⟩),.pointer (some ⟨Bs+2,0,none⟩)] W fun e W'=>(∃v,e=.returned v)∧
   ((∃ys,ys=idx a (Zad p (s.data.toList.drop a))∧J ys W')∨(∃pre,pre <+: idx a (Zad p (s.data.toList.drop a))∧Jx pre W')):=by
 have hm:Tryz.prog.follows .mixedOrders=true:=by kernel_rfl
 obtain⟨m,hmm⟩:=eX (Zad p (s.data.toList.drop a));rw[←hmm] at hY⊢;have hall:=Zb9 p (s.data.toList.drop a);have hend:=Zcw p (s.data.toList.drop a);have hle:=Za1 p (s.data.toList.drop a);rw[←hmm] at hall hend hle;rw[List.length_drop,←Lib.size_eq] at hle;have HA:=Hd hall;have HE:=Hd hend;clear hall hend hmm;have ca:=(Zak hB.at_).1;have hfk:Fence.wide.fn kf:=trivial;refine callsIn_of_wp Tryz.func245 rfl trivial ?_ rfl;simp only[Tryz.ntmps245,List.size_toArray,lC,lN,Nat.reduceAdd,Nat.reduceSub,Array.replicate_succ,Array.replicate_zero,List.push_toArray,List.append_toArray,List.nil_append,cA]
 gi_wp2
 gi_loopw [5] (fun s5 wr=>∃i:Nat,s5=.int .i64 (i:Int)∧a≤i∧i≤a+m∧J (idx a (i-a)) wr∧Kr n₀ Bs W wr) (fun s5 _=>a+m-(intOf s5).toNat)
 case atStart=>exact⟨a,rfl,nl _,by omega,by rw[Nat.sub_self];exact h0,Kr.refl _ _ _⟩
 case round=>
  obtain⟨i,rfl,hai,him,hJj,hK⟩:=hrel;have hBw:=hB.kept hK;obtain⟨cs,fs⟩:=Zak hBw.src;obtain⟨cf,ff⟩:=Zak hBw.such;have HK:=Hd hK;clear hK hBw fs ff ca;by_cases hlt:i<s.size
  ·have hge:decide ((i:Int)<(s.size:Int))=true:=by simp;omega
   have hget:(s.data.toList.drop a)[i-a]?=some s[i]:=by
    rw[List.getElem?_drop,Nat.add_sub_cancel' hai,List.getElem?_eq_getElem (by rw[←Lib.size_eq];exact hlt)];rfl
   cases hp:p s[i] with
   | true=>
    have hlm:i-a<m:=by
     rcases Nat.lt_or_ge (i-a) m with h | h
     ·exact h
     ·have:i-a=m:=by omega
      rw[this] at hget;have:=HE.out _ hget;rw[hp] at this;cases this
    have HP:=Hd hp;obtain⟨fn,tmps,assign,body,hy,hR⟩:=hY _ (i:Int) wr.drew (hJ _ _ _ none hJj (Zjv _ _) (by simp)) (by rw[Zju];omega);have hR':=hR.mono (R':=fun e W'=>∃b,e=.returned (.bool b)∧((b=true∧J (idx a (i-a)++[(i:Int)]) W'∧Kr n₀ Bs wr.drew W')∨(b=false∧Jx (idx a (i-a)++[(i:Int)]) W'))) (by
     rintro e W' (⟨rfl,h1,h2⟩ | ⟨rfl,h1⟩)
     ·exact⟨true,rfl,.inl ⟨rfl,h1,h2⟩⟩
     ·exact⟨false,rfl,.inr ⟨rfl,h1⟩⟩)
    have HR:=Hd hR';have hix:idx a (i-a)++[(i:Int)]=idx a (i-a+1):=by rw[ZiJ,Nat.add_sub_cancel' hai]
    have HIX:=Hd hix;clear hR hp hget hR' hix
    gi_wp2
    gi_region_with_o (first | (gi_at_fn kf;refine (callsIn_wide.2 (hkf _ _)).mono ?_;rintro e w' ⟨rfl,rfl⟩;rw[HP.out]) | (refine HR.out.mono ?_;rintro e W3 ⟨b,rfl,h3⟩;have H3:=Hd h3;clear h3))
    all_goals
     rcases H3.out with ⟨rfl,hJ3,hK3⟩ | ⟨rfl,hJx3⟩
     ·gi_wp2
      go_roundw
      case rel=>exact⟨i+1,by simp,by omega,by omega,by rw[show i+1-a=i-a+1 by omega,←HIX.out];exact hJ3,(HK.out.trans (Kr.drew _ _ _)).trans hK3⟩
      case measure=>simp[intOf];omega
     ·gi_wp2
      go_end0
      exact⟨⟨_,rfl⟩,.inr ⟨_,by rw[HIX.out];exact ZmJ a (by omega),hJx3⟩⟩
   | false=>
    have hlm:i-a=m:=by
     rcases Nat.lt_or_ge (i-a) m with h | h
     ·obtain⟨c,h1,h2⟩:=HA.out _ h;rw[hget] at h1;cases h1;rw[hp] at h2;cases h2
     ·omega
    have HP:=Hd hp;clear hp hget
    gi_wp2
    refine wpIn_wide.2 ?_;go_quiet (first | (go_at_fn kf;refine Calls.quiet_of_same (v:=.bool false) ((hkf _ _).mono fun e w' h=>⟨by rw[h.1,HP.out],h.2.symm⟩)))
    gi_wp2
    go_end0
    exact⟨⟨_,rfl⟩,.inl ⟨_,by rw[←hlm],hJ _ _ _ none hJj (Zfb _ _ _) (by simp)⟩⟩
  ·have hge:decide ((i:Int)<(s.size:Int))=false:=by simp;omega
   gi_wp2
   refine wpIn_wide.2 ?_;go_quiet (fail)
   gi_wp2
   go_end0
   exact⟨⟨_,rfl⟩,.inl ⟨_,by rw[show m=i-a by omega],hJ _ _ _ none hJj (Zfb _ _ _) (by simp)⟩⟩
theorem Zkh (n:Nat)(hn:1≤n)(Bs n₀ a:Nat)(s:ByteArray)(kf:Nat)(p:UInt8→Bool)(heg:∀args w,(callFunc kf args).run Tryz.prog w=.ok (.enter kf args) w)
  (hkf:∀(c:UInt8) (w:World),Calls Tryz.prog kf #[.int .u8 (c.toNat:Int)] w fun e w'=>e=.returned (.bool (p c))∧w=w') (ha:a≤s.size) (hs:s.size≤281474976710656)
  (w:World) (hB:Boxes Bs s a kf w) :
  SeqStopsK Fence.wide n Tryz.prog 245 #[.pointer (some ⟨Bs+1,0,none⟩),.pointer (some ⟨Bs,0,none⟩),.pointer (some ⟨Bs+2,0,none⟩)] (fun x:Int=>#[.int .i64 x]) (Kr n₀ Bs) (fun ys=>ys=idx a (Zad p (s.data.toList.drop a))) (fun pre=>pre <+: idx a (Zad p (s.data.toList.drop a))) (Zad p (s.data.toList.drop a)) w:=
 fun l J Jx W hW hJ _ hY h0=>by
 have lt0:=(gE hB.src).1;have lt1:=(gE hB.at_).1;have lt2:=(gE hB.such).1;exact Zn2 n hn l Bs n₀ a s kf p heg hkf ha hs J Jx _ hJ hY W ⟨(hW.block _ lt0).trans hB.src,(hW.block _ lt1).trans hB.at_,(hW.block _ lt2).trans hB.such⟩ h0
theorem Zn1 (n:Nat)(s:ByteArray)(a:Int)(kf:Nat)(w:World) :
  CallsIn Fence.wide n Tryz.prog 223 #[.string s,.int .i64 a,.func (.func kf) #[] #[]] w fun e w'=>e=.returned (.func (.func 245) #[] #[.pointer (some ⟨w.heap.size+1,0,none⟩),.pointer (some ⟨w.heap.size,0,none⟩),.pointer (some ⟨w.heap.size+2,0,none⟩)])∧
   w'=((w.alloc (.cells #[.string s] 9)).alloc (.cells #[.int .i64 a] 3)).alloc (.cells #[.func (.func kf) #[] #[]] 264):=by
 refine callsIn_of_wp Tryz.func223 rfl trivial ?_ rfl;simp only[Tryz.ntmps223,List.size_toArray,lC,lN,Nat.reduceAdd,Nat.reduceSub,Array.replicate_succ,Array.replicate_zero,List.push_toArray,List.append_toArray,List.nil_append,cA]
 gi_wp2
 go_ret
 exact⟨rfl,rfl⟩
def Zjy (a:Nat)(l:List Int):Int:=match l.getLast? with | none=>a | some x=>wrap64 (x+1)
theorem ZfQ (a:Nat)(l:List Int)(x:Int):Zjy a (l++[x])=wrap64 (x+1):=by simp[Zjy]
theorem Zln (a m:Nat)(h:a+m≤281474976710656):Zjy a (idx a m)=((a+m:Nat):Int):=by
 cases m with
 | zero=>simp[idx,Zjy]
 | succ m=>
  rw[ZiJ,ZfQ];rw[show ((a+m:Nat):Int)+1=((a+(m+1):Nat):Int) by omega];exact IntWalk.wrap64_in _ (by omega)
set_option maxRecDepth 100000 in
theorem ZcL (s:ByteArray)(a:Nat)(kf:Nat)(p:UInt8→Bool)(heg:∀args w,(callFunc kf args).run Tryz.prog w=.ok (.enter kf args) w)
  (hkf:∀(c:UInt8) (w:World),Calls Tryz.prog kf #[.int .u8 (c.toNat:Int)] w fun e w'=>e=.returned (.bool (p c))∧w=w') (ha:a≤s.size) (hs:s.size≤281474976710656) (w:World) :
  Calls Tryz.prog 200 #[.string s,.int .i64 a,.func (.func kf) #[] #[]] w fun e w'=>e=.returned (.int .i64 ((a+Zad p (s.data.toList.drop a):Nat):Int))∧Below w.heap.size w w':=by
 rw[←callsIn_wide (n:=5)];have hff:Fence.wide.fn 223:=trivial;have hle:=Za1 p (s.data.toList.drop a);rw[List.length_drop,←Lib.size_eq] at hle;refine callsIn_of_wp_marks Tryz.func200 rfl trivial ?_ rfl;simp only[Tryz.ntmps200,List.size_toArray,lC,lN,Nat.reduceAdd,Nat.reduceSub,Array.replicate_succ,Array.replicate_zero,List.push_toArray,List.append_toArray,List.nil_append,cA]
 gi_wp2_with (gi_at_call 223;refine (Zn1 _ _ _ _ _).mono ?_;rintro e w' ⟨rfl,rfl⟩)
 obtain⟨W0,hW0⟩:=eY ((((w.alloc (.cells #[.int .i64 a] 3)).alloc (.cells #[.string s] 9)).alloc (.cells #[.int .i64 a] 3)).alloc (.cells #[.func (.func kf) #[] #[]] 264));have hs0:W0.heap.size=w.heap.size+4:=by rw[←hW0];simp
 have hE0:W0.heap[w.heap.size]?=some (.cells #[.int .i64 a] 3 (0,0)):=by
  rw[←hW0];exact (((Below.heap_alloc _ _ _ (by simp;omega)).trans (Below.heap_alloc _ _ _ (by simp;omega))).trans (Below.heap_alloc _ _ _ (by simp))).trans (World.alloc_heap_new w _)
 have hBx:Boxes (w.heap.size+1) s a kf W0:=by
  refine⟨?_,?_,?_⟩
  ·rw[←hW0];refine ((Below.heap_alloc _ _ _ (by simp)).trans (Below.heap_alloc _ _ _ (by simp))).trans ?_
   have:=World.alloc_heap_new (w.alloc (.cells #[.int .i64 a] 3)) (.cells #[.string s] 9);rwa [World.size_alloc] at this
  ·rw[←hW0];refine (Below.heap_alloc _ _ _ (by simp)).trans ?_
   have:=World.alloc_heap_new ((w.alloc (.cells #[.int .i64 a] 3)).alloc (.cells #[.string s] 9)) (.cells #[.int .i64 a] 3);rwa [World.size_alloc,World.size_alloc] at this
  ·rw[←hW0];have:=World.alloc_heap_new (((w.alloc (.cells #[.int .i64 a] 3)).alloc (.cells #[.string s] 9)).alloc (.cells #[.int .i64 a] 3)) (.cells #[.func (.func kf) #[] #[]] 264);rwa [World.size_alloc,World.size_alloc,World.size_alloc] at this
 have hBW:Below w.heap.size w W0:=by rw[←hW0];exact ((((Below.refl _ w).alloc (nl _) _).alloc (by simp) _).alloc (by simp;omega) _).alloc (by simp;omega) _
 rw[hW0];clear hW0;refine wpIn_rangeFunc_ownF rfl (by omega) (gf:=245) (lb:=#[.pointer (some ⟨w.heap.size+1+1,0,none⟩),.pointer (some ⟨w.heap.size+1,0,none⟩),.pointer (some ⟨w.heap.size+1+2,0,none⟩)]) rfl trivial (enters_of Tryz.func245 (by kernel_rfl) rfl)
  (Zkh 4 (by omega) (w.heap.size+1) w.heap.size a s kf p heg hkf ha hs W0 hBx) (fun h k=>Kr.trans h k) (fun W l o o' h1 h2 h3 h4=>Kr.put (w:=W0) (by omega) (by omega) W l o o' h1 h2 h3 h4) (Below.refl _ _) (fun _=>rfl)
  (fun pre W=>W.heap[w.heap.size]?=some (.cells #[.int .i64 (Zjy a pre)] 3 (0,0))∧Below w.heap.size w W)
  (fun _ _ _=>False)
  (OwnFrom.and (Own.from (I:=fun pre W=>W.heap[w.heap.size]?=some (.cells #[.int .i64 (Zjy a pre)] 3 (0,0))) (fun s A B row hs hg hr=>Zcd hs hg hr) _) (ownFrom_below (nl _) (by omega)))
  (fun _ _ _ _ _ hs _ _=>hs)
  ⟨hE0,hBW⟩
  (fun x=>{ tmps:=#[.string s,.int .i64 a,.func (.func kf) #[] #[],undef,undef,undef,.int .i64 0,.pointer (some ⟨w.heap.size,0,none⟩),.int .i64 x,.int .i64 a,.string s,.int .i64 a,.func (.func kf) #[] #[],.func (.func 245) #[] #[.pointer (some ⟨w.heap.size+1+1,0,none⟩),.pointer (some ⟨w.heap.size+1,0,none⟩),.pointer (some ⟨w.heap.size+1+2,0,none⟩)],.int .i64 x,undef,undef,undef],defers:=[] }) ?assign ?body ?done ?stop
 case assign=>
  intro l x W K hK
  gi_wp2
  exact hK
 case body=>
  rintro l pre x W ⟨hE,hB⟩ _;obtain⟨hc,hf⟩:=Zak hE
  gi_wp2
  refine⟨KeepsOthers.setCell _ _ _,⟨(Below.refl w.heap.size W).setCell (p:=⟨w.heap.size,0,none⟩) (nl _) _,fun i h1 _=>Below.heap_setCell W ⟨w.heap.size,0,none⟩ _ i (by simp;omega)⟩,?_,hB.setCell (p:=⟨w.heap.size,0,none⟩) (nl _) _⟩;rw[ZfQ];exact one_setCell hE
 case done=>
  rintro D ys W hD rfl ⟨hE,hB⟩ hK;obtain⟨hc,hf⟩:=Zak hE;rw[Zln a _ (by omega)] at hc
  gi_wp2
  refine⟨by simp,.inl ⟨_,_,rfl,run_takeDeferred hK,?_⟩⟩;exact⟨_,results_tmp rfl _ _ _,rfl,hB.trans (belowK_b (w:=w) (nl _) W D _ _ (by omega) hK rfl rfl)⟩
 case stop=>
  rintro D c pre W _ _ h _;exact h.elim
theorem eg29:∀args w,(callFunc 201 args).run Tryz.prog w=.ok (.enter 201 args) w:=enters_of Tryz.func201 (by kernel_rfl) rfl
theorem eg30:∀args w,(callFunc 202 args).run Tryz.prog w=.ok (.enter 202 args) w:=enters_of Tryz.func202 (by kernel_rfl) rfl
theorem eg33:∀args w,(callFunc 205 args).run Tryz.prog w=.ok (.enter 205 args) w:=enters_of Tryz.func205 (by kernel_rfl) rfl
theorem eg41:∀args w,(callFunc 224 args).run Tryz.prog w=.ok (.enter 224 args) w:=enters_of Tryz.func224 (by kernel_rfl) rfl
theorem eg43:∀args w,(callFunc 226 args).run Tryz.prog w=.ok (.enter 226 args) w:=enters_of Tryz.func226 (by kernel_rfl) rfl
theorem ZcV{s:ByteArray}{i:Nat}(h:i<s.size):s.data.toList[i]?=some s[i]:=by
 rw[List.getElem?_eq_getElem (by rw[←Lib.size_eq];exact h)];rfl
theorem Zb4{s:ByteArray}{i:Nat}(h:i<s.size):s.data.toList.drop i=s[i]::s.data.toList.drop (i+1):=by
 rw[List.drop_eq_getElem_cons (by rw[←Lib.size_eq];exact h)];rfl
theorem Zc5{c d:UInt8}(h:c.toNat=d.toNat):c=d:=UInt8.toNat_inj.1 h
def Five (w:World)(b:Nat)(v0 v1 v2 v3 v4:Value):Prop:=w.heap[b]?=some (.cells #[v0,v1,v2,v3,v4] 199 (0,0))
theorem Zbp{w:World}{b:Nat}{v0 v1 v2 v3 v4:Value}(h:Five w b v0 v1 v2 v3 v4) :
  (w.cell? ⟨b,0,none⟩=some v0∧w.cell? ⟨b,1,none⟩=some v1∧w.cell? ⟨b,2,none⟩=some v2∧w.cell? ⟨b,3,none⟩=some v3∧w.cell? ⟨b,4,none⟩=some v4)∧
  w.frozen? ⟨b,0,none⟩=false∧w.frozen? ⟨b,1,none⟩=false∧w.frozen? ⟨b,2,none⟩=false∧w.frozen? ⟨b,3,none⟩=false∧w.frozen? ⟨b,4,none⟩=false:=by
 unfold Five at h;simp[World.cell?,World.frozen?,h]
theorem ZaZ{w w':World}{b n:Nat}{v0 v1 v2 v3 v4:Value}(h:Five w b v0 v1 v2 v3 v4)(hB:Below n w w')(hb:b<n):Five w' b v0 v1 v2 v3 v4:=(hB.block b hb).trans h
theorem ZbF (w:World)(v0 v1 v2 v3 v4:Value):Five (w.alloc (.cells #[v0,v1,v2,v3,v4] 199)) w.heap.size v0 v1 v2 v3 v4:=hN w _
abbrev put5 (w:World)(b:Nat)(u0 u1 u2 u3 u4:Value):World:=((((w.setCell ⟨b,0,none⟩ u0).setCell ⟨b,1,none⟩ u1).setCell ⟨b,2,none⟩ u2).setCell ⟨b,3,none⟩ u3).setCell ⟨b,4,none⟩ u4
theorem ZbN{w:World}{b:Nat}{v0 v1 v2 v3 v4:Value}(h:Five w b v0 v1 v2 v3 v4)(u0 u1 u2 u3 u4:Value):Five (put5 w b u0 u1 u2 u3 u4) b u0 u1 u2 u3 u4:=by
 unfold Five at *;have h0:=heap_setCell_same w b 0 _ _ u0 h;have h1:=heap_setCell_same _ b 1 _ _ u1 h0;have h2:=heap_setCell_same _ b 2 _ _ u2 h1;have h3:=heap_setCell_same _ b 3 _ _ u3 h2;exact heap_setCell_same _ b 4 _ _ u4 h3
theorem Zbg{n b:Nat}{w w':World}(h:Below n w w')(hb:n≤b)(u0 u1 u2 u3 u4:Value):Below n w (put5 w' b u0 u1 u2 u3 u4):=
 ((((h.setCell (p:=⟨b,0,none⟩) hb u0).setCell (p:=⟨b,1,none⟩) hb u1).setCell (p:=⟨b,2,none⟩) hb u2).setCell (p:=⟨b,3,none⟩) hb u3).setCell (p:=⟨b,4,none⟩) hb u4
theorem ret5{f:Func}{R:Ending→World→Prop}{a:Act}{w:World}{b:Nat}{u0 u1 u2 u3 u4:Value}(hf:f.results=#[.cell 4 199])(ht:a.eval (.tmp 4)=.pointer (some ⟨b,0,none⟩))(hd:a.defers=[])
  (h:Five w b u0 u1 u2 u3 u4) (hR:R (.returned (.agg #[u0,u1,u2,u3,u4])) w):bodyPost Tryz.prog f R Exit.ret a w:=by
 obtain⟨⟨c0,c1,c2,c3,c4⟩,-⟩:=Zbp h;refine bodyPost_ret ?_ hd hR;simp[Act.eval] at ht;simp[results,hf,go_sem,c0,c1,c2,c3,c4,ht]
def GapTo (s:ByteArray)(a i:Nat):Prop:=a≤i∧i≤s.size∧Zaq a (s.data.toList.drop a)=Zaq i (s.data.toList.drop i)
theorem GapTo.blanks{s:ByteArray}{a i:Nat}(h:GapTo s a i):GapTo s a (i+Zad Zav (s.data.toList.drop i)):=by
 obtain⟨h1,h2,h3⟩:=h;have hle:=Za1 Zav (s.data.toList.drop i);rw[List.length_drop,←Lib.size_eq] at hle;refine⟨by omega,by omega,?_⟩;rw[h3,Zf6 i,List.drop_drop]
theorem GapTo.remark{s:ByteArray}{a i:Nat}(h:GapTo s a i)(hi:i<s.size)(hc:s[i].toNat=35):GapTo s a (i+Zad Za6 (s.data.toList.drop i))∧i<i+Zad Za6 (s.data.toList.drop i):=by
 obtain⟨h1,h2,h3⟩:=h;have hle:=Za1 Za6 (s.data.toList.drop i);rw[List.length_drop,←Lib.size_eq] at hle;have hc':s[i]=35:=Zc5 hc;have hd:=Zb4 hi;rw[hc'] at hd;refine⟨⟨by omega,by omega,?_⟩,?_⟩
 ·rw[h3,hd,Zf5 i,←hd,List.drop_drop]
 ·rw[hd];have:=Zcv (p:=Za6) (s.data.toList.drop (i+1)) Zhc;omega
theorem ZlF{s:ByteArray}{i:Nat}(h:i+Zad Zav (s.data.toList.drop i)<s.size):Zav (s[i+Zad Zav (s.data.toList.drop i)])=false:=by
 refine Zcw Zav (s.data.toList.drop i) _ ?_;rw[List.getElem?_drop];exact ZcV h
theorem ZfL (s:ByteArray)(a:Nat)(ha:a≤s.size)(hs:s.size≤281474976710656)(w:World) :
  Calls Tryz.prog 172 #[.string s,.int .i64 a] w fun e w'=>∃i:Nat,e=.returned (.int .i64 (i:Int))∧GapTo s a i∧(∀h:i<s.size,Zav s[i]=false∧s[i]≠35)∧Below w.heap.size w w':=by
 go_enter Tryz.func172,Tryz.ntmps172
 go_wp2_with fail
 go_loopw [1] (fun s1 wr=>∃i:Nat,s1=.int .i64 (i:Int)∧GapTo s a i∧Below w.heap.size w wr) (fun s1 _=>s.size-(intOf s1).toNat)
 case atStart=>exact⟨a,rfl,⟨nl _,ha,rfl⟩,Below.refl _ _⟩
 case round=>
  obtain⟨i,rfl,hg,hB⟩:=hrel;obtain⟨k,hik,hg1,he1,hr1⟩:∃k,i≤k∧GapTo s a k∧(∀h:k<s.size,Zav s[k]=false)∧Calls Tryz.prog 200 #[.string s,.int .i64 i,.func (.func 201) #[] #[]] wr fun e w'=>e=.returned (.int .i64 (k:Int))∧Below wr.heap.size wr w':=
   ⟨_,Nat.le_add_right _ _,hg.blanks,fun h=>ZlF h,ZcL s i 201 Zav eg29 ZhS hg.2.1 hs wr⟩
  have HG1:=Hd hg1;have HR1:=Hd hr1;have HE1:=Hd he1;have hi:=hg.2.1;have hks:=hg1.2.1;clear hg1 hr1 he1 hg;by_cases hk:k=s.size
  ·subst hk;go_wp2_with (go_at_call 200;refine HR1.out.mono ?_;rintro e w1 ⟨rfl,hB1⟩)
   go_ret
   exact⟨s.size,rfl,HG1.out,fun h=>by omega,hB.trans (hB1.mono hB.size)⟩
  ·have hk1:k<s.size:=by omega
   have hk2:((k:Int)==(s.size:Int))=false:=by simp;omega
   have hk3:¬(k:Int)=(s.size:Int):=by omega
   by_cases hc:s[k].toNat=35
   ·obtain⟨k2,hg2,hkk,hr2⟩:∃k2,GapTo s a k2∧k<k2∧∀wr,Calls Tryz.prog 200 #[.string s,.int .i64 k,.func (.func 202) #[] #[]] wr fun e w'=>e=.returned (.int .i64 (k2:Int))∧Below wr.heap.size wr w':=
     ⟨_,(HG1.out.remark hk1 hc).1,(HG1.out.remark hk1 hc).2,fun wr=>ZcL s k 202 Za6 eg30 Zdb hks hs wr⟩
    have hcc:((s[k].toNat:Int)==35)=true:=by simp;omega
    have hcd:(s[k].toNat:Int)=35:=by omega
    have hk4:=hg2.2.1;have HG2:=Hd hg2;have HR2:=Hd hr2;clear hg2 hr2 hc;go_wp2_with fail
    refine HR1.out.mono ?_;rintro e w1 ⟨rfl,hB1⟩;go_wp2_with fail
    refine (HR2.out _).mono ?_;rintro e w2 ⟨rfl,hB2⟩;go_wp2_with fail
    go_roundw
    case rel=>exact⟨k2,rfl,HG2.out,(hB.trans (hB1.mono hB.size)).trans (hB2.mono (Nat.le_trans hB.size hB1.size))⟩
    case measure=>simp[intOf];omega
   ·have hcc:((s[k].toNat:Int)==35)=false:=by simp;omega
    have hcd:¬(s[k].toNat:Int)=35:=by omega
    go_wp2_with (go_at_call 200;refine HR1.out.mono ?_;rintro e w1 ⟨rfl,hB1⟩)
    go_ret
    exact⟨k,rfl,HG1.out,fun h=>⟨HE1.out h,fun e=>hc (by rw[e];rfl)⟩,hB.trans (hB1.mono hB.size)⟩
theorem Zjn (s:ByteArray)(a:Nat)(ha:a≤s.size)(hs:s.size≤281474976710656)(w:World) :
  Calls Tryz.prog 204 #[.string s,.int .i64 a] w fun e w'=>e=.returned (ZaN (ZaL ((s.data.toList.drop a).take (Zad ZaH (s.data.toList.drop a)))) a (s.extract a (a+Zad ZaH (s.data.toList.drop a))) ((a+Zad ZaH (s.data.toList.drop a):Nat):Int) 0)∧Below w.heap.size w w':=by
 have hle:=Za1 ZaH (s.data.toList.drop a);rw[List.length_drop,←Lib.size_eq] at hle;have hr1:=ZcL s a 224 ZaH eg41 Zfo ha hs;have hx:(s.extract a (a+Zad ZaH (s.data.toList.drop a))).data.toList=(s.data.toList.drop a).take (Zad ZaH (s.data.toList.drop a)):=by rw[Lib.extract_data,Nat.add_sub_cancel_left]
 rw[←hx];clear hx;obtain⟨b,hb⟩:=eX (a+Zad ZaH (s.data.toList.drop a));simp only[←hb] at hr1⊢;have hab:a≤b:=by omega
 have hbs:b≤s.size:=by omega
 have HR:=Hd hr1;clear hb hle hr1;cases hw:Zbu (s.extract a b).data.toList with
 | true=>
  simp only[ZaL,hw,if_true];have HW:=Hd hw;clear hw;go_enter Tryz.func204,Tryz.ntmps204
  go_wp2_with fail
  refine (HR.out _).mono ?_;rintro e w1 ⟨rfl,hB1⟩;go_wp2_with fail
  refine (ZfH _ _).mono ?_;rintro e w2 ⟨rfl,rfl⟩;rw[HW.out];go_wp2_with fail
  refine (ZcP _ _ _ _ hab hbs _).mono ?_;rintro e w2 ⟨rfl,hB2⟩;have h5:=ZaZ (ZbF w _ _ _ _ _) (hB1.trans (hB2.mono hB1.size)) (by simp);obtain⟨⟨c0,c1,c2,c3,c4⟩,f0,f1,f2,f3,f4⟩:=Zbp h5;have hB3:=((Below.refl w.heap.size w).alloc (nl _) _).trans ((hB1.trans (hB2.mono hB1.size)).mono (by simp));have HB3:=Hd hB3;clear hB1 hB2 hB3;unfold ZaN;go_wp2_with fail
  exact ret5 rfl rfl rfl (ZbN h5 _ _ _ _ _) ⟨rfl,Zbg HB3.out (nl _) _ _ _ _ _⟩
 | false=>
  simp only[ZaL,hw,ff,if_false];have HW:=Hd hw;clear hw;go_enter Tryz.func204,Tryz.ntmps204
  go_wp2_with fail
  refine (HR.out _).mono ?_;rintro e w1 ⟨rfl,hB1⟩;go_wp2_with fail
  refine (ZfH _ _).mono ?_;rintro e w2 ⟨rfl,rfl⟩;rw[HW.out];go_wp2_with fail
  refine (ZcP _ _ _ _ hab hbs _).mono ?_;rintro e w2 ⟨rfl,hB2⟩;have h5:=ZaZ (ZbF w _ _ _ _ _) (hB1.trans (hB2.mono hB1.size)) (by simp);obtain⟨⟨c0,c1,c2,c3,c4⟩,f0,f1,f2,f3,f4⟩:=Zbp h5;have hB3:=((Below.refl w.heap.size w).alloc (nl _) _).trans ((hB1.trans (hB2.mono hB1.size)).mono (by simp));have HB3:=Hd hB3;clear hB1 hB2 hB3;unfold ZaN;go_wp2_with fail
  exact ret5 rfl rfl rfl (ZbN h5 _ _ _ _ _) ⟨rfl,Zbg HB3.out (nl _) _ _ _ _ _⟩
def numT (t:ByteArray):ByteArray:=if 18<t.size then ⟨#[48]⟩ else t
def numD (t:ByteArray):Nat:=if 18<t.size then 13 else 0
theorem Zg1 (s:ByteArray)(a:Nat)(ha:a≤s.size)(hs:s.size≤281474976710656)(w:World) :
  Calls Tryz.prog 206 #[.string s,.int .i64 a] w fun e w'=>e=.returned (ZaN 3 a (numT (s.extract a (a+Zad ZaD (s.data.toList.drop a)))) ((a+Zad ZaD (s.data.toList.drop a):Nat):Int) (numD (s.extract a (a+Zad ZaD (s.data.toList.drop a)))))∧Below w.heap.size w w':=by
 have hle:=Za1 ZaD (s.data.toList.drop a);rw[List.length_drop,←Lib.size_eq] at hle;have hr1:=ZcL s a 205 ZaD eg33 ZbV ha hs;obtain⟨b,hb⟩:=eX (a+Zad ZaD (s.data.toList.drop a));simp only[←hb] at hr1⊢;have hab:a≤b:=by omega
 have hbs:b≤s.size:=by omega
 have HR:=Hd hr1;have ht:=ZcP 3 s a b hab hbs;obtain⟨t,hte⟩:=eX (s.extract a b);rw[←hte] at ht⊢;have HT:=Hd ht;clear hb hle hr1 hte ht;by_cases h18:18<t.size
 ·simp only[numT,numD,h18,if_true];have h18':(18:Int)<(t.size:Int):=by omega
  go_enter Tryz.func206,Tryz.ntmps206
  go_wp2_with fail
  refine (HR.out _).mono ?_;rintro e w1 ⟨rfl,hB1⟩;go_wp2_with fail
  refine (HT.out _).mono ?_;rintro e w2 ⟨rfl,hB2⟩;have h5:=ZaZ (ZbF w _ _ _ _ _) (hB1.trans (hB2.mono hB1.size)) (by simp);have hB3:=((Below.refl w.heap.size w).alloc (nl _) _).trans ((hB1.trans (hB2.mono hB1.size)).mono (by simp));have hlt:w.heap.size<w2.heap.size:=by have:=hB1.size;have:=hB2.size;simp at *;omega
  have hne:¬w.heap.size=w2.heap.size:=by omega
  obtain⟨⟨c0,c1,c2,c3,c4⟩,f0,f1,f2,f3,f4⟩:=Zbp h5;have HB3:=Hd hB3;clear hB1 hB2 hB3;unfold ZaN;go_wp2_with fail
  exact ret5 rfl rfl rfl (ZaZ (ZbN h5 _ _ _ _ _) ((Below.refl _ _).alloc (nl _) _) (by simpa using hlt)) ⟨rfl,(Zbg HB3.out (nl _) _ _ _ _ _).alloc (by simp;omega) _⟩
 ·simp only[numT,numD,h18,if_false];have h18':¬(18:Int)<(t.size:Int):=by omega
  have h18'':decide ((18:Int)<(t.size:Int))=false:=by simpa using h18'
  go_enter Tryz.func206,Tryz.ntmps206
  go_wp2_with fail
  refine (HR.out _).mono ?_;rintro e w1 ⟨rfl,hB1⟩;go_wp2_with fail
  refine (HT.out _).mono ?_;rintro e w2 ⟨rfl,hB2⟩;have h5:=ZaZ (ZbF w _ _ _ _ _) (hB1.trans (hB2.mono hB1.size)) (by simp);have hB3:=((Below.refl w.heap.size w).alloc (nl _) _).trans ((hB1.trans (hB2.mono hB1.size)).mono (by simp));have hlt:w.heap.size<w2.heap.size:=by have:=hB1.size;have:=hB2.size;simp at *;omega
  have hne:¬w.heap.size=w2.heap.size:=by omega
  obtain⟨⟨c0,c1,c2,c3,c4⟩,f0,f1,f2,f3,f4⟩:=Zbp h5;have HB3:=Hd hB3;clear hB1 hB2 hB3;unfold ZaN;go_wp2_with fail
  exact ret5 rfl rfl rfl (ZaZ (ZbN h5 _ _ _ _ _) ((Below.refl _ _).alloc (nl _) _) (by simpa using hlt)) ⟨rfl,(Zbg HB3.out (nl _) _ _ _ _ _).alloc (by simp;omega) _⟩
def txtK (s:ByteArray)(b:Nat):Nat:=if s.data.toList[b]?=some 34 then 4 else 0
def txtT (s:ByteArray)(a b:Nat):ByteArray:=if s.data.toList[b]?=some 34 then s.extract (a+1) b else ⟨#[]⟩
def txtE (s:ByteArray)(b:Nat):Nat:=if s.data.toList[b]?=some 34 then b+1 else b
def txtD (s:ByteArray)(b:Nat):Nat:=if s.data.toList[b]?=some 34 then 0 else 1
theorem ZiZ (s:ByteArray)(a:Nat)(ha:a<s.size)(hs:s.size≤281474976710656)(w:World) :
  Calls Tryz.prog 207 #[.string s,.int .i64 a] w fun e w'=>∃b,b=a+1+Zad Zal (s.data.toList.drop (a+1))∧e=.returned (ZaN (txtK s b) a (txtT s a b) (txtE s b:Nat) (txtD s b))∧Below w.heap.size w w':=by
 have hle:=Za1 Zal (s.data.toList.drop (a+1));rw[List.length_drop,←Lib.size_eq] at hle;have hr1:=ZcL s (a+1) 226 Zal eg43 Zha (by omega) hs;obtain⟨b,hb⟩:=eX (a+1+Zad Zal (s.data.toList.drop (a+1)));simp only[←hb] at hr1;have hab:a+1≤b:=by omega
 have hbs:b≤s.size:=by omega
 have HR:=Hd hr1;have HB:=Hd hb;clear hb hle hr1;by_cases hbe:b=s.size
 ·have hn:s.data.toList[b]?=none:=by rw[hbe,Lib.size_eq];simp
  have e1:txtK s b=0:=by rw[txtK,if_neg (by rw[hn];simp)]
  have e2:txtT s a b=⟨#[]⟩:=by rw[txtT,if_neg (by rw[hn];simp)]
  have e3:txtE s b=b:=by rw[txtE,if_neg (by rw[hn];simp)]
  have e4:txtD s b=1:=by rw[txtD,if_neg (by rw[hn];simp)]
  have fin:Calls Tryz.prog 207 #[.string s,.int .i64 a] w fun e w'=>e=.returned (ZaN 0 a ⟨#[]⟩ b 1)∧Below w.heap.size w w':=by
   clear e1 e2 e3 e4 hn HB;subst hbe;go_enter Tryz.func207,Tryz.ntmps207
   go_wp2_with fail
   refine (HR.out _).mono ?_;rintro e w1 ⟨rfl,hB1⟩;go_wp2_with fail
   refine (ZcT _ _ _).mono ?_;rintro e w2 ⟨rfl,hB2⟩;have h5:=ZaZ (ZbF w _ _ _ _ _) (hB1.trans (hB2.mono hB1.size)) (by simp);obtain⟨⟨c0,c1,c2,c3,c4⟩,f0,f1,f2,f3,f4⟩:=Zbp h5;have hB3:=((Below.refl w.heap.size w).alloc (nl _) _).trans ((hB1.trans (hB2.mono hB1.size)).mono (by simp));have HB3:=Hd hB3;clear hB1 hB2 hB3;unfold ZaN;go_wp2_with fail
   exact ret5 rfl rfl rfl (ZbN h5 _ _ _ _ _) ⟨rfl,Zbg HB3.out (nl _) _ _ _ _ _⟩
  refine fin.mono ?_;rintro e w' ⟨rfl,h⟩;exact⟨b,HB.out,by rw[e1,e2,e3,e4];rfl,h⟩
 ·have hbl:b<s.size:=by omega
  have hg:=ZcV hbl;have hk2:((b:Int)==(s.size:Int))=false:=by simp;omega
  have hk3:¬(b:Int)=(s.size:Int):=by omega
  by_cases hc:s[b].toNat=34
  ·have hn:s.data.toList[b]?=some 34:=by rw[hg];congr 1;exact Zc5 hc
   have e1:txtK s b=4:=by rw[txtK,if_pos hn]
   have e2:txtT s a b=s.extract (a+1) b:=by rw[txtT,if_pos hn]
   have e3:txtE s b=b+1:=by rw[txtE,if_pos hn]
   have e4:txtD s b=0:=by rw[txtD,if_pos hn]
   have fin:Calls Tryz.prog 207 #[.string s,.int .i64 a] w fun e w'=>e=.returned (ZaN 4 a (s.extract (a+1) b) ((b:Int)+1) 0)∧Below w.heap.size w w':=by
    have hcc:((s[b].toNat:Int)==34)=true:=by simp;omega
    have hcd:(s[b].toNat:Int)=34:=by omega
    clear e1 e2 e3 e4 hn HB hg hc;go_enter Tryz.func207,Tryz.ntmps207
    go_wp2_with fail
    refine (HR.out _).mono ?_;rintro e w1 ⟨rfl,hB1⟩;have h5:=ZaZ (ZbF w _ _ _ _ _) hB1 (by simp);obtain⟨⟨c0,c1,c2,c3,c4⟩,f0,f1,f2,f3,f4⟩:=Zbp h5;have hB3:=((Below.refl w.heap.size w).alloc (nl _) _).trans (hB1.mono (by simp));have HB3:=Hd hB3;clear hB1 hB3;go_wp2_with fail
    exact ret5 rfl rfl rfl (ZbN h5 _ _ _ _ _) ⟨rfl,Zbg HB3.out (nl _) _ _ _ _ _⟩
   refine fin.mono ?_;rintro e w' ⟨rfl,h⟩;exact⟨b,HB.out,by rw[e1,e2,e3,e4];rfl,h⟩
  ·have hn:¬s.data.toList[b]?=some 34:=by
    rw[hg];intro e;apply hc;rw[Option.some.inj e];rfl
   have e1:txtK s b=0:=by rw[txtK,if_neg hn]
   have e2:txtT s a b=⟨#[]⟩:=by rw[txtT,if_neg hn]
   have e3:txtE s b=b:=by rw[txtE,if_neg hn]
   have e4:txtD s b=1:=by rw[txtD,if_neg hn]
   have fin:Calls Tryz.prog 207 #[.string s,.int .i64 a] w fun e w'=>e=.returned (ZaN 0 a ⟨#[]⟩ b 1)∧Below w.heap.size w w':=by
    have hcc:((s[b].toNat:Int)==34)=false:=by simp;omega
    have hcd:¬(s[b].toNat:Int)=34:=by omega
    clear e1 e2 e3 e4 hn HB hg hc;go_enter Tryz.func207,Tryz.ntmps207
    go_wp2_with fail
    refine (HR.out _).mono ?_;rintro e w1 ⟨rfl,hB1⟩;go_wp2_with fail
    refine (ZcT _ _ _).mono ?_;rintro e w2 ⟨rfl,hB2⟩;have h5:=ZaZ (ZbF w _ _ _ _ _) (hB1.trans (hB2.mono hB1.size)) (by simp);obtain⟨⟨c0,c1,c2,c3,c4⟩,f0,f1,f2,f3,f4⟩:=Zbp h5;have hB3:=((Below.refl w.heap.size w).alloc (nl _) _).trans ((hB1.trans (hB2.mono hB1.size)).mono (by simp));have HB3:=Hd hB3;clear hB1 hB2 hB3;unfold ZaN;go_wp2_with fail
    exact ret5 rfl rfl rfl (ZbN h5 _ _ _ _ _) ⟨rfl,Zbg HB3.out (nl _) _ _ _ _ _⟩
   refine fin.mono ?_;rintro e w' ⟨rfl,h⟩;exact⟨b,HB.out,by rw[e1,e2,e3,e4];rfl,h⟩
def pcV (x:Pc):Value:=ZaN x.s.k x.at_ ⟨x.s.t.toArray⟩ ((x.at_+x.s.n:Nat):Int) x.s.d
theorem ZdT (s:ByteArray)(a b:Nat):s.extract a b=⟨((s.data.toList.drop a).take (b-a)).toArray⟩:=Lib.extract_eq s a b
theorem ZeK (k:Int)(s:ByteArray)(a b:Nat)(e:Int)(he:e=((b:Nat):Int))(hab:a≤b)(hb:b≤s.size)(w:World) :
  Calls Tryz.prog 209 #[.int .i64 k,.string s,.int .i64 a,.int .i64 e] w fun e w'=>e=.returned (ZaN k a (s.extract a b) ((b:Nat):Int) 0)∧Below w.heap.size w w':=by
 rw[he];exact ZcP k s a b hab hb w
theorem Zgc (a b:Nat)(e:Int)(he:e=((b:Nat):Int))(w:World) :
  Calls Tryz.prog 211 #[.int .i64 a,.int .i64 e] w fun e w'=>e=.returned (ZaN 0 a ⟨#[]⟩ ((b:Nat):Int) 1)∧Below w.heap.size w w':=by
 rw[he];exact ZcT a b w
theorem ZlL{s:ByteArray}{a:Nat}(h:a<s.size):Lib.hasPrefix (s.extract a s.size).data.toList [45,62]=decide (s[a]=45∧(s.data.toList.drop (a+1)).head?=some 62):=by
 rw[Lib.extract_data,List.take_of_length_le (by rw[List.length_drop,←Lib.size_eq];exact nl _),Zb4 h,Bool.eq_iff_iff];unfold Lib.hasPrefix;rw[decide_eq_true_iff];cases h2:s.data.toList.drop (a+1) with
 | nil=>simp[List.isPrefixOf]
 | cons x r=>
  simp[List.isPrefixOf]
  constructor
  ·rintro ⟨h1,h2⟩;exact⟨h1.symm,h2.symm⟩
  ·rintro ⟨h1,h2⟩;exact⟨h1.symm,h2.symm⟩
theorem ZkN (s:ByteArray)(a:Nat)(ha:a<s.size)(_hs:s.size≤281474976710656)(h1:ZaC s[a]=true)(k e d:Int)(t:ByteArray)
  (hc:∀w,Calls Tryz.prog 204 #[.string s,.int .i64 a] w fun x w'=>x=.returned (ZaN k a t e d)∧Below w.heap.size w w') (w:World) :
  Calls Tryz.prog 173 #[.string s,.int .i64 a] w fun x w'=>x=.returned (ZaN k a t e d)∧Below w.heap.size w w':=by
 have H1:=Hd h1;clear h1;have HC:=Hd hc;clear hc;go_enter Tryz.func173,Tryz.ntmps173
 go_wp2_with fail
 refine (Zba _ _).mono ?_;rintro e w1 ⟨rfl,rfl⟩;rw[H1.out];go_wp2_with fail
 refine (HC.out _).mono ?_;rintro e w1 ⟨rfl,hB1⟩;have h5:=ZaZ (ZbF w _ _ _ _ _) hB1 (by simp);obtain⟨⟨c0,c1,c2,c3,c4⟩,f0,f1,f2,f3,f4⟩:=Zbp h5;have HB3:=Hd (((Below.refl w.heap.size w).alloc (nl _) _).trans (hB1.mono (by simp)));clear hB1;unfold ZaN;go_wp2_with fail
 exact ret5 rfl rfl rfl (ZbN h5 _ _ _ _ _) ⟨rfl,Zbg HB3.out (nl _) _ _ _ _ _⟩
theorem ZkM (s:ByteArray)(a:Nat)(ha:a<s.size)(_hs:s.size≤281474976710656)(h1:ZaC s[a]=false)(h2:ZaD s[a]=true)(k e d:Int)(t:ByteArray)
  (hc:∀w,Calls Tryz.prog 206 #[.string s,.int .i64 a] w fun x w'=>x=.returned (ZaN k a t e d)∧Below w.heap.size w w') (w:World) :
  Calls Tryz.prog 173 #[.string s,.int .i64 a] w fun x w'=>x=.returned (ZaN k a t e d)∧Below w.heap.size w w':=by
 have H1:=Hd h1;clear h1;have H2:=Hd h2;clear h2;have HC:=Hd hc;clear hc;go_enter Tryz.func173,Tryz.ntmps173
 go_wp2_with fail
 refine (Zba _ _).mono ?_;rintro e w1 ⟨rfl,rfl⟩;rw[H1.out];go_wp2_with fail
 refine (ZbV _ _).mono ?_;rintro e w1 ⟨rfl,rfl⟩;rw[H2.out];go_wp2_with fail
 refine (HC.out _).mono ?_;rintro e w1 ⟨rfl,hB1⟩;have h5:=ZaZ (ZbF w _ _ _ _ _) hB1 (by simp);obtain⟨⟨c0,c1,c2,c3,c4⟩,f0,f1,f2,f3,f4⟩:=Zbp h5;have HB3:=Hd (((Below.refl w.heap.size w).alloc (nl _) _).trans (hB1.mono (by simp)));clear hB1;unfold ZaN;go_wp2_with fail
 exact ret5 rfl rfl rfl (ZbN h5 _ _ _ _ _) ⟨rfl,Zbg HB3.out (nl _) _ _ _ _ _⟩
theorem ZkL (s:ByteArray)(a:Nat)(ha:a<s.size)(_hs:s.size≤281474976710656)(h1:ZaC s[a]=false)(h2:ZaD s[a]=false)(h3:s[a].toNat=34)(k e d:Int)(t:ByteArray)
  (hc:∀w,Calls Tryz.prog 207 #[.string s,.int .i64 a] w fun x w'=>x=.returned (ZaN k a t e d)∧Below w.heap.size w w') (w:World) :
  Calls Tryz.prog 173 #[.string s,.int .i64 a] w fun x w'=>x=.returned (ZaN k a t e d)∧Below w.heap.size w w':=by
 have H1:=Hd h1;clear h1;have H2:=Hd h2;clear h2;have H3:=Hd h3;clear h3;have HC:=Hd hc;clear hc;go_enter Tryz.func173,Tryz.ntmps173
 go_wp2_with fail
 refine (Zba _ _).mono ?_;rintro e w1 ⟨rfl,rfl⟩;rw[H1.out];go_wp2_with fail
 refine (ZbV _ _).mono ?_;rintro e w1 ⟨rfl,rfl⟩;rw[H2.out];have h3a:((s[a].toNat:Int)==34)=true:=by have:=H3.out;simp;omega
 have h3b:(s[a].toNat:Int)=34:=by have:=H3.out;omega
 go_wp2_with fail
 refine (HC.out _).mono ?_;rintro e w1 ⟨rfl,hB1⟩;have h5:=ZaZ (ZbF w _ _ _ _ _) hB1 (by simp);obtain⟨⟨c0,c1,c2,c3,c4⟩,f0,f1,f2,f3,f4⟩:=Zbp h5;have HB3:=Hd (((Below.refl w.heap.size w).alloc (nl _) _).trans (hB1.mono (by simp)));clear hB1;unfold ZaN;go_wp2_with fail
 exact ret5 rfl rfl rfl (ZbN h5 _ _ _ _ _) ⟨rfl,Zbg HB3.out (nl _) _ _ _ _ _⟩
theorem ZkK (s:ByteArray)(a:Nat)(ha:a<s.size)(hs:s.size≤281474976710656)(h1:ZaC s[a]=false)(h2:ZaD s[a]=false)(h3:¬s[a].toNat=34)(h4:Lib.hasPrefix (s.extract a s.size).data.toList [45,62]=true)(k e d:Int)(t:ByteArray)
  (hc:∀w,Calls Tryz.prog 209 #[.int .i64 5,.string s,.int .i64 a,.int .i64 ((a:Int)+2)] w fun x w'=>x=.returned (ZaN k a t e d)∧Below w.heap.size w w') (w:World) :
  Calls Tryz.prog 173 #[.string s,.int .i64 a] w fun x w'=>x=.returned (ZaN k a t e d)∧Below w.heap.size w w':=by
 have H1:=Hd h1;clear h1;have H2:=Hd h2;clear h2;have h3a:((s[a].toNat:Int)==34)=false:=by simp;omega
 have h3b:¬(s[a].toNat:Int)=34:=by omega
 clear h3;have H4:=Hd h4;clear h4;have HC:=Hd hc;clear hc;go_enter Tryz.func173,Tryz.ntmps173
 go_wp2_with fail
 refine (Zba _ _).mono ?_;rintro e w1 ⟨rfl,rfl⟩;rw[H1.out];go_wp2_with fail
 refine (ZbV _ _).mono ?_;rintro e w1 ⟨rfl,rfl⟩;rw[H2.out];go_wp2_with fail
 refine (ZcU _ _ _).mono ?_;rintro e w1 ⟨rfl,rfl⟩;rw[H4.out];go_wp2_with fail
 refine (HC.out _).mono ?_;rintro e w1 ⟨rfl,hB1⟩;have h5:=ZaZ (ZbF w _ _ _ _ _) hB1 (by simp);obtain⟨⟨c0,c1,c2,c3,c4⟩,f0,f1,f2,f3,f4⟩:=Zbp h5;have HB3:=Hd (((Below.refl w.heap.size w).alloc (nl _) _).trans (hB1.mono (by simp)));clear hB1;unfold ZaN;go_wp2_with fail
 exact ret5 rfl rfl rfl (ZbN h5 _ _ _ _ _) ⟨rfl,Zbg HB3.out (nl _) _ _ _ _ _⟩
theorem ZkJ (s:ByteArray)(a:Nat)(ha:a<s.size)(hs:s.size≤281474976710656)(h1:ZaC s[a]=false)(h2:ZaD s[a]=false)(h3:¬s[a].toNat=34)(h4:Lib.hasPrefix (s.extract a s.size).data.toList [45,62]=false)(h5:isSg s[a]=true)(k e d:Int)(t:ByteArray)
  (hc:∀w,Calls Tryz.prog 209 #[.int .i64 5,.string s,.int .i64 a,.int .i64 ((a:Int)+1)] w fun x w'=>x=.returned (ZaN k a t e d)∧Below w.heap.size w w') (w:World) :
  Calls Tryz.prog 173 #[.string s,.int .i64 a] w fun x w'=>x=.returned (ZaN k a t e d)∧Below w.heap.size w w':=by
 have H1:=Hd h1;clear h1;have H2:=Hd h2;clear h2;have h3a:((s[a].toNat:Int)==34)=false:=by simp;omega
 have h3b:¬(s[a].toNat:Int)=34:=by omega
 clear h3;have H4:=Hd h4;clear h4;have H5:=Hd h5;clear h5;have HC:=Hd hc;clear hc;go_enter Tryz.func173,Tryz.ntmps173
 go_wp2_with fail
 refine (Zba _ _).mono ?_;rintro e w1 ⟨rfl,rfl⟩;rw[H1.out];go_wp2_with fail
 refine (ZbV _ _).mono ?_;rintro e w1 ⟨rfl,rfl⟩;rw[H2.out];go_wp2_with fail
 refine (ZcU _ _ _).mono ?_;rintro e w1 ⟨rfl,rfl⟩;rw[H4.out];go_wp2_with fail
 refine (ZfI _ _).mono ?_;rintro e w1 ⟨rfl,rfl⟩;rw[H5.out];go_wp2_with fail
 refine (HC.out _).mono ?_;rintro e w1 ⟨rfl,hB1⟩;have h5:=ZaZ (ZbF w _ _ _ _ _) hB1 (by simp);obtain⟨⟨c0,c1,c2,c3,c4⟩,f0,f1,f2,f3,f4⟩:=Zbp h5;have HB3:=Hd (((Below.refl w.heap.size w).alloc (nl _) _).trans (hB1.mono (by simp)));clear hB1;unfold ZaN;go_wp2_with fail
 exact ret5 rfl rfl rfl (ZbN h5 _ _ _ _ _) ⟨rfl,Zbg HB3.out (nl _) _ _ _ _ _⟩
theorem ZkI (s:ByteArray)(a:Nat)(ha:a<s.size)(hs:s.size≤281474976710656)(h1:ZaC s[a]=false)(h2:ZaD s[a]=false)(h3:¬s[a].toNat=34)(h4:Lib.hasPrefix (s.extract a s.size).data.toList [45,62]=false)(h5:isSg s[a]=false)(k e d:Int)(t:ByteArray)
  (hc:∀w,Calls Tryz.prog 211 #[.int .i64 a,.int .i64 ((a:Int)+1)] w fun x w'=>x=.returned (ZaN k a t e d)∧Below w.heap.size w w') (w:World) :
  Calls Tryz.prog 173 #[.string s,.int .i64 a] w fun x w'=>x=.returned (ZaN k a t e d)∧Below w.heap.size w w':=by
 have H1:=Hd h1;clear h1;have H2:=Hd h2;clear h2;have h3a:((s[a].toNat:Int)==34)=false:=by simp;omega
 have h3b:¬(s[a].toNat:Int)=34:=by omega
 clear h3;have H4:=Hd h4;clear h4;have H5:=Hd h5;clear h5;have HC:=Hd hc;clear hc;go_enter Tryz.func173,Tryz.ntmps173
 go_wp2_with fail
 refine (Zba _ _).mono ?_;rintro e w1 ⟨rfl,rfl⟩;rw[H1.out];go_wp2_with fail
 refine (ZbV _ _).mono ?_;rintro e w1 ⟨rfl,rfl⟩;rw[H2.out];go_wp2_with fail
 refine (ZcU _ _ _).mono ?_;rintro e w1 ⟨rfl,rfl⟩;rw[H4.out];go_wp2_with fail
 refine (ZfI _ _).mono ?_;rintro e w1 ⟨rfl,rfl⟩;rw[H5.out];go_wp2_with fail
 refine (HC.out _).mono ?_;rintro e w1 ⟨rfl,hB1⟩;have h5:=ZaZ (ZbF w _ _ _ _ _) hB1 (by simp);obtain⟨⟨c0,c1,c2,c3,c4⟩,f0,f1,f2,f3,f4⟩:=Zbp h5;have HB3:=Hd (((Below.refl w.heap.size w).alloc (nl _) _).trans (hB1.mono (by simp)));clear hB1;unfold ZaN;go_wp2_with fail
 exact ret5 rfl rfl rfl (ZbN h5 _ _ _ _ _) ⟨rfl,Zbg HB3.out (nl _) _ _ _ _ _⟩
theorem Zoq (l:Bs):numT ⟨l.toArray⟩=⟨(if 18<l.length then [48] else l).toArray⟩:=by
 unfold numT;have:(⟨l.toArray⟩:ByteArray).size=l.length:=by rw[Lib.size_eq]
 rw[this];split<;>rfl
theorem Zor (l:Bs):numD ⟨l.toArray⟩=if 18<l.length then 13 else 0:=by
 unfold numD;have:(⟨l.toArray⟩:ByteArray).size=l.length:=by rw[Lib.size_eq]
 rw[this]
theorem ZeP (r:Bs):Zac (34::r)=(if r[Zad Zal r]?=some 34 then ⟨Zad Zal r+2,4,r.take (Zad Zal r),0⟩ else ⟨Zad Zal r+1,0,[],1⟩):=by
 simp only[Zac,show Zav 34=false by decide,show (34:UInt8)≠35 by decide,show ZaC 34=false by decide,show ZaD 34=false by decide,ff,if_false,if_true]
theorem Zei (r:Bs):Zac (45::62::r)=⟨2,5,[45,62],0⟩:=by
 simp only[Zac,show Zav 45=false by decide,show (45:UInt8)≠35 by decide,show (45:UInt8)≠34 by decide,show ZaC 45=false by decide,show ZaD 45=false by decide,ff,if_false,if_true,List.head?_cons,and_self]
theorem ZhH (s:ByteArray)(a:Nat)(ha:a<s.size)(hs:s.size≤281474976710656)(hb:Zav s[a]=false)(h35:s[a]≠35)(w:World) :
  Calls Tryz.prog 173 #[.string s,.int .i64 a] w fun e w'=>e=.returned (pcV ⟨a,Zac (s.data.toList.drop a)⟩)∧Below w.heap.size w w':=by
 have hd:=Zb4 ha;have hl:(s.data.toList.drop a).length=s.size-a:=by rw[List.length_drop,←Lib.size_eq]
 cases h1:ZaC s[a] with
 | true=>
  have hst:Zac (s.data.toList.drop a)=⟨Zad ZaH (s.data.toList.drop a),ZaL ((s.data.toList.drop a).take (Zad ZaH (s.data.toList.drop a))),(s.data.toList.drop a).take (Zad ZaH (s.data.toList.drop a)),0⟩:=by
   rw[hd];simp only[Zac,hb,h35,h1,ff,if_false,if_true]
  refine (ZkN s a ha hs h1 _ _ _ _ (Zjn s a (by omega) hs) w).mono ?_;rintro e w' ⟨rfl,h⟩;refine⟨?_,h⟩;rw[hst,pcV,ZdT,Nat.add_sub_cancel_left];rfl
 | false=>
 cases h2:ZaD s[a] with
 | true=>
  have hst:Zac (s.data.toList.drop a)=(if 18<Zad ZaD (s.data.toList.drop a) then ⟨Zad ZaD (s.data.toList.drop a),3,[48],13⟩ else ⟨Zad ZaD (s.data.toList.drop a),3,(s.data.toList.drop a).take (Zad ZaD (s.data.toList.drop a)),0⟩):=by
   rw[hd];simp only[Zac,hb,h35,h1,h2,ff,if_false,if_true]
  refine (ZkM s a ha hs h1 h2 _ _ _ _ (Zg1 s a (by omega) hs) w).mono ?_;rintro e w' ⟨rfl,h⟩;refine⟨?_,h⟩;have hle:=Za1 ZaD (s.data.toList.drop a);have ht:((s.data.toList.drop a).take (Zad ZaD (s.data.toList.drop a))).length=Zad ZaD (s.data.toList.drop a):=by rw[List.length_take];omega
  rw[hst,pcV,ZdT,Nat.add_sub_cancel_left,Zoq,Zor,ht];split<;>rfl
 | false=>
 by_cases h3:s[a].toNat=34
 ·have h3':s[a]=34:=Zc5 h3;have hr:=ZiZ s a ha hs;have hg:s.data.toList[a+1+Zad Zal (s.data.toList.drop (a+1))]?=(s.data.toList.drop (a+1))[Zad Zal (s.data.toList.drop (a+1))]?:=by rw[List.getElem?_drop]
  have hst:Zac (s.data.toList.drop a)=(if (s.data.toList.drop (a+1))[Zad Zal (s.data.toList.drop (a+1))]?=some 34 then ⟨Zad Zal (s.data.toList.drop (a+1))+2,4,(s.data.toList.drop (a+1)).take (Zad Zal (s.data.toList.drop (a+1))),0⟩ else ⟨Zad Zal (s.data.toList.drop (a+1))+1,0,[],1⟩):=by
   rw[hd,h3',ZeP]
  refine (ZkL s a ha hs h1 h2 h3 (txtK s (a+1+Zad Zal (s.data.toList.drop (a+1)))) (txtE s (a+1+Zad Zal (s.data.toList.drop (a+1))):Nat) (txtD s (a+1+Zad Zal (s.data.toList.drop (a+1)))) (txtT s a (a+1+Zad Zal (s.data.toList.drop (a+1)))) (fun w=>(hr w).mono (by rintro x w' ⟨b,rfl,rfl,h⟩;exact⟨rfl,h⟩)) w).mono ?_;rintro e w' ⟨rfl,h⟩;refine⟨?_,h⟩;rw[hst,txtK,txtE,txtD,txtT,hg];split
  ·rw[pcV,ZdT,Nat.add_sub_cancel_left];simp only[ZaN];rw[show a+1+Zad Zal (s.data.toList.drop (a+1))+1=a+(Zad Zal (s.data.toList.drop (a+1))+2) by omega]
  ·rw[pcV];simp only[ZaN];rw[show a+1+Zad Zal (s.data.toList.drop (a+1))=a+(Zad Zal (s.data.toList.drop (a+1))+1) by omega]
 have h3':s[a]≠34:=fun e=>h3 (by rw[e];rfl)
 have hap:=ZlL ha;by_cases h4:s[a]=45∧(s.data.toList.drop (a+1)).head?=some 62
 ·have hX:∃r,s.data.toList.drop (a+1)=62::r:=by
   have:=h4.2;cases hX:s.data.toList.drop (a+1) with
   | nil=>rw[hX] at this;simp at this
   | cons x r=>rw[hX] at this;simp at this;exact⟨r,by rw[this]⟩
  obtain⟨r,hX⟩:=hX;have hlen:a+2≤s.size:=by
   have:=congrArg List.length hX;rw[List.length_drop,←Lib.size_eq,lC] at this;omega
  rw[decide_eq_true h4] at hap;have hst:Zac (s.data.toList.drop a)=⟨2,5,[45,62],0⟩:=by
   rw[hd,h4.1,hX,Zei]
  refine (ZkK s a ha hs h1 h2 h3 hap _ _ _ _ (ZeK 5 s a (a+2) ((a:Int)+2) (by omega) (by omega) hlen) w).mono ?_;rintro e w' ⟨rfl,h⟩;refine⟨?_,h⟩;rw[hst,pcV,ZdT,hd,hX,h4.1,Nat.add_sub_cancel_left];rfl
 rw[decide_eq_false h4] at hap;cases h6:isSg s[a] with
 | true=>
  have hst:Zac (s.data.toList.drop a)=⟨1,5,[s[a]],0⟩:=by
   rw[hd];simp only[Zac,hb,h35,h1,h2,h3',h4,h6,ff,if_false,if_true]
  refine (ZkJ s a ha hs h1 h2 h3 hap h6 _ _ _ _ (ZeK 5 s a (a+1) ((a:Int)+1) (by omega) (by omega) (by omega)) w).mono ?_;rintro e w' ⟨rfl,h⟩;refine⟨?_,h⟩;rw[hst,pcV,ZdT,hd,Nat.add_sub_cancel_left];rfl
 | false=>
  have hst:Zac (s.data.toList.drop a)=⟨1,0,[],1⟩:=by
   rw[hd];simp only[Zac,hb,h35,h1,h2,h3',h4,h6,ff,if_false]
  refine (ZkI s a ha hs h1 h2 h3 hap h6 _ _ _ _ (Zgc a (a+1) ((a:Int)+1) (by omega)) w).mono ?_;rintro e w' ⟨rfl,h⟩;refine⟨?_,h⟩;rw[hst,pcV];rfl
attribute [local go_sem] Oper.semAt_some
structure Kc (n₀:Nat)(W W':World):Prop where
 below:Below n₀ W W'
 own:∀(k:Nat) (c:Array Value) (t:TypeId) (fz:Nat×Nat),t=199∨t=9→W.heap[k]?=some (.cells c t fz)→W'.heap[k]?=some (.cells c t fz)
theorem Kc.trans{n₀:Nat}{A B C:World}(h:Kc n₀ A B)(k:Kc n₀ B C):Kc n₀ A C:=⟨h.below.trans k.below,fun i c t fz ht hi=>k.own i c t fz ht (h.own i c t fz ht hi)⟩
theorem Kc.put{n₀:Nat}{w:World}(hn:n₀≤w.heap.size)(W:World)(l:Nat)(o o':Obj)(hl:w.heap.size≤l)(h:W.heap[l]?=some o)(hc:o.isCells=false)(hw:o.isWalk=false):Kc n₀ W (W.putObj l o'):=by
 refine⟨belowK_b hn W l o o' hl h hc hw,fun k c t fz _ hk=>?_⟩;have hne:k≠l:=by
  rintro rfl;rw[h] at hk;cases hk;simp[Obj.isCells] at hc
 exact (World.putObj_heap_other hne).trans hk
theorem Kc.of_below{n₀:Nat}{W W':World}(h:Below W.heap.size W W')(hn:n₀≤W.heap.size):Kc n₀ W W':=
 ⟨h.mono hn,fun k _ _ _ _ hk=>(h.block k (gE hk).1).trans hk⟩
theorem Kc.alloc{n₀:Nat}{w W:World}(h:Kc n₀ w W)(hn:n₀≤W.heap.size)(o:Obj):Kc n₀ w (W.alloc o):=
 h.trans (Kc.of_below ((Below.refl _ _).alloc (nl _) _) hn)
theorem ZcH{W W':World}(h:Below W.heap.size W W'):W.grownBy W' none:=⟨h.os,h.tape,h.output,h.size,fun k hk _=>h.block k hk⟩
abbrev PK:Type:={ x:Pc // x.s.t.length≤281474976710656 }
theorem ZiH:∀(l:List Pc),(∀x∈l,x.s.t.length≤281474976710656)→∃lα:List PK,lα.map Subtype.val=l
 | [],_=>⟨[],rfl⟩
 | x::r,h=>by
  obtain⟨lα,e⟩:=ZiH r (fun k hk=>h k (by simp[hk]));exact⟨⟨x,h x (by simp)⟩::lα,by simp[e]⟩
theorem Zl0 (l:Bs)(hl:l≠[]):(Zac l).t.length≤l.length:=by
 cases l with
 | nil=>exact absurd rfl hl
 | cons c r=>
  simp only[Zac];split
  ·simp
  split
  ·simp
  split
  ·simp only[List.length_take];omega
  split
  ·split
   ·simp
   ·simp only[List.length_take];omega
  split
  ·split
   ·simp only[List.length_take,lC];omega
   ·simp
  split
  ·rename_i h;cases r with
   | nil=>simp at h
   | cons x r=>simp
  split<;>simp
theorem Zom:∀(N:Nat) (a:Nat) (l:Bs),l.length≤N→∀x∈pcs a l,x.s.t.length≤l.length
 | 0,a,l,h,x,hx=>by
  have:l=[]:=List.eq_nil_of_length_eq_zero (by omega);subst this;rw[Zcx] at hx;cases hx
 | N+1,a,l,h,x,hx=>by
  by_cases hl:l=[]
  ·subst hl;rw[Zcx] at hx;cases hx
  ·rw[ZcR a l hl] at hx;have hn:=ZbS l hl;rcases List.mem_cons.1 hx with rfl | hx
   ·exact Zl0 l hl
   ·have:=Zom N _ _ (by rw[List.length_drop];omega) x hx;rw[List.length_drop] at this;omega
set_option maxRecDepth 100000 in
theorem Zjk (n:Nat)(hn:1≤n)(l Bs n₀:Nat)(s:ByteArray)(hs:s.size≤281474976710656)(xα:List PK)(hα:xα.map Subtype.val=Zaq 0 s.data.toList)
  (J Jx:List PK→World→Prop) (B0:Nat) (hJ:AbidesFrom B0 J)
  (hY:∀pre x W,J pre W→pre.length<xα.length→YieldAt Fence.wide (n-1) Tryz.prog l #[pcV x.1] W fun e W'=>
   (e=.returned (.bool true)∧J (pre++[x]) W'∧Kc n₀ W W')∨(e=.returned (.bool false)∧Jx (pre++[x]) W'))
  (W:World) (hBs:W.heap[Bs]?=some (.cells #[.string s] 9 (0,0))) (hW:n₀≤W.heap.size) (h0:J [] W) :
  CallsIn Fence.wide n Tryz.prog 171 #[.func (.yield l) #[] #[],.pointer (some ⟨Bs,0,none⟩)] W fun e W'=>(∃v,e=.returned v)∧
   ((∃ys,ys=xα∧J ys W')∨(∃pre,pre <+: xα∧Jx pre W')):=by
 have hcb:=(Zak hBs).1;have HB:=Hd hBs;clear hBs;have hf25:Fence.wide.fn 172:=trivial;have hf26:Fence.wide.fn 173:=trivial;refine callsIn_of_wp Tryz.func171 rfl trivial ?_ rfl;simp only[Tryz.ntmps171,List.size_toArray,lC,lN,Nat.reduceAdd,Nat.reduceSub,Array.replicate_succ,Array.replicate_zero,List.push_toArray,List.append_toArray,List.nil_append,cA]
 gi_wp2_with (gi_at_call 172;refine (callsIn_wide.2 (ZfL s 0 (Nat.zero_le _) hs _)).mono ?_;rintro e w1 ⟨i0,rfl,hg0,he0,hb0⟩)
 have hJ0:J [] w1:=hJ _ _ _ none h0 (ZcH hb0) (by simp);have hK0:Kc n₀ W w1:=Kc.of_below hb0 hW;have hp0:xα.map Subtype.val=Zaq i0 (s.data.toList.drop i0):=by rw[hα];simpa using hg0.2.2
 have hi0:=hg0.2.1;have HP0:=Hd hp0;have HE0:=Hd he0;clear hp0 he0 hg0 hb0 hcb
 gi_loopw [3] (fun s3 wr=>∃(j i:Nat),s3=.int .i64 (i:Int)∧i≤s.size∧j≤xα.length∧(xα.drop j).map Subtype.val=Zaq i (s.data.toList.drop i)∧(∀h:i<s.size,Zav s[i]=false∧s[i]≠35)∧J (xα.take j) wr∧Kc n₀ W wr) (fun s3 _=>s.size-(intOf s3).toNat)
 case atStart=>exact⟨0,i0,rfl,hi0,Nat.zero_le _,HP0.out,HE0.out,by simpa using hJ0,hK0⟩
 case round=>
  clear hJ0 hK0 hi0 HP0 HE0;obtain⟨j,i,rfl,hi,hj,hp,he,hJj,hK⟩:=hrel;have hcb:=(Zak (hK.own Bs _ _ _ (.inr rfl) HB.out)).1;have hwr:n₀≤wr.heap.size:=Nat.le_trans hW hK.below.size;by_cases hlt:i<s.size
  ·have hd:decide ((i:Int)<(s.size:Int))=true:=by simp;omega
   have hne:s.data.toList.drop i≠[]:=by rw[Zb4 hlt];simp
   have hst:=ZbS _ hne;rw[Zbf i _ hne (by rw[Zb4 hlt];exact ZgJ _ _ (he hlt).1 (he hlt).2),List.drop_drop] at hp;obtain⟨y,hy1,hy2,hp'⟩:∃y:PK,xα[j]?=some y∧y.1=⟨i,Zac (s.data.toList.drop i)⟩∧(xα.drop (j+1)).map Subtype.val=Zaq (i+(Zac (s.data.toList.drop i)).n) (s.data.toList.drop (i+(Zac (s.data.toList.drop i)).n)):=by
    cases hdr:xα.drop j with
    | nil=>rw[hdr] at hp;simp at hp
    | cons y r=>
     rw[hdr] at hp;simp only[List.map_cons,List.cons.injEq] at hp;refine⟨y,?_,hp.1,?_⟩
     ·have:(xα.drop j)[0]?=some y:=by rw[hdr];rfl
      simpa using this
     ·have:xα.drop (j+1)=r:=by rw[←List.tail_drop,hdr];rfl
      rw[this];exact hp.2
   have hjl:j<xα.length:=(List.getElem?_eq_some_iff.1 hy1).1;have htk:xα.take (j+1)=xα.take j++[y]:=by
    obtain⟨h1,rfl⟩:=List.getElem?_eq_some_iff.1 hy1;exact List.take_succ_eq_append_getElem h1
   have hpa:=ZhH s i hlt hs (he hlt).1 (he hlt).2 wr;rw[List.length_drop,←Lib.size_eq] at hst;rw[←hy2] at hpa;have hat:y.1.at_=i:=by rw[hy2]
   have hen:y.1.s.n=(Zac (s.data.toList.drop i)).n:=by rw[hy2]
   rw[←hen] at hp' hst;obtain⟨y,hyl⟩:=y;obtain⟨ya,sn,sk,st,sd⟩:=y;simp only at hat hp' hst hpa;subst hat;have HPA:=Hd hpa;have HP:=Hd hp';have HTK:=Hd htk;obtain⟨m,hm⟩:=eX (ya+sn);have hmi:ya<m:=by omega
   have hms:m≤s.size:=by omega
   rw[←hm] at HP;have HM:=Hd hm;clear hpa hp' htk hy1 hy2 hen hp hne he hm
   gi_wp2_with fail
   refine (callsIn_wide.2 HPA.out).mono ?_;rintro e w2 ⟨rfl,hb2⟩;have hJ1:J (xα.take j) (w2.alloc (.cells #[.int .i64 sk,.int .i64 ya,.string ⟨st.toArray⟩,.int .i64 (m:Int),.int .i64 sd] 199)):=hJ _ _ _ none (hJ _ _ _ none hJj (ZcH hb2) (by simp)) (World.grownBy_alloc _ _ none) (by simp);obtain⟨fn,tmps,assign,body,hy,hR⟩:=hY _ ⟨⟨ya,sn,sk,st,sd⟩,hyl⟩ _ hJ1 (by rw[List.length_take];omega);simp only[pcV,ZaN,←HM.out] at hy hR⊢;have HR:=Hd hR;have hw2:n₀≤w2.heap.size:=Nat.le_trans hwr hb2.size;have HK1:=Hd (hK.trans (Kc.of_below hb2 hwr));have hcb2:=(Zak (HK1.out.own Bs _ _ _ (.inr rfl) HB.out)).1;clear hR hJ1 hK hb2 hJj hcb
   gi_wp2_with fail
   refine HR.out.mono ?_;rintro e W3 (⟨rfl,hJ3,hk3⟩ | ⟨rfl,hJx3⟩)
   ·have hp3:=hk3.own w2.heap.size _ _ _ (.inl rfl) (hN w2 (.cells #[.int .i64 sk,.int .i64 ya,.string ⟨st.toArray⟩,.int .i64 (m:Int),.int .i64 sd] 199));have u3:W3.cell? ⟨w2.heap.size,3,none⟩=some (.int .i64 (m:Int)):=by simp[World.cell?,hp3]
    have HK3:=Hd ((HK1.out.alloc hw2 (.cells #[.int .i64 sk,.int .i64 ya,.string ⟨st.toArray⟩,.int .i64 (m:Int),.int .i64 sd] 199)).trans hk3);have hcb3:=(Zak (HK3.out.own Bs _ _ _ (.inr rfl) HB.out)).1;have HGE:=Hd (ZfL s m hms hs W3);clear hp3 hk3 hcb2
    gi_wp2_with fail
    refine (callsIn_wide.2 HGE.out).mono ?_;rintro e W4 ⟨i2,rfl,hg2,he2,hb4⟩;have HG2:=Hd hg2;have HE2:=Hd he2;have hmi2:=hg2.1;have hi2:=hg2.2.1;clear hg2 he2
    gi_wp2_with fail
    go_roundw
    case rel=>exact⟨j+1,i2,rfl,hi2,by omega,by rw[HP.out];exact HG2.out.2.2,HE2.out,by rw[HTK.out];exact hJ _ _ _ none hJ3 (ZcH hb4) (by simp),HK3.out.trans (Kc.of_below hb4 (Nat.le_trans hW HK3.out.below.size))⟩
    case measure=>simp[intOf];omega
   ·gi_wp2
    refine bodyPost_ret (results_none rfl _ _ _) rfl ?_;exact⟨⟨_,rfl⟩,.inr ⟨_,by rw[←HTK.out];exact List.take_prefix _ _,hJx3⟩⟩
  ·have hd:decide ((i:Int)<(s.size:Int))=false:=by simp;omega
   have hnil:xα.drop j=[]:=by
    rw[List.drop_of_length_le (i:=i) (l:=s.data.toList) (by rw[←Lib.size_eq];omega),Zcs] at hp
    simpa using hp
   have htk:xα.take j=xα:=List.take_of_length_le (by simpa using hnil);rw[htk] at hJj;clear hp hnil htk
   gi_wp2_with fail
   go_end0
   exact⟨⟨_,rfl⟩,.inl ⟨_,rfl,hJj⟩⟩
theorem ZkH (n:Nat)(s:ByteArray)(w:World) :
  CallsIn Fence.wide n Tryz.prog 140 #[.string s] w fun e w'=>e=.returned (.func (.func 171) #[] #[.pointer (some ⟨w.heap.size,0,none⟩)])∧w'=w.alloc (.cells #[.string s] 9):=by
 refine callsIn_of_wp Tryz.func140 rfl trivial ?_ rfl;simp only[Tryz.ntmps140,List.size_toArray,lC,lN,Nat.reduceAdd,Nat.reduceSub,Array.replicate_succ,Array.replicate_zero,List.push_toArray,List.append_toArray,List.nil_append,cA]
 gi_wp2
 go_ret
 exact⟨rfl,rfl⟩
theorem ZgX (n:Nat)(hn:1≤n)(Bs n₀:Nat)(s:ByteArray)(hs:s.size≤281474976710656)(xα:List PK)(hα:xα.map Subtype.val=Zaq 0 s.data.toList)(w:World)(hB:w.heap[Bs]?=some (.cells #[.string s] 9 (0,0)))(hn₀:n₀≤w.heap.size) :
  SeqStopsK Fence.wide n Tryz.prog 171 #[.pointer (some ⟨Bs,0,none⟩)] (fun x:PK=>#[pcV x.1]) (Kc n₀) (fun ys=>ys=xα) (fun pre=>pre <+: xα) xα.length w:=
 fun l J Jx W hW hJ _ hY h0=>
 Zjk n hn l Bs n₀ s hs xα hα J Jx _ hJ hY W ((hW.block _ (gE hB).1).trans hB) (Nat.le_trans hn₀ hW.size) h0
structure Tk where
 k:Nat
 a:Nat
 t:Bs
structure Dg where
 a:Nat
 d:Nat
def ZaG (l:List Pc):List Tk:=l.filterMap fun x=>if x.s.k=0 then none else some ⟨x.s.k,x.at_,x.s.t⟩
def Za2 (l:List Pc):List Dg:=l.filterMap fun x=>if x.s.d=0 then none else some ⟨x.at_,x.s.d⟩
def Tk.cells (t:Tk):List Value:=[.int .i64 t.k,.int .i64 t.a,.string ⟨t.t.toArray⟩]
def Dg.cells (t:Dg):List Value:=[.int .i64 t.a,.int .i64 t.d,.string ⟨#[]⟩]
def Zbn (l:List Tk):List Value:=l.flatMap Tk.cells
def Zbv (l:List Dg):List Value:=l.flatMap Dg.cells
theorem Zb7 (l:List Pc)(x:Pc):ZaG (l++[x])=ZaG l++(if x.s.k=0 then [] else [⟨x.s.k,x.at_,x.s.t⟩]):=by
 simp only[ZaG,List.filterMap_append,List.filterMap_cons,List.filterMap_nil];split<;>simp_all
theorem Zb6 (l:List Pc)(x:Pc):Za2 (l++[x])=Za2 l++(if x.s.d=0 then [] else [⟨x.at_,x.s.d⟩]):=by
 simp only[Za2,List.filterMap_append,List.filterMap_cons,List.filterMap_nil];split<;>simp_all
theorem Zcf (l:List Tk)(t:Tk):Zbn (l++[t])=Zbn l++t.cells:=by simp[Zbn]
theorem Zdf (l:List Dg)(t:Dg):Zbv (l++[t])=Zbv l++t.cells:=by simp[Zbv]
theorem ZdK (l:List Pc):(ZaG l).length≤l.length:=List.length_filterMap_le _ _
theorem ZeI (l:List Pc):(Za2 l).length≤l.length:=List.length_filterMap_le _ _
structure Rd (n₀:Nat)(W W':World):Prop where
 os:W'.os=W.os
 tape:W'.tape=W.tape
 output:W'.output=W.output
 size:W.heap.size≤W'.heap.size
 block:∀(k:Nat) (o:Obj),W.heap[k]?=some o→(k<n₀∨∀c t fz,o=.cells c t fz→t≠110∧t≠50∧t≠105∧t≠153)→W'.heap[k]?=some o
theorem Rd.refl (n₀:Nat)(W:World):Rd n₀ W W:=⟨rfl,rfl,rfl,nl _,fun _ _ h _=>h⟩
theorem Rd.trans{n₀:Nat}{A B C:World}(h:Rd n₀ A B)(k:Rd n₀ B C):Rd n₀ A C:=
 ⟨k.os.trans h.os,k.tape.trans h.tape,k.output.trans h.output,Nat.le_trans h.size k.size,fun i o hi hd=>k.block i o (h.block i o hi hd) hd⟩
theorem Rd.of_below{n₀:Nat}{W W':World}(h:Below W.heap.size W W'):Rd n₀ W W':=
 ⟨h.os,h.tape,h.output,h.size,fun k _ hk _=>(h.block k (gE hk).1).trans hk⟩
theorem Rd.alloc{n₀:Nat}{w W:World}(h:Rd n₀ w W)(o:Obj):Rd n₀ w (W.alloc o):=h.trans (Rd.of_below ((Below.refl _ _).alloc (nl _) _))
theorem Rd.setSame{n₀:Nat}{w W:World}(h:Rd n₀ w W){b:Nat}{v0 v1 v2 v3 v4:Value}(h5:Five W b v0 v1 v2 v3 v4):Rd n₀ w (W.setCell ⟨b,2,none⟩ v2):=
 ⟨h.os,h.tape,h.output,by simpa[World.setCell] using h.size,fun k o hk hd=>by
  have hk':=h.block k o hk hd;by_cases e:k=b
  ·subst e;have h6:(W.setCell ⟨k,2,none⟩ v2).heap[k]?=some (.cells #[v0,v1,v2,v3,v4] 199 (0,0)):=heap_setCell_same W k 2 _ _ v2 h5;rw[show W.heap[k]?=some (.cells #[v0,v1,v2,v3,v4] 199 (0,0)) from h5] at hk';rw[h6,←hk']
  ·exact (Below.heap_setCell W ⟨b,2,none⟩ v2 k e).trans hk'⟩
theorem Rd.setVar{n₀:Nat}{w W:World}(h:Rd n₀ w W){b i:Nat}{c:Array Value}{t:TypeId}{fz:Nat×Nat}(hb:w.heap[b]?=some (.cells c t fz))(ht:t=110∨t=50)(hn:n₀≤b)(v:Value):Rd n₀ w (W.setCell ⟨b,i,none⟩ v):=
 ⟨h.os,h.tape,h.output,by simpa[World.setCell] using h.size,fun k o hk hd=>(Below.heap_setCell W ⟨b,i,none⟩ v k (by
  intro e;have e':k=b:=e;subst e';rw[hb] at hk;cases hk;rcases hd with hd | hd
  ·omega
  ·have:=hd c t fz rfl;rcases ht with rfl | rfl
   ·exact absurd rfl this.1
   ·exact absurd rfl this.2.1)).trans (h.block k o hk hd)⟩
theorem Rd.grown{n₀:Nat}{w W W':World}(h:Rd n₀ w W){e:TypeId}{v:Value}{n:Nat}{xs:List Value}(hr:W.ownsRow n₀ e 3 v n xs)(ht:e=105∨e=153)(hg:W.grownBy W' v.ownBlock):Rd n₀ w W':=by
 refine⟨hg.os.trans h.os,hg.tape.trans h.tape,hg.output.trans h.output,Nat.le_trans h.size hg.size,fun k o hk hd=>?_⟩;have hk':=h.block k o hk hd;refine (hg.block k (gE hk').1 ?_).trans hk';intro e1;rcases hr.2 with ⟨rfl,_⟩ | ⟨g,cap,cur,rfl,hb,hgg,_⟩
 ·cases e1
 ·simp only[Value.ownBlock,Option.some.injEq] at e1;subst e1;rw[hgg] at hk';cases hk';rcases hd with hd | hd
  ·omega
  ·have:=hd _ _ _ rfl;rcases ht with rfl | rfl
   ·exact absurd rfl this.2.2.1
   ·exact absurd rfl this.2.2.2
theorem Rd.others{n₀:Nat}{W W':World}(h:Rd n₀ W W'):KeepsOthers W W':=
 ⟨h.size,fun k o hk hc=>h.block k o hk (.inr fun c t fz e=>by subst e;simp[Obj.isCells] at hc)⟩
theorem Rd.belows{n₀:Nat}{W W':World}(h:Rd n₀ W W')(hn:n₀≤W.heap.size):Below n₀ W W':=
 ⟨h.os,h.tape,h.output,h.size,fun k hk=>by
  obtain⟨o,ho⟩:∃o,W.heap[k]?=some o:=⟨_,Array.getElem?_eq_getElem (by omega)⟩;rw[ho];exact h.block k o ho (.inl hk)⟩
theorem Rd.kc{n₀:Nat}{W W':World}(h:Rd n₀ W W')(hn:n₀≤W.heap.size):Kc n₀ W W':=
 ⟨h.belows hn,fun k c t fz ht hk=>h.block k _ hk (.inr fun c' t' fz' e=>by cases e;rcases ht with rfl | rfl<;>decide)⟩
structure St (B:Nat)(v:Value)(n:Nat)(xs:List Value)(u:Value)(m:Nat)(ys:List Value)(W:World):Prop where
 c0:W.heap[B]?=some (.cells #[v] 110 (0,0))
 c1:W.heap[B+1]?=some (.cells #[u] 50 (0,0))
 r0:W.ownsRow B 105 3 v n xs
 r1:W.ownsRow B 153 3 u m ys
theorem Zar{w w':World}{base:Nat}{e:TypeId}{size:Nat}{v:Value}{n:Nat}{xs:List Value}(h:w.ownsRow base e size v n xs)(hk:∀(k:Nat) (c:Array Value),w.heap[k]?=some (.cells c e (0,0))→w'.heap[k]?=some (.cells c e (0,0))):w'.ownsRow base e size v n xs:=by
 refine⟨h.1,?_⟩;rcases h.2 with hn' | ⟨g,cap,cur,rfl,hb,hgg,rest⟩
 ·exact .inl hn'
 ·exact .inr ⟨g,cap,cur,rfl,hb,hk g cur hgg,rest⟩
theorem St.same{B:Nat}{v:Value}{n:Nat}{xs:List Value}{u:Value}{m:Nat}{ys:List Value}{W W':World}(h:St B v n xs u m ys W)
  (hk:∀(k:Nat) (c:Array Value) (t:TypeId),t=110∨t=50∨t=105∨t=153→W.heap[k]?=some (.cells c t (0,0))→W'.heap[k]?=some (.cells c t (0,0))):St B v n xs u m ys W':=
 ⟨hk _ _ _ (by simp) h.c0,hk _ _ _ (by simp) h.c1,Zar h.r0 (fun k c hc=>hk k c 105 (by simp) hc),Zar h.r1 (fun k c hc=>hk k c 153 (by simp) hc)⟩
theorem St.below{B:Nat}{v:Value}{n:Nat}{xs:List Value}{u:Value}{m:Nat}{ys:List Value}{W W':World}(h:St B v n xs u m ys W)(hb:Below W.heap.size W W'):St B v n xs u m ys W':=
 h.same fun k _ _ _ hk=>(hb.block k (gE hk).1).trans hk
theorem St.alloc{B:Nat}{v:Value}{n:Nat}{xs:List Value}{u:Value}{m:Nat}{ys:List Value}{W:World}(h:St B v n xs u m ys W)(o:Obj):St B v n xs u m ys (W.alloc o):=
 h.below ((Below.refl _ _).alloc (nl _) _)
theorem St.setOther{B:Nat}{v:Value}{n:Nat}{xs:List Value}{u:Value}{m:Nat}{ys:List Value}{W:World}(h:St B v n xs u m ys W){b i:Nat}{c:Array Value}(hb:W.heap[b]?=some (.cells c 199 (0,0)))(x:Value):St B v n xs u m ys (W.setCell ⟨b,i,none⟩ x):=
 h.same fun k c' t ht hk=>(Below.heap_setCell W ⟨b,i,none⟩ x k (by
  intro e;have e':k=b:=e;subst e';rw[hb] at hk;cases hk;simp at ht)).trans hk
theorem St.toks{B:Nat}{v v':Value}{n:Nat}{xs:List Value}{u:Value}{m:Nat}{ys:List Value}{W W':World}(h:St B v n xs u m ys W){n':Nat}{xs':List Value}(hr:W'.ownsRow B 105 3 v' n' xs')(hg:W.grownBy W' v.ownBlock) :
  W'.heap[B]?=some (.cells #[v] 110 (0,0))∧St B v' n' xs' u m ys (W'.setCell ⟨B,0,none⟩ v'):=by
 have hne:∀(k:Nat) (c:Array Value) (t:TypeId),t≠105→W.heap[k]?=some (.cells c t (0,0))→W'.heap[k]?=some (.cells c t (0,0)):=by
  intro k c t ht hk;refine (hg.block k (gE hk).1 ?_).trans hk;intro e;rcases h.r0.2 with ⟨rfl,_⟩ | ⟨g,cap,cur,rfl,hb,hgg,_⟩
  ·cases e
  ·simp only[Value.ownBlock,Option.some.injEq] at e;subst e;rw[hgg] at hk;cases hk;exact ht rfl
 have h0:=hne _ _ _ (by decide) h.c0;have hs:∀(k:Nat) (c:Array Value) (t:TypeId),t≠110→W'.heap[k]?=some (.cells c t (0,0))→(W'.setCell ⟨B,0,none⟩ v').heap[k]?=some (.cells c t (0,0)):=by
  intro k c t ht hk;refine (Below.heap_setCell W' ⟨B,0,none⟩ v' k ?_).trans hk;intro e;have e':k=B:=e;subst e';rw[h0] at hk;cases hk;exact ht rfl
 refine⟨h0,one_setCell h0,hs _ _ _ (by decide) (hne _ _ _ (by decide) h.c1),Zar hr (fun k c hc=>hs k c 105 (by decide) hc),Zar h.r1 (fun k c hc=>hs k c 153 (by decide) (hne k c 153 (by decide) hc))⟩
theorem St.told{B:Nat}{v u':Value}{n:Nat}{xs:List Value}{u:Value}{m:Nat}{ys:List Value}{W W':World}(h:St B v n xs u m ys W){n':Nat}{xs':List Value}(hr:W'.ownsRow B 153 3 u' n' xs')(hg:W.grownBy W' u.ownBlock) :
  W'.heap[B+1]?=some (.cells #[u] 50 (0,0))∧St B v n xs u' n' xs' (W'.setCell ⟨B+1,0,none⟩ u'):=by
 have hne:∀(k:Nat) (c:Array Value) (t:TypeId),t≠153→W.heap[k]?=some (.cells c t (0,0))→W'.heap[k]?=some (.cells c t (0,0)):=by
  intro k c t ht hk;refine (hg.block k (gE hk).1 ?_).trans hk;intro e;rcases h.r1.2 with ⟨rfl,_⟩ | ⟨g,cap,cur,rfl,hb,hgg,_⟩
  ·cases e
  ·simp only[Value.ownBlock,Option.some.injEq] at e;subst e;rw[hgg] at hk;cases hk;exact ht rfl
 have h1:=hne _ _ _ (by decide) h.c1;have hs:∀(k:Nat) (c:Array Value) (t:TypeId),t≠50→W'.heap[k]?=some (.cells c t (0,0))→(W'.setCell ⟨B+1,0,none⟩ u').heap[k]?=some (.cells c t (0,0)):=by
  intro k c t ht hk;refine (Below.heap_setCell W' ⟨B+1,0,none⟩ u' k ?_).trans hk;intro e;have e':k=B+1:=e;subst e';rw[h1] at hk;cases hk;exact ht rfl
 refine⟨h1,hs _ _ _ (by decide) (hne _ _ _ (by decide) h.c0),one_setCell h1,Zar h.r0 (fun k c hc=>hs k c 105 (by decide) (hne k c 105 (by decide) hc)),Zar hr (fun k c hc=>hs k c 153 (by decide) hc)⟩
theorem ZfM{W W':World}{b B:Nat}{e:TypeId}{v:Value}{n:Nat}{xs:List Value}{v0 v1 v2 v3 v4:Value}(h:Five W b v0 v1 v2 v3 v4)(hr:W.ownsRow B e 3 v n xs)(he:e≠199)(hg:W.grownBy W' v.ownBlock):Five W' b v0 v1 v2 v3 v4:=by
 unfold Five at *;refine (hg.block b (gE h).1 ?_).trans h;intro e1;rcases hr.2 with ⟨rfl,_⟩ | ⟨g,cap,cur,rfl,hb,hgg,_⟩
 ·cases e1
 ·simp only[Value.ownBlock,Option.some.injEq] at e1;subst e1;rw[hgg] at h;cases h;exact he rfl
theorem Zhe{W:World}{b:Nat}{v0 v1 v2 v3 v4:Value}(h:Five W b v0 v1 v2 v3 v4)(x:Value):Five (W.setCell ⟨b,2,none⟩ x) b v0 v1 x v3 v4:=heap_setCell_same W b 2 _ _ x h
attribute [local go_sem] Oper.semAt_some
theorem Znt:(Tryz.prog.info? 105).map (fun i=>(i.zero,i.size,i.bytes))=some (some (.agg #[.int .i64 0,.int .i64 0,.string ⟨#[]⟩]),3,32):=by kernel_rfl
theorem info41:(Tryz.prog.info? 153).map (fun i=>(i.zero,i.size,i.bytes))=some (some (.agg #[.int .i64 0,.int .i64 0,.string ⟨#[]⟩]),3,32):=by kernel_rfl
theorem ZlB{W:World}{b i:Nat}{c:Array Value}{t:TypeId}(h:W.heap[b]?=some (.cells c t (0,0))):W.cell? ⟨b,i,none⟩=c[i]?:=by simp[World.cell?,h]
theorem add_zero (b j:Nat):(⟨b,0,none⟩:Addr).add j=⟨b,j,none⟩:=by unfold Addr.add;split<;>simp_all
theorem ZaP (W:World)(x y z:Value)(t:TypeId):∀(j:Nat) (u:Value),[x,y,z][j]?=some u→(W.alloc (.cells #[x,y,z] t)).cell? ((⟨W.heap.size,0,none⟩:Addr).add j)=some u:=by
 intro j u hj;rw[add_zero,ZlB (hN W (.cells #[x,y,z] t))]
 simpa using hj
theorem Zeg (W:World)(b i:Nat)(v x y z:Value)(t:TypeId):∀(j:Nat) (u:Value),[x,y,z][j]?=some u→((W.setCell ⟨b,i,none⟩ v).alloc (.cells #[x,y,z] t)).cell? ((⟨W.heap.size,0,none⟩:Addr).add j)=some u:=by
 intro j u hj;have:=ZaP (W.setCell ⟨b,i,none⟩ v) x y z t j u hj
 simpa[World.setCell] using this
theorem Zd3 (W:World)(b i:Nat)(v:Value)(o:Obj):((W.setCell ⟨b,i,none⟩ v).alloc o).heap.size=W.heap.size+1:=by simp[World.setCell]
theorem one3{k a:Int}{t:ByteArray}:∀u∈[Value.int .i64 k,.int .i64 a,.string t],u.oneCell'=true:=by
 intro u hu;simp only[List.mem_cons,List.not_mem_nil,or_false] at hu;rcases hu with rfl | rfl | rfl<;>rfl
theorem ZdQ:∀(N a:Nat) (l:Bs),l.length≤N→(Zaq a l).length≤l.length
 | 0,a,l,h=>by
  have:l=[]:=List.eq_nil_of_length_eq_zero (by omega);subst this;simp[Zcs]
 | N+1,a,l,h=>by
  by_cases hl:l=[]
  ·subst hl;simp[Zcs]
  ·have hn:=ZbS l hl;have ih:=ZdQ N (a+(Zac l).n) (l.drop (Zac l).n) (by rw[List.length_drop];omega);rw[List.length_drop] at ih;by_cases hp:(Zac l).k≠0∨(Zac l).d≠0
   ·rw[Zbf a l hl hp,lC];omega
   ·rw[ZbA a l hl (by omega) (by omega)];omega
theorem ZbK{W W':World}{B:Nat}{e:TypeId}{v:Value}{n:Nat}{xs:List Value}(hr:W.ownsRow B e 3 v n xs)(hg:W.grownBy W' v.ownBlock){k:Nat}{o:Obj}(hk:W.heap[k]?=some o)(ho:∀c fz,o≠.cells c e fz):W'.heap[k]?=some o:=by
 refine (hg.block k (gE hk).1 ?_).trans hk;intro e1;rcases hr.2 with ⟨rfl,_⟩ | ⟨g,cap,cur,rfl,hb,hgg,_⟩
 ·cases e1
 ·simp only[Value.ownBlock,Option.some.injEq] at e1;subst e1;rw[hgg] at hk;cases hk;exact ho _ _ rfl
def ZfD (R:Act→World→Prop):Exit→Act→World→Prop
 | .normal,a,w=>R a w
 | _,_,_=>False
theorem Zjl{R:Act→World→Prop}{a:Act}{w:World}(h:R a w):ZfD R .normal a w:=h
theorem ZnA{n:Nat}{P:Program}{c:Code}{Q:Exit→Act→World→Prop}{a:Act}{w:World}(h:c.wp P (ZfD (fun a w=>Q .normal a w)) a w):c.wpIn Fence.wide n P Q a w:=
 wpIn_mono (wpIn_wide.2 h) fun e _ _ h=>by cases e<;>first | exact h | exact h.elim
theorem ZdP{w W W':World}{B0:Nat}{v u:Value}{ts:List Tk}{ds:List Dg}{l:List PK}{Ix:Code→List PK→World→Prop}{a':Act}(hS:St w.heap.size v ts.length (Zbn ts) u ds.length (Zbv ds) W')(hR:Rd w.heap.size W W')(hB:Below w.heap.size w W)
  (h1:ZaG (l.map Subtype.val)=ts) (h2:Za2 (l.map Subtype.val)=ds) :
  ownPostG B0 (Kc w.heap.size) (fun (pre:List PK) W=>(∃v u,St w.heap.size v (ZaG (pre.map Subtype.val)).length (Zbn (ZaG (pre.map Subtype.val))) u (Za2 (pre.map Subtype.val)).length (Zbv (Za2 (pre.map Subtype.val))) W)∧Below w.heap.size w W) Ix l W Exit.normal a' W':=by
 refine⟨hR.others.from _,hR.kc hB.size,⟨v,u,?_⟩,hB.trans (hR.belows hB.size)⟩;rw[h1,h2];exact hS
set_option maxRecDepth 100000 in
theorem ZoF (s:ByteArray)(hs:s.size≤1000000)(w:World) :
  Calls Tryz.prog 95 #[.string s] w fun e W'=>∃v u,e=.returned (.tuple #[v,u])∧
   W'.ownsRow w.heap.size 105 3 v ((ZaG (Zaq 0 s.data.toList)).length+1) (Zbn (ZaG (Zaq 0 s.data.toList)++[⟨6,s.size,[]⟩]))∧
   W'.ownsRow w.heap.size 153 3 u (Za2 (Zaq 0 s.data.toList)).length (Zbv (Za2 (Zaq 0 s.data.toList)))∧Below w.heap.size w W':=by
 obtain⟨xα,hα⟩:=ZiH (Zaq 0 s.data.toList) (fun x hx=>by
  have:=Zom s.data.toList.length 0 s.data.toList (nl _) x (List.mem_filter.1 hx).1;rw[←Lib.size_eq] at this;omega)
 rw[←callsIn_wide (n:=5)];have hff:Fence.wide.fn 140:=trivial;refine callsIn_of_wp_marks Tryz.func95 rfl trivial ?_ rfl;simp only[Tryz.ntmps95,List.size_toArray,lC,lN,Nat.reduceAdd,Nat.reduceSub,Array.replicate_succ,Array.replicate_zero,List.push_toArray,List.append_toArray,List.nil_append,cA]
 gi_wp2_with (gi_at_call 140;refine (ZkH _ _ _).mono ?_;rintro e w' ⟨rfl,rfl⟩)
 obtain⟨W0,hW0⟩:=eY (((w.alloc (.cells #[.slice none 0 0] 110)).alloc (.cells #[.slice none 0 0] 50)).alloc (.cells #[.string s] 9));have hs0:W0.heap.size=w.heap.size+3:=by rw[←hW0];simp
 have hT0:W0.heap[w.heap.size]?=some (.cells #[.slice none 0 0] 110 (0,0)):=by
  rw[←hW0];exact ((Below.heap_alloc _ _ _ (by simp;omega)).trans (Below.heap_alloc _ _ _ (by simp))).trans (World.alloc_heap_new w _)
 have hD0:W0.heap[w.heap.size+1]?=some (.cells #[.slice none 0 0] 50 (0,0)):=by
  rw[←hW0];refine (Below.heap_alloc _ _ _ (by simp)).trans ?_
  have:=World.alloc_heap_new (w.alloc (.cells #[.slice none 0 0] 110)) (.cells #[.slice none 0 0] 50);rwa [World.size_alloc] at this
 have hB0:W0.heap[w.heap.size+1+1]?=some (.cells #[.string s] 9 (0,0)):=by
  rw[←hW0];have:=World.alloc_heap_new ((w.alloc (.cells #[.slice none 0 0] 110)).alloc (.cells #[.slice none 0 0] 50)) (.cells #[.string s] 9);rwa [World.size_alloc,World.size_alloc] at this
 have hBW:Below w.heap.size w W0:=by rw[←hW0];exact (((Below.refl _ w).alloc (nl _) _).alloc (by simp) _).alloc (by simp;omega) _
 rw[hW0];clear hW0;have hxl:xα.length≤s.size:=by
  have h1:=congrArg List.length hα;rw[List.length_map] at h1;rw[h1,Lib.size_eq];exact ZdQ _ _ _ (nl _)
 refine wpIn_rangeFunc_ownH rfl (by omega) (gf:=171) (lb:=#[.pointer (some ⟨w.heap.size+1+1,0,none⟩)]) rfl trivial (enters_of Tryz.func171 (by kernel_rfl) rfl)
  (ZgX 4 (by omega) (w.heap.size+1+1) w.heap.size s (by omega) xα hα W0 hB0 (by omega)) (fun h k=>Kc.trans h k) (fun W l o o' h1 h2 h3 h4=>Kc.put (w:=W0) (by omega) W l o o' h1 h2 h3 h4) (Below.refl _ _) (fun _=>rfl)
  (fun pre W=>(∃v u,St w.heap.size v (ZaG (pre.map Subtype.val)).length (Zbn (ZaG (pre.map Subtype.val))) u (Za2 (pre.map Subtype.val)).length (Zbv (Za2 (pre.map Subtype.val))) W)∧Below w.heap.size w W)
  (fun _ _ _=>False)
  (OwnFrom.and (Own.from (I:=fun (pre:List PK) W=>∃v u,St w.heap.size v (ZaG (pre.map Subtype.val)).length (Zbn (ZaG (pre.map Subtype.val))) u (Za2 (pre.map Subtype.val)).length (Zbv (Za2 (pre.map Subtype.val))) W) (fun s A B row ⟨v,u,hs⟩ hg hr=>⟨v,u,hs.same fun k c t _ hk=>Zcd hk hg hr⟩) _) (ownFrom_below (nl _) (by omega)))
  (fun _ _ _ _ _ hs _ _=>hs)
  ⟨⟨.slice none 0 0,.slice none 0 0,hT0,hD0,World.ownsRow_nil _ _ _ _,World.ownsRow_nil _ _ _ _⟩,hBW⟩
  (fun x a' W=>∃b,w.heap.size+2≤b∧a'={ tmps:=#[.string s,undef,.slice none 0 0,.slice none 0 0,.pointer (some ⟨w.heap.size,0,none⟩),.pointer (some ⟨w.heap.size+1,0,none⟩),.pointer (some ⟨b,0,none⟩),.string s,.func (.func 171) #[] #[.pointer (some ⟨w.heap.size+1+1,0,none⟩)],pcV x.1,undef,undef,undef,undef,undef,undef,undef,undef,undef,undef,undef,undef,undef,undef,undef,undef,undef,undef,undef,undef,undef,undef,undef,undef,undef,undef,undef,undef,undef,undef,undef,undef,undef,undef],defers:=[] }∧Five W b (.int .i64 x.1.s.k) (.int .i64 x.1.at_) (.string ⟨x.1.s.t.toArray⟩) (.int .i64 ((x.1.at_+x.1.s.n:Nat):Int)) (.int .i64 x.1.s.d))
  (fun x a'=>Own.from (fun _ A B row ⟨b,h1,h2,h3⟩ hg hr=>⟨b,h1,h2,Zcd h3 hg hr⟩) _)
  ?assign ?body ?done ?stop
 case assign=>
  rintro l pre ⟨⟨ya,sn,sk,st,sd⟩,hyl⟩ W K ⟨⟨v,u,hSt⟩,hB⟩ hK;have hsz:w.heap.size+2≤W.heap.size:=(gE hSt.c1).1;obtain⟨m,hm⟩:=eX (ya+sn);have HM:=Hd hm;simp only[pcV,ZaN,←hm];clear hm
  gi_wp2
  have hBa:Below W.heap.size W (W.alloc (.cells #[.int .i64 sk,.int .i64 ya,.string ⟨st.toArray⟩,.int .i64 (m:Int),.int .i64 sd] 199)):=(Below.refl _ _).alloc (nl _) _;refine hK _ _ ((Rd.of_below (n₀:=w.heap.size) hBa).others.from _) (Kc.of_below hBa hB.size) ⟨⟨v,u,hSt.below hBa⟩,hB.trans (hBa.mono hB.size)⟩ ⟨W.heap.size,hsz,?_,?_⟩
  ·simp only[pcV,ZaN,←HM.out]
  ·simp only[←HM.out];exact ZbF W _ _ _ _ _
 case body=>
  rintro l pre ⟨⟨ya,sn,sk,st,sd⟩,hyl⟩ a' W hl hrec ⟨⟨v,u,hSt⟩,hB⟩ ⟨b,hb0,rfl,h5⟩ hlen;obtain⟨m,hm⟩:=eX (ya+sn);simp only[pcV,ZaN,←hm] at h5⊢;clear hm;have hbW:=(gE h5).1;have hne:¬w.heap.size=b:=by omega
  have hne':¬b=w.heap.size:=by omega
  have hne1:¬w.heap.size+1=b:=by omega
  have hne1':¬b=w.heap.size+1:=by omega
  obtain⟨ts,hts⟩:=eX (ZaG (pre.map Subtype.val));obtain⟨ds,hds⟩:=eX (Za2 (pre.map Subtype.val));have htl:ts.length≤pre.length:=by rw[hts];simpa using ZdK (pre.map Subtype.val)
  have hdl:ds.length≤pre.length:=by rw[hds];simpa using ZeI (pre.map Subtype.val)
  rw[←hts,←hds] at hSt;have HTS:=Hd hts;have HDS:=Hd hds;clear hts hds;obtain⟨⟨c0,c1,c2,c3,c4⟩,f0,f1,f2,f3,f4⟩:=Zbp h5;obtain⟨i0,hi,hz0,hz1,hz2⟩:=info_parts Znt;obtain⟨j0,hj,hy0,hy1,hy2⟩:=info_parts info41;have hf17:Fence.wide.fn 141:=trivial;rcases Nat.eq_zero_or_pos sk with rfl | hsk
  ·rcases Nat.eq_zero_or_pos sd with rfl | hsd
   ·
    gi_wp2
    exact ZdP hSt (Rd.refl _ _) hB (by rw[List.map_append,List.map_cons,List.map_nil,Zb7,←HTS.out];simp) (by rw[List.map_append,List.map_cons,List.map_nil,Zb6,←HDS.out];simp)
   ·
    have hd1:((sd:Int)==0)=false:=by simp;omega
    have hd2:¬(sd:Int)=0:=by omega
    have hmy:ds.length+1≤maxLen:=by unfold maxLen;omega
    have HBY:Hid (w.heap.size≤(W.alloc (.cells #[.int .i64 ya,.int .i64 sd,.string ⟨#[]⟩] 153)).heap.size):=by
     have h1:=hB.size;show _≤_;rw[World.size_alloc];omega
    have tu:=(Zak hSt.c1).1;have HS0:=Hd hSt
    gi_wp2_with (first | (gi_at_builtin;refine wpListIn_append_own _ rfl (.tmp 28) (.tmp 35) 50 rfl w.heap.size 153 j0 _ 3 32 Tryz.underlying50 hj hy0 hy1 hy2 rfl (by decide) _ _ _ rfl (HS0.out.r1.alloc _) ⟨W.heap.size,0,none⟩ 1 1 [.int .i64 ya,.int .i64 sd,.string ⟨#[]⟩] rfl rfl (ZaP W _ _ _ 153) one3 hmy (by omega) (HBY.out) ?_;intro u' W7 hown7 hg7 hnil7;clear hnil7;obtain⟨g',cap',rfl⟩:=ownsRow_succ hown7;(have hSt8:=(HS0.out.alloc (.cells #[.int .i64 ya,.int .i64 sd,.string ⟨#[]⟩] 153)).told hown7 hg7);obtain⟨m0,m1⟩:=Zak hSt8.1;(have HR7:=Hd ((Rd.refl _ _:Rd w.heap.size W _).alloc (.cells #[.int .i64 ya,.int .i64 sd,.string ⟨#[]⟩] 153) |>.grown (HS0.out.alloc (.cells #[.int .i64 ya,.int .i64 sd,.string ⟨#[]⟩] 153)).r1 (.inr rfl) hg7));(have HS8:=Hd hSt8.2);clear hSt8 hown7 hg7))
    refine ZdP (ts:=ts) (ds:=ds++[⟨ya,sd⟩]) (by rw[lA,Zdf];exact HS8.out) (HR7.out.setVar hSt.c1 (.inr rfl) (by omega) _) hB (by rw[List.map_append,List.map_cons,List.map_nil,Zb7,←HTS.out];simp) (by rw[List.map_append,List.map_cons,List.map_nil,Zb6,←HDS.out,if_neg (show ¬sd=0 by omega)])
  ·rcases Nat.eq_zero_or_pos sd with rfl | hsd
   ·
    have hk1:((sk:Int)==0)=false:=by simp;omega
    have hk2:¬(sk:Int)=0:=by omega
    gi_wp2_with fail
    refine (CallsIn.inRound l (callsIn_wide.2 (ZdM ⟨st.toArray⟩ _ (by rw[Lib.size_eq];exact hyl)))).mono ?_;rintro e W2 ⟨rfl,hb2⟩;have h52:=ZaZ h5 hb2 hbW;have h53:=Zhe h52 (.string ⟨st.toArray⟩);have hSt2:=hSt.below hb2;have hSt3:=hSt2.setOther (i:=2) h52 (.string ⟨st.toArray⟩);have hR3:=(Rd.of_below (n₀:=w.heap.size) hb2).setSame h52;obtain⟨⟨d0,d1,d2,d3,d4⟩,g0,g1,g2,g3,g4⟩:=Zbp h52;obtain⟨⟨p0,p1,p2,p3,p4⟩,-⟩:=Zbp h53;have t2:=(Zak hSt2.c0).1;have t3:=(Zak hSt3.c0).1;have HBS:Hid (w.heap.size≤((W2.setCell ⟨b,2,none⟩ (.string ⟨st.toArray⟩)).alloc (.cells #[.int .i64 sk,.int .i64 ya,.string ⟨st.toArray⟩] 105)).heap.size):=by
     have h1:=hB.size;have h2:=hb2.size;show _≤_;rw[Zd3];omega
    have hmx:ts.length+1≤maxLen:=by unfold maxLen;omega
    have H53:=Hd h53;have HS3:=Hd (hSt3.alloc (.cells #[.int .i64 sk,.int .i64 ya,.string ⟨st.toArray⟩] 105));have HR3:=Hd (hR3.alloc (.cells #[.int .i64 sk,.int .i64 ya,.string ⟨st.toArray⟩] 105));clear h53 h52 hSt2 hSt3 hR3 c0 c1 c2 c3 c4 f0 f1 f2 f3 f4
    gi_wp2_with (first | (gi_at_builtin;refine wpListIn_append_own _ rfl (.tmp 20) (.tmp 23) 110 rfl w.heap.size 105 i0 _ 3 32 Tryz.underlying110 hi hz0 hz1 hz2 rfl (by decide) _ _ _ rfl HS3.out.r0 ⟨W2.heap.size,0,none⟩ 1 1 [.int .i64 sk,.int .i64 ya,.string ⟨st.toArray⟩] rfl rfl (Zeg W2 b 2 _ _ _ _ 105) one3 hmx (by omega) HBS.out ?_;intro v' W5 hown5 hg5 hnil5;clear hnil5;obtain⟨g,cap,rfl⟩:=ownsRow_succ hown5;(have hSt6:=HS3.out.toks hown5 hg5);(have h55:=ZfM (ZaZ H53.out ((Below.refl _ _).alloc (nl _) _) (gE H53.out).1) HS3.out.r0 (by decide) hg5);obtain⟨⟨q0,q1,q2,q3,q4⟩,-⟩:=Zbp h55;obtain⟨k0,k1⟩:=Zak hSt6.1;(have hk5:W5.heap[w.heap.size+1]?=some (.cells #[u] 50 (0,0)):=(Below.heap_setCell W5 ⟨w.heap.size,0,none⟩ _ _ (by simp)).symm.trans hSt6.2.c1);obtain⟨k2,k3⟩:=Zak hk5;(have HR5:=Hd (HR3.out.grown HS3.out.r0 (.inl rfl) hg5));(have HS6:=Hd hSt6.2);clear hSt6 h55 hown5 hg5 hk5 t2 t3 d0 d1 d2 d3 d4 g0 g1 g2 g3 g4 p0 p1 p2 p3 p4))
    refine ZdP (ts:=ts++[⟨sk,ya,st⟩]) (ds:=ds) (by rw[lA,Zcf];exact HS6.out) (HR5.out.setVar hSt.c0 (.inl rfl) (nl _) _) hB (by rw[List.map_append,List.map_cons,List.map_nil,Zb7,←HTS.out,if_neg (show ¬sk=0 by omega)]) (by rw[List.map_append,List.map_cons,List.map_nil,Zb6,←HDS.out];simp)
   ·
    have hd1:((sd:Int)==0)=false:=by simp;omega
    have hd2:¬(sd:Int)=0:=by omega
    have hmy:ds.length+1≤maxLen:=by unfold maxLen;omega
    have hk1:((sk:Int)==0)=false:=by simp;omega
    have hk2:¬(sk:Int)=0:=by omega
    gi_wp2_with fail
    refine (CallsIn.inRound l (callsIn_wide.2 (ZdM ⟨st.toArray⟩ _ (by rw[Lib.size_eq];exact hyl)))).mono ?_;rintro e W2 ⟨rfl,hb2⟩;have h52:=ZaZ h5 hb2 hbW;have h53:=Zhe h52 (.string ⟨st.toArray⟩);have hSt2:=hSt.below hb2;have hSt3:=hSt2.setOther (i:=2) h52 (.string ⟨st.toArray⟩);have hR3:=(Rd.of_below (n₀:=w.heap.size) hb2).setSame h52;obtain⟨⟨d0,d1,d2,d3,d4⟩,g0,g1,g2,g3,g4⟩:=Zbp h52;obtain⟨⟨p0,p1,p2,p3,p4⟩,-⟩:=Zbp h53;have t2:=(Zak hSt2.c0).1;have t3:=(Zak hSt3.c0).1;have HBS:Hid (w.heap.size≤((W2.setCell ⟨b,2,none⟩ (.string ⟨st.toArray⟩)).alloc (.cells #[.int .i64 sk,.int .i64 ya,.string ⟨st.toArray⟩] 105)).heap.size):=by
     have h1:=hB.size;have h2:=hb2.size;show _≤_;rw[Zd3];omega
    have hmx:ts.length+1≤maxLen:=by unfold maxLen;omega
    have H53:=Hd h53;have HS3:=Hd (hSt3.alloc (.cells #[.int .i64 sk,.int .i64 ya,.string ⟨st.toArray⟩] 105));have HR3:=Hd (hR3.alloc (.cells #[.int .i64 sk,.int .i64 ya,.string ⟨st.toArray⟩] 105));clear h53 h52 hSt2 hSt3 hR3 c0 c1 c2 c3 c4 f0 f1 f2 f3 f4
    gi_wp2_with (first | (gi_at_builtin;refine wpListIn_append_own _ rfl (.tmp 20) (.tmp 23) 110 rfl w.heap.size 105 i0 _ 3 32 Tryz.underlying110 hi hz0 hz1 hz2 rfl (by decide) _ _ _ rfl HS3.out.r0 ⟨W2.heap.size,0,none⟩ 1 1 [.int .i64 sk,.int .i64 ya,.string ⟨st.toArray⟩] rfl rfl (Zeg W2 b 2 _ _ _ _ 105) one3 hmx (by omega) HBS.out ?_;intro v' W5 hown5 hg5 hnil5;clear hnil5;obtain⟨g,cap,rfl⟩:=ownsRow_succ hown5;(have hSt6:=HS3.out.toks hown5 hg5);(have h55:=ZfM (ZaZ H53.out ((Below.refl _ _).alloc (nl _) _) (gE H53.out).1) HS3.out.r0 (by decide) hg5);obtain⟨⟨q0,q1,q2,q3,q4⟩,-⟩:=Zbp h55;obtain⟨k0,k1⟩:=Zak hSt6.1;(have hk5:W5.heap[w.heap.size+1]?=some (.cells #[u] 50 (0,0)):=(Below.heap_setCell W5 ⟨w.heap.size,0,none⟩ _ _ (by simp)).symm.trans hSt6.2.c1);obtain⟨k2,k3⟩:=Zak hk5;(have HR5:=Hd (HR3.out.grown HS3.out.r0 (.inl rfl) hg5));(have HS6:=Hd hSt6.2);clear hSt6 h55 hown5 hg5 hk5 t2 t3 d0 d1 d2 d3 d4 g0 g1 g2 g3 g4 p0 p1 p2 p3 p4) | (gi_at_builtin;refine wpListIn_append_own _ rfl (.tmp 28) (.tmp 35) 50 rfl w.heap.size 153 j0 _ 3 32 Tryz.underlying50 hj hy0 hy1 hy2 rfl (by decide) _ _ _ rfl (HS6.out.r1.alloc _) ⟨W5.heap.size,0,none⟩ 1 1 [.int .i64 ya,.int .i64 sd,.string ⟨#[]⟩] rfl rfl (Zeg W5 w.heap.size 0 _ _ _ _ 153) one3 hmy (by omega) ((by rw[Zd3];have h1:=hB.size;have h3:=HR5.out.size;omega)) ?_;intro u' W7 hown7 hg7 hnil7;clear hnil7;obtain⟨g',cap',rfl⟩:=ownsRow_succ hown7;(have hSt8:=(HS6.out.alloc (.cells #[.int .i64 ya,.int .i64 sd,.string ⟨#[]⟩] 153)).told hown7 hg7);obtain⟨m0,m1⟩:=Zak hSt8.1;(have HR7:=Hd ((HR5.out.setVar hSt.c0 (.inl rfl) (nl _) _:Rd w.heap.size W _).alloc (.cells #[.int .i64 ya,.int .i64 sd,.string ⟨#[]⟩] 153) |>.grown (HS6.out.alloc (.cells #[.int .i64 ya,.int .i64 sd,.string ⟨#[]⟩] 153)).r1 (.inr rfl) hg7));(have HS8:=Hd hSt8.2);clear hSt8 hown7 hg7))
    refine ZdP (ts:=ts++[⟨sk,ya,st⟩]) (ds:=ds++[⟨ya,sd⟩]) (by rw[lA,lA,Zcf,Zdf];exact HS8.out) (HR7.out.setVar hSt.c1 (.inr rfl) (by omega) _) hB (by rw[List.map_append,List.map_cons,List.map_nil,Zb7,←HTS.out,if_neg (show ¬sk=0 by omega)]) (by rw[List.map_append,List.map_cons,List.map_nil,Zb6,←HDS.out,if_neg (show ¬sd=0 by omega)])
 case done=>
  rintro D ys W hD rfl ⟨⟨v,u,hSt⟩,hB⟩ hK;rw[hα] at hSt;obtain⟨ts,hts⟩:=eX (ZaG (Zaq 0 s.data.toList));obtain⟨ds,hds⟩:=eX (Za2 (Zaq 0 s.data.toList));have htl:ts.length≤s.size:=by
   rw[hts,Lib.size_eq];exact Nat.le_trans (ZdK _) (ZdQ _ _ _ (nl _))
  rw[←hts,←hds] at hSt;have HTS:=Hd hts;have HDS:=Hd hds;clear hts hds;obtain⟨i0,hi,hz0,hz1,hz2⟩:=info_parts Znt;have hSd:St w.heap.size v ts.length (Zbn ts) u ds.length (Zbv ds) W.drew:=hSt.same fun _ _ _ _ h=>h
  have hKd:W.drew.heap[D]?=some (.deferred (some [])):=hK;have hBd:Below w.heap.size w W.drew:=hB.drew;obtain⟨t0,-⟩:=Zak hSt.c0;obtain⟨t1,-⟩:=Zak hSt.c1;have hmx:ts.length+1≤maxLen:=by unfold maxLen;omega
  have HS4:=Hd (hSd.alloc (.cells #[.int .i64 6,.int .i64 (s.size:Int),.string ⟨#[]⟩] 105));have HB4:=Hd (hBd.alloc hBd.size (.cells #[.int .i64 6,.int .i64 (s.size:Int),.string ⟨#[]⟩] 105));have HK4:=Hd ((Below.heap_alloc W.drew (.cells #[.int .i64 6,.int .i64 (s.size:Int),.string ⟨#[]⟩] 105) D (gE hKd).1).trans hKd);have hSa:=hSt.alloc (.cells #[.int .i64 6,.int .i64 (s.size:Int),.string ⟨#[]⟩] 105);obtain⟨t2,-⟩:=Zak hSa.c0;obtain⟨t3,-⟩:=Zak hSa.c1;clear hSt hSd hKd hK hBd hB hSa
  gi_wp2
  refine ZnA ?_;go_region_law (refine step_append_lies _ rfl (.tmp 37) (.tmp 41) 110 rfl w.heap.size 105 i0 _ 3 32 Tryz.underlying110 hi hz0 hz1 hz2 rfl (by decide) v ts.length (Zbn ts) rfl HS4.out.r0 ⟨W.heap.size,0,none⟩ 1 1 [.int .i64 6,.int .i64 (s.size:Int),.string ⟨#[]⟩] rfl rfl (ZaP W.drew _ _ _ 105) one3 (by decide) hmx (by omega) HB4.out.size _ rfl ?_;intro g cap W5 hown5 hg5 hloc5 hlt5;clear hloc5 hlt5;(have hc5:=ZbK HS4.out.r0 hg5 HS4.out.c1 (fun c fz h=>by cases h));obtain⟨t5,-⟩:=Zak hc5;(have HO5:=Hd hown5);(have HG5:=Hd hg5);clear hown5 hg5 hc5)
  all_goals
   have hK5:W5.heap[D]?=some (.deferred (some [])):=ZbK HS4.out.r0 HG5.out HK4.out (fun c fz h=>by cases h);have hR5:W5.ownsRow w.heap.size 153 3 u ds.length (Zbv ds):=Zar HS4.out.r1 (fun k c hk=>ZbK HS4.out.r0 HG5.out hk (fun c fz h=>by cases h));have hB5:Below w.heap.size w W5:=HB4.out.trans (Rd.belows (Rd.grown (Rd.refl _ _) HS4.out.r0 (.inl rfl) HG5.out) HB4.out.size);have HR5:=Hd hR5;clear hR5;refine Zjl ?_
   gi_wp2
   refine⟨by simp,.inl ⟨_,_,rfl,run_takeDeferred hK5,?_⟩⟩;refine⟨_,results_tmp2 rfl _ _ _,_,_,rfl,?_,?_,?_⟩
   ·rw[←HTS.out,Zcf];exact Zar HO5.out (fun k c hk=>(World.putObj_heap_other (by rintro rfl;rw[hK5] at hk;cases hk)).trans hk)
   ·rw[←HDS.out];exact Zar HR5.out (fun k c hk=>(World.putObj_heap_other (by rintro rfl;rw[hK5] at hk;cases hk)).trans hk)
   ·exact hB5.trans (belowK_b (w:=w) (nl _) W5 D _ _ (by omega) hK5 rfl rfl)
 case stop=>
  rintro D c pre W _ _ h _;exact h.elim
abbrev Tri:Type:=Value×Value×Value
def Tri.cells (x:Tri):List Value:=[x.1,x.2.1,x.2.2]
def Tk.tri (t:Tk):Tri:=(.int .i64 t.k,.int .i64 t.a,.string ⟨t.t.toArray⟩)
theorem ZjV:∀(L:List Tri) (i:Nat) (x:Tri),L[i]?=some x→(L.flatMap Tri.cells)[3*i]?=some x.1∧(L.flatMap Tri.cells)[3*i+1]?=some x.2.1∧(L.flatMap Tri.cells)[3*i+2]?=some x.2.2
 | [],i,x,h=>by simp at h
 | y::r,0,x,h=>by
  simp at h;subst h;simp[Tri.cells]
 | y::r,i+1,x,h=>by
  have ih:=ZjV r i x (by simpa using h);have e:∀k,((y::r).flatMap Tri.cells)[3*(i+1)+k]?=(r.flatMap Tri.cells)[3*i+k]?:=by
   intro k;rw[List.flatMap_cons,List.getElem?_append_right (by simp[Tri.cells];omega)]
   congr 1
   simp[Tri.cells];omega
  exact⟨(e 0).trans ih.1,(e 1).trans ih.2.1,(e 2).trans ih.2.2⟩
theorem ZjY (l:List Tk):Zbn l=(l.map Tk.tri).flatMap Tri.cells:=by
 induction l with
 | nil=>rfl
 | cons x r ih=>simp only[Zbn,List.flatMap_cons,List.map_cons] at ih⊢;rw[ih];rfl
def Tris (W:World)(a0:Option Addr)(L:List Tri):Prop:=
 ∀i x,L[i]?=some x→∃g o,a0=some ⟨g,o,none⟩∧g<W.heap.size∧W.cell? ⟨g,o+3*i,none⟩=some x.1∧W.cell? ⟨g,o+3*i+1,none⟩=some x.2.1∧W.cell? ⟨g,o+3*i+2,none⟩=some x.2.2
theorem Tris.nil (W:World)(a0:Option Addr):Tris W a0 []:=fun i x h=>by simp at h
theorem ZjU{W:World}{base:Nat}{e:TypeId}{v:Value}{n:Nat}{L:List Tri}(h:W.ownsRow base e 3 v n (L.flatMap Tri.cells))(hn:n=L.length) :
  ∃a0 cap,v=.slice a0 L.length cap∧L.length≤cap∧cap≤maxLen∧(a0=none→L=[]∧cap=0)∧(∀a,a0=some a→∃g,a=⟨g,0,none⟩∧g<W.heap.size)∧Tris W a0 L:=by
 subst hn;rcases h.2 with ⟨hv,hn⟩ | ⟨g,cap,cur,hv,hb,hg,hc,hm,hs,ht⟩
 ·have hL:L=[]:=List.eq_nil_of_length_eq_zero hn;subst hL;exact⟨none,0,hv,nl _,Nat.zero_le _,fun _=>⟨rfl,rfl⟩,(fun a h=>by cases h),Tris.nil _ _⟩
 ·refine⟨some ⟨g,0,none⟩,cap,hv,hc,hm,(fun h=>by cases h),(fun a h=>by cases h;exact⟨g,rfl,(gE hg).1⟩),fun i x hx=>?_⟩;obtain⟨h1,h2,h3⟩:=ZjV L i x hx;have hc:∀j y,(L.flatMap Tri.cells)[j]?=some y→W.cell? ⟨g,j,none⟩=some y:=by
   intro j y hy;have:=h.cells (g:=g) (by rw[hv];rfl) j y hy;rw[add_zero] at this;exact this
  refine⟨g,0,rfl,(gE hg).1,?_,?_,?_⟩
  ·rw[Nat.zero_add];exact hc _ _ h1
  ·rw[Nat.zero_add];exact hc _ _ h2
  ·rw[Nat.zero_add];exact hc _ _ h3
def toks (l:Bs):List Tk:=ZaG (Zaq 0 l)++[⟨6,l.length,[]⟩]
def told (l:Bs):List Dg:=Za2 (Zaq 0 l)
/-! The Zaq by reckoning. -/
def pcsF:Nat→Nat→Bs→List Pc
 | 0,_,_=>[]
 | _+1,_,[]=>[]
 | f+1,a,c::r=>⟨a,Zac (c::r)⟩::pcsF f (a+(Zac (c::r)).n) ((c::r).drop (Zac (c::r)).n)
theorem ZhJ:∀(f a:Nat) (l:Bs),l.length≤f→pcs a l=pcsF f a l
 | 0,a,l,h=>by
  have:l=[]:=List.eq_nil_of_length_eq_zero (by omega);subst this;simp[Zcx,pcsF]
 | f+1,a,[],h=>by simp[Zcx,pcsF]
 | f+1,a,c::r,h=>by
  have hn:=ZbS (c::r) (by simp);rw[ZcR a (c::r) (by simp),pcsF,ZhJ f _ _ (by rw[List.length_drop];omega)]
def ZnM (l:Bs):List (Nat×Nat×Bs):=(ZaG ((pcsF l.length 0 l).filter Pc.isPiece)++[(⟨6,l.length,[]⟩:Tk)]).map (fun t:Tk=>(t.k,t.a,t.t))
theorem ZlX (l:Bs):(toks l).map (fun t=>(t.k,t.a,t.t))=ZnM l:=by
 rw[toks,ZnM,Zaq,ZhJ _ 0 l (nl _)]
def ZnK (l:Bs):List (Nat×Nat):=(Za2 ((pcsF l.length 0 l).filter Pc.isPiece)).map (fun t:Dg=>(t.a,t.d))
theorem ZlV (l:Bs):(told l).map (fun t=>(t.a,t.d))=ZnK l:=by
 rw[told,ZnK,Zaq,ZhJ _ 0 l (nl _)]
structure Dn where
 a:Nat
 d:Nat
 n:Bs
 deriving DecidableEq
inductive PT where
 | mk (k:Nat) (n:Bs) (ns:List Bs) (l:List PT)
inductive PE where
 | mk (k a:Nat) (n:Bs) (m:Nat) (ns:List Bs) (l:List PE) (ts:List PT)
structure PD where
 k:Nat
 a:Nat
 n:Bs
 ts:List PT
 es:List PE
inductive R (α:Type) where
 | ok (x:α) (r:List Tk) (d:List Dn)
 | bad (y:Dn) (r:List Tk) (d:List Dn)
def R.tell{α:Type}(d:List Dn):R α→R α
 | .ok x r e=>.ok x r (d++e)
 | .bad y r e=>.bad y r (d++e)
def R.bind{α β:Type}(x:R α)(f:α→List Tk→R β):R β:=
 match x with
 | .ok a r d=>(f a r).tell d
 | .bad y r d=>.bad y r d
theorem R.bind_ok{α β:Type}(a:α)(r:List Tk)(d:List Dn)(f:α→List Tk→R β):(R.ok a r d).bind f=(f a r).tell d:=rfl
theorem R.bind_bad{α β:Type}(y:Dn)(r:List Tk)(d:List Dn)(f:α→List Tk→R β):(R.bad y r d).bind f=.bad y r d:=rfl
theorem R.tell_ok{α:Type}(x:α)(r:List Tk)(d e:List Dn):(R.ok x r e).tell d=.ok x r (d++e):=rfl
theorem R.tell_bad{α:Type}(y:Dn)(r:List Tk)(d e:List Dn):(R.bad y r e:R α).tell d=.bad y r (d++e):=rfl
theorem R.tell_nil{α:Type}(x:R α):x.tell []=x:=by cases x<;>rfl
theorem R.tell_tell{α:Type}(d e:List Dn)(x:R α):(x.tell e).tell d=x.tell (d++e):=by cases x<;>simp[R.tell]
theorem R.bind_tell{α β:Type}(d:List Dn)(x:R α)(f:α→List Tk→R β):(x.tell d).bind f=(x.bind f).tell d:=by
 cases x with
 | ok a r e=>simp[R.bind,R.tell_ok,R.tell_tell]
 | bad y r e=>simp[R.bind,R.tell_bad]
def hd (ts:List Tk):Tk:=ts.headD ⟨6,0,[]⟩
def isM (m:Bs)(ts:List Tk):Bool:=((hd ts).k==2 || (hd ts).k==5)&&(hd ts).t==m
def syn (ts:List Tk):Dn:=⟨(hd ts).a,2,(hd ts).t⟩
def deep (ts:List Tk):Dn:=⟨(hd ts).a,3,[]⟩
def want (m:Bs)(ts:List Tk):R Unit:=if isM m ts then .ok () ts.tail [] else .bad (syn ts) ts []
def Zaj (ts:List Tk):R Tk:=if (hd ts).k=1 then .ok (hd ts) ts.tail [] else .bad (syn ts) ts []
section
variable {α : Type}
def ZaA (sign:Bs)(read:List Tk→R α):Nat→List Bs→List (Bs×α)→List Tk→R (List (Bs×α))
 | 0,_,acc,ts=>.ok acc ts []
 | n+1,seen,acc,ts=>(Zaj ts).bind fun nm r=>
   ((want sign r).bind fun _ r=>(read r).bind fun v r=>
    if isM [44] r then ZaA sign read n (nm.t::seen) (if nm.t∈seen then acc else acc++[(nm.t,v)]) r.tail
    else (want [125] r).bind fun _ r=>.ok (if nm.t∈seen then acc else acc++[(nm.t,v)]) r []).tell (if nm.t∈seen then [⟨nm.a,4,nm.t⟩] else [])
def Zbh (sign:Bs)(read:List Tk→R α)(ts:List Tk):R (List (Bs×α)):=
 if isM [125] ts then .ok [] ts.tail [] else ZaA sign read ts.length [] [] ts
end
def bsLt:Bs→Bs→Bool
 | [],[]=>false
 | [],_::_=>true
 | _::_,[]=>false
 | a::r,b::s=>if a.toNat<b.toNat then true else if b.toNat<a.toNat then false else bsLt r s
def insF{α:Type}(x:Bs×α):List (Bs×α)→List (Bs×α)
 | []=>[x]
 | y::r=>if bsLt y.1 x.1 then y::insF x r else x::y::r
def Zb1{α:Type}:List (Bs×α)→List (Bs×α)
 | []=>[]
 | x::r=>insF x (Zb1 r)
def tInt:PT:=.mk 1 [] [] []
def ZgI:PT:=.mk 2 [] [] []
def Zj2:PT:=.mk 3 [] [] []
def tDyn:PT:=.mk 4 [] [] []
def recT (fs:List (Bs×PT)):PT:=.mk 5 [] ((Zb1 fs).map (·.1)) ((Zb1 fs).map (·.2))
def Za9 (typ:List Tk→R PT)(ts:List Tk):R PT:=
 if (hd ts).k=1 then .ok (.mk 8 (hd ts).t [] []) ts.tail []
 else if isM [105,110,116] ts then .ok tInt ts.tail []
 else if isM [98,111,111,108] ts then .ok ZgI ts.tail []
 else if isM [116,101,120,116] ts then .ok Zj2 ts.tail []
 else if isM [63] ts then .ok tDyn ts.tail []
 else if isM [123] ts then (Zbh [58] typ ts.tail).bind fun fs r=>.ok (recT fs) r []
 else if isM [40] ts then (typ ts.tail).bind fun t r=>(want [41] r).bind fun _ r=>.ok t r []
 else .bad (syn ts) ts []
def Zck (plain arrow:List Tk→R PT)(ts:List Tk):R PT:=
 (plain ts).bind fun t r=>if isM [45,62] r then (arrow r.tail).bind fun u r=>.ok (.mk 6 [] [] [t,u]) r [] else .ok t r []
def ZaV (arrow:List Tk→R PT):Nat→List PT→List Tk→R (List PT)
 | 0,acc,ts=>.ok acc ts []
 | n+1,acc,ts=>if isM [124] ts then (arrow ts.tail).bind fun t r=>ZaV arrow n (acc++[t]) r else .ok acc ts []
def Zeb:List PT→PT
 | [t]=>t
 | l=>.mk 7 [] [] l
def typP (arrow:List Tk→R PT)(ts:List Tk):R PT:=
 (arrow ts).bind fun t r=>(ZaV arrow r.length [t] r).bind fun l r=>.ok (Zeb l) r []
def lvT:Nat→(List Tk→R PT)×(List Tk→R PT)
 | 0=>(fun ts=>.bad (deep ts) ts [],fun ts=>.bad (deep ts) ts [])
 | n+1=>(typP (Zck (Za9 (lvT n).1) (lvT n).2),Zck (Za9 (lvT n).1) (lvT n).2)
def typ (n:Nat):List Tk→R PT:=(lvT n).1
def arr (n:Nat):List Tk→R PT:=(lvT n).2
def ZbM (l:Bs):Nat:=l.foldl (fun n c=>10*n+(c.toNat-48)) 0
def recE (a:Nat)(fs:List (Bs×PE)):PE:=.mk 5 a [] 0 (fs.map (·.1)) (fs.map (·.2)) []
def Za0 (typ:List Tk→R PT)(expr:List Tk→R PE)(ts:List Tk):R PE:=
 if (hd ts).k=3 then .ok (.mk 1 (hd ts).a [] (ZbM (hd ts).t) [] [] []) ts.tail []
 else if (hd ts).k=4 then .ok (.mk 2 (hd ts).a (hd ts).t 0 [] [] []) ts.tail []
 else if (hd ts).k=1 then .ok (.mk 4 (hd ts).a (hd ts).t 0 [] [] []) ts.tail []
 else if isM [116,114,117,101] ts then .ok (.mk 3 (hd ts).a [] 1 [] [] []) ts.tail []
 else if isM [102,97,108,115,101] ts then .ok (.mk 3 (hd ts).a [] 0 [] [] []) ts.tail []
 else if isM [123] ts then (Zbh [61] expr ts.tail).bind fun fs r=>.ok (recE (hd ts).a fs) r []
 else if isM [40] ts then (expr ts.tail).bind fun e r=>
  if isM [58] r then (typ r.tail).bind fun t r=>(want [41] r).bind fun _ r=>.ok (.mk 11 (hd ts).a [] 0 [] [e] [t]) r []
  else (want [41] r).bind fun _ r=>.ok e r []
 else .bad (syn ts) ts []
def ZbD (expr:List Tk→R PE):Nat→PE→List Tk→R PE
 | 0,e,ts=>.ok e ts []
 | n+1,e,ts=>
  if isM [40] ts then (expr ts.tail).bind fun g r=>(want [41] r).bind fun _ r=>ZbD expr n (.mk 7 (hd ts).a [] 0 [] [e,g] []) r
  else if isM [46] ts then (Zaj ts.tail).bind fun nm r=>ZbD expr n (.mk 6 nm.a nm.t 0 [] [e] []) r
  else .ok e ts []
def funP (typ:List Tk→R PT)(expr:List Tk→R PE)(a:Nat)(ts:List Tk):R PE:=
 (want [40] ts).bind fun _ r=>(Zaj r).bind fun nm r=>(want [58] r).bind fun _ r=>(typ r).bind fun t r=>(want [41] r).bind fun _ r=>(expr r).bind fun e r=>.ok (.mk 8 a nm.t 0 [] [e] [t]) r []
def letP (expr:List Tk→R PE)(a:Nat)(ts:List Tk):R PE:=
 (Zaj ts).bind fun nm r=>(want [61] r).bind fun _ r=>(expr r).bind fun v r=>(want [105,110] r).bind fun _ r=>(expr r).bind fun b r=>.ok (.mk 9 a nm.t 0 [] [v,b] []) r []
def ifP (expr:List Tk→R PE)(a:Nat)(ts:List Tk):R PE:=
 (expr ts).bind fun x r=>(want [116,104,101,110] r).bind fun _ r=>(expr r).bind fun y r=>(want [101,108,115,101] r).bind fun _ r=>(expr r).bind fun z r=>.ok (.mk 10 a [] 0 [] [x,y,z] []) r []
def ZcI (typ:List Tk→R PT)(expr:List Tk→R PE)(ts:List Tk):R PE:=
 if isM [102,117,110] ts then funP typ expr (hd ts).a ts.tail
 else if isM [108,101,116] ts then letP expr (hd ts).a ts.tail
 else if isM [105,102] ts then ifP expr (hd ts).a ts.tail
 else (Za0 typ expr ts).bind fun e r=>ZbD expr r.length e r
def exp:Nat→List Tk→R PE
 | 0=>fun ts=>.bad (deep ts) ts []
 | n+1=>ZcI (typ n) (exp n)
def ZbI (ts:List Tk):R PD:=
 if isM [117,115,101] ts then (Zaj ts.tail).bind fun nm r=>(want [59] r).bind fun _ r=>.ok ⟨1,nm.a,nm.t,[],[]⟩ r []
 else if isM [116,121,112,101] ts then (Zaj ts.tail).bind fun nm r=>(want [61] r).bind fun _ r=>(typ 64 r).bind fun t r=>(want [59] r).bind fun _ r=>.ok ⟨2,nm.a,nm.t,[t],[]⟩ r []
 else (want [108,101,116] ts).bind fun _ r=>(Zaj r).bind fun nm r=>
  if isM [58] r then (typ 64 r.tail).bind fun t r=>(want [61] r).bind fun _ r=>(exp 64 r).bind fun e r=>(want [59] r).bind fun _ r=>.ok ⟨3,nm.a,nm.t,[t],[e]⟩ r []
  else (want [61] r).bind fun _ r=>(exp 64 r).bind fun e r=>(want [59] r).bind fun _ r=>.ok ⟨3,nm.a,nm.t,[],[e]⟩ r []
def Za4:List Tk→List Tk
 | []=>[]
 | t::r=>if t.k=6 then t::r else if isM [59] (t::r) then r else Za4 r
def ZaO:Nat→List Tk→List PD×List Dn
 | 0,_=>([],[])
 | n+1,ts=>
  if (hd ts).k=6 then ([],[])
  else match ZbI ts with
   | .ok d r e=>(d::(ZaO n r).1,e++(ZaO n r).2)
   | .bad y r e=>((ZaO n (Za4 r)).1,e++(y::(ZaO n (Za4 r)).2))
def ZjM{α:Type}(read:List Tk→R α)(ts:List Tk)(told:List Dn):Option α:=
 if told≠[] then none else
 match read ts with
 | .ok x r []=>if (hd r).k=6 then some x else none
 | _=>none
def stT (t:TypeId):Bool:=t==153 || t==112 || t==92 || t==192
inductive Dt where
 | num (n:Int)
 | str (s:Bs)
 | row (e:TypeId) (size n:Nat) (l:List Dt)
mutual
def IsC (A:Nat→Prop)(w:World):Dt→Value→Prop
 | .num n,v=>v=.int .i64 n
 | .str s,v=>v=.string ⟨s.toArray⟩
 | .row e size n l,v=>∃xs,stT e=false∧w.ownsRow 0 e size v n xs∧(∀b,v.ownBlock=some b→A b)∧IsCs A w l xs
def IsCs (A:Nat→Prop)(w:World):List Dt→List Value→Prop
 | [],xs=>xs=[]
 | d::r,xs=>∃x ys,xs=x::ys∧IsC A w d x∧IsCs A w r ys
end
structure Fr (n₀:Nat)(W W':World):Prop where
 os:W'.os=W.os
 tape:W'.tape=W.tape
 output:W'.output=W.output
 size:W.heap.size≤W'.heap.size
 block:∀(k:Nat) (o:Obj),W.heap[k]?=some o→(k<n₀∨∀c t fz,o=.cells c t fz→stT t=false)→W'.heap[k]?=some o
theorem Fr.refl (n₀:Nat)(W:World):Fr n₀ W W:=⟨rfl,rfl,rfl,nl _,fun _ _ h _=>h⟩
theorem Fr.trans{n₀:Nat}{A B C:World}(h:Fr n₀ A B)(k:Fr n₀ B C):Fr n₀ A C:=
 ⟨k.os.trans h.os,k.tape.trans h.tape,k.output.trans h.output,Nat.le_trans h.size k.size,fun i o hi hd=>k.block i o (h.block i o hi hd) hd⟩
theorem Fr.of_below{n₀:Nat}{W W':World}(h:Below W.heap.size W W'):Fr n₀ W W':=
 ⟨h.os,h.tape,h.output,h.size,fun k _ hk _=>(h.block k (gE hk).1).trans hk⟩
theorem Fr.alloc{n₀:Nat}{w W:World}(h:Fr n₀ w W)(o:Obj):Fr n₀ w (W.alloc o):=h.trans (Fr.of_below ((Below.refl _ _).alloc (nl _) _))
theorem Fr.drew{n₀:Nat}{w W:World}(h:Fr n₀ w W):Fr n₀ w W.drew:=⟨h.os,h.tape,h.output,h.size,h.block⟩
theorem Fr.below{n₀:Nat}{w W W':World}(h:Fr n₀ w W)(hb:Below W.heap.size W W'):Fr n₀ w W':=h.trans (Fr.of_below hb)
theorem Fr.alike{n₀:Nat}{w W W':World}(h:Fr n₀ w W)(e:W'.heap=W.heap)(e1:W'.os=W.os)(e2:W'.tape=W.tape)(e3:W'.output=W.output):Fr n₀ w W':=
 ⟨e1.trans h.os,e2.trans h.tape,e3.trans h.output,by rw[e];exact h.size,fun k o hk hd=>by rw[e];exact h.block k o hk hd⟩
theorem Fr.setNew{n₀:Nat}{w W:World}(h:Fr n₀ w W){b i:Nat}(hb:w.heap.size≤b)(v:Value):Fr n₀ w (W.setCell ⟨b,i,none⟩ v):=
 ⟨h.os,h.tape,h.output,by simpa[World.setCell] using h.size,fun k o hk hd=>(Below.heap_setCell W ⟨b,i,none⟩ v k (by have:=(gE hk).1;simp;omega)).trans (h.block k o hk hd)⟩
theorem Fr.setOwn{n₀:Nat}{w W:World}(h:Fr n₀ w W){b i:Nat}{c:Array Value}{t:TypeId}{fz:Nat×Nat}(hb:W.heap[b]?=some (.cells c t fz))(ht:stT t=true)(hn:n₀≤b)(v:Value):Fr n₀ w (W.setCell ⟨b,i,none⟩ v):=
 ⟨h.os,h.tape,h.output,by simpa[World.setCell] using h.size,fun k o hk hd=>by
  have hk':=h.block k o hk hd;refine (Below.heap_setCell W ⟨b,i,none⟩ v k ?_).trans hk';intro e;have e':k=b:=e;subst e';rw[hb] at hk';cases hk';rcases hd with hd | hd
  ·omega
  ·rw[hd _ _ _ rfl] at ht;cases ht⟩
theorem Fr.grown{n₀:Nat}{w W W':World}(h:Fr n₀ w W){e:TypeId}{sz:Nat}{v:Value}{n:Nat}{xs:List Value}(hr:W.ownsRow n₀ e sz v n xs)(ht:stT e=true∨∀b,v.ownBlock=some b→w.heap.size≤b)(hg:W.grownBy W' v.ownBlock):Fr n₀ w W':=by
 refine⟨hg.os.trans h.os,hg.tape.trans h.tape,hg.output.trans h.output,Nat.le_trans h.size hg.size,fun k o hk hd=>?_⟩;have hk':=h.block k o hk hd;refine (hg.block k (gE hk').1 ?_).trans hk';intro e1;rcases hr.2 with ⟨rfl,_⟩ | ⟨g,cap,cur,rfl,hb,hgg,_⟩
 ·cases e1
 ·simp only[Value.ownBlock,Option.some.injEq] at e1;subst e1;rw[hgg] at hk';cases hk';rcases ht with ht | ht
  ·rcases hd with hd | hd
   ·omega
   ·rw[hd _ _ _ rfl] at ht;cases ht
  ·have:=ht k rfl;have:=(gE hk).1;omega
theorem Fr.belows{n₀:Nat}{W W':World}(h:Fr n₀ W W')(hn:n₀≤W.heap.size):Below n₀ W W':=
 ⟨h.os,h.tape,h.output,h.size,fun k hk=>by
  obtain⟨o,ho⟩:∃o,W.heap[k]?=some o:=⟨_,Array.getElem?_eq_getElem (by omega)⟩;rw[ho];exact h.block k o ho (.inl hk)⟩
theorem Fr.cells{n₀:Nat}{W W':World}(h:Fr n₀ W W'){b:Nat}{c:Array Value}{t:TypeId}{fz:Nat×Nat}(hb:W.heap[b]?=some (.cells c t fz))(ht:stT t=false):W'.heap[b]?=some (.cells c t fz):=
 h.block b _ hb (.inr fun _ _ _ e=>by cases e;exact ht)
theorem Fr.row{n₀:Nat}{W W':World}(h:Fr n₀ W W'){base:Nat}{e:TypeId}{size:Nat}{v:Value}{n:Nat}{xs:List Value}(hr:W.ownsRow base e size v n xs)(ht:stT e=false):W'.ownsRow base e size v n xs:=by
 refine⟨hr.1,?_⟩;rcases hr.2 with hn | ⟨g,cap,cur,hv,hb,hg,rest⟩
 ·exact .inl hn
 ·exact .inr ⟨g,cap,cur,hv,hb,h.cells hg ht,rest⟩
theorem Zbc{S:Nat→Prop}{w w':World}{base:Nat}{e:TypeId}{size:Nat}{v:Value}{n:Nat}{xs:List Value}(h:w.ownsRow base e size v n xs)(_hs:w.heap.size≤w'.heap.size)(k:∀i,i<w.heap.size→¬S i→w'.heap[i]?=w.heap[i]?)(hn:∀b,v.ownBlock=some b→¬S b):w'.ownsRow base e size v n xs:=by
 refine⟨h.1,?_⟩;rcases h.2 with hn' | ⟨g,cap,cur,rfl,hb,hgg,rest⟩
 ·exact .inl hn'
 ·exact .inr ⟨g,cap,cur,rfl,hb,(k g (gE hgg).1 (hn g rfl)).trans hgg,rest⟩
mutual
theorem IsC.fr{A:Nat→Prop}{n₀:Nat}{w w':World}(hF:Fr n₀ w w'):∀(d:Dt) (v:Value),IsC A w d v→IsC A w' d v
 | .num n,v,h=>by simpa only[IsC] using h
 | .str s,v,h=>by simpa only[IsC] using h
 | .row e size n l,v,h=>by
  simp only[IsC] at h⊢;obtain⟨xs,h1,h2,h3,h4⟩:=h;exact⟨xs,h1,hF.row h2 h1,h3,IsCs.fr hF l xs h4⟩
theorem IsCs.fr{A:Nat→Prop}{n₀:Nat}{w w':World}(hF:Fr n₀ w w'):∀(l:List Dt) (xs:List Value),IsCs A w l xs→IsCs A w' l xs
 | [],xs,h=>by simpa only[IsCs] using h
 | d::r,xs,h=>by
  simp only[IsCs] at h⊢;obtain⟨x,ys,h1,h2,h3⟩:=h;exact⟨x,ys,h1,IsC.fr hF d x h2,IsCs.fr hF r ys h3⟩
end
mutual
theorem IsC.kept{A S:Nat→Prop}{w w':World}(hs:w.heap.size≤w'.heap.size)(hk:∀i,i<w.heap.size→¬S i→w'.heap[i]?=w.heap[i]?)(hA:∀b,A b→¬S b):∀(d:Dt) (v:Value),IsC A w d v→IsC A w' d v
 | .num n,v,h=>by simpa only[IsC] using h
 | .str s,v,h=>by simpa only[IsC] using h
 | .row e size n l,v,h=>by
  simp only[IsC] at h⊢;obtain⟨xs,h1,h2,h3,h4⟩:=h;exact⟨xs,h1,Zbc h2 hs hk (fun b hb=>hA b (h3 b hb)),h3,IsCs.kept hs hk hA l xs h4⟩
theorem IsCs.kept{A S:Nat→Prop}{w w':World}(hs:w.heap.size≤w'.heap.size)(hk:∀i,i<w.heap.size→¬S i→w'.heap[i]?=w.heap[i]?)(hA:∀b,A b→¬S b):∀(l:List Dt) (xs:List Value),IsCs A w l xs→IsCs A w' l xs
 | [],xs,h=>by simpa only[IsCs] using h
 | d::r,xs,h=>by
  simp only[IsCs] at h⊢;obtain⟨x,ys,h1,h2,h3⟩:=h;exact⟨x,ys,h1,IsC.kept hs hk hA d x h2,IsCs.kept hs hk hA r ys h3⟩
end
mutual
theorem IsC.mono{A A':Nat→Prop}{w:World}(hA:∀b,b<w.heap.size→A b→A' b):∀(d:Dt) (v:Value),IsC A w d v→IsC A' w d v
 | .num n,v,h=>by simpa only[IsC] using h
 | .str s,v,h=>by simpa only[IsC] using h
 | .row e size n l,v,h=>by
  simp only[IsC] at h⊢;obtain⟨xs,h1,h2,h3,h4⟩:=h;exact⟨xs,h1,h2,fun b hb=>hA b (h2.lt b hb).2 (h3 b hb),IsCs.mono hA l xs h4⟩
theorem IsCs.mono{A A':Nat→Prop}{w:World}(hA:∀b,b<w.heap.size→A b→A' b):∀(l:List Dt) (xs:List Value),IsCs A w l xs→IsCs A' w l xs
 | [],xs,h=>by simpa only[IsCs] using h
 | d::r,xs,h=>by
  simp only[IsCs] at h⊢;obtain⟨x,ys,h1,h2,h3⟩:=h;exact⟨x,ys,h1,IsC.mono hA d x h2,IsCs.mono hA r ys h3⟩
end
theorem IsC.one{A:Nat→Prop}{w:World}:∀(d:Dt) (v:Value),IsC A w d v→v.oneCell'=true
 | .num n,v,h=>by simp only[IsC] at h;subst h;rfl
 | .str s,v,h=>by simp only[IsC] at h;subst h;rfl
 | .row e size n l,v,h=>by
  simp only[IsC] at h;obtain⟨xs,h1,h2,h3,h4⟩:=h;rcases h2.2 with ⟨rfl,_⟩ | ⟨g,cap,cur,rfl,_⟩<;>rfl
theorem IsCs.one{A:Nat→Prop}{w:World}:∀(l:List Dt) (xs:List Value),IsCs A w l xs→∀u∈xs,u.oneCell'=true
 | [],xs,h=>by simp only[IsCs] at h;subst h;simp
 | d::r,xs,h=>by
  simp only[IsCs] at h;obtain⟨x,ys,rfl,h2,h3⟩:=h;intro u hu;rcases List.mem_cons.1 hu with rfl | hu
  ·exact IsC.one d _ h2
  ·exact IsCs.one r ys h3 u hu
theorem IsCs.length{A:Nat→Prop}{w:World}:∀(l:List Dt) (xs:List Value),IsCs A w l xs→xs.length=l.length
 | [],xs,h=>by simp only[IsCs] at h;subst h;rfl
 | d::r,xs,h=>by
  simp only[IsCs] at h;obtain⟨x,ys,rfl,h2,h3⟩:=h;simp[IsCs.length r ys h3]
theorem IsCs.append{A:Nat→Prop}{w:World}:∀(l m:List Dt) (xs ys:List Value),IsCs A w l xs→IsCs A w m ys→IsCs A w (l++m) (xs++ys)
 | [],m,xs,ys,h,k=>by simp only[IsCs] at h;subst h;simpa using k
 | d::r,m,xs,ys,h,k=>by
  simp only[IsCs] at h;obtain⟨x,zs,rfl,h2,h3⟩:=h;simp only[cA,IsCs];exact⟨x,zs++ys,rfl,h2,IsCs.append r m zs ys h3 k⟩
theorem IsCs.split{A:Nat→Prop}{w:World}:∀(l m:List Dt) (xs:List Value),IsCs A w (l++m) xs→∃a b,xs=a++b∧IsCs A w l a∧IsCs A w m b
 | [],m,xs,h=>⟨[],xs,rfl,by simp only[IsCs],by simpa using h⟩
 | d::r,m,xs,h=>by
  simp only[cA,IsCs] at h;obtain⟨x,ys,rfl,h2,h3⟩:=h;obtain⟨a,b,rfl,h4,h5⟩:=IsCs.split r m ys h3;exact⟨x::a,b,rfl,by simp only[IsCs];exact⟨x,a,rfl,h2,h4⟩,h5⟩
theorem IsCs.nil (A:Nat→Prop)(w:World):IsCs A w [] []:=by simp only[IsCs]
theorem IsCs.cons{A:Nat→Prop}{w:World}{d:Dt}{r:List Dt}{x:Value}{ys:List Value}(h:IsC A w d x)(k:IsCs A w r ys):IsCs A w (d::r) (x::ys):=by
 simp only[IsCs];exact⟨x,ys,rfl,h,k⟩
theorem IsCs.uncons{A:Nat→Prop}{w:World}{d:Dt}{r:List Dt}{xs:List Value}(h:IsCs A w (d::r) xs):∃x ys,xs=x::ys∧IsC A w d x∧IsCs A w r ys:=by
 simpa only[IsCs] using h
theorem IsC.num (A:Nat→Prop)(w:World)(n:Int):IsC A w (.num n) (.int .i64 n):=by simp only[IsC]
theorem IsC.str (A:Nat→Prop)(w:World)(s:Bs):IsC A w (.str s) (.string ⟨s.toArray⟩):=by simp only[IsC]
theorem IsC.none (A:Nat→Prop)(w:World){e:TypeId}(size:Nat)(he:stT e=false):IsC A w (.row e size 0 []) (.slice none 0 0):=by
 simp only[IsC];exact⟨[],he,World.ownsRow_nil _ _ _ _,fun b hb=>(by cases hb),IsCs.nil _ _⟩
theorem IsC.row{A:Nat→Prop}{w:World}{base:Nat}{e:TypeId}{size n:Nat}{l:List Dt}{v:Value}{xs:List Value}(he:stT e=false)(hr:w.ownsRow base e size v n xs)(hA:∀b,v.ownBlock=some b→A b)(hl:IsCs A w l xs):IsC A w (.row e size n l) v:=by
 simp only[IsC];refine⟨xs,he,⟨hr.1,?_⟩,hA,hl⟩;rcases hr.2 with hn | ⟨g,cap,cur,hv,hb,hg,rest⟩
 ·exact .inl hn
 ·exact .inr ⟨g,cap,cur,hv,Nat.zero_le _,hg,rest⟩
theorem IsC.unrow{A:Nat→Prop}{w:World}{e:TypeId}{size n:Nat}{l:List Dt}{v:Value}(h:IsC A w (.row e size n l) v):∃xs,w.ownsRow 0 e size v n xs∧(∀b,v.ownBlock=some b→A b)∧IsCs A w l xs:=by
 simp only[IsC] at h;obtain⟨xs,h1,h2,h3,h4⟩:=h;exact⟨xs,h2,h3,h4⟩
/-! How the trees lie in cells. -/
mutual
def encT (eT:TypeId):PT→List Dt
 | .mk k n ns l=>[.num k,.str n,.row 9 1 ns.length (ns.map .str),.row eT 4 l.length (Zau eT l)]
def Zau (eT:TypeId):List PT→List Dt
 | []=>[]
 | t::r=>encT eT t++Zau eT r
end
mutual
def encE (eT eE:TypeId):PE→List Dt
 | .mk k a n m ns l ts=>[.num k,.num a,.str n,.num m,.row 9 1 ns.length (ns.map .str),.row eE 7 l.length (Zaw eT eE l),.row eT 4 ts.length (Zau eT ts)]
def Zaw (eT eE:TypeId):List PE→List Dt
 | []=>[]
 | x::r=>encE eT eE x++Zaw eT eE r
end
def encD (eT eE:TypeId)(d:PD):List Dt:=[.num d.k,.num d.a,.str d.n,.row eT 4 d.ts.length (Zau eT d.ts),.row eE 7 d.es.length (Zaw eT eE d.es)]
def ZdF (eT eE:TypeId)(l:List PD):List Dt:=l.flatMap (encD eT eE)
theorem ZbZ (eT:TypeId):∀l m:List PT,Zau eT (l++m)=Zau eT l++Zau eT m
 | [],m=>by simp[Zau]
 | t::r,m=>by simp[Zau,ZbZ eT r m]
theorem Zde (eT eE:TypeId):∀l m:List PE,Zaw eT eE (l++m)=Zaw eT eE l++Zaw eT eE m
 | [],m=>by simp[Zaw]
 | t::r,m=>by simp[Zaw,Zde eT eE r m]
theorem Zas (eT:TypeId)(t:PT):(encT eT t).length=4:=by cases t;simp[encT]
theorem ZaB (eT eE:TypeId)(t:PE):(encE eT eE t).length=7:=by cases t;simp[encE]
/-! The reader's state. -/
def Dn.cells (x:Dn):List Value:=[.int .i64 x.a,.int .i64 x.d,.string ⟨x.n.toArray⟩]
def ZbC (l:List Dn):List Value:=l.flatMap Dn.cells
theorem Zhh (l:List Dn)(t:Dn):ZbC (l++[t])=ZbC l++t.cells:=by simp[ZbC]
structure PS (B M:Nat)(w:World)(pb:Nat)(all ts:List Tk)(told:List Dn):Prop where
 lo:B≤pb
 hi:B≤w.heap.size
 fin:∃p e,ts=p++[e]∧e.k=6
 bd:told.length+ts.length≤M
 big:all.length≤1000000
 ex:∃(vt vd:Value) (i:Nat),w.heap[pb]?=some (.cells #[vt,.int .i64 i,vd] 112 (0,0))∧w.ownsRow 0 105 3 vt all.length (Zbn all)∧w.ownsRow B 153 3 vd told.length (ZbC told)∧ts=all.drop i∧∀b,vt.ownBlock=some b→b<pb
theorem ZaM{w w':World}{base:Nat}{e:TypeId}{size:Nat}{v:Value}{n:Nat}{xs:List Value}(h:w.ownsRow base e size v n xs)(hb:Below w.heap.size w w'):w'.ownsRow base e size v n xs:=
 Zbc (S:=fun _=>False) h hb.size (fun i hi _=>hb.block i hi) (fun _ _ h=>h)
theorem PS.other{B M:Nat}{w w':World}{pb:Nat}{all ts:List Tk}{told:List Dn}(h:PS B M w pb all ts told)(hs:w.heap.size≤w'.heap.size)(hk:∀k o,w.heap[k]?=some o→(k≤pb∨∃c fz,o=.cells c 153 fz)→w'.heap[k]?=some o):PS B M w' pb all ts told:=by
 obtain⟨h1,h2,h3,h4,h5,vt,vd,i,h6,h7,h8,h9,h10⟩:=h;refine⟨h1,Nat.le_trans h2 hs,h3,h4,h5,vt,vd,i,hk _ _ h6 (.inl (nl _)),⟨h7.1,?_⟩,⟨h8.1,?_⟩,h9,h10⟩
 ·rcases h7.2 with hn | ⟨g,cap,cur,hv,hg0,hg,rest⟩
  ·exact .inl hn
  ·exact .inr ⟨g,cap,cur,hv,hg0,hk _ _ hg (.inl (Nat.le_of_lt (h10 g (by rw[hv];rfl)))),rest⟩
 ·rcases h8.2 with hn | ⟨g,cap,cur,hv,hg0,hg,rest⟩
  ·exact .inl hn
  ·exact .inr ⟨g,cap,cur,hv,hg0,hk _ _ hg (.inr ⟨_,_,rfl⟩),rest⟩
theorem PS.below{B M:Nat}{w w':World}{pb:Nat}{all ts:List Tk}{told:List Dn}(h:PS B M w pb all ts told)(hb:Below w.heap.size w w'):PS B M w' pb all ts told:=
 h.other hb.size fun k _ hk _=>(hb.block k (gE hk).1).trans hk
theorem PS.alloc{B M:Nat}{w:World}{pb:Nat}{all ts:List Tk}{told:List Dn}(h:PS B M w pb all ts told)(o:Obj):PS B M (w.alloc o) pb all ts told:=h.below ((Below.refl _ _).alloc (nl _) _)
theorem PS.lt{B M:Nat}{w:World}{pb:Nat}{all ts:List Tk}{told:List Dn}(h:PS B M w pb all ts told):pb<w.heap.size:=by
 obtain⟨h1,h2,h3,h4,h5,vt,vd,i,h6,h7,h8,h9⟩:=h;exact (gE h6).1
theorem PS.setNew{B M:Nat}{w:World}{pb:Nat}{all ts:List Tk}{told:List Dn}(h:PS B M w pb all ts told){b:Nat}{c:Array Value}{t:TypeId}{fz:Nat×Nat}(hb:w.heap[b]?=some (.cells c t fz))(ht:t≠153)(hlt:pb<b)(i:Nat)(v:Value):PS B M (w.setCell ⟨b,i,none⟩ v) pb all ts told:=by
 refine h.other (by simp[World.setCell]) fun k o hk hd=>(Below.heap_setCell w ⟨b,i,none⟩ v k ?_).trans hk
 intro e;have e':k=b:=e;subst e';rcases hd with hd | ⟨c',fz',rfl⟩
 ·omega
 ·rw[hb] at hk;cases hk;exact ht rfl
theorem PS.grown{B M:Nat}{w w':World}{pb:Nat}{all ts:List Tk}{told:List Dn}(h:PS B M w pb all ts told){base:Nat}{e:TypeId}{sz:Nat}{v:Value}{n:Nat}{xs:List Value}(hr:w.ownsRow base e sz v n xs)(he:e≠153)(hv:∀b,v.ownBlock=some b→pb<b)(hg:w.grownBy w' v.ownBlock):PS B M w' pb all ts told:=by
 refine h.other hg.size fun k o hk hd=>(hg.block k (gE hk).1 ?_).trans hk
 intro e1;rcases hd with hd | ⟨c',fz',rfl⟩
 ·have:=hv k e1.symm;omega
 ·rcases hr.2 with ⟨rfl,_⟩ | ⟨g,cap,cur,rfl,hb,hgg,_⟩
  ·cases e1
  ·simp only[Value.ownBlock,Option.some.injEq] at e1;subst e1;rw[hgg] at hk;cases hk;exact he rfl
theorem PS.first{B M:Nat}{w:World}{pb:Nat}{all ts:List Tk}{told:List Dn}(h:PS B M w pb all ts told):∃(g cap i:Nat) (vd:Value),w.heap[pb]?=some (.cells #[.slice (some ⟨g,0,none⟩) all.length cap,.int .i64 i,vd] 112 (0,0))∧i<all.length∧all.length≤1000000∧g<w.heap.size∧
  w.cell? ⟨g,i*3,none⟩=some (.int .i64 ((hd ts).k:Nat))∧w.cell? ⟨g,i*3+1,none⟩=some (.int .i64 ((hd ts).a:Nat))∧w.cell? ⟨g,i*3+2,none⟩=some (.string ⟨(hd ts).t.toArray⟩)∧
  (∃r,ts=hd ts::r∧r=all.drop (i+1)):=by
 obtain⟨h1,h2,⟨p,e,h3,h3'⟩,h4,h5,vt,vd,i,h6,h7,h8,h9,-⟩:=h;have hi:i<all.length:=by
  rcases Nat.lt_or_ge i all.length with h | h
  ·exact h
  ·rw[List.drop_of_length_le h] at h9;rw[h9] at h3;simp at h3
 have hx:all[i]?=some (hd ts):=by
  rw[h9,hd,List.headD_eq_head?_getD,List.head?_drop,List.getElem?_eq_getElem hi];rfl
 have h7':=h7;rw[ZjY,←List.length_map (f:=Tk.tri)] at h7';obtain⟨a0,cap,rfl,q1,q2,q3,q4,q5⟩:=ZjU h7' rfl;obtain⟨g,o,rfl,hg,c0,c1,c2⟩:=q5 i (hd ts).tri (by rw[List.getElem?_map,hx];rfl);obtain⟨g',e1,-⟩:=q4 _ rfl;cases e1;rw[List.length_map] at h6;rw[Nat.zero_add,Nat.mul_comm] at c0 c1 c2;refine⟨g,cap,i,vd,h6,hi,h5,hg,c0,c1,c2,all.drop (i+1),?_,rfl⟩;rw[h9,List.drop_eq_getElem_cons hi] at *;rfl
/-! Stores into all cells of a block. -/
abbrev putL (w:World)(b:Nat)(vs:List Value):World:=w.setCells b 0 vs
theorem ZeS (b:Nat):∀(vs:List Value) (o:Nat) (w:World) (c:Array Value) (t:TypeId),w.heap[b]?=some (.cells c t (0,0))→o+vs.length=c.size→(w.setCells b o vs).heap[b]?=some (.cells (c.toList.take o++vs).toArray t (0,0))
 | [],o,w,c,t,h,hl=>by
  simp only[lN,aZ] at hl;rw[World.setCells,h,List.append_nil,List.take_of_length_le (by rw[Array.length_toList];omega)]
 | v::r,o,w,c,t,h,hl=>by
  simp only[lC] at hl;have h0:=heap_setCell_same w b o c _ v h;have h1:=ZeS b r (o+1) (w.setCell ⟨b,o,none⟩ v) _ _ h0 (by simp;omega);rw[World.setCells,h1]
  congr 2
  have ho:o<c.toList.length:=by rw[Array.length_toList];omega
  simp only[Array.toList_setIfInBounds];rw[List.take_succ_eq_append_getElem (by simpa using ho)];simp[List.take_set_of_le]
theorem Zam{w:World}{b:Nat}{c:Array Value}{t:TypeId}(h:w.heap[b]?=some (.cells c t (0,0))){vs:List Value}(hl:vs.length=c.size):(putL w b vs).heap[b]?=some (.cells vs.toArray t (0,0)):=by
 have:=ZeS b vs 0 w c t h (by omega)
 simpa using this
theorem ZaS (b:Nat):∀(vs:List Value) (o:Nat) (w:World) (k:Nat),k≠b→(w.setCells b o vs).heap[k]?=w.heap[k]?
 | [],_,_,_,_=>rfl
 | v::r,o,w,k,h=>(ZaS b r (o+1) _ k h).trans (Below.heap_setCell w ⟨b,o,none⟩ v k h)
theorem ZaW (b:Nat):∀(vs:List Value) (o:Nat) (w:World),(w.setCells b o vs).os=w.os∧(w.setCells b o vs).tape=w.tape∧(w.setCells b o vs).output=w.output∧(w.setCells b o vs).heap.size=w.heap.size
 | [],_,_=>⟨rfl,rfl,rfl,rfl⟩
 | v::r,o,w=>by
  obtain⟨h1,h2,h3,h4⟩:=ZaW b r (o+1) (w.setCell ⟨b,o,none⟩ v);exact⟨h1,h2,h3,h4.trans (by simp[World.setCell])⟩
theorem Fr.putL{n₀:Nat}{w W:World}(h:Fr n₀ w W){b:Nat}(hb:w.heap.size≤b)(vs:List Value):Fr n₀ w (putL W b vs):=by
 obtain⟨h1,h2,h3,h4⟩:=ZaW b vs 0 W;exact⟨h1.trans h.os,h2.trans h.tape,h3.trans h.output,by rw[h4];exact h.size,fun k o hk hd=>(ZaS b vs 0 W k (by have:=(gE hk).1;omega)).trans (h.block k o hk hd)⟩
theorem Below.putL{n b:Nat}{w w':World}(h:Below n w w')(hb:n≤b)(vs:List Value):Below n w (putL w' b vs):=by
 obtain⟨h1,h2,h3,h4⟩:=ZaW b vs 0 w';exact⟨h1.trans h.os,h2.trans h.tape,h3.trans h.output,by rw[h4];exact h.size,fun k hk=>(ZaS b vs 0 w' k (by omega)).trans (h.block k hk)⟩
theorem PS.putL{B M:Nat}{w:World}{pb:Nat}{all ts:List Tk}{told:List Dn}(h:PS B M w pb all ts told){b:Nat}{c:Array Value}{t:TypeId}{fz:Nat×Nat}(hb:w.heap[b]?=some (.cells c t fz))(ht:t≠153)(hlt:pb<b)(vs:List Value):PS B M (putL w b vs) pb all ts told:=by
 obtain⟨h1,h2,h3,h4⟩:=ZaW b vs 0 w;refine h.other (by rw[h4];exact nl _) fun k o hk hd=>(ZaS b vs 0 w k ?_).trans hk
 rintro rfl;rcases hd with hd | ⟨c',fz',rfl⟩
 ·omega
 ·rw[hb] at hk;cases hk;exact ht rfl
theorem IsCs.putL{A:Nat→Prop}{w:World}{l:List Dt}{xs:List Value}(h:IsCs A w l xs)(b:Nat)(hA:∀k,A k→k≠b)(vs:List Value):IsCs A (putL w b vs) l xs:=by
 obtain⟨h1,h2,h3,h4⟩:=ZaW b vs 0 w;exact IsCs.kept (S:=fun k=>k=b) (by rw[h4];exact nl _) (fun k _ hk=>ZaS b vs 0 w k hk) (fun k hk=>hA k hk) l xs h
theorem IsCs.below{A:Nat→Prop}{w w':World}{l:List Dt}{xs:List Value}(h:IsCs A w l xs)(hb:Below w.heap.size w w'):IsCs A w' l xs:=
 IsCs.kept (S:=fun _=>False) hb.size (fun k hk _=>hb.block k hk) (fun _ _ h=>h) l xs h
theorem IsCs.grown{A:Nat→Prop}{w w':World}{row:Option Nat}{l:List Dt}{xs:List Value}(h:IsCs A w l xs)(hg:w.grownBy w' row)(hA:∀k,A k→some k≠row):IsCs A w' l xs:=
 IsCs.kept (S:=fun k=>some k=row) hg.size (fun k hk hn=>hg.block k hk hn) hA l xs h
theorem IsC.below{A:Nat→Prop}{w w':World}{l:Dt}{xs:Value}(h:IsC A w l xs)(hb:Below w.heap.size w w'):IsC A w' l xs:=
 IsC.kept (S:=fun _=>False) hb.size (fun k hk _=>hb.block k hk) (fun _ _ h=>h) l xs h
def R.rest{α:Type}:R α→List Tk
 | .ok _ r _=>r
 | .bad _ r _=>r
def Shr{α:Type}(n:Nat)(x:R α):Prop:=x.rest.length≤n
theorem Shr.mono{α:Type}{n m:Nat}{x:R α}(h:Shr n x)(hm:n≤m):Shr m x:=Nat.le_trans h hm
theorem Shr.tell{α:Type}{n:Nat}{x:R α}(h:Shr n x)(d:List Dn):Shr n (x.tell d):=by cases x<;>exact h
theorem Shr.bind{α β:Type}{n:Nat}{x:R α}{f:α→List Tk→R β}(h:Shr n x)(hf:∀a r,r.length≤n→Shr r.length (f a r)):Shr n (x.bind f):=by
 cases x with
 | bad y r d=>exact h
 | ok a r d=>exact ((hf a r h).tell d).mono h
theorem Shr.ok{α:Type}(x:α)(r:List Tk)(d:List Dn):Shr r.length (R.ok x r d):=nl _
theorem Za8 (ts:List Tk):ts.tail.length≤ts.length:=by rw[List.length_tail];omega
theorem ZaQ (m:Bs)(ts:List Tk):Shr ts.length (want m ts):=by
 unfold want;split
 ·exact Za8 ts
 ·exact nl _
theorem Zbk (ts:List Tk):Shr ts.length (Zaj ts):=by
 unfold Zaj;split
 ·exact Za8 ts
 ·exact nl _
theorem ZfO{α:Type}(sign:Bs)(read:List Tk→R α)(hr:∀ts,Shr ts.length (read ts)):∀(n:Nat) (seen:List Bs) (acc:List (Bs×α)) (ts:List Tk),Shr ts.length (ZaA sign read n seen acc ts)
 | 0,_,_,ts=>nl _
 | n+1,seen,acc,ts=>by
  unfold ZaA;refine (Zbk ts).bind fun nm r _=>Shr.tell (((ZaQ sign r).bind fun _ r _=>(hr r).bind fun v r _=>?_)) _
  split
  ·exact (ZfO sign read hr n _ _ _).mono (Za8 r)
  ·exact (ZaQ _ r).bind fun _ r _=>Shr.ok _ _ _
theorem Zip{α:Type}(sign:Bs)(read:List Tk→R α)(hr:∀ts,Shr ts.length (read ts))(ts:List Tk):Shr ts.length (Zbh sign read ts):=by
 unfold Zbh;split
 ·exact Za8 ts
 ·exact ZfO sign read hr _ _ _ _
theorem ZkE (typ:List Tk→R PT)(ht:∀ts,Shr ts.length (typ ts))(ts:List Tk):Shr ts.length (Za9 typ ts):=by
 unfold Za9
 repeat' split
 all_goals first
  | exact Za8 ts
  | exact nl _
  | exact ((Zip _ _ ht _).mono (Za8 ts)).bind fun _ r _=>Shr.ok _ _ _
  | exact ((ht _).mono (Za8 ts)).bind fun t r _=>(ZaQ _ r).bind fun _ r _=>Shr.ok _ _ _
theorem ZlK (plain arrow:List Tk→R PT)(hp:∀ts,Shr ts.length (plain ts))(ha:∀ts,Shr ts.length (arrow ts))(ts:List Tk):Shr ts.length (Zck plain arrow ts):=by
 unfold Zck;refine (hp ts).bind fun t r _=>?_
 split
 ·exact ((ha _).mono (Za8 r)).bind fun _ r _=>Shr.ok _ _ _
 ·exact nl _
theorem ZgD (arrow:List Tk→R PT)(ha:∀ts,Shr ts.length (arrow ts)):∀(n:Nat) (acc:List PT) (ts:List Tk),Shr ts.length (ZaV arrow n acc ts)
 | 0,_,ts=>nl _
 | n+1,acc,ts=>by
  unfold ZaV;split
  ·exact ((ha _).mono (Za8 ts)).bind fun _ r _=>ZgD arrow ha n _ r
  ·exact nl _
theorem ZlT (arrow:List Tk→R PT)(ha:∀ts,Shr ts.length (arrow ts))(ts:List Tk):Shr ts.length (typP arrow ts):=by
 unfold typP;exact (ha ts).bind fun t r _=>(ZgD arrow ha _ _ r).bind fun l r _=>Shr.ok _ _ _
theorem Zcz:∀n,(∀ts,Shr ts.length (typ n ts))∧(∀ts,Shr ts.length (arr n ts))
 | 0=>⟨fun _=>nl _,fun _=>nl _⟩
 | n+1=>by
  have ih:=Zcz n;have ha:∀ts,Shr ts.length (arr (n+1) ts):=ZlK _ _ (ZkE _ ih.1) ih.2;exact⟨ZlT _ ha,ha⟩
theorem Zgu (expr:List Tk→R PE)(he:∀ts,Shr ts.length (expr ts)):∀(n:Nat) (e:PE) (ts:List Tk),Shr ts.length (ZbD expr n e ts)
 | 0,_,ts=>nl _
 | n+1,e,ts=>by
  unfold ZbD;split
  ·exact ((he _).mono (Za8 ts)).bind fun _ r _=>(ZaQ _ r).bind fun _ r _=>Zgu expr he n _ r
  ·split
   ·exact ((Zbk _).mono (Za8 ts)).bind fun _ r _=>Zgu expr he n _ r
   ·exact nl _
theorem Zhn (typ:List Tk→R PT)(expr:List Tk→R PE)(ht:∀ts,Shr ts.length (typ ts))(he:∀ts,Shr ts.length (expr ts))(ts:List Tk):Shr ts.length (Za0 typ expr ts):=by
 unfold Za0;split
 ·exact Za8 ts
 split
 ·exact Za8 ts
 split
 ·exact Za8 ts
 split
 ·exact Za8 ts
 split
 ·exact Za8 ts
 split
 ·exact ((Zip _ _ he _).mono (Za8 ts)).bind fun _ r _=>Shr.ok _ _ _
 split
 ·refine ((he _).mono (Za8 ts)).bind fun e r _=>?_
  split
  ·exact ((ht _).mono (Za8 r)).bind fun t r _=>(ZaQ _ r).bind fun _ r _=>Shr.ok _ _ _
  ·exact (ZaQ _ r).bind fun _ r _=>Shr.ok _ _ _
 ·exact nl _
theorem ZmO (typ:List Tk→R PT)(expr:List Tk→R PE)(ht:∀ts,Shr ts.length (typ ts))(he:∀ts,Shr ts.length (expr ts))(ts:List Tk):Shr ts.length (ZcI typ expr ts):=by
 unfold ZcI;split
 ·refine Shr.mono (n:=ts.tail.length) ?_ (Za8 ts);exact (ZaQ _ _).bind fun _ r _=>(Zbk r).bind fun _ r _=>(ZaQ _ r).bind fun _ r _=>(ht r).bind fun _ r _=>(ZaQ _ r).bind fun _ r _=>(he r).bind fun _ r _=>Shr.ok _ _ _
 split
 ·refine Shr.mono (n:=ts.tail.length) ?_ (Za8 ts);exact (Zbk _).bind fun _ r _=>(ZaQ _ r).bind fun _ r _=>(he r).bind fun _ r _=>(ZaQ _ r).bind fun _ r _=>(he r).bind fun _ r _=>Shr.ok _ _ _
 split
 ·refine Shr.mono (n:=ts.tail.length) ?_ (Za8 ts);exact (he _).bind fun _ r _=>(ZaQ _ r).bind fun _ r _=>(he r).bind fun _ r _=>(ZaQ _ r).bind fun _ r _=>(he r).bind fun _ r _=>Shr.ok _ _ _
 ·exact (Zhn typ expr ht he ts).bind fun e r _=>Zgu expr he _ _ r
theorem Zdd:∀n ts,Shr ts.length (exp n ts)
 | 0,_=>nl _
 | n+1,ts=>ZmO _ _ (Zcz n).1 (Zdd n) ts
theorem ZdG:∀a:Bs,bsLt a a=false
 | []=>rfl
 | a::r=>by rw[bsLt,if_neg (Nat.lt_irrefl _),if_neg (Nat.lt_irrefl _)];exact ZdG r
theorem Zds:∀a b c:Bs,bsLt a b=true→bsLt b c=true→bsLt a c=true
 | [],[],_,h,_=>by simp[bsLt] at h
 | [],_::_,[],_,h=>by simp[bsLt] at h
 | [],_::_,_::_,_,_=>rfl
 | _::_,[],_,h,_=>by simp[bsLt] at h
 | _::_,_::_,[],_,h=>by simp[bsLt] at h
 | a::r,b::s,c::t,h,k=>by
  simp only[bsLt] at h k⊢;by_cases h1:a.toNat<b.toNat
  ·by_cases k1:b.toNat<c.toNat
   ·rw[if_pos (by omega)]
   ·rw[if_neg k1] at k;by_cases k2:c.toNat<b.toNat
    ·rw[if_pos k2] at k;cases k
    ·rw[if_pos (by omega)]
  ·rw[if_neg h1] at h;by_cases h2:b.toNat<a.toNat
   ·rw[if_pos h2] at h;cases h
   ·rw[if_neg h2] at h;by_cases k1:b.toNat<c.toNat
    ·rw[if_pos (by omega)]
    ·rw[if_neg k1] at k;by_cases k2:c.toNat<b.toNat
     ·rw[if_pos k2] at k;cases k
     ·rw[if_neg k2] at k;rw[if_neg (by omega),if_neg (by omega)];exact Zds r s t h k
theorem Zeh:∀a b:Bs,bsLt a b=false→bsLt b a=false→a=b
 | [],[],_,_=>rfl
 | [],_::_,h,_=>by simp[bsLt] at h
 | _::_,[],_,h=>by simp[bsLt] at h
 | a::r,b::s,h,k=>by
  simp only[bsLt] at h k;by_cases h1:a.toNat<b.toNat
  ·rw[if_pos h1] at h;cases h
  ·by_cases h2:b.toNat<a.toNat
   ·rw[if_pos h2] at k;cases k
   ·rw[if_neg h1,if_neg h2] at h;rw[if_neg h2,if_neg h1] at k;rw[Zeh r s h k,UInt8.toNat_inj.1 (by omega:a.toNat=b.toNat)]
section
variable {α : Type}
theorem ZcN (x:Bs×α):∀l:List (Bs×α),(insF x l).Perm (x::l)
 | []=>.refl _
 | y::r=>by
  unfold insF;split
  ·exact ((ZcN x r).cons y).trans (.swap _ _ _)
  ·exact .refl _
theorem ZbY:∀l:List (Bs×α),(Zb1 l).Perm l
 | []=>.refl _
 | x::r=>(ZcN x _).trans ((ZbY r).cons x)
def Zgv (l:List (Bs×α)):Prop:=l.Pairwise fun x y=>bsLt y.1 x.1=false
theorem Zg3{a b c:Bs}(h:bsLt b a=false)(k:bsLt c b=false):bsLt c a=false:=by
 cases e:bsLt c a with
 | false=>rfl
 | true=>
  exfalso
  cases e2:bsLt a b with
  | true=>rw[Zds c a b e e2] at k;cases k
  | false=>
   have:=Zeh a b e2 h;subst this;rw[e] at k;cases k
theorem Zgj (x:Bs×α):∀l:List (Bs×α),Zgv l→Zgv (insF x l)
 | [],_=>List.pairwise_singleton _ _
 | y::r,h=>by
  obtain⟨h1,h2⟩:=List.pairwise_cons.1 h;unfold insF;split
  next e=>
   refine List.pairwise_cons.2 ⟨fun z hz=>?_,Zgj x r h2⟩;rcases List.mem_cons.1 ((ZcN x r).mem_iff.1 hz) with rfl | hz
   ·cases e3:bsLt z.1 y.1 with
    | false=>rfl
    | true=>have:=Zds _ _ _ e e3;rw[ZdG] at this;cases this
   ·exact h1 z hz
  next e=>
   have e':bsLt y.1 x.1=false:=by simpa using e
   refine List.pairwise_cons.2 ⟨fun z hz=>?_,h⟩;rcases List.mem_cons.1 hz with rfl | hz
   ·exact e'
   ·exact Zg3 e' (h1 z hz)
theorem ZeR:∀l:List (Bs×α),Zgv (Zb1 l)
 | []=>.nil
 | x::r=>Zgj x _ (ZeR r)
theorem ZiA:∀l m:List (Bs×α),l.Perm m→Zgv l→Zgv m→(l.map (·.1)).Nodup→l=m
 | [],m,hp,_,_,_=>(List.nil_perm.1 hp).symm
 | x::r,[],hp,_,_,_=>absurd hp.length_eq (by simp)
 | x::r,y::s,hp,hl,hm,hn=>by
  obtain⟨l1,l2⟩:=List.pairwise_cons.1 hl;obtain⟨m1,m2⟩:=List.pairwise_cons.1 hm;have hx:x=y:=by
   have a1:x∈y::s:=hp.mem_iff.1 (List.mem_cons_self);have a2:y∈x::r:=hp.mem_iff.2 (List.mem_cons_self);rcases List.mem_cons.1 a1 with h | h
   ·exact h
   rcases List.mem_cons.1 a2 with h' | h'
   ·exact h'.symm
   exfalso
   have e:x.1=y.1:=Zeh _ _ (m1 x h) (l1 y h');simp only[List.map_cons,List.nodup_cons] at hn;exact hn.1 (e▸List.mem_map_of_mem h')
  subst hx;simp only[List.map_cons,List.nodup_cons] at hn;rw[ZiA r s (List.perm_cons _ |>.1 hp) l2 m2 hn.2]
theorem Zf0{l m:List (Bs×α)}(hp:m.Perm l)(hm:Zgv m)(hn:(l.map (·.1)).Nodup):Zb1 l=m:=
 ZiA _ _ ((ZbY l).trans hp.symm) (ZeR l) hm (((ZbY l).map _).nodup_iff.2 hn)
theorem Zej (l:List (Bs×α)):(Zb1 l).length=l.length:=(ZbY l).length_eq
theorem Zel (sign:Bs)(read:List Tk→R α):∀(n:Nat) (seen:List Bs) (acc:List (Bs×α)) (ts:List Tk) (l:List (Bs×α)) (r:List Tk) (d:List Dn),(acc.map (·.1)).Nodup→(∀x∈acc,x.1∈seen)→ZaA sign read n seen acc ts=.ok l r d→(l.map (·.1)).Nodup
 | 0,seen,acc,ts,l,r,d,h1,h2,h=>by simp only[ZaA] at h;cases h;exact h1
 | n+1,seen,acc,ts,l,r,d,h1,h2,h=>by
  simp only[ZaA] at h;cases e1:Zaj ts with
  | bad y r1 d1=>rw[e1,R.bind_bad] at h;cases h
  | ok nm r1 d1=>
   rw[e1,R.bind_ok] at h;have hacc:∀v:α,((if nm.t∈seen then acc else acc++[(nm.t,v)]).map (·.1)).Nodup:=by
    intro v;split
    ·exact h1
    next hs=>
     rw[List.map_append,List.nodup_append];refine⟨h1,by simp,?_⟩;intro a ha b hb e;simp at hb;subst hb;obtain⟨x,hx,ex⟩:=List.mem_map.1 ha;exact hs (by rw[←e,←ex];exact h2 x hx)
   have hseen:∀v:α,∀x∈(if nm.t∈seen then acc else acc++[(nm.t,v)]),x.1∈nm.t::seen:=by
    intro v x hx;split at hx
    ·exact List.mem_cons_of_mem _ (h2 x hx)
    ·rcases List.mem_append.1 hx with hx | hx
     ·exact List.mem_cons_of_mem _ (h2 x hx)
     ·simp at hx;rw[hx];exact List.mem_cons_self
   cases e2:want sign r1 with
   | bad y r2 d2=>rw[e2,R.bind_bad,R.tell_bad,R.tell_bad] at h;cases h
   | ok _ r2 d2=>
    rw[e2,R.bind_ok] at h;cases e3:read r2 with
    | bad y r3 d3=>rw[e3,R.bind_bad,R.tell_bad,R.tell_bad,R.tell_bad] at h;cases h
    | ok v r3 d3=>
     rw[e3,R.bind_ok] at h;simp only[R.tell_tell] at h;cases e4:isM [44] r3 with
     | true=>
      rw[e4,if_pos rfl] at h;cases e5:ZaA sign read n (nm.t::seen) (if nm.t∈seen then acc else acc++[(nm.t,v)]) r3.tail with
      | bad y r5 d5=>rw[e5,R.tell_bad] at h;cases h
      | ok l5 r5 d5=>
       rw[e5,R.tell_ok] at h;cases h;exact Zel sign read n _ _ _ _ _ _ (hacc v) (hseen v) e5
     | false=>
      simp only[e4,ff,if_false] at h;cases e5:want [125] r3 with
      | bad y r5 d5=>rw[e5,R.bind_bad,R.tell_bad] at h;cases h
      | ok _ r5 d5=>
       rw[e5,R.bind_ok,R.tell_ok,R.tell_ok] at h;cases h;exact hacc v
theorem Zdo{sign:Bs}{read:List Tk→R α}{ts:List Tk}{l:List (Bs×α)}{r:List Tk}{d:List Dn}(h:Zbh sign read ts=.ok l r d):(l.map (·.1)).Nodup:=by
 unfold Zbh at h;split at h
 ·cases h;simp
 ·exact Zel sign read _ _ _ _ _ _ _ (by simp) (by simp) h
theorem ZfP (sign:Bs)(read:List Tk→R α)(hshr:∀ts,Shr ts.length (read ts)):∀(n:Nat) (seen:List Bs) (acc:List (Bs×α)) (ts:List Tk) (l:List (Bs×α)) (r:List Tk) (d:List Dn),ts.length≤n→ZaA sign read n seen acc ts=.ok l r d→l.length≤acc.length+n
 | 0,seen,acc,ts,l,r,d,_,h=>by simp only[ZaA] at h;cases h;omega
 | n+1,seen,acc,ts,l,r,d,hn,h=>by
  simp only[ZaA] at h;cases e1:Zaj ts with
  | bad y r1 d1=>rw[e1,R.bind_bad] at h;cases h
  | ok nm r1 d1=>
   rw[e1,R.bind_ok] at h;have s1:r1.length≤ts.length:=by have:=Zbk ts;rw[e1] at this;exact this
   have hacc:∀v:α,(if nm.t∈seen then acc else acc++[(nm.t,v)]).length≤acc.length+1:=by
    intro v;split<;>simp
   cases e2:want sign r1 with
   | bad y r2 d2=>rw[e2,R.bind_bad,R.tell_bad,R.tell_bad] at h;cases h
   | ok _ r2 d2=>
    rw[e2,R.bind_ok] at h;have s2:r2.length≤r1.length:=by have:=ZaQ sign r1;rw[e2] at this;exact this
    cases e3:read r2 with
    | bad y r3 d3=>rw[e3,R.bind_bad,R.tell_bad,R.tell_bad,R.tell_bad] at h;cases h
    | ok v r3 d3=>
     rw[e3,R.bind_ok] at h;have s3:r3.length≤r2.length:=by have:=hshr r2;rw[e3] at this;exact this
     simp only[R.tell_tell] at h;have ha:=hacc v;cases e4:isM [44] r3 with
     | true=>
      rw[e4,if_pos rfl] at h;cases e5:ZaA sign read n (nm.t::seen) (if nm.t∈seen then acc else acc++[(nm.t,v)]) r3.tail with
      | bad y r5 d5=>rw[e5,R.tell_bad] at h;cases h
      | ok l5 r5 d5=>
       rw[e5,R.tell_ok] at h;cases h;have hp:0<r3.length:=by
        cases r3 with
        | nil=>simp[isM,hd] at e4
        | cons x r=>simp
       have:=ZfP sign read hshr n _ _ _ _ _ _ (by rw[List.length_tail];omega) e5;omega
     | false=>
      simp only[e4,ff,if_false] at h;cases e5:want [125] r3 with
      | bad y r5 d5=>rw[e5,R.bind_bad,R.tell_bad] at h;cases h
      | ok _ r5 d5=>
       rw[e5,R.bind_ok,R.tell_ok,R.tell_ok] at h;cases h;omega
theorem ZgR{sign:Bs}{read:List Tk→R α}(hshr:∀ts,Shr ts.length (read ts)){ts:List Tk}{l:List (Bs×α)}{r:List Tk}{d:List Dn}(h:Zbh sign read ts=.ok l r d):l.length≤ts.length:=by
 unfold Zbh at h;split at h
 ·cases h;simp
 ·have:=ZfP sign read hshr _ _ _ _ _ _ _ (nl _) h
  simpa using this
theorem Zmp{β:Type}{Q:α→β→Prop}{d d':List β}(hp:d.Perm d'):∀l:List α,l.length=d.length→(∀i (h1:i<l.length) (h2:i<d.length),Q l[i] d[i])→∃l',l.Perm l'∧l'.length=d'.length∧∀i (h1:i<l'.length) (h2:i<d'.length),Q l'[i] d'[i]:=by
 induction hp with
 | nil=>exact fun l hl hq=>⟨l,.refl _,hl,hq⟩
 | cons x p ih=>
  intro l hl hq;cases l with
  | nil=>simp at hl
  | cons a l=>
   obtain⟨l',h1,h2,h3⟩:=ih l (by simpa using hl) (fun i a1 a2=>hq (i+1) (by simpa using a1) (by simpa using a2));refine⟨a::l',h1.cons a,by simpa using h2,fun i b1 b2=>?_⟩;cases i with
   | zero=>exact hq 0 (by simp) (by simp)
   | succ i=>exact h3 i (by simpa using b1) (by simpa using b2)
 | swap x y s=>
  intro l hl hq
  match l,hl with
  | a::b::l,hl=>
   refine⟨b::a::l,.swap _ _ _,by simpa using hl,fun i b1 b2=>?_⟩
   match i with
   | 0=>exact hq 1 (by simp) (by simp)
   | 1=>exact hq 0 (by simp) (by simp)
   | i+2=>exact hq (i+2) (by simpa using b1) (by simpa using b2)
 | trans p q ih1 ih2=>
  intro l hl hq;obtain⟨l1,a1,a2,a3⟩:=ih1 l hl hq;obtain⟨l2,b1,b2,b3⟩:=ih2 l1 a2 a3;exact⟨l2,a1.trans b1,b2,b3⟩
end
end Go.Proofs.YtijnjoonbjdafaaGreatDoor

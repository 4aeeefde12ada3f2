import Derived.Lib.OthersKept
import Derived.Lib.Builder
import Derived.Below
import Derived.Shelf.RegionOpenPlain
import Derived.Test.YtijnjoonbjdafaaGreatDoorPrM
import Derived.Shelf.Strconv.Itoa4
import Derived.Lib.AppendIntMem
namespace Go.Proofs.YtijnjoonbjdafaaGreatDoor
set_option maxHeartbeats 20000000
set_option maxRecDepth 100000
open Go.RowKit
def Pst (B:Nat)(w:World)(b:Nat)(bs:Bs):Prop:=
 B≤b∧∃p v,(p=.pointer none∨p=.pointer (some ⟨b,0,none⟩))∧w.heap[b]?=some (.cells #[p,v] 120 (0,0))∧w.ownsRowF B 5 1 v bs.length (Lib.byteCells bs)∧v.ownBlock≠some b∧(bs=[]→v=.slice none 0 0)
def Fb (B b:Nat)(w w':World):Prop:=Below B w w'∧Lib.OthersKept 5 (some b) w w'
theorem Fb.refl (B b:Nat)(w:World):Fb B b w w:=⟨Below.refl B w,Lib.OthersKept.refl _ _ w⟩
theorem Fb.trans{B b:Nat}{w w' w'':World}(h:Fb B b w w')(k:Fb B b w' w''):Fb B b w w'':=⟨h.1.trans k.1,h.2.trans k.2⟩
theorem Fb.size{B b:Nat}{w w':World}(h:Fb B b w w'):w.heap.size≤w'.heap.size:=h.1.size
theorem Fb.alloc{B b:Nat}{w w':World}(h:Fb B b w w')(hB:B≤w.heap.size)(o:Obj):Fb B b w (w'.alloc o):=⟨h.1.alloc (Nat.le_trans hB h.size) o,h.2.alloc o⟩
theorem Pst.lt{B b:Nat}{w:World}{bs:Bs}(h:Pst B w b bs):b<w.heap.size:=by
 obtain⟨-,p,v,-,hb,-⟩:=h;exact (gE hb).1
theorem Pst.alloc{B b:Nat}{w:World}{bs:Bs}(h:Pst B w b bs)(o:Obj):Pst B (w.alloc o) b bs:=by
 have hlt:=h.lt;obtain⟨hB,p,v,hp,hb,hr,hn,h0⟩:=h;refine⟨hB,p,v,hp,(Lib.alloc_old w o b hlt).trans hb,?_,hn,h0⟩;refine⟨hr.1,?_⟩;rcases hr.2 with e | ⟨g,cap,cur,fz,hv,hbg,hg,rest⟩
 ·exact .inl e
 ·exact .inr ⟨g,cap,cur,fz,hv,hbg,(Lib.alloc_old w o g (gE hg).1).trans hg,rest⟩
theorem Pst.fresh (w:World):Pst w.heap.size (w.alloc (.cells #[.pointer none,.slice none 0 0] 120)) w.heap.size []:=
 ⟨nl _,_,_,.inl rfl,hN w _,⟨rfl,.inl ⟨rfl,rfl⟩⟩,(fun e=>by cases e),fun _=>rfl⟩
theorem ZoE:liesAt Tryz.prog Tryz.prog.depth 120 (2/Tryz.prog.cellsOf 120) 0 118 1=true:=by kernel_rfl
theorem ZnX:(Tryz.prog.info? 118).map (·.size)=some 2:=by kernel_rfl
theorem infoB:(Tryz.prog.info? 5).map (fun i=>(i.zero,i.size,i.bytes))=some (some (.int .u8 0),1,1):=by kernel_rfl
theorem Zgp{B b:Nat}{bs:Bs}{w:World}(h:Pst B w b bs) :
  Calls Tryz.prog 175 #[.pointer (some ⟨b,0,none⟩)] w fun e w'=>e=.returned (.tuple #[])∧Pst B w' b bs∧Fb B b w w'∧w'.cell? ⟨b,0,none⟩=some (.pointer (some ⟨b,0,none⟩)):=by
 obtain⟨j,hj,hjs⟩:=Option.map_eq_some_iff.1 ZnX;obtain⟨hB,p,v,hp,hb,hr,hn,h0⟩:=h;have c0:w.cell? ⟨b,0,none⟩=some p:=by rw[Lib.cell_of_heap hb];rfl
 have f0:w.frozen? ⟨b,0,none⟩=false:=Lib.frozen_of_heap hb 0;have hsh:w.shape? b=some (120,2):=by simp[World.shape?,hb]
 rcases hp with rfl | rfl
 ·have hA:Lib.BuilderAtF 120 5 B b (.pointer none) (Lib.byteCells bs) w:=⟨hB,v,hb,by rw[Lib.byteCells_length];exact hr,hn⟩;obtain⟨hB',v',hb',hr',hn'⟩:=hA.used (.pointer (some ⟨b,0,none⟩));have hb2:(w.setCell ⟨b,0,none⟩ (.pointer (some ⟨b,0,none⟩))).heap[b]?=some (.cells #[.pointer (some ⟨b,0,none⟩),v] 120 (0,0)):=heap_setCell_same w b 0 _ _ _ hb;have hv:v'=v:=by rw[hb2] at hb';cases hb';rfl
  subst hv;have HF:=Hd (show Pst B (w.setCell ⟨b,0,none⟩ (.pointer (some ⟨b,0,none⟩))) b bs from⟨hB,_,v',.inr rfl,hb2,by rw[Lib.byteCells_length] at hr';exact hr',hn,h0⟩);have HC:=Hd (show (w.setCell ⟨b,0,none⟩ (.pointer (some ⟨b,0,none⟩))).cell? ⟨b,0,none⟩=some (.pointer (some ⟨b,0,none⟩)) by rw[Lib.cell_of_heap hb2];rfl);have HB:=Hd hB;clear hA hr hr' hb' hb2 hn hn' h0 hB hB' hb;go_enter Tryz.func175,Tryz.ntmps175
  go_wp2
  rw[Lib.run_to_unsafe w ⟨b,0,none⟩ Tryz.underlying116 Tryz.underlying267 hj (by rw[hjs];decide) hsh (Nat.zero_lt_succ 1)];simp only[Result.andThen];rw[Oper.upon_value];go_wp2
  rw[run_callFunc_extern Tryz.func212 (by kernel_rfl) (by kernel_rfl) (by kernel_rfl) (e:=Extern.AbiNoEscape.same) (by kernel_rfl)];rw[Lib.run_noEscape];simp only[Result.andThen];rw[Oper.upon_value];go_wp2
  rw[Lib.run_from_unsafe w ⟨b,0,none⟩ Tryz.underlying267 Tryz.underlying116 hj hsh ZoE];simp only[Result.andThen];rw[Oper.upon_value];go_wp2
  go_end0
  exact⟨rfl,HF.out,⟨(Below.refl B w).setCell (p:=⟨b,0,none⟩) HB.out _,(Lib.OthersKept.refl _ _ w).setCell ⟨b,0,none⟩ rfl _⟩,HC.out⟩
 ·have HF:=Hd (show Pst B w b bs from⟨hB,_,v,.inr rfl,hb,hr,hn,h0⟩);have HC:=Hd c0;clear hr hn h0 hB hb;go_enter Tryz.func175,Tryz.ntmps175
  go_wp2
  rw[Lib.run_neq_ptr_same w _ Tryz.underlying116 hj];go_wp2
  go_end0
  exact⟨rfl,HF.out,Fb.refl B b w,HC.out⟩
theorem Zc3{B b:Nat}{bs:Bs}{w:World}(h:Pst B w b bs)(t:Bs)(hlen:bs.length+t.length≤140737488355328) :
  Calls Tryz.prog 142 #[.pointer (some ⟨b,0,none⟩),.string ⟨t.toArray⟩] w fun e w'=>(∃n:Int,e=.returned (.tuple #[.int .i64 n,.nilIface]))∧Pst B w' b (bs++t)∧Fb B b w w':=by
 obtain⟨i0,hi,hz0,hz1,hz2⟩:=info_parts infoB;have HCC:=Hd (Zgp h);have HLT:=Hd h.lt;clear h;go_enter Tryz.func142,Tryz.ntmps142
 go_wp2_with fail
 refine HCC.out.mono ?_;rintro e w1 ⟨rfl,h1,hf1,hc0⟩;obtain⟨hB,p,v,hp,hbk,hown,hne,h0⟩:=h1;have hpe:p=.pointer (some ⟨b,0,none⟩):=by
  have:w1.cell? ⟨b,0,none⟩=some p:=by rw[Lib.cell_of_heap hbk];rfl
  rw[hc0] at this;exact (Option.some.inj this).symm
 subst hpe;have c1:w1.cell? ⟨b,1,none⟩=some v:=by rw[Lib.cell_of_heap hbk];rfl
 have hB1:B≤w1.heap.size:=by have:=(gE hbk).1;omega
 go_wp2_with (at_builtin;refine Lib.wpList_append_own_stringF _ rfl _ _ 81 9 rfl B 5 i0 Tryz.underlying81 Tryz.underlying9 hi hz0 hz1 hz2 _ _ _ rfl hown (⟨t.toArray⟩:ByteArray) rfl ?c3 ?c4 ?c5 ?_)
 case c3=>unfold maxLen;simp[ByteArray.size];omega
 case c4=>simpa[ByteArray.size] using hlen
 case c5=>exact hB1
 intro v' w2 hown' hgrow hnil;have hlt:b<w1.heap.size:=(gE hbk).1;have hb2:w2.heap[b]?=some (.cells #[.pointer (some ⟨b,0,none⟩),v] 120 (0,0)):=by
  rw[hgrow.block b hlt (fun e=>hne e.symm)];exact hbk
 have d0:w2.cell? ⟨b,0,none⟩=some (.pointer (some ⟨b,0,none⟩)):=by rw[Lib.cell_of_heap hb2];rfl
 have d1:w2.cell? ⟨b,1,none⟩=some v:=by rw[Lib.cell_of_heap hb2];rfl
 have f1:w2.frozen? ⟨b,1,none⟩=false:=Lib.frozen_of_heap hb2 1;have hkind:∀g,v.ownBlock=some g→∃c fz,w1.heap[g]?=some (.cells c 5 fz):=by
  intro g hg;rcases hown.2 with ⟨rfl,_⟩ | ⟨g',cap,cur,fz,rfl,_,hgg,_⟩
  ·cases hg
  ·cases hg;exact⟨_,_,hgg⟩
 have hcells:Lib.byteCells bs++Lib.strCells (⟨t.toArray⟩:ByteArray)=Lib.byteCells (bs++t):=by simp[Lib.byteCells,Lib.strCells]
 rw[hcells,←lA] at hown';have hne':v'.ownBlock≠some b:=by
  intro e;rcases hown'.2 with ⟨rfl,_⟩ | ⟨g',cap,cur,fz,rfl,_,hgg,_⟩
  ·cases e
  ·cases e;rw[hb2] at hgg;cases hgg
 have hP:=heap_setCell_same w2 b 1 _ _ v' hb2;have HP:=Hd (show Pst B (w2.setCell ⟨b,1,none⟩ v') b (bs++t) from by
  have hA:Lib.BuilderAtF 120 5 B b (.pointer (some ⟨b,0,none⟩)) (Lib.byteCells (bs++t)) (w2.setCell ⟨b,1,none⟩ v'):=Lib.BuilderAtF.put (T:=120) (e:=5) hB hb2 (bs':=Lib.byteCells (bs++t)) (by rw[Lib.byteCells_length];exact hown') (by decide);obtain⟨-,v2,hb3,hr3,hn3⟩:=hA;have:v2=v':=by rw[hP] at hb3;cases hb3;rfl
  subst this;refine⟨hB,_,v2,.inr rfl,hP,by rw[Lib.byteCells_length] at hr3;exact hr3,hn3,fun e=>?_⟩;obtain⟨e1,e2⟩:=List.append_eq_nil_iff.1 e;subst e1 e2;exact hnil.2 ⟨h0 rfl,rfl⟩)
 have HF:=Hd (show Fb B b w (w2.setCell ⟨b,1,none⟩ v') from hf1.trans ⟨(((Below.refl B w1).grown hgrow hB1 (fun k hk=>(hown.lt k hk).1)).setCell (p:=⟨b,1,none⟩) hB _),(((Lib.OthersKept.refl _ _ w1).grown hgrow hkind).setCell ⟨b,1,none⟩ rfl _)⟩);obtain⟨ao,n',cap,rfl⟩:∃ao n' cap,v'=.slice ao n' cap:=by
  rcases hown'.2 with ⟨hv,_⟩ | ⟨g,cap,cur,fz,hv,_⟩
  ·exact⟨_,_,_,hv⟩
  ·exact⟨_,_,_,hv⟩
 clear hP hcells hne' hkind hown hown' hgrow hnil h0 hf1 hc0 hb2 hbk;go_wp2
 go_ret2
 exact⟨⟨_,rfl⟩,HP.out,HF.out⟩
theorem Zdj{B b:Nat}{bs:Bs}{w:World}(h:Pst B w b bs) :
  Calls Tryz.prog 60 #[.pointer (some ⟨b,0,none⟩)] w fun e w'=>e=.returned (.string ⟨bs.toArray⟩)∧Below B w w':=by
 obtain⟨hB,p,v,hp,hb,hown,hne,h0⟩:=h;by_cases hz:bs=[]
 ·subst hz;have hv:=h0 rfl;subst hv;have c1:w.drew.cell? ⟨b,1,none⟩=some (.slice none 0 0):=by
   have:w.drew.heap[b]?=some (.cells #[p,.slice none 0 0] 120 (0,0)):=hb;rw[Lib.cell_of_heap this];rfl
  have hSD:(Builtin.unsafeSliceData_ #[81] 173 #[.slice none 0 0]).run Tryz.prog w.drew=.ok (.pointer none) w.drew:=rfl;have hUS:∀(a:Option Addr) (W:World),(Builtin.unsafeString_ #[173,3] 9 #[.pointer a,.int .i64 0]).run Tryz.prog W=.ok (.string ⟨#[]⟩) W:=fun a W=>Lib.run_unsafeString_none W _ _ _ a
  have mixed:Tryz.prog.follows Departure.mixedOrders=true:=by kernel_rfl
  clear hown hne h0 hp hb;go_enter Tryz.func60,Tryz.ntmps60
  go_wp2
  go_region_o
  all_goals (go_wp2;go_ret;exact⟨rfl,Below.drew (Below.refl B w)⟩)
 ·have hl0:bs.length≠0:=by simpa using hz
  obtain⟨g,cap,cur,fz,rfl,hbg,hg,hfz,hnc,hcm,hcs,htake⟩:∃g cap cur fz,v=.slice (some ⟨g,0,none⟩) bs.length cap∧B≤g∧w.heap[g]?=some (.cells cur 5 fz)∧fz.2≤bs.length*1∧bs.length≤cap∧cap≤maxLen∧cur.size=cap*1∧cur.toList.take (bs.length*1)=Lib.byteCells bs:=by
   rcases hown.2 with ⟨_,hz⟩ | ⟨g,cap,cur,fz,hv,r⟩
   ·exact absurd hz hl0
   ·exact⟨g,cap,cur,fz,hv,r⟩
  have c1:w.drew.cell? ⟨b,1,none⟩=some (.slice (some ⟨g,0,none⟩) bs.length cap):=by
   have:w.drew.heap[b]?=some (.cells #[p,.slice (some ⟨g,0,none⟩) bs.length cap] 120 (0,0)):=hb;rw[Lib.cell_of_heap this];rfl
  have hSD:(Builtin.unsafeSliceData_ #[81] 173 #[.slice (some ⟨g,0,none⟩) bs.length cap]).run Tryz.prog w.drew=.ok (.pointer (some ⟨g,0,none⟩)) w.drew:=
   Lib.run_unsafeSliceData_row _ _ _ _ _ _ (by omega)
  have hUS:(Builtin.unsafeString_ #[173,3] 9 #[.pointer (some ⟨g,0,none⟩),.int .i64 bs.length]).run Tryz.prog w.drew=.ok (.string ⟨bs.toArray⟩) (w.drew.freeze ⟨g,0,none⟩ bs.length):=by
   refine Lib.run_unsafeString_row w.drew 173 3 9 5 Tryz.underlying173 (by kernel_rfl) g cur.size (by have hg':w.drew.heap[g]?=some (.cells cur 5 fz):=hg;simp[World.shape?,hg']) bs hz (by omega) (by unfold maxLen at hcm;omega) ?_;intro j x hx;exact hown.cells (g:=g) rfl j (.int .u8 x.toNat) (by simp[Lib.byteCells,hx])
  have HF:=Hd (show Below B w (w.drew.freeze ⟨g,0,none⟩ bs.length) from Lib.below_freeze (Below.drew (Below.refl B w)) (p:=⟨g,0,none⟩) hbg _);have mixed:Tryz.prog.follows Departure.mixedOrders=true:=by kernel_rfl
  clear hown hne h0 hp hb hbg hg hfz hnc hcm hcs htake hl0 hz;go_enter Tryz.func60,Tryz.ntmps60
  go_wp2
  go_region_o
  all_goals (go_wp2;go_ret;exact⟨rfl,HF.out⟩)
def Pcsat (w:World)(g:Nat)(L:List Bs):Prop:=∃cs,w.heap[g]?=some (.cells cs 9 (0,0))∧∀(i:Nat) (s:Bs),L[i]?=some s→cs[i]?=some (Value.string ⟨s.toArray⟩)
theorem Pcsat.fb{B b:Nat}{w w':World}{g:Nat}{L:List Bs}(h:Pcsat w g L)(hg:g≠b)(hF:Fb B b w w'):Pcsat w' g L:=by
 obtain⟨cs,h1,h2⟩:=h;exact⟨cs,hF.2 g _ h1 (fun e=>hg (Option.some.inj e)) (fun c fz e=>by cases e),h2⟩
theorem Pcsat.cell{w:World}{g:Nat}{L:List Bs}(h:Pcsat w g L){i:Nat}{s:Bs}(hi:L[i]?=some s):w.cell? ⟨g,i,none⟩=some (.string ⟨s.toArray⟩):=by
 obtain⟨cs,h1,h2⟩:=h;rw[Lib.cell_of_heap h1];exact h2 i s hi
theorem Pcsat.ne{B b:Nat}{bs:Bs}{w:World}{g:Nat}{L:List Bs}(h:Pcsat w g L)(k:Pst B w b bs):g≠b:=by
 rintro rfl;obtain⟨cs,h1,-⟩:=h;obtain⟨-,p,v,-,h2,-⟩:=k;rw[h1] at h2;cases h2
theorem ZdW (L:List Bs){i:Nat}{s:Bs}(h:L[i]?=some s):(L.take (i+1)).flatten=(L.take i).flatten++s:=by
 rw[List.take_add_one,h];simp
theorem Zhd (L:List Bs)(i:Nat):(L.take i).flatten.length≤L.flatten.length:=by
 have h:=congrArg List.length (show L.flatten=(L.take i).flatten++(L.drop i).flatten by rw[←List.flatten_append,List.take_append_drop]);rw[lA] at h;omega
theorem ZnZ{B b:Nat}{bs:Bs}{w:World}(h:Pst B w b bs)(L:List Bs)(g c:Nat)(hL:Pcsat w g L)(hlen:bs.length+L.flatten.length≤140737488355328)(hn:L.length≤1000) :
  Calls Tryz.prog 100 #[.pointer (some ⟨b,0,none⟩),.slice (some ⟨g,0,none⟩) L.length c] w fun e w'=>e=.returned (.tuple #[])∧Fb B b w w'∧Pst B w' b (bs++L.flatten):=by
 have HP0:=Hd h;have HL0:=Hd hL;have HNE:=Hd (hL.ne h);have HLEN:=Hd hlen;obtain⟨n,hnn⟩:=eX (L.length);rw[←hnn] at hn⊢;have HN:=Hd hnn;clear h hL hlen hnn;go_enter Tryz.func100,Tryz.ntmps100
 go_wp2_with fail
 go_loopw [8] (fun s8 wr=>∃(i:Nat),s8=.int .i64 i∧i≤n∧Hid (Pst B wr b (bs++(L.take i).flatten))∧Hid (Fb B b w wr)) (fun s8 _=>n-(intOf s8).toNat)
 case atStart=>exact⟨0,rfl,Nat.zero_le _,Hd (by simpa using HP0.out),Hd (Fb.refl B b w)⟩
 case round=>
  obtain⟨i,rfl,hin,hP,hF⟩:=hrel;by_cases hlt:i<n
  ·have hd1:decide ((i:Int)<(n:Int))=true:=by simp;omega
   have hd2:decide (i<n)=true:=by simp;omega
   have hi:i<L.length:=by have:=HN.out;omega
   have hg:L[i]?=some L[i]:=List.getElem?_eq_getElem hi;have c0:wr.cell? ⟨g,i,none⟩=some (.string ⟨(L[i]).toArray⟩):=(HL0.out.fb HNE.out hF.out).cell hg;obtain⟨s,hs⟩:=eX (L[i]);rw[←hs] at c0 hg;have HG:=Hd hg;have HLT:=Hd hlt;have HW:=Hd (Zc3 hP.out s (by
    have h1:=Zhd L (i+1);rw[ZdW L hg] at h1;have:=HLEN.out;simp only[lA] at h1⊢;omega))
   clear hg hs hi hlt hP;go_wp2_with fail
   refine HW.out.mono ?_;rintro e w' ⟨⟨k,rfl⟩,h1,h2⟩;have HP':=Hd h1;have HF':=Hd (hF.out.trans h2);clear h1 h2 hF HW;go_wp2_with fail
   refine⟨⟨i+1,by simp,by have:=HLT.out;omega,Hd (by rw[ZdW L HG.out,←aA];exact HP'.out),HF'⟩,?_⟩;simp[intOf];have:=HLT.out;omega
  ·have hd1:decide ((i:Int)<(n:Int))=false:=by simp;omega
   have hd2:decide (i<n)=false:=by simp;omega
   obtain rfl:i=n:=by omega
   clear hlt hin;go_wp2_with fail
   go_end0
   refine⟨rfl,hF.out,?_⟩;have e:L.take i=L:=List.take_of_length_le (by have:=HN.out;omega);have:=hP.out;rw[e] at this;exact this
theorem Zbo{B b:Nat}{bs:Bs}{w:World}(h:Pst B w b bs)(L:List Bs)(g c:Nat)(hL:Pcsat w g L)(hlen:bs.length+L.flatten.length≤140737488355328)(hn:L.length≤1000) :
  CallsD Tryz.prog 100 #[.pointer (some ⟨b,0,none⟩),.slice (some ⟨g,0,none⟩) L.length c] .returning w fun e u w'=>u=.returning∧e=.returned (.tuple #[])∧Fb B b w w'∧Pst B w' b (bs++L.flatten):=by
 have HP0:=Hd h;have HL0:=Hd hL;have HNE:=Hd (hL.ne h);have HLEN:=Hd hlen;obtain⟨n,hnn⟩:=eX (L.length);rw[←hnn] at hn⊢;have HN:=Hd hnn;clear h hL hlen hnn;go_enter_d Tryz.func100,Tryz.ntmps100
 go_wp2_with fail
 go_loopw [8] (fun s8 wr=>∃(i:Nat),s8=.int .i64 i∧i≤n∧Hid (Pst B wr b (bs++(L.take i).flatten))∧Hid (Fb B b w wr)) (fun s8 _=>n-(intOf s8).toNat)
 case atStart=>exact⟨0,rfl,Nat.zero_le _,Hd (by simpa using HP0.out),Hd (Fb.refl B b w)⟩
 case round=>
  obtain⟨i,rfl,hin,hP,hF⟩:=hrel;by_cases hlt:i<n
  ·have hd1:decide ((i:Int)<(n:Int))=true:=by simp;omega
   have hd2:decide (i<n)=true:=by simp;omega
   have hi:i<L.length:=by have:=HN.out;omega
   have hg:L[i]?=some L[i]:=List.getElem?_eq_getElem hi;have c0:wr.cell? ⟨g,i,none⟩=some (.string ⟨(L[i]).toArray⟩):=(HL0.out.fb HNE.out hF.out).cell hg;obtain⟨s,hs⟩:=eX (L[i]);rw[←hs] at c0 hg;have HG:=Hd hg;have HLT:=Hd hlt;have HW:=Hd (Zc3 hP.out s (by
    have h1:=Zhd L (i+1);rw[ZdW L hg] at h1;have:=HLEN.out;simp only[lA] at h1⊢;omega))
   clear hg hs hi hlt hP;go_wp2_with fail
   refine HW.out.mono ?_;rintro e w' ⟨⟨k,rfl⟩,h1,h2⟩;have HP':=Hd h1;have HF':=Hd (hF.out.trans h2);clear h1 h2 hF HW;go_wp2_with fail
   refine⟨⟨i+1,by simp,by have:=HLT.out;omega,Hd (by rw[ZdW L HG.out,←aA];exact HP'.out),HF'⟩,?_⟩;simp[intOf];have:=HLT.out;omega
  ·have hd1:decide ((i:Int)<(n:Int))=false:=by simp;omega
   have hd2:decide (i<n)=false:=by simp;omega
   obtain rfl:i=n:=by omega
   clear hlt hin;go_wp2_with fail
   go_end0
   refine⟨rfl,hF.out,?_⟩;have e:L.take i=L:=List.take_of_length_le (by have:=HN.out;omega);have:=hP.out;rw[e] at this;exact this
theorem Pst.below{B b:Nat}{w w':World}{bs:Bs}(h:Pst B w b bs)(k:Below w.heap.size w w'):Pst B w' b bs:=by
 have hlt:=h.lt;obtain⟨hB,p,v,hp,hb,hr,hn,h0⟩:=h;refine⟨hB,p,v,hp,(k.block b hlt).trans hb,?_,hn,h0⟩;refine⟨hr.1,?_⟩;rcases hr.2 with e | ⟨g,cap,cur,fz,hv,hbg,hg,rest⟩
 ·exact .inl e
 ·exact .inr ⟨g,cap,cur,fz,hv,hbg,(k.block g (gE hg).1).trans hg,rest⟩
theorem Pst.hi{B b:Nat}{w:World}{bs:Bs}(h:Pst B w b bs):B≤w.heap.size:=by
 have:=h.lt;have:=h.1;omega
theorem Fb.of_below{B b:Nat}{w w':World}(hB:B≤w.heap.size)(k:Below w.heap.size w w'):Fb B b w w':=
 ⟨k.mono hB,fun i _ hi _ _=>(k.block i (gE hi).1).trans hi⟩
theorem Fb.then_below{B b:Nat}{w w' w'':World}{bs:Bs}(h:Fb B b w w')(k:Below w'.heap.size w' w'')(hp:Pst B w' b bs):Fb B b w w'':=h.trans (Fb.of_below hp.hi k)
/-! Data that printing leaves as it is: no rows of bytes, no printers. -/
mutual
def nb:Dt→Bool
 | .num _=>true
 | .str _=>true
 | .row e _ _ l=>e !=5&&e !=120&&nbs l
def nbs:List Dt→Bool
 | []=>true
 | d::r=>nb d&&nbs r
end
theorem Zd9:∀l m,nbs (l++m)=(nbs l&&nbs m)
 | [],m=>by simp[nbs]
 | d::r,m=>by simp[nbs,Zd9 r m,Bool.and_assoc]
theorem ZdS:∀ns:List Bs,nbs (ns.map .str)=true
 | []=>rfl
 | n::ns=>by simp[nbs,nb,ZdS ns]
mutual
theorem nb_T:∀t:PT,nbs (encT 26 t)=true
 | .mk k n ns l=>by simp[encT,nbs,nb,ZdS,Zdu l]
theorem Zdu:∀l:List PT,nbs (Zau 26 l)=true
 | []=>rfl
 | t::r=>by rw[Zau,Zd9,nb_T t,Zdu r];rfl
end
mutual
theorem nb_E:∀t:PE,nbs (encE 26 36 t)=true
 | .mk k a n m ns l ts=>by simp[encE,nbs,nb,ZdS,Zdv l,Zdu ts]
theorem Zdv:∀l:List PE,nbs (Zaw 26 36 l)=true
 | []=>rfl
 | t::r=>by rw[Zaw,Zd9,nb_E t,Zdv r];rfl
end
theorem row_fb{B b:Nat}{bs:Bs}{w w':World}{base:Nat}{e:TypeId}{size:Nat}{v:Value}{n:Nat}{xs:List Value}(h:w.ownsRow base e size v n xs)(hp:Pst B w b bs)(hF:Fb B b w w')(h5:e≠5)(h104:e≠120):w'.ownsRow base e size v n xs:=by
 refine⟨h.1,?_⟩;rcases h.2 with hn' | ⟨g,cap,cur,rfl,hb,hgg,rest⟩
 ·exact .inl hn'
 ·refine .inr ⟨g,cap,cur,rfl,hb,hF.2 g _ hgg (fun e1=>?_) (fun c fz e1=>?_),rest⟩
  ·cases e1;obtain⟨-,p,v,-,h2,-⟩:=hp;rw[hgg] at h2;cases h2;exact h104 rfl
  ·cases e1;exact h5 rfl
mutual
theorem IsC.fb{B b:Nat}{bs:Bs}{A:Nat→Prop}{w w':World}(hp:Pst B w b bs)(hF:Fb B b w w'):∀(d:Dt) (v:Value),nb d=true→IsC A w d v→IsC A w' d v
 | .num n,v,_,h=>by simpa only[IsC] using h
 | .str s,v,_,h=>by simpa only[IsC] using h
 | .row e size n l,v,hn,h=>by
  simp only[IsC] at h⊢;simp only[nb,Bool.and_eq_true,bne_iff_ne] at hn;obtain⟨xs,h1,h2,h3,h4⟩:=h;exact⟨xs,h1,row_fb h2 hp hF hn.1.1 hn.1.2,h3,IsCs.fb hp hF l xs hn.2 h4⟩
theorem IsCs.fb{B b:Nat}{bs:Bs}{A:Nat→Prop}{w w':World}(hp:Pst B w b bs)(hF:Fb B b w w'):∀(l:List Dt) (xs:List Value),nbs l=true→IsCs A w l xs→IsCs A w' l xs
 | [],xs,_,h=>by simpa only[IsCs] using h
 | d::r,xs,hn,h=>by
  simp only[nbs,Bool.and_eq_true] at hn;simp only[IsCs] at h⊢;obtain⟨x,ys,h1,h2,h3⟩:=h;exact⟨x,ys,h1,IsC.fb hp hF d x hn.1 h2,IsCs.fb hp hF r ys hn.2 h3⟩
end
/-! One, two, three Zaq, laid for the call. -/
theorem ZhI (w:World)(L:List Bs):Pcsat (w.alloc (.cells (L.map fun s=>Value.string ⟨s.toArray⟩).toArray 9)) w.heap.size L:=
 ⟨_,hN w _,fun i s hi=>by simp[hi]⟩
theorem sayL{B b:Nat}{bs:Bs}{w:World}(h:Pst B w b bs)(L:List Bs)(c:Nat)(hlen:bs.length+L.flatten.length≤140737488355328)(hn:L.length≤1000) :
  Calls Tryz.prog 100 #[.pointer (some ⟨b,0,none⟩),.slice (some ⟨w.heap.size,0,none⟩) L.length c] (w.alloc (.cells (L.map fun s=>Value.string ⟨s.toArray⟩).toArray 9)) fun e w'=>e=.returned (.tuple #[])∧Fb B b w w'∧Pst B w' b (bs++L.flatten):=by
 refine (ZnZ (h.alloc _) L w.heap.size c (ZhI w L) hlen hn).mono ?_;rintro e w' ⟨h1,h2,h3⟩;exact⟨h1,((Fb.refl B b w).alloc h.hi _).trans h2,h3⟩
theorem say1{B b:Nat}{bs:Bs}{w:World}(h:Pst B w b bs)(s:Bs)(hlen:bs.length+s.length≤140737488355328) :
  Calls Tryz.prog 100 #[.pointer (some ⟨b,0,none⟩),.slice (some ⟨w.heap.size,0,none⟩) 1 1] (w.alloc (.cells #[.string ⟨s.toArray⟩] 9)) fun e w'=>e=.returned (.tuple #[])∧Fb B b w w'∧Pst B w' b (bs++s):=by
 have:=sayL h [s] 1 (by simpa using hlen) (by simp)
 simpa using this
theorem say2{B b:Nat}{bs:Bs}{w:World}(h:Pst B w b bs)(s t:Bs)(hlen:bs.length+(s++t).length≤140737488355328) :
  Calls Tryz.prog 100 #[.pointer (some ⟨b,0,none⟩),.slice (some ⟨w.heap.size,0,none⟩) 2 2] (w.alloc (.cells #[.string ⟨s.toArray⟩,.string ⟨t.toArray⟩] 9)) fun e w'=>e=.returned (.tuple #[])∧Fb B b w w'∧Pst B w' b (bs++(s++t)):=by
 have:=sayL h [s,t] 2 (by simpa using hlen) (by simp)
 simpa using this
theorem say3{B b:Nat}{bs:Bs}{w:World}(h:Pst B w b bs)(s t u:Bs)(hlen:bs.length+(s++(t++u)).length≤140737488355328) :
  Calls Tryz.prog 100 #[.pointer (some ⟨b,0,none⟩),.slice (some ⟨w.heap.size,0,none⟩) 3 3] (w.alloc (.cells #[.string ⟨s.toArray⟩,.string ⟨t.toArray⟩,.string ⟨u.toArray⟩] 9)) fun e w'=>e=.returned (.tuple #[])∧Fb B b w w'∧Pst B w' b (bs++(s++(t++u))):=by
 have:=sayL h [s,t,u] 3 (by simpa using hlen) (by simp)
 simpa using this
theorem ZdI{B b:Nat}{bs:Bs}{w:World}(h:Pst B w b bs)(i:Nat)(s:Bs)(hlen:i≠0→bs.length+s.length≤140737488355328) :
  Calls Tryz.prog 144 #[.pointer (some ⟨b,0,none⟩),.int .i64 i,.string ⟨s.toArray⟩] w fun e w'=>e=.returned (.tuple #[])∧Fb B b w w'∧Pst B w' b (bs++if i=0 then [] else s):=by
 have HS:=Hd (fun hi=>say1 h s (hlen hi));have HP:=Hd h;clear h hlen;go_enter Tryz.func144,Tryz.ntmps144
 by_cases hi:i=0
 ·subst hi;go_wp2_with fail
  go_end0
  exact⟨rfl,Fb.refl B b w,by simpa using HP.out⟩
 ·have hd1:decide ((i:Int) > 0)=true:=by simp;omega
  have hd2:decide ((0:Int)<(i:Int))=true:=by simp;omega
  have hd3:decide (0<i)=true:=by simp;omega
  go_wp2_with fail
  refine (HS.out hi).mono ?_;rintro e w' ⟨rfl,h1,h2⟩;have H1:=Hd h1;have H2:=Hd h2;clear h1 h2;go_wp2_with fail
  go_end0
  exact⟨rfl,H1.out,by first | exact H2.out | (rw[if_neg hi];exact H2.out)⟩
theorem Zg5 (k:Nat)(n:ByteArray)(a2 a3:Option Addr)(n2 c2 n3 c3:Nat)(w:World) :
  Calls Tryz.prog 103 #[.agg #[.int .i64 k,.string n,.slice a2 n2 c2,.slice a3 n3 c3]] w fun e w'=>e=.returned (.int .i64 (lvlT k:Nat))∧Below w.heap.size w w':=by
 go_enter Tryz.func103,Tryz.ntmps103
 by_cases h7:k=7
 ·subst h7;go_wp2_with fail
  go_ret
  exact⟨rfl,(Below.refl _ w).alloc (nl _) _⟩
 by_cases h6:k=6
 ·subst h6;go_wp2_with fail
  go_ret
  exact⟨rfl,(Below.refl _ w).alloc (nl _) _⟩
 ·have e7:((k:Int)==7)=false:=by simp;omega
  have e6:((k:Int)==6)=false:=by simp;omega
  have hl:lvlT k=2:=by unfold lvlT;rw[if_neg h7,if_neg h6]
  go_wp2_with fail
  go_ret
  exact⟨by rw[hl];rfl,(Below.refl _ w).alloc (nl _) _⟩
def zPT:PT:=.mk 0 [] [] []
theorem zPT_is (A:Nat→Prop)(w:World):IsCs A w (encT 26 zPT) [.int .i64 (0:Nat),.string ⟨([]:Bs).toArray⟩,.slice none 0 0,.slice none 0 0]:=by
 simp only[zPT,encT,Zau,List.map_nil,lN];exact .cons (.num _ _ _) (.cons (.str _ _ _) (.cons (.none _ _ _ (by decide)) (.cons (.none _ _ _ (by decide)) (.nil _ _))))
theorem Zch (l:List PT)(i:Nat)(A:Nat→Prop)(w:World)(v:Value)(h:IsC A w (.row 26 4 l.length (Zau 26 l)) v)(hi9:i≤1000000000000000) :
  Calls Tryz.prog 101 #[v,.int .i64 i] w fun e w'=>∃cs,e=.returned (.agg cs.toArray)∧Below w.heap.size w w'∧IsCs A w' (encT 26 (l[i]?.getD zPT)) cs:=by
 obtain⟨tt,htt⟩:=eX (l[i]?.getD zPT);rw[←htt];have HTT:=Hd htt;clear htt;have hS:=Sub.of_row h (by rw[ZaE];exact ZaF (Zas 26) l);obtain⟨a0,cap,xs,rfl,-,-⟩:=id hS;obtain⟨W1,hW1⟩:=eY (w.alloc (.cells #[.int .i64 0,.string ⟨#[]⟩,.slice none 0 0,.slice none 0 0] 26));have hA1:W1.heap[w.heap.size]?=some (.cells #[.int .i64 0,.string ⟨#[]⟩,.slice none 0 0,.slice none 0 0] 26 (0,0)):=by rw[←hW1];exact hN w _
 have hB1:Below w.heap.size w W1:=by rw[←hW1];exact (Below.refl _ w).alloc (nl _) _
 have HB1:=Hd hB1;have HA1:=Hd hA1;have HW1:=Hd hW1;have HSZ:=Hd (show W1.heap.size=w.heap.size+1 by rw[←hW1];simp);by_cases hlt:i<l.length
 ·have hd1:decide ((i:Int)<(l.length:Int))=true:=dT (by omega);have hd2:decide (i<l.length)=true:=dT hlt;have hget:l[i]?=some l[i]:=List.getElem?_eq_getElem hlt;obtain⟨t,ht⟩:=eX (l[i]);rw[←ht] at hget;have hS2:=hS;rw[ZaE] at hS2;obtain⟨g,o,cs,rfl,hg,hcs,hcell⟩:=Sub.at (Zas 26) hS2 hget (by omega);obtain⟨tk,tn,a2,n2,c2,a3,n3,c3,rfl⟩:=Zbq hcs;have d0:=(hB1.cell (p:=⟨g,o+i*4+0,none⟩) hg).trans (hcell 0 _ rfl);have d1:=(hB1.cell (p:=⟨g,o+i*4+1,none⟩) hg).trans (hcell 1 _ rfl);have d2:=(hB1.cell (p:=⟨g,o+i*4+2,none⟩) hg).trans (hcell 2 _ rfl);have d3:=(hB1.cell (p:=⟨g,o+i*4+3,none⟩) hg).trans (hcell 3 _ rfl);rw[aZ] at d0;have HCS:=Hd (hcs.mono (A':=fun b=>A b∧b<w.heap.size) (fun b hb ha=>⟨ha,hb⟩));have HTH:=Hd (Zaf hA1 rfl);have HGET:=Hd (show tt=t by rw[HTT.out,hget];rfl);clear hS hS2 hget ht hcs hcell hg h hA1 hB1;go_enter Tryz.func101,Tryz.ntmps101
  go_upto_region 1 with fail
  clear hW1;go_wp2_with (first | (refine Zaa rfl 26 (.tmp 4) (.tmp 13) rfl w.heap.size _ rfl rfl HTH.out Zc8 (all_oneCell_toArray (by simp[Value.oneCell'])) ?_;intro W9 hW9))
  have hA9:W9.heap[w.heap.size]?=some (.cells #[.int .i64 tk,.string tn,.slice a2 n2 c2,.slice a3 n3 c3] 26 (0,0)):=by rw[hW9.out];exact Zam (vs:=[.int .i64 tk,.string tn,.slice a2 n2 c2,.slice a3 n3 c3]) HA1.out rfl
  refine Zd5 Tryz.results101 rfl rfl hA9 ⟨[.int .i64 tk,.string tn,.slice a2 n2 c2,.slice a3 n3 c3],rfl,?_,?_⟩
  ·rw[hW9.out];exact Below.putL HB1.out (nl _) _
  ·rw[HGET.out,hW9.out];exact ((HCS.out.below HB1.out).putL _ (fun b hb=>Nat.ne_of_lt hb.2) _).mono (fun b _ hb=>hb.1)
 ·have hd1:decide ((i:Int)<(l.length:Int))=false:=dF (by omega);have hd2:decide (i<l.length)=false:=dF hlt;have hA2:(W1.alloc (.cells #[.int .i64 0,.string ⟨#[]⟩,.slice none 0 0,.slice none 0 0] 26)).heap[w.heap.size]?=some (.cells #[.int .i64 0,.string ⟨#[]⟩,.slice none 0 0,.slice none 0 0] 26 (0,0)):=Zab hA1 _;have HA2:=Hd hA2;have HTH:=Hd (Zaf hA2 rfl);have HB2:=Hd (hB1.alloc hB1.size (.cells #[.int .i64 0,.string ⟨#[]⟩,.slice none 0 0,.slice none 0 0] 26));have HGET:=Hd (show tt=zPT by rw[HTT.out,List.getElem?_eq_none (by omega)];rfl);clear hS h hA1 hB1 hA2;go_enter Tryz.func101,Tryz.ntmps101
  go_upto_region 1 with fail
  clear hW1;go_wp2_with (first | (refine Zaa rfl 26 (.tmp 4) (.tmp 14) rfl w.heap.size _ rfl rfl HTH.out Zc8 (all_oneCell_toArray (by simp[Value.oneCell'])) ?_;intro W9 hW9))
  have hA9:W9.heap[w.heap.size]?=some (.cells #[.int .i64 0,.string ⟨#[]⟩,.slice none 0 0,.slice none 0 0] 26 (0,0)):=by rw[hW9.out];exact Zam (vs:=[.int .i64 0,.string ⟨#[]⟩,.slice none 0 0,.slice none 0 0]) HA2.out rfl
  refine Zd5 Tryz.results101 rfl rfl hA9 ⟨[.int .i64 0,.string ⟨#[]⟩,.slice none 0 0,.slice none 0 0],rfl,?_,?_⟩
  ·rw[hW9.out];exact Below.putL HB2.out (nl _) _
  ·rw[HGET.out];exact zPT_is A W9
theorem Zdr{e:TypeId}{A:Nat→Prop}{w:World}{k:Nat}{n:Bs}{ns:List Bs}{l:List PT}{cs:List Value}(h:IsCs A w (encT e (.mk k n ns l)) cs):∃a2 c2 a3 c3,cs=[.int .i64 k,.string ⟨n.toArray⟩,.slice a2 ns.length c2,.slice a3 l.length c3]∧IsC A w (.row 9 1 ns.length (ns.map .str)) (.slice a2 ns.length c2)∧IsC A w (.row e 4 l.length (Zau e l)) (.slice a3 l.length c3):=by
 simp only[encT] at h;obtain⟨x0,ys,rfl,k0,h⟩:=h.uncons;obtain⟨x1,ys,rfl,k1,h⟩:=h.uncons;obtain⟨x2,ys,rfl,k2,h⟩:=h.uncons;obtain⟨x3,ys,rfl,k3,h⟩:=h.uncons;simp only[IsCs] at h;subst h;simp only[IsC] at k0 k1;subst k0 k1;obtain⟨xs2,r2,-,-⟩:=k2.unrow;obtain⟨a2,c2,rfl⟩:=Zag r2;obtain⟨xs3,r3,-,-⟩:=k3.unrow;obtain⟨a3,c3,rfl⟩:=Zag r3;exact⟨a2,c2,a3,c3,rfl,k2,k3⟩
def Prt (f:Nat)(args:Nat→Array Value)(txt:Bs)(D:World→Prop):Prop:=∀(B b:Nat) (bs:Bs) (w:World),Pst B w b bs→D w→bs.length+txt.length≤140737488355328→Calls Tryz.prog f (args b) w (fun e w'=>e=.returned (.tuple #[])∧Fb B b w w'∧Pst B w' b (bs++txt))
def TyOk (t:PT):Prop:=∀(q:Nat),q≤2→∀(A:Nat→Prop) (cs:List Value),Prt 61 (fun b=>#[.pointer (some ⟨b,0,none⟩),.agg cs.toArray,.int .i64 q]) (prT q t) (fun w=>IsCs A w (encT 26 t) cs)
theorem Zok (q:Nat)(h:q≤2):prT q zPT=[]:=by
 rw[zPT,Zb2];simp[Zcm,lvlT,ZdZ];omega
theorem Zmu (q:Nat)(hq:q≤2)(l:List PT)(i:Nat):(l.map (prT q))[i]?.getD []=prT q (l[i]?.getD zPT):=by
 rw[List.getElem?_map];cases l[i]? with
 | none=>exact (Zok q hq).symm
 | some t=>rfl
theorem Zdq{α:Type}(s:List α)(L:List (List α))(i:Nat)(x:List α)(h:L[i]?=some x):Zaz s (L.take (i+1))=Zaz s (L.take i)++((if i=0 then [] else s)++x):=by
 rw[List.take_add_one,h];by_cases hi:i=0
 ·subst hi;simp[Zaz]
 ·rw[if_neg hi];exact Zec s _ x (by
   intro e;have:=congrArg List.length e;have hl:=(List.getElem?_eq_some_iff.1 h).1;rw[List.length_take] at this;simp only[lN] at this;omega)
theorem Zb3{α:Type}(s:List α)(L:List (List α)):∀n i,i+n=L.length→(Zaz s (L.take i)).length≤(Zaz s L).length
 | 0,i,h=>by rw[List.take_of_length_le (by omega)];exact nl _
 | n+1,i,h=>by
  have ih:=Zb3 s L n (i+1) (by omega);have hi:i<L.length:=by omega
  rw[Zdq s L i _ (List.getElem?_eq_getElem hi)] at ih;simp only[lA] at ih;omega
theorem Zex{s:Bs}(hs:1≤s.length):∀L:List Bs,L.length≤(Zaz s L).length+1
 | []=>by simp
 | [x]=>by simp
 | x::y::r=>by
  have:=Zex hs (y::r);rw[Zaz];simp only[lC,lA] at this⊢;omega
theorem Zd2:∀ns:List Bs,ns.map Dt.str=ns.flatMap fun s=>[Dt.str s]
 | []=>rfl
 | n::ns=>by rw[List.map_cons,Zd2 ns,List.flatMap_cons];rfl
theorem Zin (k:Nat)(n:Bs)(ns:List Bs)(l:List PT)(HT:∀t,(t∈l∨t=zPT)→TyOk t)(A:Nat→Prop)(cs:List Value) :
  Prt 104 (fun b=>#[.pointer (some ⟨b,0,none⟩),.agg cs.toArray]) (123::(Zaz [44,32] (Zbz [58,32] ns (l.map (prT 0)))++[125])) (fun w=>IsCs A w (encT 26 (.mk k n ns l)) cs):=by
 intro B b bs w hP hC hlen;obtain⟨L,hL⟩:=eX (Zbz [58,32] ns (l.map (prT 0)));rw[←hL] at hlen⊢;have HL:=Hd hL;have HLL:=Hd (show L.length=ns.length by rw[hL,Zci]);have hgt:ns.length≤140737488355329:=by
  have h1:=Zex (s:=[44,32]) (by decide) L;rw[←HLL.out];simp only[lC,lA,lN] at hlen;omega
 have HLEN:=Hd hlen;obtain⟨a2,c2,a3,c3,rfl,k2,k3⟩:=Zdr hC;have K2:=Hd k2;have K3:=Hd k3;have HP:=Hd hP;have HT:=Hd HT;obtain⟨W1,hW1⟩:=eY (w.alloc (.cells #[.int .i64 k,.string ⟨n.toArray⟩,.slice a2 ns.length c2,.slice a3 l.length c3] 26));have hA1:W1.heap[w.heap.size]?=some (.cells #[.int .i64 k,.string ⟨n.toArray⟩,.slice a2 ns.length c2,.slice a3 l.length c3] 26 (0,0)):=by rw[←hW1];exact hN w _
 have hP1:Pst B W1 b bs:=by rw[←hW1];exact hP.alloc _
 have hF1:Fb B b w W1:=by rw[←hW1];exact (Fb.refl B b w).alloc hP.hi _
 have HA1:=Hd hA1;have HP1:=Hd hP1;have HF1:=Hd hF1;have HS1:=Hd (say1 hP1 [123] (by simp only[lC,lA,lN] at hlen⊢;omega));clear hC k2 k3 hA1 hP1 hF1 hP hlen hL;go_enter Tryz.func104,Tryz.ntmps104
 go_upto_region 1 with fail
 clear hW1;go_wp2_with fail
 refine HS1.out.mono ?_;rintro e W2 ⟨rfl,hF2,hP2⟩;have HF2:=Hd (HF1.out.trans hF2);have HP2:=Hd hP2;have hA2:=hF2.2 _ _ HA1.out (fun e=>by have:=HP.out.lt;have:=Option.some.inj e;omega) (fun c fz e=>by cases e);have HA2:=Hd hA2;obtain⟨⟨q0,q1,q2,q3⟩,-⟩:=Zae (t:=26) hA2;clear hF2 hP2 hA2 HS1;go_wp2_with fail
 go_loopw [12] (fun s12 wr=>∃i:Nat,s12=.int .i64 i∧i≤ns.length∧Hid (Fb B b w wr)∧Hid (Fb B b W2 wr)∧Hid (Pst B wr b (bs++([123]++Zaz [44,32] (L.take i))))) (fun s12 _=>ns.length-(intOf s12).toNat)
 case atStart=>exact⟨0,rfl,Nat.zero_le _,HF2,Hd (Fb.refl B b W2),Hd (by simpa[Zaz] using HP2.out)⟩
 case round=>
  obtain⟨i,rfl,hil,hF,hG,hPr⟩:=hrel;by_cases hi2:i<ns.length
  ·have hd1:decide ((i:Int)<(ns.length:Int))=true:=dT (by omega);have hd2:decide (i<ns.length)=true:=dT hi2;have hi3:i<L.length:=by have:=HLL.out;omega
   obtain⟨s,hget⟩:∃s,ns[i]?=some s:=⟨_,List.getElem?_eq_getElem hi2⟩;obtain⟨t,ht⟩:=eX (l[i]?.getD zPT);have hx:L[i]?=some (s++([58,32]++prT 0 t)):=by rw[HL.out,ZdR _ _ _ _ _ hget,Zmu 0 (by decide),ht]
   have htm:t∈l∨t=zPT:=by
    rw[ht];cases hl:l[i]? with
    | none=>exact .inr rfl
    | some t=>exact .inl (List.mem_of_getElem? hl)
   have HTT:=Hd (HT.out t htm);obtain⟨sp,hsp⟩:∃sp:Bs,sp=if i=0 then [] else [44,32]:=⟨_,rfl⟩
   have hj:=Zdq [44,32] L i _ hx;rw[←hsp] at hj;have HJ:=Hd hj;have LQ:Hid (bs.length+(([123]++Zaz [44,32] (L.take i)).length+(sp.length+(s.length+(2+(prT 0 t).length))))≤140737488355328):=by
    have h1:=Zb3 [44,32] L (L.length-(i+1)) (i+1) (by omega);rw[hj] at h1;have h2:=HLEN.out;show _≤_;simp only[lA,lC,lN] at h1 h2⊢;omega
   have HBT:Hid (Calls Tryz.prog 144 #[.pointer (some ⟨b,0,none⟩),.int .i64 i,.string ⟨#[44,32]⟩] wr fun e w'=>e=.returned (.tuple #[])∧Fb B b wr w'∧Pst B w' b ((bs++([123]++Zaz [44,32] (L.take i)))++sp)):=by
    have:=ZdI hPr.out i [44,32] (fun h0=>by have:=LQ.out;rw[hsp,if_neg h0] at this;simp only[lA,lC,lN] at this⊢;omega);rw[←hsp] at this;exact this
   have hK2:=IsC.fb HP.out hF.out _ _ (by simp[nb,ZdS]) K2.out;have HK3:=Hd (IsC.fb HP.out hF.out _ _ (by simp[nb,Zdu]) K3.out);have hA:=hG.out.2 _ _ HA2.out (fun e=>by have:=HP.out.lt;have:=Option.some.inj e;omega) (fun c fz e=>by cases e);have HA:=Hd hA;obtain⟨⟨p0,p1,p2,p3⟩,-⟩:=Zae (t:=26) hA;have hS2:=Sub.of_row hK2 (by simp);rw[Zd2] at hS2;obtain⟨g,o,gs,rfl,hg,hcs,hcell⟩:=Sub.at (k:=1) (fun _=>rfl) hS2 hget (by omega);obtain⟨x,ys,rfl,k0,-⟩:=hcs.uncons;simp only[IsC] at k0;subst k0;have d0:=hcell 0 _ rfl;rw[aZ,Nat.mul_one] at d0;have HT1:=Hd ht;clear hi3 hx htm hsp hj hPr hA hK2 hS2 hcs hcell hget ht hg;go_wp2_with fail
   refine HBT.out.mono ?_;rintro e W3 ⟨rfl,f3,p3⟩;have F3:=Hd (hF.out.trans f3);have G3:=Hd (hG.out.trans f3);have P3:=Hd p3;have HS2:=Hd (say2 p3 s [58,32] (by have:=LQ.out;simp only[lA,lC,lN] at this⊢;omega));clear f3 p3 HBT;go_wp2_with fail
   refine HS2.out.mono ?_;rintro e W4 ⟨rfl,f4,p4⟩;have F4:=Hd (F3.out.trans f4);have G4:=Hd (G3.out.trans f4);have P4:=Hd p4;have hA4:=G4.out.2 _ _ HA2.out (fun e=>by have:=HP.out.lt;have:=Option.some.inj e;omega) (fun c fz e=>by cases e);obtain⟨⟨r0,r1,r2,r3⟩,-⟩:=Zae (t:=26) hA4;have HPT:=Hd (Zch l i A W4 _ (IsC.fb HP.out F4.out _ _ (by simp[nb,Zdu]) K3.out) (by omega));clear f4 p4 HS2 hA4;rw[←HT1.out] at HPT;go_wp2_with fail
   refine HPT.out.mono ?_;rintro e W5 ⟨cs5,rfl,b5,i5⟩;have P5:=Hd (P4.out.below b5);have F5:=Hd (F4.out.then_below b5 P4.out);have G5:=Hd (G4.out.then_below b5 P4.out);have H51:Hid (Calls Tryz.prog 61 #[.pointer (some ⟨b,0,none⟩),.agg cs5.toArray,.int .i64 0] W5 fun e w'=>e=.returned (.tuple #[])∧Fb B b W5 w'∧Pst B w' b (((((bs++([123]++Zaz [44,32] (L.take i)))++sp)++(s++[58,32])))++prT 0 t)):=
    HTT.out 0 (by decide) A cs5 B b _ W5 P5.out i5 (by have:=LQ.out;simp only[lA,lC,lN] at this⊢;omega)
   clear b5 i5 HPT;go_wp2_with fail
   refine H51.out.mono ?_;rintro e W6 ⟨rfl,f6,p6⟩;have F6:=Hd (F5.out.trans f6);have G6:=Hd (G5.out.trans f6);have P6:=Hd p6;clear f6 p6 H51;go_wp2_with fail
   refine⟨⟨i+1,by simp,by omega,F6,G6,Hd ?_⟩,?_⟩
   ·rw[HJ.out];have:=P6.out
    simpa only[aA] using this
   ·simp[intOf];omega
  ·have hd1:decide ((i:Int)<(ns.length:Int))=false:=dF (by omega);have hd2:decide (i<ns.length)=false:=dF hi2;have HE:=Hd (show L.take i=L from List.take_of_length_le (by have:=HLL.out;omega));have HS9:=Hd (say1 hPr.out [125] (by rw[HE.out];have:=HLEN.out;simp only[lA,lC,lN] at this⊢;omega));clear hPr;go_wp2_with fail
   refine HS9.out.mono ?_;rintro e W9 ⟨rfl,f9,p9⟩;have F9:=Hd (hF.out.trans f9);have P9:=Hd p9;clear f9 p9 HS9;go_wp2_with fail
   go_end0
   refine⟨rfl,F9.out,?_⟩;have:=P9.out;rw[HE.out] at this
   simpa only[aA,cA,List.nil_append] using this
theorem Zic (k:Nat)(n:Bs)(ns:List Bs)(l:List PT)(HT:∀t,t∈l→TyOk t)(A:Nat→Prop)(cs:List Value) :
  Prt 105 (fun b=>#[.pointer (some ⟨b,0,none⟩),.agg cs.toArray]) (if l.map (prT 1)=[] then [110,101,118,101,114] else Zaz [32,124,32] (l.map (prT 1))) (fun w=>IsCs A w (encT 26 (.mk k n ns l)) cs):=by
 intro B b bs w hP hC hlen;obtain⟨L,hL⟩:=eX (l.map (prT 1));rw[←hL] at hlen⊢;have HL:=Hd hL;have HLL:=Hd (show L.length=l.length by rw[hL,List.length_map]);obtain⟨a2,c2,a3,c3,rfl,k2,k3⟩:=Zdr hC;have K3:=Hd k3;have HP:=Hd hP;have HT:=Hd HT;obtain⟨W1,hW1⟩:=eY (w.alloc (.cells #[.int .i64 k,.string ⟨n.toArray⟩,.slice a2 ns.length c2,.slice a3 l.length c3] 26));have hA1:W1.heap[w.heap.size]?=some (.cells #[.int .i64 k,.string ⟨n.toArray⟩,.slice a2 ns.length c2,.slice a3 l.length c3] 26 (0,0)):=by rw[←hW1];exact hN w _
 have hP1:Pst B W1 b bs:=by rw[←hW1];exact hP.alloc _
 have hF1:Fb B b w W1:=by rw[←hW1];exact (Fb.refl B b w).alloc hP.hi _
 obtain⟨⟨q0,q1,q2,q3⟩,-⟩:=Zae (t:=26) hA1;have HA1:=Hd hA1;have HP1:=Hd hP1;have HF1:=Hd hF1;by_cases hz:l.length=0
 ·have hLn:L=[]:=List.eq_nil_of_length_eq_zero (by have:=HLL.out;omega);rw[if_pos hLn] at hlen⊢;have HS1:=Hd (say1 hP1 [110,101,118,101,114] hlen);have e0:((l.length:Int)==0)=true:=by simp[hz]
  have e1:(l.length==0)=true:=by simp[hz]
  have HZ:=Hd hz;clear hC k2 k3 hA1 hP1 hF1 hP hlen hL hLn hz;go_enter Tryz.func105,Tryz.ntmps105
  go_upto_region 1 with fail
  clear hW1;go_wp2_with fail
  refine HS1.out.mono ?_;rintro e W2 ⟨rfl,f2,p2⟩;have F2:=Hd (HF1.out.trans f2);have P2:=Hd p2;have hA2:=f2.2 _ _ HA1.out (fun e=>by have:=HP.out.lt;have:=Option.some.inj e;omega) (fun c fz e=>by cases e);obtain⟨⟨r0,r1,r2,r3⟩,-⟩:=Zae (t:=26) hA2;clear f2 p2 HS1 hA2;go_wp2_with fail
  go_loopw [16] (fun s16 wr=>s16=.int .i64 0∧Hid (Fb B b w wr)∧Hid (Pst B wr b (bs++[110,101,118,101,114]))) (fun _ _=>0)
  case atStart=>exact⟨rfl,F2,P2⟩
  case round=>
   obtain⟨rfl,hF,hPr⟩:=hrel;have hd1:decide ((0:Int)<(l.length:Int))=false:=by simp only[decide_eq_false_iff_not];have:=HZ.out;omega
   have hd2:decide (0<l.length)=false:=by simp only[decide_eq_false_iff_not];have:=HZ.out;omega
   go_wp2_with fail
   go_end0
   exact⟨rfl,hF.out,hPr.out⟩
 ·have hLn:L≠[]:=fun e=>hz (by rw[←HLL.out,e];rfl)
  rw[if_neg hLn] at hlen⊢;have HLEN:=Hd hlen;have hgt:l.length≤140737488355329:=by
   have h1:=Zex (s:=[32,124,32]) (by decide) L;rw[←HLL.out];omega
  have e0:((l.length:Int)==0)=false:=bF (by omega);have e1:(l.length==0)=false:=bF (by omega);clear hC k2 k3 hA1 hP1 hF1 hP hlen hL hLn;go_enter Tryz.func105,Tryz.ntmps105
  go_upto_region 1 with fail
  clear hW1;go_wp2_with fail
  go_loopw [16] (fun s16 wr=>∃i:Nat,s16=.int .i64 i∧i≤l.length∧Hid (Fb B b w wr)∧Hid (Pst B wr b (bs++Zaz [32,124,32] (L.take i)))) (fun s16 _=>l.length-(intOf s16).toNat)
  case atStart=>exact⟨0,rfl,Nat.zero_le _,HF1,Hd (by simpa[Zaz] using HP1.out)⟩
  case round=>
   obtain⟨i,rfl,hil,hF,hPr⟩:=hrel;by_cases hi2:i<l.length
   ·have hd1:decide ((i:Int)<(l.length:Int))=true:=dT (by omega);have hd2:decide (i<l.length)=true:=dT hi2;have hi3:i<L.length:=by have:=HLL.out;omega
    obtain⟨t,ht⟩:∃t,l[i]?=some t:=⟨_,List.getElem?_eq_getElem hi2⟩;have hx:L[i]?=some (prT 1 t):=by rw[HL.out,List.getElem?_map,ht];rfl
    have HTT:=Hd (HT.out t (List.mem_of_getElem? ht));obtain⟨sp,hsp⟩:∃sp:Bs,sp=if i=0 then [] else [32,124,32]:=⟨_,rfl⟩
    have hj:=Zdq [32,124,32] L i _ hx;rw[←hsp] at hj;have HJ:=Hd hj;have LQ:Hid (bs.length+((Zaz [32,124,32] (L.take i)).length+(sp.length+(prT 1 t).length))≤140737488355328):=by
     have h1:=Zb3 [32,124,32] L (L.length-(i+1)) (i+1) (by omega);rw[hj] at h1;have h2:=HLEN.out;show _≤_;simp only[lA] at h1 h2⊢;omega
    have hS3:=Sub.of_row (IsC.fb HP.out hF.out _ _ (by simp[nb,Zdu]) K3.out) (by rw[ZaE];exact ZaF (Zas 26) l);rw[ZaE] at hS3;obtain⟨g,o,gs,rfl,hg,hcs,hcell⟩:=Sub.at (Zas 26) hS3 ht (by omega);obtain⟨tk,tn,x2,m2,y2,x3,m3,y3,rfl⟩:=Zbq hcs;have d0:=hcell 0 _ rfl;have d1:=hcell 1 _ rfl;have d2:=hcell 2 _ rfl;have d3:=hcell 3 _ rfl;rw[aZ] at d0;obtain⟨V1,hV1⟩:=eY (wr.alloc (.cells #[.int .i64 0,.string ⟨#[]⟩,.slice none 0 0,.slice none 0 0] 26));have hAV:V1.heap[wr.heap.size]?=some (.cells #[.int .i64 0,.string ⟨#[]⟩,.slice none 0 0,.slice none 0 0] 26 (0,0)):=by rw[←hV1];exact hN wr _
    have HAV:=Hd hAV;have HBV:=Hd (show Below wr.heap.size wr V1 by rw[←hV1];exact (Below.refl _ wr).alloc (nl _) _);have HTH:=Hd (Zaf hAV rfl);have HCS:=Hd hcs;have HPR:=Hd hPr.out;have HBT:Hid (∀W bs',Pst B W b bs'→bs'.length+sp.length≤140737488355328→Calls Tryz.prog 144 #[.pointer (some ⟨b,0,none⟩),.int .i64 i,.string ⟨#[32,124,32]⟩] W fun e w'=>e=.returned (.tuple #[])∧Fb B b W w'∧Pst B w' b (bs'++sp)):=by
     intro W bs' hW hl;have:=ZdI hW i [32,124,32] (fun h0=>by rw[hsp,if_neg h0] at hl;exact hl);rw[←hsp] at this;exact this
    clear hi3 hx hsp hj hPr hS3 hcs hcell ht hg hAV;go_upto_region 6 with (first | (refine Zaa rfl 26 (.tmp 5) (.tmp 20) rfl wr.heap.size _ rfl rfl HTH.out Zc8 (all_oneCell_toArray (by simp[Value.oneCell'])) ?_;intro W9 hW9))
    have hB9:Below wr.heap.size wr W9:=by rw[hW9.out];exact Below.putL HBV.out (nl _) _
    have hA9:W9.heap[wr.heap.size]?=some (.cells #[.int .i64 tk,.string tn,.slice x2 m2 y2,.slice x3 m3 y3] 26 (0,0)):=by rw[hW9.out];exact Zam (vs:=[.int .i64 tk,.string tn,.slice x2 m2 y2,.slice x3 m3 y3]) HAV.out rfl
    have HA9:=Hd hA9;have P9:=Hd (HPR.out.below hB9);have F9:=Hd (hF.out.then_below hB9 HPR.out);have I9:=Hd (HCS.out.below hB9);have HB:=Hd (HBT.out W9 _ P9.out (by have:=LQ.out;simp only[lA] at this⊢;omega));clear hB9 hA9 HBT d0 d1 d2 d3;go_wp2_with fail
    refine HB.out.mono ?_;rintro e W10 ⟨rfl,f10,p10⟩;have hA10:=f10.2 _ _ HA9.out (fun e=>by have:=HPR.out.lt;have:=Option.some.inj e;omega) (fun c fz e=>by cases e);obtain⟨⟨r0,r1,r2,r3⟩,-⟩:=Zae (t:=26) hA10;have P10:=Hd p10;have F10:=Hd (F9.out.trans f10);have H51:Hid (Calls Tryz.prog 61 #[.pointer (some ⟨b,0,none⟩),.agg #[.int .i64 tk,.string tn,.slice x2 m2 y2,.slice x3 m3 y3],.int .i64 1] W10 fun e w'=>e=.returned (.tuple #[])∧Fb B b W10 w'∧Pst B w' b (((bs++Zaz [32,124,32] (L.take i))++sp)++prT 1 t)):=
     HTT.out 1 (by decide) _ _ B b _ W10 p10 (IsCs.fb P9.out f10 _ _ (nb_T t) I9.out) (by have:=LQ.out;simp only[lA] at this⊢;omega)
    clear f10 p10 hA10 HB;go_wp2_with fail
    refine H51.out.mono ?_;rintro e W11 ⟨rfl,f11,p11⟩;have F11:=Hd (F10.out.trans f11);have P11:=Hd p11;clear f11 p11 H51;go_wp2_with fail
    refine⟨⟨i+1,by simp,by omega,F11,Hd ?_⟩,?_⟩
    ·rw[HJ.out];have:=P11.out
     simpa only[aA] using this
    ·simp[intOf];omega
   ·have hd1:decide ((i:Int)<(l.length:Int))=false:=dF (by omega);have hd2:decide (i<l.length)=false:=dF hi2;have HE:=Hd (show L.take i=L from List.take_of_length_le (by have:=HLL.out;omega));go_wp2_with fail
    go_end0
    refine⟨rfl,hF.out,?_⟩;have:=hPr.out;rw[HE.out] at this;exact this
theorem Zcj (q:Nat)(hq:q≤2)(l:List PT):(l.map (prT q)).headD []=prT q (l[0]?.getD zPT):=by
 cases l with
 | nil=>exact (Zok q hq).symm
 | cons t l=>rfl
theorem ZgH (q:Nat)(hq:q≤2)(l:List PT):(l.map (prT q)).tail.headD []=prT q (l[1]?.getD zPT):=by
 cases l with
 | nil=>exact (Zok q hq).symm
 | cons t l=>exact Zcj q hq l
theorem ZiK (l:List PT)(i:Nat):l[i]?.getD zPT∈l∨l[i]?.getD zPT=zPT:=by
 cases hl:l[i]? with
 | none=>exact .inr rfl
 | some t=>exact .inl (List.mem_of_getElem? hl)
theorem ZnJ (k:Nat)(n:Bs)(ns:List Bs)(l:List PT)(HT:k=5∨k=6∨k=7→∀t,(t∈l∨t=zPT)→TyOk t)(q:Nat)(hm:lvlT k<q)(A:Nat→Prop)(cs:List Value) :
  Prt 61 (fun b=>#[.pointer (some ⟨b,0,none⟩),.agg cs.toArray,.int .i64 q]) (40::(ZdZ k n ns (l.map (prT 0)) (l.map (prT 1)) (l.map (prT 2))++[41])) (fun w=>IsCs A w (encT 26 (.mk k n ns l)) cs):=by
 intro B b bs w hP hC hlen;obtain⟨body,hbody⟩:=eX (ZdZ k n ns (l.map (prT 0)) (l.map (prT 1)) (l.map (prT 2)));rw[←hbody] at hlen⊢;obtain⟨a2,c2,a3,c3,rfl,k2,k3⟩:=Zdr hC;have HBODY:=Hd hbody;have HC:=Hd hC;have K3:=Hd k3;have HP:=Hd hP;have HTT:=Hd HT;have HLEN:=Hd hlen;obtain⟨W1,hW1⟩:=eY (w.alloc (.cells #[.int .i64 k,.string ⟨n.toArray⟩,.slice a2 ns.length c2,.slice a3 l.length c3] 26));have hA1:W1.heap[w.heap.size]?=some (.cells #[.int .i64 k,.string ⟨n.toArray⟩,.slice a2 ns.length c2,.slice a3 l.length c3] 26 (0,0)):=by rw[←hW1];exact hN w _
 have hP1:Pst B W1 b bs:=by rw[←hW1];exact hP.alloc _
 have hF1:Fb B b w W1:=by rw[←hW1];exact (Fb.refl B b w).alloc hP.hi _
 obtain⟨⟨q0,q1,q2,q3⟩,-⟩:=Zae (t:=26) hA1;have HA1:=Hd hA1;have HP1:=Hd hP1;have HF1:=Hd hF1;have HNB:Hid (∀W:World,b<W.heap.size→∀e:some w.heap.size=some b,False):=by
  intro W _ e;have:=HP.out.lt;have:=Option.some.inj e;omega
 have HLV:=Hd (Zg5 k ⟨n.toArray⟩ a2 a3 ns.length c2 l.length c3 W1);have m1:decide ((lvlT k:Int)<(q:Int))=true:=dT (by omega);have m2:decide (lvlT k<q)=true:=dT (by omega);obtain⟨lv,hlv⟩:=eX (lvlT k);rw[←hlv] at HLV m1 m2;clear hC k2 k3 hA1 hP1 hF1 hP hlen hbody hm hlv HT;go_enter_defers Tryz.func61,Tryz.ntmps61
 go_upto_region 1 with fail
 clear hW1;go_wp2_with fail
 refine HLV.out.mono ?_;rintro e W2 ⟨rfl,b2⟩;have P2:=Hd (HP1.out.below b2);have F2:=Hd (HF1.out.then_below b2 HP1.out);have hA2:=(Fb.of_below HP1.out.hi b2:Fb B b W1 W2).2 _ _ HA1.out (fun e=>HNB.out W1 HP1.out.lt e) (fun c fz e=>by cases e);have HA2:=Hd hA2;have HS2:=Hd (say1 P2.out [40] (by have:=HLEN.out;simp only[lC,lA,lN] at this⊢;omega));clear b2 HLV q0 q1 q2 q3 hA2;go_wp2_with fail
 refine HS2.out.mono ?_;rintro e W3 ⟨rfl,f3,p3⟩;have P3:=Hd p3;have F3:=Hd (F2.out.trans f3);have HA3:=Hd (f3.2 _ _ HA2.out (fun e=>HNB.out W2 P2.out.lt e) (fun c fz e=>by cases e));clear f3 p3 HS2;go_upto_region 4 with fail
 obtain⟨V,hV⟩:=eY (W3.alloc (.cells #[.string ⟨#[41]⟩] 9));rw[hV];have HPC:Hid (Pcsat V W3.heap.size [[41]]):=by rw[←hV];exact ZhI W3 [[41]]
 obtain⟨b0,hb0⟩:=eX (bs++[40]);have PV:Hid (Pst B V b b0):=by rw[←hV,hb0];exact P3.out.alloc _
 have FV:Hid (Fb B b w V):=by rw[←hV];exact F3.out.alloc HP.out.hi _
 have hAV:V.heap[w.heap.size]?=some (.cells #[.int .i64 k,.string ⟨n.toArray⟩,.slice a2 ns.length c2,.slice a3 l.length c3] 26 (0,0)):=by rw[←hV];exact Zab HA3.out _
 obtain⟨gd,hgd⟩:=eX (W3.heap.size);rw[←hgd] at HPC⊢;have LB:Hid (b0.length+body.length+1≤140737488355328):=by have:=HLEN.out;rw[hb0];show _≤_;simp only[lC,lA,lN] at this⊢;omega
 have HB0:=Hd hb0;clear hV hgd hb0;obtain⟨⟨r0,r1,r2,r3⟩,-⟩:=Zae (t:=26) hAV;have HAV:=Hd hAV;have HKV:=Hd (IsC.fb HP.out FV.out _ _ (by simp[nb,Zdu]) K3.out);have HCV:=Hd (IsCs.fb HP.out FV.out _ _ (nb_T _) HC.out);clear hAV;by_cases h1:k=1
 ·subst h1;have hb:body=[105,110,116]:=HBODY.out;have HS:=Hd (say1 PV.out [105,110,116] (by have:=LB.out;rw[hb] at this;omega));rw[←hb] at HS;have HBB:=Hd hb;clear hb;go_wp2_with fail
  first | rw[←HBB.out] | skip
  refine HS.out.mono ?_;rintro e X ⟨rfl,fx,px⟩;have PX:=Hd px;have GX:=Hd fx;clear fx px HS;go_wp2_with fail
  refine leaves_cons (f:=100) (args:=#[.pointer (some ⟨b,0,none⟩),.slice (some ⟨gd,0,none⟩) 1 1]) (by simp) (by simp[go_sem]) ?_;refine (Zbo PX.out [[41]] gd 1 (HPC.out.fb (HPC.out.ne PV.out) GX.out) (by have:=LB.out;simp only[lA,lC,lN,List.flatten_cons,List.flatten_nil] at this⊢;omega) (by simp)).mono ?_;rintro e u w9 ⟨rfl,rfl,f9,p9⟩;refine⟨.tuple #[],results_none Tryz.results61 _ _ _,rfl,(FV.out.trans GX.out).trans f9,?_⟩;rw[HB0.out] at p9
  simpa using p9
 by_cases h2:k=2
 ·subst h2;have hb:body=[98,111,111,108]:=HBODY.out;have HS:=Hd (say1 PV.out [98,111,111,108] (by have:=LB.out;rw[hb] at this;omega));rw[←hb] at HS;have HBB:=Hd hb;clear hb;go_wp2_with fail
  first | rw[←HBB.out] | skip
  refine HS.out.mono ?_;rintro e X ⟨rfl,fx,px⟩;have PX:=Hd px;have GX:=Hd fx;clear fx px HS;go_wp2_with fail
  refine leaves_cons (f:=100) (args:=#[.pointer (some ⟨b,0,none⟩),.slice (some ⟨gd,0,none⟩) 1 1]) (by simp) (by simp[go_sem]) ?_;refine (Zbo PX.out [[41]] gd 1 (HPC.out.fb (HPC.out.ne PV.out) GX.out) (by have:=LB.out;simp only[lA,lC,lN,List.flatten_cons,List.flatten_nil] at this⊢;omega) (by simp)).mono ?_;rintro e u w9 ⟨rfl,rfl,f9,p9⟩;refine⟨.tuple #[],results_none Tryz.results61 _ _ _,rfl,(FV.out.trans GX.out).trans f9,?_⟩;rw[HB0.out] at p9
  simpa using p9
 by_cases h3:k=3
 ·subst h3;have hb:body=[116,101,120,116]:=HBODY.out;have HS:=Hd (say1 PV.out [116,101,120,116] (by have:=LB.out;rw[hb] at this;omega));rw[←hb] at HS;have HBB:=Hd hb;clear hb;go_wp2_with fail
  first | rw[←HBB.out] | skip
  refine HS.out.mono ?_;rintro e X ⟨rfl,fx,px⟩;have PX:=Hd px;have GX:=Hd fx;clear fx px HS;go_wp2_with fail
  refine leaves_cons (f:=100) (args:=#[.pointer (some ⟨b,0,none⟩),.slice (some ⟨gd,0,none⟩) 1 1]) (by simp) (by simp[go_sem]) ?_;refine (Zbo PX.out [[41]] gd 1 (HPC.out.fb (HPC.out.ne PV.out) GX.out) (by have:=LB.out;simp only[lA,lC,lN,List.flatten_cons,List.flatten_nil] at this⊢;omega) (by simp)).mono ?_;rintro e u w9 ⟨rfl,rfl,f9,p9⟩;refine⟨.tuple #[],results_none Tryz.results61 _ _ _,rfl,(FV.out.trans GX.out).trans f9,?_⟩;rw[HB0.out] at p9
  simpa using p9
 by_cases h4:k=4
 ·subst h4;have hb:body=[63]:=HBODY.out;have HS:=Hd (say1 PV.out [63] (by have:=LB.out;rw[hb] at this;omega));rw[←hb] at HS;have HBB:=Hd hb;clear hb;go_wp2_with fail
  first | rw[←HBB.out] | skip
  refine HS.out.mono ?_;rintro e X ⟨rfl,fx,px⟩;have PX:=Hd px;have GX:=Hd fx;clear fx px HS;go_wp2_with fail
  refine leaves_cons (f:=100) (args:=#[.pointer (some ⟨b,0,none⟩),.slice (some ⟨gd,0,none⟩) 1 1]) (by simp) (by simp[go_sem]) ?_;refine (Zbo PX.out [[41]] gd 1 (HPC.out.fb (HPC.out.ne PV.out) GX.out) (by have:=LB.out;simp only[lA,lC,lN,List.flatten_cons,List.flatten_nil] at this⊢;omega) (by simp)).mono ?_;rintro e u w9 ⟨rfl,rfl,f9,p9⟩;refine⟨.tuple #[],results_none Tryz.results61 _ _ _,rfl,(FV.out.trans GX.out).trans f9,?_⟩;rw[HB0.out] at p9
  simpa using p9
 by_cases h8:k=8
 ·subst h8;have hb:body=n:=HBODY.out;have HS:=Hd (say1 PV.out n (by have:=LB.out;rw[hb] at this;omega));rw[←hb] at HS;have HBB:=Hd hb;clear hb;go_wp2_with fail
  first | rw[←HBB.out] | skip
  refine HS.out.mono ?_;rintro e X ⟨rfl,fx,px⟩;have PX:=Hd px;have GX:=Hd fx;clear fx px HS;go_wp2_with fail
  refine leaves_cons (f:=100) (args:=#[.pointer (some ⟨b,0,none⟩),.slice (some ⟨gd,0,none⟩) 1 1]) (by simp) (by simp[go_sem]) ?_;refine (Zbo PX.out [[41]] gd 1 (HPC.out.fb (HPC.out.ne PV.out) GX.out) (by have:=LB.out;simp only[lA,lC,lN,List.flatten_cons,List.flatten_nil] at this⊢;omega) (by simp)).mono ?_;rintro e u w9 ⟨rfl,rfl,f9,p9⟩;refine⟨.tuple #[],results_none Tryz.results61 _ _ _,rfl,(FV.out.trans GX.out).trans f9,?_⟩;rw[HB0.out] at p9
  simpa using p9
 by_cases h5:k=5
 ·subst h5;have HS:Hid (Calls Tryz.prog 104 #[.pointer (some ⟨b,0,none⟩),.agg #[.int .i64 ((5:Nat):Int),.string ⟨n.toArray⟩,.slice a2 ns.length c2,.slice a3 l.length c3]] V (fun e w'=>e=.returned (.tuple #[])∧Fb B b V w'∧Pst B w' b (b0++body))):=by
   have hb:=HBODY.out;rw[hb];exact Zin 5 n ns l (HTT.out (by omega)) A _ B b b0 V PV.out HCV.out (by have:=LB.out;rw[hb] at this;exact Nat.le_of_add_right_le this)
  go_wp2_with fail
  refine HS.out.mono ?_;rintro e X ⟨rfl,fx,px⟩;have PX:=Hd px;have GX:=Hd fx;clear fx px HS;go_wp2_with fail
  refine leaves_cons (f:=100) (args:=#[.pointer (some ⟨b,0,none⟩),.slice (some ⟨gd,0,none⟩) 1 1]) (by simp) (by simp[go_sem]) ?_;refine (Zbo PX.out [[41]] gd 1 (HPC.out.fb (HPC.out.ne PV.out) GX.out) (by have:=LB.out;simp only[lA,lC,lN,List.flatten_cons,List.flatten_nil] at this⊢;omega) (by simp)).mono ?_;rintro e u w9 ⟨rfl,rfl,f9,p9⟩;refine⟨.tuple #[],results_none Tryz.results61 _ _ _,rfl,(FV.out.trans GX.out).trans f9,?_⟩;rw[HB0.out] at p9
  simpa using p9
 by_cases h6:k=6
 ·subst h6;obtain⟨t0,ht0⟩:=eX (l[0]?.getD zPT);obtain⟨t1,ht1⟩:=eX (l[1]?.getD zPT);have hb:body=prT 2 t0++([32,45,62,32]++prT 1 t1):=by
   rw[ht0,ht1,←Zcj 2 (by decide),←ZgH 1 (by decide)];exact HBODY.out
  have T0:=Hd (HTT.out (by omega) t0 (by rw[ht0];exact ZiK l 0));have T1:=Hd (HTT.out (by omega) t1 (by rw[ht1];exact ZiK l 1));have LB6:Hid (b0.length+((prT 2 t0).length+(4+(prT 1 t1).length))≤140737488355328):=by have:=LB.out;rw[hb] at this;show _≤_;simp only[lA,lC,lN] at this⊢;omega
  have HBB:=Hd hb;have HQ:=Hd (Zch l 0 A V _ HKV.out (by decide));rw[←ht0] at HQ;have HT1:=Hd ht1;clear hb ht0 ht1;go_wp2_with fail
  refine HQ.out.mono ?_;rintro e V1 ⟨cs1,rfl,b1,i1⟩;have PV1:=Hd (PV.out.below b1);have G1:=Hd (Fb.of_below PV.out.hi b1:Fb B b V V1);have H51:Hid (Calls Tryz.prog 61 #[.pointer (some ⟨b,0,none⟩),.agg cs1.toArray,.int .i64 2] V1 fun e w'=>e=.returned (.tuple #[])∧Fb B b V1 w'∧Pst B w' b (b0++prT 2 t0)):=
   T0.out 2 (by decide) A cs1 B b _ V1 PV1.out i1 (by have:=LB6.out;omega)
  clear b1 i1 HQ;go_wp2_with fail
  refine H51.out.mono ?_;rintro e V2 ⟨rfl,f2,p2⟩;have PV2:=Hd p2;have G2:=Hd (G1.out.trans f2);have HS:=Hd (say1 p2 [32,45,62,32] (by have:=LB6.out;simp only[lA,lC,lN] at this⊢;omega));clear f2 p2 H51;go_wp2_with fail
  refine HS.out.mono ?_;rintro e V3 ⟨rfl,f3,p3⟩;have PV3:=Hd p3;have G3:=Hd (G2.out.trans f3);have HA3:=G3.out.2 _ _ HAV.out (fun e=>HNB.out V PV.out.lt e) (fun c fz e=>by cases e);obtain⟨⟨x0,x1,x2,x3⟩,-⟩:=Zae (t:=26) HA3;have HQ:=Hd (Zch l 1 A V3 _ (IsC.fb PV.out G3.out _ _ (by simp[nb,Zdu]) HKV.out) (by decide));rw[←HT1.out] at HQ;clear f3 p3 HS HA3;go_wp2_with fail
  refine HQ.out.mono ?_;rintro e V4 ⟨cs4,rfl,b4,i4⟩;have PV4:=Hd (PV3.out.below b4);have G4:=Hd (G3.out.then_below b4 PV3.out);have H51:Hid (Calls Tryz.prog 61 #[.pointer (some ⟨b,0,none⟩),.agg cs4.toArray,.int .i64 1] V4 fun e w'=>e=.returned (.tuple #[])∧Fb B b V4 w'∧Pst B w' b (((b0++prT 2 t0)++[32,45,62,32])++prT 1 t1)):=
   T1.out 1 (by decide) A cs4 B b _ V4 PV4.out i4 (by have:=LB6.out;simp only[lA,lC,lN] at this⊢;omega)
  clear b4 i4 HQ;go_wp2_with fail
  refine H51.out.mono ?_;rintro e X ⟨rfl,fx,px⟩;have PX:Hid (Pst B X b (b0++body)):=by rw[HBB.out];exact Hd (by simpa only[aA] using px)
  have GX:=Hd (G4.out.trans fx);clear fx px H51;go_wp2_with fail
  refine leaves_cons (f:=100) (args:=#[.pointer (some ⟨b,0,none⟩),.slice (some ⟨gd,0,none⟩) 1 1]) (by simp) (by simp[go_sem]) ?_;refine (Zbo PX.out [[41]] gd 1 (HPC.out.fb (HPC.out.ne PV.out) GX.out) (by have:=LB.out;simp only[lA,lC,lN,List.flatten_cons,List.flatten_nil] at this⊢;omega) (by simp)).mono ?_;rintro e u w9 ⟨rfl,rfl,f9,p9⟩;refine⟨.tuple #[],results_none Tryz.results61 _ _ _,rfl,(FV.out.trans GX.out).trans f9,?_⟩;rw[HB0.out] at p9
  simpa using p9
 by_cases h7:k=7
 ·subst h7;have HS:Hid (Calls Tryz.prog 105 #[.pointer (some ⟨b,0,none⟩),.agg #[.int .i64 ((7:Nat):Int),.string ⟨n.toArray⟩,.slice a2 ns.length c2,.slice a3 l.length c3]] V (fun e w'=>e=.returned (.tuple #[])∧Fb B b V w'∧Pst B w' b (b0++body))):=by
   have hb:=HBODY.out;rw[hb];exact Zic 7 n ns l (fun t ht=>HTT.out (by omega) t (.inl ht)) A _ B b b0 V PV.out HCV.out (by have:=LB.out;rw[hb] at this;exact Nat.le_of_add_right_le this)
  go_wp2_with fail
  refine HS.out.mono ?_;rintro e X ⟨rfl,fx,px⟩;have PX:=Hd px;have GX:=Hd fx;clear fx px HS;go_wp2_with fail
  refine leaves_cons (f:=100) (args:=#[.pointer (some ⟨b,0,none⟩),.slice (some ⟨gd,0,none⟩) 1 1]) (by simp) (by simp[go_sem]) ?_;refine (Zbo PX.out [[41]] gd 1 (HPC.out.fb (HPC.out.ne PV.out) GX.out) (by have:=LB.out;simp only[lA,lC,lN,List.flatten_cons,List.flatten_nil] at this⊢;omega) (by simp)).mono ?_;rintro e u w9 ⟨rfl,rfl,f9,p9⟩;refine⟨.tuple #[],results_none Tryz.results61 _ _ _,rfl,(FV.out.trans GX.out).trans f9,?_⟩;rw[HB0.out] at p9
  simpa using p9
 ·have hb:body=[]:=by have:=HBODY.out;rw[this];unfold ZdZ;simp only[h1,h2,h3,h4,h8,h5,h6,h7,if_false]
  have e1:((k:Int)==1)=false:=bF (by omega);have e2:((k:Int)==2)=false:=bF (by omega);have e3:((k:Int)==3)=false:=bF (by omega);have e4:((k:Int)==4)=false:=bF (by omega);have e8:((k:Int)==8)=false:=bF (by omega);have e5:((k:Int)==5)=false:=bF (by omega);have e6:((k:Int)==6)=false:=bF (by omega);have e7:((k:Int)==7)=false:=bF (by omega);have PX:Hid (Pst B V b (b0++body)):=by rw[hb,List.append_nil];exact PV.out
  have GX:=Hd (Fb.refl B b V);clear hb;go_wp2_with fail
  refine leaves_cons (f:=100) (args:=#[.pointer (some ⟨b,0,none⟩),.slice (some ⟨gd,0,none⟩) 1 1]) (by simp) (by simp[go_sem]) ?_;refine (Zbo PX.out [[41]] gd 1 (HPC.out.fb (HPC.out.ne PV.out) GX.out) (by have:=LB.out;simp only[lA,lC,lN,List.flatten_cons,List.flatten_nil] at this⊢;omega) (by simp)).mono ?_;rintro e u w9 ⟨rfl,rfl,f9,p9⟩;refine⟨.tuple #[],results_none Tryz.results61 _ _ _,rfl,(FV.out.trans GX.out).trans f9,?_⟩;rw[HB0.out] at p9
  simpa using p9
theorem ZlU (k:Nat)(n:Bs)(ns:List Bs)(l:List PT)(HT:k=5∨k=6∨k=7→∀t,(t∈l∨t=zPT)→TyOk t)(q:Nat)(hm:¬lvlT k<q)(A:Nat→Prop)(cs:List Value) :
  Prt 61 (fun b=>#[.pointer (some ⟨b,0,none⟩),.agg cs.toArray,.int .i64 q]) (ZdZ k n ns (l.map (prT 0)) (l.map (prT 1)) (l.map (prT 2))) (fun w=>IsCs A w (encT 26 (.mk k n ns l)) cs):=by
 intro B b bs w hP hC hlen;obtain⟨body,hbody⟩:=eX (ZdZ k n ns (l.map (prT 0)) (l.map (prT 1)) (l.map (prT 2)));rw[←hbody] at hlen⊢;obtain⟨a2,c2,a3,c3,rfl,k2,k3⟩:=Zdr hC;have HBODY:=Hd hbody;have HC:=Hd hC;have K3:=Hd k3;have HP:=Hd hP;have HTT:=Hd HT;have HLEN:=Hd hlen;obtain⟨W1,hW1⟩:=eY (w.alloc (.cells #[.int .i64 k,.string ⟨n.toArray⟩,.slice a2 ns.length c2,.slice a3 l.length c3] 26));have hA1:W1.heap[w.heap.size]?=some (.cells #[.int .i64 k,.string ⟨n.toArray⟩,.slice a2 ns.length c2,.slice a3 l.length c3] 26 (0,0)):=by rw[←hW1];exact hN w _
 have hP1:Pst B W1 b bs:=by rw[←hW1];exact hP.alloc _
 have hF1:Fb B b w W1:=by rw[←hW1];exact (Fb.refl B b w).alloc hP.hi _
 obtain⟨⟨q0,q1,q2,q3⟩,-⟩:=Zae (t:=26) hA1;have HA1:=Hd hA1;have HP1:=Hd hP1;have HF1:=Hd hF1;have HNB:Hid (∀W:World,b<W.heap.size→∀e:some w.heap.size=some b,False):=by
  intro W _ e;have:=HP.out.lt;have:=Option.some.inj e;omega
 have HLV:=Hd (Zg5 k ⟨n.toArray⟩ a2 a3 ns.length c2 l.length c3 W1);have m1:decide ((lvlT k:Int)<(q:Int))=false:=dF (by omega);have m2:decide (lvlT k<q)=false:=dF (by omega);obtain⟨lv,hlv⟩:=eX (lvlT k);rw[←hlv] at HLV m1 m2;clear hC k2 k3 hA1 hP1 hF1 hP hlen hbody hm hlv HT;go_enter_defers Tryz.func61,Tryz.ntmps61
 go_upto_region 1 with fail
 clear hW1;go_wp2_with fail
 refine HLV.out.mono ?_;rintro e W2 ⟨rfl,b2⟩;have P2:=Hd (HP1.out.below b2);have F2:=Hd (HF1.out.then_below b2 HP1.out);have hA2:=(Fb.of_below HP1.out.hi b2:Fb B b W1 W2).2 _ _ HA1.out (fun e=>HNB.out W1 HP1.out.lt e) (fun c fz e=>by cases e);have HA2:=Hd hA2;clear b2 HLV q0 q1 q2 q3;go_upto_region 4 with fail
 obtain⟨V,hV⟩:=eX (W2);rw[←hV];obtain⟨b0,hb0⟩:=eX (bs);have PV:Hid (Pst B V b b0):=by rw[hV,hb0];exact P2.out
 have FV:Hid (Fb B b w V):=by rw[hV];exact F2.out
 have hAV:V.heap[w.heap.size]?=some (.cells #[.int .i64 k,.string ⟨n.toArray⟩,.slice a2 ns.length c2,.slice a3 l.length c3] 26 (0,0)):=by rw[hV];exact HA2.out
 have LB:Hid (b0.length+body.length+0≤140737488355328):=by have:=HLEN.out;rw[hb0];exact this
 have HB0:=Hd hb0;clear hV hb0 hA2;obtain⟨⟨r0,r1,r2,r3⟩,-⟩:=Zae (t:=26) hAV;have HAV:=Hd hAV;have HKV:=Hd (IsC.fb HP.out FV.out _ _ (by simp[nb,Zdu]) K3.out);have HCV:=Hd (IsCs.fb HP.out FV.out _ _ (nb_T _) HC.out);clear hAV;by_cases h1:k=1
 ·subst h1;have hb:body=[105,110,116]:=HBODY.out;have HS:=Hd (say1 PV.out [105,110,116] (by have:=LB.out;rw[hb] at this;omega));rw[←hb] at HS;have HBB:=Hd hb;clear hb;go_wp2_with fail
  first | rw[←HBB.out] | skip
  refine HS.out.mono ?_;rintro e X ⟨rfl,fx,px⟩;have PX:=Hd px;have GX:=Hd fx;clear fx px HS;go_wp2_with fail
  refine⟨.tuple #[],results_none Tryz.results61 _ _ _,rfl,FV.out.trans GX.out,?_⟩;have:=PX.out;rw[HB0.out] at this;exact this
 by_cases h2:k=2
 ·subst h2;have hb:body=[98,111,111,108]:=HBODY.out;have HS:=Hd (say1 PV.out [98,111,111,108] (by have:=LB.out;rw[hb] at this;omega));rw[←hb] at HS;have HBB:=Hd hb;clear hb;go_wp2_with fail
  first | rw[←HBB.out] | skip
  refine HS.out.mono ?_;rintro e X ⟨rfl,fx,px⟩;have PX:=Hd px;have GX:=Hd fx;clear fx px HS;go_wp2_with fail
  refine⟨.tuple #[],results_none Tryz.results61 _ _ _,rfl,FV.out.trans GX.out,?_⟩;have:=PX.out;rw[HB0.out] at this;exact this
 by_cases h3:k=3
 ·subst h3;have hb:body=[116,101,120,116]:=HBODY.out;have HS:=Hd (say1 PV.out [116,101,120,116] (by have:=LB.out;rw[hb] at this;omega));rw[←hb] at HS;have HBB:=Hd hb;clear hb;go_wp2_with fail
  first | rw[←HBB.out] | skip
  refine HS.out.mono ?_;rintro e X ⟨rfl,fx,px⟩;have PX:=Hd px;have GX:=Hd fx;clear fx px HS;go_wp2_with fail
  refine⟨.tuple #[],results_none Tryz.results61 _ _ _,rfl,FV.out.trans GX.out,?_⟩;have:=PX.out;rw[HB0.out] at this;exact this
 by_cases h4:k=4
 ·subst h4;have hb:body=[63]:=HBODY.out;have HS:=Hd (say1 PV.out [63] (by have:=LB.out;rw[hb] at this;omega));rw[←hb] at HS;have HBB:=Hd hb;clear hb;go_wp2_with fail
  first | rw[←HBB.out] | skip
  refine HS.out.mono ?_;rintro e X ⟨rfl,fx,px⟩;have PX:=Hd px;have GX:=Hd fx;clear fx px HS;go_wp2_with fail
  refine⟨.tuple #[],results_none Tryz.results61 _ _ _,rfl,FV.out.trans GX.out,?_⟩;have:=PX.out;rw[HB0.out] at this;exact this
 by_cases h8:k=8
 ·subst h8;have hb:body=n:=HBODY.out;have HS:=Hd (say1 PV.out n (by have:=LB.out;rw[hb] at this;omega));rw[←hb] at HS;have HBB:=Hd hb;clear hb;go_wp2_with fail
  first | rw[←HBB.out] | skip
  refine HS.out.mono ?_;rintro e X ⟨rfl,fx,px⟩;have PX:=Hd px;have GX:=Hd fx;clear fx px HS;go_wp2_with fail
  refine⟨.tuple #[],results_none Tryz.results61 _ _ _,rfl,FV.out.trans GX.out,?_⟩;have:=PX.out;rw[HB0.out] at this;exact this
 by_cases h5:k=5
 ·subst h5;have HS:Hid (Calls Tryz.prog 104 #[.pointer (some ⟨b,0,none⟩),.agg #[.int .i64 ((5:Nat):Int),.string ⟨n.toArray⟩,.slice a2 ns.length c2,.slice a3 l.length c3]] V (fun e w'=>e=.returned (.tuple #[])∧Fb B b V w'∧Pst B w' b (b0++body))):=by
   have hb:=HBODY.out;rw[hb];exact Zin 5 n ns l (HTT.out (by omega)) A _ B b b0 V PV.out HCV.out (by have:=LB.out;rw[hb] at this;exact Nat.le_of_add_right_le this)
  go_wp2_with fail
  refine HS.out.mono ?_;rintro e X ⟨rfl,fx,px⟩;have PX:=Hd px;have GX:=Hd fx;clear fx px HS;go_wp2_with fail
  refine⟨.tuple #[],results_none Tryz.results61 _ _ _,rfl,FV.out.trans GX.out,?_⟩;have:=PX.out;rw[HB0.out] at this;exact this
 by_cases h6:k=6
 ·subst h6;obtain⟨t0,ht0⟩:=eX (l[0]?.getD zPT);obtain⟨t1,ht1⟩:=eX (l[1]?.getD zPT);have hb:body=prT 2 t0++([32,45,62,32]++prT 1 t1):=by
   rw[ht0,ht1,←Zcj 2 (by decide),←ZgH 1 (by decide)];exact HBODY.out
  have T0:=Hd (HTT.out (by omega) t0 (by rw[ht0];exact ZiK l 0));have T1:=Hd (HTT.out (by omega) t1 (by rw[ht1];exact ZiK l 1));have LB6:Hid (b0.length+((prT 2 t0).length+(4+(prT 1 t1).length))≤140737488355328):=by have:=LB.out;rw[hb] at this;show _≤_;simp only[lA,lC,lN] at this⊢;omega
  have HBB:=Hd hb;have HQ:=Hd (Zch l 0 A V _ HKV.out (by decide));rw[←ht0] at HQ;have HT1:=Hd ht1;clear hb ht0 ht1;go_wp2_with fail
  refine HQ.out.mono ?_;rintro e V1 ⟨cs1,rfl,b1,i1⟩;have PV1:=Hd (PV.out.below b1);have G1:=Hd (Fb.of_below PV.out.hi b1:Fb B b V V1);have H51:Hid (Calls Tryz.prog 61 #[.pointer (some ⟨b,0,none⟩),.agg cs1.toArray,.int .i64 2] V1 fun e w'=>e=.returned (.tuple #[])∧Fb B b V1 w'∧Pst B w' b (b0++prT 2 t0)):=
   T0.out 2 (by decide) A cs1 B b _ V1 PV1.out i1 (by have:=LB6.out;omega)
  clear b1 i1 HQ;go_wp2_with fail
  refine H51.out.mono ?_;rintro e V2 ⟨rfl,f2,p2⟩;have PV2:=Hd p2;have G2:=Hd (G1.out.trans f2);have HS:=Hd (say1 p2 [32,45,62,32] (by have:=LB6.out;simp only[lA,lC,lN] at this⊢;omega));clear f2 p2 H51;go_wp2_with fail
  refine HS.out.mono ?_;rintro e V3 ⟨rfl,f3,p3⟩;have PV3:=Hd p3;have G3:=Hd (G2.out.trans f3);have HA3:=G3.out.2 _ _ HAV.out (fun e=>HNB.out V PV.out.lt e) (fun c fz e=>by cases e);obtain⟨⟨x0,x1,x2,x3⟩,-⟩:=Zae (t:=26) HA3;have HQ:=Hd (Zch l 1 A V3 _ (IsC.fb PV.out G3.out _ _ (by simp[nb,Zdu]) HKV.out) (by decide));rw[←HT1.out] at HQ;clear f3 p3 HS HA3;go_wp2_with fail
  refine HQ.out.mono ?_;rintro e V4 ⟨cs4,rfl,b4,i4⟩;have PV4:=Hd (PV3.out.below b4);have G4:=Hd (G3.out.then_below b4 PV3.out);have H51:Hid (Calls Tryz.prog 61 #[.pointer (some ⟨b,0,none⟩),.agg cs4.toArray,.int .i64 1] V4 fun e w'=>e=.returned (.tuple #[])∧Fb B b V4 w'∧Pst B w' b (((b0++prT 2 t0)++[32,45,62,32])++prT 1 t1)):=
   T1.out 1 (by decide) A cs4 B b _ V4 PV4.out i4 (by have:=LB6.out;simp only[lA,lC,lN] at this⊢;omega)
  clear b4 i4 HQ;go_wp2_with fail
  refine H51.out.mono ?_;rintro e X ⟨rfl,fx,px⟩;have PX:Hid (Pst B X b (b0++body)):=by rw[HBB.out];exact Hd (by simpa only[aA] using px)
  have GX:=Hd (G4.out.trans fx);clear fx px H51;go_wp2_with fail
  refine⟨.tuple #[],results_none Tryz.results61 _ _ _,rfl,FV.out.trans GX.out,?_⟩;have:=PX.out;rw[HB0.out] at this;exact this
 by_cases h7:k=7
 ·subst h7;have HS:Hid (Calls Tryz.prog 105 #[.pointer (some ⟨b,0,none⟩),.agg #[.int .i64 ((7:Nat):Int),.string ⟨n.toArray⟩,.slice a2 ns.length c2,.slice a3 l.length c3]] V (fun e w'=>e=.returned (.tuple #[])∧Fb B b V w'∧Pst B w' b (b0++body))):=by
   have hb:=HBODY.out;rw[hb];exact Zic 7 n ns l (fun t ht=>HTT.out (by omega) t (.inl ht)) A _ B b b0 V PV.out HCV.out (by have:=LB.out;rw[hb] at this;exact Nat.le_of_add_right_le this)
  go_wp2_with fail
  refine HS.out.mono ?_;rintro e X ⟨rfl,fx,px⟩;have PX:=Hd px;have GX:=Hd fx;clear fx px HS;go_wp2_with fail
  refine⟨.tuple #[],results_none Tryz.results61 _ _ _,rfl,FV.out.trans GX.out,?_⟩;have:=PX.out;rw[HB0.out] at this;exact this
 ·have hb:body=[]:=by have:=HBODY.out;rw[this];unfold ZdZ;simp only[h1,h2,h3,h4,h8,h5,h6,h7,if_false]
  have e1:((k:Int)==1)=false:=bF (by omega);have e2:((k:Int)==2)=false:=bF (by omega);have e3:((k:Int)==3)=false:=bF (by omega);have e4:((k:Int)==4)=false:=bF (by omega);have e8:((k:Int)==8)=false:=bF (by omega);have e5:((k:Int)==5)=false:=bF (by omega);have e6:((k:Int)==6)=false:=bF (by omega);have e7:((k:Int)==7)=false:=bF (by omega);have PX:Hid (Pst B V b (b0++body)):=by rw[hb,List.append_nil];exact PV.out
  have GX:=Hd (Fb.refl B b V);clear hb;go_wp2_with fail
  refine⟨.tuple #[],results_none Tryz.results61 _ _ _,rfl,FV.out.trans GX.out,?_⟩;have:=PX.out;rw[HB0.out] at this;exact this
theorem ZjT (k:Nat)(n:Bs)(ns:List Bs)(l:List PT)(HT:k=5∨k=6∨k=7→∀t,(t∈l∨t=zPT)→TyOk t):TyOk (.mk k n ns l):=by
 intro q hq A cs;rw[Zb2];by_cases hm:lvlT k<q
 ·rw[Zcm,if_pos hm];exact ZnJ k n ns l HT q hm A cs
 ·rw[Zcm,if_neg hm];exact ZlU k n ns l HT q hm A cs
theorem ZnI:TyOk zPT:=ZjT 0 [] [] [] (by omega)
theorem Zow{l:List PT}{t:PT}(h:t∈l):SizeOf.sizeOf t<SizeOf.sizeOf l:=List.sizeOf_lt_of_mem h
theorem Zft:∀t:PT,TyOk t
 | .mk k n ns l=>ZjT k n ns l fun _ t ht=>by
  rcases ht with ht | rfl
  ·have:=Zow ht;exact Zft t
  ·exact ZnI
termination_by t=>SizeOf.sizeOf t
decreasing_by simp_wf;omega
open Go.Shelf
def Zg6:Go.Shelf.Ren:=⟨fun | 173=>107 | 246=>145 | 283=>176 | 284=>177 | 285=>178 | 286=>179 | 129=>165 | 317=>213 | 318=>214 | 319=>215 | 320=>216 | 337=>229 | 338=>230 | n=>n,fun | 2=>2 | 3=>3 | 9=>9 | 4=>4 | 171=>236 | 0=>0 | 53=>231 | 37=>81 | 5=>5 | 173=>238 | 212=>271 | 51=>229 | 20=>20 | 213=>272 | 46=>189 | 232=>296 | 233=>297 | n=>n,fun | 17=>0 | 18=>2 | 19=>3 | n=>n⟩
theorem ZmC:Go.Proofs.LaysM.n173 Tryz.prog Zg6:={
 mixed:=by kernel_rfl
 f129:=Tryz.func165.trans (congrArg some (by kernel_rfl))
 f173:=Tryz.func107.trans (congrArg some (by kernel_rfl))
 f246:=Tryz.func145.trans (congrArg some (by kernel_rfl))
 f283:=Tryz.func176.trans (congrArg some (by kernel_rfl))
 f284:=Tryz.func177.trans (congrArg some (by kernel_rfl))
 f285:=Tryz.func178.trans (congrArg some (by kernel_rfl))
 f286:=Tryz.func179.trans (congrArg some (by kernel_rfl))
 f317:=Tryz.func213.trans (congrArg some (by kernel_rfl))
 f318:=Tryz.func214.trans (congrArg some (by kernel_rfl))
 f319:=Tryz.func215.trans (congrArg some (by kernel_rfl))
 f320:=Tryz.func216.trans (congrArg some (by kernel_rfl))
 f337:=Tryz.func229.trans (congrArg some (by kernel_rfl))
 f338:=Tryz.func230.trans (congrArg some (by kernel_rfl))
 t0:=Tryz.underlying0
 a0:=Tryz.isAgg0
 z0:=Tryz.sizeOf0
 v0:=Tryz.zeroValue0
 t2:=Tryz.underlying2
 a2:=Tryz.isAgg2
 z2:=Tryz.sizeOf2
 v2:=Tryz.zeroValue2
 t3:=Tryz.underlying3
 a3:=Tryz.isAgg3
 z3:=Tryz.sizeOf3
 v3:=Tryz.zeroValue3
 t4:=Tryz.underlying4
 a4:=Tryz.isAgg4
 z4:=Tryz.sizeOf4
 v4:=Tryz.zeroValue4
 t5:=Tryz.underlying5
 a5:=Tryz.isAgg5
 z5:=Tryz.sizeOf5
 v5:=Tryz.zeroValue5
 t9:=Tryz.underlying9
 a9:=Tryz.isAgg9
 z9:=Tryz.sizeOf9
 v9:=Tryz.zeroValue9
 t20:=Tryz.underlying20
 a20:=Tryz.isAgg20
 z20:=Tryz.sizeOf20
 v20:=Tryz.zeroValue20
 t37:=Tryz.underlying81
 a37:=Tryz.isAgg81
 z37:=Tryz.sizeOf81
 v37:=Tryz.zeroValue81
 t46:=Tryz.underlying189
 a46:=Tryz.isAgg189
 z46:=Tryz.sizeOf189
 v46:=Tryz.zeroValue189
 t51:=Tryz.underlying229
 a51:=Tryz.isAgg229
 z51:=Tryz.sizeOf229
 v51:=Tryz.zeroValue229
 t53:=Tryz.underlying231
 a53:=Tryz.isAgg231
 z53:=Tryz.sizeOf231
 v53:=Tryz.zeroValue231
 t171:=Tryz.underlying236
 a171:=Tryz.isAgg236
 z171:=Tryz.sizeOf236
 v171:=Tryz.zeroValue236
 t173:=Tryz.underlying238
 a173:=Tryz.isAgg238
 z173:=Tryz.sizeOf238
 v173:=Tryz.zeroValue238
 t212:=Tryz.underlying271
 a212:=Tryz.isAgg271
 z212:=Tryz.sizeOf271
 v212:=Tryz.zeroValue271
 t213:=Tryz.underlying272
 a213:=Tryz.isAgg272
 z213:=Tryz.sizeOf272
 t232:=Tryz.underlying296
 a232:=Tryz.isAgg296
 z232:=Tryz.sizeOf296
 v232:=Tryz.zeroValue296
 t233:=Tryz.underlying297
 a233:=Tryz.isAgg297
 z233:=Tryz.sizeOf297
 v233:=Tryz.zeroValue297
 g17:=by kernel_rfl
 g18:=by kernel_rfl
 g19:=by kernel_rfl
 i0:=by kernel_rfl
 i2:=by kernel_rfl
 i3:=by kernel_rfl
 i4:=by kernel_rfl
 i5:=by kernel_rfl
 i9:=by kernel_rfl
 i20:=by kernel_rfl
 i37:=by kernel_rfl
 i46:=by kernel_rfl
 i51:=by kernel_rfl
 i53:=by kernel_rfl
 i171:=by kernel_rfl
 i173:=by kernel_rfl
 i212:=by kernel_rfl
 i232:=by kernel_rfl
 i233:=by kernel_rfl
 m17:=by kernel_rfl
 m18:=by kernel_rfl
 m19:=by kernel_rfl }
theorem Zo1 (m:Nat):Lib.decDigits m=dig m:=by
 induction m using Nat.strongRecOn with
 | ind m ih=>
  rw[Lib.decDigits,dig];split
  ·rfl
  ·rw[ih (m/10) (by omega)]
theorem ZmG (m:Nat):Lib.itoa (m:Nat)=dig m:=by
 rw[Lib.itoa,if_neg (by omega),Int.toNat_natCast,Zo1]
def Tab (B:Nat)(w:World):Prop:=Lib.TabBelow Tryz.prog B w "internal/strconv.uint64pow10" .u64 Lib.pow10Tab
theorem ZdV{B:Nat}(m:Nat)(hm:m≤9223372036854775807)(w:World)(h:Tab B w) :
  Calls Tryz.prog 107 #[.int .i64 m,.int .i64 10] w fun e w'=>e=.returned (.string ⟨(dig m).toArray⟩)∧Below w.heap.size w w':=by
 refine (Any.strconv_FormatInt_10 ZmC (m:Nat) (by omega) (by omega) w h.here).mono ?_;rintro e w' ⟨rfl,k,os,rfl⟩;exact⟨by rw[ZmG],Lib.below_grow _ _ (nl _) _ _⟩
theorem Zdx (b:Bool)(w:World) :
  Calls Tryz.prog 108 #[.bool b] w fun e w'=>e=.returned (.string ⟨(if b then [116,114,117,101] else [102,97,108,115,101]:Bs).toArray⟩)∧w'=w:=by
 have h:Calls Tryz.prog 146 #[.bool b] w fun e w'=>e=.returned (.string ⟨(if b then [116,114,117,101] else [102,97,108,115,101]:Bs).toArray⟩)∧w'=w:=by
  go_enter Tryz.func146,Tryz.ntmps146
  cases b
  ·go_wp2_with fail
   go_ret
   exact⟨rfl,rfl⟩
  ·go_wp2_with fail
   go_ret
   exact⟨rfl,rfl⟩
 obtain⟨s,hs⟩:∃s:Bs,s=if b then [116,114,117,101] else [102,97,108,115,101]:=⟨_,rfl⟩
 rw[←hs] at h⊢;have H:=Hd h;clear h hs;go_enter Tryz.func108,Tryz.ntmps108
 go_wp2_with fail
 refine H.out.mono ?_;rintro e w' ⟨rfl,rfl⟩;go_wp2_with fail
 go_ret
 exact⟨rfl,rfl⟩
theorem Tab.fb{B b:Nat}{w w':World}(h:Tab B w)(hF:Fb B b w w'):Tab B w':=h.on hF.1
/-! An item of a list of expressions; levels. -/
def zPE:PE:=.mk 0 0 [] 0 [] [] []
theorem zPE_is (A:Nat→Prop)(w:World):IsCs A w (encE 26 36 zPE) [.int .i64 (0:Nat),.int .i64 (0:Nat),.string ⟨([]:Bs).toArray⟩,.int .i64 (0:Nat),.slice none 0 0,.slice none 0 0,.slice none 0 0]:=by
 simp only[zPE,encE,Zaw,Zau,List.map_nil,lN];exact .cons (.num _ _ _) (.cons (.num _ _ _) (.cons (.str _ _ _) (.cons (.num _ _ _) (.cons (.none _ _ _ (by decide)) (.cons (.none _ _ _ (by decide)) (.cons (.none _ _ _ (by decide)) (.nil _ _)))))))
theorem Zby (l:List PE)(i:Nat)(A:Nat→Prop)(w:World)(v:Value)(h:IsC A w (.row 36 7 l.length (Zaw 26 36 l)) v)(hi9:i≤1000000000000000) :
  Calls Tryz.prog 143 #[v,.int .i64 i] w fun e w'=>∃cs,e=.returned (.agg cs.toArray)∧Below w.heap.size w w'∧IsCs A w' (encE 26 36 (l[i]?.getD zPE)) cs:=by
 obtain⟨tt,htt⟩:=eX (l[i]?.getD zPE);rw[←htt];have HTT:=Hd htt;clear htt;have hS:=Sub.of_row h (by rw[Zcb];exact ZaF (ZaB 26 36) l);obtain⟨a0,cap,xs,rfl,-,-⟩:=id hS;obtain⟨W1,hW1⟩:=eY (w.alloc (.cells #[.int .i64 0,.int .i64 0,.string ⟨#[]⟩,.int .i64 0,.slice none 0 0,.slice none 0 0,.slice none 0 0] 36));have hA1:W1.heap[w.heap.size]?=some (.cells #[.int .i64 0,.int .i64 0,.string ⟨#[]⟩,.int .i64 0,.slice none 0 0,.slice none 0 0,.slice none 0 0] 36 (0,0)):=by rw[←hW1];exact hN w _
 have hB1:Below w.heap.size w W1:=by rw[←hW1];exact (Below.refl _ w).alloc (nl _) _
 have HB1:=Hd hB1;have HA1:=Hd hA1;have HSZ:=Hd (show W1.heap.size=w.heap.size+1 by rw[←hW1];simp);by_cases hlt:i<l.length
 ·have hd1:decide ((i:Int)<(l.length:Int))=true:=dT (by omega);have hd2:decide (i<l.length)=true:=dT hlt;have hget:l[i]?=some l[i]:=List.getElem?_eq_getElem hlt;obtain⟨t,ht⟩:=eX (l[i]);rw[←ht] at hget;have hS2:=hS;rw[Zcb] at hS2;obtain⟨g,o,cs,rfl,hg,hcs,hcell⟩:=Sub.at (ZaB 26 36) hS2 hget (by omega);obtain⟨tk,ta,tn,tm,a4,n4,c4,a5,n5,c5,a6,n6,c6,rfl⟩:=ZaT hcs;have d0:=(hB1.cell (p:=⟨g,o+i*7+0,none⟩) hg).trans (hcell 0 _ rfl);have d1:=(hB1.cell (p:=⟨g,o+i*7+1,none⟩) hg).trans (hcell 1 _ rfl);have d2:=(hB1.cell (p:=⟨g,o+i*7+2,none⟩) hg).trans (hcell 2 _ rfl);have d3:=(hB1.cell (p:=⟨g,o+i*7+3,none⟩) hg).trans (hcell 3 _ rfl);have d4:=(hB1.cell (p:=⟨g,o+i*7+4,none⟩) hg).trans (hcell 4 _ rfl);have d5:=(hB1.cell (p:=⟨g,o+i*7+5,none⟩) hg).trans (hcell 5 _ rfl);have d6:=(hB1.cell (p:=⟨g,o+i*7+6,none⟩) hg).trans (hcell 6 _ rfl);rw[aZ] at d0;have HCS:=Hd (hcs.mono (A':=fun b=>A b∧b<w.heap.size) (fun b hb ha=>⟨ha,hb⟩));have HTH:=Hd (Zaf hA1 rfl);have HGET:=Hd (show tt=t by rw[HTT.out,hget];rfl);clear hS hS2 hget ht hcs hcell hg h hA1 hB1;go_enter Tryz.func143,Tryz.ntmps143
  go_upto_region 1 with fail
  clear hW1;go_wp2_with (first | (refine Zaa rfl 36 (.tmp 4) (.tmp 13) rfl w.heap.size _ rfl rfl HTH.out Zbi (all_oneCell_toArray (by simp[Value.oneCell'])) ?_;intro W9 hW9))
  have hA9:W9.heap[w.heap.size]?=some (.cells #[.int .i64 tk,.int .i64 ta,.string tn,.int .i64 tm,.slice a4 n4 c4,.slice a5 n5 c5,.slice a6 n6 c6] 36 (0,0)):=by rw[hW9.out];exact Zam (vs:=[.int .i64 tk,.int .i64 ta,.string tn,.int .i64 tm,.slice a4 n4 c4,.slice a5 n5 c5,.slice a6 n6 c6]) HA1.out rfl
  refine ZcC Tryz.results143 rfl rfl hA9 ⟨[.int .i64 tk,.int .i64 ta,.string tn,.int .i64 tm,.slice a4 n4 c4,.slice a5 n5 c5,.slice a6 n6 c6],rfl,?_,?_⟩
  ·rw[hW9.out];exact Below.putL HB1.out (nl _) _
  ·rw[HGET.out,hW9.out];exact ((HCS.out.below HB1.out).putL _ (fun b hb=>Nat.ne_of_lt hb.2) _).mono (fun b _ hb=>hb.1)
 ·have hd1:decide ((i:Int)<(l.length:Int))=false:=dF (by omega);have hd2:decide (i<l.length)=false:=dF hlt;have hA2:(W1.alloc (.cells #[.int .i64 0,.int .i64 0,.string ⟨#[]⟩,.int .i64 0,.slice none 0 0,.slice none 0 0,.slice none 0 0] 36)).heap[w.heap.size]?=some (.cells #[.int .i64 0,.int .i64 0,.string ⟨#[]⟩,.int .i64 0,.slice none 0 0,.slice none 0 0,.slice none 0 0] 36 (0,0)):=Zab hA1 _;have HA2:=Hd hA2;have HTH:=Hd (Zaf hA2 rfl);have HB2:=Hd (hB1.alloc hB1.size (.cells #[.int .i64 0,.int .i64 0,.string ⟨#[]⟩,.int .i64 0,.slice none 0 0,.slice none 0 0,.slice none 0 0] 36));have HGET:=Hd (show tt=zPE by rw[HTT.out,List.getElem?_eq_none (by omega)];rfl);clear hS h hA1 hB1 hA2;go_enter Tryz.func143,Tryz.ntmps143
  go_upto_region 1 with fail
  clear hW1;go_wp2_with (first | (refine Zaa rfl 36 (.tmp 4) (.tmp 14) rfl w.heap.size _ rfl rfl HTH.out Zbi (all_oneCell_toArray (by simp[Value.oneCell'])) ?_;intro W9 hW9))
  have hA9:W9.heap[w.heap.size]?=some (.cells #[.int .i64 0,.int .i64 0,.string ⟨#[]⟩,.int .i64 0,.slice none 0 0,.slice none 0 0,.slice none 0 0] 36 (0,0)):=by rw[hW9.out];exact Zam (vs:=[.int .i64 0,.int .i64 0,.string ⟨#[]⟩,.int .i64 0,.slice none 0 0,.slice none 0 0,.slice none 0 0]) HA2.out rfl
  refine ZcC Tryz.results143 rfl rfl hA9 ⟨[.int .i64 0,.int .i64 0,.string ⟨#[]⟩,.int .i64 0,.slice none 0 0,.slice none 0 0,.slice none 0 0],rfl,?_,?_⟩
  ·rw[hW9.out];exact Below.putL HB2.out (nl _) _
  ·rw[HGET.out];exact zPE_is A W9
theorem ZfE (k:Nat)(ta:Int)(n:ByteArray)(tm:Int)(a4 a5 a6:Option Addr)(n4 c4 n5 c5 n6 c6:Nat)(w:World) :
  Calls Tryz.prog 106 #[.agg #[.int .i64 k,.int .i64 ta,.string n,.int .i64 tm,.slice a4 n4 c4,.slice a5 n5 c5,.slice a6 n6 c6]] w fun e w'=>e=.returned (.int .i64 (lvlE k:Nat))∧Below w.heap.size w w':=by
 go_enter Tryz.func106,Tryz.ntmps106
 by_cases h8:k=8
 ·subst h8;go_wp2_with fail
  go_ret
  exact⟨rfl,(Below.refl _ w).alloc (nl _) _⟩
 by_cases h9:k=9
 ·subst h9;go_wp2_with fail
  go_ret
  exact⟨rfl,(Below.refl _ w).alloc (nl _) _⟩
 by_cases h10:k=10
 ·subst h10;go_wp2_with fail
  go_ret
  exact⟨rfl,(Below.refl _ w).alloc (nl _) _⟩
 ·have e8:((k:Int)==8)=false:=bF (by omega);have e9:((k:Int)==9)=false:=bF (by omega);have e10:((k:Int)==10)=false:=bF (by omega);have hl:lvlE k=2:=by unfold lvlE;rw[if_neg (by omega)]
  go_wp2_with fail
  go_ret
  exact⟨by rw[hl];rfl,(Below.refl _ w).alloc (nl _) _⟩
end Go.Proofs.YtijnjoonbjdafaaGreatDoor

import Derived.Shelf.Small.Strs
import Derived.Shelf.LaysC
import Derived.Shelf.Strconv.ParseIntPublic10
import Derived.Shelf.SlSortCmp.NoneTotal
import Derived.Test.YtijnjoonbjdafaaGreatDoorProg
import Derived.Test.YtijnjoonbjdafaaGreatDoorTkM
import Derived.Deep.MidRow
namespace Go.Proofs.YtijnjoonbjdafaaGreatDoor
set_option maxHeartbeats 20000000
open Go.Shelf
def ZhP:Go.Shelf.Ren:=⟨fun | 106=>194 | 213=>220 | 265=>239 | n=>n,fun | 9=>9 | 3=>3 | n=>n,fun | n=>n⟩
theorem ZoH:Go.Proofs.Lays.n106 Tryz.prog ZhP:={
 mixed:=by kernel_rfl
 f106:=Tryz.func194.trans (congrArg some (by kernel_rfl))
 f213:=Tryz.func220.trans (congrArg some (by kernel_rfl))
 f265:=Tryz.func239.trans (congrArg some (by kernel_rfl))
 t3:=Tryz.underlying3
 a3:=Tryz.isAgg3
 z3:=Tryz.sizeOf3
 v3:=Tryz.zeroValue3
 t9:=Tryz.underlying9
 a9:=Tryz.isAgg9
 z9:=Tryz.sizeOf9
 v9:=Tryz.zeroValue9 }
open Go.RowKit in
theorem strings_Compare (a b:ByteArray)(w:World) :
  Calls Tryz.prog 194 #[.string a,.string b] w fun e w'=>e=.returned (.int .i64 (Lib.compareBytes a.data.toList b.data.toList))∧w'=w:=Any.strings_Compare ZoH a b w
def Zg7:Go.Shelf.Ren:=⟨fun | 174=>196 | 247=>221 | 245=>222 | 287=>240 | 279=>241 | 280=>242 | 281=>243 | 282=>244 | 321=>250 | 322=>251 | 316=>174 | 171=>253 | 205=>252 | 243=>256 | 246=>145 | 283=>176 | 284=>177 | 285=>178 | 286=>179 | 129=>165 | 317=>213 | 318=>214 | 319=>215 | 320=>216 | 337=>229 | 338=>230 | n=>n,fun | 9=>9 | 3=>3 | 2=>2 | 75=>202 | 85=>257 | 4=>4 | 167=>290 | 5=>5 | 53=>231 | 175=>291 | 46=>189 | 168=>293 | 37=>81 | 0=>0 | 210=>302 | 21=>21 | 127=>173 | 145=>307 | 143=>305 | 171=>236 | 173=>238 | 212=>271 | 51=>229 | 20=>20 | 213=>272 | 232=>296 | 233=>297 | 80=>122 | n=>n,fun | 15=>4 | 16=>5 | 17=>0 | 18=>2 | 19=>3 | n=>n⟩
theorem ZmD:Go.Proofs.LaysC.n174 Tryz.prog Zg7:={
 mixed:=by kernel_rfl
 f129:=Tryz.func165.trans (congrArg some (by kernel_rfl))
 f171:=Tryz.func253.trans (congrArg some (by kernel_rfl))
 f174:=Tryz.func196.trans (congrArg some (by kernel_rfl))
 f205:=Tryz.func252.trans (congrArg some (by kernel_rfl))
 f243:=Tryz.func256.trans (congrArg some (by kernel_rfl))
 f245:=Tryz.func222.trans (congrArg some (by kernel_rfl))
 f246:=Tryz.func145.trans (congrArg some (by kernel_rfl))
 f247:=Tryz.func221.trans (congrArg some (by kernel_rfl))
 f279:=Tryz.func241.trans (congrArg some (by kernel_rfl))
 f280:=Tryz.func242.trans (congrArg some (by kernel_rfl))
 f281:=Tryz.func243.trans (congrArg some (by kernel_rfl))
 f282:=Tryz.func244.trans (congrArg some (by kernel_rfl))
 f283:=Tryz.func176.trans (congrArg some (by kernel_rfl))
 f284:=Tryz.func177.trans (congrArg some (by kernel_rfl))
 f285:=Tryz.func178.trans (congrArg some (by kernel_rfl))
 f286:=Tryz.func179.trans (congrArg some (by kernel_rfl))
 f287:=Tryz.func240.trans (congrArg some (by kernel_rfl))
 f316:=Tryz.func174.trans (congrArg some (by kernel_rfl))
 f317:=Tryz.func213.trans (congrArg some (by kernel_rfl))
 f318:=Tryz.func214.trans (congrArg some (by kernel_rfl))
 f319:=Tryz.func215.trans (congrArg some (by kernel_rfl))
 f320:=Tryz.func216.trans (congrArg some (by kernel_rfl))
 f321:=Tryz.func250.trans (congrArg some (by kernel_rfl))
 f322:=Tryz.func251.trans (congrArg some (by kernel_rfl))
 f337:=Tryz.func229.trans (congrArg some (by kernel_rfl))
 f338:=Tryz.func230.trans (congrArg some (by kernel_rfl))
 t0:=Tryz.underlying0
 a0:=Tryz.isAgg0
 z0:=Tryz.sizeOf0
 v0:=Tryz.zeroValue0
 t2:=Tryz.underlying2
 a2:=Tryz.isAgg2
 z2:=Tryz.sizeOf2
 v2:=Tryz.zeroValue2
 t3:=Tryz.underlying3
 a3:=Tryz.isAgg3
 z3:=Tryz.sizeOf3
 v3:=Tryz.zeroValue3
 t4:=Tryz.underlying4
 a4:=Tryz.isAgg4
 z4:=Tryz.sizeOf4
 v4:=Tryz.zeroValue4
 t5:=Tryz.underlying5
 a5:=Tryz.isAgg5
 z5:=Tryz.sizeOf5
 v5:=Tryz.zeroValue5
 t9:=Tryz.underlying9
 a9:=Tryz.isAgg9
 z9:=Tryz.sizeOf9
 v9:=Tryz.zeroValue9
 t20:=Tryz.underlying20
 a20:=Tryz.isAgg20
 z20:=Tryz.sizeOf20
 v20:=Tryz.zeroValue20
 t21:=Tryz.underlying21
 a21:=Tryz.isAgg21
 z21:=Tryz.sizeOf21
 v21:=Tryz.zeroValue21
 t37:=Tryz.underlying81
 a37:=Tryz.isAgg81
 z37:=Tryz.sizeOf81
 v37:=Tryz.zeroValue81
 t46:=Tryz.underlying189
 a46:=Tryz.isAgg189
 z46:=Tryz.sizeOf189
 v46:=Tryz.zeroValue189
 t51:=Tryz.underlying229
 a51:=Tryz.isAgg229
 z51:=Tryz.sizeOf229
 v51:=Tryz.zeroValue229
 t53:=Tryz.underlying231
 a53:=Tryz.isAgg231
 z53:=Tryz.sizeOf231
 v53:=Tryz.zeroValue231
 t75:=Tryz.underlying202
 a75:=Tryz.isAgg202
 z75:=Tryz.sizeOf202
 v75:=Tryz.zeroValue202
 t85:=Tryz.underlying257
 a85:=Tryz.isAgg257
 z85:=Tryz.sizeOf257
 v85:=Tryz.zeroValue257
 t127:=Tryz.underlying173
 a127:=Tryz.isAgg173
 z127:=Tryz.sizeOf173
 v127:=Tryz.zeroValue173
 t143:=Tryz.underlying305
 a143:=Tryz.isAgg305
 z143:=Tryz.sizeOf305
 v143:=Tryz.zeroValue305
 t145:=Tryz.underlying307
 a145:=Tryz.isAgg307
 z145:=Tryz.sizeOf307
 v145:=Tryz.zeroValue307
 t167:=Tryz.underlying290
 a167:=Tryz.isAgg290
 z167:=Tryz.sizeOf290
 v167:=Tryz.zeroValue290
 t168:=Tryz.underlying293
 a168:=Tryz.isAgg293
 z168:=Tryz.sizeOf293
 v168:=Tryz.zeroValue293
 t171:=Tryz.underlying236
 a171:=Tryz.isAgg236
 z171:=Tryz.sizeOf236
 v171:=Tryz.zeroValue236
 t173:=Tryz.underlying238
 a173:=Tryz.isAgg238
 z173:=Tryz.sizeOf238
 v173:=Tryz.zeroValue238
 t175:=Tryz.underlying291
 a175:=Tryz.isAgg291
 z175:=Tryz.sizeOf291
 v175:=Tryz.zeroValue291
 t210:=Tryz.underlying302
 a210:=Tryz.isAgg302
 z210:=Tryz.sizeOf302
 v210:=Tryz.zeroValue302
 t212:=Tryz.underlying271
 a212:=Tryz.isAgg271
 z212:=Tryz.sizeOf271
 v212:=Tryz.zeroValue271
 t213:=Tryz.underlying272
 a213:=Tryz.isAgg272
 z213:=Tryz.sizeOf272
 t232:=Tryz.underlying296
 a232:=Tryz.isAgg296
 z232:=Tryz.sizeOf296
 v232:=Tryz.zeroValue296
 t233:=Tryz.underlying297
 a233:=Tryz.isAgg297
 z233:=Tryz.sizeOf297
 v233:=Tryz.zeroValue297
 g15:=by kernel_rfl
 g16:=by kernel_rfl
 g17:=by kernel_rfl
 g18:=by kernel_rfl
 g19:=by kernel_rfl
 t80:=Tryz.underlying122
 a80:=Tryz.isAgg122
 z80:=Tryz.sizeOf122
 v80:=Tryz.zeroValue122
 i0:=by kernel_rfl
 i2:=by kernel_rfl
 i3:=by kernel_rfl
 i4:=by kernel_rfl
 i5:=by kernel_rfl
 i9:=by kernel_rfl
 i20:=by kernel_rfl
 i21:=by kernel_rfl
 i37:=by kernel_rfl
 i46:=by kernel_rfl
 i51:=by kernel_rfl
 i53:=by kernel_rfl
 i75:=by kernel_rfl
 i80:=by kernel_rfl
 i85:=by kernel_rfl
 i127:=by kernel_rfl
 i143:=by kernel_rfl
 i145:=by kernel_rfl
 i167:=by kernel_rfl
 i168:=by kernel_rfl
 i171:=by kernel_rfl
 i173:=by kernel_rfl
 i175:=by kernel_rfl
 i210:=by kernel_rfl
 i212:=by kernel_rfl
 i232:=by kernel_rfl
 i233:=by kernel_rfl
 m15:=by kernel_rfl
 m16:=by kernel_rfl
 m17:=by kernel_rfl
 m18:=by kernel_rfl
 m19:=by kernel_rfl
 c0:=by kernel_rfl
 c2:=by kernel_rfl
 c3:=by kernel_rfl
 c4:=by kernel_rfl
 c5:=by kernel_rfl
 c9:=by kernel_rfl
 c20:=by kernel_rfl
 c21:=by kernel_rfl
 c37:=by kernel_rfl
 c46:=by kernel_rfl
 c51:=by kernel_rfl
 c53:=by kernel_rfl
 c75:=by kernel_rfl
 c80:=by kernel_rfl
 c85:=by kernel_rfl
 c127:=by kernel_rfl
 c143:=by kernel_rfl
 c145:=by kernel_rfl
 c167:=by kernel_rfl
 c168:=by kernel_rfl
 c171:=by kernel_rfl
 c173:=by kernel_rfl
 c175:=by kernel_rfl
 c210:=by kernel_rfl
 c212:=by kernel_rfl
 c213:=by kernel_rfl
 c232:=by kernel_rfl
 c233:=by kernel_rfl }
open Go.RowKit in
theorem strconv_ParseInt_10_at64_ok (s:ByteArray)(hmax:s.size≤9223372036854775806)(v:Int)(h:Lib.parseIntB 64 s.data.toList=.ok v)(w:World) :
  Calls Tryz.prog 196 #[.string s,.int .i64 10,.int .i64 64] w fun e w'=>e=.returned (.tuple #[.int .i64 v,.nilIface])∧(w'=w∨∃t,w'=Lib.bytesWorld w 5 t):=Any.strconv_ParseInt_10_at64_ok ZmD s hmax v h w
def ZgL:Go.Shelf.Ren:=⟨fun | 6=>192 | 15=>126 | 14=>219 | 28=>164 | 29=>165 | 20=>231 | 21=>232 | 22=>233 | 23=>234 | 24=>235 | 25=>236 | 26=>237 | 27=>238 | 46=>247 | 47=>185 | 48=>186 | 49=>248 | 50=>249 | 57=>255 | n=>n,fun | 22=>248 | 24=>252 | 25=>254 | 3=>3 | 39=>189 | 0=>0 | 53=>229 | 55=>231 | 4=>4 | 46=>222 | 45=>221 | 50=>226 | 5=>5 | 9=>9 | 66=>242 | 70=>246 | 76=>274 | 77=>275 | n=>n,fun | n=>n⟩
theorem Zil:Go.Proofs.SlLaysF0.n6 Tryz.prog ZgL:={
 mixed:=by kernel_rfl
 f6:=⟨Tryz.f192.name,by decide,Tryz.func192.trans (congrArg some (by kernel_rfl))⟩
 f14:=⟨Tryz.f219.name,by decide,Tryz.func219.trans (congrArg some (by kernel_rfl))⟩
 f15:=Tryz.func126.trans (congrArg some (by kernel_rfl))
 f20:=⟨Tryz.f231.name,by decide,Tryz.func231.trans (congrArg some (by kernel_rfl))⟩
 f21:=⟨Tryz.f232.name,by decide,Tryz.func232.trans (congrArg some (by kernel_rfl))⟩
 f22:=⟨Tryz.f233.name,by decide,Tryz.func233.trans (congrArg some (by kernel_rfl))⟩
 f23:=⟨Tryz.f234.name,by decide,Tryz.func234.trans (congrArg some (by kernel_rfl))⟩
 f24:=⟨Tryz.f235.name,by decide,Tryz.func235.trans (congrArg some (by kernel_rfl))⟩
 f25:=⟨Tryz.f236.name,by decide,Tryz.func236.trans (congrArg some (by kernel_rfl))⟩
 f26:=⟨Tryz.f237.name,by decide,Tryz.func237.trans (congrArg some (by kernel_rfl))⟩
 f27:=⟨Tryz.f238.name,by decide,Tryz.func238.trans (congrArg some (by kernel_rfl))⟩
 f28:=Tryz.func164.trans (congrArg some (by kernel_rfl))
 f29:=Tryz.func165.trans (congrArg some (by kernel_rfl))
 f46:=⟨Tryz.f247.name,by decide,Tryz.func247.trans (congrArg some (by kernel_rfl))⟩
 f47:=Tryz.func185.trans (congrArg some (by kernel_rfl))
 f48:=Tryz.func186.trans (congrArg some (by kernel_rfl))
 f49:=⟨Tryz.f248.name,by decide,Tryz.func248.trans (congrArg some (by kernel_rfl))⟩
 f50:=⟨Tryz.f249.name,by decide,Tryz.func249.trans (congrArg some (by kernel_rfl))⟩
 f57:=⟨Tryz.f255.name,by decide,Tryz.func255.trans (congrArg some (by kernel_rfl))⟩
 t0:=Tryz.underlying0
 a0:=Tryz.isAgg0
 z0:=Tryz.sizeOf0
 v0:=Tryz.zeroValue0
 t3:=Tryz.underlying3
 a3:=Tryz.isAgg3
 z3:=Tryz.sizeOf3
 v3:=Tryz.zeroValue3
 t4:=Tryz.underlying4
 a4:=Tryz.isAgg4
 z4:=Tryz.sizeOf4
 v4:=Tryz.zeroValue4
 t5:=Tryz.underlying5
 a5:=Tryz.isAgg5
 z5:=Tryz.sizeOf5
 v5:=Tryz.zeroValue5
 t9:=Tryz.underlying9
 a9:=Tryz.isAgg9
 z9:=Tryz.sizeOf9
 v9:=Tryz.zeroValue9
 t22:=Tryz.underlying248
 a22:=Tryz.isAgg248
 z22:=Tryz.sizeOf248
 v22:=Tryz.zeroValue248
 t25:=Tryz.underlying254
 a25:=Tryz.isAgg254
 z25:=Tryz.sizeOf254
 v25:=Tryz.zeroValue254
 t39:=Tryz.underlying189
 a39:=Tryz.isAgg189
 z39:=Tryz.sizeOf189
 v39:=Tryz.zeroValue189
 t45:=Tryz.underlying221
 a45:=Tryz.isAgg221
 z45:=Tryz.sizeOf221
 v45:=Tryz.zeroValue221
 t46:=Tryz.underlying222
 a46:=Tryz.isAgg222
 z46:=Tryz.sizeOf222
 v46:=Tryz.zeroValue222
 t50:=Tryz.underlying226
 a50:=Tryz.isAgg226
 z50:=Tryz.sizeOf226
 v50:=Tryz.zeroValue226
 t53:=Tryz.underlying229
 a53:=Tryz.isAgg229
 z53:=Tryz.sizeOf229
 v53:=Tryz.zeroValue229
 t55:=Tryz.underlying231
 a55:=Tryz.isAgg231
 z55:=Tryz.sizeOf231
 v55:=Tryz.zeroValue231
 t66:=Tryz.underlying242
 a66:=Tryz.isAgg242
 z66:=Tryz.sizeOf242
 v66:=Tryz.zeroValue242
 t70:=Tryz.underlying246
 a70:=Tryz.isAgg246
 z70:=Tryz.sizeOf246
 v70:=Tryz.zeroValue246
 t76:=Tryz.underlying274
 a76:=Tryz.isAgg274
 z76:=Tryz.sizeOf274
 v76:=Tryz.zeroValue274
 t77:=Tryz.underlying275
 a77:=Tryz.isAgg275
 z77:=Tryz.sizeOf275
 v77:=Tryz.zeroValue275 }
set_option maxRecDepth 20000
open Go.RowKit Go.Shelf
def Sev (w:World)(b:Nat)(t:TypeId)(v0 v1 v2 v3 v4 v5 v6:Value):Prop:=w.heap[b]?=some (.cells #[v0,v1,v2,v3,v4,v5,v6] t (0,0))
theorem Zai{w:World}{b:Nat}{t:TypeId}{v0 v1 v2 v3 v4 v5 v6:Value}(h:Sev w b t v0 v1 v2 v3 v4 v5 v6) :
  (w.cell? ⟨b,0,none⟩=some v0∧w.cell? ⟨b,1,none⟩=some v1∧w.cell? ⟨b,2,none⟩=some v2∧w.cell? ⟨b,3,none⟩=some v3∧w.cell? ⟨b,4,none⟩=some v4∧w.cell? ⟨b,5,none⟩=some v5∧w.cell? ⟨b,6,none⟩=some v6)∧
  w.frozen? ⟨b,0,none⟩=false∧w.frozen? ⟨b,1,none⟩=false∧w.frozen? ⟨b,2,none⟩=false∧w.frozen? ⟨b,3,none⟩=false∧w.frozen? ⟨b,4,none⟩=false∧w.frozen? ⟨b,5,none⟩=false∧w.frozen? ⟨b,6,none⟩=false:=by
 unfold Sev at h;simp[World.cell?,World.frozen?,h]
theorem ZcC{f:Func}{R:Ending→World→Prop}{a:Act}{w:World}{b s:Nat}{u0 u1 u2 u3 u4 u5 u6:Value}(hf:f.results=#[.cell s 36])(ht:a.eval (.tmp s)=.pointer (some ⟨b,0,none⟩))(hd:a.defers=[])
  (h:Sev w b 36 u0 u1 u2 u3 u4 u5 u6) (hR:R (.returned (.agg #[u0,u1,u2,u3,u4,u5,u6])) w):bodyPost Tryz.prog f R Exit.ret a w:=by
 obtain⟨⟨c0,c1,c2,c3,c4,c5,c6⟩,-⟩:=Zai h;refine bodyPost_ret ?_ hd hR;simp[Act.eval] at ht;simp[results,hf,go_sem,c0,c1,c2,c3,c4,c5,c6,ht]
theorem Zkl{f:Func}{R:Ending→World→Prop}{a:Act}{w:World}{b s:Nat}{u0 u1 u2 u3:Value}(hf:f.results=#[.cell s 26])(ht:a.eval (.tmp s)=.pointer (some ⟨b,0,none⟩))(hd:a.defers=[])
  (h:Fou w b 26 u0 u1 u2 u3) (hR:R (.returned (.agg #[u0,u1,u2,u3])) w):bodyPost Tryz.prog f R Exit.ret a w:=by
 obtain⟨⟨c0,c1,c2,c3⟩,-⟩:=Zae h;refine bodyPost_ret ?_ hd hR;simp[Act.eval] at ht;simp[results,hf,go_sem,c0,c1,c2,c3,ht]
def vE (lo:Nat)(t:PE)(e:Ending)(w':World):Prop:=∃cs,e=.returned (.agg cs.toArray)∧IsCs (fun b=>lo≤b) w' (encE 26 36 t) cs
theorem ZaT{A:Nat→Prop}{w:World}{t:PE}{cs:List Value}(h:IsCs A w (encE 26 36 t) cs):∃(k a:Int) (n:ByteArray) (m:Int) (a4:Option Addr) (n4 c4:Nat) (a5:Option Addr) (n5 c5:Nat) (a6:Option Addr) (n6 c6:Nat),cs=[.int .i64 k,.int .i64 a,.string n,.int .i64 m,.slice a4 n4 c4,.slice a5 n5 c5,.slice a6 n6 c6]:=by
 obtain⟨k,a,n,m,ns,l,ts⟩:=t;simp only[encE] at h;obtain⟨x0,ys,rfl,h0,h⟩:=h.uncons;obtain⟨x1,ys,rfl,h1,h⟩:=h.uncons;obtain⟨x2,ys,rfl,h2,h⟩:=h.uncons;obtain⟨x3,ys,rfl,h3,h⟩:=h.uncons;obtain⟨x4,ys,rfl,h4,h⟩:=h.uncons;obtain⟨x5,ys,rfl,h5,h⟩:=h.uncons;obtain⟨x6,ys,rfl,h6,h⟩:=h.uncons;simp only[IsCs] at h;subst h;simp only[IsC] at h0 h1 h2 h3;subst h0 h1 h2 h3;obtain⟨a4,c4,rfl⟩:=Zbb h4;obtain⟨a5,c5,rfl⟩:=Zbb h5;obtain⟨a6,c6,rfl⟩:=Zbb h6;exact⟨_,_,_,_,_,_,_,_,_,_,_,_,_,rfl⟩
abbrev zE:Obj:=.cells #[.int .i64 0,.int .i64 0,.string ⟨#[]⟩,.int .i64 0,.slice none 0 0,.slice none 0 0,.slice none 0 0] 36
structure Lv (w:World)(lo b:Nat)(t:TypeId)(l:List Dt)(cs:List Value):Prop where
 blk:w.heap[b]?=some (.cells cs.toArray t (0,0))
 ty:stT t=false
 lt:lo<b
 data:IsCs (fun k=>lo<k) w l cs
theorem Lv.fr{n₀:Nat}{w w':World}{lo b:Nat}{t:TypeId}{l:List Dt}{cs:List Value}(h:Lv w lo b t l cs)(hF:Fr n₀ w w'):Lv w' lo b t l cs:=
 ⟨hF.cells h.blk h.ty,h.ty,h.lt,IsCs.fr hF _ _ h.data⟩
theorem Lv.alloc{w:World}{lo b:Nat}{t:TypeId}{l:List Dt}{cs:List Value}(h:Lv w lo b t l cs)(o:Obj):Lv (w.alloc o) lo b t l cs:=h.fr (n₀:=0) ((Fr.refl _ _).alloc o)
theorem Lv.below{w w':World}{lo b:Nat}{t:TypeId}{l:List Dt}{cs:List Value}(h:Lv w lo b t l cs)(hb:Below w.heap.size w w'):Lv w' lo b t l cs:=h.fr (n₀:=0) (Fr.of_below hb)
theorem Lv.new{w:World}{lo:Nat}{t:TypeId}{l:List Dt}{cs:List Value}(ht:stT t=false)(hlo:lo<w.heap.size){lo':Nat}(hl:lo<lo')(h:IsCs (fun k=>lo'≤k) w l cs):Lv (w.alloc (.cells cs.toArray t)) lo w.heap.size t l cs:=
 ⟨hN w _,ht,hlo,(h.mono (fun b _ hb=>by omega)).below ((Below.refl _ _).alloc (nl _) _)⟩
theorem Lv.newTok{w:World}{lo:Nat}(hlo:lo<w.heap.size)(t:Tk):Lv (w.alloc (.cells #[.int .i64 t.k,.int .i64 t.a,.string ⟨t.t.toArray⟩] 105)) lo w.heap.size 105 [.num t.k,.num t.a,.str t.t] [.int .i64 t.k,.int .i64 t.a,.string ⟨t.t.toArray⟩]:=
 ⟨hN w _,by decide,hlo,.cons (.num _ _ _) (.cons (.num _ _ _) (.cons (.str _ _ _) (.nil _ _)))⟩
theorem Zaf{w:World}{b n:Nat}{c:Array Value}{t:TypeId}(h:w.heap[b]?=some (.cells c t (0,0)))(hn:c.size=n):w.there b 0 n:=by
 intro j hj;simp only[Nat.zero_add];refine⟨?_,by simp[World.frozen?,h]⟩;simp[World.cell?,h,hn,hj]
theorem Zaa{P:Program}{ops:Array Oper}{rest:List Oper}{op:Oper}{a:Act}{w:World}{Q:Exit→Act→World→Prop}(hgd:op.guard=none)(ty:TypeId)(x y:Operand)(ho:op.op=.store ty x y)
  (b:Nat) (cells:Array Value) (hx:a.eval x=.pointer (some ⟨b,0,none⟩)) (hy:a.eval y=.agg cells)
  (ht:w.there b 0 cells.size) (hi:(P.info? ty).map (·.size)=some cells.size) (h1:cells.all (·.oneCell')=true)
  (h:∀w',Hid (w'=putL w b cells.toList)→wpList P ops Q rest (a.put op.dst undef) w'):wpList P ops Q (op::rest) a w:=
 wpList_store_mid hgd ty x y ho b 0 cells hx hy ht hi h1 (h _ rfl)
theorem Zbi:(Tryz.prog.info? 36).map (·.size)=some 7:=by kernel_rfl
theorem Zc8:(Tryz.prog.info? 26).map (·.size)=some 4:=by kernel_rfl
theorem ZjZ{α:Type}{res:R α}{x:R α}(h:res=x):res=x.tell []:=h.trans (R.tell_nil x).symm
theorem mF7 {n₀:Nat}{W W':World}{b:Nat}{t:TypeId}{u0 u1 u2 u3 u4 u5 u6:Value}(hF:Fr n₀ W W') (h:Hid (Sev W b t u0 u1 u2 u3 u4 u5 u6)) (ht:stT t=false):Hid (Sev W' b t u0 u1 u2 u3 u4 u5 u6):=Hd (show Sev W' b t u0 u1 u2 u3 u4 u5 u6 from hF.cells h.out ht)
theorem mB7 {W W':World}{b:Nat}{t:TypeId}{u0 u1 u2 u3 u4 u5 u6:Value}(hb:Below W.heap.size W W') (h:Hid (Sev W b t u0 u1 u2 u3 u4 u5 u6)):Hid (Sev W' b t u0 u1 u2 u3 u4 u5 u6):=Hd (show Sev W' b t u0 u1 u2 u3 u4 u5 u6 from (hb.block _ (gE h.out).1).trans h.out)
def ZbG (y:Bs×List Value):List Value:=.string ⟨y.1.toArray⟩::y.2
theorem Zez{β:Type}{k:Nat}(f:β→List Value):∀(l:List β),(∀y∈l,(f y).length=k)→∀(i j:Nat) (hi:i<l.length),j<k→(l.flatMap f)[i*k+j]?=(f l[i])[j]?
 | [],_,i,j,hi,_=>by simp at hi
 | y::r,h,0,j,_,hj=>by
  have:=h y List.mem_cons_self;simp only[List.flatMap_cons,List.getElem_cons_zero];rw[List.getElem?_append_left (by omega),Nat.zero_mul,Nat.zero_add]
 | y::r,h,i+1,j,hi,hj=>by
  have h0:=h y List.mem_cons_self;have:=Zez f r (fun z hz=>h z (List.mem_cons_of_mem _ hz)) i j (by simpa using hi) hj;simp only[List.flatMap_cons,List.getElem_cons_succ];rw[List.getElem?_append_right (by rw[h0,Nat.add_mul];omega),h0,←this]
  congr 1
  rw[Nat.add_mul];omega
theorem Below.grownAt{n:Nat}{w W W':World}(h:Below n w W){row:Option Nat}(hg:W.grownBy W' row)(hr:∀b,row=some b→n≤b)(hn:n≤W.heap.size):Below n w W':=
 ⟨hg.os.trans h.os,hg.tape.trans h.tape,hg.output.trans h.output,Nat.le_trans h.size hg.size,fun k hk=>(hg.block k (by omega) (fun e=>by have:=hr k e.symm;omega)).trans (h.block k hk)⟩
theorem ZdO{w w':World}{base:Nat}{e:TypeId}{size:Nat}{v:Value}{n:Nat}{xs:List Value}(h:w.ownsRow base e size v n xs){row:Option Nat}(hg:w.grownBy w' row)(hn:∀b,v.ownBlock=some b→some b≠row):w'.ownsRow base e size v n xs:=
 Zbc (S:=fun b=>some b=row) h hg.size (fun b hb hb'=>hg.block b hb hb') hn
theorem Zk5:(Tryz.prog.info? 9).map (fun i=>(i.zero,i.size,i.bytes))=some (some (.string ⟨#[]⟩),1,16):=by kernel_rfl
theorem ZgG{β:Type}(l:List β)(i:Nat)(h:i<l.length):l.take (i+1)=l.take i++[l[i]]:=by
 rw[List.take_succ_eq_append_getElem h]
theorem Zea (A:Nat→Prop)(w:World):∀(ns:List Bs) (ys:List (Bs×List Value)),ns.length=ys.length→(∀i (h1:i<ns.length) (h2:i<ys.length),ys[i].1=ns[i])→IsCs A w (ns.map .str) (ys.map fun y=>Value.string ⟨y.1.toArray⟩)
 | [],[],_,_=>IsCs.nil _ _
 | [],_::_,h,_=>by simp at h
 | _::_,[],h,_=>by simp at h
 | n::ns,y::ys,h,hq=>by
  have h0:=hq 0 (by simp) (by simp);simp only[List.getElem_cons_zero] at h0;simp only[List.map_cons,←h0];exact .cons (.str _ _ _) (Zea A w ns ys (by simpa using h) (fun i a b=>hq (i+1) (by simpa using a) (by simpa using b)))
theorem Zgt{A:Nat→Prop}{w:World}:∀(fs:List (Bs×PT)) (xs:List Value),IsCs A w (ZcE fs) xs→∃ys:List (Bs×List Value),xs=ys.flatMap ZbG∧fs.length=ys.length∧∀i (h1:i<fs.length) (h2:i<ys.length),ys[i].1=fs[i].1∧IsCs A w (encT 26 fs[i].2) ys[i].2
 | [],xs,h=>by
  simp only[ZcE,List.flatMap_nil,IsCs] at h;subst h;exact⟨[],rfl,rfl,fun i h1=>by simp at h1⟩
 | f::r,xs,h=>by
  have e:ZcE (f::r)=.str f.1::(encT 26 f.2++ZcE r):=by simp[ZcE]
  rw[e] at h;obtain⟨x,zs,rfl,h1,h2⟩:=h.uncons;obtain⟨a,b,rfl,h3,h4⟩:=h2.split;simp only[IsC] at h1;subst h1;obtain⟨ys,rfl,hl,hq⟩:=Zgt r b h4;refine⟨(f.1,a)::ys,by simp[ZbG],by simpa using hl,fun i a1 a2=>?_⟩;cases i with
  | zero=>exact⟨rfl,h3⟩
  | succ i=>exact hq i (by simpa using a1) (by simpa using a2)
theorem ZiW{A:Nat→Prop}{w:World}:∀(fs:List (Bs×PT)) (ys:List (Bs×List Value)),fs.length=ys.length→(∀i (h1:i<fs.length) (h2:i<ys.length),ys[i].1=fs[i].1∧IsCs A w (encT 26 fs[i].2) ys[i].2)→IsCs A w (ZcE fs) (ys.flatMap ZbG)
 | [],[],_,_=>by simp only[ZcE,List.flatMap_nil];exact IsCs.nil _ _
 | [],_::_,h,_=>by simp at h
 | _::_,[],h,_=>by simp at h
 | f::r,y::ys,h,hq=>by
  obtain⟨h0,h1⟩:=hq 0 (by simp) (by simp);simp only[List.getElem_cons_zero] at h0 h1;have e:ZcE (f::r)=.str f.1::(encT 26 f.2++ZcE r):=by simp[ZcE]
  rw[e,List.flatMap_cons,ZbG,h0];exact .cons (.str _ _ _) (h1.append _ _ _ _ (ZiW r ys (by simpa using h) (fun i a b=>hq (i+1) (by simpa using a) (by simpa using b))))
theorem Znh{A:Nat→Prop}{w:World}:∀(vs:List PT) (ys:List (Bs×List Value)),vs.length=ys.length→(∀i (h1:i<vs.length) (h2:i<ys.length),IsCs A w (encT 26 vs[i]) ys[i].2)→IsCs A w (Zau 26 vs) (ys.flatMap (·.2))
 | [],[],_,_=>by simp only[Zau,List.flatMap_nil];exact IsCs.nil _ _
 | [],_::_,h,_=>by simp at h
 | _::_,[],h,_=>by simp at h
 | v::vs,y::ys,h,hq=>by
  have h1:=hq 0 (by simp) (by simp);simp only[List.getElem_cons_zero] at h1;rw[Zau,List.flatMap_cons];exact h1.append _ _ _ _ (Znh vs ys (by simpa using h) (fun i a b=>hq (i+1) (by simpa using a) (by simpa using b)))
theorem ZoV{w:World}{b:Nat}{t:TypeId}{v0 v1 v2 v3 v4:Value}(h:w.heap[b]?=some (.cells #[v0,v1,v2,v3,v4] t (0,0))):w.cell? ⟨b,0,none⟩=some v0∧w.cell? ⟨b,1,none⟩=some v1∧w.cell? ⟨b,2,none⟩=some v2∧w.cell? ⟨b,3,none⟩=some v3∧w.cell? ⟨b,4,none⟩=some v4:=by simp[World.cell?,h]
theorem ZnV{A:Nat→Prop}(w:World)(fs:List (Bs×PT))(v:Value)(xs:List Value)(hr:w.ownsRow 0 252 5 v fs.length xs)(hc:IsCs A w (ZcE fs) xs)(hn:fs.length≤1000000) :
  Calls Tryz.prog 195 #[v] w fun e w'=>Below w.heap.size w w'∧∃vn vv,e=.returned (.tuple #[vn,vv])∧IsCs (fun b=>A b∧b<w.heap.size∨w.heap.size≤b) w' [.row 9 1 (fs.map (·.1)).length ((fs.map (·.1)).map .str),.row 26 4 (fs.map (·.2)).length (Zau 26 (fs.map (·.2)))] [vn,vv]:=by
 obtain⟨i0,hi,hz0,hz1,hz2⟩:=info_parts Zns;obtain⟨j0,hj,hy0,hy1,hy2⟩:=info_parts Zk5;obtain⟨ys,rfl,hl,hq⟩:=Zgt fs xs hc;obtain⟨a0,cap,rfl⟩:∃a0 cap,v=.slice a0 fs.length cap:=by
  rcases hr.2 with ⟨rfl,e⟩ | ⟨g,cap,cur,rfl,_⟩
  ·exact⟨none,0,by rw[e]⟩
  ·exact⟨_,_,rfl⟩
 have hlen:∀y∈ys,(ZbG y).length=5:=by
  intro y hy;obtain⟨i,h1,rfl⟩:=List.getElem_of_mem hy;have:=(hq i (by omega) h1).2.length;rw[Zas] at this;simp[ZbG,this]
 have HG:∀i (h2:i<ys.length),∃g,a0=some ⟨g,0,none⟩∧g<w.heap.size∧∀j x,j<5→(ZbG ys[i])[j]?=some x→∀W,Below w.heap.size w W→W.cell? ⟨g,i*5+j,none⟩=some x:=by
  intro i h2;rcases hr.2 with ⟨_,e⟩ | ⟨g,cap',cur,e,hb,hg,hcc,hm,hs,ht⟩
  ·omega
  ·cases e;refine⟨g,rfl,(gE hg).1,fun j x hj hx W hW=>?_⟩;have hr':=ZaM hr hW;rw[hr'.cellAt (i*5+j) (by have:=Nat.mul_le_mul_right 5 (show i+1≤fs.length by omega);rw[Nat.add_mul] at this;omega),Zez ZbG ys hlen i j h2 hj];exact hx
 have HQ:=Hd hq;have HL:=Hd hl;have HGG:=Hd HG;have HNN:=Hd hn;obtain⟨n,hnn⟩:=eX (fs.length);rw[←hnn];have HLN:=Hd (show ys.length=n by rw[hnn];exact hl.symm);have HN:=Hd (show n≤1000000 by rw[hnn];exact hn);have HFN:=Hd hnn;clear hr hc hlen HG hq hl hn hnn;go_enter Tryz.func195,Tryz.ntmps195
 go_wp2_with fail
 go_loopw [4,5,10] (fun s4 s5 s10 wr=>∃(i:Nat),s10=.int .i64 i∧i≤n∧Below w.heap.size w wr∧wr.ownsRow 0 9 1 s4 i ((ys.take i).map fun y=>Value.string ⟨y.1.toArray⟩)∧wr.ownsRow 0 26 4 s5 i ((ys.take i).flatMap (·.2))∧(∀b,s4.ownBlock=some b→w.heap.size≤b)∧(∀b,s5.ownBlock=some b→w.heap.size≤b)∧(∀b,s4.ownBlock=some b→s5.ownBlock≠some b)) (fun _ _ s10 _=>n-(intOf s10).toNat)
 case atStart=>
  exact⟨0,rfl,Nat.zero_le _,Below.refl _ _,World.ownsRow_nil _ _ _ _,World.ownsRow_nil _ _ _ _,(fun b hb=>by cases hb),(fun b hb=>by cases hb),(fun b hb=>by cases hb)⟩
 case round=>
  obtain⟨i,rfl,hin,hB,hr4,hr5,ho4,ho5,hne⟩:=hrel;by_cases hlt:i<n
  ·have hd1:decide ((i:Int)<(n:Int))=true:=by simp;omega
   have hd2:decide (i<n)=true:=by simp;omega
   have hy:i<ys.length:=by have:=HLN.out;omega
   obtain⟨g,rfl,hgl,hcell⟩:=HGG.out i hy;obtain⟨hq1,hq2⟩:=HQ.out i (by have:=HFN.out;omega) hy;obtain⟨tk,tn,a2,n2,c2,a3,n3,c3,hcs⟩:=Zbq hq2;have hcc:ZbG ys[i]=[.string ⟨(ys[i]).1.toArray⟩,.int .i64 tk,.string tn,.slice a2 n2 c2,.slice a3 n3 c3]:=by rw[ZbG,hcs]
   rw[hcc] at hcell;have x0:=hcell 0 (.string ⟨(ys[i]).1.toArray⟩) (by decide) rfl wr hB;have x1:=hcell 1 (.int .i64 tk) (by decide) rfl wr hB;have x2:=hcell 2 (.string tn) (by decide) rfl wr hB;have x3:=hcell 3 (.slice a2 n2 c2) (by decide) rfl wr hB;have x4:=hcell 4 (.slice a3 n3 c3) (by decide) rfl wr hB;rw[aZ] at x0;have HTK:=Hd (show ys.take (i+1)=ys.take i++[ys[i]] from ZgG ys i hy);have HCS:=Hd hcs;obtain⟨nm,hnm⟩:∃nm:ByteArray,nm=⟨(ys[i]).1.toArray⟩:=⟨_,rfl⟩;rw[←hnm] at x0;have HNM:=Hd hnm;have HBL:=Hd hB;have R4:=Hd hr4;have R5:=Hd hr5;have O4:=Hd ho4;have O5:=Hd ho5;have NE:=Hd hne;have HLT:=Hd hlt;have HSZ:=Hd hB.size;have HL4:=Hd (show ∀b,u4.ownBlock=some b→b<wr.heap.size from fun b hb=>(hr4.lt b hb).2);have HL5:=Hd (show ∀b,u5.ownBlock=some b→b<wr.heap.size from fun b hb=>(hr5.lt b hb).2);have R4a:=Hd ((hr4.alloc (.cells #[.string nm,.int .i64 tk,.string tn,.slice a2 n2 c2,.slice a3 n3 c3] 252)).alloc (.cells #[.string nm] 9));have HNA:=Hd (World.news_of_block (hN (wr.alloc (.cells #[.string nm,.int .i64 tk,.string tn,.slice a2 n2 c2,.slice a3 n3 c3] 252)) (.cells #[.string nm] 9)));have hmx:i+1≤maxLen:=by have:=HN.out;unfold maxLen;omega
   have hmb:(i+1)*16≤140737488355328:=by have:=HN.out;omega
   have hmb2:(i+1)*72≤140737488355328:=by have:=HN.out;omega
   clear hB hr4 hr5 ho4 ho5 hne hcell hcs hcc hq1 hq2 hlt hnm hin;go_upto_region 7 with (first | (at_builtin;refine wpList_append_lies _ rfl (.tmp 14) (.tmp 17) 23 rfl 0 9 j0 _ 1 16 Tryz.underlying23 hj hy0 hy1 hy2 rfl (by decide) u4 i _ rfl R4a.out ⟨wr.heap.size+1,0,none⟩ 1 1 [.string nm] rfl rfl (fun j u hu=>by have:=HNA.out j u hu;simpa using this) (by simp[Value.oneCell']) (by decide) hmx hmb (Nat.zero_le _) (wr.heap.size+2) (by simp) ?_;intro g4 cap4 w4 hown4 hg4 hat4 hlt4))
   have hF4:w4.heap[wr.heap.size]?=some (.cells #[.string nm,.int .i64 tk,.string tn,.slice a2 n2 c2,.slice a3 n3 c3] 252):=Za5 (Zab (hN wr _) _) hg4 (fun e=>by have:=HL4.out _ e.symm;omega);obtain⟨q0,q1,q2,q3,q4⟩:=ZoV hF4;have G4:=Hd hg4;have A4:=Hd hat4;have N4:=Hd hown4;have HS4:=Hd (show wr.heap.size+2≤w4.heap.size by have:=hg4.size;simpa using this);have R5a:=Hd ((ZdO ((R5.out.alloc (.cells #[.string nm,.int .i64 tk,.string tn,.slice a2 n2 c2,.slice a3 n3 c3] 252)).alloc (.cells #[.string nm] 9)) hg4 (fun b hb e=>NE.out b e.symm hb)).alloc (.cells #[.int .i64 tk,.string tn,.slice a2 n2 c2,.slice a3 n3 c3] 26));have HNC:=Hd (World.news_of_block (hN w4 (.cells #[.int .i64 tk,.string tn,.slice a2 n2 c2,.slice a3 n3 c3] 26)));have HONE:=Hd (show ∀u∈([.int .i64 tk,.string tn,.slice a2 n2 c2,.slice a3 n3 c3]:List Value),u.oneCell'=true by simp[Value.oneCell']);clear hg4 hat4 hown4 hF4;go_wp2_with (first | (at_builtin;refine wpList_append_lies _ rfl (.tmp 19) (.tmp 22) 24 rfl 0 26 i0 _ 4 72 Tryz.underlying24 hi hz0 hz1 hz2 rfl (by decide) u5 i _ rfl R5a.out ⟨w4.heap.size,0,none⟩ 1 1 [.int .i64 tk,.string tn,.slice a2 n2 c2,.slice a3 n3 c3] rfl rfl HNC.out HONE.out (by decide) hmx hmb2 (Nat.zero_le _) (w4.heap.size+1) (World.size_alloc _ _) ?_;intro g5 cap5 w5 hown5 hg5 hat5 hlt5))
   have hb4:Below w.heap.size w w4:=Below.grownAt ((HBL.out.alloc HSZ.out _).alloc (by simp;have:=HSZ.out;omega) _) G4.out O4.out (by simp;have:=HSZ.out;omega);have hb5:Below w.heap.size w w5:=Below.grownAt (hb4.alloc hb4.size _) hg5 O5.out (by simp;have:=hb4.size;omega);have o4:w.heap.size≤g4:=by
    rcases A4.out with e | e
    ·exact O4.out _ e
    ·have:=HSZ.out;omega
   have o5:w.heap.size≤g5:=by
    rcases hat5 with e | e
    ·exact O5.out _ e
    ·have:=hb4.size;omega
   have l4:g4<w4.heap.size:=(N4.out.lt g4 rfl).2;have ne4:u5.ownBlock≠some g4:=by
    intro e5;rcases A4.out with e | e
    ·exact NE.out _ e e5
    ·have:=HL5.out _ e5;omega
   refine⟨⟨i+1,by simp,by have:=HLT.out;omega,hb5,?_,?_,(fun b hb=>by cases hb;exact o4),(fun b hb=>by cases hb;exact o5),?_⟩,?_⟩
   ·rw[HTK.out,List.map_append];have:=ZdO (N4.out.alloc (.cells #[.int .i64 tk,.string tn,.slice a2 n2 c2,.slice a3 n3 c3] 26)) hg5 (fun b hb e=>ne4 (by cases hb;exact e.symm))
    simpa[←HNM.out] using this
   ·rw[HTK.out,List.flatMap_append]
    simpa[HCS.out] using hown5
   ·intro b hb e;cases hb;have e':g5=g4:=by cases e;rfl
    rcases hat5 with e5 | e5
    ·exact ne4 (e'▸e5)
    ·omega
   ·simp[intOf];have:=HLT.out;omega
  ·have hd1:decide ((i:Int)<(n:Int))=false:=by simp;omega
   have hd2:decide (i<n)=false:=by simp;omega
   obtain rfl:i=n:=by omega
   have HBL:=Hd hB;have R4:=Hd hr4;have R5:=Hd hr5;have O4:=Hd ho4;have O5:=Hd ho5;clear hB hr4 hr5 ho4 ho5 hne hin hlt;go_wp2_with fail
   go_ret2
   refine⟨HBL.out,_,_,rfl,?_⟩;have e4:ys.take i=ys:=List.take_of_length_le (by have:=HLN.out;omega);have r4:=R4.out;have r5:=R5.out;rw[e4,HFN.out] at r4 r5;have k1:∀j (h1:j<(fs.map (·.1)).length) (h2:j<ys.length),ys[j].1=(fs.map (·.1))[j]:=fun j h1 h2=>by rw[List.getElem_map];exact (HQ.out j (by simpa using h1) h2).1
   have k2:∀j (h1:j<(fs.map (·.2)).length) (h2:j<ys.length),IsCs (fun b=>A b∧b<w.heap.size∨w.heap.size≤b) wr (encT 26 (fs.map (·.2))[j]) ys[j].2:=fun j h1 h2=>by
    rw[List.getElem_map];exact ((HQ.out j (by simpa using h1) h2).2.mono (A':=fun b=>A b∧b<w.heap.size∨w.heap.size≤b) (fun b hb ha=>.inl ⟨ha,hb⟩)).below HBL.out
   refine .cons (.row (by decide) (by rw[List.length_map];exact r4) (fun b hb=>.inr (O4.out b hb)) (Zea _ _ _ _ (by rw[List.length_map];exact HL.out) k1)) (.cons (.row (by decide) (by rw[List.length_map];exact r5) (fun b hb=>.inr (O5.out b hb)) (Znh _ _ (by rw[List.length_map];exact HL.out) k2)) (.nil _ _))
open Go.RowKit Go.Shelf Go.Sort
abbrev FC:Type:={ y:Bs×List Value // y.2.length=4∧∀v∈y.2,v.oneCell'=true }
instance:Inhabited FC:=⟨⟨([],[.int .i64 0,.int .i64 0,.int .i64 0,.int .i64 0]),rfl,by simp[Value.oneCell']⟩⟩
def FC.enc (x:FC):List Value:=ZbG x.1
def FC.cmp (x y:FC):Int:=Lib.compareBytes x.1.1 y.1.1
theorem Znw:∀a b:Bs,decide (Lib.compareBytes a b<0)=bsLt a b
 | [],[]=>rfl
 | [],_::_=>rfl
 | _::_,[]=>rfl
 | a::r,b::s=>by
  simp only[Lib.compareBytes,bsLt,UInt8.lt_iff_toNat_lt];by_cases h1:a.toNat<b.toNat
  ·simp[h1]
  ·by_cases h2:b.toNat<a.toNat
   ·simp[h1,h2]
   ·simp only[h1,h2,if_false];exact Znw r s
theorem Zmx (x y:FC):ltOf FC.cmp x y=bsLt x.1.1 y.1.1:=Znw _ _
theorem swo:SWO (ltOf FC.cmp):=
 ⟨fun x=>by rw[Zmx];exact ZdG _,fun x y z h k=>by rw[Zmx] at *;exact Zds _ _ _ h k,fun x y z h k=>by rw[Zmx] at *;exact Zg3 k h⟩
theorem ZiM:∀l:List FC,(l.flatMap FC.enc).length=l.length*5
 | []=>rfl
 | y::r=>by
  have:(FC.enc y).length=5:=by simp[FC.enc,ZbG,y.2.1]
  rw[List.flatMap_cons,lA,ZiM r,this,lC];omega
theorem Zfc (d:Array FC):(flatK FC.enc 5 d).toList=d.toList.flatMap FC.enc:=by
 have hk:∀y∈d.toList,(FC.enc y).length=5:=fun y _=>by simp[FC.enc,ZbG,y.2.1]
 have hl:(d.toList.flatMap FC.enc).length=d.size*5:=by
  rw[ZiM,Array.length_toList]
 refine List.ext_getElem? fun t=>?_
 by_cases ht:t<d.size*5
 ·have h1:t/5<d.toList.length:=by rw[Array.length_toList];omega
  have:=Zez FC.enc d.toList hk (t/5) (t%5) h1 (by omega);rw[show t/5*5+t%5=t by omega] at this;rw[this];have e1:=get_flatK FC.enc 5 d t ht;rw[Array.getElem?_toList,Array.getElem?_eq_getElem (by simpa using ht)];rw[getElem!_pos (flatK FC.enc 5 d) t (by simpa using ht)] at e1;rw[e1,getElem!_pos d (t/5) (by simpa using h1),Array.getElem_toList];have h5:t%5<(FC.enc d[t/5]).length:=by rw[hk _ (by simp)];omega
  rw[getElem!_pos (FC.enc d[t/5]) (t%5) h5,List.getElem?_eq_getElem h5]
 ·rw[List.getElem?_eq_none (by simp;omega),List.getElem?_eq_none (by omega)]
theorem Zo7 (x y:FC)(W:World):Calls Tryz.prog 193 #[.agg (FC.enc x).toArray,.agg (FC.enc y).toArray] W fun e w'=>e=.returned (.int .i64 (FC.cmp x y))∧∃q os',w'=grow (W.drewN q) os':=by
 obtain⟨⟨n1,l1⟩,hl1,ho1⟩:=x;obtain⟨⟨n2,l2⟩,hl2,ho2⟩:=y;unfold FC.enc FC.cmp ZbG;simp only at hl1 ho1 hl2 ho2⊢
 match l1,hl1,l2,hl2 with
 | [a1,a2,a3,a4],_,[b1,b2,b3,b4],_=>
  simp only[List.mem_cons,List.not_mem_nil,or_false,forall_eq_or_imp,forall_eq] at ho1 ho2;obtain⟨p1,p2,p3,p4⟩:=ho1;obtain⟨q1,q2,q3,q4⟩:=ho2;have hcon:=fun W'=>strings_Compare ⟨n1.toArray⟩ ⟨n2.toArray⟩ W'
  simp only at hcon
  generalize Lib.compareBytes n1 n2=r at hcon⊢
  go_enter Tryz.func193,Tryz.ntmps193
  go_wp2_with (go_at_call 194;refine (hcon _).mono ?_;rintro e w' ⟨rfl,rfl⟩)
  go_ret
  exact⟨rfl,0,_,by rw[alloc_eq_grow,alloc_eq_grow,grow_grow];rfl⟩
theorem Zki{w:World}{g cap n:Nat}{d:Array FC}(hn:d.size=n)(hr:w.ownsRow 0 252 5 (.slice (some ⟨g,0,none⟩) n cap) n (d.toList.flatMap FC.enc)):HoldsK FC.enc 5 w g 0 d:=by
 intro j hj;rw[size_flatK] at hj;have h1:=hr.cellAt j (by omega);rw[←Zfc,Array.getElem?_toList,Array.getElem?_eq_getElem (by rw[size_flatK];exact hj)] at h1;rw[Nat.zero_add,getElem!_pos _ j (by rw[size_flatK];exact hj)];refine⟨h1,?_⟩;rcases hr.2 with ⟨e,_⟩ | ⟨g',cap',cur,e,_,hg,_⟩
 ·cases e
 ·cases e;simp[World.frozen?,hg]
theorem Zi0{w:World}{g cap n q:Nat}{d d':Array FC}{os:Array Obj}(hn':d'.size=n)(hr:w.ownsRow 0 252 5 (.slice (some ⟨g,0,none⟩) n cap) n (d.toList.flatMap FC.enc)) :
  (sortWorldK FC.enc 5 w g 0 q d' os).ownsRow 0 252 5 (.slice (some ⟨g,0,none⟩) n cap) n (d'.toList.flatMap FC.enc)∧w.grownBy (sortWorldK FC.enc 5 w g 0 q d' os) (some g):=by
 have hl:(d'.toList.flatMap FC.enc).length=n*5:=by rw[←Zfc,Array.length_toList,size_flatK,hn']
 rcases hr.2 with ⟨e,_⟩ | ⟨g',cap',cur,e,hb,hg,hc,hm,hs,ht⟩
 ·cases e
 cases e;have hgl:=(gE hg).1;have hh:(sortWorldK FC.enc 5 w g 0 q d' os).heap[g]?=some (.cells (putCells id 0 (flatK FC.enc 5 d') cur) 252 (0,0)):=by
  unfold sortWorldK putRowK putRow;rw[heap_grow_old _ _ (by simp[mapBlock,Sort.ahead];exact hgl)];simp[mapBlock,Sort.ahead,hg,onCells,Array.getElem?_modify]
 refine⟨⟨hl,.inr ⟨g,cap,_,rfl,hb,hh,hc,hm,by simp[putCells,hs],?_⟩⟩,⟨rfl,rfl,rfl,?_,?_⟩⟩
 ·rw[←Zfc];refine List.ext_getElem? fun t=>?_
  by_cases h1:t<n*5
  ·have h2:t<cur.size:=by rw[hs];exact ll h1 (Nat.mul_le_mul_right 5 hc)
   rw[List.getElem?_take,if_pos h1,Array.getElem?_toList,Array.getElem?_toList,putCells,Array.getElem?_mapIdx,Array.getElem?_eq_getElem h2];simp only[Option.map_some,Nat.zero_le,Nat.zero_add,Nat.sub_zero,true_and,size_flatK,hn',h1,if_true,id];rw[getElem!_pos _ t (by rw[size_flatK,hn'];exact h1),Array.getElem?_eq_getElem (by rw[size_flatK,hn'];exact h1)]
  ·rw[List.getElem?_eq_none (by simp;omega),List.getElem?_eq_none (by rw[Array.length_toList,size_flatK,hn'];omega)]
 ·simp[sortWorldK,putRowK,Sort.ahead]
 ·intro b hb hne;unfold sortWorldK putRowK putRow;rw[heap_grow_old _ _ (by simp[mapBlock,Sort.ahead];exact hb)];simp only[mapBlock,Sort.ahead,Array.getElem?_modify];rw[if_neg (fun e=>hne (by rw[e]))]
theorem sort_T{A:Nat→Prop}(w:World)(fs:List (Bs×PT))(g cap:Nat)(xs:List Value)(hr:w.ownsRow 0 252 5 (.slice (some ⟨g,0,none⟩) fs.length cap) fs.length xs)(hc:IsCs A w (ZcE fs) xs)(hA:∀b,A b→b≠g)(hn:fs.length≤1000000)(hd:(fs.map (·.1)).Nodup) :
  Calls Tryz.prog 192 #[.slice (some ⟨g,0,none⟩) fs.length cap,.func (.func 193) #[] #[]] w fun e w'=>e=.returned (.tuple #[])∧w.grownBy w' (some g)∧∃xs',w'.ownsRow 0 252 5 (.slice (some ⟨g,0,none⟩) fs.length cap) fs.length xs'∧IsCs A w' (ZcE (Zb1 fs)) xs':=by
 obtain⟨ys,rfl,hl,hq⟩:=Zgt fs xs hc;have hy:∀y∈ys,y.2.length=4∧∀v∈y.2,v.oneCell'=true:=by
  intro y hy;obtain⟨i,h1,rfl⟩:=List.getElem_of_mem hy;have h2:=(hq i (by omega) h1).2;refine⟨?_,h2.one⟩;rw[h2.length,Zas]
 obtain⟨d,hd1⟩:∃d:Array FC,d.toList.map (·.1)=ys:=⟨(ys.attach.map fun y=>(⟨y.1,hy y.1 y.2⟩:FC)).toArray,by
  show List.map (fun x:FC=>x.1) (List.map (fun y=>(⟨y.1,hy y.1 y.2⟩:FC)) ys.attach)=ys;rw[List.map_map];exact List.attach_map_subtype_val ys⟩
 have hds:d.size=fs.length:=by rw[hl,←hd1];simp
 have hfl:∀e:Array FC,(e.toList.map (·.1)).flatMap ZbG=e.toList.flatMap FC.enc:=fun e=>by rw[List.flatMap_map];rfl
 rw[←hd1,hfl] at hr;have eg:∀args w,(callFunc 193 args).run Tryz.prog w=.ok (.enter 193 args) w:=enters_of Tryz.func193 (by kernel_rfl) rfl;have hcon:=AnyQ.slices_SortFunc Zil 5 Tryz.isAgg252 Tryz.sizeOf252 FC.enc (fun x=>by simp[FC.enc,ZbG,x.2.1]) (fun x v hv=>by
  rcases List.mem_cons.1 hv with rfl | hv
  ·rfl
  ·exact x.2.2 v hv) FC.cmp swo 193 #[] g 0 cap d w eg (fun _ _ _ _ x y=>Zo7 x y _) (Zki hds hr) (hr.lt g rfl).2 (by omega)
 change Calls Tryz.prog 192 _ _ _ at hcon;rw[hds] at hcon;refine hcon.mono ?_;rintro e w' ⟨rfl,d',q,os,⟨hp1,-,hp2⟩,hsd,rfl⟩;obtain⟨k1,k2⟩:=Zi0 (q:=q) (os:=os) (hp1.trans hds) hr;refine⟨rfl,k2,_,k1,?_⟩;have hp3:d.toList.Perm d'.toList:=by
  have:=hp2.symm
  rwa [Array.extract_eq_self_of_le (by omega),Array.extract_eq_self_of_le (by omega)] at this
 obtain⟨fs',a1,a2,a3⟩:=Zmp (Q:=fun (f:Bs×PT) (y:FC)=>y.1.1=f.1∧IsCs A w (encT 26 f.2) y.1.2) hp3 fs (by rw[←hds];exact Array.length_toList.symm) (fun i h1 h2=>by
  have:=hq i h1 (by omega);simp only[←hd1,List.getElem_map] at this;exact this)
 have ho:Zgv fs':=by
  refine List.pairwise_iff_getElem.2 fun i j hi hj hij=>?_
  have:=hsd i j (Nat.zero_le _) hij (by rw[←a1.length_eq] at hj;exact hj);have a2':fs'.length=d'.size:=a2.trans Array.length_toList;rw[Zmx,getElem!_pos d' i (by omega),getElem!_pos d' j (by omega)] at this;have e1:=(a3 i hi (a2▸hi)).1;have e2:=(a3 j hj (a2▸hj)).1;rw[Array.getElem_toList] at e1 e2;rw[e1,e2] at this;exact this
 rw[Zf0 a1.symm ho hd,←hfl];exact (ZiW fs' _ (by rw[List.length_map];exact a2) (fun i h1 h2=>by
  rw[List.getElem_map];exact a3 i h1 (by simpa using h2))).grown k2 (fun b hb e=>hA b hb (by cases e;rfl))
theorem Zj8 (fv:Value)(w:World):Calls Tryz.prog 192 #[.slice none 0 0,fv] w fun e w'=>e=.returned (.tuple #[])∧w'=w:=
 AnyF.slices_SortFunc_none Zil none 0 fv w
theorem Zl3{A:Nat→Prop}(w:World)(fs:List (Bs×PT))(v:Value)(xs:List Value)(hr:w.ownsRow 0 252 5 v fs.length xs)(hc:IsCs A w (ZcE fs) xs)(hA:∀b,A b→some b≠v.ownBlock)(hn:fs.length≤1000000)(hd:(fs.map (·.1)).Nodup) :
  Calls Tryz.prog 192 #[v,.func (.func 193) #[] #[]] w fun e w'=>e=.returned (.tuple #[])∧w.grownBy w' v.ownBlock∧∃xs',w'.ownsRow 0 252 5 v fs.length xs'∧IsCs A w' (ZcE (Zb1 fs)) xs':=by
 rcases hr.2 with ⟨rfl,e⟩ | ⟨g,cap,cur,rfl,_⟩
 ·obtain rfl:fs=[]:=List.eq_nil_of_length_eq_zero e;refine (Zj8 _ w).mono ?_;rintro e w' ⟨rfl,rfl⟩;exact⟨rfl,⟨rfl,rfl,rfl,nl _,fun _ _ _=>rfl⟩,xs,hr,hc⟩
 ·exact sort_T w fs g cap xs hr hc (fun b hb e=>hA b hb (by rw[e];rfl)) hn hd
def Bx2 (pb b0 b1 d:Nat)(w:World):Prop:=w.heap[b0]?=some (.cells #[.pointer (some ⟨pb,0,none⟩)] 89 (0,0))∧w.heap[b1]?=some (.cells #[.int .i64 d] 3 (0,0))
theorem Bx2.fr{B pb b0 b1 d:Nat}(w w':World)(h:Bx2 pb b0 b1 d w)(hF:Fr B w w'):Bx2 pb b0 b1 d w':=⟨hF.cells h.1 (by decide),hF.cells h.2 (by decide)⟩
theorem clos_T{B M:Nat}{pb:Nat}{all:List Tk}(k d:Nat)(hd64:d≤64)
  (HT:∀w ts told,PS B M w pb all ts told→Calls Tryz.prog 43 #[.pointer (some ⟨pb,0,none⟩),.int .i64 ((d+1:Nat):Int)] w (Post B M w pb all told (vT w.heap.size) (typ k ts)))
  (b0 b1:Nat) (w:World) (ts:List Tk) (told:List Dn) (h:PS B M w pb all ts told) (hb:Bx2 pb b0 b1 d w) :
  Calls Tryz.prog 191 #[.pointer (some ⟨b0,0,none⟩),.pointer (some ⟨b1,0,none⟩)] w (Post B M w pb all told (vT w.heap.size) (typ k ts)):=by
 have HT:=Hd HT;have HPB:=Hd h.lt;have P0:=Hd (h.alloc zT);have A0:=Hd (show (w.alloc zT).heap[w.heap.size]?=some zT from hN w zT);have F0:=Hd ((Fr.refl B w).alloc zT);obtain⟨h0,h1⟩:=hb;have c0:w.cell? ⟨b0,0,none⟩=some (.pointer (some ⟨pb,0,none⟩)):=by simp[World.cell?,h0]
 have c1:w.cell? ⟨b1,0,none⟩=some (.int .i64 d):=by simp[World.cell?,h1]
 have l0:b0<w.heap.size:=(gE h0).1;have l1:b1<w.heap.size:=(gE h1).1;have m0:¬b0=w.heap.size:=Nat.ne_of_lt l0;have m1:¬b1=w.heap.size:=Nat.ne_of_lt l1;clear h h0 h1;obtain⟨res,hres⟩:=eX (typ k ts);rw[←hres];have HQ:=Hd hres;clear hres;have HD:=Hd (show ((d:Int)+1)=((d+1:Nat):Int) by omega);go_enter Tryz.func191,Tryz.ntmps191
 go_wp2_with fail
 rw[HD.out];refine (HT.out _ _ _ P0.out).mono ?_;rintro e w9 ⟨f9,h9⟩;cases hr:typ k ts with
 | bad y rest ds=>
  rw[hr] at h9;obtain⟨rfl,p9⟩:=h9;go_wp2_with fail
  exact Zap rfl (.bad (HQ.out.trans hr) (F0.out.trans f9) p9)
 | ok x rest ds=>
  have HW:=Hd (HQ.out.trans hr);rw[hr] at h9;obtain⟨⟨cs,rfl,hcs⟩,p9⟩:=h9;obtain⟨tk,tn,a2,n2,c2,a3,n3,c3,rfl⟩:=Zbq hcs;have hA9:=f9.cells A0.out (by decide);have F:=Hd (F0.out.trans f9);have P:=Hd p9;have C:=Hd hcs;obtain⟨⟨q0,q1,q2,q3⟩,u0,u1,u2,u3⟩:=Zae (t:=26) hA9;clear hr f9 p9 hcs;go_wp2_with fail
  exact Zkl rfl rfl rfl (Zam hA9 (vs:=[_,_,_,_]) rfl) (.ok HW.out (F.out.putL (nl _) [_,_,_,_]) ⟨[.int .i64 tk,.string tn,.slice a2 n2 c2,.slice a3 n3 c3],rfl,(C.out.mono (A':=fun b=>w.heap.size≤b∧b≠w.heap.size) (fun b _ hb=>by simp at hb;exact⟨by omega,by omega⟩)).putL _ (fun k hk=>hk.2) [_,_,_,_] |>.mono (fun b _ hb=>hb.1)⟩ (P.out.putL hA9 (by decide) HPB.out [_,_,_,_]))
abbrev bxP (pb:Nat):Obj:=.cells #[.pointer (some ⟨pb,0,none⟩)] 89
abbrev bxD (d:Nat):Obj:=.cells #[.int .i64 d] 3
theorem IsCs.setCell{A:Nat→Prop}{w:World}{l:List Dt}{xs:List Value}(h:IsCs A w l xs)(b i:Nat)(hA:∀k,A k→k≠b)(v:Value):IsCs A (w.setCell ⟨b,i,none⟩ v) l xs:=
 IsCs.kept (S:=fun k=>k=b) (by simp[World.setCell]) (fun k _ hk=>Below.heap_setCell w ⟨b,i,none⟩ v k hk) (fun k hk=>hA k hk) l xs h
theorem Zoa{B M:Nat}{pb:Nat}{all:List Tk}(hM:M≤10000000)(hall:∀t∈all,t.t.length≤1000000)(k d:Nat)(hd64:d≤64)
  (HT:∀w ts told,PS B M w pb all ts told→Calls Tryz.prog 43 #[.pointer (some ⟨pb,0,none⟩),.int .i64 ((d+1:Nat):Int)] w (Post B M w pb all told (vT w.heap.size) (typ k ts)))
  (w:World) (ts:List Tk) (told:List Dn) (h:PS B M w pb all ts told) :
  Calls Tryz.prog 166 #[.pointer (some ⟨pb,0,none⟩),.int .i64 d] w (Post B M w pb all told (vT w.heap.size) ((Zbh [58] (typ k) ts).bind fun fs r=>.ok (recT fs) r [])):=by
 have HPB:=Hd h.lt;have HLEN:=Hd h.len;obtain⟨W0,hW0⟩:=eY (((w.alloc (bxP pb)).alloc (bxD d)).alloc zT);have HS0:=Hd (show W0.heap.size=w.heap.size+3 by rw[←hW0];simp);have HC:=fun (w':World) ts' told' hp hb=>clos_T k d hd64 HT w.heap.size (w.heap.size+1) w' ts' told' hp hb
 have hb0:Bx2 pb w.heap.size (w.heap.size+1) d W0:=by
  rw[←hW0];refine⟨Zab (Zab (hN w _) _) _,Zab ?_ _⟩;have:=hN (w.alloc (bxP pb)) (bxD d)
  simpa using this
 have HA0:=Hd (show W0.heap[w.heap.size+2]?=some zT by
  rw[←hW0];have:=hN ((w.alloc (bxP pb)).alloc (bxD d)) zT
  simpa using this)
 have HF0:=Hd (show Fr B w W0 by rw[←hW0];exact (((Fr.refl B w).alloc _).alloc _).alloc _);have hp0:PS B M W0 pb all ts told:=by rw[←hW0];exact ((h.alloc _).alloc _).alloc _
 have HCALL:=Hd (ZmL hM hall [58] (typ k) (Zcz k).1 w.heap.size (w.heap.size+1) (Bx2 pb w.heap.size (w.heap.size+1) d) Bx2.fr HC W0 ts told hp0 hb0);have hc0:W0.cell? ⟨w.heap.size,0,none⟩=some (.pointer (some ⟨pb,0,none⟩)):=by simp[World.cell?,hb0.1]
 have HW0:=Hd hW0;clear h hp0 hb0 HC hW0 hM hall;obtain⟨res,hres⟩:=eX ((Zbh [58] (typ k) ts).bind fun fs r=>.ok (recT fs) r []);rw[←hres];have HQ:=Hd hres;clear hres;go_enter Tryz.func166,Tryz.ntmps166
 go_upto_region 1 with fail
 rw[HW0.out];go_wp2_with fail
 refine HCALL.out.mono ?_;rintro e w1 ⟨f1,h1⟩;cases hr:Zbh [58] (typ k) ts with
 | bad y rest ds=>
  rw[hr] at h1;obtain⟨rfl,p1⟩:=h1;go_wp2_with fail
  exact Zap rfl (.bad (HQ.out.trans (by rw[hr,R.bind_bad])) (HF0.out.trans f1) p1)
 | ok fs rest ds=>
  have HND:=Hd (Zdo hr);have HFL:=Hd (ZgR (Zcz k).1 hr);rw[hr] at h1;obtain⟨⟨v,xs,rfl,hrow,hown,hcs⟩,p1⟩:=h1;have HW:=Hd (HQ.out.trans (by rw[hr,R.bind_ok,R.tell_ok,List.append_nil]));have P1:=Hd p1;have F1:=Hd (HF0.out.trans f1);have A1:=Hd (f1.cells HA0.out (by decide));have Z1:=Hd (show w.heap.size+3≤w1.heap.size by have:=f1.size;have:=HS0.out;omega);have HN:=Hd (show fs.length≤1000000 by have:=HFL.out;have:=HLEN.out.1;omega);have HS:=Hd (Zl3 w1 fs v xs hrow hcs (fun b hb=>hb.2) HN.out HND.out);have OW:=Hd hown;have RW:=Hd hrow;clear hr f1 p1 hrow hown hcs hc0 HCALL;go_wp2_with fail
  refine HS.out.mono ?_;rintro e w2 ⟨rfl,hg2,xs2,hr2,hc2⟩;have P2:=Hd ((P1.out.grown RW.out (by decide) (fun b hb=>by have:=OW.out b hb;have:=HPB.out;have:=HS0.out;omega) hg2).alloc (.cells #[.int .i64 5,.string ⟨#[]⟩,.slice none 0 0,.slice none 0 0] 26));have F2:=Hd ((F1.out.grownNew hg2 (fun b hb=>by have:=OW.out b hb;have:=HS0.out;omega)).alloc (.cells #[.int .i64 5,.string ⟨#[]⟩,.slice none 0 0,.slice none 0 0] 26));have A2:=Hd (Zab (Za5 A1.out hg2 (fun e=>by have:=OW.out _ e.symm;have:=HS0.out;omega)) (.cells #[.int .i64 5,.string ⟨#[]⟩,.slice none 0 0,.slice none 0 0] 26));have Z2:=Hd (show w.heap.size+3≤w2.heap.size by have:=hg2.size;have:=Z1.out;omega);have HS2:=Hd (ZnV (A:=fun b=>W0.heap.size≤b∧b≠w2.heap.size) (w2.alloc (.cells #[.int .i64 5,.string ⟨#[]⟩,.slice none 0 0,.slice none 0 0] 26)) (Zb1 fs) v xs2 (by rw[Zej];exact hr2.alloc _) ((hc2.mono (A':=fun b=>W0.heap.size≤b∧b≠w2.heap.size) (fun b hb hb'=>⟨hb'.1,Nat.ne_of_lt hb⟩)).below ((Below.refl _ _).alloc (nl _) _)) (by rw[Zej];exact HN.out));clear hg2 hr2 hc2 HS P1 F1 A1 RW OW;go_wp2_with fail
  refine HS2.out.mono ?_;rintro e w4 ⟨b4,vn,vv,rfl,hcs⟩;obtain⟨n1,hn1⟩:=eX (((Zb1 fs).map (·.1)).length);obtain⟨m1,hm1⟩:=eX (((Zb1 fs).map (·.2)).length);obtain⟨x0,ys,e0,k0,hcs'⟩:=hcs.uncons;obtain⟨x1,ys',e1,k1,-⟩:=hcs'.uncons;obtain⟨a2,c2,e2⟩:=Zbb k0;obtain⟨a3,c3,e3⟩:=Zbb k1;cases e0;cases e1;subst e2 e3;rw[←hn1,←hm1] at hcs⊢;have C4:=Hd hcs;have P4:=Hd (P2.out.below b4);have F4:=Hd (F2.out.below b4);have hA4:Fou w4 (w.heap.size+2) 26 _ _ _ _:=(b4.block _ (by simp;have:=Z2.out;omega)).trans A2.out;have hB4:Fou w4 w2.heap.size 26 _ _ _ _:=(b4.block _ (by simp)).trans (hN w2 (.cells #[.int .i64 5,.string ⟨#[]⟩,.slice none 0 0,.slice none 0 0] 26));have Z4:=Hd (show w2.heap.size+1≤w4.heap.size by have:=b4.size;simpa using this);obtain⟨⟨q0,q1,q2,q3⟩,u0,u1,u2,u3⟩:=Zae hB4;have hne:¬w.heap.size+2=w2.heap.size:=by have:=Z2.out;omega
  have hne':¬w2.heap.size=w.heap.size+2:=by omega
  have HA4:=Hd hA4;have HB4:=Hd hB4;have HA5:=Hd (show ((w4.setCell ⟨w2.heap.size,2,none⟩ (.slice a2 n1 c2)).setCell ⟨w2.heap.size,3,none⟩ (.slice a3 m1 c3)).heap[w.heap.size+2]?=some zT from (Below.heap_setCell _ _ _ _ hne).trans ((Below.heap_setCell _ _ _ _ hne).trans HA4.out));have HTH:=Hd (Zaf HA5.out rfl);have HN1:=Hd hn1;have HM1:=Hd hm1;clear hcs hcs' k0 k1 b4 hA4 hB4 hn1 hm1;go_wp2_with (first | (refine Zaa rfl 26 (.tmp 4) (.tmp 20) rfl (w.heap.size+2) _ rfl rfl HTH.out Zc8 (all_oneCell_toArray (by simp[Value.oneCell'])) ?_;intro W9 hW9))
  have e9:W9=putL ((w4.setCell ⟨w2.heap.size,2,none⟩ (.slice a2 n1 c2)).setCell ⟨w2.heap.size,3,none⟩ (.slice a3 m1 c3)) (w.heap.size+2) [.int .i64 5,.string ⟨#[]⟩,.slice a2 n1 c2,.slice a3 m1 c3]:=hW9.out;subst e9;have ee:encT 26 (recT fs)=[.num 5,.str [],.row 9 1 n1 (List.map Dt.str (List.map (fun x=>x.fst) (Zb1 fs))),.row 26 4 m1 (Zau 26 (List.map (fun x=>x.snd) (Zb1 fs)))]:=by rw[HN1.out,HM1.out];rfl
  have c5:=((C4.out.mono (A':=fun b=>W0.heap.size≤b∧b≠w2.heap.size) (fun b _ hb=>by
   rcases hb with hb | hb
   ·exact hb.1
   ·simp at hb;have:=Z2.out;have:=HS0.out
    exact⟨by omega,by omega⟩)).setCell w2.heap.size 2 (fun b hb=>hb.2) (.slice a2 n1 c2)).setCell w2.heap.size 3 (fun b hb=>hb.2) (.slice a3 m1 c3)
  have c6:IsCs (fun b=>w.heap.size+2<b) ((w4.setCell ⟨w2.heap.size,2,none⟩ (.slice a2 n1 c2)).setCell ⟨w2.heap.size,3,none⟩ (.slice a3 m1 c3)) (encT 26 (recT fs)) [.int .i64 5,.string ⟨#[]⟩,.slice a2 n1 c2,.slice a3 m1 c3]:=ee▸.cons (.num _ _ _) (.cons (.str _ _ _) (c5.mono (A':=fun b=>w.heap.size+2<b) (fun b _ hb=>by have:=HS0.out;have:=hb.1;omega)));have f5:=(F4.out.setNew (b:=w2.heap.size) (i:=2) (by have:=Z2.out;omega) (.slice a2 n1 c2)).setNew (b:=w2.heap.size) (i:=3) (by have:=Z2.out;omega) (.slice a3 m1 c3);have hb5:=heap_setCell_same w4 w2.heap.size 2 _ _ (.slice a2 n1 c2) HB4.out;have hpl:pb<w2.heap.size:=by have:=HPB.out;have:=Z2.out;omega
  have p5:=(P4.out.setNew HB4.out (by decide) hpl 2 (.slice a2 n1 c2)).setNew hb5 (by decide) hpl 3 (.slice a3 m1 c3);exact Zkl rfl rfl rfl (Zam (vs:=[.int .i64 5,.string ⟨#[]⟩,.slice a2 n1 c2,.slice a3 m1 c3]) HA5.out rfl) (.ok HW.out (f5.putL (by omega) _) ⟨_,rfl,(c6.putL _ (fun b hb=>Nat.ne_of_gt hb) _).mono (fun b _ hb=>by omega)⟩ (p5.putL HA5.out (by decide) (by have:=HPB.out;omega) _))
end Go.Proofs.YtijnjoonbjdafaaGreatDoor

import Derived.Test.YtmlgajhhnojdjaaGreatDoorRBC
import Derived.Shelf.Strconv.Itoa4
import Derived.Shelf.Strings.OnBuilder
import Derived.Lib.ItoaLen
namespace Go.Proofs.YtmlgajhhnojdjaaGreatDoor
namespace RefZf
open Go.RowKit Sq RefM RefZe Aux
theorem y9 {text:B}{raw:Bool}{c k:Nat}(h:aK text raw=(none,c,k)):1<=c/\c<=4:=by
 unfold aK at h;split at h
 ·simp only[Prod.mk.injEq]at h;omega
 ·split at h
  ·simp only[Prod.mk.injEq]at h;omega
  ·split at h
   ·simp only[Prod.mk.injEq]at h;omega
   ·split at h
    ·simp only[Prod.mk.injEq]at h;omega
    ·split at h
     ·simp only[Prod.mk.injEq]at h;omega
     ·cases h
def qx (text:B)(w:World)(e:Ending)(w':World):Prop:=
 Below w.heap.size w w'/\((∃c k:Nat,aK text false=(none,c,k)/\e=.returned (.tuple #[.pointer none,.int .i64 (c:Int),.int .i64 (k:Int)]))\/
  ∃p L,aK text false=(some p,0,0)/\p.iT L/\((0<=p.cW L p.lines.length 0/\e=.returned (.tuple #[.pointer none,.int .i64 5,.int .i64 (p.cW L p.lines.length 0)]))\/
   (p.cW L p.lines.length 0<0/\∃a,e=.returned (.tuple #[.pointer (some ⟨a,0,none⟩),.int .i64 0,.int .i64 0])/\bf w' a p/\p.Ok/\w.heap.size<=a)))
set_option maxRecDepth 20000 in
set_option maxHeartbeats 1000000 in
theorem FY (text:B)(w:World)(h:text.length<=1099511627776):Calls Tryz.prog 34 #[.string (bs text)] w (qx text w):=by
 have Ud:=S5 text false w h;go_enter Tryz.func34,Tryz.ntmps34
 cases hr:aK text false with
 |mk op ck=>
  obtain⟨c,k⟩:=ck;cases op with
  |none=>
   obtain⟨kq,oa⟩:=y9 hr;have FC:((c:Int)==0)=false:=by simp;omega
   have HR:Hid (_=_):=hr;go_wp2_with (go_at_call 46;refine Ud.mono ?_;rintro e w1 ⟨aw,v,rfl,hv⟩;rw[HR.out]at hv;obtain⟨-,rfl⟩:True/\v=.pointer none:=(by rcases hv with⟨-,hv⟩|⟨p,a,hp,-⟩;exact⟨trivial,hv⟩;cases hp);have tQ:Hid (Below w.heap.size w w1):=aw;simp only[HR.out])
   go_ret3
   exact⟨tQ.out,.inl ⟨c,k,HR.out,rfl⟩⟩
  |some p=>
   obtain⟨hg,rfl,rfl,-⟩:=jz hr;have HR:Hid (_=_):=hr;have HG:Hid (_):=hg;clear hr hg;go_upto_region 4 with(go_at_call 46;refine Ud.mono ?_;rintro e w1 ⟨aw,v,rfl,hv⟩;rw[HR.out]at hv;obtain⟨a,rfl,cf,hinv⟩:∃a,v=.pointer (some ⟨a,0,none⟩)/\Hid p.Ok/\Hid (∃vl vt vb us,j9 w.heap.size a w1 p vl vt vb us):=(by rcases hv with⟨hv,-⟩|⟨p',a,hp,hv,ho,hi⟩;(cases hv);(cases hp;exact⟨a,hv,ho,hi⟩));have tQ:Hid (Below w.heap.size w w1):=aw;clear hv aw;simp only[HR.out])
   have hA:Hid (bf w1 a p/\w.heap.size<=a):=by obtain⟨vl,vt,vb,us,hi⟩:=hinv.out;exact⟨hi.yc cf.out.words,hi.base⟩
   have HU:=VU text p a w1 ⟨hA.out.1,cf.out,HG.out⟩;go_cut [8] (fun v8 wc=>(∃L,Hid (p.iT L)/\v8=.int .i64 (p.cW L p.lines.length 0))/\Hid (Below w1.heap.size w1 wc))
   case first=>
    go_wp2_with (go_at_call 52;refine HU.mono ?_;rintro e w2 ⟨⟨L,hL,rfl⟩,bU⟩;have HL:Hid (_):=hL;have HB:Hid (_):=bU;clear hL bU)
    go_meet
    case rel=>exact⟨⟨L,HL,rfl⟩,HB⟩
   case rest=>
    obtain⟨⟨L,HL,rfl⟩,HB⟩:=hcut;clear HU Ud;obtain⟨fa,kZ⟩:∃fa,p.cW L p.lines.length 0=fa:=⟨_,rfl⟩;rw[kZ];have HFA:Hid (_=_):=kZ;clear kZ;have Y6:Hid (Below w.heap.size w wc):=tQ.out.trans (HB.out.mono tQ.out.size);by_cases h0:0<=fa
    ·go_wp2
     go_ret3
     exact⟨Y6.out,.inr ⟨p,L,HR.out,HL.out,.inl ⟨by rw[HFA.out];exact h0,by rw[HFA.out];rfl⟩⟩⟩
    ·go_wp2
     go_ret3
     exact⟨Y6.out,.inr ⟨p,L,HR.out,HL.out,.inr ⟨by rw[HFA.out];omega,a,rfl,hA.out.1.below HB.out,cf.out,hA.out.2⟩⟩⟩
end RefZf
namespace FlwZb
open Go Go.RowKit Sq Aux PrjF PrjG PrjJ PrjK PrjM PrjW PrjX RefM RefZf FlwP FlwQ FlwV FlwY FlwZ FlwZa
theorem QD {text:B}{w w':World}{e:Ending}(h:qx text w e w'):Below w.heap.size w w'/\∃v c k,e=.returned (.tuple #[v,.int .i64 c,.int .i64 k])/\∀c' k',mg text c' k'->c'=c/\k'=k:=by
 obtain⟨hb,⟨c,k,h1,rfl⟩|⟨p,L,h1,hL,⟨h2,rfl⟩|⟨h2,a,rfl,-⟩⟩⟩:=h
 ·refine⟨hb,_,_,_,rfl,fun c' k' ha=> ?_⟩;rcases ha with⟨c2,k2,-,h3,rfl,rfl⟩|⟨p,q,E,h3,-⟩
  ·rw[h1]at h3;cases h3;exact⟨rfl,rfl⟩
  ·rw[h1]at h3;cases h3
 ·refine⟨hb,_,_,_,rfl,fun c' k' ha=> ?_⟩;rcases ha with⟨c2,k2,-,h3,-⟩|⟨p',q,E,h3,-,hD,⟨n,h4,rfl,rfl⟩|⟨h4,rfl,rfl⟩⟩
  ·rw[h1]at h3;cases h3
  ·rw[h1]at h3;cases h3;rw[hD.same hL,h4];exact⟨rfl,rfl⟩
  ·rw[h1]at h3;cases h3;rw[hD.same hL,h4]at h2;exact absurd h2 (by decide)
 ·refine⟨hb,_,_,_,rfl,fun c' k' ha=> ?_⟩;rcases ha with⟨c2,k2,-,h3,-⟩|⟨p',q,E,h3,-,hD,⟨n,h4,rfl,rfl⟩|⟨h4,rfl,rfl⟩⟩
  ·rw[h1]at h3;cases h3
  ·rw[h1]at h3;cases h3;rw[hD.same hL,h4]at h2;have:(0:Int)<=FlwX.asInt (some n):=by show(0:Int)<=(n:Int);omega
   omega
  ·exact⟨rfl,rfl⟩
end FlwZb
end Go.Proofs.YtmlgajhhnojdjaaGreatDoor
namespace Go.Proofs
open Go.Shelf
def Tryz.yX:Go.Shelf.Ren:=⟨fun|156=>83|165=>135|166=>136|169=>137|240=>184|241=>185|276=>216|277=>217|n=>n,fun|31=>34|9=>9|3=>3|4=>4|0=>0|20=>20|72=>219|76=>222|70=>217|37=>93|75=>221|127=>257|164=>286|5=>5|80=>82|n=>n,fun|n=>n⟩
theorem Tryz.MZ:Go.Proofs.Lays.n156 Tryz.prog Tryz.yX:={
 mixed:=by kernel_rfl
 f156:=Tryz.func83.trans (congrArg some (by kernel_rfl))
 f165:=Tryz.func135.trans (congrArg some (by kernel_rfl))
 f166:=Tryz.func136.trans (congrArg some (by kernel_rfl))
 f169:=Tryz.func137.trans (congrArg some (by kernel_rfl))
 f240:=Tryz.func184.trans (congrArg some (by kernel_rfl))
 f241:=Tryz.func185.trans (congrArg some (by kernel_rfl))
 f276:=Tryz.func216.trans (congrArg some (by kernel_rfl))
 f277:=Tryz.func217.trans (congrArg some (by kernel_rfl))
 t0:=Tryz.underlying0
 a0:=Tryz.isAgg0
 z0:=Tryz.sizeOf0
 v0:=Tryz.zeroValue0
 t3:=Tryz.underlying3
 a3:=Tryz.isAgg3
 z3:=Tryz.sizeOf3
 v3:=Tryz.zeroValue3
 t4:=Tryz.underlying4
 a4:=Tryz.isAgg4
 z4:=Tryz.sizeOf4
 v4:=Tryz.zeroValue4
 t9:=Tryz.underlying9
 a9:=Tryz.isAgg9
 z9:=Tryz.sizeOf9
 v9:=Tryz.zeroValue9
 t20:=Tryz.underlying20
 a20:=Tryz.isAgg20
 z20:=Tryz.sizeOf20
 v20:=Tryz.zeroValue20
 t31:=Tryz.underlying34
 a31:=Tryz.isAgg34
 z31:=Tryz.sizeOf34
 v31:=Tryz.zeroValue34
 t37:=Tryz.underlying93
 a37:=Tryz.isAgg93
 z37:=Tryz.sizeOf93
 v37:=Tryz.zeroValue93
 t70:=Tryz.underlying217
 a70:=Tryz.isAgg217
 z70:=Tryz.sizeOf217
 v70:=Tryz.zeroValue217
 t72:=Tryz.underlying219
 a72:=Tryz.isAgg219
 z72:=Tryz.sizeOf219
 v72:=Tryz.zeroValue219
 t75:=Tryz.underlying221
 a75:=Tryz.isAgg221
 z75:=Tryz.sizeOf221
 v75:=Tryz.zeroValue221
 t76:=Tryz.underlying222
 a76:=Tryz.isAgg222
 z76:=Tryz.sizeOf222
 v76:=Tryz.zeroValue222
 t127:=Tryz.underlying257
 a127:=Tryz.isAgg257
 z127:=Tryz.sizeOf257
 v127:=Tryz.zeroValue257
 t164:=Tryz.underlying286
 a164:=Tryz.isAgg286
 z164:=Tryz.sizeOf286
 v164:=Tryz.zeroValue286}
theorem Tryz.mT:Builder.Extra Tryz.prog Tryz.yX:={
 sizeBuilder:=by kernel_rfl
 liesBuilder:=by kernel_rfl
 t5:=Tryz.underlying5
 a5:=Tryz.isAgg5
 z5:=Tryz.sizeOf5
 v5:=Tryz.zeroValue5
 infoByte:=by kernel_rfl
 cellsByte:=by kernel_rfl
 sizeByte:=by kernel_rfl
 neB5:=by decide}
open Go.RowKit in
theorem Tryz.strings_Join_none (a:Option Addr)(c:Nat)(sep:ByteArray)(w:World):
  Calls Tryz.prog 83 #[.slice a 0 c,.string sep] w fun e w'=>e=.returned (.string ⟨#[]⟩)/\w'=w:=Any.strings_Join_none Tryz.MZ Tryz.mT a c sep w
open Go.RowKit in
theorem Tryz.strings_Join (bk o c:Nat)(xs:List ByteArray)(sep:ByteArray)(w:World)(Es:∀(j:Nat) x,xs[j]?=some x->w.cell? ⟨bk,o+j,none⟩=some (.string x))(Rm:bk<w.heap.size)(hN:xs.length<=140737488355328)(kM:xs.length<=c)(hlen:(Lib.join (xs.map (·.data.toList)) sep.data.toList).length<=140737488355328):
  Calls Tryz.prog 83 #[.slice (some ⟨bk,o,none⟩) xs.length c,.string sep] w fun e w'=>e=.returned (.string ⟨(Lib.join (xs.map (·.data.toList)) sep.data.toList).toArray⟩)/\Below w.heap.size w w':=Any.strings_Join Tryz.MZ Tryz.mT bk o c xs sep w Es Rm hN kM hlen
def Tryz.EI:Go.Shelf.Ren:=⟨fun|173=>133|246=>182|283=>212|284=>213|285=>214|286=>215|129=>232|317=>231|318=>233|319=>234|320=>235|337=>242|338=>243|n=>n,fun|2=>2|3=>3|9=>9|4=>4|171=>90|0=>0|53=>281|37=>93|5=>5|173=>284|212=>299|51=>300|20=>20|213=>301|46=>292|232=>313|233=>314|n=>n,fun|17=>4|18=>7|19=>8|n=>n⟩
theorem Tryz.R8:Go.Proofs.LaysM.n173 Tryz.prog Tryz.EI:={
 mixed:=by kernel_rfl
 f129:=Tryz.func232.trans (congrArg some (by kernel_rfl))
 f173:=Tryz.func133.trans (congrArg some (by kernel_rfl))
 f246:=Tryz.func182.trans (congrArg some (by kernel_rfl))
 f283:=Tryz.func212.trans (congrArg some (by kernel_rfl))
 f284:=Tryz.func213.trans (congrArg some (by kernel_rfl))
 f285:=Tryz.func214.trans (congrArg some (by kernel_rfl))
 f286:=Tryz.func215.trans (congrArg some (by kernel_rfl))
 f317:=Tryz.func231.trans (congrArg some (by kernel_rfl))
 f318:=Tryz.func233.trans (congrArg some (by kernel_rfl))
 f319:=Tryz.func234.trans (congrArg some (by kernel_rfl))
 f320:=Tryz.func235.trans (congrArg some (by kernel_rfl))
 f337:=Tryz.func242.trans (congrArg some (by kernel_rfl))
 f338:=Tryz.func243.trans (congrArg some (by kernel_rfl))
 t0:=Tryz.underlying0
 a0:=Tryz.isAgg0
 z0:=Tryz.sizeOf0
 v0:=Tryz.zeroValue0
 t2:=Tryz.underlying2
 a2:=Tryz.isAgg2
 z2:=Tryz.sizeOf2
 v2:=Tryz.zeroValue2
 t3:=Tryz.underlying3
 a3:=Tryz.isAgg3
 z3:=Tryz.sizeOf3
 v3:=Tryz.zeroValue3
 t4:=Tryz.underlying4
 a4:=Tryz.isAgg4
 z4:=Tryz.sizeOf4
 v4:=Tryz.zeroValue4
 t5:=Tryz.underlying5
 a5:=Tryz.isAgg5
 z5:=Tryz.sizeOf5
 v5:=Tryz.zeroValue5
 t9:=Tryz.underlying9
 a9:=Tryz.isAgg9
 z9:=Tryz.sizeOf9
 v9:=Tryz.zeroValue9
 t20:=Tryz.underlying20
 a20:=Tryz.isAgg20
 z20:=Tryz.sizeOf20
 v20:=Tryz.zeroValue20
 t37:=Tryz.underlying93
 a37:=Tryz.isAgg93
 z37:=Tryz.sizeOf93
 v37:=Tryz.zeroValue93
 t46:=Tryz.underlying292
 a46:=Tryz.isAgg292
 z46:=Tryz.sizeOf292
 v46:=Tryz.zeroValue292
 t51:=Tryz.underlying300
 a51:=Tryz.isAgg300
 z51:=Tryz.sizeOf300
 v51:=Tryz.zeroValue300
 t53:=Tryz.underlying281
 a53:=Tryz.isAgg281
 z53:=Tryz.sizeOf281
 v53:=Tryz.zeroValue281
 t171:=Tryz.underlying90
 a171:=Tryz.isAgg90
 z171:=Tryz.sizeOf90
 v171:=Tryz.zeroValue90
 t173:=Tryz.underlying284
 a173:=Tryz.isAgg284
 z173:=Tryz.sizeOf284
 v173:=Tryz.zeroValue284
 t212:=Tryz.underlying299
 a212:=Tryz.isAgg299
 z212:=Tryz.sizeOf299
 v212:=Tryz.zeroValue299
 t213:=Tryz.underlying301
 a213:=Tryz.isAgg301
 z213:=Tryz.sizeOf301
 t232:=Tryz.underlying313
 a232:=Tryz.isAgg313
 z232:=Tryz.sizeOf313
 v232:=Tryz.zeroValue313
 t233:=Tryz.underlying314
 a233:=Tryz.isAgg314
 z233:=Tryz.sizeOf314
 v233:=Tryz.zeroValue314
 g17:=by kernel_rfl
 g18:=by kernel_rfl
 g19:=by kernel_rfl
 i0:=by kernel_rfl
 i2:=by kernel_rfl
 i3:=by kernel_rfl
 i4:=by kernel_rfl
 i5:=by kernel_rfl
 i9:=by kernel_rfl
 i20:=by kernel_rfl
 i37:=by kernel_rfl
 i46:=by kernel_rfl
 i51:=by kernel_rfl
 i53:=by kernel_rfl
 i171:=by kernel_rfl
 i173:=by kernel_rfl
 i212:=by kernel_rfl
 i232:=by kernel_rfl
 i233:=by kernel_rfl
 m17:=by kernel_rfl
 m18:=by kernel_rfl
 m19:=by kernel_rfl}
open Go.RowKit Go.Sort Go.Lib in
theorem Tryz.strconv_FormatInt_10 (n:Int)(h0: -9223372036854775808<=n)(h1:n<=9223372036854775807)(w:World)(htab:Lib.TabIs Tryz.prog w "internal/strconv.uint64pow10" .u64 Lib.pow10Tab):
  Calls Tryz.prog 133 #[.int .i64 n,.int .i64 10] w fun e w'=>e=.returned (.string ⟨(Lib.itoa n).toArray⟩)/\∃k os,w'=grow (w.drewN k) os:=Any.strconv_FormatInt_10 Tryz.R8 n h0 h1 w htab
end Go.Proofs
namespace Go.Proofs.YtmlgajhhnojdjaaGreatDoor
namespace Own
open Go Go.RowKit Sq Aux PrjJ PrjK PrjL PrjM
def Pow (w:World):Prop:=Lib.TabIs Tryz.prog w "internal/strconv.uint64pow10" .u64 Lib.pow10Tab
structure Yd where
 made:List (Int×Bool)
 live:Int
 trace:List B
def Yd.note (y:Yd)(c:UInt8)(n:Int):Yd:={y with trace:=y.trace++[c::Lib.itoa n]}
def py (x:Int×Bool):List Value:=[.int .i64 x.1,.bool x.2]
def bH (l:List (Int×Bool)):List Value:=l.flatMap py
def xp (l:List B):List Value:=l.map fun b=> .string (bs b)
def ED (t:TypeId):Prop:=t=104\/t=136
structure oB (z x:Nat)(t:TypeId)(rest:List Value)(w:World)(y:Yd)(vm vt:Value):Prop where
 base:z<=x
 ty:ED t
 aJ:w.heap[x]?=some (.cells (vm:: .int .i64 y.live::vt::rest).toArray t (0,0))
 made:w.ownsRow z 175 2 vm y.made.length (bH y.made)
 trace:w.ownsRow z 9 1 vt y.trace.length (xp y.trace)
structure aN (x:Nat)(vm vt:Value)(w:World)(vm' vt':Value)(w':World):Prop where
 os:w'.os=w.os
 tape:w'.tape=w.tape
 output:w'.output=w.output
 size:w.heap.size<=w'.heap.size
 block:∀k,k<w.heap.size->k≠x->vm.ownBlock≠some k->vt.ownBlock≠some k->w'.heap[k]?=w.heap[k]?
 fm:∀b,vm'.ownBlock=some b->vm.ownBlock=some b\/w.heap.size<=b
 ft:∀b,vt'.ownBlock=some b->vt.ownBlock=some b\/w.heap.size<=b
section
variable {z x:Nat} {t:TypeId} {rest:List Value} {w w1 w2 w3:World} {y:Yd} {vm vt vm1 vt1 vm2 vt2 v':Value}
theorem aN.refl (x:Nat)(vm vt:Value)(w:World):aN x vm vt w vm vt w:=⟨rfl,rfl,rfl,jC _,fun _ _ _ _ _=>rfl,fun _ h=> .inl h,fun _ h=> .inl h⟩
theorem aN.trans (h:aN x vm vt w vm1 vt1 w1)(h':aN x vm1 vt1 w1 vm2 vt2 w2):aN x vm vt w vm2 vt2 w2:=by
 refine⟨h'.os.trans h.os,h'.tape.trans h.tape,h'.output.trans h.output,jS h.size h'.size,fun k hk h1 h2 h3=> ?_,fun b hb=> ?_,fun b hb=> ?_⟩
 ·refine(h'.block k (jK hk h.size) h1 (fun e=> ?_) (fun e=> ?_)).trans (h.block k hk h1 h2 h3)
  ·rcases h.fm k e with e'|e'
   ·exact h2 e'
   ·omega
  ·rcases h.ft k e with e'|e'
   ·exact h3 e'
   ·omega
 ·rcases h'.fm b hb with e|e
  ·exact h.fm b e
  ·exact .inr (jS h.size e)
 ·rcases h'.ft b hb with e|e
  ·exact h.ft b e
  ·exact .inr (jS h.size e)
theorem aN.of (h:Below w.heap.size w w1):aN x vm vt w vm vt w1:=⟨h.os,h.tape,h.output,h.size,fun k hk _ _ _=>h.block k hk,fun _ h=> .inl h,fun _ h=> .inl h⟩
theorem oB.lt (h:oB z x t rest w y vm vt):x<w.heap.size:=lt_of_heap h.aJ
theorem oB.below (h:oB z x t rest w y vm vt)(hb:Below w.heap.size w w1):oB z x t rest w1 y vm vt:=
 ⟨h.base,h.ty,by rw[hb.block x h.lt];exact h.aJ,ay h.made hb,ay h.trace hb⟩
theorem ED.ne (h:ED t):175≠t/\9≠t:=by
 rcases h with rfl|rfl<;>decide
theorem aN.below (h:aN x vm vt w vm1 vt1 w1)(hy:oB z x t rest w y vm vt){b:Nat}(hb:b<=z)(hs:b<=w.heap.size):Below b w w1:=by
 refine⟨h.os,h.tape,h.output,h.size,fun k hk=>h.block k (by omega) (by have:=hy.base;omega) (fun e=> ?_) (fun e=> ?_)⟩
 ·have:=(hy.made.lt k e).1;omega
 ·have:=(hy.trace.lt k e).1;omega
theorem oB.facts (h:oB z x t rest w y vm vt):w.cell? ⟨x,0,none⟩=some vm/\w.cell? ⟨x,1,none⟩=some (.int .i64 y.live)/\w.cell? ⟨x,2,none⟩=some vt/\w.frozen? ⟨x,0,none⟩=false/\w.frozen? ⟨x,1,none⟩=false/\w.frozen? ⟨x,2,none⟩=false:=
 ⟨by rw[cell_of_heap h.aJ];simp,by rw[cell_of_heap h.aJ];simp,by rw[cell_of_heap h.aJ];simp,frozen_of_heap h.aJ 0,frozen_of_heap h.aJ 1,frozen_of_heap h.aJ 2⟩
theorem oB.noted (h:oB z x t rest w y vm vt)(h2:Below w.heap.size w w2){l:B}(h3:w3.ownsRow z 9 1 v' (y.trace.length+1) (xp y.trace++[.string (bs l)]))(hg:w2.grownBy w3 vt.ownBlock)
  (hf:∀b,v'.ownBlock=some b->vt.ownBlock=some b\/w2.heap.size<=b):
  oB z x t rest (w3.setCell ⟨x,2,none⟩ v') {y with trace:=y.trace++[l]} vm v'/\aN x vm vt w vm v' (w3.setCell ⟨x,2,none⟩ v'):=by
 have H:=h.below h2;obtain⟨n1,n2⟩:=h.ty.ne;have ec:some x≠vt.ownBlock:=bj H.trace H.aJ n2;have bV:w3.heap[x]?=some (.cells (vm:: .int .i64 y.live::vt::rest).toArray t (0,0)):=by rw[hg.block x H.lt ec];exact H.aJ
 have hm:=H.made.kept hg (da H.made H.trace (by decide));refine⟨⟨h.base,h.ty,?_,av hm _ (au hm bV n1),?_⟩,?_⟩
 ·rw[Aux.heap_setCell_same bV];simp
 ·have:=av h3 (a:=⟨x,2,none⟩) v' (au h3 bV n2);simpa [xp]using this
 ·refine⟨hg.os.trans h2.os,hg.tape.trans h2.tape,hg.output.trans h2.output,by simpa using jS h2.size hg.size,fun k hk h1 Oi Om=> ?_,fun _ h=> .inl h,fun b hb=> ?_⟩
  ·rw[Below.heap_setCell _ _ _ _ (by show k≠x;exact h1),hg.block k (jK hk h2.size) (fun e=>Om e.symm)];exact h2.block k hk
  ·rcases hf b hb with e|e
   ·exact .inl e
   ·exact .inr (jS h2.size e)
theorem JL (k:Nat)(os:Array Obj)(w:World):Below w.heap.size w (Go.Sort.grow (w.drewN k) os):=by
 have hd:=below_drewN (Below.refl w.heap.size w) k;refine⟨hd.os,hd.tape,hd.output,?_,fun j hj=> ?_⟩
 ·show w.heap.size<=((w.drewN k).heap++os).size
  rw[Array.size_append];have:=hd.size;omega
 ·show((w.drewN k).heap++os)[j]?=_
  rw[Array.getElem?_append_left (by have:=hd.size;omega)];exact hd.block j hj
theorem RX:(Tryz.prog.info? 9).map (fun i=>(i.zero,i.size,i.bytes))=some (some (.string ⟨#[]⟩),1,16):=by kernel_rfl
theorem RV:(Tryz.prog.info? 175).map (fun i=>(i.zero,i.size,i.bytes))=some (some (.agg #[.int .i64 0,.bool false]),2,16):=by kernel_rfl
theorem S3:Tryz.prog.globalNamed "internal/strconv.uint64pow10" =some 4:=by kernel_rfl
theorem Pow.below (h:Pow w){b:Nat}(hb:Below b w w1)(hs:11<=b):Pow w1:=by
 unfold Pow Lib.TabIs World.var? at h⊢;rw[S3]at h⊢;simp only[Option.bind_some]at h⊢;rw[hb.block _ (jK (by decide) hs)];exact h
set_option maxRecDepth 20000 in
set_option maxHeartbeats 2000000 in
theorem gd (h:oB z x t rest w y vm vt)(c:UInt8)(n:Int)(hn: -9223372036854775808<=n/\n<=9223372036854775807)(hp:Pow w)(hl:y.trace.length<=10000000):
  Calls Tryz.prog 98 #[.pointer (some ⟨x,0,none⟩),.string (bs [c]),.int .i64 n] w fun e w'=>∃vt',e=.returned (.tuple #[])/\oB z x t rest w' (y.note c n) vm vt'/\aN x vm vt w vm vt' w':=by
 obtain⟨c0,c1,c2,f0,f1,f2⟩:=h.facts;obtain⟨i,hi,A1,Ez,xX⟩:=info_parts RX;have hil:(Lib.itoa n).length<=21:=Lib.itoa_length_le n hn.1 hn.2;have hov:¬9223372036854775807<1+(Lib.itoa n).length:=by omega
 have KF:=fun w' (hp:Pow w')=>Tryz.strconv_FormatInt_10 n hn.1 hn.2 w' hp
 go_enter Tryz.func98,Tryz.ntmps98
 go_region_law (first
  |(go_simp;go_at_call 133;refine(KF w.drew hp).mono ?_;rintro e w1 ⟨rfl,hk⟩;have aw:Below w.heap.size w w1:=(by obtain⟨k,os,rfl⟩:=hk;have hb:=JL k os w.drew;exact⟨hb.os,hb.tape,hb.output,hb.size,hb.block⟩);clear hk;have H1:=h.below aw;obtain⟨d0,d1,d2,g0,g1,g2⟩:=H1.facts;have aY:Below w1.heap.size w1 (w1.alloc (.cells #[.string (bs [c]++⟨(Lib.itoa n).toArray⟩)] 9)):=(Below.refl _ _).alloc (jC _) _;have HA:=H1.below aY;obtain⟨a0,a1,a2,b0,b1,b2⟩:=HA.facts;have qu:z<=(w1.alloc (.cells #[.string (bs [c]++⟨(Lib.itoa n).toArray⟩)] 9)).heap.size:=(by have:=HA.lt;have:=HA.base;omega))
  |(refine rD (by rfl) _ _ _ (by rfl) z 9 i (.string ⟨#[]⟩) 1 16 Tryz.underlying34 hi A1 Ez xX (by rfl) (by decide) vt _ _ (by rfl) HA.trace w1.heap.size [.string (bs [c]++⟨(Lib.itoa n).toArray⟩)] (by rfl) jD (by rfl) (by intro u' hu;simp at hu;subst hu;rfl) (by decide) (by omega) qu ?_;intro g4 c4 w4 hown4 hgrow4 hat4 hlt4;have gK:w4.heap[x]?=_:=(hgrow4.block _ HA.lt (bj HA.trace HA.aJ HA.ty.ne.2)).trans HA.aJ;have r2:w4.cell? ⟨x,2,none⟩=some vt:=(by rw[cell_of_heap gK];simp);have rf2:w4.frozen? ⟨x,2,none⟩=false:=frozen_of_heap gK 2))
 all_goals go_wp2_with fail
 all_goals
  go_end0
  have e:bs [c]++⟨(Lib.itoa n).toArray⟩=bs (c::Lib.itoa n):=AF (by rw[eJ,aE];simp[ByteArray.toList_eq]);rw[e]at hown4;obtain⟨h5,h6⟩:=h.noted (aw.trans (aY.mono aw.size)) hown4 hgrow4 (fun b hb=>by
   simp only[Value.ownBlock,Option.some.injEq]at hb;subst hb;rcases hat4 with e|e
   ·exact .inl e
   ·exact .inr (by omega))
  exact⟨_,rfl,h5,h6⟩
end
end Own
namespace Own
open Go Go.RowKit Sq Aux PrjJ PrjK PrjL PrjM
def Yd.build (y:Yd)(v:Int):Yd:=Yd.note {y with made:=y.made++[(v,true)],live:=y.live+1} 43 ((y.made.length+1:Nat):Int)
def Yd.at (y:Yd)(n:Nat):Int×Bool:=y.made.getD (n-1) (0,false)
def Yd.free (y:Yd)(n:Nat):Yd:=Yd.note {y with made:=y.made.set (n-1) ((y.at n).1,false),live:=y.live-1} 45 ((n:Nat):Int)
def Yd.load (y:Yd)(n:Nat):Yd:=y.note 60 ((n:Nat):Int)
def Yd.store (y:Yd)(n:Nat)(v:Int):Yd:={y.note 62 ((n:Nat):Int)with made:=y.made.set (n-1) (v,(y.at n).2)}
theorem Rb {v:Value}{g n k c:Nat}(h:v.ownBlock=some g\/g=n):∀b,(Value.slice (some ⟨g,0,none⟩) k c).ownBlock=some b->v.ownBlock=some b\/n<=b:=fun b hb=>by
 simp only[Value.ownBlock,Option.some.injEq]at hb;subst hb;rcases h with e|e
 ·exact .inl e
 ·exact .inr (by omega)
theorem MD (x:Int×Bool):(py x).length=2:=rfl
theorem zF (l:List (Int×Bool))(j:Nat)(hj:j<l.length):(bH l)[j*2]?=some (.int .i64 (l.getD j (0,false)).1)/\(bH l)[j*2+1]?=some (.bool (l.getD j (0,false)).2):=by
 have h0:=jn py 2 MD l j 0 (by decide);have h1:=jn py 2 MD l j 1 (by decide);rw[jB hj]at h0 h1;have e:l.getD j (0,false)=l[j]:=by simp[hj]
 rw[e];exact⟨h0,h1⟩
theorem ve:∀(l:List (Int×Bool)) (j:Nat) (x:Int×Bool),bH (l.set j x)=if j<l.length then((bH l).set (j*2) (.int .i64 x.1)).set (j*2+1) (.bool x.2)else bH l
 |[],j,x=>by simp[bH]
 |b::l,0,x=>by simp[bH,py]
 |b::l,j+1,x=>by
  have ih:=ve l j x;have e:bH (b::l)=.int .i64 b.1:: .bool b.2::bH l:=rfl;have e2:bH ((b::l).set (j+1) x)=.int .i64 b.1:: .bool b.2::bH (l.set j x):=rfl;rw[e2,ih,e];by_cases hj:j<l.length
  ·rw[jb hj,jb (by simp;omega),show(j+1)*2=j*2+1+1 by omega];rfl
  ·rw[ja hj,ja (by simp;omega)]
theorem xi {l:List Value}{j:Nat}{v:Value}(h:l[j]?=some v):l.set j v=l:=by
 apply List.ext_getElem?
 intro k;rw[jd];by_cases hk:j=k
 ·subst hk;rw[jb rfl,h];split
  ·rfl
  ·rename_i hn;rw[jG (by omega)]at h;cases h
 ·rw[ja hk]
section
variable {z x:Nat} {t:TypeId} {rest:List Value} {w w1 w2 w3:World} {y:Yd} {vm vt v':Value}
theorem oB.Nh (h:oB z x t rest w y vm vt)(k:Int):oB z x t rest (w.setCell ⟨x,1,none⟩ (.int .i64 k)) {y with live:=k} vm vt/\aN x vm vt w vm vt (w.setCell ⟨x,1,none⟩ (.int .i64 k)):=by
 obtain⟨n1,n2⟩:=h.ty.ne;refine⟨⟨h.base,h.ty,?_,av h.made _ (au h.made h.aJ n1),av h.trace _ (au h.trace h.aJ n2)⟩,⟨rfl,rfl,rfl,by simp,fun j _ h1 _ _=>Below.heap_setCell _ _ _ _ (by show j≠x;exact h1),fun _ h=> .inl h,fun _ h=> .inl h⟩⟩;rw[Aux.heap_setCell_same h.aJ];simp
theorem oB.Jz (h:oB z x t rest w y vm vt)(h2:Below w.heap.size w w2){b:Int×Bool}(h3:w3.ownsRow z 175 2 v' (y.made.length+1) (bH y.made++py b))(hg:w2.grownBy w3 vm.ownBlock)
  (hf:∀b,v'.ownBlock=some b->vm.ownBlock=some b\/w2.heap.size<=b):
  oB z x t rest (w3.setCell ⟨x,0,none⟩ v') {y with made:=y.made++[b]} v' vt/\aN x vm vt w v' vt (w3.setCell ⟨x,0,none⟩ v'):=by
 have H:=h.below h2;obtain⟨n1,n2⟩:=h.ty.ne;have ec:some x≠vm.ownBlock:=bj H.made H.aJ n1;have bV:w3.heap[x]?=some (.cells (vm:: .int .i64 y.live::vt::rest).toArray t (0,0)):=by rw[hg.block x H.lt ec];exact H.aJ
 have hm:=H.trace.kept hg (da H.trace H.made (by decide));refine⟨⟨h.base,h.ty,?_,?_,av hm _ (au hm bV n2)⟩,?_⟩
 ·rw[Aux.heap_setCell_same bV];simp
 ·have:=av h3 (a:=⟨x,0,none⟩) v' (au h3 bV n1);simpa [bH]using this
 ·refine⟨hg.os.trans h2.os,hg.tape.trans h2.tape,hg.output.trans h2.output,by simpa using jS h2.size hg.size,fun k hk h1 Oi Om=> ?_,fun b hb=> ?_,fun _ h=> .inl h⟩
  ·rw[Below.heap_setCell _ _ _ _ (by show k≠x;exact h1),hg.block k (jK hk h2.size) (fun e=>Oi e.symm)];exact h2.block k hk
  ·rcases hf b hb with e|e
   ·exact .inl e
   ·exact .inr (jS h2.size e)
theorem oB.box (h:oB z x t rest w y vm vt){n:Nat}(h1:1<=n)(hn:n<=y.made.length):∃g cap,vm=.slice (some ⟨g,0,none⟩) y.made.length cap/\y.made.length<=cap/\g<w.heap.size/\w.cell? ⟨g,(n-1)*2,none⟩=some (.int .i64 (y.at n).1)/\w.cell? ⟨g,(n-1)*2+1,none⟩=some (.bool (y.at n).2)/\
  w.frozen? ⟨g,(n-1)*2,none⟩=false/\w.frozen? ⟨g,(n-1)*2+1,none⟩=false:=by
 obtain⟨g,cap,rfl,hc,hg,aD⟩:=dK h.made (by omega);obtain⟨b0,b1⟩:=zF y.made (n-1) (by omega);exact⟨g,cap,rfl,hc,hg,by rw[aD _ (by omega)];exact b0,by rw[aD _ (by omega)];exact b1,h.made.frozenAt _,h.made.frozenAt _⟩
theorem oB.Zi {g k cap:Nat}(h:oB z x t rest w y (.slice (some ⟨g,0,none⟩) k cap) vt){n:Nat}(h1:1<=n)(hn:n<=y.made.length):w.cell? ⟨g,(n-1)*2,none⟩=some (.int .i64 (y.at n).1)/\w.cell? ⟨g,(n-1)*2+1,none⟩=some (.bool (y.at n).2)/\
  w.frozen? ⟨g,(n-1)*2,none⟩=false/\w.frozen? ⟨g,(n-1)*2+1,none⟩=false:=by
 obtain⟨g',cap',e,-,-,a1,a2,a3,a4⟩:=h.box h1 hn;simp only[Value.slice.injEq,Option.some.injEq,Addr.mk.injEq,and_true]at e;obtain⟨rfl,-,-⟩:=e;exact⟨a1,a2,a3,a4⟩
theorem oB.tF {g cap:Nat}(h:oB z x t rest w y (.slice (some ⟨g,0,none⟩) y.made.length cap) vt){n:Nat}(h1:1<=n)(hn:n<=y.made.length):
  (∀v:Int,oB z x t rest (w.setCell ⟨g,(n-1)*2,none⟩ (.int .i64 v)) {y with made:=y.made.set (n-1) (v,(y.at n).2)} (.slice (some ⟨g,0,none⟩) y.made.length cap) vt/\aN x (.slice (some ⟨g,0,none⟩) y.made.length cap) vt w (.slice (some ⟨g,0,none⟩) y.made.length cap) vt (w.setCell ⟨g,(n-1)*2,none⟩ (.int .i64 v)))/\
  (∀v:Bool,oB z x t rest (w.setCell ⟨g,(n-1)*2+1,none⟩ (.bool v)) {y with made:=y.made.set (n-1) ((y.at n).1,v)} (.slice (some ⟨g,0,none⟩) y.made.length cap) vt/\aN x (.slice (some ⟨g,0,none⟩) y.made.length cap) vt w (.slice (some ⟨g,0,none⟩) y.made.length cap) vt (w.setCell ⟨g,(n-1)*2+1,none⟩ (.bool v))):=by
 obtain⟨n1,n2⟩:=h.ty.ne;obtain⟨b0,b1⟩:=zF y.made (n-1) (by omega);have Y0:x≠g:=fun e=>au h.made h.aJ n1 (by rw[e];rfl)
 have htg:vt.ownBlock≠some g:=fun e=>by
  rcases da h.trace h.made (by decide)with h0|h0
  ·rw[e]at h0;cases h0
  ·exact h0 e
 have roam:∀(o:Nat) (u:Value),aN x (.slice (some ⟨g,0,none⟩) y.made.length cap) vt w (.slice (some ⟨g,0,none⟩) y.made.length cap) vt (w.setCell ⟨g,o,none⟩ u):=fun o u=>
  ⟨rfl,rfl,rfl,by simp,fun j _ _ h2 _=>Below.heap_setCell _ _ _ _ (by show j≠g;intro e;exact h2 (by rw[e];rfl)),fun _ h=> .inl h,fun _ h=> .inl h⟩
 have aJ:∀(o:Nat) (u:Value),(w.setCell ⟨g,o,none⟩ u).heap[x]?=w.heap[x]?:=fun o u=>Below.heap_setCell _ _ _ _ (by show x≠g;exact Y0)
 constructor
 ·intro v;refine⟨⟨h.base,h.ty,by rw[aJ];exact h.aJ,?_,av h.trace _ htg⟩,roam _ _⟩;have:=(h.made.stored ((n-1)*2) (.int .i64 v)).1;have e:bH (y.made.set (n-1) (v,(y.at n).2))=(bH y.made).set ((n-1)*2) (.int .i64 v):=by
   rw[ve,jb (by omega)];refine xi ?_;rw[List.getElem?_set_ne (by omega)];exact b1
  simp only[List.length_set];rw[e];exact this
 ·intro v;refine⟨⟨h.base,h.ty,by rw[aJ];exact h.aJ,?_,av h.trace _ htg⟩,roam _ _⟩;have:=(h.made.stored ((n-1)*2+1) (.bool v)).1;have e:bH (y.made.set (n-1) ((y.at n).1,v))=(bH y.made).set ((n-1)*2+1) (.bool v):=by
   rw[ve,jb (by omega)];have:(bH y.made).set ((n-1)*2) (.int .i64 (y.at n).1)=bH y.made:=xi b0;rw[this]
  simp only[List.length_set];rw[e];exact this
end
end Own
namespace Own
open Go Go.RowKit Sq Aux PrjJ PrjK PrjL PrjM
structure Yd.Ok (y:Yd):Prop where
 made:y.made.length<=1000000
 trace:y.trace.length<=9000000
 live: -100000000<=y.live/\y.live<=100000000
 words:∀b∈y.trace,b.length<=30
def Left (z x:Nat)(t:TypeId)(rest:List Value)(w:World)(vm vt:Value)(y':Yd)(w':World):Prop:=∃vm' vt',oB z x t rest w' y' vm' vt'/\aN x vm vt w vm' vt' w'
section
variable {z x:Nat} {t:TypeId} {rest:List Value} {w:World} {y:Yd} {vm vt:Value}
theorem LO (h:oB z x t rest w y vm vt)(n:Int)(hn: -9223372036854775808<=n/\n<=9223372036854775807)(hp:Pow w)(ho:y.Ok):
  Calls Tryz.prog 104 #[.pointer (some ⟨x,0,none⟩),.int .i64 n] w fun e w'=>e=.returned (.tuple #[])/\Left z x t rest w vm vt (y.note 111 n) w':=by
 have K:=gd h 111 n hn hp (by have:=ho.trace;omega);have K2:Calls Tryz.prog 98 #[.pointer (some ⟨x,0,none⟩),.string ⟨#[111]⟩,.int .i64 n] w _:=K;go_enter Tryz.func104,Tryz.ntmps104
 go_wp2_with (go_at_call 98;refine K2.mono ?_;rintro e w1 ⟨vt',rfl,h1,r1⟩)
 go_end0
 exact⟨rfl,vm,vt',h1,r1⟩
set_option maxRecDepth 20000 in
set_option maxHeartbeats 1000000 in
theorem NJ (h:oB z x t rest w y vm vt)(v:Int)(hp:Pow w)(ho:y.Ok)(hz:11<=z):
  Calls Tryz.prog 61 #[.pointer (some ⟨x,0,none⟩),.int .i64 v] w fun e w'=>e=.returned (.int .i64 ((y.made.length+1:Nat):Int))/\Left z x t rest w vm vt (y.build v) w':=by
 obtain⟨c0,c1,c2,f0,f1,f2⟩:=h.facts;obtain⟨i,hi,A1,Ez,xX⟩:=info_parts RV;have aY:Below w.heap.size w (w.alloc (.cells #[.int .i64 v,.bool true] 175)):=(Below.refl _ _).alloc (jC _) _;have HA:=h.below aY;obtain⟨a0,a1,a2,b0,b1,b2⟩:=HA.facts;have qu:z<=(w.alloc (.cells #[.int .i64 v,.bool true] 175)).heap.size:=by have:=HA.lt;have:=HA.base;omega
 have hm:=ho.made;have hlv:=ho.live;go_enter Tryz.func61,Tryz.ntmps61
 go_wp2_with (first
  |(at_builtin;go_must (refine kh rfl _ _ 98 rfl z 175 i (.agg #[.int .i64 0,.bool false]) 2 16 Tryz.underlying98 hi A1 Ez xX rfl (by decide) vm _ _ rfl HA.made w.heap.size [.int .i64 v,.bool true] rfl jD rfl (by intro u' hu;simp at hu;rcases hu with rfl|rfl<;>rfl) (by decide) (by omega) qu ?_);intro g4 c4 w4 hown4 hgrow4 hat4 hlt4;have gK:w4.heap[x]?=_:=(hgrow4.block _ HA.lt (bj HA.made HA.aJ HA.ty.ne.1)).trans HA.aJ;have r0:w4.cell? ⟨x,0,none⟩=some vm:=(by rw[cell_of_heap gK];simp);have rf0:w4.frozen? ⟨x,0,none⟩=false:=frozen_of_heap gK 0;obtain⟨h5,h6⟩:=h.Jz (b:=(v,true)) aY hown4 hgrow4 (Rb hat4);obtain⟨d0,d1,d2,g0,g1,g2⟩:=h5.facts;obtain⟨h7,h8⟩:=h5.Nh (y.live+1);obtain⟨k0,k1,k2,l0,l1,l2⟩:=h7.facts;have hr:=h6.trans h8;have KN:Calls Tryz.prog 98 #[.pointer (some ⟨x,0,none⟩),.string ⟨#[43]⟩,.int .i64 ((y.made.length:Int)+1)] _ _:=gd h7 43 ((y.made.length+1:Nat):Int) (by omega) (hp.below (hr.below h hz (by have:=h.lt;have:=h.base;omega)) (jC _)) (by have:=ho.trace;simp only;omega))
  |(go_at_call 98;refine KN.mono ?_;rintro e w9 ⟨vt',rfl,h9,r9⟩))
 go_ret
 exact⟨rfl,_,vt',h9,hr.trans r9⟩
set_option maxRecDepth 20000 in
set_option maxHeartbeats 1000000 in
theorem AL (h:oB z x t rest w y vm vt)(n:Nat)(h1:1<=n)(hn:n<=y.made.length)(hp:Pow w)(ho:y.Ok)(hz:11<=z):
  Calls Tryz.prog 97 #[.pointer (some ⟨x,0,none⟩),.int .i64 ((n:Nat):Int)] w fun e w'=>e=.returned (.tuple #[])/\Left z x t rest w vm vt (y.free n) w':=by
 obtain⟨c0,c1,c2,f0,f1,f2⟩:=h.facts;obtain⟨g,cap,rfl,kM,hg,q0,q1,q2,q3⟩:=h.box h1 hn;obtain⟨h5,h6⟩:=(h.tF h1 hn).2 false;obtain⟨d0,d1,d2,g0,g1,g2⟩:=h5.facts;obtain⟨h7,h8⟩:=h5.Nh (y.live-1);have hr:=h6.trans h8;have hm:=ho.made;have hlv:=ho.live;have KN:Calls Tryz.prog 98 #[.pointer (some ⟨x,0,none⟩),.string ⟨#[45]⟩,.int .i64 ((n:Nat):Int)] _ _:=gd h7 45 ((n:Nat):Int) (by omega) (hp.below (hr.below h hz (by have:=h.lt;have:=h.base;omega)) (jC _)) (by have:=ho.trace;simp only;omega);have i1:(1:Int)<=n:=by omega
 have i2:(n:Int)<=y.made.length:=by omega
 have e1:((n:Int)-1).toNat=n-1:=by omega
 go_enter Tryz.func97,Tryz.ntmps97
 go_wp2_with (go_at_call 98;refine KN.mono ?_;rintro e w9 ⟨vt',rfl,h9,r9⟩)
 go_end0
 exact⟨rfl,_,vt',h9,hr.trans r9⟩
set_option maxRecDepth 20000 in
set_option maxHeartbeats 1000000 in
theorem Bi (h:oB z x t rest w y vm vt)(n:Nat)(h1:1<=n)(hn:n<=y.made.length)(hp:Pow w)(ho:y.Ok):
  Calls Tryz.prog 105 #[.pointer (some ⟨x,0,none⟩),.int .i64 ((n:Nat):Int)] w fun e w'=>e=.returned (.int .i64 (y.at n).1)/\Left z x t rest w vm vt (y.load n) w':=by
 obtain⟨g,cap,rfl,kM,-⟩:=h.box h1 hn;have hm:=ho.made;have KN:Calls Tryz.prog 98 #[.pointer (some ⟨x,0,none⟩),.string ⟨#[60]⟩,.int .i64 ((n:Nat):Int)] _ _:=gd h 60 ((n:Nat):Int) (by omega) hp (by have:=ho.trace;omega);have i1:(1:Int)<=n:=by omega
 have i2:(n:Int)<=y.made.length:=by omega
 have e1:((n:Int)-1).toNat=n-1:=by omega
 go_enter Tryz.func105,Tryz.ntmps105
 go_wp2_with (go_at_call 98;refine KN.mono ?_;rintro e w9 ⟨vt',rfl,h9,r9⟩;obtain⟨c0,c1,c2,f0,f1,f2⟩:=h9.facts;have q:=h9.Zi h1 (show n<=(y.note 60 ((n:Nat):Int)).made.length from hn);have q0:w9.cell? ⟨g,(n-1)*2,none⟩=some (.int .i64 (y.at n).1):=q.1;clear q)
 go_ret
 exact⟨rfl,_,vt',h9,r9⟩
set_option maxRecDepth 20000 in
set_option maxHeartbeats 1000000 in
theorem yl (h:oB z x t rest w y vm vt)(n:Nat)(h1:1<=n)(hn:n<=y.made.length)(v:Int)(hp:Pow w)(ho:y.Ok):
  Calls Tryz.prog 106 #[.pointer (some ⟨x,0,none⟩),.int .i64 ((n:Nat):Int),.int .i64 v] w fun e w'=>e=.returned (.tuple #[])/\Left z x t rest w vm vt (y.store n v) w':=by
 obtain⟨g,cap,rfl,kM,-⟩:=h.box h1 hn;have hm:=ho.made;have KN:Calls Tryz.prog 98 #[.pointer (some ⟨x,0,none⟩),.string ⟨#[62]⟩,.int .i64 ((n:Nat):Int)] _ _:=gd h 62 ((n:Nat):Int) (by omega) hp (by have:=ho.trace;omega);have i1:(1:Int)<=n:=by omega
 have i2:(n:Int)<=y.made.length:=by omega
 have e1:((n:Int)-1).toNat=n-1:=by omega
 go_enter Tryz.func106,Tryz.ntmps106
 go_wp2_with (go_at_call 98;refine KN.mono ?_;rintro e w9 ⟨vt',rfl,h9,r9⟩;obtain⟨c0,c1,c2,f0,f1,f2⟩:=h9.facts;have q:=h9.Zi h1 (show n<=(y.note 62 ((n:Nat):Int)).made.length from hn);have q0:w9.cell? ⟨g,(n-1)*2,none⟩=some (.int .i64 (y.at n).1):=q.1;have q2:=q.2.2.1;clear q;obtain⟨V6,r10⟩:=(oB.tF (y:=y.note 62 ((n:Nat):Int)) h9 h1 hn).1 v)
 go_end0
 exact⟨rfl,_,vt',V6,r9.trans r10⟩
end
end Own
namespace Own
open Go Go.RowKit Sq Aux PrjJ PrjK PrjL PrjM
theorem ff:(Tryz.prog.info? 47).map (fun i=>i.size)=some 4:=by kernel_rfl
def Yd.text (y:Yd):B:=Lib.join y.trace [32]
theorem Ha:∀(l:List B),(∀b∈l,b.length<=30)->(Lib.join l [32]).length<=31*l.length
 |[],_=>by simp[Lib.join,List.intercalate]
 |[a],h=>by
  have:=h a (by simp);rw[Lib.join_one];simp;omega
 |a::b::l,h=>by
  have ih:=Ha (b::l) (fun x hx=>h x (jN _ hx));have h1:=h a (by simp);have e:Lib.join (a::b::l) [32]=a++([32]++Lib.join (b::l) [32]):=by simp[Lib.join,List.intercalate,List.intersperse]
  rw[e,jV,jV];simp only[List.length_cons,List.length_nil]at ih⊢;omega
theorem MF (b:B):(bs b).data.toList=b:=by simp[bs]
section
variable {z x:Nat} {t:TypeId} {rest:List Value} {w:World} {y:Yd} {vm vt:Value}
theorem R6 {tr:List B}(h:w.ownsRow z 9 1 vt tr.length (xp tr))(hl:tr.length<=9000000)(hw:∀b∈tr,b.length<=30):
  Calls Tryz.prog 83 #[vt,.string ⟨#[32]⟩] w fun e w'=>e=.returned (.string (bs (Lib.join tr [32])))/\Below w.heap.size w w':=by
 cases tr with
 |nil=>
  have h':∃ad c,vt=.slice ad 0 c:=by
   rcases h.2 with⟨e,-⟩|⟨g,cap,cur,e,-⟩
   ·exact⟨none,0,e⟩
   ·exact⟨_,cap,e⟩
  obtain⟨ad,c,rfl⟩:=h';refine(Tryz.strings_Join_none ad c ⟨#[32]⟩ w).mono fun e w' ⟨he,hw'⟩=>⟨?_,by rw[hw'];exact Below.refl _ _⟩
  rw[he];rfl
 |cons a r=>
  obtain⟨g,cap,rfl,hc,hg,aD⟩:=dK h (by simp);have hlen:=Ha (a::r) hw;have K:=Tryz.strings_Join g 0 cap ((a::r).map bs) ⟨#[32]⟩ w (fun j v hv=>by
   rw[jJ,Option.map_eq_some_iff]at hv;obtain⟨b,hb,rfl⟩:=hv;have hj:j<(a::r).length:=by
    by_cases hj:j<(a::r).length
    ·exact hj
    ·rw[jG (by omega)]at hb;cases hb
   rw[Nat.zero_add,aD j (by omega),xp,jJ,hb];rfl) hg (by rw[jc];omega) (by rw[jc];exact hc) (by
    have e:((a::r).map bs).map (fun x=>x.data.toList)=a::r:=by
     rw[List.map_map];have:((fun x:ByteArray=>x.data.toList)∘bs)=id:=funext MF;rw[this,List.map_id]
    rw[e];show(Lib.join (a::r) [32]).length<=_
    omega)
  rw[jc]at K;refine K.mono fun e w' ⟨he,hw'⟩=>⟨?_,hw'⟩
  rw[he];have e:((a::r).map bs).map (fun x=>x.data.toList)=a::r:=by
   rw[List.map_map];have:((fun x:ByteArray=>x.data.toList)∘bs)=id:=funext MF;rw[this,List.map_id]
  rw[e];rfl
set_option maxRecDepth 20000 in
set_option maxHeartbeats 1000000 in
theorem pW (h:oB z x t rest w y vm vt)(o v:Int)(ho:y.Ok):
  Calls Tryz.prog 66 #[.pointer (some ⟨x,0,none⟩),.int .i64 o,.int .i64 v] w fun e w'=>e=.returned (.agg #[.int .i64 o,.int .i64 v,.string (bs y.text),.int .i64 y.live])/\Below w.heap.size w w':=by
 have aY:Below w.heap.size w (w.alloc (.cells #[.int .i64 0,.int .i64 0,.string ⟨#[]⟩,.int .i64 0] 47)):=(Below.refl _ _).alloc (jC _) _;have HA:=h.below aY;obtain⟨a0,a1,a2,-⟩:=HA.facts;have KJ:=R6 (w:=(w.alloc (.cells #[.int .i64 0,.int .i64 0,.string ⟨#[]⟩,.int .i64 0] 47)).drew) HA.trace ho.trace ho.words;have hn:=World.ownsRow.lt HA.trace;go_enter Tryz.func66,Tryz.ntmps66
 go_wp2
 go_region_with (go_at_call 83;refine KJ.mono ?_;rintro e w1 ⟨rfl,aw⟩;have bU:Below (w.alloc (.cells #[.int .i64 0,.int .i64 0,.string ⟨#[]⟩,.int .i64 0] 47)).heap.size (w.alloc (.cells #[.int .i64 0,.int .i64 0,.string ⟨#[]⟩,.int .i64 0] 47)) w1:=⟨aw.os,aw.tape,aw.output,aw.size,aw.block⟩;obtain⟨d0,d1,d2,-⟩:=(HA.below bU).facts;have hR:w1.heap[w.heap.size]?=some (.cells #[.int .i64 0,.int .i64 0,.string ⟨#[]⟩,.int .i64 0] 47 (0,0)):=(bU.block _ (by simp)).trans jD;have r0:w1.cell? ⟨w.heap.size,0,none⟩=some (.int .i64 0):=(by rw[cell_of_heap hR];rfl);have r1:w1.cell? ⟨w.heap.size,1,none⟩=some (.int .i64 0):=(by rw[cell_of_heap hR];rfl);have r2:w1.cell? ⟨w.heap.size,2,none⟩=some (.string ⟨#[]⟩):=(by rw[cell_of_heap hR];rfl);have r3:w1.cell? ⟨w.heap.size,3,none⟩=some (.int .i64 0):=(by rw[cell_of_heap hR];rfl);have rf:=frozen_of_heap hR;have rf0:=rf 0;have rf1:=rf 1;have rf2:=rf 2;have rf3:=rf 3;clear rf)
 all_goals go_wp2_with fail
 all_goals
  have e1:=Aux.heap_setCell_same hR 0 (.int .i64 o);have e2:=Aux.heap_setCell_same e1 1 (.int .i64 v);have e3:=Aux.heap_setCell_same e2 2 (.string (bs (Lib.join y.trace [32])));have e4:=Aux.heap_setCell_same e3 3 (.int .i64 y.live);refine bodyPost_ret (dQ Tryz.results66 _ _ _ w.heap.size [.int .i64 o,.int .i64 v,.string (bs (Lib.join y.trace [32])),.int .i64 y.live] _ rfl (fun j u hu=>by rw[Nat.zero_add,cell_of_heap e4];simpa using hu) Tryz.underlying47 rfl ff) rfl ?_;refine⟨rfl,?_⟩;have hB:=aY.trans (bU.mono aY.size);have hT:=((((bw.refl w.heap.size w1).setCell 0 (.int .i64 o)).setCell 1 (.int .i64 v)).setCell 2 (.string (bs (Lib.join y.trace [32])))).setCell 3 (.int .i64 y.live);exact hB.trans (hT.below (jC _) hB.size)
end
end Own
end Go.Proofs.YtmlgajhhnojdjaaGreatDoor

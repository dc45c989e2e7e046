import Derived.Shelf.Small.Wraps
import Derived.Shelf.Strconv.Itoa4
import Derived.Shelf.Strings.OnBuilder
import Derived.Test.YtmlgajhhnojdjaaGreatDoorProg
namespace Go.Proofs.YtmlgajhhnojdjaaGreatDoor
theorem jA:type_of% @List.getD_eq_getElem?_getD:= @List.getD_eq_getElem?_getD
theorem jB:type_of% @List.getElem?_eq_getElem:= @List.getElem?_eq_getElem
theorem jC:type_of% @Nat.le_refl:= @Nat.le_refl
theorem jD:type_of% @Array.getElem?_push_size:= @Array.getElem?_push_size
theorem jE:type_of% @List.drop_eq_getElem_cons:= @List.drop_eq_getElem_cons
theorem jF:type_of% @Option.some.injEq:= @Option.some.injEq
theorem jG:type_of% @List.getElem?_eq_none:= @List.getElem?_eq_none
theorem jH:type_of% @Bool.and_eq_true:= @Bool.and_eq_true
theorem jI:type_of% @List.mem_singleton:= @List.mem_singleton
theorem jJ:type_of% @List.getElem?_map:= @List.getElem?_map
theorem jK:type_of% @Nat.lt_of_lt_of_le:= @Nat.lt_of_lt_of_le
theorem jL:type_of% @List.getElem_mem:= @List.getElem_mem
theorem jM:type_of% @List.mem_cons_self:= @List.mem_cons_self
theorem jN:type_of% @List.mem_cons_of_mem:= @List.mem_cons_of_mem
theorem jO:type_of% @List.getElem?_replicate:= @List.getElem?_replicate
theorem jP:type_of% @List.mem_cons:= @List.mem_cons
theorem jQ:type_of% @Nat.zero_le:= @Nat.zero_le
theorem jR:type_of% @List.not_mem_nil:= @List.not_mem_nil
theorem jS:type_of% @Nat.le_trans:= @Nat.le_trans
theorem jT:type_of% @List.drop_eq_nil_of_le:= @List.drop_eq_nil_of_le
theorem jU:type_of% @Go.Value.slice.injEq:= @Go.Value.slice.injEq
theorem jV:type_of% @List.length_append:= @List.length_append
theorem jW:type_of% @List.cons_append:= @List.cons_append
theorem jX:type_of% @Bool.eq_iff_iff:= @Bool.eq_iff_iff
theorem jY:type_of% @List.length_cons:= @List.length_cons
theorem jZ:type_of% @beq_eq_false_iff_ne:= @beq_eq_false_iff_ne
theorem ja:type_of% @if_neg:= @if_neg
theorem jb:type_of% @if_pos:= @if_pos
theorem jc:type_of% @List.length_map:= @List.length_map
theorem jd:type_of% @List.getElem?_set:= @List.getElem?_set
theorem je:type_of% @Prod.mk.injEq:= @Prod.mk.injEq
theorem jf:type_of% @List.getElem?_append_right:= @List.getElem?_append_right
theorem jg:type_of% @List.getElem?_append_left:= @List.getElem?_append_left
end Go.Proofs.YtmlgajhhnojdjaaGreatDoor
namespace Go.Proofs
open Go.Shelf
def Tryz.xg:Go.Shelf.Ren:=⟨fun|156=>83|165=>135|166=>136|169=>137|240=>184|241=>185|276=>216|277=>217|n=>n,fun|31=>34|9=>9|3=>3|4=>4|0=>0|20=>20|72=>219|76=>222|70=>217|37=>93|75=>221|127=>257|164=>286|5=>5|80=>82|n=>n,fun|n=>n⟩
theorem Tryz.Ki:Go.Proofs.Lays.n156 Tryz.prog Tryz.xg:={
 mixed:=by kernel_rfl
 f156:=Tryz.func83.trans (congrArg some (by kernel_rfl))
 f165:=Tryz.func135.trans (congrArg some (by kernel_rfl))
 f166:=Tryz.func136.trans (congrArg some (by kernel_rfl))
 f169:=Tryz.func137.trans (congrArg some (by kernel_rfl))
 f240:=Tryz.func184.trans (congrArg some (by kernel_rfl))
 f241:=Tryz.func185.trans (congrArg some (by kernel_rfl))
 f276:=Tryz.func216.trans (congrArg some (by kernel_rfl))
 f277:=Tryz.func217.trans (congrArg some (by kernel_rfl))
 t0:=Tryz.underlying0
 a0:=Tryz.isAgg0
 z0:=Tryz.sizeOf0
 v0:=Tryz.zeroValue0
 t3:=Tryz.underlying3
 a3:=Tryz.isAgg3
 z3:=Tryz.sizeOf3
 v3:=Tryz.zeroValue3
 t4:=Tryz.underlying4
 a4:=Tryz.isAgg4
 z4:=Tryz.sizeOf4
 v4:=Tryz.zeroValue4
 t9:=Tryz.underlying9
 a9:=Tryz.isAgg9
 z9:=Tryz.sizeOf9
 v9:=Tryz.zeroValue9
 t20:=Tryz.underlying20
 a20:=Tryz.isAgg20
 z20:=Tryz.sizeOf20
 v20:=Tryz.zeroValue20
 t31:=Tryz.underlying34
 a31:=Tryz.isAgg34
 z31:=Tryz.sizeOf34
 v31:=Tryz.zeroValue34
 t37:=Tryz.underlying93
 a37:=Tryz.isAgg93
 z37:=Tryz.sizeOf93
 v37:=Tryz.zeroValue93
 t70:=Tryz.underlying217
 a70:=Tryz.isAgg217
 z70:=Tryz.sizeOf217
 v70:=Tryz.zeroValue217
 t72:=Tryz.underlying219
 a72:=Tryz.isAgg219
 z72:=Tryz.sizeOf219
 v72:=Tryz.zeroValue219
 t75:=Tryz.underlying221
 a75:=Tryz.isAgg221
 z75:=Tryz.sizeOf221
 v75:=Tryz.zeroValue221
 t76:=Tryz.underlying222
 a76:=Tryz.isAgg222
 z76:=Tryz.sizeOf222
 v76:=Tryz.zeroValue222
 t127:=Tryz.underlying257
 a127:=Tryz.isAgg257
 z127:=Tryz.sizeOf257
 v127:=Tryz.zeroValue257
 t164:=Tryz.underlying286
 a164:=Tryz.isAgg286
 z164:=Tryz.sizeOf286
 v164:=Tryz.zeroValue286}
theorem Tryz.lz:Builder.Extra Tryz.prog Tryz.xg:={
 sizeBuilder:=by kernel_rfl
 liesBuilder:=by kernel_rfl
 t5:=Tryz.underlying5
 a5:=Tryz.isAgg5
 z5:=Tryz.sizeOf5
 v5:=Tryz.zeroValue5
 infoByte:=by kernel_rfl
 cellsByte:=by kernel_rfl
 sizeByte:=by kernel_rfl
 neB5:=by decide}
open Go.RowKit in
theorem Tryz.strings_Join_none (a:Option Addr)(c:Nat)(sep:ByteArray)(w:World):
  Calls Tryz.prog 83 #[.slice a 0 c,.string sep] w fun e w'=>e=.returned (.string ⟨#[]⟩)/\w'=w:=Any.strings_Join_none Tryz.Ki Tryz.lz a c sep w
open Go.RowKit in
theorem Tryz.strings_Join (bk o c:Nat)(xs:List ByteArray)(sep:ByteArray)(w:World)(hcells:∀(j:Nat) x,xs[j]?=some x->w.cell? ⟨bk,o+j,none⟩=some (.string x))(YU:bk<w.heap.size)(hN:xs.length<=140737488355328)(jw:xs.length<=c)(hlen:(Lib.join (xs.map (·.data.toList)) sep.data.toList).length<=140737488355328):
  Calls Tryz.prog 83 #[.slice (some ⟨bk,o,none⟩) xs.length c,.string sep] w fun e w'=>e=.returned (.string ⟨(Lib.join (xs.map (·.data.toList)) sep.data.toList).toArray⟩)/\Below w.heap.size w w':=Any.strings_Join Tryz.Ki Tryz.lz bk o c xs sep w hcells YU hN jw hlen
def Tryz.Du:Go.Shelf.Ren:=⟨fun|173=>133|246=>182|283=>212|284=>213|285=>214|286=>215|129=>232|317=>231|318=>233|319=>234|320=>235|337=>242|338=>243|n=>n,fun|2=>2|3=>3|9=>9|4=>4|171=>90|0=>0|53=>281|37=>93|5=>5|173=>284|212=>299|51=>300|20=>20|213=>301|46=>292|232=>313|233=>314|n=>n,fun|17=>4|18=>7|19=>8|n=>n⟩
theorem Tryz.Pz:Go.Proofs.LaysM.n173 Tryz.prog Tryz.Du:={
 mixed:=by kernel_rfl
 f129:=Tryz.func232.trans (congrArg some (by kernel_rfl))
 f173:=Tryz.func133.trans (congrArg some (by kernel_rfl))
 f246:=Tryz.func182.trans (congrArg some (by kernel_rfl))
 f283:=Tryz.func212.trans (congrArg some (by kernel_rfl))
 f284:=Tryz.func213.trans (congrArg some (by kernel_rfl))
 f285:=Tryz.func214.trans (congrArg some (by kernel_rfl))
 f286:=Tryz.func215.trans (congrArg some (by kernel_rfl))
 f317:=Tryz.func231.trans (congrArg some (by kernel_rfl))
 f318:=Tryz.func233.trans (congrArg some (by kernel_rfl))
 f319:=Tryz.func234.trans (congrArg some (by kernel_rfl))
 f320:=Tryz.func235.trans (congrArg some (by kernel_rfl))
 f337:=Tryz.func242.trans (congrArg some (by kernel_rfl))
 f338:=Tryz.func243.trans (congrArg some (by kernel_rfl))
 t0:=Tryz.underlying0
 a0:=Tryz.isAgg0
 z0:=Tryz.sizeOf0
 v0:=Tryz.zeroValue0
 t2:=Tryz.underlying2
 a2:=Tryz.isAgg2
 z2:=Tryz.sizeOf2
 v2:=Tryz.zeroValue2
 t3:=Tryz.underlying3
 a3:=Tryz.isAgg3
 z3:=Tryz.sizeOf3
 v3:=Tryz.zeroValue3
 t4:=Tryz.underlying4
 a4:=Tryz.isAgg4
 z4:=Tryz.sizeOf4
 v4:=Tryz.zeroValue4
 t5:=Tryz.underlying5
 a5:=Tryz.isAgg5
 z5:=Tryz.sizeOf5
 v5:=Tryz.zeroValue5
 t9:=Tryz.underlying9
 a9:=Tryz.isAgg9
 z9:=Tryz.sizeOf9
 v9:=Tryz.zeroValue9
 t20:=Tryz.underlying20
 a20:=Tryz.isAgg20
 z20:=Tryz.sizeOf20
 v20:=Tryz.zeroValue20
 t37:=Tryz.underlying93
 a37:=Tryz.isAgg93
 z37:=Tryz.sizeOf93
 v37:=Tryz.zeroValue93
 t46:=Tryz.underlying292
 a46:=Tryz.isAgg292
 z46:=Tryz.sizeOf292
 v46:=Tryz.zeroValue292
 t51:=Tryz.underlying300
 a51:=Tryz.isAgg300
 z51:=Tryz.sizeOf300
 v51:=Tryz.zeroValue300
 t53:=Tryz.underlying281
 a53:=Tryz.isAgg281
 z53:=Tryz.sizeOf281
 v53:=Tryz.zeroValue281
 t171:=Tryz.underlying90
 a171:=Tryz.isAgg90
 z171:=Tryz.sizeOf90
 v171:=Tryz.zeroValue90
 t173:=Tryz.underlying284
 a173:=Tryz.isAgg284
 z173:=Tryz.sizeOf284
 v173:=Tryz.zeroValue284
 t212:=Tryz.underlying299
 a212:=Tryz.isAgg299
 z212:=Tryz.sizeOf299
 v212:=Tryz.zeroValue299
 t213:=Tryz.underlying301
 a213:=Tryz.isAgg301
 z213:=Tryz.sizeOf301
 t232:=Tryz.underlying313
 a232:=Tryz.isAgg313
 z232:=Tryz.sizeOf313
 v232:=Tryz.zeroValue313
 t233:=Tryz.underlying314
 a233:=Tryz.isAgg314
 z233:=Tryz.sizeOf314
 v233:=Tryz.zeroValue314
 g17:=by kernel_rfl
 g18:=by kernel_rfl
 g19:=by kernel_rfl
 i0:=by kernel_rfl
 i2:=by kernel_rfl
 i3:=by kernel_rfl
 i4:=by kernel_rfl
 i5:=by kernel_rfl
 i9:=by kernel_rfl
 i20:=by kernel_rfl
 i37:=by kernel_rfl
 i46:=by kernel_rfl
 i51:=by kernel_rfl
 i53:=by kernel_rfl
 i171:=by kernel_rfl
 i173:=by kernel_rfl
 i212:=by kernel_rfl
 i232:=by kernel_rfl
 i233:=by kernel_rfl
 m17:=by kernel_rfl
 m18:=by kernel_rfl
 m19:=by kernel_rfl}
open Go.RowKit Go.Sort Go.Lib in
theorem Tryz.strconv_FormatInt_10 (n:Int)(h0: -9223372036854775808<=n)(h1:n<=9223372036854775807)(w:World)(htab:Lib.TabIs Tryz.prog w "internal/strconv.uint64pow10" .u64 Lib.pow10Tab):
  Calls Tryz.prog 133 #[.int .i64 n,.int .i64 10] w fun e w'=>e=.returned (.string ⟨(Lib.itoa n).toArray⟩)/\∃k os,w'=grow (w.drewN k) os:=Any.strconv_FormatInt_10 Tryz.Pz n h0 h1 w htab
end Go.Proofs
namespace Go.Proofs.YtmlgajhhnojdjaaGreatDoor
namespace Sq
open Go
abbrev B:=List UInt8
def bs (l:B):ByteArray:=⟨l.toArray⟩
@[simp] theorem bP (l : B) : (bs l).toList = l := ByteArray.toList_mk l
theorem Lj (s:ByteArray):bs s.toList=s:=by
 rw[ByteArray.toList_eq];cases s;simp[bs]
@[simp] theorem fI (l : B) : (bs l).size = l.length := by simp [bs, ByteArray.size]
theorem length_toList (s:ByteArray):s.toList.length=s.size:=by
 rw[ByteArray.toList_eq];cases s;simp[ByteArray.size]
theorem JY {s:ByteArray}{l:B}(h:s.toList=l):s=bs l:=by rw[<-h,Lj]
theorem getElem_toList (s:ByteArray)(k:Nat)(h:k<s.size):s[k]=s.toList[k]'(by rw[length_toList];exact h):=by
 have e:s.toList=s.data.toList:=ByteArray.toList_eq s;simp only[e];cases s;rfl
theorem getElem?_toList (s:ByteArray)(k:Nat)(h:k<s.size):s.toList[k]?=some s[k]:=by
 rw[getElem_toList s k h];exact jB _
theorem extract_toList (s:ByteArray)(a b:Nat):(s.extract a b).toList=(s.toList.drop a).take (b-a):=by
 rw[ByteArray.toList_eq,ByteArray.toList_eq];have:(s.extract a b).data=s.data.extract a b:=by simp
 rw[this];simp[List.extract_eq_take_drop]
theorem extract_eq (s:ByteArray)(a b:Nat):s.extract a b=bs ((s.toList.drop a).take (b-a)):=JY (extract_toList s a b)
@[simp] theorem TU (l : B) (k : Nat) (h : k < (bs l).size) : (bs l)[k] = l[k]'(by simpa using h) := by
 rw[getElem_toList (bs l) k h];simp
def lower (c:UInt8):Bool:=decide (97<=c.toNat)&&decide (c.toNat<=122)
def digit (c:UInt8):Bool:=decide (48<=c.toNat)&&decide (c.toNat<=57)
def isName (l:B):Bool:=l.all lower&&decide (1<=l.length)&&decide (l.length<=4)
def cQ:Int->B->Option Int
 |n,[]=>some n
 |n,c::r=>if digit c then(if 10*n+(c.toNat-48)>1000000000 then none else cQ (10*n+(c.toNat-48)) r)else none
def mV (s:B):B:=match s with|c::r=>if c=45 then r else s|[]=>s
def signed (s:B):Bool:=match s with|c::_=>decide (c=45)|[]=>false
def number (s:B):Option Int:=
 if(mV s).length<1\/((mV s).head?=some 48/\s≠[48])then none
 else match cQ 0 (mV s)with
  |none=>none
  |some n=>some (if signed s then-n else n)
def ia (w:B):Bool:=decide (2<w.length)&&(w[w.length-2]?==some 46)
def bh (w:B):B:=if ia w then w.take (w.length-2)else w
def partOf (w:B):UInt8:=if ia w then w.getLastD 0 else 0
def dy (w:B):Bool:=isName (bh w)&&(decide (bh w=w)||partOf w==97||partOf w==98||partOf w==115)
def ends (w:B):Bool:=w==[103,111,116,111]||w==[105,102]||w==[109,97,116,99,104]||w==[101,110,100]||w==[116,101,115,116]
def behind (w:B)(raw:Bool):B×Bool:=
 if w=[115,101,116]then([105,110],true)
 else if w=[97,100,100]\/w=[115,117,98]\/w=[109,117,108]\/w=[100,105,118]then([105,105,105],true)
 else if w=[105,110]\/w=[111,117,116]\/w=[101,110,100]then([105],true)
 else if w=[110,101,119]\/w=[115,116,111,114,101]then([112,105],true)
 else if w=[108,111,97,100]then([105,112],true)
 else if w=[109,111,118,101]then([109,109],true)
 else if w=[110,111,110,101]then([111],true)
 else if w=[115,111,109,101]then([111,112],true)
 else if w=[103,111,116,111]then([78],true)
 else if w=[105,102]then([105,78,78],true)
 else if w=[109,97,116,99,104]then([111,78,78],true)
 else if w=[100,114,111,112]then([100],!raw)
 else if w=[102,114,101,101]then([112],raw)
 else if w=[102,108,97,103]then([102,118],raw)
 else if w=[116,101,115,116]then([102,78,78],raw)
 else([],false)
def QD (kind:UInt8)(w:B):Bool:=
 if kind=105\/kind=111 then isName w
 else if kind=112\/kind=109\/kind=100 then dy w
 else if kind=110 then(number w).isSome
 else if kind=78 then match number w with|some n=>decide (0<=n)|none=>false
 else if kind=102 then match number w with|some n=>decide (0<=n)&&decide (n<50)|none=>false
 else match number w with|some n=>decide (n=0)||decide (n=1)|none=>false
theorem xC (a:UInt8)(n:Nat)(hn:n<256):a=UInt8.ofNat n↔a.toNat=n:=by
 rw[<-UInt8.toNat_inj,UInt8.toNat_ofNat_of_lt' (by simpa using hn)]
end Sq
namespace Sq
open Go
def qh (p:B):List B->List B
 |[]=>[p]
 |h::t=>(p++h)::t
def split (c:UInt8):B->List B
 |[]=>[[]]
 |x::r=>if x=c then []::split c r else qh [x] (split c r)
theorem Gx (c:UInt8)(l:B):split c l≠[]:=by
 cases l with
 |nil=>simp[split]
 |cons x r=>rw[split];split;simp;cases h:split c r<;>simp[qh]
theorem DR (c:UInt8)(l:B):(split c l).length<=l.length+1:=by
 induction l with
 |nil=>simp[split]
 |cons x r ih=>
  rw[split];split
  ·simp;omega
  ·cases h:split c r with
   |nil=>simp[qh]
   |cons a b=>rw[h]at ih;simp[qh]at ih⊢;omega
theorem vo (c:UInt8)(l:B):∀x∈split c l,x.length<=l.length:=by
 induction l with
 |nil=>simp[split]
 |cons a r ih=>
  intro x hx;rw[split]at hx;split at hx
  ·rcases jP.mp hx with rfl|hx
   ·simp
   ·have:=ih x hx;simp;omega
  ·cases h:split c r with
   |nil=>exact absurd h (Gx c r)
   |cons p q=>
    rw[h]at hx ih;simp only[qh,List.mem_cons]at hx;rcases hx with rfl|hx
    ·have:=ih p (by simp);simp;omega
    ·have:=ih x (by simp[hx]);simp;omega
def cellsOf (L:List B):List Value:=L.map fun b=> .string (bs b)
end Sq
namespace Sq
open Go
structure RP where
 lines:List (List B)
 lets:List Nat
 blocks:List Nat
 raw:Bool
def iE:B:=[108,101,116]
def cM:B:=[98,108,111,99,107]
def x7:B:=[105,110,116]
def vE:B:=[98,111,120]
def oX:B:=[112,97,105,114]
def sa:B:=[111,112,116]
def word (ws:List B)(k:Nat):B:=ws.getD k []
def RP.line (p:RP)(i:Nat):List B:=p.lines.getD i []
def lJ:List (List B)->Bool
 |[]=>false
 |ws::r=>if word ws 0=cM then true else if ends (word ws 0)then false else lJ r
def RP.inside (p:RP)(i:Nat):Bool:=lJ (p.lines.take i).reverse
def RP.pw (p:RP)(name:B):List Nat->Nat->Int
 |[],_=> -1
 |t::r,k=>if word (p.line t) 1=name then k else RP.pw p name r (k+1)
def RP.find (p:RP)(name:B):Int:=p.pw name p.lets 0
theorem RP.Lz (p:RP)(name:B):∀(l:List Nat) (k:Nat),0<=p.pw name l k->∃j,p.pw name l k=((k+j:Nat):Int)/\j<l.length/\word (p.line (l.getD j 0)) 1=name:=by
 intro l;induction l with
 |nil=>intro k h;simp[RP.pw]at h
 |cons t r ih=>
  intro k h;rw[RP.pw]at h⊢;by_cases hc:word (p.line t) 1=name
  ·rw[jb hc];exact⟨0,by simp,by simp,by simpa using hc⟩
  ·rw[ja hc]at h⊢;obtain⟨j,h1,h2,h3⟩:=ih (k+1) h;exact⟨j+1,by rw[h1];congr 1;omega,by simpa using h2,by simpa using h3⟩
theorem RP.C3 {p:RP}{name:B}(h:0<=p.find name):∃j:Nat,p.find name=j/\j<p.lets.length/\word (p.line (p.lets.getD j 0)) 1=name:=by
 obtain⟨j,h1,h2,h3⟩:=p.Lz name p.lets 0 h;exact⟨j,by unfold RP.find;rw[h1];simp,h2,h3⟩
def RP.Az (p:RP)(w:B):B:=word (p.line (p.lets.getD (p.find (bh w)).toNat 0)) 2
def RP.typeOf (p:RP)(w:B):B:=
 if partOf w=97\/partOf w=98 then(if p.Az w=oX then vE else [])
 else if partOf w=115 then(if p.Az w=sa then vE else [])else p.Az w
def RP.I6 (p:RP)(c:UInt8)(w:B):Bool:=
 if c=105\/c=111\/c=112\/c=109\/c=100 then decide (0<=p.find (bh w))
 else if c=78 then decide ((number w).getD 0<p.blocks.length)else true
def RP.iw (p:RP):B->List B->Bool
 |[],_=>true
 |c::f,ws=>p.I6 c (word ws 0)&&RP.iw p f (ws.drop 1)
def RP.names (p:RP)(i:Nat):Bool:=
 if word (p.line i) 0=iE then decide (p.lets.getD (p.find (word (p.line i) 1)).toNat 0=i)
 else p.iw (behind (word (p.line i) 0) p.raw).1 ((p.line i).drop 1)
def RP.iY (p:RP)(c:UInt8)(w w1:B):Bool:=
 if c=110\/c=78\/c=102\/c=118 then true
 else if p.typeOf w=[]then false
 else if(c=105/\p.typeOf w≠x7)\/(c=112/\p.typeOf w≠vE)\/(c=111/\p.typeOf w≠sa)then false
 else if(c=109\/c=100)/\p.typeOf w=x7 then false
 else if c=109/\p.typeOf w≠p.typeOf w1 then false else true
def RP.lP (p:RP)(w1:B):B->List B->Bool
 |[],_=>true
 |c::f,ws=>p.iY c (word ws 0) w1&&RP.lP p w1 f (ws.drop 1)
def RP.types (p:RP)(i:Nat):Bool:=p.lP (word (p.line i) 1) (behind (word (p.line i) 0) p.raw).1 ((p.line i).drop 1)
def tQ:B->List B->Bool
 |[],_=>true
 |c::f,ws=>QD c (word ws 0)&&tQ f (ws.drop 1)
def RP.form (p:RP)(i:Nat):Bool:=
 if word (p.line i) 0=iE then
  if(p.line i).length≠3\/0<p.blocks.length\/12<=p.lets.length then false
  else isName (word (p.line i) 1)&&(word (p.line i) 2==x7||word (p.line i) 2==vE||word (p.line i) 2==oX||word (p.line i) 2==sa)
 else if word (p.line i) 0=cM then
  decide ((p.line i).length=1)&& !p.inside i&&decide (0<p.lets.length)&&decide (p.blocks.length<if p.raw then 2000 else 20)
 else if(behind (word (p.line i) 0) p.raw).2=false\/p.inside i=false\/(p.line i).length≠(behind (word (p.line i) 0) p.raw).1.length+1 then false
 else tQ (behind (word (p.line i) 0) p.raw).1 ((p.line i).drop 1)
end Sq
namespace Sq
open Go
def RP.addLine (p:RP)(ws:List B):RP:={p with lines:=p.lines++[ws]}
def RP.pd (p:RP)(i:Nat):RP:={p with lets:=p.lets++[i]}
def RP.addBlock (p:RP)(i:Nat):RP:={p with blocks:=p.blocks++[i]}
def RP.mark (p:RP)(i:Nat):RP:=if word (p.line i) 0=iE then p.pd i else if word (p.line i) 0=cM then p.addBlock i else p
def jt:List (List B)->RP->Nat->RP×Option Nat
 |[],p,_=>(p,none)
 |ws::r,p,i=>if(p.addLine ws).form i then jt r ((p.addLine ws).mark i) (i+1)else(p.addLine ws,some i)
def dY (f:Nat->Bool):Nat->Nat->Option Nat
 |0,_=>none
 |m+1,i=>if f i then dY f m (i+1)else some i
def RP.kj (p:RP)(i:Nat):Bool:=word (p.line i) 0==iE||word (p.line i) 0==cM||p.types i
def start (raw:Bool):RP:=⟨[],[],[],raw⟩
def br (text:B):List (List B):=(split 10 text).map (split 32)
def bY (text:B)(raw:Bool):Option RP×Nat×Nat:=
 if 4000<(split 10 text).length\/(raw=false/\120<(split 10 text).length)then(none,1,0)
 else match jt (br text) (start raw) 0 with
  |(_,some i)=>(none,2,i)
  |(p,none)=>
   if p.inside (split 10 text).length=true\/p.blocks.length=0 then(none,2,(split 10 text).length)
   else match dY p.names (split 10 text).length 0 with
    |some i=>(none,3,i)
    |none=>match dY p.kj (split 10 text).length 0 with
     |some i=>(none,4,i)
     |none=>(some p,0,0)
theorem RP.gZ (p:RP)(ws:List B)(j:Nat):(p.addLine ws).line j=if j<p.lines.length then p.line j else if j=p.lines.length then ws else []:=by
 simp only[RP.addLine,RP.line,List.getD_eq_getElem?_getD,List.getElem?_append];split
 ·rfl
 ·split
  ·rename_i h1 h2;subst h2;simp
  ·rw[jG (by simp;omega)];rfl
theorem RP.qw (p:RP)(i j:Nat):(p.mark i).line j=p.line j:=by
 unfold RP.mark RP.pd RP.addBlock;split;rfl;split<;>rfl
theorem RP.eE (p:RP)(i:Nat):(p.mark i).lines=p.lines:=by
 unfold RP.mark RP.pd RP.addBlock;split;rfl;split<;>rfl
theorem RP.sP (p:RP)(i:Nat):(p.mark i).raw=p.raw:=by
 unfold RP.mark RP.pd RP.addBlock;split;rfl;split<;>rfl
end Sq
namespace Sq
open Go
def eR:List (B×B):=
 [(iE,[100,116]),(cM,[]),([115,101,116],[105,35]),([97,100,100],[105,105,105]),([115,117,98],[105,105,105]),([109,117,108],[105,105,105]),([100,105,118],[105,105,105]),
  ([105,110],[105]),([111,117,116],[105]),([110,101,119],[112,105]),([108,111,97,100],[105,112]),([115,116,111,114,101],[112,105]),([109,111,118,101],[109,109]),([110,111,110,101],[111]),
  ([115,111,109,101],[111,112]),([100,114,111,112],[109]),([102,114,101,101],[112]),([102,108,97,103],[102,118]),([103,111,116,111],[98]),([105,102],[105,98,98]),
  ([109,97,116,99,104],[111,98,98]),([116,101,115,116],[102,98,98]),([101,110,100],[105])]
def lI (l:List B)(w:B)(k:Nat):Option Nat:=
 match l with
 |[]=>none
 |s::r=>if s=w then some k else lI r w (k+1)
def ew (w:B):Option Nat:=lI (eR.map (·.1)) w 0
def ah (op:Nat):B:=(eR.getD op ([],[])).2
def cN:List B:=[x7,vE,oX,sa]
def fp (w:B):Option Nat:=lI cN w 0
def cf:B->B×Option B
 |[]=>([],none)
 |c::r=>if c=46 then([],some r)else(c::(cf r).1,(cf r).2)
def bL (w:B):Option (B×Nat):=
 match (cf w).2 with
 |none=>some ((cf w).1,0)
 |some t=>if t=[97]then some ((cf w).1,1)else if t=[98]then some ((cf w).1,2)else if t=[115]then some ((cf w).1,3)else none
def aH (w:B):Option Int:=
 match w with
 |[]=>none
 |c::_=>if digit c=true/\¬(c=48/\w≠[48])then cQ 0 w else none
def cX (w:B):Option Int:=
 match w with
 |[]=>aH w
 |c::r=>if c=45 then(match aH r with|none=>none|some n=>if n=0 then none else some (-n))else aH w
def du (w:B)(c:UInt8):Bool:=
 if c=100\/c=105\/c=111 then isName w
 else if c=116 then(fp w).isSome
 else if c=112\/c=109 then(match bL w with|some x=>isName x.1|none=>false)
 else if c=35 then(cX w).isSome
 else if c=98 then(aH w).isSome
 else if c=102 then(match aH w with|some n=>decide (n<50)|none=>false)
 else if c=118 then w==[48]||w==[49]
 else false
def bc:B->List B->Bool
 |[],_=>true
 |c::f,ws=>du (word ws 0) c&&bc f (ws.drop 1)
def db (ws:List B):Option (Nat×List B):=
 match ew (word ws 0)with
 |none=>none
 |some op=>if ws.length-1=(ah op).length/\bc (ah op) (ws.drop 1)=true then some (op,ws.drop 1)else none
def iq (raw:Bool)(op:Nat):Bool:=if op=15 then !raw else if op=16\/op=17\/op=21 then raw else true
structure eA where
 sec:Nat
 locals:Nat
 blocks:Nat
def aD (raw:Bool)(o:eA)(op:Nat):eA×Bool:=
 if iq raw op=false then(o,false)
 else if op=0 then(⟨o.sec,o.locals+1,o.blocks⟩,o.sec==0&&decide (o.locals+1<=12))
 else if op=1 then(⟨1,o.locals,o.blocks+1⟩,decide (0<o.locals)&& !(o.sec==1)&&decide (o.blocks+1<=if raw then 2000 else 20))
 else if¬o.sec=1 then(o,false)
 else if 18<=op then(⟨2,o.locals,o.blocks⟩,true)
 else(o,true)
theorem zh (l:List B)(w:B)(k n:Nat)(h:lI l w k=some n):k<=n/\n-k<l.length/\l.getD (n-k) []=w:=by
 induction l generalizing k with
 |nil=>simp[lI]at h
 |cons s r ih=>
  rw[lI]at h;split at h
  ·rename_i hs;obtain rfl:k=n:=by simpa using h
   simp[hs]
  ·obtain⟨h1,h2,h3⟩:=ih (k+1) h;refine⟨by omega,by simp;omega,?_⟩;rw[show n-k=(n-(k+1))+1 by omega];simpa using h3
theorem mH {w:B}{n:Nat}(h:ew w=some n):n<23:=by
 have:=(zh _ _ _ _ h).2.1;simpa [eR]using this
def letter (c:UInt8):UInt8:=if c=35 then 110 else if c=98 then 78 else c
theorem pW:∀(l:B) (n m:Int),0<=n->cQ n l=some m->n<=m
 |[],n,m,_,h=>by simp[cQ]at h;omega
 |c::r,n,m,h0,h=>by
  rw[cQ]at h;split at h
  ·rename_i hd;simp only[digit,Bool.and_eq_true,decide_eq_true_eq]at hd;split at h
   ·cases h
   ·have:=pW r _ m (by omega) h;omega
  ·cases h
theorem MN {c:UInt8}{r:B}{m:Int}(hc:¬c=48)(h:cQ 0 (c::r)=some m):1<=m:=by
 rw[cQ]at h;split at h
 ·rename_i hd;simp only[digit,Bool.and_eq_true,decide_eq_true_eq]at hd;have QJ:¬c.toNat=48:=fun e=>hc ((xC c 48 (by omega)).mpr e)
  split at h
  ·cases h
  ·have:=pW r _ m (by omega) h;omega
 ·cases h
theorem q5 {c:UInt8}{r:B}(n:Int)(h:¬digit c=true):cQ n (c::r)=none:=by rw[cQ,ja h]
theorem l8 {c:UInt8}{r:B}(hc:¬c=45):number (c::r)=aH (c::r):=by
 have hu:mV (c::r)=c::r:=by simp[mV,hc]
 have hs:signed (c::r)=false:=by simp[signed,hc]
 rw[number,hu,hs,aH];by_cases h0:c=48/\(c::r)≠[48]
 ·rw[jb (.inr ⟨by rw[h0.1];rfl,h0.2⟩),ja (fun e=>e.2 h0)]
 ·rw[ja (by simp only[List.length_cons,List.head?_cons,Option.some.injEq];rintro(h|h);omega;exact h0 h)];by_cases hd:digit c=true
  ·rw[jb ⟨hd,h0⟩];cases cQ 0 (c::r)<;>simp
  ·rw[ja (fun e=>hd e.1),q5 _ hd]
theorem Cs (w:B):cX w=number w:=by
 cases w with
 |nil=>rfl
 |cons c r=>
  rw[cX];by_cases hc:c=45
  ·subst hc;have hu:mV (45::r)=r:=rfl;have hs:signed (45::r)=true:=rfl;rw[jb rfl,number,hu,hs];cases r with
   |nil=>rfl
   |cons d t=>
    by_cases hd:d=48
    ·subst hd;rw[jb (.inr ⟨rfl,by simp⟩),aH];by_cases ht:t=[]
     ·subst ht;rfl
     ·rw[ja (fun e=>e.2 ⟨rfl,by simp[ht]⟩)]
    ·rw[ja (by simp[hd]),aH];by_cases hdg:digit d=true
     ·rw[jb ⟨hdg,fun e=>hd e.1⟩];cases hn:cQ 0 (d::t)with
      |none=>rfl
      |some n=>
       have:=MN hd hn;simp only;rw[ja (by omega)];rfl
     ·rw[ja (fun e=>hdg e.1),q5 _ hdg]
  ·rw[ja hc,l8 hc]
theorem zS {r:B}{n:Int}(h:number (45::r)=some n):n<=-1:=by
 rw[<-Cs,cX,jb rfl]at h;cases hd:aH r with
 |none=>rw[hd]at h;cases h
 |some m=>
  rw[hd]at h;simp only at h;split at h
  ·cases h
  ·simp only[Option.some.injEq]at h;have:0<=m:=by
    cases r with
    |nil=>cases hd
    |cons c t=>
     rw[aH]at hd;split at hd
     ·exact pW _ _ _ (by omega) hd
     ·cases hd
   omega
theorem yL {w:B}{m:Int}(hd:aH w=some m):0<=m:=by
 cases w with
 |nil=>cases hd
 |cons c t=>
  rw[aH]at hd;split at hd
  ·exact pW _ _ _ (by omega) hd
  ·cases hd
theorem yK (w:B):aH w=match number w with|some n=>if 0<=n then some n else none|none=>none:=by
 cases w with
 |nil=>rfl
 |cons c r=>
  by_cases hc:c=45
  ·subst hc;have h1:aH (45::r)=none:=by rw[aH,ja (fun e=>absurd e.1 (by decide))]
   rw[h1];cases hn:number (45::r)with
   |none=>rfl
   |some n=>have:=zS hn;simp only;rw[ja (by omega)]
  ·rw[l8 hc];cases hd:aH (c::r)with
   |none=>rfl
   |some n=>have:=yL hd;simp only;rw[jb this]
theorem TD (d:UInt8):cQ 0 [d]=if digit d then some ((d.toNat:Int)-48)else none:=by
 rw[cQ];split
 ·rename_i hd;simp only[digit,Bool.and_eq_true,decide_eq_true_eq]at hd;rw[ja (by omega)];simp[cQ]
 ·rfl
theorem Jb (w:B):(match number w with|some n=>decide (n=0)||decide (n=1)|none=>false)=(w==[48]||w==[49]):=by
 cases w with
 |nil=>rfl
 |cons c r=>
  by_cases hc:c=45
  ·subst hc;have:((45::r:B)==[48]||(45::r:B)==[49])=false:=by simp
   rw[this];cases hn:number (45::r)with
   |none=>rfl
   |some n=>have:=zS hn;simp;omega
  ·rw[l8 hc,aH];by_cases QJ:c=48
   ·subst QJ;by_cases hr:r=[]
    ·subst hr;rfl
    ·rw[ja (fun e=>e.2 ⟨rfl,by simp[hr]⟩)];simp[hr]
   ·by_cases hd:digit c=true
    ·rw[jb ⟨hd,fun e=>QJ e.1⟩];have LQ:=hd;simp only[digit,Bool.and_eq_true,decide_eq_true_eq]at LQ;have h48':¬c.toNat=48:=fun e=>QJ ((xC c 48 (by omega)).mpr e)
     rw[cQ,jb hd,ja (by omega)];cases r with
     |nil=>
      rw[cQ];simp only;have h49:(c==49)=decide (c.toNat=49):=by
       rw[jX];simp only[beq_iff_eq,decide_eq_true_eq];exact xC c 49 (by omega)
      have e1:(([c]:B)==[48])=false:=by simp[QJ]
      have e2:(([c]:B)==[49])=(c==49):=by simp
      rw[e1,e2,h49,jX];simp;omega
     |cons d t=>
      have:((c::d::t:B)==[48]||(c::d::t:B)==[49])=false:=by simp
      rw[this,cQ];by_cases hdd:digit d=true
      ·rw[jb hdd];simp only[digit,Bool.and_eq_true,decide_eq_true_eq]at hdd;by_cases Th:10*(10*0+((c.toNat:Int)-48))+((d.toNat:Int)-48)>1000000000
       ·rw[jb Th]
       ·rw[ja Th];cases hn:cQ (10*(10*0+((c.toNat:Int)-48))+((d.toNat:Int)-48)) t with
        |none=>rfl
        |some n=>have:=pW _ _ _ (by omega) hn;simp;omega
      ·rw[ja hdd]
    ·rw[ja (fun e=>hd e.1)];have e1:¬c=49:=fun e=>hd (by rw[e];decide)
     simp[QJ,e1]
theorem lE:∀{w:B},(cf w).2=none->(cf w).1=w/\¬(46:UInt8)∈w
 |[],_=>by simp[cf]
 |c::r,h=>by
  rw[cf]at h⊢;split at h
  ·cases h
  ·rename_i hc;obtain⟨h1,h2⟩:=lE (w:=r) h;rw[ja hc];exact⟨by simp[h1],by simp only[List.mem_cons,not_or];exact⟨fun e=>hc e.symm,h2⟩⟩
theorem lF:∀{w t:B},(cf w).2=some t->w=(cf w).1++46::t/\¬(46:UInt8)∈(cf w).1
 |[],t,h=>by simp[cf]at h
 |c::r,t,h=>by
  rw[cf]at h⊢;split at h
  ·rename_i hc;simp only[Option.some.injEq]at h;rw[jb hc,hc,h];simp
  ·rename_i hc;obtain⟨h1,h2⟩:=lF (w:=r) h;rw[ja hc];exact⟨by simp only[List.cons_append,List.cons.injEq,true_and];exact h1,by simp only[List.mem_cons,not_or];exact⟨fun e=>hc e.symm,h2⟩⟩
theorem fc {l:B}(h:(46:UInt8)∈l):isName l=false:=by
 rw[isName];have:l.all lower=false:=by
  rw[Bool.eq_false_iff];intro hh;have:=List.all_eq_true.mp hh 46 h;simp[lower]at this
 simp[this]
theorem tN {w:B}(h:¬(46:UInt8)∈w):ia w=false:=by
 rw[ia];rw[Bool.eq_false_iff];intro hh;simp only[Bool.and_eq_true,decide_eq_true_eq,beq_iff_eq]at hh;exact h (List.mem_of_getElem? hh.2)
theorem kX (w:B):(match bL w with|some x=>isName x.1|none=>false)=dy w:=by
 rw[bL];cases h:(cf w).2 with
 |none=>
  obtain⟨h1,h2⟩:=lE h;have hd:=tN h2;simp[dy,bh,hd,h1]
 |some t=>
  obtain⟨h1,h2⟩:=lF h;generalize (cf w).1=a at h1 h2;have E5:(46:UInt8)∈w:=by rw[h1];simp
  have hlen:w.length=a.length+1+t.length:=by rw[h1];simp;omega
  simp only;have side:∀b:Bool,(¬t.length=1)->b=false->b=dy w:=by
   intro b ht hb;rw[hb,dy];have:isName (bh w)=false:=by
    rw[bh];split
    ·rename_i hd;rw[ia]at hd;simp only[Bool.and_eq_true,decide_eq_true_eq,beq_iff_eq]at hd;apply fc
     by_cases qM:t.length=0
     ·exfalso;have:t=[]:=List.eq_nil_of_length_eq_zero qM;subst this;have hx:=hd.2;rw[h1,jg (by simp;simp at hlen;omega)]at hx;exact h2 (List.mem_of_getElem? hx)
     ·rw[h1,List.take_append];have:1<=(a++46::t).length-2-a.length:=by simp;omega
      obtain⟨m,hm⟩:∃m,(a++46::t).length-2-a.length=m+1:=⟨_,(Nat.sub_add_cancel this).symm⟩;rw[hm];simp
    ·exact fc E5
   rw[this];rfl
  by_cases ht:t.length=1
  ·obtain⟨x,rfl⟩:=List.length_eq_one_iff.mp ht;by_cases ha:a=[]
   ·subst ha;have hd:ia w=false:=by rw[ia,hlen];rfl
    have hn:isName w=false:=fc E5;have hp:dy w=false:=by simp[dy,bh,hd,hn]
    rw[hp];have L6:isName []=false:=rfl;split
    ·rename_i y hy;have:y.1=[]:=by
      revert hy
      repeat (first|(split;(intro e;cases e;rfl))|(intro e;cases e))
     rw[this];rfl
    ·rfl
   ·have Vu:1<=a.length:=by cases a;exact absurd rfl ha;simp
    have hx:w[w.length-2]?=some 46:=by
     rw[hlen,h1];simp
    have hd:ia w=true:=by rw[ia,hx];simp;simp at hlen;omega
    have hl:bh w=a:=by rw[bh,jb hd,h1];simp
    have hpt:partOf w=x:=by rw[partOf,jb hd,h1];simp
    have dB:¬a=w:=by intro e;have:=congrArg List.length e;simp at hlen;omega
    rw[dy,hl,hpt];simp only[List.cons.injEq,and_true];by_cases h97:x=97
    ·subst h97;simp
    ·by_cases tA:x=98
     ·subst tA;simp
     ·by_cases h115:x=115
      ·subst h115;simp
      ·simp[h97,tA,h115,dB]
  ·refine side _ ht ?_;have n97:¬t=[97]:=fun e=>ht (by rw[e];rfl)
   have n98:¬t=[98]:=fun e=>ht (by rw[e];rfl)
   have n115:¬t=[115]:=fun e=>ht (by rw[e];rfl)
   rw[ja n97,ja n98,ja n115]
end Sq
namespace Sq
open Go
theorem ld (text:B):(br text).length=(split 10 text).length:=by simp[br]
theorem iy (c:UInt8)(l:B):1<=(split c l).length:=by
 have:=Gx c l;cases hs:split c l with
 |nil=>exact absurd hs this
 |cons a b=>simp
theorem ji (c:UInt8)(l:B)(j:Nat):(word (split c l) j).length<=l.length:=by
 by_cases hj:j<(split c l).length
 ·exact vo c l _ (by simp[word,hj])
 ·simp[word,List.getD_eq_getElem?_getD,List.getElem?_eq_none (Nat.le_of_not_lt hj)]
end Sq
end Go.Proofs.YtmlgajhhnojdjaaGreatDoor

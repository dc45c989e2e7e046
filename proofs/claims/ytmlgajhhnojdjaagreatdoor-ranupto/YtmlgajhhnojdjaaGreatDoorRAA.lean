import Derived.Shelf.Small.Wraps
import Derived.Shelf.Strconv.Itoa4
import Derived.Shelf.Strings.OnBuilder
import Derived.Test.YtmlgajhhnojdjaaGreatDoorProg
namespace Go.Proofs.YtmlgajhhnojdjaaGreatDoor
theorem jA:type_of% @List.getD_eq_getElem?_getD:= @List.getD_eq_getElem?_getD
theorem jB:type_of% @List.getElem?_eq_getElem:= @List.getElem?_eq_getElem
theorem jC:type_of% @Nat.le_refl:= @Nat.le_refl
theorem jD:type_of% @Array.getElem?_push_size:= @Array.getElem?_push_size
theorem jE:type_of% @List.drop_eq_getElem_cons:= @List.drop_eq_getElem_cons
theorem jF:type_of% @Option.some.injEq:= @Option.some.injEq
theorem jG:type_of% @List.getElem?_eq_none:= @List.getElem?_eq_none
theorem jH:type_of% @Bool.and_eq_true:= @Bool.and_eq_true
theorem jI:type_of% @List.mem_singleton:= @List.mem_singleton
theorem jJ:type_of% @List.getElem?_map:= @List.getElem?_map
theorem jK:type_of% @Nat.lt_of_lt_of_le:= @Nat.lt_of_lt_of_le
theorem jL:type_of% @List.getElem_mem:= @List.getElem_mem
theorem jM:type_of% @List.mem_cons_self:= @List.mem_cons_self
theorem jN:type_of% @List.mem_cons_of_mem:= @List.mem_cons_of_mem
theorem jO:type_of% @List.getElem?_replicate:= @List.getElem?_replicate
theorem jP:type_of% @List.mem_cons:= @List.mem_cons
theorem jQ:type_of% @Nat.zero_le:= @Nat.zero_le
theorem jR:type_of% @List.not_mem_nil:= @List.not_mem_nil
theorem jS:type_of% @Nat.le_trans:= @Nat.le_trans
theorem jT:type_of% @List.drop_eq_nil_of_le:= @List.drop_eq_nil_of_le
theorem jU:type_of% @Go.Value.slice.injEq:= @Go.Value.slice.injEq
theorem jV:type_of% @List.length_append:= @List.length_append
theorem jW:type_of% @List.cons_append:= @List.cons_append
theorem jX:type_of% @Bool.eq_iff_iff:= @Bool.eq_iff_iff
theorem jY:type_of% @List.length_cons:= @List.length_cons
theorem jZ:type_of% @beq_eq_false_iff_ne:= @beq_eq_false_iff_ne
theorem ja:type_of% @if_neg:= @if_neg
theorem jb:type_of% @if_pos:= @if_pos
theorem jc:type_of% @List.length_map:= @List.length_map
theorem jd:type_of% @List.getElem?_set:= @List.getElem?_set
theorem je:type_of% @Prod.mk.injEq:= @Prod.mk.injEq
theorem jf:type_of% @List.getElem?_append_right:= @List.getElem?_append_right
theorem jg:type_of% @List.getElem?_append_left:= @List.getElem?_append_left
end Go.Proofs.YtmlgajhhnojdjaaGreatDoor
namespace Go.Proofs
open Go.Shelf
def Tryz.yW:Go.Shelf.Ren:=⟨fun|156=>83|165=>135|166=>136|169=>137|240=>184|241=>185|276=>216|277=>217|n=>n,fun|31=>34|9=>9|3=>3|4=>4|0=>0|20=>20|72=>219|76=>222|70=>217|37=>93|75=>221|127=>257|164=>286|5=>5|80=>82|n=>n,fun|n=>n⟩
theorem Tryz.MY:Go.Proofs.Lays.n156 Tryz.prog Tryz.yW:={
 mixed:=by kernel_rfl
 f156:=Tryz.func83.trans (congrArg some (by kernel_rfl))
 f165:=Tryz.func135.trans (congrArg some (by kernel_rfl))
 f166:=Tryz.func136.trans (congrArg some (by kernel_rfl))
 f169:=Tryz.func137.trans (congrArg some (by kernel_rfl))
 f240:=Tryz.func184.trans (congrArg some (by kernel_rfl))
 f241:=Tryz.func185.trans (congrArg some (by kernel_rfl))
 f276:=Tryz.func216.trans (congrArg some (by kernel_rfl))
 f277:=Tryz.func217.trans (congrArg some (by kernel_rfl))
 t0:=Tryz.underlying0
 a0:=Tryz.isAgg0
 z0:=Tryz.sizeOf0
 v0:=Tryz.zeroValue0
 t3:=Tryz.underlying3
 a3:=Tryz.isAgg3
 z3:=Tryz.sizeOf3
 v3:=Tryz.zeroValue3
 t4:=Tryz.underlying4
 a4:=Tryz.isAgg4
 z4:=Tryz.sizeOf4
 v4:=Tryz.zeroValue4
 t9:=Tryz.underlying9
 a9:=Tryz.isAgg9
 z9:=Tryz.sizeOf9
 v9:=Tryz.zeroValue9
 t20:=Tryz.underlying20
 a20:=Tryz.isAgg20
 z20:=Tryz.sizeOf20
 v20:=Tryz.zeroValue20
 t31:=Tryz.underlying34
 a31:=Tryz.isAgg34
 z31:=Tryz.sizeOf34
 v31:=Tryz.zeroValue34
 t37:=Tryz.underlying93
 a37:=Tryz.isAgg93
 z37:=Tryz.sizeOf93
 v37:=Tryz.zeroValue93
 t70:=Tryz.underlying217
 a70:=Tryz.isAgg217
 z70:=Tryz.sizeOf217
 v70:=Tryz.zeroValue217
 t72:=Tryz.underlying219
 a72:=Tryz.isAgg219
 z72:=Tryz.sizeOf219
 v72:=Tryz.zeroValue219
 t75:=Tryz.underlying221
 a75:=Tryz.isAgg221
 z75:=Tryz.sizeOf221
 v75:=Tryz.zeroValue221
 t76:=Tryz.underlying222
 a76:=Tryz.isAgg222
 z76:=Tryz.sizeOf222
 v76:=Tryz.zeroValue222
 t127:=Tryz.underlying257
 a127:=Tryz.isAgg257
 z127:=Tryz.sizeOf257
 v127:=Tryz.zeroValue257
 t164:=Tryz.underlying286
 a164:=Tryz.isAgg286
 z164:=Tryz.sizeOf286
 v164:=Tryz.zeroValue286}
theorem Tryz.mS:Builder.Extra Tryz.prog Tryz.yW:={
 sizeBuilder:=by kernel_rfl
 liesBuilder:=by kernel_rfl
 t5:=Tryz.underlying5
 a5:=Tryz.isAgg5
 z5:=Tryz.sizeOf5
 v5:=Tryz.zeroValue5
 infoByte:=by kernel_rfl
 cellsByte:=by kernel_rfl
 sizeByte:=by kernel_rfl
 neB5:=by decide}
open Go.RowKit in
theorem Tryz.strings_Join_none (a:Option Addr)(c:Nat)(sep:ByteArray)(w:World):
  Calls Tryz.prog 83 #[.slice a 0 c,.string sep] w fun e w'=>e=.returned (.string ⟨#[]⟩)/\w'=w:=Any.strings_Join_none Tryz.MY Tryz.mS a c sep w
open Go.RowKit in
theorem Tryz.strings_Join (bk o c:Nat)(xs:List ByteArray)(sep:ByteArray)(w:World)(Er:∀(j:Nat) x,xs[j]?=some x->w.cell? ⟨bk,o+j,none⟩=some (.string x))(Rl:bk<w.heap.size)(hN:xs.length<=140737488355328)(kL:xs.length<=c)(hlen:(Lib.join (xs.map (·.data.toList)) sep.data.toList).length<=140737488355328):
  Calls Tryz.prog 83 #[.slice (some ⟨bk,o,none⟩) xs.length c,.string sep] w fun e w'=>e=.returned (.string ⟨(Lib.join (xs.map (·.data.toList)) sep.data.toList).toArray⟩)/\Below w.heap.size w w':=Any.strings_Join Tryz.MY Tryz.mS bk o c xs sep w Er Rl hN kL hlen
def Tryz.EH:Go.Shelf.Ren:=⟨fun|173=>133|246=>182|283=>212|284=>213|285=>214|286=>215|129=>232|317=>231|318=>233|319=>234|320=>235|337=>242|338=>243|n=>n,fun|2=>2|3=>3|9=>9|4=>4|171=>90|0=>0|53=>281|37=>93|5=>5|173=>284|212=>299|51=>300|20=>20|213=>301|46=>292|232=>313|233=>314|n=>n,fun|17=>4|18=>7|19=>8|n=>n⟩
theorem Tryz.R7:Go.Proofs.LaysM.n173 Tryz.prog Tryz.EH:={
 mixed:=by kernel_rfl
 f129:=Tryz.func232.trans (congrArg some (by kernel_rfl))
 f173:=Tryz.func133.trans (congrArg some (by kernel_rfl))
 f246:=Tryz.func182.trans (congrArg some (by kernel_rfl))
 f283:=Tryz.func212.trans (congrArg some (by kernel_rfl))
 f284:=Tryz.func213.trans (congrArg some (by kernel_rfl))
 f285:=Tryz.func214.trans (congrArg some (by kernel_rfl))
 f286:=Tryz.func215.trans (congrArg some (by kernel_rfl))
 f317:=Tryz.func231.trans (congrArg some (by kernel_rfl))
 f318:=Tryz.func233.trans (congrArg some (by kernel_rfl))
 f319:=Tryz.func234.trans (congrArg some (by kernel_rfl))
 f320:=Tryz.func235.trans (congrArg some (by kernel_rfl))
 f337:=Tryz.func242.trans (congrArg some (by kernel_rfl))
 f338:=Tryz.func243.trans (congrArg some (by kernel_rfl))
 t0:=Tryz.underlying0
 a0:=Tryz.isAgg0
 z0:=Tryz.sizeOf0
 v0:=Tryz.zeroValue0
 t2:=Tryz.underlying2
 a2:=Tryz.isAgg2
 z2:=Tryz.sizeOf2
 v2:=Tryz.zeroValue2
 t3:=Tryz.underlying3
 a3:=Tryz.isAgg3
 z3:=Tryz.sizeOf3
 v3:=Tryz.zeroValue3
 t4:=Tryz.underlying4
 a4:=Tryz.isAgg4
 z4:=Tryz.sizeOf4
 v4:=Tryz.zeroValue4
 t5:=Tryz.underlying5
 a5:=Tryz.isAgg5
 z5:=Tryz.sizeOf5
 v5:=Tryz.zeroValue5
 t9:=Tryz.underlying9
 a9:=Tryz.isAgg9
 z9:=Tryz.sizeOf9
 v9:=Tryz.zeroValue9
 t20:=Tryz.underlying20
 a20:=Tryz.isAgg20
 z20:=Tryz.sizeOf20
 v20:=Tryz.zeroValue20
 t37:=Tryz.underlying93
 a37:=Tryz.isAgg93
 z37:=Tryz.sizeOf93
 v37:=Tryz.zeroValue93
 t46:=Tryz.underlying292
 a46:=Tryz.isAgg292
 z46:=Tryz.sizeOf292
 v46:=Tryz.zeroValue292
 t51:=Tryz.underlying300
 a51:=Tryz.isAgg300
 z51:=Tryz.sizeOf300
 v51:=Tryz.zeroValue300
 t53:=Tryz.underlying281
 a53:=Tryz.isAgg281
 z53:=Tryz.sizeOf281
 v53:=Tryz.zeroValue281
 t171:=Tryz.underlying90
 a171:=Tryz.isAgg90
 z171:=Tryz.sizeOf90
 v171:=Tryz.zeroValue90
 t173:=Tryz.underlying284
 a173:=Tryz.isAgg284
 z173:=Tryz.sizeOf284
 v173:=Tryz.zeroValue284
 t212:=Tryz.underlying299
 a212:=Tryz.isAgg299
 z212:=Tryz.sizeOf299
 v212:=Tryz.zeroValue299
 t213:=Tryz.underlying301
 a213:=Tryz.isAgg301
 z213:=Tryz.sizeOf301
 t232:=Tryz.underlying313
 a232:=Tryz.isAgg313
 z232:=Tryz.sizeOf313
 v232:=Tryz.zeroValue313
 t233:=Tryz.underlying314
 a233:=Tryz.isAgg314
 z233:=Tryz.sizeOf314
 v233:=Tryz.zeroValue314
 g17:=by kernel_rfl
 g18:=by kernel_rfl
 g19:=by kernel_rfl
 i0:=by kernel_rfl
 i2:=by kernel_rfl
 i3:=by kernel_rfl
 i4:=by kernel_rfl
 i5:=by kernel_rfl
 i9:=by kernel_rfl
 i20:=by kernel_rfl
 i37:=by kernel_rfl
 i46:=by kernel_rfl
 i51:=by kernel_rfl
 i53:=by kernel_rfl
 i171:=by kernel_rfl
 i173:=by kernel_rfl
 i212:=by kernel_rfl
 i232:=by kernel_rfl
 i233:=by kernel_rfl
 m17:=by kernel_rfl
 m18:=by kernel_rfl
 m19:=by kernel_rfl}
open Go.RowKit Go.Sort Go.Lib in
theorem Tryz.strconv_FormatInt_10 (n:Int)(h0: -9223372036854775808<=n)(h1:n<=9223372036854775807)(w:World)(htab:Lib.TabIs Tryz.prog w "internal/strconv.uint64pow10" .u64 Lib.pow10Tab):
  Calls Tryz.prog 133 #[.int .i64 n,.int .i64 10] w fun e w'=>e=.returned (.string ⟨(Lib.itoa n).toArray⟩)/\∃k os,w'=grow (w.drewN k) os:=Any.strconv_FormatInt_10 Tryz.R7 n h0 h1 w htab
end Go.Proofs
namespace Go.Proofs.YtmlgajhhnojdjaaGreatDoor
namespace Sq
open Go
abbrev B:=List UInt8
def bs (l:B):ByteArray:=⟨l.toArray⟩
@[simp] theorem aD (l : B) : (bs l).toList = l := ByteArray.toList_mk l
theorem xC (s:ByteArray):bs s.toList=s:=by
 rw[ByteArray.toList_eq];cases s;simp[bs]
@[simp] theorem dQ (l : B) : (bs l).size = l.length := by simp [bs, ByteArray.size]
theorem length_toList (s:ByteArray):s.toList.length=s.size:=by
 rw[ByteArray.toList_eq];cases s;simp[ByteArray.size]
theorem AE {s:ByteArray}{l:B}(h:s.toList=l):s=bs l:=by rw[<-h,xC]
theorem getElem_toList (s:ByteArray)(k:Nat)(h:k<s.size):s[k]=s.toList[k]'(by rw[length_toList];exact h):=by
 have e:s.toList=s.data.toList:=ByteArray.toList_eq s;simp only[e];cases s;rfl
theorem getElem?_toList (s:ByteArray)(k:Nat)(h:k<s.size):s.toList[k]?=some s[k]:=by
 rw[getElem_toList s k h];exact jB _
theorem extract_toList (s:ByteArray)(a b:Nat):(s.extract a b).toList=(s.toList.drop a).take (b-a):=by
 rw[ByteArray.toList_eq,ByteArray.toList_eq];have:(s.extract a b).data=s.data.extract a b:=by simp
 rw[this];simp[List.extract_eq_take_drop]
theorem extract_eq (s:ByteArray)(a b:Nat):s.extract a b=bs ((s.toList.drop a).take (b-a)):=AE (extract_toList s a b)
@[simp] theorem WY (l : B) (k : Nat) (h : k < (bs l).size) : (bs l)[k] = l[k]'(by simpa using h) := by
 rw[getElem_toList (bs l) k h];simp
def lower (c:UInt8):Bool:=decide (97<=c.toNat)&&decide (c.toNat<=122)
def digit (c:UInt8):Bool:=decide (48<=c.toNat)&&decide (c.toNat<=57)
def isName (l:B):Bool:=l.all lower&&decide (1<=l.length)&&decide (l.length<=4)
def cg:Int->B->Option Int
 |n,[]=>some n
 |n,c::r=>if digit c then(if 10*n+(c.toNat-48)>1000000000 then none else cg (10*n+(c.toNat-48)) r)else none
def dk (s:B):B:=match s with|c::r=>if c=45 then r else s|[]=>s
def signed (s:B):Bool:=match s with|c::_=>decide (c=45)|[]=>false
def number (s:B):Option Int:=
 if(dk s).length<1\/((dk s).head?=some 48/\s≠[48])then none
 else match cg 0 (dk s)with
  |none=>none
  |some n=>some (if signed s then-n else n)
def dv (w:B):Bool:=decide (2<w.length)&&(w[w.length-2]?==some 46)
def ai (w:B):B:=if dv w then w.take (w.length-2)else w
def partOf (w:B):UInt8:=if dv w then w.getLastD 0 else 0
def bW (w:B):Bool:=isName (ai w)&&(decide (ai w=w)||partOf w==97||partOf w==98||partOf w==115)
def ends (w:B):Bool:=w==[103,111,116,111]||w==[105,102]||w==[109,97,116,99,104]||w==[101,110,100]||w==[116,101,115,116]
def behind (w:B)(raw:Bool):B×Bool:=
 if w=[115,101,116]then([105,110],true)
 else if w=[97,100,100]\/w=[115,117,98]\/w=[109,117,108]\/w=[100,105,118]then([105,105,105],true)
 else if w=[105,110]\/w=[111,117,116]\/w=[101,110,100]then([105],true)
 else if w=[110,101,119]\/w=[115,116,111,114,101]then([112,105],true)
 else if w=[108,111,97,100]then([105,112],true)
 else if w=[109,111,118,101]then([109,109],true)
 else if w=[110,111,110,101]then([111],true)
 else if w=[115,111,109,101]then([111,112],true)
 else if w=[103,111,116,111]then([78],true)
 else if w=[105,102]then([105,78,78],true)
 else if w=[109,97,116,99,104]then([111,78,78],true)
 else if w=[100,114,111,112]then([100],!raw)
 else if w=[102,114,101,101]then([112],raw)
 else if w=[102,108,97,103]then([102,118],raw)
 else if w=[116,101,115,116]then([102,78,78],raw)
 else([],false)
def iB (kind:UInt8)(w:B):Bool:=
 if kind=105\/kind=111 then isName w
 else if kind=112\/kind=109\/kind=100 then bW w
 else if kind=110 then(number w).isSome
 else if kind=78 then match number w with|some n=>decide (0<=n)|none=>false
 else if kind=102 then match number w with|some n=>decide (0<=n)&&decide (n<50)|none=>false
 else match number w with|some n=>decide (n=0)||decide (n=1)|none=>false
theorem kV (a:UInt8)(n:Nat)(hn:n<256):a=UInt8.ofNat n↔a.toNat=n:=by
 rw[<-UInt8.toNat_inj,UInt8.toNat_ofNat_of_lt' (by simpa using hn)]
theorem G5 (w:B):bW w=(isName (ai w)&&(decide (ai w=w)||decide ((partOf w).toNat=97)||decide ((partOf w).toNat=98)||decide ((partOf w).toNat=115))):=by
 have e1:=kV (partOf w) 97 (by omega);have e2:=kV (partOf w) 98 (by omega);have e3:=kV (partOf w) 115 (by omega);rw[jX];simp only[bW,Bool.and_eq_true,Bool.or_eq_true,decide_eq_true_eq,beq_iff_eq];rw[<-e1,<-e2,<-e3];rfl
end Sq
namespace Sq
open Go
def eS (p:B):List B->List B
 |[]=>[p]
 |h::t=>(p++h)::t
def split (c:UInt8):B->List B
 |[]=>[[]]
 |x::r=>if x=c then []::split c r else eS [x] (split c r)
theorem o9 (c:UInt8)(l:B):split c l≠[]:=by
 cases l with
 |nil=>simp[split]
 |cons x r=>rw[split];split;simp;cases h:split c r<;>simp[eS]
theorem lP (c:UInt8)(l:B):(split c l).length<=l.length+1:=by
 induction l with
 |nil=>simp[split]
 |cons x r ih=>
  rw[split];split
  ·simp;omega
  ·cases h:split c r with
   |nil=>simp[eS]
   |cons a b=>rw[h]at ih;simp[eS]at ih⊢;omega
theorem yC {L:List B}(h:L≠[]):eS [] L=L:=by
 cases L with
 |nil=>exact absurd rfl h
 |cons a b=>rfl
theorem FM (p q:B)(L:List B)(h:L≠[]):eS p (eS q L)=eS (p++q) L:=by
 cases L with
 |nil=>exact absurd rfl h
 |cons a b=>simp[eS]
theorem x7 (c:UInt8)(l:B):∀x∈split c l,x.length<=l.length:=by
 induction l with
 |nil=>simp[split]
 |cons a r ih=>
  intro x hx;rw[split]at hx;split at hx
  ·rcases jP.mp hx with rfl|hx
   ·simp
   ·have:=ih x hx;simp;omega
  ·cases h:split c r with
   |nil=>exact absurd h (o9 c r)
   |cons p q=>
    rw[h]at hx ih;simp only[eS,List.mem_cons]at hx;rcases hx with rfl|hx
    ·have:=ih p (by simp);simp;omega
    ·have:=ih x (by simp[hx]);simp;omega
def kf (c:UInt8)(l:B)(done:List B)(f k:Nat):Prop:=split c l=done++eS ((l.drop f).take (k-f)) (split c (l.drop k))
theorem ET (c:UInt8)(l:B):kf c l [] 0 0:=by
 simp[kf,yC (o9 c l)]
theorem PU (l:B)(f k:Nat)(hf:f<=k)(hk:k<l.length):(l.drop f).take (k+1-f)=(l.drop f).take (k-f)++[l[k]]:=by
 have e:k+1-f=k-f+1:=by omega
 rw[e,List.take_add_one,List.getElem?_drop,show f+(k-f)=k by omega,jB hk];rfl
theorem Pk {c:UInt8}{l:B}{done:List B}{f k:Nat}(h:kf c l done f k)(hf:f<=k)(hk:k<l.length)(hc:¬l[k]=c):kf c l done f (k+1):=by
 unfold kf at h⊢;rw[h,jE hk,split,ja hc,FM _ _ _ (o9 _ _),PU l f k hf hk]
theorem Pj {c:UInt8}{l:B}{done:List B}{f k:Nat}(h:kf c l done f k)(hk:k<l.length)(hc:l[k]=c):kf c l (done++[(l.drop f).take (k-f)]) (k+1) (k+1):=by
 unfold kf at h⊢;rw[h,jE hk,split,jb hc,Nat.sub_self,List.take_zero,yC (o9 _ _)];simp[eS]
theorem LH {c:UInt8}{l:B}{done:List B}{f k:Nat}(h:kf c l done f k)(hk:k=l.length):split c l=done++[(l.drop f).take (k-f)]:=by
 unfold kf at h;rw[h,hk,List.drop_length,split];simp[eS]
theorem Cy {c:UInt8}{l:B}{done:List B}{f k:Nat}(h:kf c l done f k):done.length<=l.length:=by
 have h1:=lP c l;unfold kf at h;rw[h,jV]at h1;have:1<=(eS ((l.drop f).take (k-f)) (split c (l.drop k))).length:=by
  cases hs:split c (l.drop k)<;>simp[eS]
 omega
def cellsOf (L:List B):List Value:=L.map fun b=> .string (bs b)
end Sq
namespace Sq
open Go
structure RP where
 lines:List (List B)
 lets:List Nat
 blocks:List Nat
 raw:Bool
def cv:B:=[108,101,116]
def aQ:B:=[98,108,111,99,107]
def mM:B:=[105,110,116]
def kz:B:=[98,111,120]
def cj:B:=[112,97,105,114]
def eG:B:=[111,112,116]
def word (ws:List B)(k:Nat):B:=ws.getD k []
def RP.line (p:RP)(i:Nat):List B:=p.lines.getD i []
def lJ:List (List B)->Bool
 |[]=>false
 |ws::r=>if word ws 0=aQ then true else if ends (word ws 0)then false else lJ r
def RP.inside (p:RP)(i:Nat):Bool:=lJ (p.lines.take i).reverse
def RP.jh (p:RP)(name:B):List Nat->Nat->Int
 |[],_=> -1
 |t::r,k=>if word (p.line t) 1=name then k else RP.jh p name r (k+1)
def RP.find (p:RP)(name:B):Int:=p.jh name p.lets 0
theorem RP.NW (p:RP)(name:B):∀(l:List Nat) (k:Nat),0<=p.jh name l k->∃j,p.jh name l k=((k+j:Nat):Int)/\j<l.length/\word (p.line (l.getD j 0)) 1=name:=by
 intro l;induction l with
 |nil=>intro k h;simp[RP.jh]at h
 |cons t r ih=>
  intro k h;rw[RP.jh]at h⊢;by_cases hc:word (p.line t) 1=name
  ·rw[jb hc];exact⟨0,by simp,by simp,by simpa using hc⟩
  ·rw[ja hc]at h⊢;obtain⟨j,h1,h2,h3⟩:=ih (k+1) h;exact⟨j+1,by rw[h1];congr 1;omega,by simpa using h2,by simpa using h3⟩
theorem RP.ez {p:RP}{name:B}(h:0<=p.find name):∃j:Nat,p.find name=j/\j<p.lets.length/\word (p.line (p.lets.getD j 0)) 1=name:=by
 obtain⟨j,h1,h2,h3⟩:=p.NW name p.lets 0 h;exact⟨j,by unfold RP.find;rw[h1];simp,h2,h3⟩
def RP.j5 (p:RP)(w:B):B:=word (p.line (p.lets.getD (p.find (ai w)).toNat 0)) 2
def RP.typeOf (p:RP)(w:B):B:=
 if partOf w=97\/partOf w=98 then(if p.j5 w=cj then kz else [])
 else if partOf w=115 then(if p.j5 w=eG then kz else [])else p.j5 w
def RP.re (p:RP)(c:UInt8)(w:B):Bool:=
 if c=105\/c=111\/c=112\/c=109\/c=100 then decide (0<=p.find (ai w))
 else if c=78 then decide ((number w).getD 0<p.blocks.length)else true
def RP.er (p:RP):B->List B->Bool
 |[],_=>true
 |c::f,ws=>p.re c (word ws 0)&&RP.er p f (ws.drop 1)
def RP.names (p:RP)(i:Nat):Bool:=
 if word (p.line i) 0=cv then decide (p.lets.getD (p.find (word (p.line i) 1)).toNat 0=i)
 else p.er (behind (word (p.line i) 0) p.raw).1 ((p.line i).drop 1)
theorem RP.EN (p:RP)(f:B)(ws:List B)(k:Nat)(hk:k<f.length):p.er (f.drop k) (ws.drop (k+1))=(p.re f[k] (word ws (k+1))&&p.er (f.drop (k+1)) (ws.drop (k+2))):=by
 rw[jE hk,RP.er,List.drop_drop];simp[word]
def RP.dh (p:RP)(c:UInt8)(w w1:B):Bool:=
 if c=110\/c=78\/c=102\/c=118 then true
 else if p.typeOf w=[]then false
 else if(c=105/\p.typeOf w≠mM)\/(c=112/\p.typeOf w≠kz)\/(c=111/\p.typeOf w≠eG)then false
 else if(c=109\/c=100)/\p.typeOf w=mM then false
 else if c=109/\p.typeOf w≠p.typeOf w1 then false else true
def RP.fx (p:RP)(w1:B):B->List B->Bool
 |[],_=>true
 |c::f,ws=>p.dh c (word ws 0) w1&&RP.fx p w1 f (ws.drop 1)
def RP.types (p:RP)(i:Nat):Bool:=p.fx (word (p.line i) 1) (behind (word (p.line i) 0) p.raw).1 ((p.line i).drop 1)
theorem RP.Fi (p:RP)(w1:B)(f:B)(ws:List B)(k:Nat)(hk:k<f.length):p.fx w1 (f.drop k) (ws.drop (k+1))=(p.dh f[k] (word ws (k+1)) w1&&p.fx w1 (f.drop (k+1)) (ws.drop (k+2))):=by
 rw[jE hk,RP.fx,List.drop_drop];simp[word]
theorem Vd {c:Prop} [Decidable c](a b:B×Bool)(ha:a.1.length<=3)(hb:b.1.length<=3):(if c then a else b).1.length<=3:=by split<;>assumption
theorem pn (w:B)(r:Bool):(behind w r).1.length<=3:=by
 unfold behind
 repeat (first|(refine Vd _ _ (by simp) ?_)|simp)
def jn:B->List B->Bool
 |[],_=>true
 |c::f,ws=>iB c (word ws 0)&&jn f (ws.drop 1)
theorem Gm (f:B)(ws:List B)(k:Nat)(hk:k<f.length):jn (f.drop k) (ws.drop (k+1))=(iB f[k] (word ws (k+1))&&jn (f.drop (k+1)) (ws.drop (k+2))):=by
 rw[jE hk,jn,List.drop_drop];simp[word]
def RP.form (p:RP)(i:Nat):Bool:=
 if word (p.line i) 0=cv then
  if(p.line i).length≠3\/0<p.blocks.length\/12<=p.lets.length then false
  else isName (word (p.line i) 1)&&(word (p.line i) 2==mM||word (p.line i) 2==kz||word (p.line i) 2==cj||word (p.line i) 2==eG)
 else if word (p.line i) 0=aQ then
  decide ((p.line i).length=1)&& !p.inside i&&decide (0<p.lets.length)&&decide (p.blocks.length<if p.raw then 2000 else 20)
 else if(behind (word (p.line i) 0) p.raw).2=false\/p.inside i=false\/(p.line i).length≠(behind (word (p.line i) 0) p.raw).1.length+1 then false
 else jn (behind (word (p.line i) 0) p.raw).1 ((p.line i).drop 1)
def kinds:List UInt8:=[105,110,112,109,111,78,100,102,118]
theorem Ow {c:Prop} [Decidable c](a b:B×Bool)(ha:∀x∈a.1,x∈kinds)(hb:∀x∈b.1,x∈kinds):∀x∈(if c then a else b).1,x∈kinds:=by split<;>assumption
theorem D2 (w:B)(r:Bool):∀x∈(behind w r).1,x∈kinds:=by
 unfold behind
 repeat (first|(refine Ow _ _ (by simp[kinds]) ?_)|simp)
structure RP.Ok (p:RP):Prop where
 words:∀i,i<p.lines.length->1<=(p.line i).length
 lets:∀t∈p.lets,t<p.lines.length/\(p.line t).length=3
 blocks:∀b∈p.blocks,b<p.lines.length
 size:p.lines.length<=4000
 Hy:p.lets.length<=4000
 s9:p.blocks.length<=4000
 long:∀i j,(word (p.line i) j).length<=1099511627776
 wide:∀i,(p.line i).length<=1099511627777
end Sq
namespace Sq
open Go
def RP.addLine (p:RP)(ws:List B):RP:={p with lines:=p.lines++[ws]}
def RP.dC (p:RP)(i:Nat):RP:={p with lets:=p.lets++[i]}
def RP.addBlock (p:RP)(i:Nat):RP:={p with blocks:=p.blocks++[i]}
def RP.mark (p:RP)(i:Nat):RP:=if word (p.line i) 0=cv then p.dC i else if word (p.line i) 0=aQ then p.addBlock i else p
def dw:List (List B)->RP->Nat->RP×Option Nat
 |[],p,_=>(p,none)
 |ws::r,p,i=>if(p.addLine ws).form i then dw r ((p.addLine ws).mark i) (i+1)else(p.addLine ws,some i)
def bo (f:Nat->Bool):Nat->Nat->Option Nat
 |0,_=>none
 |m+1,i=>if f i then bo f m (i+1)else some i
def RP.cy (p:RP)(i:Nat):Bool:=word (p.line i) 0==cv||word (p.line i) 0==aQ||p.types i
def start (raw:Bool):RP:=⟨[],[],[],raw⟩
def aY (text:B):List (List B):=(split 10 text).map (split 32)
def aJ (text:B)(raw:Bool):Option RP×Nat×Nat:=
 if 4000<(split 10 text).length\/(raw=false/\120<(split 10 text).length)then(none,1,0)
 else match dw (aY text) (start raw) 0 with
  |(_,some i)=>(none,2,i)
  |(p,none)=>
   if p.inside (split 10 text).length=true\/p.blocks.length=0 then(none,2,(split 10 text).length)
   else match bo p.names (split 10 text).length 0 with
    |some i=>(none,3,i)
    |none=>match bo p.cy (split 10 text).length 0 with
     |some i=>(none,4,i)
     |none=>(some p,0,0)
def RP.gN (p:RP)(j:Nat):Prop:=if word (p.line j) 0=cv then(p.line j).length=3/\j∈p.lets else(behind (word (p.line j) 0) p.raw).1.length+1<=(p.line j).length
theorem RP.fk (p:RP)(ws:List B)(j:Nat):(p.addLine ws).line j=if j<p.lines.length then p.line j else if j=p.lines.length then ws else []:=by
 simp only[RP.addLine,RP.line,List.getD_eq_getElem?_getD,List.getElem?_append];split
 ·rfl
 ·split
  ·rename_i h1 h2;subst h2;simp
  ·rw[jG (by simp;omega)];rfl
theorem RP.l7 (p:RP)(i j:Nat):(p.mark i).line j=p.line j:=by
 unfold RP.mark RP.dC RP.addBlock;split;rfl;split<;>rfl
theorem RP.eg (p:RP)(i:Nat):(p.mark i).lines=p.lines:=by
 unfold RP.mark RP.dC RP.addBlock;split;rfl;split<;>rfl
theorem RP.mD (p:RP)(i:Nat):(p.mark i).raw=p.raw:=by
 unfold RP.mark RP.dC RP.addBlock;split;rfl;split<;>rfl
theorem Jg (k:Nat):word [] k=[]:=by simp[word]
theorem RP.Ok.addLine {p:RP}(h:p.Ok){ws:List B}(h1:1<=ws.length)(hs:p.lines.length<4000)(hl:∀j,(word ws j).length<=1099511627776)(hw:ws.length<=1099511627777):(p.addLine ws).Ok:=by
 have vC:=p.fk ws;have hlen:(p.addLine ws).lines.length=p.lines.length+1:=by simp[RP.addLine]
 refine⟨fun i hi=> ?_,fun t ht=> ?_,fun b hb=> ?_,by rw[hlen];omega,h.Hy,h.s9,fun i j=> ?_,fun i=> ?_⟩
 ·rw[vC];rw[hlen]at hi;split
  ·exact h.words i ‹_›
  ·rw[jb (by omega)];exact h1
 ·obtain⟨a,b⟩:=h.lets t ht;rw[hlen,vC,jb a];exact⟨by omega,b⟩
 ·have:=h.blocks b hb;rw[hlen];omega
 ·rw[vC];split
  ·exact h.long i j
  ·split
   ·exact hl j
   ·simp[Jg]
 ·rw[vC];split
  ·exact h.wide i
  ·split
   ·exact hw
   ·simp
theorem RP.Ok.dC {p:RP}(h:p.Ok){i:Nat}(hi:i<p.lines.length)(h3:(p.line i).length=3)(hn:p.lets.length<4000):(p.dC i).Ok:=by
 refine⟨h.words,fun t ht=> ?_,h.blocks,h.size,by simp[RP.dC];omega,h.s9,h.long,h.wide⟩;simp only[RP.dC,List.mem_append,List.mem_singleton]at ht;rcases ht with ht|rfl
 ·exact h.lets t ht
 ·exact⟨hi,h3⟩
theorem RP.Ok.addBlock {p:RP}(h:p.Ok){i:Nat}(hi:i<p.lines.length)(hn:p.blocks.length<4000):(p.addBlock i).Ok:=by
 refine⟨h.words,h.lets,fun b hb=> ?_,h.size,h.Hy,by simp[RP.addBlock];omega,h.long,h.wide⟩;simp only[RP.addBlock,List.mem_append,List.mem_singleton]at hb;rcases hb with hb|rfl
 ·exact h.blocks b hb
 ·exact hi
theorem RP.Ok.start (raw:Bool):(Sq.start raw).Ok:=
 ⟨fun i hi=>by simp[Sq.start]at hi,fun t ht=>by simp[Sq.start]at ht,fun b hb=>by simp[Sq.start]at hb,by simp[Sq.start],by simp[Sq.start],by simp[Sq.start],
  fun i j=>by simp[Sq.start,RP.line,Jg],fun i=>by simp[Sq.start,RP.line]⟩
theorem RP.xI {p:RP}{i:Nat}(h:p.form i=true)(hl:word (p.line i) 0=cv):(p.line i).length=3:=by
 rw[RP.form,jb hl]at h;by_cases h3:(p.line i).length=3
 ·exact h3
 ·rw[jb (.inl h3)]at h;cases h
theorem RP.Gn {p:RP}{i:Nat}(h:p.form i=true)(hl:¬word (p.line i) 0=cv)(h1:1<=(p.line i).length):(behind (word (p.line i) 0) p.raw).1.length+1<=(p.line i).length:=by
 by_cases hb:word (p.line i) 0=aQ
 ·rw[hb];have:(behind aQ p.raw).1=[]:=by cases p.raw<;>rfl
  rw[this];simpa using h1
 ·rw[RP.form,ja hl,ja hb]at h;by_cases hx:(behind (word (p.line i) 0) p.raw).2=false\/p.inside i=false\/(p.line i).length≠(behind (word (p.line i) 0) p.raw).1.length+1
  ·rw[jb hx]at h;cases h
  ·simp only[not_or,ne_eq,Decidable.not_not]at hx;omega
theorem RP.gN.addLine {p:RP}{j:Nat}(h:p.gN j)(hj:j<p.lines.length)(ws:List B):(p.addLine ws).gN j:=by
 unfold RP.gN at h⊢;rw[p.fk ws j,jb hj];exact h
theorem RP.gN.mark {p:RP}{j:Nat}(h:p.gN j)(i:Nat):(p.mark i).gN j:=by
 unfold RP.gN at h⊢;rw[p.l7 i j,p.mD];split
 ·rename_i hl;rw[jb hl]at h;refine⟨h.1,?_⟩;unfold RP.mark;split
  ·exact List.mem_append_left _ h.2
  ·split
   ·exact h.2
   ·exact h.2
 ·rename_i hl;rw[ja hl]at h;exact h
theorem RP.Li {p:RP}{i:Nat}(h:p.form i=true)(h1:1<=(p.line i).length):(p.mark i).gN i:=by
 unfold RP.gN;rw[p.l7 i i,p.mD];split
 ·rename_i hl;refine⟨p.xI h hl,?_⟩;simp[RP.mark,hl,RP.dC]
 ·rename_i hl;exact p.Gn h hl h1
end Sq
namespace Sq
open Go
structure kJ (text:B)(raw:Bool)(k:Nat)(p:RP):Prop where
 ok:p.Ok
 rawEq:p.raw=raw
 lines:p.lines=(aY text).take k
 form:dw (aY text) (Sq.start raw) 0=dw ((aY text).drop k) p k
 Se:∀j,j<k->p.gN j
 fc:p.lets.length<=k/\p.blocks.length<=k
theorem dy (text:B):(aY text).length=(split 10 text).length:=by simp[aY]
theorem B2 (text:B)(k:Nat)(hk:k<(split 10 text).length):(aY text)[k]'(by rw[dy];exact hk)=split 32 (word (split 10 text) k):=by
 simp[aY,word,hk]
theorem kJ.start (text:B)(raw:Bool):kJ text raw 0 (Sq.start raw):=
 ⟨RP.Ok.start raw,rfl,rfl,rfl,fun j hj=>by omega,by simp[Sq.start]⟩
theorem kJ.length {text:B}{raw:Bool}{k:Nat}{p:RP}(h:kJ text raw k p)(hk:k<=(split 10 text).length):p.lines.length=k:=by
 rw[h.lines,List.length_take,dy];omega
theorem fv (c:UInt8)(l:B):1<=(split c l).length:=by
 have:=o9 c l;cases hs:split c l with
 |nil=>exact absurd hs this
 |cons a b=>simp
theorem eM (c:UInt8)(l:B)(j:Nat):(word (split c l) j).length<=l.length:=by
 by_cases hj:j<(split c l).length
 ·exact x7 c l _ (by simp[word,hj])
 ·simp[word,List.getD_eq_getElem?_getD,List.getElem?_eq_none (Nat.le_of_not_lt hj)]
theorem kJ.SG {text:B}{raw:Bool}{k:Nat}{p:RP}(h:kJ text raw k p)(ht:text.length<=1099511627776)(hk:k<(split 10 text).length)(hn:(split 10 text).length<=4000):(p.addLine (split 32 (word (split 10 text) k))).Ok:=by
 have hl:=h.length (by omega);have h1:=eM 10 text k;refine h.ok.addLine (fv _ _) (by omega) (fun j=> ?_) ?_
 ·have:=eM 32 (word (split 10 text) k) j;omega
 ·have:=lP 32 (word (split 10 text) k);omega
theorem MI (text:B)(k:Nat)(hk:k<(split 10 text).length):(aY text).drop k=split 32 (word (split 10 text) k)::(aY text).drop (k+1):=by
 rw[jE (by rw[dy];exact hk),B2 text k hk]
theorem kJ.bad {text:B}{raw:Bool}{k:Nat}{p:RP}(h:kJ text raw k p)(hk:k<(split 10 text).length)(hf:(p.addLine (split 32 (word (split 10 text) k))).form k=false):
  ∃q,dw (aY text) (Sq.start raw) 0=(q,some k):=by
 refine⟨p.addLine (split 32 (word (split 10 text) k)),?_⟩;rw[h.form,MI text k hk,dw,hf];rfl
theorem RP.Sn (p:RP)(i k:Nat)(h:p.lets.length<=k/\p.blocks.length<=k):(p.mark i).lets.length<=k+1/\(p.mark i).blocks.length<=k+1:=by
 unfold RP.mark RP.dC RP.addBlock;split
 ·simp;omega
 ·split
  ·simp;omega
  ·omega
theorem kJ.step {text:B}{raw:Bool}{k:Nat}{p:RP}(h:kJ text raw k p)(ht:text.length<=1099511627776)(hk:k<(split 10 text).length)(hn:(split 10 text).length<=4000)
  (hf:(p.addLine (split 32 (word (split 10 text) k))).form k=true):kJ text raw (k+1) ((p.addLine (split 32 (word (split 10 text) k))).mark k):=by
 have hl:=h.length (by omega);have cd:=h.SG ht hk hn;have tm:(p.addLine (split 32 (word (split 10 text) k))).lines.length=k+1:=by simp[RP.addLine,hl]
 refine⟨?_,?_,?_,?_,fun j hj=> ?_,?_⟩
 ·unfold RP.mark;split
  ·rename_i hx;exact cd.dC (by omega) (RP.xI hf hx) (by have:=h.fc;simp[RP.addLine];omega)
  ·split
   ·exact cd.addBlock (by omega) (by have:=h.fc;simp[RP.addLine];omega)
   ·exact cd
 ·rw[RP.mD];exact h.rawEq
 ·rw[RP.eg,RP.addLine,h.lines,List.take_add_one,jB (by rw[dy];exact hk),B2 text k hk];simp
 ·rw[h.form,MI text k hk,dw,hf];rfl
 ·by_cases hx:j=k
  ·subst hx;exact RP.Li hf (cd.words j (by omega))
  ·exact((h.Se j (by omega)).addLine (by omega) _).mark k
 ·exact RP.Sn _ _ _ (by have:=h.fc;simpa [RP.addLine]using this)
def RP.fQ (p:RP)(i:Nat):RP:=if word (p.line i) 0=cv then p.dC i else p
theorem RP.Lq {p:RP}{i:Nat}(h:word (p.line i) 0=aQ):p.mark i=(p.fQ i).addBlock i:=by
 have hl:¬word (p.line i) 0=cv:=by rw[h];decide
 rw[RP.mark,RP.fQ,ja hl,ja hl,jb h]
theorem RP.OT {p:RP}{i:Nat}(h:¬word (p.line i) 0=aQ):p.mark i=p.fQ i:=by
 rw[RP.mark,RP.fQ,ja h]
theorem RP.Lp (p:RP)(i j:Nat):(p.fQ i).line j=p.line j:=by
 unfold RP.fQ RP.dC;split<;>rfl
theorem RP.H9 (p:RP)(i:Nat):(p.fQ i).lines=p.lines:=by
 unfold RP.fQ RP.dC;split<;>rfl
theorem RP.Ok.fQ {p:RP}(h:p.Ok){i:Nat}(hi:i<p.lines.length)(hf:p.form i=true)(hn:p.lets.length<4000):(p.fQ i).Ok:=by
 unfold RP.fQ;split
 ·rename_i hx;exact h.dC hi (RP.xI hf hx) hn
 ·exact h
end Sq
namespace Sq
open Go
theorem RP.tb (p:RP)(name:B):∀(l:List Nat) (k t:Nat),t∈l->word (p.line t) 1=name->0<=p.jh name l k:=by
 intro l;induction l with
 |nil=>intro k t ht;simp at ht
 |cons x r ih=>
  intro k t ht hn;rw[RP.jh];split
  ·omega
  ·rcases jP.mp ht with rfl|ht
   ·exact absurd hn ‹_›
   ·exact ih (k+1) t ht hn
theorem RP.QZ {p:RP}{t:Nat}(ht:t∈p.lets):0<=p.find (word (p.line t) 1):=p.tb _ _ _ t ht rfl
theorem bV (ws:List B)(k:Nat):word (ws.drop 1) k=word ws (k+1):=by simp[word,List.getD_eq_getElem?_getD]
theorem RP.Bn (p:RP):∀(f:B) (ws:List B) (k:Nat) (hk:k<f.length),p.er f ws=true->p.re f[k] (word ws k)=true:=by
 intro f;induction f with
 |nil=>intro ws k hk;simp at hk
 |cons c f ih=>
  intro ws k hk h;rw[RP.er,jH]at h;cases k with
  |zero=>exact h.1
  |succ k=>
   have:=ih (ws.drop 1) k (by simpa using hk) h.2;rw[bV]at this;simpa using this
theorem RP.kO {p:RP}{c:UInt8}{w:B}(h:p.re c w=true)(hc:c∈[(105:UInt8),112,109,111,100]):0<=p.find (ai w):=by
 rw[RP.re,jb]at h
 ·simpa using h
 ·simp only[List.mem_cons,List.not_mem_nil,or_false]at hc;rcases hc with h|h|h|h|h<;>simp[h]
theorem ite_m {c:Prop} [Decidable c](a b:B×Bool)(ha:109∈a.1->a.1.head?=some 109)(hb:109∈b.1->b.1.head?=some 109):109∈(if c then a else b).1->(if c then a else b).1.head?=some 109:=by split<;>assumption
theorem Qw (w:B)(r:Bool):109∈(behind w r).1->(behind w r).1.head?=some 109:=by
 unfold behind
 repeat (first|(refine ite_m _ _ (by simp) ?_)|simp)
theorem RP.Bo {p:RP}{i:Nat}(h:p.names i=true)(hl:¬word (p.line i) 0=cv):p.er (behind (word (p.line i) 0) p.raw).1 ((p.line i).drop 1)=true:=by
 rwa [RP.names,ja hl]at h
theorem RP.iv {p:RP}{i:Nat}(h:p.names i=true)(hl:¬word (p.line i) 0=cv)(k:Nat)(hk:k<(behind (word (p.line i) 0) p.raw).1.length)(hc:(behind (word (p.line i) 0) p.raw).1[k]∈[(105:UInt8),112,109,111,100]):0<=p.find (ai (word (p.line i) (k+1))):=by
 have:=p.Bn _ _ k hk (RP.Bo h hl);rw[bV]at this;exact RP.kO this hc
theorem RP.Vn {p:RP}{i:Nat}(h:p.names i=true)(hl:¬word (p.line i) 0=cv)(hm:109∈(behind (word (p.line i) 0) p.raw).1):0<=p.find (ai (word (p.line i) 1)):=by
 have h0:=Qw _ _ hm;rw[List.head?_eq_getElem?,List.getElem?_eq_some_iff]at h0;obtain⟨hk,h0⟩:=h0;exact RP.iv h hl 0 hk (by rw[h0];simp)
theorem sD (f:Nat->Bool)(n k:Nat)(hk:k<n):bo f (n-k) k=if f k then bo f (n-(k+1)) (k+1)else some k:=by
 rw[show n-k=(n-(k+1))+1 by omega,bo]
theorem lG (f:Nat->Bool):∀(m k:Nat),bo f m k=none->∀j,k<=j->j<k+m->f j=true:=by
 intro m;induction m with
 |zero=>intro k _ j h1 h2;omega
 |succ m ih=>
  intro k h j h1 h2;rw[bo]at h;by_cases hf:f k=true
  ·rw[jb hf]at h;by_cases hj:j=k
   ·rw[hj];exact hf
   ·exact ih (k+1) h j (by omega) (by omega)
  ·rw[ja hf]at h;cases h
theorem IJ {text:B}{raw:Bool}{p:RP}(h1:(split 10 text).length<=4000)(h2:raw=false->(split 10 text).length<=120)(h:dw (aY text) (Sq.start raw) 0=(p,none)):aJ text raw=
  if p.inside (split 10 text).length=true\/p.blocks.length=0 then(none,2,(split 10 text).length)
   else match bo p.names (split 10 text).length 0 with
    |some i=>(none,3,i)
    |none=>match bo p.cy (split 10 text).length 0 with
     |some i=>(none,4,i)
     |none=>(some p,0,0):=by
 have hx:¬(4000<(split 10 text).length\/(raw=false/\120<(split 10 text).length)):=by
  rintro(h'|⟨h',h''⟩)
  ·omega
  ·have:=h2 h';omega
 rw[aJ,ja hx,h]<;>rfl
theorem kJ.read {text:B}{raw:Bool}{p:RP}(h:kJ text raw (split 10 text).length p):dw (aY text) (Sq.start raw) 0=(p,none):=by
 rw[h.form,jT (by rw[dy];omega),dw]
end Sq
namespace Sq
open Go
def isType (t:B):Bool:=t==mM||t==kz||t==cj||t==eG
def dI (raw:Bool)(ws:List B):Bool:=
 if word ws 0=cv then decide (ws.length=3)&&isName (word ws 1)&&isType (word ws 2)
 else if word ws 0=aQ then decide (ws.length=1)
 else(behind (word ws 0) raw).2&&decide (ws.length=(behind (word ws 0) raw).1.length+1)&&jn (behind (word ws 0) raw).1 (ws.drop 1)
def isLet (ws:List B):Bool:=word ws 0==cv
def al (ws:List B):Bool:=word ws 0==aQ
def RP.bP (p:RP)(f:List B->Bool):List Nat:=(List.range p.lines.length).filter fun j=>f (p.line j)
structure tL (p:RP):Prop where
 form:∀j,j<p.lines.length->dI p.raw (p.line j)=true
 MV:∀j,j<p.lines.length->isLet (p.line j)=true\/p.inside j= !al (p.line j)
 lets:p.lets=p.bP isLet
 blocks:p.blocks=p.bP al
 first:∀j,j<p.lines.length->isLet (p.line j)=true->∀b∈p.blocks,j<b
 aV:p.lets.length<=12
 OY:p.blocks.length<=if p.raw then 2000 else 20
theorem RP.my (p:RP)(ws:List B)(j:Nat)(h:j<=p.lines.length):(p.addLine ws).inside j=p.inside j:=by
 unfold RP.inside RP.addLine;simp only;rw[List.take_append_of_le_length h]
theorem RP.rb (p:RP)(i j:Nat):(p.mark i).inside j=p.inside j:=by
 unfold RP.inside;rw[p.eg]
theorem RP.HZ {p:RP}{i:Nat}(h:p.form i=true):dI p.raw (p.line i)=true:=by
 unfold RP.form at h;unfold dI;by_cases hl:word (p.line i) 0=cv
 ·rw[jb hl]at h⊢;by_cases hx:(p.line i).length≠3\/0<p.blocks.length\/12<=p.lets.length
  ·rw[jb hx]at h;cases h
  ·rw[ja hx]at h;simp only[not_or,ne_eq,Decidable.not_not]at hx;simp only[hx.1,decide_true,Bool.true_and,isType];exact h
 ·rw[ja hl]at h⊢;by_cases hb:word (p.line i) 0=aQ
  ·rw[jb hb]at h⊢;simp only[Bool.and_eq_true]at h;exact h.1.1.1
  ·rw[ja hb]at h⊢;by_cases hx:(behind (word (p.line i) 0) p.raw).2=false\/p.inside i=false\/(p.line i).length≠(behind (word (p.line i) 0) p.raw).1.length+1
   ·rw[jb hx]at h;cases h
   ·rw[ja hx]at h;simp only[not_or,ne_eq,Decidable.not_not,Bool.not_eq_false]at hx;rw[hx.1,h];simp[hx.2.2]
theorem pf (p:RP)(ws:List B)(f:List B->Bool):(p.addLine ws).bP f=p.bP f++if f ws then [p.lines.length]else []:=by
 have hl:(p.addLine ws).lines.length=p.lines.length+1:=by simp[RP.addLine]
 unfold RP.bP;rw[hl,List.range_succ,List.filter_append];congr 1
 ·refine List.filter_congr fun j hj=> ?_
  rw[p.fk,jb (by simpa using hj)]
 ·have:(p.addLine ws).line p.lines.length=ws:=by rw[p.fk,ja (by omega),jb rfl]
  cases hf:f ws<;>simp[this,hf]
theorem sY (p:RP)(i:Nat)(f:List B->Bool):(p.mark i).bP f=p.bP f:=by
 unfold RP.bP;rw[p.eg];refine List.filter_congr fun j _=> ?_
 rw[p.l7]
theorem tL.start (raw:Bool):tL (Sq.start raw):=
 ⟨fun j hj=>by simp[Sq.start]at hj,fun j hj=>by simp[Sq.start]at hj,rfl,rfl,fun j hj=>by simp[Sq.start]at hj,by simp[Sq.start],by simp[Sq.start]⟩
theorem cH {p:RP}{f:List B->Bool}{b:Nat}(h:b∈p.bP f):b<p.lines.length/\f (p.line b)=true:=by
 unfold RP.bP at h;simpa using h
theorem tL.add {p:RP}(h:tL p)(ws:List B)(hf:(p.addLine ws).form p.lines.length=true):tL ((p.addLine ws).mark p.lines.length):=by
 have hl:(p.addLine ws).lines.length=p.lines.length+1:=by simp[RP.addLine]
 have hn:(p.addLine ws).line p.lines.length=ws:=by rw[p.fk,ja (by omega),jb rfl]
 have ho:∀j,j<p.lines.length->(p.addLine ws).line j=p.line j:=fun j hj=>by rw[p.fk,jb hj]
 have xU:(p.addLine ws).raw=p.raw:=rfl;have hF:=RP.HZ hf;have YM:=hf;unfold RP.form at hf;rw[hn]at hf hF;rw[p.my ws _ (jC _)]at hf;have eLets:((p.addLine ws).mark p.lines.length).lets=p.lets++if isLet ws then [p.lines.length]else []:=by
  unfold RP.mark RP.dC RP.addBlock isLet;rw[hn];by_cases h1:word ws 0=cv
  ·simp[h1,RP.addLine]
  ·rw[ja h1];by_cases h2:word ws 0=aQ<;>simp[h1,h2,RP.addLine];decide
 have eBlocks:((p.addLine ws).mark p.lines.length).blocks=p.blocks++if al ws then [p.lines.length]else []:=by
  unfold RP.mark RP.dC RP.addBlock al;rw[hn];by_cases h1:word ws 0=cv
  ·simp[h1,RP.addLine];decide
  ·rw[ja h1];by_cases h2:word ws 0=aQ<;>simp[h2,RP.addLine]
 refine⟨fun j hj=> ?_,fun j hj=> ?_,?_,?_,fun j hj Jq b hb=> ?_,?_,?_⟩
 ·rw[RP.eg,hl]at hj;rw[RP.l7,RP.mD,xU];by_cases hx:j<p.lines.length
  ·rw[ho j hx];exact h.form j hx
  ·obtain rfl:j=p.lines.length:=by omega
   rw[hn];exact hF
 ·rw[RP.eg,hl]at hj;rw[RP.l7,RP.rb];by_cases hx:j<p.lines.length
  ·rw[ho j hx,p.my ws j (by omega)];exact h.MV j hx
  ·obtain rfl:j=p.lines.length:=by omega
   rw[hn,p.my ws _ (jC _)];by_cases h1:word ws 0=cv
   ·exact .inl (by simp[isLet,h1])
   ·refine .inr ?_;rw[ja h1]at hf;by_cases h2:word ws 0=aQ
    ·rw[jb h2]at hf;simp only[Bool.and_eq_true,Bool.not_eq_true']at hf;rw[hf.1.1.2];simp[al,h2]
    ·rw[ja h2]at hf;cases hi:p.inside p.lines.length
     ·rw[jb (.inr (.inl hi))]at hf;cases hf
     ·simp[al,h2]
 ·rw[eLets,sY,pf,<-h.lets]
 ·rw[eBlocks,sY,pf,<-h.blocks]
 ·rw[RP.eg,hl]at hj;rw[RP.l7]at Jq;rw[eBlocks,List.mem_append]at hb;by_cases hx:j<p.lines.length
  ·rw[ho j hx]at Jq;rcases hb with hb|hb
   ·exact h.first j hx Jq b hb
   ·split at hb
    ·rw[jI]at hb;omega
    ·simp at hb
  ·obtain rfl:j=p.lines.length:=by omega
   rw[hn]at Jq;have h1:word ws 0=cv:=by simpa [isLet]using Jq
   rw[jb h1]at hf;have hx:¬(0<p.blocks.length):=by
    intro hc;rw[jb (.inr (.inl hc))]at hf;cases hf
   rcases hb with hb|hb
   ·have:=List.length_pos_of_mem hb;omega
   ·have:al ws=false:=by simp[al,h1];decide
    simp[this]at hb
 ·rw[eLets];cases hw:isLet ws
  ·simpa using h.aV
  ·have h1:word ws 0=cv:=by simpa [isLet]using hw
   rw[jb h1]at hf;have hx:¬(12<=p.lets.length):=by
    intro hc;rw[jb (.inr (.inr hc))]at hf;cases hf
   simp;omega
 ·rw[eBlocks,RP.mD,xU];cases hw:al ws
  ·simpa using h.OY
  ·have h2:word ws 0=aQ:=by simpa [al]using hw
   have h1:¬word ws 0=cv:=by rw[h2];decide
   rw[ja h1,jb h2]at hf;simp only[Bool.and_eq_true,decide_eq_true_eq]at hf;have:=hf.2;simp only[xU]at this;have e:(p.addLine ws).blocks=p.blocks:=rfl;rw[e]at this;simp;omega
theorem tL.read:∀(ls:List (List B)) (p q:RP),tL p->dw ls p p.lines.length=(q,none)->tL q/\q.raw=p.raw/\q.lines=p.lines++ls
 |[],p,q,h,hr=>by
  rw[dw]at hr;obtain rfl:p=q:=(Prod.mk.inj hr).1;exact⟨h,rfl,by simp⟩
 |ws::r,p,q,h,hr=>by
  rw[dw]at hr;by_cases hf:(p.addLine ws).form p.lines.length=true
  ·rw[jb hf]at hr;have hl:((p.addLine ws).mark p.lines.length).lines.length=p.lines.length+1:=by rw[RP.eg];simp[RP.addLine]
   rw[<-hl]at hr;obtain⟨h1,h2,h3⟩:=tL.read r _ q (h.add ws hf) hr;refine⟨h1,?_,?_⟩
   ·rw[h2,RP.mD];rfl
   ·rw[h3,RP.eg];simp[RP.addLine]
  ·rw[ja hf]at hr;cases hr
structure aE (text:B)(raw:Bool)(p:RP):Prop where
 pre:tL p
 raw:p.raw=raw
 lines:p.lines=aY text
 shut:p.inside p.lines.length=false
 nonempty:p.blocks≠[]
 names:∀j,j<p.lines.length->p.names j=true
 types:∀j,j<p.lines.length->p.cy j=true
theorem Cf (f:Nat->Bool)(m k:Nat)(h:bo f m k=none):∀j,k<=j->j<k+m->f j=true:=lG f m k h
theorem jy {text:B}{raw:Bool}{p:RP}{c k:Nat}(h:aJ text raw=(some p,c,k)):aE text raw p/\c=0/\k=0/\(split 10 text).length<=4000/\(raw=false->(split 10 text).length<=120):=by
 unfold aJ at h;split at h
 ·cases h
 ·rename_i hlen;split at h
  ·cases h
  ·rename_i q hq;have hp:=tL.read (aY text) (Sq.start raw) q (tL.start raw) hq;have hn:q.lines.length=(split 10 text).length:=by rw[hp.2.2,<-dy];simp[Sq.start]
   split at h
   ·cases h
   ·rename_i hs;split at h
    ·cases h
    ·rename_i Ko;split at h
     ·cases h
     ·rename_i qu;simp only[Prod.mk.injEq,Option.some.injEq]at h;obtain⟨rfl,rfl,rfl⟩:=h;simp only[not_or,Bool.not_eq_true]at hs;refine⟨⟨hp.1,hp.2.1,by rw[hp.2.2];rfl,by rw[hn];exact hs.1,fun e=>hs.2 (by rw[e];rfl),fun j hj=> ?_,fun j hj=> ?_⟩,rfl,rfl,by omega,fun hr=> ?_⟩
      ·exact lG _ _ _ Ko j (by omega) (by omega)
      ·exact lG _ _ _ qu j (by omega) (by omega)
      ·simp only[not_or,not_and]at hlen;have:=hlen.2 hr;omega
end Sq
end Go.Proofs.YtmlgajhhnojdjaaGreatDoor

import Derived.Test.YtmlgajhhnojdjaaGreatDoorProg
import Derived.Deep.DeepCutAuto
import Derived.Deep.Light
import Derived.Deep.DeepMust
import Derived.Shelf.Small.Wraps
import Derived.Shelf.Strconv.Itoa4
import Derived.Shelf.Strings.OnBuilder
namespace Go.Proofs.YtmlgajhhnojdjaaGreatDoor
theorem jA:type_of% @List.getD_eq_getElem?_getD:= @List.getD_eq_getElem?_getD
theorem jB:type_of% @List.getElem?_eq_getElem:= @List.getElem?_eq_getElem
theorem jC:type_of% @Nat.le_refl:= @Nat.le_refl
theorem jD:type_of% @Array.getElem?_push_size:= @Array.getElem?_push_size
theorem jE:type_of% @List.drop_eq_getElem_cons:= @List.drop_eq_getElem_cons
theorem jF:type_of% @Option.some.injEq:= @Option.some.injEq
theorem jG:type_of% @List.getElem?_eq_none:= @List.getElem?_eq_none
theorem jH:type_of% @Bool.and_eq_true:= @Bool.and_eq_true
theorem jI:type_of% @List.mem_singleton:= @List.mem_singleton
theorem jJ:type_of% @List.getElem?_map:= @List.getElem?_map
theorem jK:type_of% @Nat.lt_of_lt_of_le:= @Nat.lt_of_lt_of_le
theorem jL:type_of% @List.getElem_mem:= @List.getElem_mem
theorem jM:type_of% @List.mem_cons_self:= @List.mem_cons_self
theorem jN:type_of% @List.mem_cons_of_mem:= @List.mem_cons_of_mem
theorem jO:type_of% @List.getElem?_replicate:= @List.getElem?_replicate
theorem jP:type_of% @List.mem_cons:= @List.mem_cons
theorem jQ:type_of% @Nat.zero_le:= @Nat.zero_le
theorem jR:type_of% @List.not_mem_nil:= @List.not_mem_nil
theorem jS:type_of% @Nat.le_trans:= @Nat.le_trans
theorem jT:type_of% @List.drop_eq_nil_of_le:= @List.drop_eq_nil_of_le
theorem jU:type_of% @Go.Value.slice.injEq:= @Go.Value.slice.injEq
theorem jV:type_of% @List.length_append:= @List.length_append
theorem jW:type_of% @List.cons_append:= @List.cons_append
theorem jX:type_of% @Bool.eq_iff_iff:= @Bool.eq_iff_iff
theorem jY:type_of% @List.length_cons:= @List.length_cons
theorem jZ:type_of% @beq_eq_false_iff_ne:= @beq_eq_false_iff_ne
theorem ja:type_of% @if_neg:= @if_neg
theorem jb:type_of% @if_pos:= @if_pos
theorem jc:type_of% @List.length_map:= @List.length_map
theorem jd:type_of% @List.getElem?_set:= @List.getElem?_set
theorem je:type_of% @Prod.mk.injEq:= @Prod.mk.injEq
theorem jf:type_of% @List.getElem?_append_right:= @List.getElem?_append_right
theorem jg:type_of% @List.getElem?_append_left:= @List.getElem?_append_left
end Go.Proofs.YtmlgajhhnojdjaaGreatDoor
namespace Go.Proofs.YtmlgajhhnojdjaaGreatDoor
namespace Sq
open Go
abbrev B:=List UInt8
def bs (l:B):ByteArray:=⟨l.toArray⟩
@[simp] theorem bp (l : B) : (bs l).toList = l := ByteArray.toList_mk l
theorem Ev (s:ByteArray):bs s.toList=s:=by
 rw[ByteArray.toList_eq];cases s;simp[bs]
@[simp] theorem cu (l : B) : (bs l).size = l.length := by simp [bs, ByteArray.size]
theorem length_toList (s:ByteArray):s.toList.length=s.size:=by
 rw[ByteArray.toList_eq];cases s;simp[ByteArray.size]
theorem DH {s:ByteArray}{l:B}(h:s.toList=l):s=bs l:=by rw[<-h,Ev]
theorem getElem_toList (s:ByteArray)(k:Nat)(h:k<s.size):s[k]=s.toList[k]'(by rw[length_toList];exact h):=by
 have e:s.toList=s.data.toList:=ByteArray.toList_eq s;simp only[e];cases s;rfl
theorem getElem?_toList (s:ByteArray)(k:Nat)(h:k<s.size):s.toList[k]?=some s[k]:=by
 rw[getElem_toList s k h];exact jB _
theorem extract_toList (s:ByteArray)(a b:Nat):(s.extract a b).toList=(s.toList.drop a).take (b-a):=by
 rw[ByteArray.toList_eq,ByteArray.toList_eq];have:(s.extract a b).data=s.data.extract a b:=by simp
 rw[this];simp[List.extract_eq_take_drop]
theorem extract_eq (s:ByteArray)(a b:Nat):s.extract a b=bs ((s.toList.drop a).take (b-a)):=DH (extract_toList s a b)
@[simp] theorem Nh (l : B) (k : Nat) (h : k < (bs l).size) : (bs l)[k] = l[k]'(by simpa using h) := by
 rw[getElem_toList (bs l) k h];simp
def lower (c:UInt8):Bool:=decide (97<=c.toNat)&&decide (c.toNat<=122)
def digit (c:UInt8):Bool:=decide (48<=c.toNat)&&decide (c.toNat<=57)
def isName (l:B):Bool:=l.all lower&&decide (1<=l.length)&&decide (l.length<=4)
def cy:Int->B->Option Int
 |n,[]=>some n
 |n,c::r=>if digit c then(if 10*n+(c.toNat-48)>1000000000 then none else cy (10*n+(c.toNat-48)) r)else none
def ki (s:B):B:=match s with|c::r=>if c=45 then r else s|[]=>s
def signed (s:B):Bool:=match s with|c::_=>decide (c=45)|[]=>false
def number (s:B):Option Int:=
 if(ki s).length<1\/((ki s).head?=some 48/\s≠[48])then none
 else match cy 0 (ki s)with
  |none=>none
  |some n=>some (if signed s then-n else n)
def fi (w:B):Bool:=decide (2<w.length)&&(w[w.length-2]?==some 46)
def aL (w:B):B:=if fi w then w.take (w.length-2)else w
def partOf (w:B):UInt8:=if fi w then w.getLastD 0 else 0
def cx (w:B):Bool:=isName (aL w)&&(decide (aL w=w)||partOf w==97||partOf w==98||partOf w==115)
def ends (w:B):Bool:=w==[103,111,116,111]||w==[105,102]||w==[109,97,116,99,104]||w==[101,110,100]||w==[116,101,115,116]
def behind (w:B)(raw:Bool):B×Bool:=
 if w=[115,101,116]then([105,110],true)
 else if w=[97,100,100]\/w=[115,117,98]\/w=[109,117,108]\/w=[100,105,118]then([105,105,105],true)
 else if w=[105,110]\/w=[111,117,116]\/w=[101,110,100]then([105],true)
 else if w=[110,101,119]\/w=[115,116,111,114,101]then([112,105],true)
 else if w=[108,111,97,100]then([105,112],true)
 else if w=[109,111,118,101]then([109,109],true)
 else if w=[110,111,110,101]then([111],true)
 else if w=[115,111,109,101]then([111,112],true)
 else if w=[103,111,116,111]then([78],true)
 else if w=[105,102]then([105,78,78],true)
 else if w=[109,97,116,99,104]then([111,78,78],true)
 else if w=[100,114,111,112]then([100],!raw)
 else if w=[102,114,101,101]then([112],raw)
 else if w=[102,108,97,103]then([102,118],raw)
 else if w=[116,101,115,116]then([102,78,78],raw)
 else([],false)
def JF (kind:UInt8)(w:B):Bool:=
 if kind=105\/kind=111 then isName w
 else if kind=112\/kind=109\/kind=100 then cx w
 else if kind=110 then(number w).isSome
 else if kind=78 then match number w with|some n=>decide (0<=n)|none=>false
 else if kind=102 then match number w with|some n=>decide (0<=n)&&decide (n<50)|none=>false
 else match number w with|some n=>decide (n=0)||decide (n=1)|none=>false
theorem rj (a:UInt8)(n:Nat)(hn:n<256):a=UInt8.ofNat n↔a.toNat=n:=by
 rw[<-UInt8.toNat_inj,UInt8.toNat_ofNat_of_lt' (by simpa using hn)]
end Sq
namespace RefA
open Go.RowKit Sq
theorem tN {a b:Bool}(h:a=b):Ending.returned (.bool a)=.returned (.bool b):=by rw[h]
theorem IU (s:ByteArray)(k:Nat)(h:s.toList.take k|>.all lower)(hk:¬k<s.size):isName s.toList=(decide (1<=s.size)&&decide (s.size<=4)):=by
 rw[List.take_of_length_le (by rw[length_toList];omega)]at h;simp[isName,h,length_toList]
theorem D7 (s:ByteArray)(k:Nat)(hk:k<s.size)(h:s[k].toNat<97\/122<s[k].toNat):isName s.toList=false:=by
 have hm:s[k]∈s.toList:=by rw[getElem_toList s k hk];exact jL _
 have:s.toList.all lower=false:=by
  rw[List.all_eq_false];exact⟨_,hm,by simp[lower];omega⟩
 simp[isName,this]
theorem LJ (s:ByteArray)(k:Nat)(hk:k<s.size)(h:(s.toList.take k).all lower=true)(h1:(97:Int)<=s[k].toNat)(h2:(s[k].toNat:Int)<=122):(s.toList.take (k+1)).all lower=true:=by
 rw[List.take_add_one,getElem?_toList s k hk,List.all_append,h];simp[lower];omega
end RefA
namespace RefB
theorem QB:True:=trivial
end RefB
namespace RefC
theorem QC:True:=trivial
end RefC
namespace RefD
open Go.RowKit Sq RefA RefB RefC
def known:List B:=[[115,101,116],[97,100,100],[115,117,98],[109,117,108],[100,105,118],[105,110],[111,117,116],[101,110,100],[110,101,119],[115,116,111,114,101],[108,111,97,100],[109,111,118,101],[110,111,110,101],[115,111,109,101],[103,111,116,111],[105,102],[109,97,116,99,104],[100,114,111,112],[102,114,101,101],[102,108,97,103],[116,101,115,116]]
end RefD
namespace Sq
open Go
def dr (p:B):List B->List B
 |[]=>[p]
 |h::t=>(p++h)::t
def split (c:UInt8):B->List B
 |[]=>[[]]
 |x::r=>if x=c then []::split c r else dr [x] (split c r)
theorem eP (c:UInt8)(l:B):split c l≠[]:=by
 cases l with
 |nil=>simp[split]
 |cons x r=>rw[split];split;simp;cases h:split c r<;>simp[dr]
theorem pU (c:UInt8)(l:B):(split c l).length<=l.length+1:=by
 induction l with
 |nil=>simp[split]
 |cons x r ih=>
  rw[split];split
  ·simp;omega
  ·cases h:split c r with
   |nil=>simp[dr]
   |cons a b=>rw[h]at ih;simp[dr]at ih⊢;omega
theorem qI {L:List B}(h:L≠[]):dr [] L=L:=by
 cases L with
 |nil=>exact absurd rfl h
 |cons a b=>rfl
theorem zi (p q:B)(L:List B)(h:L≠[]):dr p (dr q L)=dr (p++q) L:=by
 cases L with
 |nil=>exact absurd rfl h
 |cons a b=>simp[dr]
theorem fP (c:UInt8)(l:B):∀x∈split c l,x.length<=l.length:=by
 induction l with
 |nil=>simp[split]
 |cons a r ih=>
  intro x hx;rw[split]at hx;split at hx
  ·rcases jP.mp hx with rfl|hx
   ·simp
   ·have:=ih x hx;simp;omega
  ·cases h:split c r with
   |nil=>exact absurd h (eP c r)
   |cons p q=>
    rw[h]at hx ih;simp only[dr,List.mem_cons]at hx;rcases hx with rfl|hx
    ·have:=ih p (by simp);simp;omega
    ·have:=ih x (by simp[hx]);simp;omega
def fD (c:UInt8)(l:B)(done:List B)(f k:Nat):Prop:=split c l=done++dr ((l.drop f).take (k-f)) (split c (l.drop k))
theorem yO (c:UInt8)(l:B):fD c l [] 0 0:=by
 simp[fD,qI (eP c l)]
theorem Gw (l:B)(f k:Nat)(hf:f<=k)(hk:k<l.length):(l.drop f).take (k+1-f)=(l.drop f).take (k-f)++[l[k]]:=by
 have e:k+1-f=k-f+1:=by omega
 rw[e,List.take_add_one,List.getElem?_drop,show f+(k-f)=k by omega,jB hk];rfl
theorem FU {c:UInt8}{l:B}{done:List B}{f k:Nat}(h:fD c l done f k)(hf:f<=k)(hk:k<l.length)(hc:¬l[k]=c):fD c l done f (k+1):=by
 unfold fD at h⊢;rw[h,jE hk,split,ja hc,zi _ _ _ (eP _ _),Gw l f k hf hk]
theorem FT {c:UInt8}{l:B}{done:List B}{f k:Nat}(h:fD c l done f k)(hk:k<l.length)(hc:l[k]=c):fD c l (done++[(l.drop f).take (k-f)]) (k+1) (k+1):=by
 unfold fD at h⊢;rw[h,jE hk,split,jb hc,Nat.sub_self,List.take_zero,qI (eP _ _)];simp[dr]
theorem CZ {c:UInt8}{l:B}{done:List B}{f k:Nat}(h:fD c l done f k)(hk:k=l.length):split c l=done++[(l.drop f).take (k-f)]:=by
 unfold fD at h;rw[h,hk,List.drop_length,split];simp[dr]
theorem vT {c:UInt8}{l:B}{done:List B}{f k:Nat}(h:fD c l done f k):done.length<=l.length:=by
 have h1:=pU c l;unfold fD at h;rw[h,jV]at h1;have:1<=(dr ((l.drop f).take (k-f)) (split c (l.drop k))).length:=by
  cases hs:split c (l.drop k)<;>simp[dr]
 omega
def cellsOf (L:List B):List Value:=L.map fun b=> .string (bs b)
end Sq
namespace Aux
open Go Go.RowKit
theorem sj {P:Program}{w:World}{ops:Array Oper}{rest:List Oper}{o:Oper}{a:Act}{Q:Exit->Act->World->Prop}(DU:o.guard=none)(s x:Operand)(t:TypeId)
  (ho:o.op=.call {callee:=.builtin .append,args:= #[s,x],argTypes:= #[t,t]})
  (base:Nat) (e:TypeId) (i:TypeInfo) (z:Value) (bytes:Nat) (ht:P.underlying t=some (.slice e)) (hi:P.info? e=some i) (hz:i.zero=some z)
  (hsize:i.size=1) (ES:i.bytes=bytes) (hzs:z.cells.size=1)
  (v:Value) (n:Nat) (xs:List Value) (hs:a.eval s=v) (eG:w.ownsRow base e 1 v n xs)
  (u:Value) (hx:a.eval x=.slice (some ⟨w.heap.size,0,none⟩) 1 1) (h1:u.oneCell'=true)
  (aB:1<=bytes) (hbytes:(n+1)*bytes<=140737488355328) (hbase:base<=w.heap.size)
  (h:∀v' w',w'.ownsRow base e 1 v' (n+1) (xs++[u])->(w.alloc (.cells #[u] e)).grownBy w' v.ownBlock->wpList P ops Q rest (a.put o.dst v') w'):wpList P ops Q (o::rest) a (w.alloc (.cells #[u] e)):=by
 refine wpList_append_own _ DU s x t ho base e i z 1 bytes ht hi hz hsize ES hzs (by decide) v n xs hs (eG.alloc _) ⟨w.heap.size,0,none⟩ 1 1 [u] hx rfl ?_ ?_ ?_ hbytes ?_ (fun v' w' a b _=>h v' w' a b)
 ·intro j u' hj
  match j,hj with
  |0,hj=>simp at hj;subst hj;simp[Addr.add]
 ·intro u' hu;simp at hu;subst hu;exact h1
 ·have:n+1<=(n+1)*bytes:=Nat.le_mul_of_pos_right _ aB;unfold maxLen;omega
 ·simp;omega
theorem cq {B:Nat}{w0 w w':World}{o:Obj}{base:Nat}{e:TypeId}{size:Nat}{v:Value}{n:Nat}{xs:List Value}(hb:Below B w0 w)(hB:B<=base)(hbase:base<=w.heap.size)
  (eG:w.ownsRow base e size v n xs) (hg:(w.alloc o).grownBy w' v.ownBlock):Below B w0 w':=by
 refine(hb.alloc (by omega) o).grown hg (by simp;omega) fun k hk=> ?_
 have:=eG.lt k hk;omega
end Aux
namespace RefE
open Go.RowKit Sq RefA Aux
theorem Ar:(Tryz.prog.info? 9).map (fun i=>(i.zero,i.size,i.bytes))=some (some (.string ⟨#[]⟩),1,16):=by kernel_rfl
end RefE
namespace El
open Go Go.RowKit Sq RefA Aux RefE
set_option maxRecDepth 20000 in
set_option maxHeartbeats 1000000 in
theorem Fu (s:ByteArray)(w:World)(hs:s.size<=1099511627776):
  Calls Tryz.prog 33 #[.string s] w fun e w'=>∃v,e=.returned v/\w'.ownsRow w.heap.size 9 1 v (split 10 s.toList).length (cellsOf (split 10 s.toList))/\Below w.heap.size w w':=by
 obtain⟨i,hi,yw,oY,oZ⟩:=info_parts Ar;have HS:Hid (s.size<=1099511627776):=hs
 replace hs:s.size<=9223372036854775806:=by omega
 go_enter Tryz.func33,Tryz.ntmps33
 go_wp2
 go_loopw [3,4,5] (fun v fr i wr=>∃(k f:Nat) (done:List B),f<=k/\k<=s.size+1/\i=.int .i64 k/\fr=.int .i64 f/\wr.ownsRow w.heap.size 9 1 v done.length (cellsOf done)/\Below w.heap.size w wr/\Hid (k<=s.size->fD 10 s.toList done f k)/\Hid (k=s.size+1->split 10 s.toList=done)) (fun _ _ i _=>s.size+1-(intOf i).toNat)
 case atStart=>exact⟨0,0,[],jC _,jQ _,rfl,rfl,World.ownsRow_nil _ _ _ _,Below.refl _ _,fun _=>yO _ _,fun h=>by omega⟩
 case round=>
  obtain⟨k,f,done,hf,hk,rfl,rfl,eG,hb,H1,H2⟩:=hrel;by_cases hle:k<=s.size
  ·have hlen:Hid (done.length<=s.size):=by have:=vT (H1.out hle);rwa [length_toList]at this
   have gP:=hb.size;by_cases aP:k<s.size
   ·by_cases hc:s[k].toNat=10
    ·have ym:((s[k].toNat:Int)==10)=true:=by simp[hc]
     have HC:Hid (s[k].toNat=10):=hc;clear hc;go_wp2_with (at_builtin;go_must (refine sj rfl _ _ 34 rfl w.heap.size 9 i (.string ⟨#[]⟩) 16 Tryz.underlying34 hi yw oY oZ rfl _ _ _ rfl eG _ rfl rfl (by decide) (by have:=hlen.out;have:=HS.out;omega) gP ?_);intro v' w1 hown' hgrow)
     go_roundw
     case rel=>
      refine⟨k+1,k+1,done++[(s.toList.drop f).take (k-f)],jC _,by omega,by go_num,by go_num,?_,cq hb (jC _) gP eG hgrow,fun _=> ?_,fun h=> ?_⟩
      ·rw[extract_eq]at hown';simpa [cellsOf]using hown'
      ·exact FT (H1.out hle) (by rw[length_toList];exact aP) (by rw[<-getElem_toList s k aP];exact UInt8.toNat_inj.mp HC.out)
      ·omega
     case measure=>simp[intOf];omega
    ·have ym:((s[k].toNat:Int)==10)=false:=by simp;omega
     have HC:Hid (¬s[k].toNat=10):=hc;clear hc;go_wp2
     go_roundw
     case rel=>
      refine⟨k+1,f,done,by omega,by omega,by go_num,by go_num,eG,hb,fun _=> ?_,fun h=> ?_⟩
      ·exact FU (H1.out hle) hf (by rw[length_toList];exact aP) (by rw[<-getElem_toList s k aP];exact fun e=>HC.out (by rw[e];rfl))
      ·omega
     case measure=>simp[intOf];omega
   ·obtain rfl:k=s.size:=by omega
    go_wp2_with (at_builtin;refine sj rfl _ _ 34 rfl w.heap.size 9 i (.string ⟨#[]⟩) 16 Tryz.underlying34 hi yw oY oZ rfl _ _ _ rfl eG _ rfl rfl (by decide) (by have:=hlen.out;have:=HS.out;omega) gP ?_;intro v' w1 hown' hgrow)
    go_roundw
    case rel=>
     refine⟨s.size+1,s.size+1,done++[(s.toList.drop f).take (s.size-f)],jC _,by omega,by go_num,by go_num,?_,cq hb (jC _) gP eG hgrow,fun _=> ?_,fun h=> ?_⟩
     ·rw[extract_eq]at hown';simpa [cellsOf]using hown'
     ·omega
     ·exact CZ (H1.out hle) (length_toList s).symm
    case measure=>simp[intOf]
  ·go_wp2
   go_ret
   have e:=H2.out (by omega);exact⟨_,rfl,by rw[e];exact eG,hb⟩
theorem IM (l:B)(w:World)(h:l.length<=1099511627776):
  Calls Tryz.prog 33 #[.string (bs l)] w fun e w'=>∃v,e=.returned v/\w'.ownsRow w.heap.size 9 1 v (split 10 l).length (cellsOf (split 10 l))/\Below w.heap.size w w':=by
 have:=Fu (bs l) w (by rw[cu];exact h)
 rwa [bp]at this
end El
end Go.Proofs.YtmlgajhhnojdjaaGreatDoor
namespace Go.Proofs
open Go.Shelf
def Tryz.qT:Go.Shelf.Ren:=⟨fun|156=>83|165=>135|166=>136|169=>137|240=>184|241=>185|276=>216|277=>217|n=>n,fun|31=>34|9=>9|3=>3|4=>4|0=>0|20=>20|72=>219|76=>222|70=>217|37=>93|75=>221|127=>257|164=>286|5=>5|80=>82|n=>n,fun|n=>n⟩
theorem Tryz.D5:Go.Proofs.Lays.n156 Tryz.prog Tryz.qT:={
 mixed:=by kernel_rfl
 f156:=Tryz.func83.trans (congrArg some (by kernel_rfl))
 f165:=Tryz.func135.trans (congrArg some (by kernel_rfl))
 f166:=Tryz.func136.trans (congrArg some (by kernel_rfl))
 f169:=Tryz.func137.trans (congrArg some (by kernel_rfl))
 f240:=Tryz.func184.trans (congrArg some (by kernel_rfl))
 f241:=Tryz.func185.trans (congrArg some (by kernel_rfl))
 f276:=Tryz.func216.trans (congrArg some (by kernel_rfl))
 f277:=Tryz.func217.trans (congrArg some (by kernel_rfl))
 t0:=Tryz.underlying0
 a0:=Tryz.isAgg0
 z0:=Tryz.sizeOf0
 v0:=Tryz.zeroValue0
 t3:=Tryz.underlying3
 a3:=Tryz.isAgg3
 z3:=Tryz.sizeOf3
 v3:=Tryz.zeroValue3
 t4:=Tryz.underlying4
 a4:=Tryz.isAgg4
 z4:=Tryz.sizeOf4
 v4:=Tryz.zeroValue4
 t9:=Tryz.underlying9
 a9:=Tryz.isAgg9
 z9:=Tryz.sizeOf9
 v9:=Tryz.zeroValue9
 t20:=Tryz.underlying20
 a20:=Tryz.isAgg20
 z20:=Tryz.sizeOf20
 v20:=Tryz.zeroValue20
 t31:=Tryz.underlying34
 a31:=Tryz.isAgg34
 z31:=Tryz.sizeOf34
 v31:=Tryz.zeroValue34
 t37:=Tryz.underlying93
 a37:=Tryz.isAgg93
 z37:=Tryz.sizeOf93
 v37:=Tryz.zeroValue93
 t70:=Tryz.underlying217
 a70:=Tryz.isAgg217
 z70:=Tryz.sizeOf217
 v70:=Tryz.zeroValue217
 t72:=Tryz.underlying219
 a72:=Tryz.isAgg219
 z72:=Tryz.sizeOf219
 v72:=Tryz.zeroValue219
 t75:=Tryz.underlying221
 a75:=Tryz.isAgg221
 z75:=Tryz.sizeOf221
 v75:=Tryz.zeroValue221
 t76:=Tryz.underlying222
 a76:=Tryz.isAgg222
 z76:=Tryz.sizeOf222
 v76:=Tryz.zeroValue222
 t127:=Tryz.underlying257
 a127:=Tryz.isAgg257
 z127:=Tryz.sizeOf257
 v127:=Tryz.zeroValue257
 t164:=Tryz.underlying286
 a164:=Tryz.isAgg286
 z164:=Tryz.sizeOf286
 v164:=Tryz.zeroValue286}
theorem Tryz.iH:Builder.Extra Tryz.prog Tryz.qT:={
 sizeBuilder:=by kernel_rfl
 liesBuilder:=by kernel_rfl
 t5:=Tryz.underlying5
 a5:=Tryz.isAgg5
 z5:=Tryz.sizeOf5
 v5:=Tryz.zeroValue5
 infoByte:=by kernel_rfl
 cellsByte:=by kernel_rfl
 sizeByte:=by kernel_rfl
 neB5:=by decide}
open Go.RowKit in
theorem Tryz.strings_Join_none (a:Option Addr)(c:Nat)(sep:ByteArray)(w:World):
  Calls Tryz.prog 83 #[.slice a 0 c,.string sep] w fun e w'=>e=.returned (.string ⟨#[]⟩)/\w'=w:=Any.strings_Join_none Tryz.D5 Tryz.iH a c sep w
open Go.RowKit in
theorem Tryz.strings_Join (bk o c:Nat)(xs:List ByteArray)(sep:ByteArray)(w:World)(hcells:∀(j:Nat) x,xs[j]?=some x->w.cell? ⟨bk,o+j,none⟩=some (.string x))(Sp:bk<w.heap.size)(hN:xs.length<=140737488355328)(gK:xs.length<=c)(hlen:(Lib.join (xs.map (·.data.toList)) sep.data.toList).length<=140737488355328):
  Calls Tryz.prog 83 #[.slice (some ⟨bk,o,none⟩) xs.length c,.string sep] w fun e w'=>e=.returned (.string ⟨(Lib.join (xs.map (·.data.toList)) sep.data.toList).toArray⟩)/\Below w.heap.size w w':=Any.strings_Join Tryz.D5 Tryz.iH bk o c xs sep w hcells Sp hN gK hlen
def Tryz.yI:Go.Shelf.Ren:=⟨fun|173=>133|246=>182|283=>212|284=>213|285=>214|286=>215|129=>232|317=>231|318=>233|319=>234|320=>235|337=>242|338=>243|n=>n,fun|2=>2|3=>3|9=>9|4=>4|171=>90|0=>0|53=>281|37=>93|5=>5|173=>284|212=>299|51=>300|20=>20|213=>301|46=>292|232=>313|233=>314|n=>n,fun|17=>4|18=>7|19=>8|n=>n⟩
theorem Tryz.ID:Go.Proofs.LaysM.n173 Tryz.prog Tryz.yI:={
 mixed:=by kernel_rfl
 f129:=Tryz.func232.trans (congrArg some (by kernel_rfl))
 f173:=Tryz.func133.trans (congrArg some (by kernel_rfl))
 f246:=Tryz.func182.trans (congrArg some (by kernel_rfl))
 f283:=Tryz.func212.trans (congrArg some (by kernel_rfl))
 f284:=Tryz.func213.trans (congrArg some (by kernel_rfl))
 f285:=Tryz.func214.trans (congrArg some (by kernel_rfl))
 f286:=Tryz.func215.trans (congrArg some (by kernel_rfl))
 f317:=Tryz.func231.trans (congrArg some (by kernel_rfl))
 f318:=Tryz.func233.trans (congrArg some (by kernel_rfl))
 f319:=Tryz.func234.trans (congrArg some (by kernel_rfl))
 f320:=Tryz.func235.trans (congrArg some (by kernel_rfl))
 f337:=Tryz.func242.trans (congrArg some (by kernel_rfl))
 f338:=Tryz.func243.trans (congrArg some (by kernel_rfl))
 t0:=Tryz.underlying0
 a0:=Tryz.isAgg0
 z0:=Tryz.sizeOf0
 v0:=Tryz.zeroValue0
 t2:=Tryz.underlying2
 a2:=Tryz.isAgg2
 z2:=Tryz.sizeOf2
 v2:=Tryz.zeroValue2
 t3:=Tryz.underlying3
 a3:=Tryz.isAgg3
 z3:=Tryz.sizeOf3
 v3:=Tryz.zeroValue3
 t4:=Tryz.underlying4
 a4:=Tryz.isAgg4
 z4:=Tryz.sizeOf4
 v4:=Tryz.zeroValue4
 t5:=Tryz.underlying5
 a5:=Tryz.isAgg5
 z5:=Tryz.sizeOf5
 v5:=Tryz.zeroValue5
 t9:=Tryz.underlying9
 a9:=Tryz.isAgg9
 z9:=Tryz.sizeOf9
 v9:=Tryz.zeroValue9
 t20:=Tryz.underlying20
 a20:=Tryz.isAgg20
 z20:=Tryz.sizeOf20
 v20:=Tryz.zeroValue20
 t37:=Tryz.underlying93
 a37:=Tryz.isAgg93
 z37:=Tryz.sizeOf93
 v37:=Tryz.zeroValue93
 t46:=Tryz.underlying292
 a46:=Tryz.isAgg292
 z46:=Tryz.sizeOf292
 v46:=Tryz.zeroValue292
 t51:=Tryz.underlying300
 a51:=Tryz.isAgg300
 z51:=Tryz.sizeOf300
 v51:=Tryz.zeroValue300
 t53:=Tryz.underlying281
 a53:=Tryz.isAgg281
 z53:=Tryz.sizeOf281
 v53:=Tryz.zeroValue281
 t171:=Tryz.underlying90
 a171:=Tryz.isAgg90
 z171:=Tryz.sizeOf90
 v171:=Tryz.zeroValue90
 t173:=Tryz.underlying284
 a173:=Tryz.isAgg284
 z173:=Tryz.sizeOf284
 v173:=Tryz.zeroValue284
 t212:=Tryz.underlying299
 a212:=Tryz.isAgg299
 z212:=Tryz.sizeOf299
 v212:=Tryz.zeroValue299
 t213:=Tryz.underlying301
 a213:=Tryz.isAgg301
 z213:=Tryz.sizeOf301
 t232:=Tryz.underlying313
 a232:=Tryz.isAgg313
 z232:=Tryz.sizeOf313
 v232:=Tryz.zeroValue313
 t233:=Tryz.underlying314
 a233:=Tryz.isAgg314
 z233:=Tryz.sizeOf314
 v233:=Tryz.zeroValue314
 g17:=by kernel_rfl
 g18:=by kernel_rfl
 g19:=by kernel_rfl
 i0:=by kernel_rfl
 i2:=by kernel_rfl
 i3:=by kernel_rfl
 i4:=by kernel_rfl
 i5:=by kernel_rfl
 i9:=by kernel_rfl
 i20:=by kernel_rfl
 i37:=by kernel_rfl
 i46:=by kernel_rfl
 i51:=by kernel_rfl
 i53:=by kernel_rfl
 i171:=by kernel_rfl
 i173:=by kernel_rfl
 i212:=by kernel_rfl
 i232:=by kernel_rfl
 i233:=by kernel_rfl
 m17:=by kernel_rfl
 m18:=by kernel_rfl
 m19:=by kernel_rfl}
open Go.RowKit Go.Sort Go.Lib in
theorem Tryz.strconv_FormatInt_10 (n:Int)(h0: -9223372036854775808<=n)(h1:n<=9223372036854775807)(w:World)(htab:Lib.TabIs Tryz.prog w "internal/strconv.uint64pow10" .u64 Lib.pow10Tab):
  Calls Tryz.prog 133 #[.int .i64 n,.int .i64 10] w fun e w'=>e=.returned (.string ⟨(Lib.itoa n).toArray⟩)/\∃k os,w'=grow (w.drewN k) os:=Any.strconv_FormatInt_10 Tryz.ID n h0 h1 w htab
end Go.Proofs
namespace Go.Proofs.YtmlgajhhnojdjaaGreatDoor
namespace Sq
open Go
structure RP where
 lines:List (List B)
 lets:List Nat
 blocks:List Nat
 raw:Bool
def eD:B:=[108,101,116]
def bX:B:=[98,108,111,99,107]
def rQ:B:=[105,110,116]
def qD:B:=[98,111,120]
def lk:B:=[112,97,105,114]
def oX:B:=[111,112,116]
def word (ws:List B)(k:Nat):B:=ws.getD k []
def RP.line (p:RP)(i:Nat):List B:=p.lines.getD i []
def iQ:List (List B)->Bool
 |[]=>false
 |ws::r=>if word ws 0=bX then true else if ends (word ws 0)then false else iQ r
def RP.inside (p:RP)(i:Nat):Bool:=iQ (p.lines.take i).reverse
def RP.lI (p:RP)(name:B):List Nat->Nat->Int
 |[],_=> -1
 |t::r,k=>if word (p.line t) 1=name then k else RP.lI p name r (k+1)
def RP.find (p:RP)(name:B):Int:=p.lI name p.lets 0
theorem RP.EE (p:RP)(name:B):∀(l:List Nat) (k:Nat),0<=p.lI name l k->∃j,p.lI name l k=((k+j:Nat):Int)/\j<l.length/\word (p.line (l.getD j 0)) 1=name:=by
 intro l;induction l with
 |nil=>intro k h;simp[RP.lI]at h
 |cons t r ih=>
  intro k h;rw[RP.lI]at h⊢;by_cases hc:word (p.line t) 1=name
  ·rw[jb hc];exact⟨0,by simp,by simp,by simpa using hc⟩
  ·rw[ja hc]at h⊢;obtain⟨j,h1,h2,h3⟩:=ih (k+1) h;exact⟨j+1,by rw[h1];congr 1;omega,by simpa using h2,by simpa using h3⟩
theorem RP.ye {p:RP}{name:B}(h:0<=p.find name):∃j:Nat,p.find name=j/\j<p.lets.length/\word (p.line (p.lets.getD j 0)) 1=name:=by
 obtain⟨j,h1,h2,h3⟩:=p.EE name p.lets 0 h;exact⟨j,by unfold RP.find;rw[h1];simp,h2,h3⟩
def RP.vd (p:RP)(w:B):B:=word (p.line (p.lets.getD (p.find (aL w)).toNat 0)) 2
def RP.typeOf (p:RP)(w:B):B:=
 if partOf w=97\/partOf w=98 then(if p.vd w=lk then qD else [])
 else if partOf w=115 then(if p.vd w=oX then qD else [])else p.vd w
def RP.CT (p:RP)(c:UInt8)(w:B):Bool:=
 if c=105\/c=111\/c=112\/c=109\/c=100 then decide (0<=p.find (aL w))
 else if c=78 then decide ((number w).getD 0<p.blocks.length)else true
def RP.fw (p:RP):B->List B->Bool
 |[],_=>true
 |c::f,ws=>p.CT c (word ws 0)&&RP.fw p f (ws.drop 1)
def RP.names (p:RP)(i:Nat):Bool:=
 if word (p.line i) 0=eD then decide (p.lets.getD (p.find (word (p.line i) 1)).toNat 0=i)
 else p.fw (behind (word (p.line i) 0) p.raw).1 ((p.line i).drop 1)
def RP.fV (p:RP)(c:UInt8)(w w1:B):Bool:=
 if c=110\/c=78\/c=102\/c=118 then true
 else if p.typeOf w=[]then false
 else if(c=105/\p.typeOf w≠rQ)\/(c=112/\p.typeOf w≠qD)\/(c=111/\p.typeOf w≠oX)then false
 else if(c=109\/c=100)/\p.typeOf w=rQ then false
 else if c=109/\p.typeOf w≠p.typeOf w1 then false else true
def RP.iY (p:RP)(w1:B):B->List B->Bool
 |[],_=>true
 |c::f,ws=>p.fV c (word ws 0) w1&&RP.iY p w1 f (ws.drop 1)
def RP.types (p:RP)(i:Nat):Bool:=p.iY (word (p.line i) 1) (behind (word (p.line i) 0) p.raw).1 ((p.line i).drop 1)
def qd:B->List B->Bool
 |[],_=>true
 |c::f,ws=>JF c (word ws 0)&&qd f (ws.drop 1)
def RP.form (p:RP)(i:Nat):Bool:=
 if word (p.line i) 0=eD then
  if(p.line i).length≠3\/0<p.blocks.length\/12<=p.lets.length then false
  else isName (word (p.line i) 1)&&(word (p.line i) 2==rQ||word (p.line i) 2==qD||word (p.line i) 2==lk||word (p.line i) 2==oX)
 else if word (p.line i) 0=bX then
  decide ((p.line i).length=1)&& !p.inside i&&decide (0<p.lets.length)&&decide (p.blocks.length<if p.raw then 2000 else 20)
 else if(behind (word (p.line i) 0) p.raw).2=false\/p.inside i=false\/(p.line i).length≠(behind (word (p.line i) 0) p.raw).1.length+1 then false
 else qd (behind (word (p.line i) 0) p.raw).1 ((p.line i).drop 1)
end Sq
namespace Sq
open Go
def RP.addLine (p:RP)(ws:List B):RP:={p with lines:=p.lines++[ws]}
def RP.lD (p:RP)(i:Nat):RP:={p with lets:=p.lets++[i]}
def RP.addBlock (p:RP)(i:Nat):RP:={p with blocks:=p.blocks++[i]}
def RP.mark (p:RP)(i:Nat):RP:=if word (p.line i) 0=eD then p.lD i else if word (p.line i) 0=bX then p.addBlock i else p
def gy:List (List B)->RP->Nat->RP×Option Nat
 |[],p,_=>(p,none)
 |ws::r,p,i=>if(p.addLine ws).form i then gy r ((p.addLine ws).mark i) (i+1)else(p.addLine ws,some i)
def de (f:Nat->Bool):Nat->Nat->Option Nat
 |0,_=>none
 |m+1,i=>if f i then de f m (i+1)else some i
def RP.gM (p:RP)(i:Nat):Bool:=word (p.line i) 0==eD||word (p.line i) 0==bX||p.types i
def start (raw:Bool):RP:=⟨[],[],[],raw⟩
def ba (text:B):List (List B):=(split 10 text).map (split 32)
def bP (text:B)(raw:Bool):Option RP×Nat×Nat:=
 if 4000<(split 10 text).length\/(raw=false/\120<(split 10 text).length)then(none,1,0)
 else match gy (ba text) (start raw) 0 with
  |(_,some i)=>(none,2,i)
  |(p,none)=>
   if p.inside (split 10 text).length=true\/p.blocks.length=0 then(none,2,(split 10 text).length)
   else match de p.names (split 10 text).length 0 with
    |some i=>(none,3,i)
    |none=>match de p.gM (split 10 text).length 0 with
     |some i=>(none,4,i)
     |none=>(some p,0,0)
theorem RP.fh (p:RP)(ws:List B)(j:Nat):(p.addLine ws).line j=if j<p.lines.length then p.line j else if j=p.lines.length then ws else []:=by
 simp only[RP.addLine,RP.line,List.getD_eq_getElem?_getD,List.getElem?_append];split
 ·rfl
 ·split
  ·rename_i h1 h2;subst h2;simp
  ·rw[jG (by simp;omega)];rfl
theorem RP.mF (p:RP)(i j:Nat):(p.mark i).line j=p.line j:=by
 unfold RP.mark RP.lD RP.addBlock;split;rfl;split<;>rfl
theorem RP.dm (p:RP)(i:Nat):(p.mark i).lines=p.lines:=by
 unfold RP.mark RP.lD RP.addBlock;split;rfl;split<;>rfl
theorem RP.pH (p:RP)(i:Nat):(p.mark i).raw=p.raw:=by
 unfold RP.mark RP.lD RP.addBlock;split;rfl;split<;>rfl
end Sq
end Go.Proofs.YtmlgajhhnojdjaaGreatDoor

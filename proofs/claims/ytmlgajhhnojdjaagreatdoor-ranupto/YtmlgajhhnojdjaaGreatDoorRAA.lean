import Derived.WalkKit
namespace Go.Proofs.YtmlgajhhnojdjaaGreatDoor
theorem jA:type_of% @List.getD_eq_getElem?_getD:= @List.getD_eq_getElem?_getD
theorem jB:type_of% @List.getElem?_eq_getElem:= @List.getElem?_eq_getElem
theorem jC:type_of% @Nat.le_refl:= @Nat.le_refl
theorem jD:type_of% @Array.getElem?_push_size:= @Array.getElem?_push_size
theorem jE:type_of% @List.drop_eq_getElem_cons:= @List.drop_eq_getElem_cons
theorem jF:type_of% @Option.some.injEq:= @Option.some.injEq
theorem jG:type_of% @List.getElem?_eq_none:= @List.getElem?_eq_none
theorem jH:type_of% @Bool.and_eq_true:= @Bool.and_eq_true
theorem jI:type_of% @List.mem_singleton:= @List.mem_singleton
theorem jJ:type_of% @List.getElem?_map:= @List.getElem?_map
theorem jK:type_of% @Nat.lt_of_lt_of_le:= @Nat.lt_of_lt_of_le
theorem jL:type_of% @List.getElem_mem:= @List.getElem_mem
theorem jM:type_of% @List.mem_cons_self:= @List.mem_cons_self
theorem jN:type_of% @List.mem_cons_of_mem:= @List.mem_cons_of_mem
theorem jO:type_of% @List.getElem?_replicate:= @List.getElem?_replicate
theorem jP:type_of% @List.mem_cons:= @List.mem_cons
theorem jQ:type_of% @Nat.zero_le:= @Nat.zero_le
theorem jR:type_of% @List.not_mem_nil:= @List.not_mem_nil
theorem jS:type_of% @Nat.le_trans:= @Nat.le_trans
theorem jT:type_of% @List.drop_eq_nil_of_le:= @List.drop_eq_nil_of_le
theorem jU:type_of% @Go.Value.slice.injEq:= @Go.Value.slice.injEq
theorem jV:type_of% @List.length_append:= @List.length_append
theorem jW:type_of% @List.cons_append:= @List.cons_append
theorem jX:type_of% @Bool.eq_iff_iff:= @Bool.eq_iff_iff
theorem jY:type_of% @List.length_cons:= @List.length_cons
theorem jZ:type_of% @beq_eq_false_iff_ne:= @beq_eq_false_iff_ne
theorem ja:type_of% @if_neg:= @if_neg
theorem jb:type_of% @if_pos:= @if_pos
theorem jc:type_of% @List.length_map:= @List.length_map
theorem jd:type_of% @List.getElem?_set:= @List.getElem?_set
theorem je:type_of% @Prod.mk.injEq:= @Prod.mk.injEq
theorem jf:type_of% @List.getElem?_append_right:= @List.getElem?_append_right
theorem jg:type_of% @List.getElem?_append_left:= @List.getElem?_append_left
end Go.Proofs.YtmlgajhhnojdjaaGreatDoor
namespace Go.Proofs.YtmlgajhhnojdjaaGreatDoor
namespace Sq
open Go
abbrev B:=List UInt8
def bs (l:B):ByteArray:=⟨l.toArray⟩
@[simp] theorem aE (l : B) : (bs l).toList = l := ByteArray.toList_mk l
theorem xD (s:ByteArray):bs s.toList=s:=by
 rw[ByteArray.toList_eq];cases s;simp[bs]
@[simp] theorem dR (l : B) : (bs l).size = l.length := by simp [bs, ByteArray.size]
theorem length_toList (s:ByteArray):s.toList.length=s.size:=by
 rw[ByteArray.toList_eq];cases s;simp[ByteArray.size]
theorem AF {s:ByteArray}{l:B}(h:s.toList=l):s=bs l:=by rw[<-h,xD]
theorem getElem_toList (s:ByteArray)(k:Nat)(h:k<s.size):s[k]=s.toList[k]'(by rw[length_toList];exact h):=by
 have e:s.toList=s.data.toList:=ByteArray.toList_eq s;simp only[e];cases s;rfl
theorem getElem?_toList (s:ByteArray)(k:Nat)(h:k<s.size):s.toList[k]?=some s[k]:=by
 rw[getElem_toList s k h];exact jB _
theorem extract_toList (s:ByteArray)(a b:Nat):(s.extract a b).toList=(s.toList.drop a).take (b-a):=by
 rw[ByteArray.toList_eq,ByteArray.toList_eq];have:(s.extract a b).data=s.data.extract a b:=by simp
 rw[this];simp[List.extract_eq_take_drop]
theorem extract_eq (s:ByteArray)(a b:Nat):s.extract a b=bs ((s.toList.drop a).take (b-a)):=AF (extract_toList s a b)
@[simp] theorem WZ (l : B) (k : Nat) (h : k < (bs l).size) : (bs l)[k] = l[k]'(by simpa using h) := by
 rw[getElem_toList (bs l) k h];simp
def lower (c:UInt8):Bool:=decide (97<=c.toNat)&&decide (c.toNat<=122)
def digit (c:UInt8):Bool:=decide (48<=c.toNat)&&decide (c.toNat<=57)
def isName (l:B):Bool:=l.all lower&&decide (1<=l.length)&&decide (l.length<=4)
def cj:Int->B->Option Int
 |n,[]=>some n
 |n,c::r=>if digit c then(if 10*n+(c.toNat-48)>1000000000 then none else cj (10*n+(c.toNat-48)) r)else none
def dm (s:B):B:=match s with|c::r=>if c=45 then r else s|[]=>s
def signed (s:B):Bool:=match s with|c::_=>decide (c=45)|[]=>false
def number (s:B):Option Int:=
 if(dm s).length<1\/((dm s).head?=some 48/\s≠[48])then none
 else match cj 0 (dm s)with
  |none=>none
  |some n=>some (if signed s then-n else n)
def dw (w:B):Bool:=decide (2<w.length)&&(w[w.length-2]?==some 46)
def aj (w:B):B:=if dw w then w.take (w.length-2)else w
def partOf (w:B):UInt8:=if dw w then w.getLastD 0 else 0
def bX (w:B):Bool:=isName (aj w)&&(decide (aj w=w)||partOf w==97||partOf w==98||partOf w==115)
def ends (w:B):Bool:=w==[103,111,116,111]||w==[105,102]||w==[109,97,116,99,104]||w==[101,110,100]||w==[116,101,115,116]
def behind (w:B)(raw:Bool):B×Bool:=
 if w=[115,101,116]then([105,110],true)
 else if w=[97,100,100]\/w=[115,117,98]\/w=[109,117,108]\/w=[100,105,118]then([105,105,105],true)
 else if w=[105,110]\/w=[111,117,116]\/w=[101,110,100]then([105],true)
 else if w=[110,101,119]\/w=[115,116,111,114,101]then([112,105],true)
 else if w=[108,111,97,100]then([105,112],true)
 else if w=[109,111,118,101]then([109,109],true)
 else if w=[110,111,110,101]then([111],true)
 else if w=[115,111,109,101]then([111,112],true)
 else if w=[103,111,116,111]then([78],true)
 else if w=[105,102]then([105,78,78],true)
 else if w=[109,97,116,99,104]then([111,78,78],true)
 else if w=[100,114,111,112]then([100],!raw)
 else if w=[102,114,101,101]then([112],raw)
 else if w=[102,108,97,103]then([102,118],raw)
 else if w=[116,101,115,116]then([102,78,78],raw)
 else([],false)
def iC (kind:UInt8)(w:B):Bool:=
 if kind=105\/kind=111 then isName w
 else if kind=112\/kind=109\/kind=100 then bX w
 else if kind=110 then(number w).isSome
 else if kind=78 then match number w with|some n=>decide (0<=n)|none=>false
 else if kind=102 then match number w with|some n=>decide (0<=n)&&decide (n<50)|none=>false
 else match number w with|some n=>decide (n=0)||decide (n=1)|none=>false
theorem kW (a:UInt8)(n:Nat)(hn:n<256):a=UInt8.ofNat n↔a.toNat=n:=by
 rw[<-UInt8.toNat_inj,UInt8.toNat_ofNat_of_lt' (by simpa using hn)]
theorem G6 (w:B):bX w=(isName (aj w)&&(decide (aj w=w)||decide ((partOf w).toNat=97)||decide ((partOf w).toNat=98)||decide ((partOf w).toNat=115))):=by
 have e1:=kW (partOf w) 97 (by omega);have e2:=kW (partOf w) 98 (by omega);have e3:=kW (partOf w) 115 (by omega);rw[jX];simp only[bX,Bool.and_eq_true,Bool.or_eq_true,decide_eq_true_eq,beq_iff_eq];rw[<-e1,<-e2,<-e3];rfl
end Sq
namespace Sq
open Go
def eT (p:B):List B->List B
 |[]=>[p]
 |h::t=>(p++h)::t
def split (c:UInt8):B->List B
 |[]=>[[]]
 |x::r=>if x=c then []::split c r else eT [x] (split c r)
theorem pa (c:UInt8)(l:B):split c l≠[]:=by
 cases l with
 |nil=>simp[split]
 |cons x r=>rw[split];split;simp;cases h:split c r<;>simp[eT]
theorem lQ (c:UInt8)(l:B):(split c l).length<=l.length+1:=by
 induction l with
 |nil=>simp[split]
 |cons x r ih=>
  rw[split];split
  ·simp;omega
  ·cases h:split c r with
   |nil=>simp[eT]
   |cons a b=>rw[h]at ih;simp[eT]at ih⊢;omega
theorem yD {L:List B}(h:L≠[]):eT [] L=L:=by
 cases L with
 |nil=>exact absurd rfl h
 |cons a b=>rfl
theorem FN (p q:B)(L:List B)(h:L≠[]):eT p (eT q L)=eT (p++q) L:=by
 cases L with
 |nil=>exact absurd rfl h
 |cons a b=>simp[eT]
theorem x8 (c:UInt8)(l:B):∀x∈split c l,x.length<=l.length:=by
 induction l with
 |nil=>simp[split]
 |cons a r ih=>
  intro x hx;rw[split]at hx;split at hx
  ·rcases jP.mp hx with rfl|hx
   ·simp
   ·have:=ih x hx;simp;omega
  ·cases h:split c r with
   |nil=>exact absurd h (pa c r)
   |cons p q=>
    rw[h]at hx ih;simp only[eT,List.mem_cons]at hx;rcases hx with rfl|hx
    ·have:=ih p (by simp);simp;omega
    ·have:=ih x (by simp[hx]);simp;omega
def kg (c:UInt8)(l:B)(done:List B)(f k:Nat):Prop:=split c l=done++eT ((l.drop f).take (k-f)) (split c (l.drop k))
theorem EU (c:UInt8)(l:B):kg c l [] 0 0:=by
 simp[kg,yD (pa c l)]
theorem PV (l:B)(f k:Nat)(hf:f<=k)(hk:k<l.length):(l.drop f).take (k+1-f)=(l.drop f).take (k-f)++[l[k]]:=by
 have e:k+1-f=k-f+1:=by omega
 rw[e,List.take_add_one,List.getElem?_drop,show f+(k-f)=k by omega,jB hk];rfl
theorem Pl {c:UInt8}{l:B}{done:List B}{f k:Nat}(h:kg c l done f k)(hf:f<=k)(hk:k<l.length)(hc:¬l[k]=c):kg c l done f (k+1):=by
 unfold kg at h⊢;rw[h,jE hk,split,ja hc,FN _ _ _ (pa _ _),PV l f k hf hk]
theorem Pk {c:UInt8}{l:B}{done:List B}{f k:Nat}(h:kg c l done f k)(hk:k<l.length)(hc:l[k]=c):kg c l (done++[(l.drop f).take (k-f)]) (k+1) (k+1):=by
 unfold kg at h⊢;rw[h,jE hk,split,jb hc,Nat.sub_self,List.take_zero,yD (pa _ _)];simp[eT]
theorem LI {c:UInt8}{l:B}{done:List B}{f k:Nat}(h:kg c l done f k)(hk:k=l.length):split c l=done++[(l.drop f).take (k-f)]:=by
 unfold kg at h;rw[h,hk,List.drop_length,split];simp[eT]
theorem Cz {c:UInt8}{l:B}{done:List B}{f k:Nat}(h:kg c l done f k):done.length<=l.length:=by
 have h1:=lQ c l;unfold kg at h;rw[h,jV]at h1;have:1<=(eT ((l.drop f).take (k-f)) (split c (l.drop k))).length:=by
  cases hs:split c (l.drop k)<;>simp[eT]
 omega
def cellsOf (L:List B):List Value:=L.map fun b=> .string (bs b)
end Sq
namespace Sq
open Go
structure RP where
 lines:List (List B)
 lets:List Nat
 blocks:List Nat
 raw:Bool
def cx:B:=[108,101,116]
def aR:B:=[98,108,111,99,107]
def mN:B:=[105,110,116]
def kA:B:=[98,111,120]
def cm:B:=[112,97,105,114]
def eH:B:=[111,112,116]
def word (ws:List B)(k:Nat):B:=ws.getD k []
def RP.line (p:RP)(i:Nat):List B:=p.lines.getD i []
def lK:List (List B)->Bool
 |[]=>false
 |ws::r=>if word ws 0=aR then true else if ends (word ws 0)then false else lK r
def RP.inside (p:RP)(i:Nat):Bool:=lK (p.lines.take i).reverse
def RP.ji (p:RP)(name:B):List Nat->Nat->Int
 |[],_=> -1
 |t::r,k=>if word (p.line t) 1=name then k else RP.ji p name r (k+1)
def RP.find (p:RP)(name:B):Int:=p.ji name p.lets 0
theorem RP.NX (p:RP)(name:B):∀(l:List Nat) (k:Nat),0<=p.ji name l k->∃j,p.ji name l k=((k+j:Nat):Int)/\j<l.length/\word (p.line (l.getD j 0)) 1=name:=by
 intro l;induction l with
 |nil=>intro k h;simp[RP.ji]at h
 |cons t r ih=>
  intro k h;rw[RP.ji]at h⊢;by_cases hc:word (p.line t) 1=name
  ·rw[jb hc];exact⟨0,by simp,by simp,by simpa using hc⟩
  ·rw[ja hc]at h⊢;obtain⟨j,h1,h2,h3⟩:=ih (k+1) h;exact⟨j+1,by rw[h1];congr 1;omega,by simpa using h2,by simpa using h3⟩
theorem RP.eA {p:RP}{name:B}(h:0<=p.find name):∃j:Nat,p.find name=j/\j<p.lets.length/\word (p.line (p.lets.getD j 0)) 1=name:=by
 obtain⟨j,h1,h2,h3⟩:=p.NX name p.lets 0 h;exact⟨j,by unfold RP.find;rw[h1];simp,h2,h3⟩
def RP.j6 (p:RP)(w:B):B:=word (p.line (p.lets.getD (p.find (aj w)).toNat 0)) 2
def RP.typeOf (p:RP)(w:B):B:=
 if partOf w=97\/partOf w=98 then(if p.j6 w=cm then kA else [])
 else if partOf w=115 then(if p.j6 w=eH then kA else [])else p.j6 w
def RP.rh (p:RP)(c:UInt8)(w:B):Bool:=
 if c=105\/c=111\/c=112\/c=109\/c=100 then decide (0<=p.find (aj w))
 else if c=78 then decide ((number w).getD 0<p.blocks.length)else true
def RP.et (p:RP):B->List B->Bool
 |[],_=>true
 |c::f,ws=>p.rh c (word ws 0)&&RP.et p f (ws.drop 1)
def RP.names (p:RP)(i:Nat):Bool:=
 if word (p.line i) 0=cx then decide (p.lets.getD (p.find (word (p.line i) 1)).toNat 0=i)
 else p.et (behind (word (p.line i) 0) p.raw).1 ((p.line i).drop 1)
theorem RP.EO (p:RP)(f:B)(ws:List B)(k:Nat)(hk:k<f.length):p.et (f.drop k) (ws.drop (k+1))=(p.rh f[k] (word ws (k+1))&&p.et (f.drop (k+1)) (ws.drop (k+2))):=by
 rw[jE hk,RP.et,List.drop_drop];simp[word]
def RP.di (p:RP)(c:UInt8)(w w1:B):Bool:=
 if c=110\/c=78\/c=102\/c=118 then true
 else if p.typeOf w=[]then false
 else if(c=105/\p.typeOf w≠mN)\/(c=112/\p.typeOf w≠kA)\/(c=111/\p.typeOf w≠eH)then false
 else if(c=109\/c=100)/\p.typeOf w=mN then false
 else if c=109/\p.typeOf w≠p.typeOf w1 then false else true
def RP.fy (p:RP)(w1:B):B->List B->Bool
 |[],_=>true
 |c::f,ws=>p.di c (word ws 0) w1&&RP.fy p w1 f (ws.drop 1)
def RP.types (p:RP)(i:Nat):Bool:=p.fy (word (p.line i) 1) (behind (word (p.line i) 0) p.raw).1 ((p.line i).drop 1)
theorem RP.Fj (p:RP)(w1:B)(f:B)(ws:List B)(k:Nat)(hk:k<f.length):p.fy w1 (f.drop k) (ws.drop (k+1))=(p.di f[k] (word ws (k+1)) w1&&p.fy w1 (f.drop (k+1)) (ws.drop (k+2))):=by
 rw[jE hk,RP.fy,List.drop_drop];simp[word]
theorem Ve {c:Prop} [Decidable c](a b:B×Bool)(ha:a.1.length<=3)(hb:b.1.length<=3):(if c then a else b).1.length<=3:=by split<;>assumption
theorem po (w:B)(r:Bool):(behind w r).1.length<=3:=by
 unfold behind
 repeat (first|(refine Ve _ _ (by simp) ?_)|simp)
def jo:B->List B->Bool
 |[],_=>true
 |c::f,ws=>iC c (word ws 0)&&jo f (ws.drop 1)
theorem Gn (f:B)(ws:List B)(k:Nat)(hk:k<f.length):jo (f.drop k) (ws.drop (k+1))=(iC f[k] (word ws (k+1))&&jo (f.drop (k+1)) (ws.drop (k+2))):=by
 rw[jE hk,jo,List.drop_drop];simp[word]
def RP.form (p:RP)(i:Nat):Bool:=
 if word (p.line i) 0=cx then
  if(p.line i).length≠3\/0<p.blocks.length\/12<=p.lets.length then false
  else isName (word (p.line i) 1)&&(word (p.line i) 2==mN||word (p.line i) 2==kA||word (p.line i) 2==cm||word (p.line i) 2==eH)
 else if word (p.line i) 0=aR then
  decide ((p.line i).length=1)&& !p.inside i&&decide (0<p.lets.length)&&decide (p.blocks.length<if p.raw then 2000 else 20)
 else if(behind (word (p.line i) 0) p.raw).2=false\/p.inside i=false\/(p.line i).length≠(behind (word (p.line i) 0) p.raw).1.length+1 then false
 else jo (behind (word (p.line i) 0) p.raw).1 ((p.line i).drop 1)
def kinds:List UInt8:=[105,110,112,109,111,78,100,102,118]
theorem Ox {c:Prop} [Decidable c](a b:B×Bool)(ha:∀x∈a.1,x∈kinds)(hb:∀x∈b.1,x∈kinds):∀x∈(if c then a else b).1,x∈kinds:=by split<;>assumption
theorem D3 (w:B)(r:Bool):∀x∈(behind w r).1,x∈kinds:=by
 unfold behind
 repeat (first|(refine Ox _ _ (by simp[kinds]) ?_)|simp)
structure RP.Ok (p:RP):Prop where
 words:∀i,i<p.lines.length->1<=(p.line i).length
 lets:∀t∈p.lets,t<p.lines.length/\(p.line t).length=3
 blocks:∀b∈p.blocks,b<p.lines.length
 size:p.lines.length<=4000
 Hz:p.lets.length<=4000
 ta:p.blocks.length<=4000
 long:∀i j,(word (p.line i) j).length<=1099511627776
 wide:∀i,(p.line i).length<=1099511627777
end Sq
namespace Sq
open Go
def RP.addLine (p:RP)(ws:List B):RP:={p with lines:=p.lines++[ws]}
def RP.dD (p:RP)(i:Nat):RP:={p with lets:=p.lets++[i]}
def RP.addBlock (p:RP)(i:Nat):RP:={p with blocks:=p.blocks++[i]}
def RP.mark (p:RP)(i:Nat):RP:=if word (p.line i) 0=cx then p.dD i else if word (p.line i) 0=aR then p.addBlock i else p
def dx:List (List B)->RP->Nat->RP×Option Nat
 |[],p,_=>(p,none)
 |ws::r,p,i=>if(p.addLine ws).form i then dx r ((p.addLine ws).mark i) (i+1)else(p.addLine ws,some i)
def bp (f:Nat->Bool):Nat->Nat->Option Nat
 |0,_=>none
 |m+1,i=>if f i then bp f m (i+1)else some i
def RP.cz (p:RP)(i:Nat):Bool:=word (p.line i) 0==cx||word (p.line i) 0==aR||p.types i
def start (raw:Bool):RP:=⟨[],[],[],raw⟩
def aZ (text:B):List (List B):=(split 10 text).map (split 32)
def aK (text:B)(raw:Bool):Option RP×Nat×Nat:=
 if 4000<(split 10 text).length\/(raw=false/\120<(split 10 text).length)then(none,1,0)
 else match dx (aZ text) (start raw) 0 with
  |(_,some i)=>(none,2,i)
  |(p,none)=>
   if p.inside (split 10 text).length=true\/p.blocks.length=0 then(none,2,(split 10 text).length)
   else match bp p.names (split 10 text).length 0 with
    |some i=>(none,3,i)
    |none=>match bp p.cz (split 10 text).length 0 with
     |some i=>(none,4,i)
     |none=>(some p,0,0)
def RP.gO (p:RP)(j:Nat):Prop:=if word (p.line j) 0=cx then(p.line j).length=3/\j∈p.lets else(behind (word (p.line j) 0) p.raw).1.length+1<=(p.line j).length
theorem RP.fp (p:RP)(ws:List B)(j:Nat):(p.addLine ws).line j=if j<p.lines.length then p.line j else if j=p.lines.length then ws else []:=by
 simp only[RP.addLine,RP.line,List.getD_eq_getElem?_getD,List.getElem?_append];split
 ·rfl
 ·split
  ·rename_i h1 h2;subst h2;simp
  ·rw[jG (by simp;omega)];rfl
theorem RP.l8 (p:RP)(i j:Nat):(p.mark i).line j=p.line j:=by
 unfold RP.mark RP.dD RP.addBlock;split;rfl;split<;>rfl
theorem RP.ei (p:RP)(i:Nat):(p.mark i).lines=p.lines:=by
 unfold RP.mark RP.dD RP.addBlock;split;rfl;split<;>rfl
theorem RP.mE (p:RP)(i:Nat):(p.mark i).raw=p.raw:=by
 unfold RP.mark RP.dD RP.addBlock;split;rfl;split<;>rfl
theorem Jh (k:Nat):word [] k=[]:=by simp[word]
theorem RP.Ok.addLine {p:RP}(h:p.Ok){ws:List B}(h1:1<=ws.length)(hs:p.lines.length<4000)(hl:∀j,(word ws j).length<=1099511627776)(hw:ws.length<=1099511627777):(p.addLine ws).Ok:=by
 have vD:=p.fp ws;have hlen:(p.addLine ws).lines.length=p.lines.length+1:=by simp[RP.addLine]
 refine⟨fun i hi=> ?_,fun t ht=> ?_,fun b hb=> ?_,by rw[hlen];omega,h.Hz,h.ta,fun i j=> ?_,fun i=> ?_⟩
 ·rw[vD];rw[hlen]at hi;split
  ·exact h.words i ‹_›
  ·rw[jb (by omega)];exact h1
 ·obtain⟨a,b⟩:=h.lets t ht;rw[hlen,vD,jb a];exact⟨by omega,b⟩
 ·have:=h.blocks b hb;rw[hlen];omega
 ·rw[vD];split
  ·exact h.long i j
  ·split
   ·exact hl j
   ·simp[Jh]
 ·rw[vD];split
  ·exact h.wide i
  ·split
   ·exact hw
   ·simp
theorem RP.Ok.dD {p:RP}(h:p.Ok){i:Nat}(hi:i<p.lines.length)(h3:(p.line i).length=3)(hn:p.lets.length<4000):(p.dD i).Ok:=by
 refine⟨h.words,fun t ht=> ?_,h.blocks,h.size,by simp[RP.dD];omega,h.ta,h.long,h.wide⟩;simp only[RP.dD,List.mem_append,List.mem_singleton]at ht;rcases ht with ht|rfl
 ·exact h.lets t ht
 ·exact⟨hi,h3⟩
theorem RP.Ok.addBlock {p:RP}(h:p.Ok){i:Nat}(hi:i<p.lines.length)(hn:p.blocks.length<4000):(p.addBlock i).Ok:=by
 refine⟨h.words,h.lets,fun b hb=> ?_,h.size,h.Hz,by simp[RP.addBlock];omega,h.long,h.wide⟩;simp only[RP.addBlock,List.mem_append,List.mem_singleton]at hb;rcases hb with hb|rfl
 ·exact h.blocks b hb
 ·exact hi
theorem RP.Ok.start (raw:Bool):(Sq.start raw).Ok:=
 ⟨fun i hi=>by simp[Sq.start]at hi,fun t ht=>by simp[Sq.start]at ht,fun b hb=>by simp[Sq.start]at hb,by simp[Sq.start],by simp[Sq.start],by simp[Sq.start],
  fun i j=>by simp[Sq.start,RP.line,Jh],fun i=>by simp[Sq.start,RP.line]⟩
theorem RP.xJ {p:RP}{i:Nat}(h:p.form i=true)(hl:word (p.line i) 0=cx):(p.line i).length=3:=by
 rw[RP.form,jb hl]at h;by_cases h3:(p.line i).length=3
 ·exact h3
 ·rw[jb (.inl h3)]at h;cases h
theorem RP.Gp {p:RP}{i:Nat}(h:p.form i=true)(hl:¬word (p.line i) 0=cx)(h1:1<=(p.line i).length):(behind (word (p.line i) 0) p.raw).1.length+1<=(p.line i).length:=by
 by_cases hb:word (p.line i) 0=aR
 ·rw[hb];have:(behind aR p.raw).1=[]:=by cases p.raw<;>rfl
  rw[this];simpa using h1
 ·rw[RP.form,ja hl,ja hb]at h;by_cases hx:(behind (word (p.line i) 0) p.raw).2=false\/p.inside i=false\/(p.line i).length≠(behind (word (p.line i) 0) p.raw).1.length+1
  ·rw[jb hx]at h;cases h
  ·simp only[not_or,ne_eq,Decidable.not_not]at hx;omega
theorem RP.gO.addLine {p:RP}{j:Nat}(h:p.gO j)(hj:j<p.lines.length)(ws:List B):(p.addLine ws).gO j:=by
 unfold RP.gO at h⊢;rw[p.fp ws j,jb hj];exact h
theorem RP.gO.mark {p:RP}{j:Nat}(h:p.gO j)(i:Nat):(p.mark i).gO j:=by
 unfold RP.gO at h⊢;rw[p.l8 i j,p.mE];split
 ·rename_i hl;rw[jb hl]at h;refine⟨h.1,?_⟩;unfold RP.mark;split
  ·exact List.mem_append_left _ h.2
  ·split
   ·exact h.2
   ·exact h.2
 ·rename_i hl;rw[ja hl]at h;exact h
theorem RP.Lj {p:RP}{i:Nat}(h:p.form i=true)(h1:1<=(p.line i).length):(p.mark i).gO i:=by
 unfold RP.gO;rw[p.l8 i i,p.mE];split
 ·rename_i hl;refine⟨p.xJ h hl,?_⟩;simp[RP.mark,hl,RP.dD]
 ·rename_i hl;exact p.Gp h hl h1
end Sq
namespace Sq
open Go
def fb:List (B×B):=
 [(cx,[100,116]),(aR,[]),([115,101,116],[105,35]),([97,100,100],[105,105,105]),([115,117,98],[105,105,105]),([109,117,108],[105,105,105]),([100,105,118],[105,105,105]),
  ([105,110],[105]),([111,117,116],[105]),([110,101,119],[112,105]),([108,111,97,100],[105,112]),([115,116,111,114,101],[112,105]),([109,111,118,101],[109,109]),([110,111,110,101],[111]),
  ([115,111,109,101],[111,112]),([100,114,111,112],[109]),([102,114,101,101],[112]),([102,108,97,103],[102,118]),([103,111,116,111],[98]),([105,102],[105,98,98]),
  ([109,97,116,99,104],[111,98,98]),([116,101,115,116],[102,98,98]),([101,110,100],[105])]
def od (l:List B)(w:B)(k:Nat):Option Nat:=
 match l with
 |[]=>none
 |s::r=>if s=w then some k else od r w (k+1)
def fE (w:B):Option Nat:=od (fb.map (·.1)) w 0
def ag (op:Nat):B:=(fb.getD op ([],[])).2
def j5:List B:=[mN,kA,cm,eH]
def gN (w:B):Option Nat:=od j5 w 0
def cE:B->B×Option B
 |[]=>([],none)
 |c::r=>if c=46 then([],some r)else(c::(cE r).1,(cE r).2)
def bS (w:B):Option (B×Nat):=
 match (cE w).2 with
 |none=>some ((cE w).1,0)
 |some t=>if t=[97]then some ((cE w).1,1)else if t=[98]then some ((cE w).1,2)else if t=[115]then some ((cE w).1,3)else none
def aA (w:B):Option Int:=
 match w with
 |[]=>none
 |c::_=>if digit c=true/\¬(c=48/\w≠[48])then cj 0 w else none
def dP (w:B):Option Int:=
 match w with
 |[]=>aA w
 |c::r=>if c=45 then(match aA r with|none=>none|some n=>if n=0 then none else some (-n))else aA w
def jq (w:B)(c:UInt8):Bool:=
 if c=100\/c=105\/c=111 then isName w
 else if c=116 then(gN w).isSome
 else if c=112\/c=109 then(match bS w with|some x=>isName x.1|none=>false)
 else if c=35 then(dP w).isSome
 else if c=98 then(aA w).isSome
 else if c=102 then(match aA w with|some n=>decide (n<50)|none=>false)
 else if c=118 then w==[48]||w==[49]
 else false
def bh:B->List B->Bool
 |[],_=>true
 |c::f,ws=>jq (word ws 0) c&&bh f (ws.drop 1)
def eQ (ws:List B):Option (Nat×List B):=
 match fE (word ws 0)with
 |none=>none
 |some op=>if ws.length-1=(ag op).length/\bh (ag op) (ws.drop 1)=true then some (op,ws.drop 1)else none
def pE (raw:Bool)(op:Nat):Bool:=if op=15 then !raw else if op=16\/op=17\/op=21 then raw else true
structure fk where
 sec:Nat
 locals:Nat
 blocks:Nat
def aQ (raw:Bool)(o:fk)(op:Nat):fk×Bool:=
 if pE raw op=false then(o,false)
 else if op=0 then(⟨o.sec,o.locals+1,o.blocks⟩,o.sec==0&&decide (o.locals+1<=12))
 else if op=1 then(⟨1,o.locals,o.blocks+1⟩,decide (0<o.locals)&& !(o.sec==1)&&decide (o.blocks+1<=if raw then 2000 else 20))
 else if¬o.sec=1 then(o,false)
 else if 18<=op then(⟨2,o.locals,o.blocks⟩,true)
 else(o,true)
theorem A2 (l:List B)(w:B)(k n:Nat)(h:od l w k=some n):k<=n/\n-k<l.length/\l.getD (n-k) []=w:=by
 induction l generalizing k with
 |nil=>simp[od]at h
 |cons s r ih=>
  rw[od]at h;split at h
  ·rename_i hs;obtain rfl:k=n:=by simpa using h
   simp[hs]
  ·obtain⟨h1,h2,h3⟩:=ih (k+1) h;refine⟨by omega,by simp;omega,?_⟩;rw[show n-k=(n-(k+1))+1 by omega];simpa using h3
theorem oX {w:B}{n:Nat}(h:fE w=some n):n<23:=by
 have:=(A2 _ _ _ _ h).2.1;simpa [fb]using this
def letter (c:UInt8):UInt8:=if c=35 then 110 else if c=98 then 78 else c
theorem rj:∀(l:B) (n m:Int),0<=n->cj n l=some m->n<=m
 |[],n,m,_,h=>by simp[cj]at h;omega
 |c::r,n,m,h0,h=>by
  rw[cj]at h;split at h
  ·rename_i hd;simp only[digit,Bool.and_eq_true,decide_eq_true_eq]at hd;split at h
   ·cases h
   ·have:=rj r _ m (by omega) h;omega
  ·cases h
theorem O7 {c:UInt8}{r:B}{m:Int}(hc:¬c=48)(h:cj 0 (c::r)=some m):1<=m:=by
 rw[cj]at h;split at h
 ·rename_i hd;simp only[digit,Bool.and_eq_true,decide_eq_true_eq]at hd;have TQ:¬c.toNat=48:=fun e=>hc ((kW c 48 (by omega)).mpr e)
  split at h
  ·cases h
  ·have:=rj r _ m (by omega) h;omega
 ·cases h
theorem sP {c:UInt8}{r:B}(n:Int)(h:¬digit c=true):cj n (c::r)=none:=by rw[cj,ja h]
theorem oz {c:UInt8}{r:B}(hc:¬c=45):number (c::r)=aA (c::r):=by
 have hu:dm (c::r)=c::r:=by simp[dm,hc]
 have hs:signed (c::r)=false:=by simp[signed,hc]
 rw[number,hu,hs,aA];by_cases h0:c=48/\(c::r)≠[48]
 ·rw[jb (.inr ⟨by rw[h0.1];rfl,h0.2⟩),ja (fun e=>e.2 h0)]
 ·rw[ja (by simp only[List.length_cons,List.head?_cons,Option.some.injEq];rintro(h|h);omega;exact h0 h)];by_cases hd:digit c=true
  ·rw[jb ⟨hd,h0⟩];cases cj 0 (c::r)<;>simp
  ·rw[ja (fun e=>hd e.1),sP _ hd]
theorem sf (w:B):dP w=number w:=by
 cases w with
 |nil=>rfl
 |cons c r=>
  rw[dP];by_cases hc:c=45
  ·subst hc;have hu:dm (45::r)=r:=rfl;have hs:signed (45::r)=true:=rfl;rw[jb rfl,number,hu,hs];cases r with
   |nil=>rfl
   |cons d t=>
    by_cases hd:d=48
    ·subst hd;rw[jb (.inr ⟨rfl,by simp⟩),aA];by_cases ht:t=[]
     ·subst ht;rfl
     ·rw[ja (fun e=>e.2 ⟨rfl,by simp[ht]⟩)]
    ·rw[ja (by simp[hd]),aA];by_cases hdg:digit d=true
     ·rw[jb ⟨hdg,fun e=>hd e.1⟩];cases hn:cj 0 (d::t)with
      |none=>rfl
      |some n=>
       have:=O7 hd hn;simp only;rw[ja (by omega)];rfl
     ·rw[ja (fun e=>hdg e.1),sP _ hdg]
  ·rw[ja hc,oz hc]
theorem Bu {r:B}{n:Int}(h:number (45::r)=some n):n<=-1:=by
 rw[<-sf,dP,jb rfl]at h;cases hd:aA r with
 |none=>rw[hd]at h;cases h
 |some m=>
  rw[hd]at h;simp only at h;split at h
  ·cases h
  ·simp only[Option.some.injEq]at h;have:0<=m:=by
    cases r with
    |nil=>cases hd
    |cons c t=>
     rw[aA]at hd;split at hd
     ·exact rj _ _ _ (by omega) hd
     ·cases hd
   omega
theorem Az {w:B}{m:Int}(hd:aA w=some m):0<=m:=by
 cases w with
 |nil=>cases hd
 |cons c t=>
  rw[aA]at hd;split at hd
  ·exact rj _ _ _ (by omega) hd
  ·cases hd
theorem pB (w:B):aA w=match number w with|some n=>if 0<=n then some n else none|none=>none:=by
 cases w with
 |nil=>rfl
 |cons c r=>
  by_cases hc:c=45
  ·subst hc;have h1:aA (45::r)=none:=by rw[aA,ja (fun e=>absurd e.1 (by decide))]
   rw[h1];cases hn:number (45::r)with
   |none=>rfl
   |some n=>have:=Bu hn;simp only;rw[ja (by omega)]
  ·rw[oz hc];cases hd:aA (c::r)with
   |none=>rfl
   |some n=>have:=Az hd;simp only;rw[jb this]
theorem WB (d:UInt8):cj 0 [d]=if digit d then some ((d.toNat:Int)-48)else none:=by
 rw[cj];split
 ·rename_i hd;simp only[digit,Bool.and_eq_true,decide_eq_true_eq]at hd;rw[ja (by omega)];simp[cj]
 ·rfl
theorem LD (w:B):(match number w with|some n=>decide (n=0)||decide (n=1)|none=>false)=(w==[48]||w==[49]):=by
 cases w with
 |nil=>rfl
 |cons c r=>
  by_cases hc:c=45
  ·subst hc;have:((45::r:B)==[48]||(45::r:B)==[49])=false:=by simp
   rw[this];cases hn:number (45::r)with
   |none=>rfl
   |some n=>have:=Bu hn;simp;omega
  ·rw[oz hc,aA];by_cases TQ:c=48
   ·subst TQ;by_cases hr:r=[]
    ·subst hr;rfl
    ·rw[ja (fun e=>e.2 ⟨rfl,by simp[hr]⟩)];simp[hr]
   ·by_cases hd:digit c=true
    ·rw[jb ⟨hd,fun e=>TQ e.1⟩];have Oc:=hd;simp only[digit,Bool.and_eq_true,decide_eq_true_eq]at Oc;have h48':¬c.toNat=48:=fun e=>TQ ((kW c 48 (by omega)).mpr e)
     rw[cj,jb hd,ja (by omega)];cases r with
     |nil=>
      rw[cj];simp only;have h49:(c==49)=decide (c.toNat=49):=by
       rw[jX];simp only[beq_iff_eq,decide_eq_true_eq];exact kW c 49 (by omega)
      have e1:(([c]:B)==[48])=false:=by simp[TQ]
      have e2:(([c]:B)==[49])=(c==49):=by simp
      rw[e1,e2,h49,jX];simp;omega
     |cons d t=>
      have:((c::d::t:B)==[48]||(c::d::t:B)==[49])=false:=by simp
      rw[this,cj];by_cases hdd:digit d=true
      ·rw[jb hdd];simp only[digit,Bool.and_eq_true,decide_eq_true_eq]at hdd;by_cases hgt:10*(10*0+((c.toNat:Int)-48))+((d.toNat:Int)-48)>1000000000
       ·rw[jb hgt]
       ·rw[ja hgt];cases hn:cj (10*(10*0+((c.toNat:Int)-48))+((d.toNat:Int)-48)) t with
        |none=>rfl
        |some n=>have:=rj _ _ _ (by omega) hn;simp;omega
      ·rw[ja hdd]
    ·rw[ja (fun e=>hd e.1)];have e1:¬c=49:=fun e=>hd (by rw[e];decide)
     simp[TQ,e1]
theorem mX:∀{w:B},(cE w).2=none->(cE w).1=w/\¬(46:UInt8)∈w
 |[],_=>by simp[cE]
 |c::r,h=>by
  rw[cE]at h⊢;split at h
  ·cases h
  ·rename_i hc;obtain⟨h1,h2⟩:=mX (w:=r) h;rw[ja hc];exact⟨by simp[h1],by simp only[List.mem_cons,not_or];exact⟨fun e=>hc e.symm,h2⟩⟩
theorem mY:∀{w t:B},(cE w).2=some t->w=(cE w).1++46::t/\¬(46:UInt8)∈(cE w).1
 |[],t,h=>by simp[cE]at h
 |c::r,t,h=>by
  rw[cE]at h⊢;split at h
  ·rename_i hc;simp only[Option.some.injEq]at h;rw[jb hc,hc,h];simp
  ·rename_i hc;obtain⟨h1,h2⟩:=mY (w:=r) h;rw[ja hc];exact⟨by simp only[List.cons_append,List.cons.injEq,true_and];exact h1,by simp only[List.mem_cons,not_or];exact⟨fun e=>hc e.symm,h2⟩⟩
theorem pO {l:B}(h:(46:UInt8)∈l):isName l=false:=by
 rw[isName];have:l.all lower=false:=by
  rw[Bool.eq_false_iff];intro hh;have:=List.all_eq_true.mp hh 46 h;simp[lower]at this
 simp[this]
theorem lY {w:B}(h:¬(46:UInt8)∈w):dw w=false:=by
 rw[dw];rw[Bool.eq_false_iff];intro hh;simp only[Bool.and_eq_true,decide_eq_true_eq,beq_iff_eq]at hh;exact h (List.mem_of_getElem? hh.2)
theorem mI (w:B):(match bS w with|some x=>isName x.1|none=>false)=bX w:=by
 rw[bS];cases h:(cE w).2 with
 |none=>
  obtain⟨h1,h2⟩:=mX h;have hd:=lY h2;simp[bX,aj,hd,h1]
 |some t=>
  obtain⟨h1,h2⟩:=mY h;generalize (cE w).1=a at h1 h2;have ZO:(46:UInt8)∈w:=by rw[h1];simp
  have hlen:w.length=a.length+1+t.length:=by rw[h1];simp;omega
  simp only;have side:∀b:Bool,(¬t.length=1)->b=false->b=bX w:=by
   intro b ht hb;rw[hb,bX];have:isName (aj w)=false:=by
    rw[aj];split
    ·rename_i hd;rw[dw]at hd;simp only[Bool.and_eq_true,decide_eq_true_eq,beq_iff_eq]at hd;apply pO
     by_cases tP:t.length=0
     ·exfalso;have:t=[]:=List.eq_nil_of_length_eq_zero tP;subst this;have hx:=hd.2;rw[h1,jg (by simp;simp at hlen;omega)]at hx;exact h2 (List.mem_of_getElem? hx)
     ·rw[h1,List.take_append];have:1<=(a++46::t).length-2-a.length:=by simp;omega
      obtain⟨m,hm⟩:∃m,(a++46::t).length-2-a.length=m+1:=⟨_,(Nat.sub_add_cancel this).symm⟩;rw[hm];simp
    ·exact pO ZO
   rw[this];rfl
  by_cases ht:t.length=1
  ·obtain⟨x,rfl⟩:=List.length_eq_one_iff.mp ht;by_cases ha:a=[]
   ·subst ha;have hd:dw w=false:=by rw[dw,hlen];rfl
    have hn:isName w=false:=pO ZO;have hp:bX w=false:=by simp[bX,aj,hd,hn]
    rw[hp];have hnn:isName []=false:=rfl;split
    ·rename_i y hy;have:y.1=[]:=by
      revert hy
      repeat (first|(split;(intro e;cases e;rfl))|(intro e;cases e))
     rw[this];rfl
    ·rfl
   ·have lI:1<=a.length:=by cases a;exact absurd rfl ha;simp
    have hx:w[w.length-2]?=some 46:=by
     rw[hlen,h1];simp
    have hd:dw w=true:=by rw[dw,hx];simp;simp at hlen;omega
    have hl:aj w=a:=by rw[aj,jb hd,h1];simp
    have hpt:partOf w=x:=by rw[partOf,jb hd,h1];simp
    have ec:¬a=w:=by intro e;have:=congrArg List.length e;simp at hlen;omega
    rw[bX,hl,hpt];simp only[List.cons.injEq,and_true];by_cases h97:x=97
    ·subst h97;simp
    ·by_cases h98:x=98
     ·subst h98;simp
     ·by_cases h115:x=115
      ·subst h115;simp
      ·simp[h97,h98,h115,ec]
  ·refine side _ ht ?_;have n97:¬t=[97]:=fun e=>ht (by rw[e];rfl)
   have n98:¬t=[98]:=fun e=>ht (by rw[e];rfl)
   have n115:¬t=[115]:=fun e=>ht (by rw[e];rfl)
   rw[ja n97,ja n98,ja n115]
end Sq
namespace Sq
open Go
structure kK (text:B)(raw:Bool)(k:Nat)(p:RP):Prop where
 ok:p.Ok
 rawEq:p.raw=raw
 lines:p.lines=(aZ text).take k
 form:dx (aZ text) (Sq.start raw) 0=dx ((aZ text).drop k) p k
 Sf:∀j,j<k->p.gO j
 fe:p.lets.length<=k/\p.blocks.length<=k
theorem dz (text:B):(aZ text).length=(split 10 text).length:=by simp[aZ]
theorem B3 (text:B)(k:Nat)(hk:k<(split 10 text).length):(aZ text)[k]'(by rw[dz];exact hk)=split 32 (word (split 10 text) k):=by
 simp[aZ,word,hk]
theorem kK.start (text:B)(raw:Bool):kK text raw 0 (Sq.start raw):=
 ⟨RP.Ok.start raw,rfl,rfl,rfl,fun j hj=>by omega,by simp[Sq.start]⟩
theorem kK.length {text:B}{raw:Bool}{k:Nat}{p:RP}(h:kK text raw k p)(hk:k<=(split 10 text).length):p.lines.length=k:=by
 rw[h.lines,List.length_take,dz];omega
theorem fw (c:UInt8)(l:B):1<=(split c l).length:=by
 have:=pa c l;cases hs:split c l with
 |nil=>exact absurd hs this
 |cons a b=>simp
theorem eN (c:UInt8)(l:B)(j:Nat):(word (split c l) j).length<=l.length:=by
 by_cases hj:j<(split c l).length
 ·exact x8 c l _ (by simp[word,hj])
 ·simp[word,List.getD_eq_getElem?_getD,List.getElem?_eq_none (Nat.le_of_not_lt hj)]
theorem kK.SH {text:B}{raw:Bool}{k:Nat}{p:RP}(h:kK text raw k p)(ht:text.length<=1099511627776)(hk:k<(split 10 text).length)(hn:(split 10 text).length<=4000):(p.addLine (split 32 (word (split 10 text) k))).Ok:=by
 have hl:=h.length (by omega);have h1:=eN 10 text k;refine h.ok.addLine (fw _ _) (by omega) (fun j=> ?_) ?_
 ·have:=eN 32 (word (split 10 text) k) j;omega
 ·have:=lQ 32 (word (split 10 text) k);omega
theorem MJ (text:B)(k:Nat)(hk:k<(split 10 text).length):(aZ text).drop k=split 32 (word (split 10 text) k)::(aZ text).drop (k+1):=by
 rw[jE (by rw[dz];exact hk),B3 text k hk]
theorem kK.bad {text:B}{raw:Bool}{k:Nat}{p:RP}(h:kK text raw k p)(hk:k<(split 10 text).length)(hf:(p.addLine (split 32 (word (split 10 text) k))).form k=false):
  ∃q,dx (aZ text) (Sq.start raw) 0=(q,some k):=by
 refine⟨p.addLine (split 32 (word (split 10 text) k)),?_⟩;rw[h.form,MJ text k hk,dx,hf];rfl
theorem RP.So (p:RP)(i k:Nat)(h:p.lets.length<=k/\p.blocks.length<=k):(p.mark i).lets.length<=k+1/\(p.mark i).blocks.length<=k+1:=by
 unfold RP.mark RP.dD RP.addBlock;split
 ·simp;omega
 ·split
  ·simp;omega
  ·omega
theorem kK.step {text:B}{raw:Bool}{k:Nat}{p:RP}(h:kK text raw k p)(ht:text.length<=1099511627776)(hk:k<(split 10 text).length)(hn:(split 10 text).length<=4000)
  (hf:(p.addLine (split 32 (word (split 10 text) k))).form k=true):kK text raw (k+1) ((p.addLine (split 32 (word (split 10 text) k))).mark k):=by
 have hl:=h.length (by omega);have cf:=h.SH ht hk hn;have tn:(p.addLine (split 32 (word (split 10 text) k))).lines.length=k+1:=by simp[RP.addLine,hl]
 refine⟨?_,?_,?_,?_,fun j hj=> ?_,?_⟩
 ·unfold RP.mark;split
  ·rename_i hx;exact cf.dD (by omega) (RP.xJ hf hx) (by have:=h.fe;simp[RP.addLine];omega)
  ·split
   ·exact cf.addBlock (by omega) (by have:=h.fe;simp[RP.addLine];omega)
   ·exact cf
 ·rw[RP.mE];exact h.rawEq
 ·rw[RP.ei,RP.addLine,h.lines,List.take_add_one,jB (by rw[dz];exact hk),B3 text k hk];simp
 ·rw[h.form,MJ text k hk,dx,hf];rfl
 ·by_cases hx:j=k
  ·subst hx;exact RP.Lj hf (cf.words j (by omega))
  ·exact((h.Sf j (by omega)).addLine (by omega) _).mark k
 ·exact RP.So _ _ _ (by have:=h.fe;simpa [RP.addLine]using this)
def RP.fR (p:RP)(i:Nat):RP:=if word (p.line i) 0=cx then p.dD i else p
theorem RP.Lr {p:RP}{i:Nat}(h:word (p.line i) 0=aR):p.mark i=(p.fR i).addBlock i:=by
 have hl:¬word (p.line i) 0=cx:=by rw[h];decide
 rw[RP.mark,RP.fR,ja hl,ja hl,jb h]
theorem RP.OU {p:RP}{i:Nat}(h:¬word (p.line i) 0=aR):p.mark i=p.fR i:=by
 rw[RP.mark,RP.fR,ja h]
theorem RP.Lq (p:RP)(i j:Nat):(p.fR i).line j=p.line j:=by
 unfold RP.fR RP.dD;split<;>rfl
theorem RP.Ia (p:RP)(i:Nat):(p.fR i).lines=p.lines:=by
 unfold RP.fR RP.dD;split<;>rfl
theorem RP.Ok.fR {p:RP}(h:p.Ok){i:Nat}(hi:i<p.lines.length)(hf:p.form i=true)(hn:p.lets.length<4000):(p.fR i).Ok:=by
 unfold RP.fR;split
 ·rename_i hx;exact h.dD hi (RP.xJ hf hx) hn
 ·exact h
end Sq
end Go.Proofs.YtmlgajhhnojdjaaGreatDoor

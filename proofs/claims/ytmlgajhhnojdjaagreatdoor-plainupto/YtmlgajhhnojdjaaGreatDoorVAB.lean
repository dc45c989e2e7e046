import Derived.Test.YtmlgajhhnojdjaaGreatDoorVAA
namespace Go.Proofs.YtmlgajhhnojdjaaGreatDoor
namespace Sq
open Go
def dh:List (B×B):=
 [(eD,[100,116]),(bX,[]),([115,101,116],[105,35]),([97,100,100],[105,105,105]),([115,117,98],[105,105,105]),([109,117,108],[105,105,105]),([100,105,118],[105,105,105]),
  ([105,110],[105]),([111,117,116],[105]),([110,101,119],[112,105]),([108,111,97,100],[105,112]),([115,116,111,114,101],[112,105]),([109,111,118,101],[109,109]),([110,111,110,101],[111]),
  ([115,111,109,101],[111,112]),([100,114,111,112],[109]),([102,114,101,101],[112]),([102,108,97,103],[102,118]),([103,111,116,111],[98]),([105,102],[105,98,98]),
  ([109,97,116,99,104],[111,98,98]),([116,101,115,116],[102,98,98]),([101,110,100],[105])]
def iP (l:List B)(w:B)(k:Nat):Option Nat:=
 match l with
 |[]=>none
 |s::r=>if s=w then some k else iP r w (k+1)
def cz (w:B):Option Nat:=iP (dh.map (·.1)) w 0
def ae (op:Nat):B:=(dh.getD op ([],[])).2
def bZ:List B:=[rQ,qD,lk,oX]
def c7 (w:B):Option Nat:=iP bZ w 0
def bC:B->B×Option B
 |[]=>([],none)
 |c::r=>if c=46 then([],some r)else(c::(bC r).1,(bC r).2)
def bd (w:B):Option (B×Nat):=
 match (bC w).2 with
 |none=>some ((bC w).1,0)
 |some t=>if t=[97]then some ((bC w).1,1)else if t=[98]then some ((bC w).1,2)else if t=[115]then some ((bC w).1,3)else none
def av (w:B):Option Int:=
 match w with
 |[]=>none
 |c::_=>if digit c=true/\¬(c=48/\w≠[48])then cy 0 w else none
def cI (w:B):Option Int:=
 match w with
 |[]=>av w
 |c::r=>if c=45 then(match av r with|none=>none|some n=>if n=0 then none else some (-n))else av w
def ey (w:B)(c:UInt8):Bool:=
 if c=100\/c=105\/c=111 then isName w
 else if c=116 then(c7 w).isSome
 else if c=112\/c=109 then(match bd w with|some x=>isName x.1|none=>false)
 else if c=35 then(cI w).isSome
 else if c=98 then(av w).isSome
 else if c=102 then(match av w with|some n=>decide (n<50)|none=>false)
 else if c=118 then w==[48]||w==[49]
 else false
def aV:B->List B->Bool
 |[],_=>true
 |c::f,ws=>ey (word ws 0) c&&aV f (ws.drop 1)
def bW (ws:List B):Option (Nat×List B):=
 match cz (word ws 0)with
 |none=>none
 |some op=>if ws.length-1=(ae op).length/\aV (ae op) (ws.drop 1)=true then some (op,ws.drop 1)else none
def fK (raw:Bool)(op:Nat):Bool:=if op=15 then !raw else if op=16\/op=17\/op=21 then raw else true
structure di where
 sec:Nat
 locals:Nat
 blocks:Nat
def aq (raw:Bool)(o:di)(op:Nat):di×Bool:=
 if fK raw op=false then(o,false)
 else if op=0 then(⟨o.sec,o.locals+1,o.blocks⟩,o.sec==0&&decide (o.locals+1<=12))
 else if op=1 then(⟨1,o.locals,o.blocks+1⟩,decide (0<o.locals)&& !(o.sec==1)&&decide (o.blocks+1<=if raw then 2000 else 20))
 else if¬o.sec=1 then(o,false)
 else if 18<=op then(⟨2,o.locals,o.blocks⟩,true)
 else(o,true)
theorem lT (l:List B)(w:B)(k n:Nat)(h:iP l w k=some n):k<=n/\n-k<l.length/\l.getD (n-k) []=w:=by
 induction l generalizing k with
 |nil=>simp[iP]at h
 |cons s r ih=>
  rw[iP]at h;split at h
  ·rename_i hs;obtain rfl:k=n:=by simpa using h
   simp[hs]
  ·obtain⟨h1,h2,h3⟩:=ih (k+1) h;refine⟨by omega,by simp;omega,?_⟩;rw[show n-k=(n-(k+1))+1 by omega];simpa using h3
theorem ij {w:B}{n:Nat}(h:cz w=some n):n<23:=by
 have:=(lT _ _ _ _ h).2.1;simpa [dh]using this
def letter (c:UInt8):UInt8:=if c=35 then 110 else if c=98 then 78 else c
theorem l9:∀(l:B) (n m:Int),0<=n->cy n l=some m->n<=m
 |[],n,m,_,h=>by simp[cy]at h;omega
 |c::r,n,m,h0,h=>by
  rw[cy]at h;split at h
  ·rename_i hd;simp only[digit,Bool.and_eq_true,decide_eq_true_eq]at hd;split at h
   ·cases h
   ·have:=l9 r _ m (by omega) h;omega
  ·cases h
theorem FJ {c:UInt8}{r:B}{m:Int}(hc:¬c=48)(h:cy 0 (c::r)=some m):1<=m:=by
 rw[cy]at h;split at h
 ·rename_i hd;simp only[digit,Bool.and_eq_true,decide_eq_true_eq]at hd;have JK:¬c.toNat=48:=fun e=>hc ((rj c 48 (by omega)).mpr e)
  split at h
  ·cases h
  ·have:=l9 r _ m (by omega) h;omega
 ·cases h
theorem od {c:UInt8}{r:B}(n:Int)(h:¬digit c=true):cy n (c::r)=none:=by rw[cy,ja h]
theorem jo {c:UInt8}{r:B}(hc:¬c=45):number (c::r)=av (c::r):=by
 have hu:ki (c::r)=c::r:=by simp[ki,hc]
 have hs:signed (c::r)=false:=by simp[signed,hc]
 rw[number,hu,hs,av];by_cases h0:c=48/\(c::r)≠[48]
 ·rw[jb (.inr ⟨by rw[h0.1];rfl,h0.2⟩),ja (fun e=>e.2 h0)]
 ·rw[ja (by simp only[List.length_cons,List.head?_cons,Option.some.injEq];rintro(h|h);omega;exact h0 h)];by_cases hd:digit c=true
  ·rw[jb ⟨hd,h0⟩];cases cy 0 (c::r)<;>simp
  ·rw[ja (fun e=>hd e.1),od _ hd]
theorem xM (w:B):cI w=number w:=by
 cases w with
 |nil=>rfl
 |cons c r=>
  rw[cI];by_cases hc:c=45
  ·subst hc;have hu:ki (45::r)=r:=rfl;have hs:signed (45::r)=true:=rfl;rw[jb rfl,number,hu,hs];cases r with
   |nil=>rfl
   |cons d t=>
    by_cases hd:d=48
    ·subst hd;rw[jb (.inr ⟨rfl,by simp⟩),av];by_cases ht:t=[]
     ·subst ht;rfl
     ·rw[ja (fun e=>e.2 ⟨rfl,by simp[ht]⟩)]
    ·rw[ja (by simp[hd]),av];by_cases hdg:digit d=true
     ·rw[jb ⟨hdg,fun e=>hd e.1⟩];cases hn:cy 0 (d::t)with
      |none=>rfl
      |some n=>
       have:=FJ hd hn;simp only;rw[ja (by omega)];rfl
     ·rw[ja (fun e=>hdg e.1),od _ hdg]
  ·rw[ja hc,jo hc]
theorem tC {r:B}{n:Int}(h:number (45::r)=some n):n<=-1:=by
 rw[<-xM,cI,jb rfl]at h;cases hd:av r with
 |none=>rw[hd]at h;cases h
 |some m=>
  rw[hd]at h;simp only at h;split at h
  ·cases h
  ·simp only[Option.some.injEq]at h;have:0<=m:=by
    cases r with
    |nil=>cases hd
    |cons c t=>
     rw[av]at hd;split at hd
     ·exact l9 _ _ _ (by omega) hd
     ·cases hd
   omega
theorem sC {w:B}{m:Int}(hd:av w=some m):0<=m:=by
 cases w with
 |nil=>cases hd
 |cons c t=>
  rw[av]at hd;split at hd
  ·exact l9 _ _ _ (by omega) hd
  ·cases hd
theorem sB (w:B):av w=match number w with|some n=>if 0<=n then some n else none|none=>none:=by
 cases w with
 |nil=>rfl
 |cons c r=>
  by_cases hc:c=45
  ·subst hc;have h1:av (45::r)=none:=by rw[av,ja (fun e=>absurd e.1 (by decide))]
   rw[h1];cases hn:number (45::r)with
   |none=>rfl
   |some n=>have:=tC hn;simp only;rw[ja (by omega)]
  ·rw[jo hc];cases hd:av (c::r)with
   |none=>rfl
   |some n=>have:=sC hd;simp only;rw[jb this]
theorem MV (d:UInt8):cy 0 [d]=if digit d then some ((d.toNat:Int)-48)else none:=by
 rw[cy];split
 ·rename_i hd;simp only[digit,Bool.and_eq_true,decide_eq_true_eq]at hd;rw[ja (by omega)];simp[cy]
 ·rfl
theorem CW (w:B):(match number w with|some n=>decide (n=0)||decide (n=1)|none=>false)=(w==[48]||w==[49]):=by
 cases w with
 |nil=>rfl
 |cons c r=>
  by_cases hc:c=45
  ·subst hc;have:((45::r:B)==[48]||(45::r:B)==[49])=false:=by simp
   rw[this];cases hn:number (45::r)with
   |none=>rfl
   |some n=>have:=tC hn;simp;omega
  ·rw[jo hc,av];by_cases JK:c=48
   ·subst JK;by_cases hr:r=[]
    ·subst hr;rfl
    ·rw[ja (fun e=>e.2 ⟨rfl,by simp[hr]⟩)];simp[hr]
   ·by_cases hd:digit c=true
    ·rw[jb ⟨hd,fun e=>JK e.1⟩];have ET:=hd;simp only[digit,Bool.and_eq_true,decide_eq_true_eq]at ET;have Xi:¬c.toNat=48:=fun e=>JK ((rj c 48 (by omega)).mpr e)
     rw[cy,jb hd,ja (by omega)];cases r with
     |nil=>
      rw[cy];simp only;have Xj:(c==49)=decide (c.toNat=49):=by
       rw[jX];simp only[beq_iff_eq,decide_eq_true_eq];exact rj c 49 (by omega)
      have e1:(([c]:B)==[48])=false:=by simp[JK]
      have e2:(([c]:B)==[49])=(c==49):=by simp
      rw[e1,e2,Xj,jX];simp;omega
     |cons d t=>
      have:((c::d::t:B)==[48]||(c::d::t:B)==[49])=false:=by simp
      rw[this,cy];by_cases hdd:digit d=true
      ·rw[jb hdd];simp only[digit,Bool.and_eq_true,decide_eq_true_eq]at hdd;by_cases Mz:10*(10*0+((c.toNat:Int)-48))+((d.toNat:Int)-48)>1000000000
       ·rw[jb Mz]
       ·rw[ja Mz];cases hn:cy (10*(10*0+((c.toNat:Int)-48))+((d.toNat:Int)-48)) t with
        |none=>rfl
        |some n=>have:=l9 _ _ _ (by omega) hn;simp;omega
      ·rw[ja hdd]
    ·rw[ja (fun e=>hd e.1)];have e1:¬c=49:=fun e=>hd (by rw[e];decide)
     simp[JK,e1]
theorem iK:∀{w:B},(bC w).2=none->(bC w).1=w/\¬(46:UInt8)∈w
 |[],_=>by simp[bC]
 |c::r,h=>by
  rw[bC]at h⊢;split at h
  ·cases h
  ·rename_i hc;obtain⟨h1,h2⟩:=iK (w:=r) h;rw[ja hc];exact⟨by simp[h1],by simp only[List.mem_cons,not_or];exact⟨fun e=>hc e.symm,h2⟩⟩
theorem iL:∀{w t:B},(bC w).2=some t->w=(bC w).1++46::t/\¬(46:UInt8)∈(bC w).1
 |[],t,h=>by simp[bC]at h
 |c::r,t,h=>by
  rw[bC]at h⊢;split at h
  ·rename_i hc;simp only[Option.some.injEq]at h;rw[jb hc,hc,h];simp
  ·rename_i hc;obtain⟨h1,h2⟩:=iL (w:=r) h;rw[ja hc];exact⟨by simp only[List.cons_append,List.cons.injEq,true_and];exact h1,by simp only[List.mem_cons,not_or];exact⟨fun e=>hc e.symm,h2⟩⟩
theorem fQ {l:B}(h:(46:UInt8)∈l):isName l=false:=by
 rw[isName];have:l.all lower=false:=by
  rw[Bool.eq_false_iff];intro hh;have:=List.all_eq_true.mp hh 46 h;simp[lower]at this
 simp[this]
theorem qc {w:B}(h:¬(46:UInt8)∈w):fi w=false:=by
 rw[fi];rw[Bool.eq_false_iff];intro hh;simp only[Bool.and_eq_true,decide_eq_true_eq,beq_iff_eq]at hh;exact h (List.mem_of_getElem? hh.2)
theorem iq (w:B):(match bd w with|some x=>isName x.1|none=>false)=cx w:=by
 rw[bd];cases h:(bC w).2 with
 |none=>
  obtain⟨h1,h2⟩:=iK h;have hd:=qc h2;simp[cx,aL,hd,h1]
 |some t=>
  obtain⟨h1,h2⟩:=iL h;generalize (bC w).1=a at h1 h2;have Qr:(46:UInt8)∈w:=by rw[h1];simp
  have hlen:w.length=a.length+1+t.length:=by rw[h1];simp;omega
  simp only;have side:∀b:Bool,(¬t.length=1)->b=false->b=cx w:=by
   intro b ht hb;rw[hb,cx];have:isName (aL w)=false:=by
    rw[aL];split
    ·rename_i hd;rw[fi]at hd;simp only[Bool.and_eq_true,decide_eq_true_eq,beq_iff_eq]at hd;apply fQ
     by_cases p7:t.length=0
     ·exfalso;have:t=[]:=List.eq_nil_of_length_eq_zero p7;subst this;have hx:=hd.2;rw[h1,jg (by simp;simp at hlen;omega)]at hx;exact h2 (List.mem_of_getElem? hx)
     ·rw[h1,List.take_append];have:1<=(a++46::t).length-2-a.length:=by simp;omega
      obtain⟨m,hm⟩:∃m,(a++46::t).length-2-a.length=m+1:=⟨_,(Nat.sub_add_cancel this).symm⟩;rw[hm];simp
    ·exact fQ Qr
   rw[this];rfl
  by_cases ht:t.length=1
  ·obtain⟨x,rfl⟩:=List.length_eq_one_iff.mp ht;by_cases ha:a=[]
   ·subst ha;have hd:fi w=false:=by rw[fi,hlen];rfl
    have hn:isName w=false:=fQ Qr;have hp:cx w=false:=by simp[cx,aL,hd,hn]
    rw[hp];have E5:isName []=false:=rfl;split
    ·rename_i y hy;have:y.1=[]:=by
      revert hy
      repeat (first|(split;(intro e;cases e;rfl))|(intro e;cases e))
     rw[this];rfl
    ·rfl
   ·have NA:1<=a.length:=by cases a;exact absurd rfl ha;simp
    have hx:w[w.length-2]?=some 46:=by
     rw[hlen,h1];simp
    have hd:fi w=true:=by rw[fi,hx];simp;simp at hlen;omega
    have hl:aL w=a:=by rw[aL,jb hd,h1];simp
    have Yy:partOf w=x:=by rw[partOf,jb hd,h1];simp
    have c8:¬a=w:=by intro e;have:=congrArg List.length e;simp at hlen;omega
    rw[cx,hl,Yy];simp only[List.cons.injEq,and_true];by_cases h97:x=97
    ·subst h97;simp
    ·by_cases vj:x=98
     ·subst vj;simp
     ·by_cases h115:x=115
      ·subst h115;simp
      ·simp[h97,vj,h115,c8]
  ·refine side _ ht ?_;have n97:¬t=[97]:=fun e=>ht (by rw[e];rfl)
   have n98:¬t=[98]:=fun e=>ht (by rw[e];rfl)
   have n115:¬t=[115]:=fun e=>ht (by rw[e];rfl)
   rw[ja n97,ja n98,ja n115]
end Sq
namespace Sq
open Go
theorem iz (text:B):(ba text).length=(split 10 text).length:=by simp[ba]
theorem fx (c:UInt8)(l:B):1<=(split c l).length:=by
 have:=eP c l;cases hs:split c l with
 |nil=>exact absurd hs this
 |cons a b=>simp
theorem fX (c:UInt8)(l:B)(j:Nat):(word (split c l) j).length<=l.length:=by
 by_cases hj:j<(split c l).length
 ·exact fP c l _ (by simp[word,hj])
 ·simp[word,List.getD_eq_getElem?_getD,List.getElem?_eq_none (Nat.le_of_not_lt hj)]
end Sq
namespace Sq
open Go
theorem zR (w:B){c:UInt8}(hc:c∈([105,111,112,109,35,98,102,118]:List UInt8)):ey w c=JF (letter c) w:=by
 have hd:=sB w;simp only[List.mem_cons,List.not_mem_nil,or_false]at hc;rcases hc with rfl|rfl|rfl|rfl|rfl|rfl|rfl|rfl
 ·rfl
 ·rfl
 ·exact iq w
 ·exact iq w
 ·show(cI w).isSome=(number w).isSome
  rw[xM]
 ·show(av w).isSome=(match number w with|some n=>decide (0<=n)|none=>false)
  rw[hd];cases number w with
  |none=>rfl
  |some n=>show(if 0<=n then some n else none).isSome=decide (0<=n);split<;>simp[*]
 ·show(match av w with|some n=>decide (n<50)|none=>false)=(match number w with|some n=>decide (0<=n)&&decide (n<50)|none=>false)
  rw[hd];cases number w with
  |none=>rfl
  |some n=>
   simp only;by_cases h0:0<=n
   ·rw[jb h0];simp[h0]
   ·rw[ja h0];simp[h0]
 ·exact(CW w).symm
def bD (op:Nat):B:=(dh.getD op ([],[])).1
theorem ik {w:B}{op:Nat}(h:cz w=some op):op<23/\w=bD op:=by
 have hl:=ij h;refine⟨hl,?_⟩;have:=(lT _ _ _ _ h).2.2;rw[<-this,bD];have X7:op<dh.length:=hl;simp[List.getD_eq_getElem?_getD,X7]
def dc (op:Nat):B:=if op=15 then [100]else(ae op).map letter
theorem p9 {w:B}{op:Nat}(h:cz w=some op)(h2:2<=op)(raw:Bool):behind w raw=(dc op,fK raw op):=by
 obtain⟨hl,rfl⟩:=ik h;have:∀(op:Fin 23) (raw:Bool),2<=op.val->behind (bD op.val) raw=(dc op.val,fK raw op.val):=by decide
 exact this ⟨op,hl⟩ raw h2
theorem Km {w:B}{op:Nat}(h:cz w=some op):ends w=decide (18<=op):=by
 obtain⟨hl,rfl⟩:=ik h;have:∀op:Fin 23,ends (bD op.val)=decide (18<=op.val):=by decide
 exact this ⟨op,hl⟩
theorem tl {w:B}{op:Nat}(h:cz w=some op):w=eD↔op=0:=by
 obtain⟨hl,rfl⟩:=ik h;have:∀op:Fin 23,bD op.val=eD↔op.val=0:=by decide
 exact this ⟨op,hl⟩
theorem jx {w:B}{op:Nat}(h:cz w=some op):w=bX↔op=1:=by
 obtain⟨hl,rfl⟩:=ik h;have:∀op:Fin 23,bD op.val=bX↔op.val=1:=by decide
 exact this ⟨op,hl⟩
theorem Ct {l:List B}{w:B}{k:Nat}(h:iP l w k=none):∀x∈l,¬w=x:=by
 induction l generalizing k with
 |nil=>intro x hx;cases hx
 |cons s r ih=>
  rw[iP]at h;split at h
  ·cases h
  ·rename_i hs;intro x hx;rcases jP.mp hx with rfl|hx
   ·exact fun e=>hs e.symm
   ·exact ih h x hx
theorem qJ {w:B}(h:cz w=none)(raw:Bool):¬w=eD/\¬w=bX/\(behind w raw).2=false:=by
 have hx:=Ct h;have hn:∀op:Fin 23,¬w=bD op.val:=by
  intro op;apply hx
  have:∀op:Fin 23,bD op.val∈dh.map (·.1):=by decide
  exact this op
 refine⟨hn 0,hn 1,?_⟩;unfold behind;have h2:¬w=[115,101,116]:=hn 2;have h3:¬w=[97,100,100]:=hn 3;have h4:¬w=[115,117,98]:=hn 4;have h5:¬w=[109,117,108]:=hn 5;have h6:¬w=[100,105,118]:=hn 6;have h7:¬w=[105,110]:=hn 7;have h8:¬w=[111,117,116]:=hn 8;have h9:¬w=[110,101,119]:=hn 9;have Sb:¬w=[108,111,97,100]:=hn 10;have ly:¬w=[115,116,111,114,101]:=hn 11;have cV:¬w=[109,111,118,101]:=hn 12;have yi:¬w=[110,111,110,101]:=hn 13;have vF:¬w=[115,111,109,101]:=hn 14;have lz:¬w=[100,114,111,112]:=hn 15;have Xc:¬w=[102,114,101,101]:=hn 16;have Xd:¬w=[102,108,97,103]:=hn 17;have iN:¬w=[103,111,116,111]:=hn 18;have Ml:¬w=[105,102]:=hn 19;have Hv:¬w=[109,97,116,99,104]:=hn 20;have Xe:¬w=[116,101,115,116]:=hn 21;have B9:¬w=[101,110,100]:=hn 22;simp only[h2,h3,h4,h5,h6,h7,h8,h9,Sb,ly,cV,yi,vF,lz,Xc,Xd,iN,Ml,Hv,Xe,B9,or_self,if_false]
theorem qe:∀(f:B) (_:∀c∈f,c∈([105,111,112,109,35,98,102,118]:List UInt8)) (ws:List B),aV f ws=qd (f.map letter) ws
 |[],_,_=>rfl
 |c::f,hc,ws=>by
  rw[aV,List.map_cons,qd,zR _ (hc c (jM ..)),qe f (fun x hx=>hc x (jN _ hx))]
theorem mU {op:Nat}(h:op<23)(h2:2<=op)(ws:List B):aV (ae op) ws=qd (dc op) ws/\(dc op).length=(ae op).length:=by
 have hk:∀op:Fin 23,2<=op.val->∀c∈ae op.val,c∈([105,111,112,109,35,98,102,118]:List UInt8):=by decide
 by_cases lz:op=15
 ·subst lz;refine⟨?_,rfl⟩;rw[qe _ (hk ⟨15,by decide⟩ (show 2<=15 by decide))];rfl
 ·rw[dc,ja lz];exact⟨qe _ (hk ⟨op,h⟩ h2) ws,by simp⟩
theorem Dj (w:B):(c7 w).isSome=(w==rQ||w==qD||w==lk||w==oX):=by
 unfold c7 bZ;simp only[iP];by_cases h1:rQ=w
 ·subst h1;rfl
 ·rw[ja h1];by_cases h2:qD=w
  ·subst h2;rfl
  ·rw[ja h2];by_cases h3:lk=w
   ·subst h3;rfl
   ·rw[ja h3];by_cases h4:oX=w
    ·subst h4;rfl
    ·rw[ja h4];have e1:¬w=rQ:=fun e=>h1 e.symm
     have e2:¬w=qD:=fun e=>h2 e.symm
     have e3:¬w=lk:=fun e=>h3 e.symm
     have e4:¬w=oX:=fun e=>h4 e.symm
     simp[e1,e2,e3,e4]
structure jh (p:RP)(o:di):Prop where
 locals:o.locals=p.lets.length
 blocks:o.blocks=p.blocks.length
 Ir:o.sec=1↔p.inside p.lines.length=true
 I2:o.sec=0↔p.blocks.length=0
theorem jh.start (raw:Bool):jh (Sq.start raw) ⟨0,0,0⟩:=⟨rfl,rfl,by simp[Sq.start,RP.inside,iQ],by simp[Sq.start]⟩
theorem sg (p:RP)(ws:List B):(p.addLine ws).inside p.lines.length=p.inside p.lines.length:=by
 simp[RP.inside,RP.addLine]
theorem l6 (p:RP)(ws:List B):((p.addLine ws).mark p.lines.length).inside (p.lines.length+1)=if word ws 0=bX then true else if ends (word ws 0)then false else p.inside p.lines.length:=by
 rw[RP.inside,RP.dm,RP.addLine];have:((p.lines++[ws]).take (p.lines.length+1)).reverse=ws::p.lines.reverse:=by
  rw[List.take_of_length_le (by simp)];simp
 simp only[this,iQ];rw[RP.inside,List.take_length]
theorem AZ (p:RP)(ws:List B):(p.addLine ws).line p.lines.length=ws:=by rw[RP.fh];simp
theorem Kp {p:RP}{o:di}(R:jh p o){ws:List B}(h1:1<=ws.length):
  (p.addLine ws).form p.lines.length=(match bW ws with|none=>false|some x=>(aq p.raw o x.1).2):=by
 rw[RP.form,AZ,sg];have E8:(p.addLine ws).raw=p.raw:=rfl;have Q7:(p.addLine ws).lets=p.lets:=rfl;have K6:(p.addLine ws).blocks=p.blocks:=rfl;rw[E8,Q7,K6,bW];cases ho:cz (word ws 0)with
 |none=>
  obtain⟨n1,n2,n3⟩:=qJ ho p.raw;rw[ja n1,ja n2,jb (.inl n3)]
 |some op=>
  obtain⟨hl,hw⟩:=ik ho;simp only;have e0:=tl ho;have e1:=jx ho;by_cases h0:op=0
  ·subst h0;rw[jb (e0.mpr rfl)];have Od:ae 0=[100,116]:=rfl;rw[Od];have hf:aV [100,116] (ws.drop 1)=(isName (word ws 1)&&(word ws 2==rQ||word ws 2==qD||word ws 2==lk||word ws 2==oX)):=by
    simp only[aV,Bool.and_true];have a1:word (List.drop 1 ws) 0=word ws 1:=by simp[word]
    have a2:word (List.drop 1 (List.drop 1 ws)) 0=word ws 2:=by simp[word]
    rw[a1,a2,<-Dj];rfl
   rw[hf];have ha:(aq p.raw o 0).2=(o.sec==0&&decide (o.locals+1<=12)):=rfl;have lo:(o.sec==0)=decide (p.blocks.length=0):=by rw[jX];simp only[beq_iff_eq,decide_eq_true_eq];exact R.I2
   by_cases h3:ws.length=3
   ·by_cases hb:0<p.blocks.length\/12<=p.lets.length
    ·rw[jb (.inr hb)];split
     ·rfl
     ·rename_i x hx;split at hx
      ·cases hx
       rw[ha,lo,R.locals]
       symm
       rw[Bool.and_eq_false_iff];rcases hb with hb|hb
       ·left;simp only[decide_eq_false_iff_not];omega
       ·right;simp only[decide_eq_false_iff_not];omega
      ·cases hx
    ·rw[ja (by rw[not_or];exact⟨by simp[h3],hb⟩)];cases hc:(isName (word ws 1)&&(word ws 2==rQ||word ws 2==qD||word ws 2==lk||word ws 2==oX))
     ·rw[ja (by simp)]
     ·rw[jb ⟨by simp[h3],rfl⟩];simp only;rw[ha,lo,R.locals]
      symm
      simp only[Bool.and_eq_true,decide_eq_true_eq];omega
   ·rw[jb (.inl h3),ja (by simp;omega)]
  ·rw[ja (fun e=>h0 (e0.mp e))];by_cases xz:op=1
   ·subst xz;rw[jb (e1.mpr rfl)];have Od:ae 1=[]:=rfl;rw[Od];have ha:(aq p.raw o 1).2=(decide (0<o.locals)&& !(o.sec==1)&&decide (o.blocks+1<=if p.raw then 2000 else 20)):=rfl;have lo:(o.sec==1)=p.inside p.lines.length:=by rw[jX];simp only[beq_iff_eq];exact R.Ir
    by_cases vr:ws.length=1
    ·have z8:ws.length-1=([]:B).length/\aV [] (ws.drop 1)=true:=⟨by simp[vr],rfl⟩;rw[jb z8];show _=(aq p.raw o 1).2
     rw[ha,lo,R.locals,R.blocks];have:decide (p.blocks.length+1<=if p.raw=true then 2000 else 20)=decide (p.blocks.length<if p.raw=true then 2000 else 20):=rfl;rw[this];simp[vr];cases p.inside p.lines.length<;>simp
    ·have z8:¬(ws.length-1=([]:B).length/\aV [] (ws.drop 1)=true):=fun e=>vr (by have:=e.1;simp at this;omega)
     rw[ja z8];simp[vr]
   ·rw[ja (fun e=>xz (e1.mp e)),p9 ho (by omega)];obtain⟨hf,yo⟩:=mU hl (by omega) (ws.drop 1);simp only;have ha:(aq p.raw o op).2=(fK p.raw op&&p.inside p.lines.length):=by
     rw[aq];cases hh:fK p.raw op
     ·rw[jb rfl];rfl
     ·rw[ja (by simp),ja h0,ja xz];cases lA:p.inside p.lines.length
      ·have:¬o.sec=1:=fun e=>by rw[R.Ir.mp e]at lA;cases lA
       rw[jb this];rfl
      ·have:o.sec=1:=R.Ir.mpr lA;rw[ja (by simp[this])];split<;>rfl
    by_cases hx:fK p.raw op=false\/p.inside p.lines.length=false\/ws.length≠(dc op).length+1
    ·rw[jb hx];split
     ·rfl
     ·rename_i x Oe;split at Oe
      ·rename_i hy;cases Oe
       rw[ha];rcases hx with hx|hx|hx
       ·rw[hx];rfl
       ·rw[hx,Bool.and_false]
       ·exact absurd (by rw[yo];omega) hx
      ·cases Oe
    ·rw[ja hx];simp only[not_or,Bool.not_eq_false,Decidable.not_not,ne_eq]at hx;rw[<-hf];cases hc:aV (ae op) (ws.drop 1)
     ·rw[ja (by simp)]
     ·rw[jb ⟨by rw[<-yo];omega,rfl⟩];simp only;rw[ha,hx.1,hx.2.1];rfl
theorem jh.next {p:RP}{o:di}(R:jh p o){ws:List B}{x:Nat×List B}(hs:bW ws=some x)(ha:(aq p.raw o x.1).2=true):
  jh ((p.addLine ws).mark p.lines.length) (aq p.raw o x.1).1:=by
 rw[bW]at hs;cases ho:cz (word ws 0)with
 |none=>rw[ho]at hs;cases hs
 |some op=>
  rw[ho]at hs;simp only at hs;split at hs
  ·cases hs
   simp only at ha⊢;have e0:=tl ho;have e1:=jx ho;have hi:=l6 p ws;have hlen:((p.addLine ws).mark p.lines.length).lines.length=p.lines.length+1:=by rw[RP.dm];simp[RP.addLine]
   have iE:=AZ p ws;rw[aq]at ha⊢;cases hh:fK p.raw op
   ·rw[hh,jb rfl]at ha;cases ha
   ·rw[hh,ja (by simp)]at ha;rw[ja (by simp)];by_cases h0:op=0
    ·have hw:=e0.mpr h0;rw[jb h0]at ha⊢;simp only[Bool.and_eq_true,beq_iff_eq,decide_eq_true_eq]at ha;have hm:(p.addLine ws).mark p.lines.length=(p.addLine ws).lD p.lines.length:=by rw[RP.mark,iE,jb hw]
     refine⟨?_,?_,?_,?_⟩
     ·rw[hm];simp[RP.lD,RP.addLine,R.locals]
     ·rw[hm];exact R.blocks
     ·rw[hlen,hi,ja (by rw[hw];decide),ja (by rw[hw];decide)];exact R.Ir
     ·rw[hm];exact R.I2
    ·rw[ja h0]at ha⊢;have rJ:¬word ws 0=eD:=fun e=>h0 (e0.mp e)
     by_cases h1:op=1
     ·have hw:=e1.mpr h1;rw[jb h1]at ha⊢;have hm:(p.addLine ws).mark p.lines.length=(p.addLine ws).addBlock p.lines.length:=by rw[RP.mark,iE,ja rJ,jb hw]
      refine⟨?_,?_,?_,?_⟩
      ·rw[hm];exact R.locals
      ·rw[hm];simp[RP.addBlock,RP.addLine,R.blocks]
      ·rw[hlen,hi,jb hw];simp
      ·rw[hm];simp[RP.addBlock,RP.addLine]
     ·rw[ja h1]at ha⊢;have DX:¬word ws 0=bX:=fun e=>h1 (e1.mp e)
      have hm:(p.addLine ws).mark p.lines.length=p.addLine ws:=by rw[RP.mark,iE,ja rJ,ja DX]
      have K8:=Km ho;have mV:¬p.blocks.length=0:=by
       by_cases lo:o.sec=1
       ·intro e;have:=R.I2.mpr e;omega
       ·rw[jb lo]at ha;cases ha
      by_cases lo:o.sec=1
      ·rw[ja (by simp[lo])];by_cases iN:18<=op
       ·rw[jb iN];refine⟨by rw[hm];exact R.locals,by rw[hm];exact R.blocks,?_,?_⟩
        ·rw[hlen,hi,ja DX,K8,jb (by simp[iN])];simp
        ·rw[hm];simp only;constructor
         ·intro e;cases e
         ·intro e;exact absurd e mV
       ·rw[ja iN];refine⟨by rw[hm];exact R.locals,by rw[hm];exact R.blocks,?_,by rw[hm];exact R.I2⟩;rw[hlen,hi,ja DX,K8,ja (by simp[iN])];exact R.Ir
      ·rw[jb lo]at ha;cases ha
  ·cases hs
end Sq
namespace Sq
open Go
theorem RP.iT {p:RP}{c:UInt8}{w:B}(h:p.CT c w=true)(hc:c∈[(105:UInt8),112,109,111,100]):0<=p.find (aL w):=by
 rw[RP.CT,jb]at h
 ·simpa using h
 ·simp only[List.mem_cons,List.not_mem_nil,or_false]at hc;rcases hc with h|h|h|h|h<;>simp[h]
theorem RP.IV {p:RP}{i:Nat}(h:p.names i=true)(hl:¬word (p.line i) 0=eD):p.fw (behind (word (p.line i) 0) p.raw).1 ((p.line i).drop 1)=true:=by
 rwa [RP.names,ja hl]at h
theorem kz (f:Nat->Bool):∀(m k:Nat),de f m k=none->∀j,k<=j->j<k+m->f j=true:=by
 intro m;induction m with
 |zero=>intro k _ j h1 h2;omega
 |succ m ih=>
  intro k h j h1 h2;rw[de]at h;by_cases hf:f k=true
  ·rw[jb hf]at h;by_cases hj:j=k
   ·rw[hj];exact hf
   ·exact ih (k+1) h j (by omega) (by omega)
  ·rw[ja hf]at h;cases h
end Sq
end Go.Proofs.YtmlgajhhnojdjaaGreatDoor

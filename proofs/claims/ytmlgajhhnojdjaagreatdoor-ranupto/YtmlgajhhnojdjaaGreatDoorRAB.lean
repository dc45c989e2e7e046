import Derived.Test.YtmlgajhhnojdjaaGreatDoorRAA
namespace Go.Proofs.YtmlgajhhnojdjaaGreatDoor
namespace Sq
open Go
def eZ:List (B×B):=
 [(cv,[100,116]),(aQ,[]),([115,101,116],[105,35]),([97,100,100],[105,105,105]),([115,117,98],[105,105,105]),([109,117,108],[105,105,105]),([100,105,118],[105,105,105]),
  ([105,110],[105]),([111,117,116],[105]),([110,101,119],[112,105]),([108,111,97,100],[105,112]),([115,116,111,114,101],[112,105]),([109,111,118,101],[109,109]),([110,111,110,101],[111]),
  ([115,111,109,101],[111,112]),([100,114,111,112],[109]),([102,114,101,101],[112]),([102,108,97,103],[102,118]),([103,111,116,111],[98]),([105,102],[105,98,98]),
  ([109,97,116,99,104],[111,98,98]),([116,101,115,116],[102,98,98]),([101,110,100],[105])]
def oc (l:List B)(w:B)(k:Nat):Option Nat:=
 match l with
 |[]=>none
 |s::r=>if s=w then some k else oc r w (k+1)
def fD (w:B):Option Nat:=oc (eZ.map (·.1)) w 0
def ae (op:Nat):B:=(eZ.getD op ([],[])).2
def j0:List B:=[mM,kz,cj,eG]
def gM (w:B):Option Nat:=oc j0 w 0
def cD:B->B×Option B
 |[]=>([],none)
 |c::r=>if c=46 then([],some r)else(c::(cD r).1,(cD r).2)
def bR (w:B):Option (B×Nat):=
 match (cD w).2 with
 |none=>some ((cD w).1,0)
 |some t=>if t=[97]then some ((cD w).1,1)else if t=[98]then some ((cD w).1,2)else if t=[115]then some ((cD w).1,3)else none
def az (w:B):Option Int:=
 match w with
 |[]=>none
 |c::_=>if digit c=true/\¬(c=48/\w≠[48])then cg 0 w else none
def dO (w:B):Option Int:=
 match w with
 |[]=>az w
 |c::r=>if c=45 then(match az r with|none=>none|some n=>if n=0 then none else some (-n))else az w
def jo (w:B)(c:UInt8):Bool:=
 if c=100\/c=105\/c=111 then isName w
 else if c=116 then(gM w).isSome
 else if c=112\/c=109 then(match bR w with|some x=>isName x.1|none=>false)
 else if c=35 then(dO w).isSome
 else if c=98 then(az w).isSome
 else if c=102 then(match az w with|some n=>decide (n<50)|none=>false)
 else if c=118 then w==[48]||w==[49]
 else false
def bg:B->List B->Bool
 |[],_=>true
 |c::f,ws=>jo (word ws 0) c&&bg f (ws.drop 1)
def eP (ws:List B):Option (Nat×List B):=
 match fD (word ws 0)with
 |none=>none
 |some op=>if ws.length-1=(ae op).length/\bg (ae op) (ws.drop 1)=true then some (op,ws.drop 1)else none
def pD (raw:Bool)(op:Nat):Bool:=if op=15 then !raw else if op=16\/op=17\/op=21 then raw else true
structure fj where
 sec:Nat
 locals:Nat
 blocks:Nat
def aP (raw:Bool)(o:fj)(op:Nat):fj×Bool:=
 if pD raw op=false then(o,false)
 else if op=0 then(⟨o.sec,o.locals+1,o.blocks⟩,o.sec==0&&decide (o.locals+1<=12))
 else if op=1 then(⟨1,o.locals,o.blocks+1⟩,decide (0<o.locals)&& !(o.sec==1)&&decide (o.blocks+1<=if raw then 2000 else 20))
 else if¬o.sec=1 then(o,false)
 else if 18<=op then(⟨2,o.locals,o.blocks⟩,true)
 else(o,true)
theorem A1 (l:List B)(w:B)(k n:Nat)(h:oc l w k=some n):k<=n/\n-k<l.length/\l.getD (n-k) []=w:=by
 induction l generalizing k with
 |nil=>simp[oc]at h
 |cons s r ih=>
  rw[oc]at h;split at h
  ·rename_i hs;obtain rfl:k=n:=by simpa using h
   simp[hs]
  ·obtain⟨h1,h2,h3⟩:=ih (k+1) h;refine⟨by omega,by simp;omega,?_⟩;rw[show n-k=(n-(k+1))+1 by omega];simpa using h3
theorem oW {w:B}{n:Nat}(h:fD w=some n):n<23:=by
 have:=(A1 _ _ _ _ h).2.1;simpa [eZ]using this
def letter (c:UInt8):UInt8:=if c=35 then 110 else if c=98 then 78 else c
theorem ri:∀(l:B) (n m:Int),0<=n->cg n l=some m->n<=m
 |[],n,m,_,h=>by simp[cg]at h;omega
 |c::r,n,m,h0,h=>by
  rw[cg]at h;split at h
  ·rename_i hd;simp only[digit,Bool.and_eq_true,decide_eq_true_eq]at hd;split at h
   ·cases h
   ·have:=ri r _ m (by omega) h;omega
  ·cases h
theorem O6 {c:UInt8}{r:B}{m:Int}(hc:¬c=48)(h:cg 0 (c::r)=some m):1<=m:=by
 rw[cg]at h;split at h
 ·rename_i hd;simp only[digit,Bool.and_eq_true,decide_eq_true_eq]at hd;have TP:¬c.toNat=48:=fun e=>hc ((kV c 48 (by omega)).mpr e)
  split at h
  ·cases h
  ·have:=ri r _ m (by omega) h;omega
 ·cases h
theorem sO {c:UInt8}{r:B}(n:Int)(h:¬digit c=true):cg n (c::r)=none:=by rw[cg,ja h]
theorem oy {c:UInt8}{r:B}(hc:¬c=45):number (c::r)=az (c::r):=by
 have hu:dk (c::r)=c::r:=by simp[dk,hc]
 have hs:signed (c::r)=false:=by simp[signed,hc]
 rw[number,hu,hs,az];by_cases h0:c=48/\(c::r)≠[48]
 ·rw[jb (.inr ⟨by rw[h0.1];rfl,h0.2⟩),ja (fun e=>e.2 h0)]
 ·rw[ja (by simp only[List.length_cons,List.head?_cons,Option.some.injEq];rintro(h|h);omega;exact h0 h)];by_cases hd:digit c=true
  ·rw[jb ⟨hd,h0⟩];cases cg 0 (c::r)<;>simp
  ·rw[ja (fun e=>hd e.1),sO _ hd]
theorem se (w:B):dO w=number w:=by
 cases w with
 |nil=>rfl
 |cons c r=>
  rw[dO];by_cases hc:c=45
  ·subst hc;have hu:dk (45::r)=r:=rfl;have hs:signed (45::r)=true:=rfl;rw[jb rfl,number,hu,hs];cases r with
   |nil=>rfl
   |cons d t=>
    by_cases hd:d=48
    ·subst hd;rw[jb (.inr ⟨rfl,by simp⟩),az];by_cases ht:t=[]
     ·subst ht;rfl
     ·rw[ja (fun e=>e.2 ⟨rfl,by simp[ht]⟩)]
    ·rw[ja (by simp[hd]),az];by_cases hdg:digit d=true
     ·rw[jb ⟨hdg,fun e=>hd e.1⟩];cases hn:cg 0 (d::t)with
      |none=>rfl
      |some n=>
       have:=O6 hd hn;simp only;rw[ja (by omega)];rfl
     ·rw[ja (fun e=>hdg e.1),sO _ hdg]
  ·rw[ja hc,oy hc]
theorem Bt {r:B}{n:Int}(h:number (45::r)=some n):n<=-1:=by
 rw[<-se,dO,jb rfl]at h;cases hd:az r with
 |none=>rw[hd]at h;cases h
 |some m=>
  rw[hd]at h;simp only at h;split at h
  ·cases h
  ·simp only[Option.some.injEq]at h;have:0<=m:=by
    cases r with
    |nil=>cases hd
    |cons c t=>
     rw[az]at hd;split at hd
     ·exact ri _ _ _ (by omega) hd
     ·cases hd
   omega
theorem Ay {w:B}{m:Int}(hd:az w=some m):0<=m:=by
 cases w with
 |nil=>cases hd
 |cons c t=>
  rw[az]at hd;split at hd
  ·exact ri _ _ _ (by omega) hd
  ·cases hd
theorem pA (w:B):az w=match number w with|some n=>if 0<=n then some n else none|none=>none:=by
 cases w with
 |nil=>rfl
 |cons c r=>
  by_cases hc:c=45
  ·subst hc;have h1:az (45::r)=none:=by rw[az,ja (fun e=>absurd e.1 (by decide))]
   rw[h1];cases hn:number (45::r)with
   |none=>rfl
   |some n=>have:=Bt hn;simp only;rw[ja (by omega)]
  ·rw[oy hc];cases hd:az (c::r)with
   |none=>rfl
   |some n=>have:=Ay hd;simp only;rw[jb this]
theorem WA (d:UInt8):cg 0 [d]=if digit d then some ((d.toNat:Int)-48)else none:=by
 rw[cg];split
 ·rename_i hd;simp only[digit,Bool.and_eq_true,decide_eq_true_eq]at hd;rw[ja (by omega)];simp[cg]
 ·rfl
theorem LC (w:B):(match number w with|some n=>decide (n=0)||decide (n=1)|none=>false)=(w==[48]||w==[49]):=by
 cases w with
 |nil=>rfl
 |cons c r=>
  by_cases hc:c=45
  ·subst hc;have:((45::r:B)==[48]||(45::r:B)==[49])=false:=by simp
   rw[this];cases hn:number (45::r)with
   |none=>rfl
   |some n=>have:=Bt hn;simp;omega
  ·rw[oy hc,az];by_cases TP:c=48
   ·subst TP;by_cases hr:r=[]
    ·subst hr;rfl
    ·rw[ja (fun e=>e.2 ⟨rfl,by simp[hr]⟩)];simp[hr]
   ·by_cases hd:digit c=true
    ·rw[jb ⟨hd,fun e=>TP e.1⟩];have Ob:=hd;simp only[digit,Bool.and_eq_true,decide_eq_true_eq]at Ob;have h48':¬c.toNat=48:=fun e=>TP ((kV c 48 (by omega)).mpr e)
     rw[cg,jb hd,ja (by omega)];cases r with
     |nil=>
      rw[cg];simp only;have h49:(c==49)=decide (c.toNat=49):=by
       rw[jX];simp only[beq_iff_eq,decide_eq_true_eq];exact kV c 49 (by omega)
      have e1:(([c]:B)==[48])=false:=by simp[TP]
      have e2:(([c]:B)==[49])=(c==49):=by simp
      rw[e1,e2,h49,jX];simp;omega
     |cons d t=>
      have:((c::d::t:B)==[48]||(c::d::t:B)==[49])=false:=by simp
      rw[this,cg];by_cases hdd:digit d=true
      ·rw[jb hdd];simp only[digit,Bool.and_eq_true,decide_eq_true_eq]at hdd;by_cases hgt:10*(10*0+((c.toNat:Int)-48))+((d.toNat:Int)-48)>1000000000
       ·rw[jb hgt]
       ·rw[ja hgt];cases hn:cg (10*(10*0+((c.toNat:Int)-48))+((d.toNat:Int)-48)) t with
        |none=>rfl
        |some n=>have:=ri _ _ _ (by omega) hn;simp;omega
      ·rw[ja hdd]
    ·rw[ja (fun e=>hd e.1)];have e1:¬c=49:=fun e=>hd (by rw[e];decide)
     simp[TP,e1]
theorem mW:∀{w:B},(cD w).2=none->(cD w).1=w/\¬(46:UInt8)∈w
 |[],_=>by simp[cD]
 |c::r,h=>by
  rw[cD]at h⊢;split at h
  ·cases h
  ·rename_i hc;obtain⟨h1,h2⟩:=mW (w:=r) h;rw[ja hc];exact⟨by simp[h1],by simp only[List.mem_cons,not_or];exact⟨fun e=>hc e.symm,h2⟩⟩
theorem mX:∀{w t:B},(cD w).2=some t->w=(cD w).1++46::t/\¬(46:UInt8)∈(cD w).1
 |[],t,h=>by simp[cD]at h
 |c::r,t,h=>by
  rw[cD]at h⊢;split at h
  ·rename_i hc;simp only[Option.some.injEq]at h;rw[jb hc,hc,h];simp
  ·rename_i hc;obtain⟨h1,h2⟩:=mX (w:=r) h;rw[ja hc];exact⟨by simp only[List.cons_append,List.cons.injEq,true_and];exact h1,by simp only[List.mem_cons,not_or];exact⟨fun e=>hc e.symm,h2⟩⟩
theorem pN {l:B}(h:(46:UInt8)∈l):isName l=false:=by
 rw[isName];have:l.all lower=false:=by
  rw[Bool.eq_false_iff];intro hh;have:=List.all_eq_true.mp hh 46 h;simp[lower]at this
 simp[this]
theorem lX {w:B}(h:¬(46:UInt8)∈w):dv w=false:=by
 rw[dv];rw[Bool.eq_false_iff];intro hh;simp only[Bool.and_eq_true,decide_eq_true_eq,beq_iff_eq]at hh;exact h (List.mem_of_getElem? hh.2)
theorem mH (w:B):(match bR w with|some x=>isName x.1|none=>false)=bW w:=by
 rw[bR];cases h:(cD w).2 with
 |none=>
  obtain⟨h1,h2⟩:=mW h;have hd:=lX h2;simp[bW,ai,hd,h1]
 |some t=>
  obtain⟨h1,h2⟩:=mX h;generalize (cD w).1=a at h1 h2;have ZN:(46:UInt8)∈w:=by rw[h1];simp
  have hlen:w.length=a.length+1+t.length:=by rw[h1];simp;omega
  simp only;have side:∀b:Bool,(¬t.length=1)->b=false->b=bW w:=by
   intro b ht hb;rw[hb,bW];have:isName (ai w)=false:=by
    rw[ai];split
    ·rename_i hd;rw[dv]at hd;simp only[Bool.and_eq_true,decide_eq_true_eq,beq_iff_eq]at hd;apply pN
     by_cases tO:t.length=0
     ·exfalso;have:t=[]:=List.eq_nil_of_length_eq_zero tO;subst this;have hx:=hd.2;rw[h1,jg (by simp;simp at hlen;omega)]at hx;exact h2 (List.mem_of_getElem? hx)
     ·rw[h1,List.take_append];have:1<=(a++46::t).length-2-a.length:=by simp;omega
      obtain⟨m,hm⟩:∃m,(a++46::t).length-2-a.length=m+1:=⟨_,(Nat.sub_add_cancel this).symm⟩;rw[hm];simp
    ·exact pN ZN
   rw[this];rfl
  by_cases ht:t.length=1
  ·obtain⟨x,rfl⟩:=List.length_eq_one_iff.mp ht;by_cases ha:a=[]
   ·subst ha;have hd:dv w=false:=by rw[dv,hlen];rfl
    have hn:isName w=false:=pN ZN;have hp:bW w=false:=by simp[bW,ai,hd,hn]
    rw[hp];have hnn:isName []=false:=rfl;split
    ·rename_i y hy;have:y.1=[]:=by
      revert hy
      repeat (first|(split;(intro e;cases e;rfl))|(intro e;cases e))
     rw[this];rfl
    ·rfl
   ·have lH:1<=a.length:=by cases a;exact absurd rfl ha;simp
    have hx:w[w.length-2]?=some 46:=by
     rw[hlen,h1];simp
    have hd:dv w=true:=by rw[dv,hx];simp;simp at hlen;omega
    have hl:ai w=a:=by rw[ai,jb hd,h1];simp
    have hpt:partOf w=x:=by rw[partOf,jb hd,h1];simp
    have ea:¬a=w:=by intro e;have:=congrArg List.length e;simp at hlen;omega
    rw[bW,hl,hpt];simp only[List.cons.injEq,and_true];by_cases h97:x=97
    ·subst h97;simp
    ·by_cases h98:x=98
     ·subst h98;simp
     ·by_cases h115:x=115
      ·subst h115;simp
      ·simp[h97,h98,h115,ea]
  ·refine side _ ht ?_;have n97:¬t=[97]:=fun e=>ht (by rw[e];rfl)
   have n98:¬t=[98]:=fun e=>ht (by rw[e];rfl)
   have n115:¬t=[115]:=fun e=>ht (by rw[e];rfl)
   rw[ja n97,ja n98,ja n115]
end Sq
namespace Sq
open Go
theorem Gr (w:B){c:UInt8}(hc:c∈([105,111,112,109,35,98,102,118]:List UInt8)):jo w c=iB (letter c) w:=by
 have hd:=pA w;simp only[List.mem_cons,List.not_mem_nil,or_false]at hc;rcases hc with rfl|rfl|rfl|rfl|rfl|rfl|rfl|rfl
 ·rfl
 ·rfl
 ·exact mH w
 ·exact mH w
 ·show(dO w).isSome=(number w).isSome
  rw[se]
 ·show(az w).isSome=(match number w with|some n=>decide (0<=n)|none=>false)
  rw[hd];cases number w with
  |none=>rfl
  |some n=>show(if 0<=n then some n else none).isSome=decide (0<=n);split<;>simp[*]
 ·show(match az w with|some n=>decide (n<50)|none=>false)=(match number w with|some n=>decide (0<=n)&&decide (n<50)|none=>false)
  rw[hd];cases number w with
  |none=>rfl
  |some n=>
   simp only;by_cases h0:0<=n
   ·rw[jb h0];simp[h0]
   ·rw[ja h0];simp[h0]
 ·exact(LC w).symm
def bI (op:Nat):B:=(eZ.getD op ([],[])).1
theorem gd {w:B}{op:Nat}(h:fD w=some op):op<23/\w=bI op:=by
 have hl:=oW h;refine⟨hl,?_⟩;have:=(A1 _ _ _ _ h).2.2;rw[<-this,bI];have hl':op<eZ.length:=hl;simp[List.getD_eq_getElem?_getD,hl']
def cq (op:Nat):B:=if op=15 then [100]else(ae op).map letter
theorem xz {w:B}{op:Nat}(h:fD w=some op)(h2:2<=op)(raw:Bool):behind w raw=(cq op,pD raw op):=by
 obtain⟨hl,rfl⟩:=gd h;have:∀(op:Fin 23) (raw:Bool),2<=op.val->behind (bI op.val) raw=(cq op.val,pD raw op.val):=by decide
 exact this ⟨op,hl⟩ raw h2
theorem zG {w:B}{op:Nat}(h:fD w=some op):ends w=decide (18<=op):=by
 obtain⟨hl,rfl⟩:=gd h;have:∀op:Fin 23,ends (bI op.val)=decide (18<=op.val):=by decide
 exact this ⟨op,hl⟩
theorem Bb {w:B}{op:Nat}(h:fD w=some op):w=cv↔op=0:=by
 obtain⟨hl,rfl⟩:=gd h;have:∀op:Fin 23,bI op.val=cv↔op.val=0:=by decide
 exact this ⟨op,hl⟩
theorem oG {w:B}{op:Nat}(h:fD w=some op):w=aQ↔op=1:=by
 obtain⟨hl,rfl⟩:=gd h;have:∀op:Fin 23,bI op.val=aQ↔op.val=1:=by decide
 exact this ⟨op,hl⟩
theorem Ks {l:List B}{w:B}{k:Nat}(h:oc l w k=none):∀x∈l,¬w=x:=by
 induction l generalizing k with
 |nil=>intro x hx;cases hx
 |cons s r ih=>
  rw[oc]at h;split at h
  ·cases h
  ·rename_i hs;intro x hx;rcases jP.mp hx with rfl|hx
   ·exact fun e=>hs e.symm
   ·exact ih h x hx
theorem yE {w:B}(h:fD w=none)(raw:Bool):¬w=cv/\¬w=aQ/\(behind w raw).2=false:=by
 have hx:=Ks h;have hn:∀op:Fin 23,¬w=bI op.val:=by
  intro op;apply hx
  have:∀op:Fin 23,bI op.val∈eZ.map (·.1):=by decide
  exact this op
 refine⟨hn 0,hn 1,?_⟩;unfold behind;have h2:¬w=[115,101,116]:=hn 2;have h3:¬w=[97,100,100]:=hn 3;have h4:¬w=[115,117,98]:=hn 4;have h5:¬w=[109,117,108]:=hn 5;have h6:¬w=[100,105,118]:=hn 6;have h7:¬w=[105,110]:=hn 7;have h8:¬w=[111,117,116]:=hn 8;have h9:¬w=[110,101,119]:=hn 9;have V5:¬w=[108,111,97,100]:=hn 10;have oL:¬w=[115,116,111,114,101]:=hn 11;have cf:¬w=[109,111,118,101]:=hn 12;have En:¬w=[110,111,110,101]:=hn 13;have B5:¬w=[115,111,109,101]:=hn 14;have su:¬w=[100,114,111,112]:=hn 15;have YD:¬w=[102,114,101,101]:=hn 16;have YE:¬w=[102,108,97,103]:=hn 17;have sv:¬w=[103,111,116,111]:=hn 18;have Uy:¬w=[105,102]:=hn 19;have P5:¬w=[109,97,116,99,104]:=hn 20;have h21:¬w=[116,101,115,116]:=hn 21;have TO:¬w=[101,110,100]:=hn 22;simp only[h2,h3,h4,h5,h6,h7,h8,h9,V5,oL,cf,En,B5,su,YD,YE,sv,Uy,P5,h21,TO,or_self,if_false]
theorem xJ:∀(f:B) (_:∀c∈f,c∈([105,111,112,109,35,98,102,118]:List UInt8)) (ws:List B),bg f ws=jn (f.map letter) ws
 |[],_,_=>rfl
 |c::f,hc,ws=>by
  rw[bg,List.map_cons,jn,Gr _ (hc c (jM ..)),xJ f (fun x hx=>hc x (jN _ hx))]
theorem sG {op:Nat}(h:op<23)(h2:2<=op)(ws:List B):bg (ae op) ws=jn (cq op) ws/\(cq op).length=(ae op).length:=by
 have hk:∀op:Fin 23,2<=op.val->∀c∈ae op.val,c∈([105,111,112,109,35,98,102,118]:List UInt8):=by decide
 by_cases su:op=15
 ·subst su;refine⟨?_,rfl⟩;rw[xJ _ (hk ⟨15,by decide⟩ (show 2<=15 by decide))];rfl
 ·rw[cq,ja su];exact⟨xJ _ (hk ⟨op,h⟩ h2) ws,by simp⟩
theorem Me (w:B):(gM w).isSome=(w==mM||w==kz||w==cj||w==eG):=by
 unfold gM j0;simp only[oc];by_cases h1:mM=w
 ·subst h1;rfl
 ·rw[ja h1];by_cases h2:kz=w
  ·subst h2;rfl
  ·rw[ja h2];by_cases h3:cj=w
   ·subst h3;rfl
   ·rw[ja h3];by_cases h4:eG=w
    ·subst h4;rfl
    ·rw[ja h4];have e1:¬w=mM:=fun e=>h1 e.symm
     have e2:¬w=kz:=fun e=>h2 e.symm
     have e3:¬w=cj:=fun e=>h3 e.symm
     have e4:¬w=eG:=fun e=>h4 e.symm
     simp[e1,e2,e3,e4]
structure om (p:RP)(o:fj):Prop where
 locals:o.locals=p.lets.length
 blocks:o.blocks=p.blocks.length
 MV:o.sec=1↔p.inside p.lines.length=true
 SR:o.sec=0↔p.blocks.length=0
theorem om.start (raw:Bool):om (Sq.start raw) ⟨0,0,0⟩:=⟨rfl,rfl,by simp[Sq.start,RP.inside,lJ],by simp[Sq.start]⟩
theorem Ad (p:RP)(ws:List B):(p.addLine ws).inside p.lines.length=p.inside p.lines.length:=by
 simp[RP.inside,RP.addLine]
theorem rb (p:RP)(ws:List B):((p.addLine ws).mark p.lines.length).inside (p.lines.length+1)=if word ws 0=aQ then true else if ends (word ws 0)then false else p.inside p.lines.length:=by
 rw[RP.inside,RP.eg,RP.addLine];have:((p.lines++[ws]).take (p.lines.length+1)).reverse=ws::p.lines.reverse:=by
  rw[List.take_of_length_le (by simp)];simp
 simp only[this,lJ];rw[RP.inside,List.take_length]
theorem Im (p:RP)(ws:List B):(p.addLine ws).line p.lines.length=ws:=by rw[RP.fk];simp
theorem Uw {p:RP}{o:fj}(R:om p o){ws:List B}(h1:1<=ws.length):
  (p.addLine ws).form p.lines.length=(match eP ws with|none=>false|some x=>(aP p.raw o x.1).2):=by
 rw[RP.form,Im,Ad];have xU:(p.addLine ws).raw=p.raw:=rfl;have Z6:(p.addLine ws).lets=p.lets:=rfl;have UM:(p.addLine ws).blocks=p.blocks:=rfl;rw[xU,Z6,UM,eP];cases ho:fD (word ws 0)with
 |none=>
  obtain⟨n1,n2,n3⟩:=yE ho p.raw;rw[ja n1,ja n2,jb (.inl n3)]
 |some op=>
  obtain⟨hl,hw⟩:=gd ho;simp only;have e0:=Bb ho;have e1:=oG ho;by_cases h0:op=0
  ·subst h0;rw[jb (e0.mpr rfl)];have RS:ae 0=[100,116]:=rfl;rw[RS];have hf:bg [100,116] (ws.drop 1)=(isName (word ws 1)&&(word ws 2==mM||word ws 2==kz||word ws 2==cj||word ws 2==eG)):=by
    simp only[bg,Bool.and_true];have a1:word (List.drop 1 ws) 0=word ws 1:=by simp[word]
    have a2:word (List.drop 1 (List.drop 1 ws)) 0=word ws 2:=by simp[word]
    rw[a1,a2,<-Me];rfl
   rw[hf];have ha:(aP p.raw o 0).2=(o.sec==0&&decide (o.locals+1<=12)):=rfl;have xV:(o.sec==0)=decide (p.blocks.length=0):=by rw[jX];simp only[beq_iff_eq,decide_eq_true_eq];exact R.SR
   by_cases h3:ws.length=3
   ·by_cases hb:0<p.blocks.length\/12<=p.lets.length
    ·rw[jb (.inr hb)];split
     ·rfl
     ·rename_i x hx;split at hx
      ·cases hx
       rw[ha,xV,R.locals]
       symm
       rw[Bool.and_eq_false_iff];rcases hb with hb|hb
       ·left;simp only[decide_eq_false_iff_not];omega
       ·right;simp only[decide_eq_false_iff_not];omega
      ·cases hx
    ·rw[ja (by rw[not_or];exact⟨by simp[h3],hb⟩)];cases hc:(isName (word ws 1)&&(word ws 2==mM||word ws 2==kz||word ws 2==cj||word ws 2==eG))
     ·rw[ja (by simp)]
     ·rw[jb ⟨by simp[h3],rfl⟩];simp only;rw[ha,xV,R.locals]
      symm
      simp only[Bool.and_eq_true,decide_eq_true_eq];omega
   ·rw[jb (.inl h3),ja (by simp;omega)]
  ·rw[ja (fun e=>h0 (e0.mp e))];by_cases TN:op=1
   ·subst TN;rw[jb (e1.mpr rfl)];have RS:ae 1=[]:=rfl;rw[RS];have ha:(aP p.raw o 1).2=(decide (0<o.locals)&& !(o.sec==1)&&decide (o.blocks+1<=if p.raw then 2000 else 20)):=rfl;have xV:(o.sec==1)=p.inside p.lines.length:=by rw[jX];simp only[beq_iff_eq];exact R.MV
    by_cases tm:ws.length=1
    ·have GF:ws.length-1=([]:B).length/\bg [] (ws.drop 1)=true:=⟨by simp[tm],rfl⟩;rw[jb GF];show _=(aP p.raw o 1).2
     rw[ha,xV,R.locals,R.blocks];have:decide (p.blocks.length+1<=if p.raw=true then 2000 else 20)=decide (p.blocks.length<if p.raw=true then 2000 else 20):=rfl;rw[this];simp[tm];cases p.inside p.lines.length<;>simp
    ·have GF:¬(ws.length-1=([]:B).length/\bg [] (ws.drop 1)=true):=fun e=>tm (by have:=e.1;simp at this;omega)
     rw[ja GF];simp[tm]
   ·rw[ja (fun e=>TN (e1.mp e)),xz ho (by omega)];obtain⟨hf,P7⟩:=sG hl (by omega) (ws.drop 1);simp only;have ha:(aP p.raw o op).2=(pD p.raw op&&p.inside p.lines.length):=by
     rw[aP];cases hh:pD p.raw op
     ·rw[jb rfl];rfl
     ·rw[ja (by simp),ja h0,ja TN];cases lf:p.inside p.lines.length
      ·have:¬o.sec=1:=fun e=>by rw[R.MV.mp e]at lf;cases lf
       rw[jb this];rfl
      ·have:o.sec=1:=R.MV.mpr lf;rw[ja (by simp[this])];split<;>rfl
    by_cases hx:pD p.raw op=false\/p.inside p.lines.length=false\/ws.length≠(cq op).length+1
    ·rw[jb hx];split
     ·rfl
     ·rename_i x Y0;split at Y0
      ·rename_i hy;cases Y0
       rw[ha];rcases hx with hx|hx|hx
       ·rw[hx];rfl
       ·rw[hx,Bool.and_false]
       ·exact absurd (by rw[P7];omega) hx
      ·cases Y0
    ·rw[ja hx];simp only[not_or,Bool.not_eq_false,Decidable.not_not,ne_eq]at hx;rw[<-hf];cases hc:bg (ae op) (ws.drop 1)
     ·rw[ja (by simp)]
     ·rw[jb ⟨by rw[<-P7];omega,rfl⟩];simp only;rw[ha,hx.1,hx.2.1];rfl
theorem om.next {p:RP}{o:fj}(R:om p o){ws:List B}{x:Nat×List B}(hs:eP ws=some x)(ha:(aP p.raw o x.1).2=true):
  om ((p.addLine ws).mark p.lines.length) (aP p.raw o x.1).1:=by
 rw[eP]at hs;cases ho:fD (word ws 0)with
 |none=>rw[ho]at hs;cases hs
 |some op=>
  rw[ho]at hs;simp only at hs;split at hs
  ·cases hs
   simp only at ha⊢;have e0:=Bb ho;have e1:=oG ho;have hi:=rb p ws;have hlen:((p.addLine ws).mark p.lines.length).lines.length=p.lines.length+1:=by rw[RP.eg];simp[RP.addLine]
   have lg:=Im p ws;rw[aP]at ha⊢;cases hh:pD p.raw op
   ·rw[hh,jb rfl]at ha;cases ha
   ·rw[hh,ja (by simp)]at ha;rw[ja (by simp)];by_cases h0:op=0
    ·have hw:=e0.mpr h0;rw[jb h0]at ha⊢;simp only[Bool.and_eq_true,beq_iff_eq,decide_eq_true_eq]at ha;have hm:(p.addLine ws).mark p.lines.length=(p.addLine ws).dC p.lines.length:=by rw[RP.mark,lg,jb hw]
     refine⟨?_,?_,?_,?_⟩
     ·rw[hm];simp[RP.dC,RP.addLine,R.locals]
     ·rw[hm];exact R.blocks
     ·rw[hlen,hi,ja (by rw[hw];decide),ja (by rw[hw];decide)];exact R.MV
     ·rw[hm];exact R.SR
    ·rw[ja h0]at ha⊢;have qS:¬word ws 0=cv:=fun e=>h0 (e0.mp e)
     by_cases h1:op=1
     ·have hw:=e1.mpr h1;rw[jb h1]at ha⊢;have hm:(p.addLine ws).mark p.lines.length=(p.addLine ws).addBlock p.lines.length:=by rw[RP.mark,lg,ja qS,jb hw]
      refine⟨?_,?_,?_,?_⟩
      ·rw[hm];exact R.locals
      ·rw[hm];simp[RP.addBlock,RP.addLine,R.blocks]
      ·rw[hlen,hi,jb hw];simp
      ·rw[hm];simp[RP.addBlock,RP.addLine]
     ·rw[ja h1]at ha⊢;have tP:¬word ws 0=aQ:=fun e=>h1 (e1.mp e)
      have hm:(p.addLine ws).mark p.lines.length=p.addLine ws:=by rw[RP.mark,lg,ja qS,ja tP]
      have sw:=zG ho;have fB:¬p.blocks.length=0:=by
       by_cases xV:o.sec=1
       ·intro e;have:=R.SR.mpr e;omega
       ·rw[jb xV]at ha;cases ha
      by_cases xV:o.sec=1
      ·rw[ja (by simp[xV])];by_cases sv:18<=op
       ·rw[jb sv];refine⟨by rw[hm];exact R.locals,by rw[hm];exact R.blocks,?_,?_⟩
        ·rw[hlen,hi,ja tP,sw,jb (by simp[sv])];simp
        ·rw[hm];simp only;constructor
         ·intro e;cases e
         ·intro e;exact absurd e fB
       ·rw[ja sv];refine⟨by rw[hm];exact R.locals,by rw[hm];exact R.blocks,?_,by rw[hm];exact R.SR⟩;rw[hlen,hi,ja tP,sw,ja (by simp[sv])];exact R.MV
      ·rw[jb xV]at ha;cases ha
  ·cases hs
end Sq
namespace Sq
open Go
structure aa where
 num:Nat
 op:Nat
 places:List (Nat×Nat)
 number:Int
 flag:Int
 next:List Nat
structure QP where
 locals:List (B×Nat)
 blocks:List (List aa)
def QP.empty:QP:=⟨[],[]⟩
def bQ:List (B×Nat)->B->Nat->Int
 |[],_,_=> -1
 |x::r,n,k=>if x.1=n then k else bQ r n (k+1)
def dE (ls:List (B×Nat))(n:B):Int:=bQ ls n 0
def cY (ls:List (B×Nat))(nb:Nat):B->List B->aa->Option aa
 |[],_,l=>some l
 |c::f,ws,l=>
  if c=35\/c=118 then cY ls nb f (ws.drop 1) {l with number:=(dO (word ws 0)).getD 0}
  else if c=102 then cY ls nb f (ws.drop 1) {l with flag:=(az (word ws 0)).getD 0}
  else if c=98 then
   (if((az (word ws 0)).getD 0)≥nb then none else cY ls nb f (ws.drop 1) {l with next:=l.next++[((az (word ws 0)).getD 0).toNat]})
  else
   (if dE ls ((bR (word ws 0)).getD ([],0)).1<0 then none
    else cY ls nb f (ws.drop 1) {l with places:=l.places++[((dE ls ((bR (word ws 0)).getD ([],0)).1).toNat,((bR (word ws 0)).getD ([],0)).2)]})
def ey (ls:List (B×Nat))(nb:Nat)(x:Nat×List B):Option aa:=cY ls nb (ae x.1) x.2 ⟨0,x.1,[],0,0,[]⟩
def QP.addLocal (q:QP)(x:B×Nat):QP:={q with locals:=q.locals++[x]}
def QP.addBlock (q:QP):QP:={q with blocks:=q.blocks++[[]]}
def QP.addLine (q:QP)(l:aa):QP:={q with blocks:=q.blocks.dropLast++[q.blocks.getLastD []++[l]]}
def ba (nb:Nat):List (Nat×List B)->Nat->QP->QP×Option Nat
 |[],_,q=>(q,none)
 |x::r,i,q=>
  if x.1=0 then
   (if dE q.locals (word x.2 0)≥0 then(q,some i)else ba nb r (i+1) (q.addLocal (word x.2 0,(gM (word x.2 1)).getD 0)))
  else if x.1=1 then ba nb r (i+1) q.addBlock
  else match ey q.locals nb x with
   |none=>(q,some i)
   |some l=>ba nb r (i+1) (q.addLine {l with num:=i})
def countB (l:List (Nat×List B)):Nat:=(l.filter fun x=>x.1==1).length
def QP.bA (q:QP)(n:Nat):Nat:=(q.locals.getD n ([],0)).2
def QP.kind (q:QP)(x:Nat×Nat):Option Nat:=
 if x.2=1\/x.2=2 then(if q.bA x.1=2 then some 1 else none)
 else if x.2=3 then(if q.bA x.1=3 then some 1 else none)else some (q.bA x.1)
def gE (t:Nat)(c:UInt8):Bool:=if c=105 then t==0 else if c=111 then t==3 else if c=112 then t==1 else !(t==0)
def QP.bJ (q:QP)(x:Nat×Nat)(c:UInt8):Bool:=match q.kind x with|none=>false|some t=>gE t c
def QP.fJ (q:QP)(f:B):List (Nat×Nat)->Nat->Bool
 |[],_=>true
 |x::r,k=>q.bJ x (f.getD k 0)&&QP.fJ q f r (k+1)
def QP.br (q:QP)(x:Nat×Nat):Nat:=if x.2=1\/x.2=2\/x.2=3 then 1 else q.bA x.1
def QP.fits (q:QP)(l:aa):Bool:=q.fJ (ae l.op) l.places 0&&(!(l.op==12)||q.br (l.places.getD 0 (0,0))==q.br (l.places.getD 1 (0,0)))
def QP.misfit (q:QP):Option Nat:=((q.blocks.flatten).find? fun l=> !q.fits l).map (·.num)
theorem tc (ls:List (B×Nat))(n:B)(k:Nat): -1<=bQ ls n k/\bQ ls n k<(k+ls.length:Nat):=by
 induction ls generalizing k with
 |nil=>simp[bQ];omega
 |cons x r ih=>
  rw[bQ];split
  ·simp;omega
  ·have:=ih (k+1);simp at this⊢;omega
def iy (c:UInt8):Nat:=if c=97 then 1 else if c=98 then 2 else if c=115 then 3 else 0
theorem sS {w:B}(h:bW w=true):bR w=some (ai w,iy (partOf w)):=by
 have h':=h;rw[<-mH]at h';rw[bR]at h'⊢;cases hc:(cD w).2 with
 |none=>
  obtain⟨h1,h2⟩:=mW hc;have hd:=lX h2;simp only;rw[h1,ai,partOf,hd];rfl
 |some t=>
  rw[hc]at h';obtain⟨h1,h2⟩:=mX hc;simp only at h'⊢;generalize (cD w).1=a at h1 h2 h'⊢;have key:∀x:UInt8,t=[x]->1<=a.length->ai w=a/\partOf w=x:=by
   intro x ht lH;subst ht;have hlen:w.length=a.length+2:=by rw[h1];simp
   have hx:w[w.length-2]?=some 46:=by rw[hlen,h1];simp
   have hd:dv w=true:=by rw[dv,hx];simp;omega
   exact⟨by rw[ai,jb hd,h1];simp,by rw[partOf,jb hd,h1];simp⟩
  have hlen:isName a=true->1<=a.length:=fun e=>by
   simp only[isName,Bool.and_eq_true,decide_eq_true_eq]at e;exact e.1.2
  by_cases h97:t=[97]
  ·rw[jb h97]at h'⊢;obtain⟨k1,k2⟩:=key 97 h97 (hlen h');rw[k1,k2];rfl
  ·rw[ja h97]at h'⊢;by_cases h98:t=[98]
   ·rw[jb h98]at h'⊢;obtain⟨k1,k2⟩:=key 98 h98 (hlen h');rw[k1,k2];rfl
   ·rw[ja h98]at h'⊢;by_cases h115:t=[115]
    ·rw[jb h115]at h'⊢;obtain⟨k1,k2⟩:=key 115 h115 (hlen h');rw[k1,k2];rfl
    ·rw[ja h115]at h';cases h'
theorem gF {w:B}(h:isName w=true):bW w=true/\ai w=w/\partOf w=0:=by
 have hd:dv w=false:=lX (fun e=>by rw[pN e]at h;cases h);have hl:ai w=w:=by rw[ai,hd];rfl
 exact⟨by simp[bW,hl,h],hl,by rw[partOf,hd];rfl⟩
theorem S1 {w:B}(h:bW w=true):partOf w=0\/partOf w=97\/partOf w=98\/partOf w=115:=by
 by_cases hd:dv w=true
 ·rw[bW,jH]at h;have h2:=h.2;simp only[Bool.or_eq_true,decide_eq_true_eq,beq_iff_eq]at h2;rcases h2 with((h2|h2)|h2)|h2
  ·exfalso;rw[ai,jb hd]at h2;have:=congrArg List.length h2;simp only[dv,Bool.and_eq_true,decide_eq_true_eq]at hd;simp at this;omega
  ·exact .inr (.inl h2)
  ·exact .inr (.inr (.inl h2))
  ·exact .inr (.inr (.inr h2))
 ·left;rw[partOf,ja hd]
end Sq
end Go.Proofs.YtmlgajhhnojdjaaGreatDoor

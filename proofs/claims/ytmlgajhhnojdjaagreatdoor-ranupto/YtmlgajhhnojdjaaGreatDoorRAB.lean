import Derived.Test.YtmlgajhhnojdjaaGreatDoorRAA
namespace Go.Proofs.YtmlgajhhnojdjaaGreatDoor
namespace Sq
open Go
theorem Gs (w:B){c:UInt8}(hc:c∈([105,111,112,109,35,98,102,118]:List UInt8)):jq w c=iC (letter c) w:=by
 have hd:=pB w;simp only[List.mem_cons,List.not_mem_nil,or_false]at hc;rcases hc with rfl|rfl|rfl|rfl|rfl|rfl|rfl|rfl
 ·rfl
 ·rfl
 ·exact mI w
 ·exact mI w
 ·show(dP w).isSome=(number w).isSome
  rw[sf]
 ·show(aA w).isSome=(match number w with|some n=>decide (0<=n)|none=>false)
  rw[hd];cases number w with
  |none=>rfl
  |some n=>show(if 0<=n then some n else none).isSome=decide (0<=n);split<;>simp[*]
 ·show(match aA w with|some n=>decide (n<50)|none=>false)=(match number w with|some n=>decide (0<=n)&&decide (n<50)|none=>false)
  rw[hd];cases number w with
  |none=>rfl
  |some n=>
   simp only;by_cases h0:0<=n
   ·rw[jb h0];simp[h0]
   ·rw[ja h0];simp[h0]
 ·exact(LD w).symm
def bJ (op:Nat):B:=(fb.getD op ([],[])).1
theorem gh {w:B}{op:Nat}(h:fE w=some op):op<23/\w=bJ op:=by
 have hl:=oX h;refine⟨hl,?_⟩;have:=(A2 _ _ _ _ h).2.2;rw[<-this,bJ];have hl':op<fb.length:=hl;simp[List.getD_eq_getElem?_getD,hl']
def cu (op:Nat):B:=if op=15 then [100]else(ag op).map letter
theorem xA {w:B}{op:Nat}(h:fE w=some op)(h2:2<=op)(raw:Bool):behind w raw=(cu op,pE raw op):=by
 obtain⟨hl,rfl⟩:=gh h;have:∀(op:Fin 23) (raw:Bool),2<=op.val->behind (bJ op.val) raw=(cu op.val,pE raw op.val):=by decide
 exact this ⟨op,hl⟩ raw h2
theorem zH {w:B}{op:Nat}(h:fE w=some op):ends w=decide (18<=op):=by
 obtain⟨hl,rfl⟩:=gh h;have:∀op:Fin 23,ends (bJ op.val)=decide (18<=op.val):=by decide
 exact this ⟨op,hl⟩
theorem Bc {w:B}{op:Nat}(h:fE w=some op):w=cx↔op=0:=by
 obtain⟨hl,rfl⟩:=gh h;have:∀op:Fin 23,bJ op.val=cx↔op.val=0:=by decide
 exact this ⟨op,hl⟩
theorem oH {w:B}{op:Nat}(h:fE w=some op):w=aR↔op=1:=by
 obtain⟨hl,rfl⟩:=gh h;have:∀op:Fin 23,bJ op.val=aR↔op.val=1:=by decide
 exact this ⟨op,hl⟩
theorem Kt {l:List B}{w:B}{k:Nat}(h:od l w k=none):∀x∈l,¬w=x:=by
 induction l generalizing k with
 |nil=>intro x hx;cases hx
 |cons s r ih=>
  rw[od]at h;split at h
  ·cases h
  ·rename_i hs;intro x hx;rcases jP.mp hx with rfl|hx
   ·exact fun e=>hs e.symm
   ·exact ih h x hx
theorem yF {w:B}(h:fE w=none)(raw:Bool):¬w=cx/\¬w=aR/\(behind w raw).2=false:=by
 have hx:=Kt h;have hn:∀op:Fin 23,¬w=bJ op.val:=by
  intro op;apply hx
  have:∀op:Fin 23,bJ op.val∈fb.map (·.1):=by decide
  exact this op
 refine⟨hn 0,hn 1,?_⟩;unfold behind;have h2:¬w=[115,101,116]:=hn 2;have h3:¬w=[97,100,100]:=hn 3;have h4:¬w=[115,117,98]:=hn 4;have h5:¬w=[109,117,108]:=hn 5;have h6:¬w=[100,105,118]:=hn 6;have h7:¬w=[105,110]:=hn 7;have h8:¬w=[111,117,116]:=hn 8;have h9:¬w=[110,101,119]:=hn 9;have V6:¬w=[108,111,97,100]:=hn 10;have oM:¬w=[115,116,111,114,101]:=hn 11;have cg:¬w=[109,111,118,101]:=hn 12;have Eo:¬w=[110,111,110,101]:=hn 13;have B6:¬w=[115,111,109,101]:=hn 14;have sv:¬w=[100,114,111,112]:=hn 15;have YE:¬w=[102,114,101,101]:=hn 16;have YF:¬w=[102,108,97,103]:=hn 17;have sw:¬w=[103,111,116,111]:=hn 18;have Uz:¬w=[105,102]:=hn 19;have P6:¬w=[109,97,116,99,104]:=hn 20;have h21:¬w=[116,101,115,116]:=hn 21;have TP:¬w=[101,110,100]:=hn 22;simp only[h2,h3,h4,h5,h6,h7,h8,h9,V6,oM,cg,Eo,B6,sv,YE,YF,sw,Uz,P6,h21,TP,or_self,if_false]
theorem xK:∀(f:B) (_:∀c∈f,c∈([105,111,112,109,35,98,102,118]:List UInt8)) (ws:List B),bh f ws=jo (f.map letter) ws
 |[],_,_=>rfl
 |c::f,hc,ws=>by
  rw[bh,List.map_cons,jo,Gs _ (hc c (jM ..)),xK f (fun x hx=>hc x (jN _ hx))]
theorem sH {op:Nat}(h:op<23)(h2:2<=op)(ws:List B):bh (ag op) ws=jo (cu op) ws/\(cu op).length=(ag op).length:=by
 have hk:∀op:Fin 23,2<=op.val->∀c∈ag op.val,c∈([105,111,112,109,35,98,102,118]:List UInt8):=by decide
 by_cases sv:op=15
 ·subst sv;refine⟨?_,rfl⟩;rw[xK _ (hk ⟨15,by decide⟩ (show 2<=15 by decide))];rfl
 ·rw[cu,ja sv];exact⟨xK _ (hk ⟨op,h⟩ h2) ws,by simp⟩
theorem Mf (w:B):(gN w).isSome=(w==mN||w==kA||w==cm||w==eH):=by
 unfold gN j5;simp only[od];by_cases h1:mN=w
 ·subst h1;rfl
 ·rw[ja h1];by_cases h2:kA=w
  ·subst h2;rfl
  ·rw[ja h2];by_cases h3:cm=w
   ·subst h3;rfl
   ·rw[ja h3];by_cases h4:eH=w
    ·subst h4;rfl
    ·rw[ja h4];have e1:¬w=mN:=fun e=>h1 e.symm
     have e2:¬w=kA:=fun e=>h2 e.symm
     have e3:¬w=cm:=fun e=>h3 e.symm
     have e4:¬w=eH:=fun e=>h4 e.symm
     simp[e1,e2,e3,e4]
structure oo (p:RP)(o:fk):Prop where
 locals:o.locals=p.lets.length
 blocks:o.blocks=p.blocks.length
 MW:o.sec=1↔p.inside p.lines.length=true
 SU:o.sec=0↔p.blocks.length=0
theorem oo.start (raw:Bool):oo (Sq.start raw) ⟨0,0,0⟩:=⟨rfl,rfl,by simp[Sq.start,RP.inside,lK],by simp[Sq.start]⟩
theorem Ae (p:RP)(ws:List B):(p.addLine ws).inside p.lines.length=p.inside p.lines.length:=by
 simp[RP.inside,RP.addLine]
theorem re (p:RP)(ws:List B):((p.addLine ws).mark p.lines.length).inside (p.lines.length+1)=if word ws 0=aR then true else if ends (word ws 0)then false else p.inside p.lines.length:=by
 rw[RP.inside,RP.ei,RP.addLine];have:((p.lines++[ws]).take (p.lines.length+1)).reverse=ws::p.lines.reverse:=by
  rw[List.take_of_length_le (by simp)];simp
 simp only[this,lK];rw[RP.inside,List.take_length]
theorem Io (p:RP)(ws:List B):(p.addLine ws).line p.lines.length=ws:=by rw[RP.fp];simp
theorem Ux {p:RP}{o:fk}(R:oo p o){ws:List B}(h1:1<=ws.length):
  (p.addLine ws).form p.lines.length=(match eQ ws with|none=>false|some x=>(aQ p.raw o x.1).2):=by
 rw[RP.form,Io,Ae];have xV:(p.addLine ws).raw=p.raw:=rfl;have Z7:(p.addLine ws).lets=p.lets:=rfl;have UN:(p.addLine ws).blocks=p.blocks:=rfl;rw[xV,Z7,UN,eQ];cases ho:fE (word ws 0)with
 |none=>
  obtain⟨n1,n2,n3⟩:=yF ho p.raw;rw[ja n1,ja n2,jb (.inl n3)]
 |some op=>
  obtain⟨hl,hw⟩:=gh ho;simp only;have e0:=Bc ho;have e1:=oH ho;by_cases h0:op=0
  ·subst h0;rw[jb (e0.mpr rfl)];have RT:ag 0=[100,116]:=rfl;rw[RT];have hf:bh [100,116] (ws.drop 1)=(isName (word ws 1)&&(word ws 2==mN||word ws 2==kA||word ws 2==cm||word ws 2==eH)):=by
    simp only[bh,Bool.and_true];have a1:word (List.drop 1 ws) 0=word ws 1:=by simp[word]
    have a2:word (List.drop 1 (List.drop 1 ws)) 0=word ws 2:=by simp[word]
    rw[a1,a2,<-Mf];rfl
   rw[hf];have ha:(aQ p.raw o 0).2=(o.sec==0&&decide (o.locals+1<=12)):=rfl;have xW:(o.sec==0)=decide (p.blocks.length=0):=by rw[jX];simp only[beq_iff_eq,decide_eq_true_eq];exact R.SU
   by_cases h3:ws.length=3
   ·by_cases hb:0<p.blocks.length\/12<=p.lets.length
    ·rw[jb (.inr hb)];split
     ·rfl
     ·rename_i x hx;split at hx
      ·cases hx
       rw[ha,xW,R.locals]
       symm
       rw[Bool.and_eq_false_iff];rcases hb with hb|hb
       ·left;simp only[decide_eq_false_iff_not];omega
       ·right;simp only[decide_eq_false_iff_not];omega
      ·cases hx
    ·rw[ja (by rw[not_or];exact⟨by simp[h3],hb⟩)];cases hc:(isName (word ws 1)&&(word ws 2==mN||word ws 2==kA||word ws 2==cm||word ws 2==eH))
     ·rw[ja (by simp)]
     ·rw[jb ⟨by simp[h3],rfl⟩];simp only;rw[ha,xW,R.locals]
      symm
      simp only[Bool.and_eq_true,decide_eq_true_eq];omega
   ·rw[jb (.inl h3),ja (by simp;omega)]
  ·rw[ja (fun e=>h0 (e0.mp e))];by_cases TO:op=1
   ·subst TO;rw[jb (e1.mpr rfl)];have RT:ag 1=[]:=rfl;rw[RT];have ha:(aQ p.raw o 1).2=(decide (0<o.locals)&& !(o.sec==1)&&decide (o.blocks+1<=if p.raw then 2000 else 20)):=rfl;have xW:(o.sec==1)=p.inside p.lines.length:=by rw[jX];simp only[beq_iff_eq];exact R.MW
    by_cases tn:ws.length=1
    ·have GG:ws.length-1=([]:B).length/\bh [] (ws.drop 1)=true:=⟨by simp[tn],rfl⟩;rw[jb GG];show _=(aQ p.raw o 1).2
     rw[ha,xW,R.locals,R.blocks];have:decide (p.blocks.length+1<=if p.raw=true then 2000 else 20)=decide (p.blocks.length<if p.raw=true then 2000 else 20):=rfl;rw[this];simp[tn];cases p.inside p.lines.length<;>simp
    ·have GG:¬(ws.length-1=([]:B).length/\bh [] (ws.drop 1)=true):=fun e=>tn (by have:=e.1;simp at this;omega)
     rw[ja GG];simp[tn]
   ·rw[ja (fun e=>TO (e1.mp e)),xA ho (by omega)];obtain⟨hf,P8⟩:=sH hl (by omega) (ws.drop 1);simp only;have ha:(aQ p.raw o op).2=(pE p.raw op&&p.inside p.lines.length):=by
     rw[aQ];cases hh:pE p.raw op
     ·rw[jb rfl];rfl
     ·rw[ja (by simp),ja h0,ja TO];cases lg:p.inside p.lines.length
      ·have:¬o.sec=1:=fun e=>by rw[R.MW.mp e]at lg;cases lg
       rw[jb this];rfl
      ·have:o.sec=1:=R.MW.mpr lg;rw[ja (by simp[this])];split<;>rfl
    by_cases hx:pE p.raw op=false\/p.inside p.lines.length=false\/ws.length≠(cu op).length+1
    ·rw[jb hx];split
     ·rfl
     ·rename_i x Y1;split at Y1
      ·rename_i hy;cases Y1
       rw[ha];rcases hx with hx|hx|hx
       ·rw[hx];rfl
       ·rw[hx,Bool.and_false]
       ·exact absurd (by rw[P8];omega) hx
      ·cases Y1
    ·rw[ja hx];simp only[not_or,Bool.not_eq_false,Decidable.not_not,ne_eq]at hx;rw[<-hf];cases hc:bh (ag op) (ws.drop 1)
     ·rw[ja (by simp)]
     ·rw[jb ⟨by rw[<-P8];omega,rfl⟩];simp only;rw[ha,hx.1,hx.2.1];rfl
theorem oo.next {p:RP}{o:fk}(R:oo p o){ws:List B}{x:Nat×List B}(hs:eQ ws=some x)(ha:(aQ p.raw o x.1).2=true):
  oo ((p.addLine ws).mark p.lines.length) (aQ p.raw o x.1).1:=by
 rw[eQ]at hs;cases ho:fE (word ws 0)with
 |none=>rw[ho]at hs;cases hs
 |some op=>
  rw[ho]at hs;simp only at hs;split at hs
  ·cases hs
   simp only at ha⊢;have e0:=Bc ho;have e1:=oH ho;have hi:=re p ws;have hlen:((p.addLine ws).mark p.lines.length).lines.length=p.lines.length+1:=by rw[RP.ei];simp[RP.addLine]
   have lh:=Io p ws;rw[aQ]at ha⊢;cases hh:pE p.raw op
   ·rw[hh,jb rfl]at ha;cases ha
   ·rw[hh,ja (by simp)]at ha;rw[ja (by simp)];by_cases h0:op=0
    ·have hw:=e0.mpr h0;rw[jb h0]at ha⊢;simp only[Bool.and_eq_true,beq_iff_eq,decide_eq_true_eq]at ha;have hm:(p.addLine ws).mark p.lines.length=(p.addLine ws).dD p.lines.length:=by rw[RP.mark,lh,jb hw]
     refine⟨?_,?_,?_,?_⟩
     ·rw[hm];simp[RP.dD,RP.addLine,R.locals]
     ·rw[hm];exact R.blocks
     ·rw[hlen,hi,ja (by rw[hw];decide),ja (by rw[hw];decide)];exact R.MW
     ·rw[hm];exact R.SU
    ·rw[ja h0]at ha⊢;have qT:¬word ws 0=cx:=fun e=>h0 (e0.mp e)
     by_cases h1:op=1
     ·have hw:=e1.mpr h1;rw[jb h1]at ha⊢;have hm:(p.addLine ws).mark p.lines.length=(p.addLine ws).addBlock p.lines.length:=by rw[RP.mark,lh,ja qT,jb hw]
      refine⟨?_,?_,?_,?_⟩
      ·rw[hm];exact R.locals
      ·rw[hm];simp[RP.addBlock,RP.addLine,R.blocks]
      ·rw[hlen,hi,jb hw];simp
      ·rw[hm];simp[RP.addBlock,RP.addLine]
     ·rw[ja h1]at ha⊢;have tQ:¬word ws 0=aR:=fun e=>h1 (e1.mp e)
      have hm:(p.addLine ws).mark p.lines.length=p.addLine ws:=by rw[RP.mark,lh,ja qT,ja tQ]
      have sx:=zH ho;have fC:¬p.blocks.length=0:=by
       by_cases xW:o.sec=1
       ·intro e;have:=R.SU.mpr e;omega
       ·rw[jb xW]at ha;cases ha
      by_cases xW:o.sec=1
      ·rw[ja (by simp[xW])];by_cases sw:18<=op
       ·rw[jb sw];refine⟨by rw[hm];exact R.locals,by rw[hm];exact R.blocks,?_,?_⟩
        ·rw[hlen,hi,ja tQ,sx,jb (by simp[sw])];simp
        ·rw[hm];simp only;constructor
         ·intro e;cases e
         ·intro e;exact absurd e fC
       ·rw[ja sw];refine⟨by rw[hm];exact R.locals,by rw[hm];exact R.blocks,?_,by rw[hm];exact R.SU⟩;rw[hlen,hi,ja tQ,sx,ja (by simp[sw])];exact R.MW
      ·rw[jb xW]at ha;cases ha
  ·cases hs
end Sq
namespace Sq
open Go
theorem RP.tc (p:RP)(name:B):∀(l:List Nat) (k t:Nat),t∈l->word (p.line t) 1=name->0<=p.ji name l k:=by
 intro l;induction l with
 |nil=>intro k t ht;simp at ht
 |cons x r ih=>
  intro k t ht hn;rw[RP.ji];split
  ·omega
  ·rcases jP.mp ht with rfl|ht
   ·exact absurd hn ‹_›
   ·exact ih (k+1) t ht hn
theorem RP.Q0 {p:RP}{t:Nat}(ht:t∈p.lets):0<=p.find (word (p.line t) 1):=p.tc _ _ _ t ht rfl
theorem bW (ws:List B)(k:Nat):word (ws.drop 1) k=word ws (k+1):=by simp[word,List.getD_eq_getElem?_getD]
theorem RP.Bo (p:RP):∀(f:B) (ws:List B) (k:Nat) (hk:k<f.length),p.et f ws=true->p.rh f[k] (word ws k)=true:=by
 intro f;induction f with
 |nil=>intro ws k hk;simp at hk
 |cons c f ih=>
  intro ws k hk h;rw[RP.et,jH]at h;cases k with
  |zero=>exact h.1
  |succ k=>
   have:=ih (ws.drop 1) k (by simpa using hk) h.2;rw[bW]at this;simpa using this
theorem RP.kP {p:RP}{c:UInt8}{w:B}(h:p.rh c w=true)(hc:c∈[(105:UInt8),112,109,111,100]):0<=p.find (aj w):=by
 rw[RP.rh,jb]at h
 ·simpa using h
 ·simp only[List.mem_cons,List.not_mem_nil,or_false]at hc;rcases hc with h|h|h|h|h<;>simp[h]
theorem ite_m {c:Prop} [Decidable c](a b:B×Bool)(ha:109∈a.1->a.1.head?=some 109)(hb:109∈b.1->b.1.head?=some 109):109∈(if c then a else b).1->(if c then a else b).1.head?=some 109:=by split<;>assumption
theorem Qx (w:B)(r:Bool):109∈(behind w r).1->(behind w r).1.head?=some 109:=by
 unfold behind
 repeat (first|(refine ite_m _ _ (by simp) ?_)|simp)
theorem RP.Bp {p:RP}{i:Nat}(h:p.names i=true)(hl:¬word (p.line i) 0=cx):p.et (behind (word (p.line i) 0) p.raw).1 ((p.line i).drop 1)=true:=by
 rwa [RP.names,ja hl]at h
theorem RP.iw {p:RP}{i:Nat}(h:p.names i=true)(hl:¬word (p.line i) 0=cx)(k:Nat)(hk:k<(behind (word (p.line i) 0) p.raw).1.length)(hc:(behind (word (p.line i) 0) p.raw).1[k]∈[(105:UInt8),112,109,111,100]):0<=p.find (aj (word (p.line i) (k+1))):=by
 have:=p.Bo _ _ k hk (RP.Bp h hl);rw[bW]at this;exact RP.kP this hc
theorem RP.Vo {p:RP}{i:Nat}(h:p.names i=true)(hl:¬word (p.line i) 0=cx)(hm:109∈(behind (word (p.line i) 0) p.raw).1):0<=p.find (aj (word (p.line i) 1)):=by
 have h0:=Qx _ _ hm;rw[List.head?_eq_getElem?,List.getElem?_eq_some_iff]at h0;obtain⟨hk,h0⟩:=h0;exact RP.iw h hl 0 hk (by rw[h0];simp)
theorem sE (f:Nat->Bool)(n k:Nat)(hk:k<n):bp f (n-k) k=if f k then bp f (n-(k+1)) (k+1)else some k:=by
 rw[show n-k=(n-(k+1))+1 by omega,bp]
theorem lH (f:Nat->Bool):∀(m k:Nat),bp f m k=none->∀j,k<=j->j<k+m->f j=true:=by
 intro m;induction m with
 |zero=>intro k _ j h1 h2;omega
 |succ m ih=>
  intro k h j h1 h2;rw[bp]at h;by_cases hf:f k=true
  ·rw[jb hf]at h;by_cases hj:j=k
   ·rw[hj];exact hf
   ·exact ih (k+1) h j (by omega) (by omega)
  ·rw[ja hf]at h;cases h
theorem IK {text:B}{raw:Bool}{p:RP}(h1:(split 10 text).length<=4000)(h2:raw=false->(split 10 text).length<=120)(h:dx (aZ text) (Sq.start raw) 0=(p,none)):aK text raw=
  if p.inside (split 10 text).length=true\/p.blocks.length=0 then(none,2,(split 10 text).length)
   else match bp p.names (split 10 text).length 0 with
    |some i=>(none,3,i)
    |none=>match bp p.cz (split 10 text).length 0 with
     |some i=>(none,4,i)
     |none=>(some p,0,0):=by
 have hx:¬(4000<(split 10 text).length\/(raw=false/\120<(split 10 text).length)):=by
  rintro(h'|⟨h',h''⟩)
  ·omega
  ·have:=h2 h';omega
 rw[aK,ja hx,h]<;>rfl
theorem kK.read {text:B}{raw:Bool}{p:RP}(h:kK text raw (split 10 text).length p):dx (aZ text) (Sq.start raw) 0=(p,none):=by
 rw[h.form,jT (by rw[dz];omega),dx]
end Sq
namespace Sq
open Go
def isType (t:B):Bool:=t==mN||t==kA||t==cm||t==eH
def dJ (raw:Bool)(ws:List B):Bool:=
 if word ws 0=cx then decide (ws.length=3)&&isName (word ws 1)&&isType (word ws 2)
 else if word ws 0=aR then decide (ws.length=1)
 else(behind (word ws 0) raw).2&&decide (ws.length=(behind (word ws 0) raw).1.length+1)&&jo (behind (word ws 0) raw).1 (ws.drop 1)
def isLet (ws:List B):Bool:=word ws 0==cx
def ao (ws:List B):Bool:=word ws 0==aR
def RP.bQ (p:RP)(f:List B->Bool):List Nat:=(List.range p.lines.length).filter fun j=>f (p.line j)
structure tM (p:RP):Prop where
 form:∀j,j<p.lines.length->dJ p.raw (p.line j)=true
 MW:∀j,j<p.lines.length->isLet (p.line j)=true\/p.inside j= !ao (p.line j)
 lets:p.lets=p.bQ isLet
 blocks:p.blocks=p.bQ ao
 first:∀j,j<p.lines.length->isLet (p.line j)=true->∀b∈p.blocks,j<b
 aW:p.lets.length<=12
 OZ:p.blocks.length<=if p.raw then 2000 else 20
theorem RP.mz (p:RP)(ws:List B)(j:Nat)(h:j<=p.lines.length):(p.addLine ws).inside j=p.inside j:=by
 unfold RP.inside RP.addLine;simp only;rw[List.take_append_of_le_length h]
theorem RP.re (p:RP)(i j:Nat):(p.mark i).inside j=p.inside j:=by
 unfold RP.inside;rw[p.ei]
theorem RP.H3 {p:RP}{i:Nat}(h:p.form i=true):dJ p.raw (p.line i)=true:=by
 unfold RP.form at h;unfold dJ;by_cases hl:word (p.line i) 0=cx
 ·rw[jb hl]at h⊢;by_cases hx:(p.line i).length≠3\/0<p.blocks.length\/12<=p.lets.length
  ·rw[jb hx]at h;cases h
  ·rw[ja hx]at h;simp only[not_or,ne_eq,Decidable.not_not]at hx;simp only[hx.1,decide_true,Bool.true_and,isType];exact h
 ·rw[ja hl]at h⊢;by_cases hb:word (p.line i) 0=aR
  ·rw[jb hb]at h⊢;simp only[Bool.and_eq_true]at h;exact h.1.1.1
  ·rw[ja hb]at h⊢;by_cases hx:(behind (word (p.line i) 0) p.raw).2=false\/p.inside i=false\/(p.line i).length≠(behind (word (p.line i) 0) p.raw).1.length+1
   ·rw[jb hx]at h;cases h
   ·rw[ja hx]at h;simp only[not_or,ne_eq,Decidable.not_not,Bool.not_eq_false]at hx;rw[hx.1,h];simp[hx.2.2]
theorem pg (p:RP)(ws:List B)(f:List B->Bool):(p.addLine ws).bQ f=p.bQ f++if f ws then [p.lines.length]else []:=by
 have hl:(p.addLine ws).lines.length=p.lines.length+1:=by simp[RP.addLine]
 unfold RP.bQ;rw[hl,List.range_succ,List.filter_append];congr 1
 ·refine List.filter_congr fun j hj=> ?_
  rw[p.fp,jb (by simpa using hj)]
 ·have:(p.addLine ws).line p.lines.length=ws:=by rw[p.fp,ja (by omega),jb rfl]
  cases hf:f ws<;>simp[this,hf]
theorem sZ (p:RP)(i:Nat)(f:List B->Bool):(p.mark i).bQ f=p.bQ f:=by
 unfold RP.bQ;rw[p.ei];refine List.filter_congr fun j _=> ?_
 rw[p.l8]
theorem tM.start (raw:Bool):tM (Sq.start raw):=
 ⟨fun j hj=>by simp[Sq.start]at hj,fun j hj=>by simp[Sq.start]at hj,rfl,rfl,fun j hj=>by simp[Sq.start]at hj,by simp[Sq.start],by simp[Sq.start]⟩
theorem cI {p:RP}{f:List B->Bool}{b:Nat}(h:b∈p.bQ f):b<p.lines.length/\f (p.line b)=true:=by
 unfold RP.bQ at h;simpa using h
theorem tM.add {p:RP}(h:tM p)(ws:List B)(hf:(p.addLine ws).form p.lines.length=true):tM ((p.addLine ws).mark p.lines.length):=by
 have hl:(p.addLine ws).lines.length=p.lines.length+1:=by simp[RP.addLine]
 have hn:(p.addLine ws).line p.lines.length=ws:=by rw[p.fp,ja (by omega),jb rfl]
 have ho:∀j,j<p.lines.length->(p.addLine ws).line j=p.line j:=fun j hj=>by rw[p.fp,jb hj]
 have xV:(p.addLine ws).raw=p.raw:=rfl;have hF:=RP.H3 hf;have YN:=hf;unfold RP.form at hf;rw[hn]at hf hF;rw[p.mz ws _ (jC _)]at hf;have eLets:((p.addLine ws).mark p.lines.length).lets=p.lets++if isLet ws then [p.lines.length]else []:=by
  unfold RP.mark RP.dD RP.addBlock isLet;rw[hn];by_cases h1:word ws 0=cx
  ·simp[h1,RP.addLine]
  ·rw[ja h1];by_cases h2:word ws 0=aR<;>simp[h1,h2,RP.addLine];decide
 have eBlocks:((p.addLine ws).mark p.lines.length).blocks=p.blocks++if ao ws then [p.lines.length]else []:=by
  unfold RP.mark RP.dD RP.addBlock ao;rw[hn];by_cases h1:word ws 0=cx
  ·simp[h1,RP.addLine];decide
  ·rw[ja h1];by_cases h2:word ws 0=aR<;>simp[h2,RP.addLine]
 refine⟨fun j hj=> ?_,fun j hj=> ?_,?_,?_,fun j hj Jr b hb=> ?_,?_,?_⟩
 ·rw[RP.ei,hl]at hj;rw[RP.l8,RP.mE,xV];by_cases hx:j<p.lines.length
  ·rw[ho j hx];exact h.form j hx
  ·obtain rfl:j=p.lines.length:=by omega
   rw[hn];exact hF
 ·rw[RP.ei,hl]at hj;rw[RP.l8,RP.re];by_cases hx:j<p.lines.length
  ·rw[ho j hx,p.mz ws j (by omega)];exact h.MW j hx
  ·obtain rfl:j=p.lines.length:=by omega
   rw[hn,p.mz ws _ (jC _)];by_cases h1:word ws 0=cx
   ·exact .inl (by simp[isLet,h1])
   ·refine .inr ?_;rw[ja h1]at hf;by_cases h2:word ws 0=aR
    ·rw[jb h2]at hf;simp only[Bool.and_eq_true,Bool.not_eq_true']at hf;rw[hf.1.1.2];simp[ao,h2]
    ·rw[ja h2]at hf;cases hi:p.inside p.lines.length
     ·rw[jb (.inr (.inl hi))]at hf;cases hf
     ·simp[ao,h2]
 ·rw[eLets,sZ,pg,<-h.lets]
 ·rw[eBlocks,sZ,pg,<-h.blocks]
 ·rw[RP.ei,hl]at hj;rw[RP.l8]at Jr;rw[eBlocks,List.mem_append]at hb;by_cases hx:j<p.lines.length
  ·rw[ho j hx]at Jr;rcases hb with hb|hb
   ·exact h.first j hx Jr b hb
   ·split at hb
    ·rw[jI]at hb;omega
    ·simp at hb
  ·obtain rfl:j=p.lines.length:=by omega
   rw[hn]at Jr;have h1:word ws 0=cx:=by simpa [isLet]using Jr
   rw[jb h1]at hf;have hx:¬(0<p.blocks.length):=by
    intro hc;rw[jb (.inr (.inl hc))]at hf;cases hf
   rcases hb with hb|hb
   ·have:=List.length_pos_of_mem hb;omega
   ·have:ao ws=false:=by simp[ao,h1];decide
    simp[this]at hb
 ·rw[eLets];cases hw:isLet ws
  ·simpa using h.aW
  ·have h1:word ws 0=cx:=by simpa [isLet]using hw
   rw[jb h1]at hf;have hx:¬(12<=p.lets.length):=by
    intro hc;rw[jb (.inr (.inr hc))]at hf;cases hf
   simp;omega
 ·rw[eBlocks,RP.mE,xV];cases hw:ao ws
  ·simpa using h.OZ
  ·have h2:word ws 0=aR:=by simpa [ao]using hw
   have h1:¬word ws 0=cx:=by rw[h2];decide
   rw[ja h1,jb h2]at hf;simp only[Bool.and_eq_true,decide_eq_true_eq]at hf;have:=hf.2;simp only[xV]at this;have e:(p.addLine ws).blocks=p.blocks:=rfl;rw[e]at this;simp;omega
theorem tM.read:∀(ls:List (List B)) (p q:RP),tM p->dx ls p p.lines.length=(q,none)->tM q/\q.raw=p.raw/\q.lines=p.lines++ls
 |[],p,q,h,hr=>by
  rw[dx]at hr;obtain rfl:p=q:=(Prod.mk.inj hr).1;exact⟨h,rfl,by simp⟩
 |ws::r,p,q,h,hr=>by
  rw[dx]at hr;by_cases hf:(p.addLine ws).form p.lines.length=true
  ·rw[jb hf]at hr;have hl:((p.addLine ws).mark p.lines.length).lines.length=p.lines.length+1:=by rw[RP.ei];simp[RP.addLine]
   rw[<-hl]at hr;obtain⟨h1,h2,h3⟩:=tM.read r _ q (h.add ws hf) hr;refine⟨h1,?_,?_⟩
   ·rw[h2,RP.mE];rfl
   ·rw[h3,RP.ei];simp[RP.addLine]
  ·rw[ja hf]at hr;cases hr
structure aF (text:B)(raw:Bool)(p:RP):Prop where
 pre:tM p
 raw:p.raw=raw
 lines:p.lines=aZ text
 shut:p.inside p.lines.length=false
 nonempty:p.blocks≠[]
 names:∀j,j<p.lines.length->p.names j=true
 types:∀j,j<p.lines.length->p.cz j=true
theorem Cg (f:Nat->Bool)(m k:Nat)(h:bp f m k=none):∀j,k<=j->j<k+m->f j=true:=lH f m k h
theorem jz {text:B}{raw:Bool}{p:RP}{c k:Nat}(h:aK text raw=(some p,c,k)):aF text raw p/\c=0/\k=0/\(split 10 text).length<=4000/\(raw=false->(split 10 text).length<=120):=by
 unfold aK at h;split at h
 ·cases h
 ·rename_i hlen;split at h
  ·cases h
  ·rename_i q hq;have hp:=tM.read (aZ text) (Sq.start raw) q (tM.start raw) hq;have hn:q.lines.length=(split 10 text).length:=by rw[hp.2.2,<-dz];simp[Sq.start]
   split at h
   ·cases h
   ·rename_i hs;split at h
    ·cases h
    ·rename_i Kp;split at h
     ·cases h
     ·rename_i qv;simp only[Prod.mk.injEq,Option.some.injEq]at h;obtain⟨rfl,rfl,rfl⟩:=h;simp only[not_or,Bool.not_eq_true]at hs;refine⟨⟨hp.1,hp.2.1,by rw[hp.2.2];rfl,by rw[hn];exact hs.1,fun e=>hs.2 (by rw[e];rfl),fun j hj=> ?_,fun j hj=> ?_⟩,rfl,rfl,by omega,fun hr=> ?_⟩
      ·exact lH _ _ _ Kp j (by omega) (by omega)
      ·exact lH _ _ _ qv j (by omega) (by omega)
      ·simp only[not_or,not_and]at hlen;have:=hlen.2 hr;omega
end Sq
namespace Sq
open Go
structure ab where
 num:Nat
 op:Nat
 places:List (Nat×Nat)
 number:Int
 flag:Int
 next:List Nat
structure QP where
 locals:List (B×Nat)
 blocks:List (List ab)
def QP.empty:QP:=⟨[],[]⟩
def bR:List (B×Nat)->B->Nat->Int
 |[],_,_=> -1
 |x::r,n,k=>if x.1=n then k else bR r n (k+1)
def dF (ls:List (B×Nat))(n:B):Int:=bR ls n 0
def cZ (ls:List (B×Nat))(nb:Nat):B->List B->ab->Option ab
 |[],_,l=>some l
 |c::f,ws,l=>
  if c=35\/c=118 then cZ ls nb f (ws.drop 1) {l with number:=(dP (word ws 0)).getD 0}
  else if c=102 then cZ ls nb f (ws.drop 1) {l with flag:=(aA (word ws 0)).getD 0}
  else if c=98 then
   (if((aA (word ws 0)).getD 0)≥nb then none else cZ ls nb f (ws.drop 1) {l with next:=l.next++[((aA (word ws 0)).getD 0).toNat]})
  else
   (if dF ls ((bS (word ws 0)).getD ([],0)).1<0 then none
    else cZ ls nb f (ws.drop 1) {l with places:=l.places++[((dF ls ((bS (word ws 0)).getD ([],0)).1).toNat,((bS (word ws 0)).getD ([],0)).2)]})
def ez (ls:List (B×Nat))(nb:Nat)(x:Nat×List B):Option ab:=cZ ls nb (ag x.1) x.2 ⟨0,x.1,[],0,0,[]⟩
def QP.addLocal (q:QP)(x:B×Nat):QP:={q with locals:=q.locals++[x]}
def QP.addBlock (q:QP):QP:={q with blocks:=q.blocks++[[]]}
def QP.addLine (q:QP)(l:ab):QP:={q with blocks:=q.blocks.dropLast++[q.blocks.getLastD []++[l]]}
def bc (nb:Nat):List (Nat×List B)->Nat->QP->QP×Option Nat
 |[],_,q=>(q,none)
 |x::r,i,q=>
  if x.1=0 then
   (if dF q.locals (word x.2 0)≥0 then(q,some i)else bc nb r (i+1) (q.addLocal (word x.2 0,(gN (word x.2 1)).getD 0)))
  else if x.1=1 then bc nb r (i+1) q.addBlock
  else match ez q.locals nb x with
   |none=>(q,some i)
   |some l=>bc nb r (i+1) (q.addLine {l with num:=i})
def countB (l:List (Nat×List B)):Nat:=(l.filter fun x=>x.1==1).length
def QP.bB (q:QP)(n:Nat):Nat:=(q.locals.getD n ([],0)).2
def QP.kind (q:QP)(x:Nat×Nat):Option Nat:=
 if x.2=1\/x.2=2 then(if q.bB x.1=2 then some 1 else none)
 else if x.2=3 then(if q.bB x.1=3 then some 1 else none)else some (q.bB x.1)
def gF (t:Nat)(c:UInt8):Bool:=if c=105 then t==0 else if c=111 then t==3 else if c=112 then t==1 else !(t==0)
def QP.bK (q:QP)(x:Nat×Nat)(c:UInt8):Bool:=match q.kind x with|none=>false|some t=>gF t c
def QP.fK (q:QP)(f:B):List (Nat×Nat)->Nat->Bool
 |[],_=>true
 |x::r,k=>q.bK x (f.getD k 0)&&QP.fK q f r (k+1)
def QP.bt (q:QP)(x:Nat×Nat):Nat:=if x.2=1\/x.2=2\/x.2=3 then 1 else q.bB x.1
def QP.fits (q:QP)(l:ab):Bool:=q.fK (ag l.op) l.places 0&&(!(l.op==12)||q.bt (l.places.getD 0 (0,0))==q.bt (l.places.getD 1 (0,0)))
def QP.misfit (q:QP):Option Nat:=((q.blocks.flatten).find? fun l=> !q.fits l).map (·.num)
theorem td (ls:List (B×Nat))(n:B)(k:Nat): -1<=bR ls n k/\bR ls n k<(k+ls.length:Nat):=by
 induction ls generalizing k with
 |nil=>simp[bR];omega
 |cons x r ih=>
  rw[bR];split
  ·simp;omega
  ·have:=ih (k+1);simp at this⊢;omega
def iz (c:UInt8):Nat:=if c=97 then 1 else if c=98 then 2 else if c=115 then 3 else 0
theorem sT {w:B}(h:bX w=true):bS w=some (aj w,iz (partOf w)):=by
 have h':=h;rw[<-mI]at h';rw[bS]at h'⊢;cases hc:(cE w).2 with
 |none=>
  obtain⟨h1,h2⟩:=mX hc;have hd:=lY h2;simp only;rw[h1,aj,partOf,hd];rfl
 |some t=>
  rw[hc]at h';obtain⟨h1,h2⟩:=mY hc;simp only at h'⊢;generalize (cE w).1=a at h1 h2 h'⊢;have key:∀x:UInt8,t=[x]->1<=a.length->aj w=a/\partOf w=x:=by
   intro x ht lI;subst ht;have hlen:w.length=a.length+2:=by rw[h1];simp
   have hx:w[w.length-2]?=some 46:=by rw[hlen,h1];simp
   have hd:dw w=true:=by rw[dw,hx];simp;omega
   exact⟨by rw[aj,jb hd,h1];simp,by rw[partOf,jb hd,h1];simp⟩
  have hlen:isName a=true->1<=a.length:=fun e=>by
   simp only[isName,Bool.and_eq_true,decide_eq_true_eq]at e;exact e.1.2
  by_cases h97:t=[97]
  ·rw[jb h97]at h'⊢;obtain⟨k1,k2⟩:=key 97 h97 (hlen h');rw[k1,k2];rfl
  ·rw[ja h97]at h'⊢;by_cases h98:t=[98]
   ·rw[jb h98]at h'⊢;obtain⟨k1,k2⟩:=key 98 h98 (hlen h');rw[k1,k2];rfl
   ·rw[ja h98]at h'⊢;by_cases h115:t=[115]
    ·rw[jb h115]at h'⊢;obtain⟨k1,k2⟩:=key 115 h115 (hlen h');rw[k1,k2];rfl
    ·rw[ja h115]at h';cases h'
theorem gG {w:B}(h:isName w=true):bX w=true/\aj w=w/\partOf w=0:=by
 have hd:dw w=false:=lY (fun e=>by rw[pO e]at h;cases h);have hl:aj w=w:=by rw[aj,hd];rfl
 exact⟨by simp[bX,hl,h],hl,by rw[partOf,hd];rfl⟩
theorem S2 {w:B}(h:bX w=true):partOf w=0\/partOf w=97\/partOf w=98\/partOf w=115:=by
 by_cases hd:dw w=true
 ·rw[bX,jH]at h;have h2:=h.2;simp only[Bool.or_eq_true,decide_eq_true_eq,beq_iff_eq]at h2;rcases h2 with((h2|h2)|h2)|h2
  ·exfalso;rw[aj,jb hd]at h2;have:=congrArg List.length h2;simp only[dw,Bool.and_eq_true,decide_eq_true_eq]at hd;simp at this;omega
  ·exact .inr (.inl h2)
  ·exact .inr (.inr (.inl h2))
  ·exact .inr (.inr (.inr h2))
 ·left;rw[partOf,ja hd]
end Sq
end Go.Proofs.YtmlgajhhnojdjaaGreatDoor

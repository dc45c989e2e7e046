import Derived.Test.YtmlgajhhnojdjaaGreatDoorUAA
namespace Go.Proofs.YtmlgajhhnojdjaaGreatDoor
namespace Sq
open Go
theorem EN (w:B){c:UInt8}(hc:c∈([105,111,112,109,35,98,102,118]:List UInt8)):du w c=QD (letter c) w:=by
 have hd:=yK w;simp only[List.mem_cons,List.not_mem_nil,or_false]at hc;rcases hc with rfl|rfl|rfl|rfl|rfl|rfl|rfl|rfl
 ·rfl
 ·rfl
 ·exact kX w
 ·exact kX w
 ·show(cX w).isSome=(number w).isSome
  rw[Cs]
 ·show(aH w).isSome=(match number w with|some n=>decide (0<=n)|none=>false)
  rw[hd];cases number w with
  |none=>rfl
  |some n=>show(if 0<=n then some n else none).isSome=decide (0<=n);split<;>simp[*]
 ·show(match aH w with|some n=>decide (n<50)|none=>false)=(match number w with|some n=>decide (0<=n)&&decide (n<50)|none=>false)
  rw[hd];cases number w with
  |none=>rfl
  |some n=>
   simp only;by_cases h0:0<=n
   ·rw[jb h0];simp[h0]
   ·rw[ja h0];simp[h0]
 ·exact(Jb w).symm
def cq (op:Nat):B:=(eR.getD op ([],[])).1
theorem kU {w:B}{op:Nat}(h:ew w=some op):op<23/\w=cq op:=by
 have hl:=mH h;refine⟨hl,?_⟩;have:=(zh _ _ _ _ h).2.2;rw[<-this,cq];have RN:op<eR.length:=hl;simp[List.getD_eq_getElem?_getD,RN]
def dW (op:Nat):B:=if op=15 then [100]else(ah op).map letter
theorem tH {w:B}{op:Nat}(h:ew w=some op)(h2:2<=op)(raw:Bool):behind w raw=(dW op,iq raw op):=by
 obtain⟨hl,rfl⟩:=kU h;have:∀(op:Fin 23) (raw:Bool),2<=op.val->behind (cq op.val) raw=(dW op.val,iq raw op.val):=by decide
 exact this ⟨op,hl⟩ raw h2
theorem Rj {w:B}{op:Nat}(h:ew w=some op):ends w=decide (18<=op):=by
 obtain⟨hl,rfl⟩:=kU h;have:∀op:Fin 23,ends (cq op.val)=decide (18<=op.val):=by decide
 exact this ⟨op,hl⟩
theorem zB {w:B}{op:Nat}(h:ew w=some op):w=iE↔op=0:=by
 obtain⟨hl,rfl⟩:=kU h;have:∀op:Fin 23,cq op.val=iE↔op.val=0:=by decide
 exact this ⟨op,hl⟩
theorem mj {w:B}{op:Nat}(h:ew w=some op):w=cM↔op=1:=by
 obtain⟨hl,rfl⟩:=kU h;have:∀op:Fin 23,cq op.val=cM↔op.val=1:=by decide
 exact this ⟨op,hl⟩
theorem ID {l:List B}{w:B}{k:Nat}(h:lI l w k=none):∀x∈l,¬w=x:=by
 induction l generalizing k with
 |nil=>intro x hx;cases hx
 |cons s r ih=>
  rw[lI]at h;split at h
  ·cases h
  ·rename_i hs;intro x hx;rcases jP.mp hx with rfl|hx
   ·exact fun e=>hs e.symm
   ·exact ih h x hx
theorem vM {w:B}(h:ew w=none)(raw:Bool):¬w=iE/\¬w=cM/\(behind w raw).2=false:=by
 have hx:=ID h;have hn:∀op:Fin 23,¬w=cq op.val:=by
  intro op;apply hx
  have:∀op:Fin 23,cq op.val∈eR.map (·.1):=by decide
  exact this op
 refine⟨hn 0,hn 1,?_⟩;unfold behind;have h2:¬w=[115,101,116]:=hn 2;have h3:¬w=[97,100,100]:=hn 3;have h4:¬w=[115,117,98]:=hn 4;have h5:¬w=[109,117,108]:=hn 5;have h6:¬w=[100,105,118]:=hn 6;have h7:¬w=[105,110]:=hn 7;have h8:¬w=[111,117,116]:=hn 8;have h9:¬w=[110,101,119]:=hn 9;have Vi:¬w=[108,111,97,100]:=hn 10;have iG:¬w=[115,116,111,114,101]:=hn 11;have bR:¬w=[109,111,118,101]:=hn 12;have C7:¬w=[110,111,110,101]:=hn 13;have AV:¬w=[115,111,109,101]:=hn 14;have lT:¬w=[100,114,111,112]:=hn 15;have h16:¬w=[102,114,101,101]:=hn 16;have h17:¬w=[102,108,97,103]:=hn 17;have kK:¬w=[103,111,116,111]:=hn 18;have S3:¬w=[105,102]:=hn 19;have OC:¬w=[109,97,116,99,104]:=hn 20;have h21:¬w=[116,101,115,116]:=hn 21;have AW:¬w=[101,110,100]:=hn 22;simp only[h2,h3,h4,h5,h6,h7,h8,h9,Vi,iG,bR,C7,AV,lT,h16,h17,kK,S3,OC,h21,AW,or_self,if_false]
theorem tR:∀(f:B) (_:∀c∈f,c∈([105,111,112,109,35,98,102,118]:List UInt8)) (ws:List B),bc f ws=tQ (f.map letter) ws
 |[],_,_=>rfl
 |c::f,hc,ws=>by
  rw[bc,List.map_cons,tQ,EN _ (hc c (jM ..)),tR f (fun x hx=>hc x (jN _ hx))]
theorem qQ {op:Nat}(h:op<23)(h2:2<=op)(ws:List B):bc (ah op) ws=tQ (dW op) ws/\(dW op).length=(ah op).length:=by
 have hk:∀op:Fin 23,2<=op.val->∀c∈ah op.val,c∈([105,111,112,109,35,98,102,118]:List UInt8):=by decide
 by_cases lT:op=15
 ·subst lT;refine⟨?_,rfl⟩;rw[tR _ (hk ⟨15,by decide⟩ (show 2<=15 by decide))];rfl
 ·rw[dW,ja lT];exact⟨tR _ (hk ⟨op,h⟩ h2) ws,by simp⟩
theorem JB (w:B):(fp w).isSome=(w==x7||w==vE||w==oX||w==sa):=by
 unfold fp cN;simp only[lI];by_cases h1:x7=w
 ·subst h1;rfl
 ·rw[ja h1];by_cases h2:vE=w
  ·subst h2;rfl
  ·rw[ja h2];by_cases h3:oX=w
   ·subst h3;rfl
   ·rw[ja h3];by_cases h4:sa=w
    ·subst h4;rfl
    ·rw[ja h4];have e1:¬w=x7:=fun e=>h1 e.symm
     have e2:¬w=vE:=fun e=>h2 e.symm
     have e3:¬w=oX:=fun e=>h3 e.symm
     have e4:¬w=sa:=fun e=>h4 e.symm
     simp[e1,e2,e3,e4]
structure lR (p:RP)(o:eA):Prop where
 locals:o.locals=p.lets.length
 blocks:o.blocks=p.blocks.length
 Pm:o.sec=1↔p.inside p.lines.length=true
 P2:o.sec=0↔p.blocks.length=0
theorem lR.start (raw:Bool):lR (Sq.start raw) ⟨0,0,0⟩:=⟨rfl,rfl,by simp[Sq.start,RP.inside,lJ],by simp[Sq.start]⟩
theorem yu (p:RP)(ws:List B):(p.addLine ws).inside p.lines.length=p.inside p.lines.length:=by
 simp[RP.inside,RP.addLine]
theorem pT (p:RP)(ws:List B):((p.addLine ws).mark p.lines.length).inside (p.lines.length+1)=if word ws 0=cM then true else if ends (word ws 0)then false else p.inside p.lines.length:=by
 rw[RP.inside,RP.eE,RP.addLine];have:((p.lines++[ws]).take (p.lines.length+1)).reverse=ws::p.lines.reverse:=by
  rw[List.take_of_length_le (by simp)];simp
 simp only[this,lJ];rw[RP.inside,List.take_length]
theorem FU (p:RP)(ws:List B):(p.addLine ws).line p.lines.length=ws:=by rw[RP.gZ];simp
theorem Rm {p:RP}{o:eA}(R:lR p o){ws:List B}(h1:1<=ws.length):
  (p.addLine ws).form p.lines.length=(match db ws with|none=>false|some x=>(aD p.raw o x.1).2):=by
 rw[RP.form,FU,yu];have L9:(p.addLine ws).raw=p.raw:=rfl;have XD:(p.addLine ws).lets=p.lets:=rfl;have RE:(p.addLine ws).blocks=p.blocks:=rfl;rw[L9,XD,RE,db];cases ho:ew (word ws 0)with
 |none=>
  obtain⟨n1,n2,n3⟩:=vM ho p.raw;rw[ja n1,ja n2,jb (.inl n3)]
 |some op=>
  obtain⟨hl,hw⟩:=kU ho;simp only;have e0:=zB ho;have e1:=mj ho;by_cases h0:op=0
  ·subst h0;rw[jb (e0.mpr rfl)];have UN:ah 0=[100,116]:=rfl;rw[UN];have hf:bc [100,116] (ws.drop 1)=(isName (word ws 1)&&(word ws 2==x7||word ws 2==vE||word ws 2==oX||word ws 2==sa)):=by
    simp only[bc,Bool.and_true];have a1:word (List.drop 1 ws) 0=word ws 1:=by simp[word]
    have a2:word (List.drop 1 (List.drop 1 ws)) 0=word ws 2:=by simp[word]
    rw[a1,a2,<-JB];rfl
   rw[hf];have ha:(aD p.raw o 0).2=(o.sec==0&&decide (o.locals+1<=12)):=rfl;have pN:(o.sec==0)=decide (p.blocks.length=0):=by rw[jX];simp only[beq_iff_eq,decide_eq_true_eq];exact R.P2
   by_cases h3:ws.length=3
   ·by_cases hb:0<p.blocks.length\/12<=p.lets.length
    ·rw[jb (.inr hb)];split
     ·rfl
     ·rename_i x hx;split at hx
      ·cases hx
       rw[ha,pN,R.locals]
       symm
       rw[Bool.and_eq_false_iff];rcases hb with hb|hb
       ·left;simp only[decide_eq_false_iff_not];omega
       ·right;simp only[decide_eq_false_iff_not];omega
      ·cases hx
    ·rw[ja (by rw[not_or];exact⟨by simp[h3],hb⟩)];cases hc:(isName (word ws 1)&&(word ws 2==x7||word ws 2==vE||word ws 2==oX||word ws 2==sa))
     ·rw[ja (by simp)]
     ·rw[jb ⟨by simp[h3],rfl⟩];simp only;rw[ha,pN,R.locals]
      symm
      simp only[Bool.and_eq_true,decide_eq_true_eq];omega
   ·rw[jb (.inl h3),ja (by simp;omega)]
  ·rw[ja (fun e=>h0 (e0.mp e))];by_cases B6:op=1
   ·subst B6;rw[jb (e1.mpr rfl)];have UN:ah 1=[]:=rfl;rw[UN];have ha:(aD p.raw o 1).2=(decide (0<o.locals)&& !(o.sec==1)&&decide (o.blocks+1<=if p.raw then 2000 else 20)):=rfl;have pN:(o.sec==1)=p.inside p.lines.length:=by rw[jX];simp only[beq_iff_eq];exact R.Pm
    by_cases AI:ws.length=1
    ·have zc:ws.length-1=([]:B).length/\bc [] (ws.drop 1)=true:=⟨by simp[AI],rfl⟩;rw[jb zc];show _=(aD p.raw o 1).2
     rw[ha,pN,R.locals,R.blocks];have:decide (p.blocks.length+1<=if p.raw=true then 2000 else 20)=decide (p.blocks.length<if p.raw=true then 2000 else 20):=rfl;rw[this];simp[AI];cases p.inside p.lines.length<;>simp
    ·have zc:¬(ws.length-1=([]:B).length/\bc [] (ws.drop 1)=true):=fun e=>AI (by have:=e.1;simp at this;omega)
     rw[ja zc];simp[AI]
   ·rw[ja (fun e=>B6 (e1.mp e)),tH ho (by omega)];obtain⟨hf,lf⟩:=qQ hl (by omega) (ws.drop 1);simp only;have ha:(aD p.raw o op).2=(iq p.raw op&&p.inside p.lines.length):=by
     rw[aD];cases hh:iq p.raw op
     ·rw[jb rfl];rfl
     ·rw[ja (by simp),ja h0,ja B6];cases lu:p.inside p.lines.length
      ·have:¬o.sec=1:=fun e=>by rw[R.Pm.mp e]at lu;cases lu
       rw[jb this];rfl
      ·have:o.sec=1:=R.Pm.mpr lu;rw[ja (by simp[this])];split<;>rfl
    by_cases hx:iq p.raw op=false\/p.inside p.lines.length=false\/ws.length≠(dW op).length+1
    ·rw[jb hx];split
     ·rfl
     ·rename_i x VT;split at VT
      ·rename_i hy;cases VT
       rw[ha];rcases hx with hx|hx|hx
       ·rw[hx];rfl
       ·rw[hx,Bool.and_false]
       ·exact absurd (by rw[lf];omega) hx
      ·cases VT
    ·rw[ja hx];simp only[not_or,Bool.not_eq_false,Decidable.not_not,ne_eq]at hx;rw[<-hf];cases hc:bc (ah op) (ws.drop 1)
     ·rw[ja (by simp)]
     ·rw[jb ⟨by rw[<-lf];omega,rfl⟩];simp only;rw[ha,hx.1,hx.2.1];rfl
theorem lR.next {p:RP}{o:eA}(R:lR p o){ws:List B}{x:Nat×List B}(hs:db ws=some x)(ha:(aD p.raw o x.1).2=true):
  lR ((p.addLine ws).mark p.lines.length) (aD p.raw o x.1).1:=by
 rw[db]at hs;cases ho:ew (word ws 0)with
 |none=>rw[ho]at hs;cases hs
 |some op=>
  rw[ho]at hs;simp only at hs;split at hs
  ·cases hs
   simp only at ha⊢;have e0:=zB ho;have e1:=mj ho;have hi:=pT p ws;have hlen:((p.addLine ws).mark p.lines.length).lines.length=p.lines.length+1:=by rw[RP.eE];simp[RP.addLine]
   have iP:=FU p ws;rw[aD]at ha⊢;cases hh:iq p.raw op
   ·rw[hh,jb rfl]at ha;cases ha
   ·rw[hh,ja (by simp)]at ha;rw[ja (by simp)];by_cases h0:op=0
    ·have hw:=e0.mpr h0;rw[jb h0]at ha⊢;simp only[Bool.and_eq_true,beq_iff_eq,decide_eq_true_eq]at ha;have hm:(p.addLine ws).mark p.lines.length=(p.addLine ws).pd p.lines.length:=by rw[RP.mark,iP,jb hw]
     refine⟨?_,?_,?_,?_⟩
     ·rw[hm];simp[RP.pd,RP.addLine,R.locals]
     ·rw[hm];exact R.blocks
     ·rw[hlen,hi,ja (by rw[hw];decide),ja (by rw[hw];decide)];exact R.Pm
     ·rw[hm];exact R.P2
    ·rw[ja h0]at ha⊢;have o8:¬word ws 0=iE:=fun e=>h0 (e0.mp e)
     by_cases h1:op=1
     ·have hw:=e1.mpr h1;rw[jb h1]at ha⊢;have hm:(p.addLine ws).mark p.lines.length=(p.addLine ws).addBlock p.lines.length:=by rw[RP.mark,iP,ja o8,jb hw]
      refine⟨?_,?_,?_,?_⟩
      ·rw[hm];exact R.locals
      ·rw[hm];simp[RP.addBlock,RP.addLine,R.blocks]
      ·rw[hlen,hi,jb hw];simp
      ·rw[hm];simp[RP.addBlock,RP.addLine]
     ·rw[ja h1]at ha⊢;have Ke:¬word ws 0=cM:=fun e=>h1 (e1.mp e)
      have hm:(p.addLine ws).mark p.lines.length=p.addLine ws:=by rw[RP.mark,iP,ja o8,ja Ke]
      have WT:=Rj ho;have lo:¬p.blocks.length=0:=by
       by_cases pN:o.sec=1
       ·intro e;have:=R.P2.mpr e;omega
       ·rw[jb pN]at ha;cases ha
      by_cases pN:o.sec=1
      ·rw[ja (by simp[pN])];by_cases kK:18<=op
       ·rw[jb kK];refine⟨by rw[hm];exact R.locals,by rw[hm];exact R.blocks,?_,?_⟩
        ·rw[hlen,hi,ja Ke,WT,jb (by simp[kK])];simp
        ·rw[hm];simp only;constructor
         ·intro e;cases e
         ·intro e;exact absurd e lo
       ·rw[ja kK];refine⟨by rw[hm];exact R.locals,by rw[hm];exact R.blocks,?_,by rw[hm];exact R.P2⟩;rw[hlen,hi,ja Ke,WT,ja (by simp[kK])];exact R.Pm
      ·rw[jb pN]at ha;cases ha
  ·cases hs
end Sq
namespace Sq
open Go
theorem RP.lM {p:RP}{c:UInt8}{w:B}(h:p.I6 c w=true)(hc:c∈[(105:UInt8),112,109,111,100]):0<=p.find (bh w):=by
 rw[RP.I6,jb]at h
 ·simpa using h
 ·simp only[List.mem_cons,List.not_mem_nil,or_false]at hc;rcases hc with h|h|h|h|h<;>simp[h]
theorem RP.PU {p:RP}{i:Nat}(h:p.names i=true)(hl:¬word (p.line i) 0=iE):p.iw (behind (word (p.line i) 0) p.raw).1 ((p.line i).drop 1)=true:=by
 rwa [RP.names,ja hl]at h
theorem oo (f:Nat->Bool):∀(m k:Nat),dY f m k=none->∀j,k<=j->j<k+m->f j=true:=by
 intro m;induction m with
 |zero=>intro k _ j h1 h2;omega
 |succ m ih=>
  intro k h j h1 h2;rw[dY]at h;by_cases hf:f k=true
  ·rw[jb hf]at h;by_cases hj:j=k
   ·rw[hj];exact hf
   ·exact ih (k+1) h j (by omega) (by omega)
  ·rw[ja hf]at h;cases h
end Sq
namespace Sq
open Go
def isType (t:B):Bool:=t==x7||t==vE||t==oX||t==sa
def mE (raw:Bool)(ws:List B):Bool:=
 if word ws 0=iE then decide (ws.length=3)&&isName (word ws 1)&&isType (word ws 2)
 else if word ws 0=cM then decide (ws.length=1)
 else(behind (word ws 0) raw).2&&decide (ws.length=(behind (word ws 0) raw).1.length+1)&&tQ (behind (word ws 0) raw).1 (ws.drop 1)
def isLet (ws:List B):Bool:=word ws 0==iE
def bV (ws:List B):Bool:=word ws 0==cM
def RP.dC (p:RP)(f:List B->Bool):List Nat:=(List.range p.lines.length).filter fun j=>f (p.line j)
structure sh (p:RP):Prop where
 form:∀j,j<p.lines.length->mE p.raw (p.line j)=true
 Pm:∀j,j<p.lines.length->isLet (p.line j)=true\/p.inside j= !bV (p.line j)
 lets:p.lets=p.dC isLet
 blocks:p.blocks=p.dC bV
 first:∀j,j<p.lines.length->isLet (p.line j)=true->∀b∈p.blocks,j<b
 k8:p.lets.length<=12
 ME:p.blocks.length<=if p.raw then 2000 else 20
theorem RP.kP (p:RP)(ws:List B)(j:Nat)(h:j<=p.lines.length):(p.addLine ws).inside j=p.inside j:=by
 unfold RP.inside RP.addLine;simp only;rw[List.take_append_of_le_length h]
theorem RP.pT (p:RP)(i j:Nat):(p.mark i).inside j=p.inside j:=by
 unfold RP.inside;rw[p.eE]
theorem RP.FE {p:RP}{i:Nat}(h:p.form i=true):mE p.raw (p.line i)=true:=by
 unfold RP.form at h;unfold mE;by_cases hl:word (p.line i) 0=iE
 ·rw[jb hl]at h⊢;by_cases hx:(p.line i).length≠3\/0<p.blocks.length\/12<=p.lets.length
  ·rw[jb hx]at h;cases h
  ·rw[ja hx]at h;simp only[not_or,ne_eq,Decidable.not_not]at hx;simp only[hx.1,decide_true,Bool.true_and,isType];exact h
 ·rw[ja hl]at h⊢;by_cases hb:word (p.line i) 0=cM
  ·rw[jb hb]at h⊢;simp only[Bool.and_eq_true]at h;exact h.1.1.1
  ·rw[ja hb]at h⊢;by_cases hx:(behind (word (p.line i) 0) p.raw).2=false\/p.inside i=false\/(p.line i).length≠(behind (word (p.line i) 0) p.raw).1.length+1
   ·rw[jb hx]at h;cases h
   ·rw[ja hx]at h;simp only[not_or,ne_eq,Decidable.not_not,Bool.not_eq_false]at hx;rw[hx.1,h];simp[hx.2.2]
theorem mW (p:RP)(ws:List B)(f:List B->Bool):(p.addLine ws).dC f=p.dC f++if f ws then [p.lines.length]else []:=by
 have hl:(p.addLine ws).lines.length=p.lines.length+1:=by simp[RP.addLine]
 unfold RP.dC;rw[hl,List.range_succ,List.filter_append];congr 1
 ·refine List.filter_congr fun j hj=> ?_
  rw[p.gZ,jb (by simpa using hj)]
 ·have:(p.addLine ws).line p.lines.length=ws:=by rw[p.gZ,ja (by omega),jb rfl]
  cases hf:f ws<;>simp[this,hf]
theorem ra (p:RP)(i:Nat)(f:List B->Bool):(p.mark i).dC f=p.dC f:=by
 unfold RP.dC;rw[p.eE];refine List.filter_congr fun j _=> ?_
 rw[p.qw]
theorem sh.start (raw:Bool):sh (Sq.start raw):=
 ⟨fun j hj=>by simp[Sq.start]at hj,fun j hj=>by simp[Sq.start]at hj,rfl,rfl,fun j hj=>by simp[Sq.start]at hj,by simp[Sq.start],by simp[Sq.start]⟩
theorem gj {p:RP}{f:List B->Bool}{b:Nat}(h:b∈p.dC f):b<p.lines.length/\f (p.line b)=true:=by
 unfold RP.dC at h;simpa using h
theorem sh.add {p:RP}(h:sh p)(ws:List B)(hf:(p.addLine ws).form p.lines.length=true):sh ((p.addLine ws).mark p.lines.length):=by
 have hl:(p.addLine ws).lines.length=p.lines.length+1:=by simp[RP.addLine]
 have hn:(p.addLine ws).line p.lines.length=ws:=by rw[p.gZ,ja (by omega),jb rfl]
 have ho:∀j,j<p.lines.length->(p.addLine ws).line j=p.line j:=fun j hj=>by rw[p.gZ,jb hj]
 have L9:(p.addLine ws).raw=p.raw:=rfl;have hF:=RP.FE hf;have QQ:=hf;unfold RP.form at hf;rw[hn]at hf hF;rw[p.kP ws _ (jC _)]at hf;have eLets:((p.addLine ws).mark p.lines.length).lets=p.lets++if isLet ws then [p.lines.length]else []:=by
  unfold RP.mark RP.pd RP.addBlock isLet;rw[hn];by_cases h1:word ws 0=iE
  ·simp[h1,RP.addLine]
  ·rw[ja h1];by_cases h2:word ws 0=cM<;>simp[h1,h2,RP.addLine];decide
 have eBlocks:((p.addLine ws).mark p.lines.length).blocks=p.blocks++if bV ws then [p.lines.length]else []:=by
  unfold RP.mark RP.pd RP.addBlock bV;rw[hn];by_cases h1:word ws 0=iE
  ·simp[h1,RP.addLine];decide
  ·rw[ja h1];by_cases h2:word ws 0=cM<;>simp[h2,RP.addLine]
 refine⟨fun j hj=> ?_,fun j hj=> ?_,?_,?_,fun j hj xW b hb=> ?_,?_,?_⟩
 ·rw[RP.eE,hl]at hj;rw[RP.qw,RP.sP,L9];by_cases hx:j<p.lines.length
  ·rw[ho j hx];exact h.form j hx
  ·obtain rfl:j=p.lines.length:=by omega
   rw[hn];exact hF
 ·rw[RP.eE,hl]at hj;rw[RP.qw,RP.pT];by_cases hx:j<p.lines.length
  ·rw[ho j hx,p.kP ws j (by omega)];exact h.Pm j hx
  ·obtain rfl:j=p.lines.length:=by omega
   rw[hn,p.kP ws _ (jC _)];by_cases h1:word ws 0=iE
   ·exact .inl (by simp[isLet,h1])
   ·refine .inr ?_;rw[ja h1]at hf;by_cases h2:word ws 0=cM
    ·rw[jb h2]at hf;simp only[Bool.and_eq_true,Bool.not_eq_true']at hf;rw[hf.1.1.2];simp[bV,h2]
    ·rw[ja h2]at hf;cases hi:p.inside p.lines.length
     ·rw[jb (.inr (.inl hi))]at hf;cases hf
     ·simp[bV,h2]
 ·rw[eLets,ra,mW,<-h.lets]
 ·rw[eBlocks,ra,mW,<-h.blocks]
 ·rw[RP.eE,hl]at hj;rw[RP.qw]at xW;rw[eBlocks,List.mem_append]at hb;by_cases hx:j<p.lines.length
  ·rw[ho j hx]at xW;rcases hb with hb|hb
   ·exact h.first j hx xW b hb
   ·split at hb
    ·rw[jI]at hb;omega
    ·simp at hb
  ·obtain rfl:j=p.lines.length:=by omega
   rw[hn]at xW;have h1:word ws 0=iE:=by simpa [isLet]using xW
   rw[jb h1]at hf;have hx:¬(0<p.blocks.length):=by
    intro hc;rw[jb (.inr (.inl hc))]at hf;cases hf
   rcases hb with hb|hb
   ·have:=List.length_pos_of_mem hb;omega
   ·have:bV ws=false:=by simp[bV,h1];decide
    simp[this]at hb
 ·rw[eLets];cases hw:isLet ws
  ·simpa using h.k8
  ·have h1:word ws 0=iE:=by simpa [isLet]using hw
   rw[jb h1]at hf;have hx:¬(12<=p.lets.length):=by
    intro hc;rw[jb (.inr (.inr hc))]at hf;cases hf
   simp;omega
 ·rw[eBlocks,RP.sP,L9];cases hw:bV ws
  ·simpa using h.ME
  ·have h2:word ws 0=cM:=by simpa [bV]using hw
   have h1:¬word ws 0=iE:=by rw[h2];decide
   rw[ja h1,jb h2]at hf;simp only[Bool.and_eq_true,decide_eq_true_eq]at hf;have:=hf.2;simp only[L9]at this;have e:(p.addLine ws).blocks=p.blocks:=rfl;rw[e]at this;simp;omega
theorem sh.read:∀(ls:List (List B)) (p q:RP),sh p->jt ls p p.lines.length=(q,none)->sh q/\q.raw=p.raw/\q.lines=p.lines++ls
 |[],p,q,h,hr=>by
  rw[jt]at hr;obtain rfl:p=q:=(Prod.mk.inj hr).1;exact⟨h,rfl,by simp⟩
 |ws::r,p,q,h,hr=>by
  rw[jt]at hr;by_cases hf:(p.addLine ws).form p.lines.length=true
  ·rw[jb hf]at hr;have hl:((p.addLine ws).mark p.lines.length).lines.length=p.lines.length+1:=by rw[RP.eE];simp[RP.addLine]
   rw[<-hl]at hr;obtain⟨h1,h2,h3⟩:=sh.read r _ q (h.add ws hf) hr;refine⟨h1,?_,?_⟩
   ·rw[h2,RP.sP];rfl
   ·rw[h3,RP.eE];simp[RP.addLine]
  ·rw[ja hf]at hr;cases hr
structure re (text:B)(raw:Bool)(p:RP):Prop where
 pre:sh p
 raw:p.raw=raw
 lines:p.lines=br text
 shut:p.inside p.lines.length=false
 nonempty:p.blocks≠[]
 names:∀j,j<p.lines.length->p.names j=true
 types:∀j,j<p.lines.length->p.kj j=true
theorem AT (f:Nat->Bool)(m k:Nat)(h:dY f m k=none):∀j,k<=j->j<k+m->f j=true:=oo f m k h
theorem oJ {text:B}{raw:Bool}{p:RP}{c k:Nat}(h:bY text raw=(some p,c,k)):re text raw p/\c=0/\k=0/\(split 10 text).length<=4000/\(raw=false->(split 10 text).length<=120):=by
 unfold bY at h;split at h
 ·cases h
 ·rename_i hlen;split at h
  ·cases h
  ·rename_i q hq;have hp:=sh.read (br text) (Sq.start raw) q (sh.start raw) hq;have hn:q.lines.length=(split 10 text).length:=by rw[hp.2.2,<-ld];simp[Sq.start]
   split at h
   ·cases h
   ·rename_i hs;split at h
    ·cases h
    ·rename_i kp;split at h
     ·cases h
     ·rename_i D5;simp only[Prod.mk.injEq,Option.some.injEq]at h;obtain⟨rfl,rfl,rfl⟩:=h;simp only[not_or,Bool.not_eq_true]at hs;refine⟨⟨hp.1,hp.2.1,by rw[hp.2.2];rfl,by rw[hn];exact hs.1,fun e=>hs.2 (by rw[e];rfl),fun j hj=> ?_,fun j hj=> ?_⟩,rfl,rfl,by omega,fun hr=> ?_⟩
      ·exact oo _ _ _ kp j (by omega) (by omega)
      ·exact oo _ _ _ D5 j (by omega) (by omega)
      ·simp only[not_or,not_and]at hlen;have:=hlen.2 hr;omega
end Sq
namespace Sq
open Go
structure ab where
 num:Nat
 op:Nat
 places:List (Nat×Nat)
 number:Int
 flag:Int
 next:List Nat
structure QP where
 locals:List (B×Nat)
 blocks:List (List ab)
def QP.empty:QP:=⟨[],[]⟩
def bz:List (B×Nat)->B->Nat->Int
 |[],_,_=> -1
 |x::r,n,k=>if x.1=n then k else bz r n (k+1)
def di (ls:List (B×Nat))(n:B):Int:=bz ls n 0
def bQ (ls:List (B×Nat))(nb:Nat):B->List B->ab->Option ab
 |[],_,l=>some l
 |c::f,ws,l=>
  if c=35\/c=118 then bQ ls nb f (ws.drop 1) {l with number:=(cX (word ws 0)).getD 0}
  else if c=102 then bQ ls nb f (ws.drop 1) {l with flag:=(aH (word ws 0)).getD 0}
  else if c=98 then
   (if((aH (word ws 0)).getD 0)≥nb then none else bQ ls nb f (ws.drop 1) {l with next:=l.next++[((aH (word ws 0)).getD 0).toNat]})
  else
   (if di ls ((bL (word ws 0)).getD ([],0)).1<0 then none
    else bQ ls nb f (ws.drop 1) {l with places:=l.places++[((di ls ((bL (word ws 0)).getD ([],0)).1).toNat,((bL (word ws 0)).getD ([],0)).2)]})
def dw (ls:List (B×Nat))(nb:Nat)(x:Nat×List B):Option ab:=bQ ls nb (ah x.1) x.2 ⟨0,x.1,[],0,0,[]⟩
def QP.addLocal (q:QP)(x:B×Nat):QP:={q with locals:=q.locals++[x]}
def QP.addBlock (q:QP):QP:={q with blocks:=q.blocks++[[]]}
def QP.addLine (q:QP)(l:ab):QP:={q with blocks:=q.blocks.dropLast++[q.blocks.getLastD []++[l]]}
def aR (nb:Nat):List (Nat×List B)->Nat->QP->QP×Option Nat
 |[],_,q=>(q,none)
 |x::r,i,q=>
  if x.1=0 then
   (if di q.locals (word x.2 0)≥0 then(q,some i)else aR nb r (i+1) (q.addLocal (word x.2 0,(fp (word x.2 1)).getD 0)))
  else if x.1=1 then aR nb r (i+1) q.addBlock
  else match dw q.locals nb x with
   |none=>(q,some i)
   |some l=>aR nb r (i+1) (q.addLine {l with num:=i})
def countB (l:List (Nat×List B)):Nat:=(l.filter fun x=>x.1==1).length
def QP.bN (q:QP)(n:Nat):Nat:=(q.locals.getD n ([],0)).2
def QP.kind (q:QP)(x:Nat×Nat):Option Nat:=
 if x.2=1\/x.2=2 then(if q.bN x.1=2 then some 1 else none)
 else if x.2=3 then(if q.bN x.1=3 then some 1 else none)else some (q.bN x.1)
def gi (t:Nat)(c:UInt8):Bool:=if c=105 then t==0 else if c=111 then t==3 else if c=112 then t==1 else !(t==0)
def QP.aB (q:QP)(x:Nat×Nat)(c:UInt8):Bool:=match q.kind x with|none=>false|some t=>gi t c
def QP.dN (q:QP)(f:B):List (Nat×Nat)->Nat->Bool
 |[],_=>true
 |x::r,k=>q.aB x (f.getD k 0)&&QP.dN q f r (k+1)
def QP.aJ (q:QP)(x:Nat×Nat):Nat:=if x.2=1\/x.2=2\/x.2=3 then 1 else q.bN x.1
def QP.fits (q:QP)(l:ab):Bool:=q.dN (ah l.op) l.places 0&&(!(l.op==12)||q.aJ (l.places.getD 0 (0,0))==q.aJ (l.places.getD 1 (0,0)))
def QP.misfit (q:QP):Option Nat:=((q.blocks.flatten).find? fun l=> !q.fits l).map (·.num)
theorem rp (ls:List (B×Nat))(n:B)(k:Nat): -1<=bz ls n k/\bz ls n k<(k+ls.length:Nat):=by
 induction ls generalizing k with
 |nil=>simp[bz];omega
 |cons x r ih=>
  rw[bz];split
  ·simp;omega
  ·have:=ih (k+1);simp at this⊢;omega
def kW (c:UInt8):Nat:=if c=97 then 1 else if c=98 then 2 else if c=115 then 3 else 0
theorem q7 {w:B}(h:dy w=true):bL w=some (bh w,kW (partOf w)):=by
 have h':=h;rw[<-kX]at h';rw[bL]at h'⊢;cases hc:(cf w).2 with
 |none=>
  obtain⟨h1,h2⟩:=lE hc;have hd:=tN h2;simp only;rw[h1,bh,partOf,hd];rfl
 |some t=>
  rw[hc]at h';obtain⟨h1,h2⟩:=lF hc;simp only at h'⊢;generalize (cf w).1=a at h1 h2 h'⊢;have key:∀x:UInt8,t=[x]->1<=a.length->bh w=a/\partOf w=x:=by
   intro x ht Vu;subst ht;have hlen:w.length=a.length+2:=by rw[h1];simp
   have hx:w[w.length-2]?=some 46:=by rw[hlen,h1];simp
   have hd:ia w=true:=by rw[ia,hx];simp;omega
   exact⟨by rw[bh,jb hd,h1];simp,by rw[partOf,jb hd,h1];simp⟩
  have hlen:isName a=true->1<=a.length:=fun e=>by
   simp only[isName,Bool.and_eq_true,decide_eq_true_eq]at e;exact e.1.2
  by_cases h97:t=[97]
  ·rw[jb h97]at h'⊢;obtain⟨k1,k2⟩:=key 97 h97 (hlen h');rw[k1,k2];rfl
  ·rw[ja h97]at h'⊢;by_cases tA:t=[98]
   ·rw[jb tA]at h'⊢;obtain⟨k1,k2⟩:=key 98 tA (hlen h');rw[k1,k2];rfl
   ·rw[ja tA]at h'⊢;by_cases h115:t=[115]
    ·rw[jb h115]at h'⊢;obtain⟨k1,k2⟩:=key 115 h115 (hlen h');rw[k1,k2];rfl
    ·rw[ja h115]at h';cases h'
theorem kf {w:B}(h:isName w=true):dy w=true/\bh w=w/\partOf w=0:=by
 have hd:ia w=false:=tN (fun e=>by rw[fc e]at h;cases h);have hl:bh w=w:=by rw[bh,hd];rfl
 exact⟨by simp[dy,hl,h],hl,by rw[partOf,hd];rfl⟩
theorem P4 {w:B}(h:dy w=true):partOf w=0\/partOf w=97\/partOf w=98\/partOf w=115:=by
 by_cases hd:ia w=true
 ·rw[dy,jH]at h;have h2:=h.2;simp only[Bool.or_eq_true,decide_eq_true_eq,beq_iff_eq]at h2;rcases h2 with((h2|h2)|h2)|h2
  ·exfalso;rw[bh,jb hd]at h2;have:=congrArg List.length h2;simp only[ia,Bool.and_eq_true,decide_eq_true_eq]at hd;simp at this;omega
  ·exact .inr (.inl h2)
  ·exact .inr (.inr (.inl h2))
  ·exact .inr (.inr (.inr h2))
 ·left;rw[partOf,ja hd]
end Sq
end Go.Proofs.YtmlgajhhnojdjaaGreatDoor

import Derived.Test.YtmlgajhhnojdjaaGreatDoorVAB
namespace Go.Proofs.YtmlgajhhnojdjaaGreatDoor
namespace Sq
open Go
def isType (t:B):Bool:=t==rQ||t==qD||t==lk||t==oX
def ka (raw:Bool)(ws:List B):Bool:=
 if word ws 0=eD then decide (ws.length=3)&&isName (word ws 1)&&isType (word ws 2)
 else if word ws 0=bX then decide (ws.length=1)
 else(behind (word ws 0) raw).2&&decide (ws.length=(behind (word ws 0) raw).1.length+1)&&qd (behind (word ws 0) raw).1 (ws.drop 1)
def isLet (ws:List B):Bool:=word ws 0==eD
def bm (ws:List B):Bool:=word ws 0==bX
def RP.cG (p:RP)(f:List B->Bool):List Nat:=(List.range p.lines.length).filter fun j=>f (p.line j)
structure o8 (p:RP):Prop where
 form:∀j,j<p.lines.length->ka p.raw (p.line j)=true
 Ir:∀j,j<p.lines.length->isLet (p.line j)=true\/p.inside j= !bm (p.line j)
 lets:p.lets=p.cG isLet
 blocks:p.blocks=p.cG bm
 first:∀j,j<p.lines.length->isLet (p.line j)=true->∀b∈p.blocks,j<b
 oW:p.lets.length<=12
 FD:p.blocks.length<=if p.raw then 2000 else 20
theorem RP.gZ (p:RP)(ws:List B)(j:Nat)(h:j<=p.lines.length):(p.addLine ws).inside j=p.inside j:=by
 unfold RP.inside RP.addLine;simp only;rw[List.take_append_of_le_length h]
theorem RP.l6 (p:RP)(i j:Nat):(p.mark i).inside j=p.inside j:=by
 unfold RP.inside;rw[p.dm]
theorem RP.AL {p:RP}{i:Nat}(h:p.form i=true):ka p.raw (p.line i)=true:=by
 unfold RP.form at h;unfold ka;by_cases hl:word (p.line i) 0=eD
 ·rw[jb hl]at h⊢;by_cases hx:(p.line i).length≠3\/0<p.blocks.length\/12<=p.lets.length
  ·rw[jb hx]at h;cases h
  ·rw[ja hx]at h;simp only[not_or,ne_eq,Decidable.not_not]at hx;simp only[hx.1,decide_true,Bool.true_and,isType];exact h
 ·rw[ja hl]at h⊢;by_cases hb:word (p.line i) 0=bX
  ·rw[jb hb]at h⊢;simp only[Bool.and_eq_true]at h;exact h.1.1.1
  ·rw[ja hb]at h⊢;by_cases hx:(behind (word (p.line i) 0) p.raw).2=false\/p.inside i=false\/(p.line i).length≠(behind (word (p.line i) 0) p.raw).1.length+1
   ·rw[jb hx]at h;cases h
   ·rw[ja hx]at h;simp only[not_or,ne_eq,Decidable.not_not,Bool.not_eq_false]at hx;rw[hx.1,h];simp[hx.2.2]
theorem kj (p:RP)(ws:List B)(f:List B->Bool):(p.addLine ws).cG f=p.cG f++if f ws then [p.lines.length]else []:=by
 have hl:(p.addLine ws).lines.length=p.lines.length+1:=by simp[RP.addLine]
 unfold RP.cG;rw[hl,List.range_succ,List.filter_append];congr 1
 ·refine List.filter_congr fun j hj=> ?_
  rw[p.fh,jb (by simpa using hj)]
 ·have:(p.addLine ws).line p.lines.length=ws:=by rw[p.fh,ja (by omega),jb rfl]
  cases hf:f ws<;>simp[this,hf]
theorem oj (p:RP)(i:Nat)(f:List B->Bool):(p.mark i).cG f=p.cG f:=by
 unfold RP.cG;rw[p.dm];refine List.filter_congr fun j _=> ?_
 rw[p.mF]
theorem o8.start (raw:Bool):o8 (Sq.start raw):=
 ⟨fun j hj=>by simp[Sq.start]at hj,fun j hj=>by simp[Sq.start]at hj,rfl,rfl,fun j hj=>by simp[Sq.start]at hj,by simp[Sq.start],by simp[Sq.start]⟩
theorem eA {p:RP}{f:List B->Bool}{b:Nat}(h:b∈p.cG f):b<p.lines.length/\f (p.line b)=true:=by
 unfold RP.cG at h;simpa using h
theorem o8.add {p:RP}(h:o8 p)(ws:List B)(hf:(p.addLine ws).form p.lines.length=true):o8 ((p.addLine ws).mark p.lines.length):=by
 have hl:(p.addLine ws).lines.length=p.lines.length+1:=by simp[RP.addLine]
 have hn:(p.addLine ws).line p.lines.length=ws:=by rw[p.fh,ja (by omega),jb rfl]
 have ho:∀j,j<p.lines.length->(p.addLine ws).line j=p.line j:=fun j hj=>by rw[p.fh,jb hj]
 have E8:(p.addLine ws).raw=p.raw:=rfl;have hF:=RP.AL hf;have Pq:=hf;unfold RP.form at hf;rw[hn]at hf hF;rw[p.gZ ws _ (jC _)]at hf;have eLets:((p.addLine ws).mark p.lines.length).lets=p.lets++if isLet ws then [p.lines.length]else []:=by
  unfold RP.mark RP.lD RP.addBlock isLet;rw[hn];by_cases h1:word ws 0=eD
  ·simp[h1,RP.addLine]
  ·rw[ja h1];by_cases h2:word ws 0=bX<;>simp[h1,h2,RP.addLine];decide
 have eBlocks:((p.addLine ws).mark p.lines.length).blocks=p.blocks++if bm ws then [p.lines.length]else []:=by
  unfold RP.mark RP.lD RP.addBlock bm;rw[hn];by_cases h1:word ws 0=eD
  ·simp[h1,RP.addLine];decide
  ·rw[ja h1];by_cases h2:word ws 0=bX<;>simp[h2,RP.addLine]
 refine⟨fun j hj=> ?_,fun j hj=> ?_,?_,?_,fun j hj rI b hb=> ?_,?_,?_⟩
 ·rw[RP.dm,hl]at hj;rw[RP.mF,RP.pH,E8];by_cases hx:j<p.lines.length
  ·rw[ho j hx];exact h.form j hx
  ·obtain rfl:j=p.lines.length:=by omega
   rw[hn];exact hF
 ·rw[RP.dm,hl]at hj;rw[RP.mF,RP.l6];by_cases hx:j<p.lines.length
  ·rw[ho j hx,p.gZ ws j (by omega)];exact h.Ir j hx
  ·obtain rfl:j=p.lines.length:=by omega
   rw[hn,p.gZ ws _ (jC _)];by_cases h1:word ws 0=eD
   ·exact .inl (by simp[isLet,h1])
   ·refine .inr ?_;rw[ja h1]at hf;by_cases h2:word ws 0=bX
    ·rw[jb h2]at hf;simp only[Bool.and_eq_true,Bool.not_eq_true']at hf;rw[hf.1.1.2];simp[bm,h2]
    ·rw[ja h2]at hf;cases hi:p.inside p.lines.length
     ·rw[jb (.inr (.inl hi))]at hf;cases hf
     ·simp[bm,h2]
 ·rw[eLets,oj,kj,<-h.lets]
 ·rw[eBlocks,oj,kj,<-h.blocks]
 ·rw[RP.dm,hl]at hj;rw[RP.mF]at rI;rw[eBlocks,List.mem_append]at hb;by_cases hx:j<p.lines.length
  ·rw[ho j hx]at rI;rcases hb with hb|hb
   ·exact h.first j hx rI b hb
   ·split at hb
    ·rw[jI]at hb;omega
    ·simp at hb
  ·obtain rfl:j=p.lines.length:=by omega
   rw[hn]at rI;have h1:word ws 0=eD:=by simpa [isLet]using rI
   rw[jb h1]at hf;have hx:¬(0<p.blocks.length):=by
    intro hc;rw[jb (.inr (.inl hc))]at hf;cases hf
   rcases hb with hb|hb
   ·have:=List.length_pos_of_mem hb;omega
   ·have:bm ws=false:=by simp[bm,h1];decide
    simp[this]at hb
 ·rw[eLets];cases hw:isLet ws
  ·simpa using h.oW
  ·have h1:word ws 0=eD:=by simpa [isLet]using hw
   rw[jb h1]at hf;have hx:¬(12<=p.lets.length):=by
    intro hc;rw[jb (.inr (.inr hc))]at hf;cases hf
   simp;omega
 ·rw[eBlocks,RP.pH,E8];cases hw:bm ws
  ·simpa using h.FD
  ·have h2:word ws 0=bX:=by simpa [bm]using hw
   have h1:¬word ws 0=eD:=by rw[h2];decide
   rw[ja h1,jb h2]at hf;simp only[Bool.and_eq_true,decide_eq_true_eq]at hf;have:=hf.2;simp only[E8]at this;have e:(p.addLine ws).blocks=p.blocks:=rfl;rw[e]at this;simp;omega
theorem o8.read:∀(ls:List (List B)) (p q:RP),o8 p->gy ls p p.lines.length=(q,none)->o8 q/\q.raw=p.raw/\q.lines=p.lines++ls
 |[],p,q,h,hr=>by
  rw[gy]at hr;obtain rfl:p=q:=(Prod.mk.inj hr).1;exact⟨h,rfl,by simp⟩
 |ws::r,p,q,h,hr=>by
  rw[gy]at hr;by_cases hf:(p.addLine ws).form p.lines.length=true
  ·rw[jb hf]at hr;have hl:((p.addLine ws).mark p.lines.length).lines.length=p.lines.length+1:=by rw[RP.dm];simp[RP.addLine]
   rw[<-hl]at hr;obtain⟨h1,h2,h3⟩:=o8.read r _ q (h.add ws hf) hr;refine⟨h1,?_,?_⟩
   ·rw[h2,RP.pH];rfl
   ·rw[h3,RP.dm];simp[RP.addLine]
  ·rw[ja hf]at hr;cases hr
structure om (text:B)(raw:Bool)(p:RP):Prop where
 pre:o8 p
 raw:p.raw=raw
 lines:p.lines=ba text
 shut:p.inside p.lines.length=false
 nonempty:p.blocks≠[]
 names:∀j,j<p.lines.length->p.names j=true
 types:∀j,j<p.lines.length->p.gM j=true
theorem vD (f:Nat->Bool)(m k:Nat)(h:de f m k=none):∀j,k<=j->j<k+m->f j=true:=kz f m k h
theorem kO {text:B}{raw:Bool}{p:RP}{c k:Nat}(h:bP text raw=(some p,c,k)):om text raw p/\c=0/\k=0/\(split 10 text).length<=4000/\(raw=false->(split 10 text).length<=120):=by
 unfold bP at h;split at h
 ·cases h
 ·rename_i hlen;split at h
  ·cases h
  ·rename_i q hq;have hp:=o8.read (ba text) (Sq.start raw) q (o8.start raw) hq;have hn:q.lines.length=(split 10 text).length:=by rw[hp.2.2,<-iz];simp[Sq.start]
   split at h
   ·cases h
   ·rename_i hs;split at h
    ·cases h
    ·rename_i vK;split at h
     ·cases h
     ·rename_i GP;simp only[Prod.mk.injEq,Option.some.injEq]at h;obtain⟨rfl,rfl,rfl⟩:=h;simp only[not_or,Bool.not_eq_true]at hs;refine⟨⟨hp.1,hp.2.1,by rw[hp.2.2];rfl,by rw[hn];exact hs.1,fun e=>hs.2 (by rw[e];rfl),fun j hj=> ?_,fun j hj=> ?_⟩,rfl,rfl,by omega,fun hr=> ?_⟩
      ·exact kz _ _ _ vK j (by omega) (by omega)
      ·exact kz _ _ _ GP j (by omega) (by omega)
      ·simp only[not_or,not_and]at hlen;have:=hlen.2 hr;omega
end Sq
namespace Sq
open Go
structure ab where
 num:Nat
 op:Nat
 places:List (Nat×Nat)
 number:Int
 flag:Int
 next:List Nat
structure QP where
 locals:List (B×Nat)
 blocks:List (List ab)
def QP.empty:QP:=⟨[],[]⟩
def bj:List (B×Nat)->B->Nat->Int
 |[],_,_=> -1
 |x::r,n,k=>if x.1=n then k else bj r n (k+1)
def cE (ls:List (B×Nat))(n:B):Int:=bj ls n 0
def bV (ls:List (B×Nat))(nb:Nat):B->List B->ab->Option ab
 |[],_,l=>some l
 |c::f,ws,l=>
  if c=35\/c=118 then bV ls nb f (ws.drop 1) {l with number:=(cI (word ws 0)).getD 0}
  else if c=102 then bV ls nb f (ws.drop 1) {l with flag:=(av (word ws 0)).getD 0}
  else if c=98 then
   (if((av (word ws 0)).getD 0)≥nb then none else bV ls nb f (ws.drop 1) {l with next:=l.next++[((av (word ws 0)).getD 0).toNat]})
  else
   (if cE ls ((bd (word ws 0)).getD ([],0)).1<0 then none
    else bV ls nb f (ws.drop 1) {l with places:=l.places++[((cE ls ((bd (word ws 0)).getD ([],0)).1).toNat,((bd (word ws 0)).getD ([],0)).2)]})
def cU (ls:List (B×Nat))(nb:Nat)(x:Nat×List B):Option ab:=bV ls nb (ae x.1) x.2 ⟨0,x.1,[],0,0,[]⟩
def QP.addLocal (q:QP)(x:B×Nat):QP:={q with locals:=q.locals++[x]}
def QP.addBlock (q:QP):QP:={q with blocks:=q.blocks++[[]]}
def QP.addLine (q:QP)(l:ab):QP:={q with blocks:=q.blocks.dropLast++[q.blocks.getLastD []++[l]]}
def aJ (nb:Nat):List (Nat×List B)->Nat->QP->QP×Option Nat
 |[],_,q=>(q,none)
 |x::r,i,q=>
  if x.1=0 then
   (if cE q.locals (word x.2 0)≥0 then(q,some i)else aJ nb r (i+1) (q.addLocal (word x.2 0,(c7 (word x.2 1)).getD 0)))
  else if x.1=1 then aJ nb r (i+1) q.addBlock
  else match cU q.locals nb x with
   |none=>(q,some i)
   |some l=>aJ nb r (i+1) (q.addLine {l with num:=i})
def countB (l:List (Nat×List B)):Nat:=(l.filter fun x=>x.1==1).length
def QP.cF (q:QP)(n:Nat):Nat:=(q.locals.getD n ([],0)).2
def QP.kind (q:QP)(x:Nat×Nat):Option Nat:=
 if x.2=1\/x.2=2 then(if q.cF x.1=2 then some 1 else none)
 else if x.2=3 then(if q.cF x.1=3 then some 1 else none)else some (q.cF x.1)
def ez (t:Nat)(c:UInt8):Bool:=if c=105 then t==0 else if c=111 then t==3 else if c=112 then t==1 else !(t==0)
def QP.aZ (q:QP)(x:Nat×Nat)(c:UInt8):Bool:=match q.kind x with|none=>false|some t=>ez t c
def QP.cQ (q:QP)(f:B):List (Nat×Nat)->Nat->Bool
 |[],_=>true
 |x::r,k=>q.aZ x (f.getD k 0)&&QP.cQ q f r (k+1)
def QP.aT (q:QP)(x:Nat×Nat):Nat:=if x.2=1\/x.2=2\/x.2=3 then 1 else q.cF x.1
def QP.fits (q:QP)(l:ab):Bool:=q.cQ (ae l.op) l.places 0&&(!(l.op==12)||q.aT (l.places.getD 0 (0,0))==q.aT (l.places.getD 1 (0,0)))
def QP.misfit (q:QP):Option Nat:=((q.blocks.flatten).find? fun l=> !q.fits l).map (·.num)
theorem oy (ls:List (B×Nat))(n:B)(k:Nat): -1<=bj ls n k/\bj ls n k<(k+ls.length:Nat):=by
 induction ls generalizing k with
 |nil=>simp[bj];omega
 |cons x r ih=>
  rw[bj];split
  ·simp;omega
  ·have:=ih (k+1);simp at this⊢;omega
def im (c:UInt8):Nat:=if c=97 then 1 else if c=98 then 2 else if c=115 then 3 else 0
theorem og {w:B}(h:cx w=true):bd w=some (aL w,im (partOf w)):=by
 have h':=h;rw[<-iq]at h';rw[bd]at h'⊢;cases hc:(bC w).2 with
 |none=>
  obtain⟨h1,h2⟩:=iK hc;have hd:=qc h2;simp only;rw[h1,aL,partOf,hd];rfl
 |some t=>
  rw[hc]at h';obtain⟨h1,h2⟩:=iL hc;simp only at h'⊢;generalize (bC w).1=a at h1 h2 h'⊢;have key:∀x:UInt8,t=[x]->1<=a.length->aL w=a/\partOf w=x:=by
   intro x ht NA;subst ht;have hlen:w.length=a.length+2:=by rw[h1];simp
   have hx:w[w.length-2]?=some 46:=by rw[hlen,h1];simp
   have hd:fi w=true:=by rw[fi,hx];simp;omega
   exact⟨by rw[aL,jb hd,h1];simp,by rw[partOf,jb hd,h1];simp⟩
  have hlen:isName a=true->1<=a.length:=fun e=>by
   simp only[isName,Bool.and_eq_true,decide_eq_true_eq]at e;exact e.1.2
  by_cases h97:t=[97]
  ·rw[jb h97]at h'⊢;obtain⟨k1,k2⟩:=key 97 h97 (hlen h');rw[k1,k2];rfl
  ·rw[ja h97]at h'⊢;by_cases vj:t=[98]
   ·rw[jb vj]at h'⊢;obtain⟨k1,k2⟩:=key 98 vj (hlen h');rw[k1,k2];rfl
   ·rw[ja vj]at h'⊢;by_cases h115:t=[115]
    ·rw[jb h115]at h'⊢;obtain⟨k1,k2⟩:=key 115 h115 (hlen h');rw[k1,k2];rfl
    ·rw[ja h115]at h';cases h'
theorem gL {w:B}(h:isName w=true):cx w=true/\aL w=w/\partOf w=0:=by
 have hd:fi w=false:=qc (fun e=>by rw[fQ e]at h;cases h);have hl:aL w=w:=by rw[aL,hd];rfl
 exact⟨by simp[cx,hl,h],hl,by rw[partOf,hd];rfl⟩
theorem I4 {w:B}(h:cx w=true):partOf w=0\/partOf w=97\/partOf w=98\/partOf w=115:=by
 by_cases hd:fi w=true
 ·rw[cx,jH]at h;have h2:=h.2;simp only[Bool.or_eq_true,decide_eq_true_eq,beq_iff_eq]at h2;rcases h2 with((h2|h2)|h2)|h2
  ·exfalso;rw[aL,jb hd]at h2;have:=congrArg List.length h2;simp only[fi,Bool.and_eq_true,decide_eq_true_eq]at hd;simp at this;omega
  ·exact .inr (.inl h2)
  ·exact .inr (.inr (.inl h2))
  ·exact .inr (.inr (.inr h2))
 ·left;rw[partOf,ja hd]
end Sq
end Go.Proofs.YtmlgajhhnojdjaaGreatDoor

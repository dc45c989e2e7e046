import Derived.Test.YtmlgajhhnojdjaaGreatDoorVAC
namespace Go.Proofs.YtmlgajhhnojdjaaGreatDoor
namespace Sq
open Go
def ar (raw:Bool):List (List B)->di->Nat->List (Nat×List B)×di×Option Nat
 |[],o,_=>([],o,none)
 |ws::r,o,i=>match bW ws with
  |none=>([],o,some i)
  |some x=>if(aq raw o x.1).2=true then(x::(ar raw r (aq raw o x.1).1 (i+1)).1,(ar raw r (aq raw o x.1).1 (i+1)).2)else([],o,some i)
def RP.du (p:RP)(i:Nat):Nat×List B:=((cz (word (p.line i) 0)).getD 0,(p.line i).drop 1)
theorem kR {ws:List B}{x:Nat×List B}(h:bW ws=some x):x=((cz (word ws 0)).getD 0,ws.drop 1)/\cz (word ws 0)=some x.1:=by
 rw[bW]at h;cases ho:cz (word ws 0)with
 |none=>rw[ho]at h;cases h
 |some op=>
  rw[ho]at h;simp only at h;split at h
  ·cases h;exact⟨rfl,rfl⟩
  ·cases h
theorem lE (raw:Bool)(o:di)(op:Nat)(h:o.sec<=2):(aq raw o op).1.sec<=2:=by
 unfold aq
 repeat (first|(split;(first|exact h|(simp;done)|skip))|exact h|simp)
theorem oU (raw:Bool):∀(ls:List (List B)) (p:RP) (o:di),p.raw=raw->jh p o->o.sec<=2->(∀ws∈ls,1<=ws.length)->
  (∀k,(ar raw ls o p.lines.length).2.2=some k->∃q,gy ls p p.lines.length=(q,some k))/\
  ((ar raw ls o p.lines.length).2.2=none->∃q,gy ls p p.lines.length=(q,none)/\jh q (ar raw ls o p.lines.length).2.1/\(ar raw ls o p.lines.length).2.1.sec<=2/\
   (ar raw ls o p.lines.length).1=ls.map fun ws=>((cz (word ws 0)).getD 0,ws.drop 1))
 |[],p,o,_,R,hs,_=>⟨fun k h=>by simp[ar]at h,fun _=>⟨p,rfl,R,hs,rfl⟩⟩
 |ws::r,p,o,hr,R,hs,hw=>by
  have hf:=Kp R (hw ws (jM ..));rw[ar,gy];cases hx:bW ws with
  |none=>
   rw[hx]at hf;simp only at hf⊢;rw[hf];exact⟨fun k h=>⟨p.addLine ws,by cases h;rfl⟩,fun h=>by cases h⟩
  |some x=>
   rw[hx]at hf;simp only at hf⊢;rw[hr]at hf;rw[hf];by_cases ha:(aq raw o x.1).2=true
   ·rw[jb ha,jb ha];have R':=R.next hx (by rw[hr];exact ha);rw[hr]at R';have hl:((p.addLine ws).mark p.lines.length).lines.length=p.lines.length+1:=by rw[RP.dm];simp[RP.addLine]
    have ih:=oU raw r _ _ (by rw[RP.pH];exact hr) R' (lE raw o x.1 hs) (fun y hy=>hw y (jN _ hy));rw[hl]at ih;refine⟨ih.1,fun h=> ?_⟩;obtain⟨q,h1,h2,h3,h4⟩:=ih.2 h;refine⟨q,h1,h2,h3,?_⟩;simp only[List.map_cons];rw[h4,(kR hx).1]
   ·rw[ja ha,ja ha];exact⟨fun k h=>⟨p.addLine ws,by cases h;rfl⟩,fun h=>by cases h⟩
def RP.AP (p:RP)(j:Nat):B×Nat:=(word (p.line j) 1,(c7 (word (p.line j) 2)).getD 0)
def RP.fO (p:RP):List (B×Nat):=p.lets.map p.AP
def RP.lh (p:RP)(i:Nat):ab:={(cU p.fO p.blocks.length (p.du i)).getD ⟨0,0,[],0,0,[]⟩with num:=i}
def RP.plain (p:RP)(i:Nat):Bool:= !isLet (p.line i)&& !bm (p.line i)
theorem xt (p:RP)(n:B):∀(l:List Nat) (k:Nat),bj (l.map p.AP) n k=p.lI n l k
 |[],k=>rfl
 |t::r,k=>by
  rw[List.map_cons,bj,RP.lI,xt p n r (k+1)];rfl
theorem find_eq (p:RP)(n:B):cE p.fO n=p.find n:=xt p n p.lets 0
theorem pE {p:RP}:∀(f:B) (_:∀c∈f,c∈([105,111,112,109,35,98,102,118]:List UInt8)) (ws:List B) (_:aV f ws=true) (l:ab),
  (bV p.fO p.blocks.length f ws l).isSome=p.fw (f.map letter) ws
 |[],_,_,_,_=>rfl
 |c::f,hc,ws,hf,l=>by
  rw[aV,jH]at hf;have H6:=hc c (jM ..);have TX:∀x∈f,x∈([105,111,112,109,35,98,102,118]:List UInt8):=fun x hx=>hc x (jN _ hx)
  have ih:=fun l=>pE (p:=p) f TX (ws.drop 1) hf.2 l
  have hw:=hf.1;rw[bV,List.map_cons,RP.fw];have place:cx (word ws 0)=true->(if cE p.fO ((bd (word ws 0)).getD ([],0)).1<0 then none
    else bV p.fO p.blocks.length f (ws.drop 1) {l with places:=l.places++[((cE p.fO ((bd (word ws 0)).getD ([],0)).1).toNat,((bd (word ws 0)).getD ([],0)).2)]}).isSome=(decide (0<=p.find (aL (word ws 0)))&&p.fw (f.map letter) (ws.drop 1)):=by
   intro hp;rw[og hp];simp only[Option.getD_some];rw[find_eq];by_cases h0:p.find (aL (word ws 0))<0
   ·rw[jb h0];simp[show¬0<=p.find (aL (word ws 0)) by omega]
   ·rw[ja h0,ih];simp[show 0<=p.find (aL (word ws 0)) by omega]
  simp only[List.mem_cons,List.not_mem_nil,or_false]at H6;rcases H6 with rfl|rfl|rfl|rfl|rfl|rfl|rfl|rfl
  ·exact place (gL hw).1
  ·exact place (gL hw).1
  ·exact place (by rw[<-iq];exact hw)
  ·exact place (by rw[<-iq];exact hw)
  ·exact ih _
  ·show(if((av (word ws 0)).getD 0)≥(p.blocks.length:Int)then none else _).isSome=(decide ((number (word ws 0)).getD 0<p.blocks.length)&&_)
   have hd:(av (word ws 0)).getD 0=(number (word ws 0)).getD 0:=by
    have h1:(av (word ws 0)).isSome=true:=hw;have h2:=sB (word ws 0);cases hn:number (word ws 0)with
    |none=>rw[hn]at h2;rw[h2]at h1;cases h1
    |some n=>
     rw[hn]at h2;simp only at h2;split at h2
     ·rw[h2]
     ·rw[h2]at h1;cases h1
   rw[hd];by_cases h0:(number (word ws 0)).getD 0≥(p.blocks.length:Int)
   ·rw[jb h0];simp[show¬(number (word ws 0)).getD 0<(p.blocks.length:Int) by omega]
   ·rw[ja h0,ih];simp[show(number (word ws 0)).getD 0<(p.blocks.length:Int) by omega]
  ·exact ih _
  ·exact ih _
theorem rk {op:Nat}(h:op<23)(h2:2<=op):∀c∈ae op,c∈([105,111,112,109,35,98,102,118]:List UInt8):=by
 have:∀op:Fin 23,2<=op.val->∀c∈ae op.val,c∈([105,111,112,109,35,98,102,118]:List UInt8):=by decide
 exact this ⟨op,h⟩ h2
theorem pF {p:RP}(H:o8 p){j:Nat}(hj:j<p.lines.length):∃op,cz (word (p.line j) 0)=some op/\op<23/\(p.plain j=true->2<=op/\aV (ae op) ((p.line j).drop 1)=true/\(behind (word (p.line j) 0) p.raw).1=dc op/\(p.line j).length=(ae op).length+1):=by
 have hf:=H.form j hj;cases ho:cz (word (p.line j) 0)with
 |none=>
  obtain⟨n1,n2,n3⟩:=qJ ho p.raw;rw[ka,ja n1,ja n2,n3]at hf;cases hf
 |some op=>
  refine⟨op,rfl,ij ho,fun hp=> ?_⟩;simp only[RP.plain,isLet,bm,Bool.and_eq_true,Bool.not_eq_true',beq_eq_false_iff_ne,ne_eq]at hp;have e0:¬op=0:=fun e=>hp.1 ((tl ho).mpr e)
  have e1:¬op=1:=fun e=>hp.2 ((jx ho).mpr e)
  have h2:2<=op:=by omega
  rw[ka,ja hp.1,ja hp.2,p9 ho h2]at hf;simp only[Bool.and_eq_true,decide_eq_true_eq]at hf;obtain⟨Ps,yo⟩:=mU (ij ho) h2 ((p.line j).drop 1);exact⟨h2,by rw[Ps];exact hf.2,by rw[p9 ho h2],by omega⟩
theorem tn {p:RP}(H:o8 p){j:Nat}(hj:j<p.lines.length)(hp:p.plain j=true):(cU p.fO p.blocks.length (p.du j)).isSome=p.names j:=by
 obtain⟨op,ho,hl,h⟩:=pF H hj;obtain⟨h2,hf,hb,-⟩:=h hp;have hs:p.du j=(op,(p.line j).drop 1):=by rw[RP.du,ho];rfl
 have Ab:¬word (p.line j) 0=eD:=by
  simp only[RP.plain,isLet,Bool.and_eq_true,Bool.not_eq_true',beq_eq_false_iff_ne,ne_eq]at hp;exact hp.1
 rw[RP.names,ja Ab,hb,hs,cU,pE _ (rk hl h2) _ hf,dc];by_cases lz:op=15
 ·rw[jb lz,lz];rfl
 ·rw[ja lz]
structure LR (p:RP)(q:QP)(k:Nat):Prop where
 locals:q.locals=(p.lets.filter fun t=>decide (t<k)).map p.AP
 blocks:q.blocks.length=(p.blocks.filter fun b=>decide (b<k)).length
 flat:q.blocks.flatten=((List.range k).filter p.plain).map p.lh
theorem LR.start (p:RP):LR p QP.empty 0:=⟨by simp[QP.empty],by rw[List.filter_eq_nil_iff.mpr (by simp)];rfl,by simp[QP.empty]⟩
theorem kY (n k:Nat)(f:Nat->Bool):((List.range n).filter f).filter (fun t=>decide (t<k))=(List.range (min k n)).filter f:=by
 induction n with
 |zero=>simp
 |succ n ih=>
  rw[List.range_succ,List.filter_append,List.filter_append,ih];by_cases h:n<k
  ·rw[show min k (n+1)=n+1 by omega,show min k n=n by omega,List.range_succ,List.filter_append];congr 1;cases hf:f n<;>simp[hf,h]
  ·rw[show min k (n+1)=min k n by omega];cases hf:f n<;>simp[hf,h]
theorem D6 {p:RP}(H:o8 p)(k:Nat)(hk:k<=p.lines.length):(p.lets.filter fun t=>decide (t<k))=(List.range k).filter fun j=>isLet (p.line j):=by
 rw[H.lets,RP.cG,kY,show min k p.lines.length=k by omega]
theorem xk {p:RP}(H:o8 p)(k:Nat)(hk:k<=p.lines.length):(p.blocks.filter fun t=>decide (t<k))=(List.range k).filter fun j=>bm (p.line j):=by
 rw[H.blocks,RP.cG,kY,show min k p.lines.length=k by omega]
theorem gd (k:Nat)(f:Nat->Bool):(List.range (k+1)).filter f=(List.range k).filter f++if f k then [k]else []:=by
 rw[List.range_succ,List.filter_append];congr 1;cases h:f k<;>simp[h]
theorem FY {p:RP}(H:o8 p){k:Nat}(hk:k<p.lines.length)(hp:p.plain k=true):(p.lets.filter fun t=>decide (t<k))=p.lets/\1<=(p.blocks.filter fun b=>decide (b<k)).length:=by
 have rY:=hp;simp only[RP.plain,Bool.and_eq_true,Bool.not_eq_true']at rY;have lA:p.inside k=true:=by
  rcases H.Ir k hk with h|h
  ·rw[rY.1]at h;cases h
  ·rw[h,rY.2];rfl
 have hb:∃b,b<k/\b∈p.blocks:=by
  have:∀(ls:List (List B)),iQ ls=true->∃ws∈ls,word ws 0=bX:=by
   intro ls;induction ls with
   |nil=>intro h;cases h
   |cons a r ih=>
    intro h;rw[iQ]at h;by_cases h1:word a 0=bX
    ·exact⟨a,jM ..,h1⟩
    ·rw[ja h1]at h;by_cases h2:ends (word a 0)=true
     ·rw[jb h2]at h;cases h
     ·rw[ja h2]at h;obtain⟨ws,hm,hw⟩:=ih h;exact⟨ws,jN _ hm,hw⟩
  obtain⟨ws,hm,hw⟩:=this _ lA;rw[List.mem_reverse]at hm;obtain⟨b,mO,H4⟩:=List.mem_take_iff_getElem.mp hm;refine⟨b,by omega,?_⟩;rw[H.blocks,RP.cG,List.mem_filter];refine⟨by simp;omega,?_⟩;have:p.line b=ws:=by rw[RP.line,jA,jB (by omega),H4];rfl
  rw[bm,this,hw];rfl
 obtain⟨b,Sp,Sr⟩:=hb;constructor
 ·rw[List.filter_eq_self];intro t ht;have Wr:=ht;rw[H.lets]at Wr;have:=eA Wr;have:=H.first t this.1 this.2 b Sr;simp;omega
 ·have:b∈p.blocks.filter fun b=>decide (b<k):=by rw[List.mem_filter];exact⟨Sr,by simp[Sp]⟩
  exact List.length_pos_of_mem this
theorem ru (q:QP)(l:ab)(h:1<=q.blocks.length):(q.addLine l).blocks.flatten=q.blocks.flatten++[l]/\(q.addLine l).blocks.length=q.blocks.length:=by
 have c8:q.blocks≠[]:=by intro e;rw[e]at h;simp at h
 have qm:q.blocks=q.blocks.dropLast++[q.blocks.getLast c8]:=(List.dropLast_concat_getLast c8).symm;have hg:q.blocks.getLastD []=q.blocks.getLast c8:=by rw[List.getLastD_eq_getLast?,List.getLast?_eq_some_getLast c8];rfl
 constructor
 ·unfold QP.addLine;simp only;rw[hg]
  conv=>rhs;rw[qm]
  simp
 ·unfold QP.addLine;simp;omega
theorem zJ (A C:List (B×Nat))(n:B)(k:Nat):bj (A++C) n k=if 0<=bj A n k then bj A n k else bj C n (k+A.length):=by
 induction A generalizing k with
 |nil=>simp[bj]
 |cons y r ih=>
  by_cases h:y.1=n
  ·have e1:bj (y::r) n k=k:=by rw[bj,jb h]
   have e2:bj (y::r++C) n k=k:=by rw[jW,bj,jb h]
   rw[e1,e2,jb (by omega)]
  ·have e1:bj (y::r) n k=bj r n (k+1):=by rw[bj,ja h]
   have e2:bj (y::r++C) n k=bj (r++C) n (k+1):=by rw[jW,bj,ja h]
   rw[e1,e2,ih,jY,show k+1+r.length=k+(r.length+1) by omega]
theorem kK {p:RP}(H:o8 p):∀(m k:Nat) (q:QP),k+m=p.lines.length->LR p q k->
  (aJ p.blocks.length (((List.range p.lines.length).map p.du).drop k) k q).2=de p.names m k/\
  (de p.names m k=none->LR p (aJ p.blocks.length (((List.range p.lines.length).map p.du).drop k) k q).1 p.lines.length)
 |0,k,q,hk,R=>by
  rw[jT (by simp;omega),aJ];refine⟨rfl,fun _=> ?_⟩;rw[show p.lines.length=k by omega];exact R
 |m+1,k,q,hk,R=>by
  have Cm:k<p.lines.length:=by omega
  have hd:((List.range p.lines.length).map p.du).drop k=p.du k::((List.range p.lines.length).map p.du).drop (k+1):=by
   rw[jE (by simpa using Cm)];simp
  rw[hd,aJ,de];obtain⟨op,ho,hl,dL⟩:=pF H Cm;have hs:p.du k=(op,(p.line k).drop 1):=by rw[RP.du,ho];rfl
  have e0:=tl ho;have e1:=jx ho;have Q8:=D6 H k (by omega);have EZ:=D6 H (k+1) (by omega);have mO:=xk H k (by omega);have Ci:=xk H (k+1) (by omega);rw[gd,<-Q8]at EZ;rw[gd,<-mO]at Ci;have w1:word ((p.line k).drop 1) 0=word (p.line k) 1:=by simp[word]
  have w2:word ((p.line k).drop 1) 1=word (p.line k) 2:=by simp[word]
  by_cases h0:op=0
  ·have hw:=e0.mpr h0;have hL:isLet (p.line k)=true:=by rw[isLet,hw];rfl
   have hB:bm (p.line k)=false:=by rw[bm,hw];rfl
   rw[jb (by rw[hs];exact h0),hs];simp only[w1,w2];rw[hL,jb rfl]at EZ;rw[hB]at Ci;have N9:∃L2,p.lets=(p.lets.filter fun t=>decide (t<k))++k::L2:=by
    rw[Q8];have:p.lets=(List.range p.lines.length).filter fun j=>isLet (p.line j):=H.lets
    have hr:List.range p.lines.length=List.range k++k::(List.range p.lines.length).drop (k+1):=by
     have h1:=List.take_append_drop k (List.range p.lines.length);rw[jE (by simpa using Cm),List.take_range,show min k p.lines.length=k by omega]at h1;simpa using h1.symm
    rw[this,hr,List.filter_append,List.filter_cons,hL,jb rfl];exact⟨_,rfl⟩
   obtain⟨L2,Sg⟩:=N9;have QT:=find_eq p (word (p.line k) 1);have Ie:(p.AP k).1=word (p.line k) 1:=rfl;rw[cE,RP.fO,Sg,List.map_append,<-R.locals,List.map_cons,zJ,bj,jb Ie]at QT;have hlen:q.locals.length=(p.lets.filter fun t=>decide (t<k)).length:=by rw[R.locals];simp
   have V5:p.names k=decide (p.lets.getD (p.find (word (p.line k) 1)).toNat 0=k):=by rw[RP.names,jb hw]
   have NS:=oy q.locals (word (p.line k) 1) 0;by_cases hf:cE q.locals (word (p.line k) 1)≥0
   ·have Pq:0<=bj q.locals (word (p.line k) 1) 0:=hf;rw[jb hf];rw[jb Pq]at QT;have NP:p.names k=false:=by
     rw[V5,<-QT];simp only[decide_eq_false_iff_not];obtain⟨j,hj⟩:∃j:Nat,bj q.locals (word (p.line k) 1) 0=j:=⟨_,(Int.toNat_of_nonneg Pq).symm⟩;rw[hj]at NS⊢;have zb:j<(p.lets.filter fun t=>decide (t<k)).length:=by rw[<-hlen];have:=NS.2;simp at this;exact this
     rw[Sg,Int.toNat_natCast,jA,jg zb,jB zb,Option.getD_some];intro e;have hm:=jL zb;rw[List.mem_filter]at hm;have:=hm.2;simp only[decide_eq_true_eq]at this;omega
    rw[NP];simp
   ·have Pq:¬0<=bj q.locals (word (p.line k) 1) 0:=hf;rw[ja hf];rw[ja Pq]at QT;have RI:p.names k=true:=by
     rw[V5,<-QT,hlen];generalize (p.lets.filter fun t=>decide (t<k))=G at Sg⊢;rw[Sg];simp
    rw[RI,jb rfl];refine kK H m (k+1) _ (by omega) ⟨?_,?_,?_⟩
    ·rw[EZ,List.map_append,<-R.locals];rfl
    ·rw[Ci];simp[QP.addLocal,R.blocks]
    ·rw[gd];have:p.plain k=false:=by rw[RP.plain,hL];rfl
     rw[this];simp[QP.addLocal,R.flat]
  ·rw[ja (by rw[hs];exact h0)];have rJ:¬word (p.line k) 0=eD:=fun e=>h0 (e0.mp e)
   have hL:isLet (p.line k)=false:=by rw[isLet];simp[rJ]
   rw[hL,ja (by simp),List.append_nil]at EZ;by_cases h1:op=1
   ·have hw:=e1.mpr h1;have hB:bm (p.line k)=true:=by rw[bm,hw];rfl
    rw[jb (by rw[hs];exact h1)];rw[hB,jb rfl]at Ci;have hn:p.names k=true:=by
     rw[RP.names,ja rJ,hw];have:(behind bX p.raw).1=[]:=by cases p.raw<;>rfl
     rw[this];rfl
    rw[jb hn];refine kK H m (k+1) q.addBlock (by omega) ⟨?_,?_,?_⟩
    ·rw[EZ];exact R.locals
    ·rw[Ci];simp[QP.addBlock,R.blocks]
    ·rw[gd];have:p.plain k=false:=by rw[RP.plain,hB];simp
     rw[this];simp[QP.addBlock,R.flat]
   ·rw[ja (by rw[hs];exact h1)];have DX:¬word (p.line k) 0=bX:=fun e=>h1 (e1.mp e)
    have hB:bm (p.line k)=false:=by rw[bm];simp[DX]
    rw[hB,ja (by simp),List.append_nil]at Ci;have hp:p.plain k=true:=by rw[RP.plain,hL,hB];rfl
    obtain⟨ha,aB⟩:=FY H Cm hp;have vJ:q.locals=p.fO:=by rw[R.locals,ha];rfl
    have hn:=tn H Cm hp;rw[vJ];cases NZ:cU p.fO p.blocks.length (p.du k)with
    |none=>
     rw[NZ]at hn;rw[<-hn];simp
    |some l=>
     rw[NZ]at hn;rw[<-hn,Option.isSome_some,jb rfl];simp only;have hq:p.lh k={l with num:=k}:=by rw[RP.lh,NZ];rfl
     obtain⟨f1,f2⟩:=ru q {l with num:=k} (by rw[R.blocks];exact aB);refine kK H m (k+1) _ (by omega) ⟨?_,?_,?_⟩
     ·rw[EZ];exact R.locals
     ·rw[Ci,f2];exact R.blocks
     ·rw[gd,hp,jb rfl,f1,R.flat,List.map_append,List.map_cons,List.map_nil,hq]
def kindWord (t:Nat):B:=bZ.getD t []
theorem Dk {w:B}(h:isType w=true):∃t,c7 w=some t/\t<4/\w=kindWord t:=by
 simp only[isType,Bool.or_eq_true,beq_iff_eq]at h;rcases h with((h|h)|h)|h<;>subst h
 ·exact⟨0,rfl,by omega,rfl⟩
 ·exact⟨1,rfl,by omega,rfl⟩
 ·exact⟨2,rfl,by omega,rfl⟩
 ·exact⟨3,rfl,by omega,rfl⟩
theorem RZ {p:RP}(H:o8 p){q:QP}(hq:q.locals=p.fO){w:B}(h:0<=p.find (aL w)):q.cF (p.find (aL w)).toNat<4/\p.vd w=kindWord (q.cF (p.find (aL w)).toNat):=by
 obtain⟨j,hj,zb,-⟩:=RP.ye h;have hm:p.lets.getD j 0∈p.lets:=by rw[jA,jB zb];exact jL zb
 have MD:p.lets.getD j 0∈p.cG isLet:=by rw[<-H.lets];exact hm
 have hx:=eA MD;have hf:=H.form _ hx.1;have Ab:word (p.line (p.lets.getD j 0)) 0=eD:=by simpa [isLet]using hx.2
 rw[ka,jb Ab]at hf;simp only[Bool.and_eq_true,decide_eq_true_eq]at hf;obtain⟨t,ht,YM,YN⟩:=Dk hf.2;have GP:q.cF j=t:=by
  rw[QP.cF,hq,RP.fO,jA,jJ,jB zb];simp only[Option.map_some,Option.getD_some,RP.AP];rw[jA,jB zb,Option.getD_some]at ht;rw[ht];rfl
 rw[RP.vd,hj,Int.toNat_natCast,GP];exact⟨YM,YN⟩
theorem pB {p:RP}(H:o8 p){q:QP}(hq:q.locals=p.fO){w:B}(h:0<=p.find (aL w))(hp:cx w=true):
  (q.kind ((p.find (aL w)).toNat,im (partOf w))=none/\p.typeOf w=[])\/
  (∃t,t<4/\q.kind ((p.find (aL w)).toNat,im (partOf w))=some t/\p.typeOf w=kindWord t/\q.aT ((p.find (aL w)).toNat,im (partOf w))=t):=by
 obtain⟨h4,ht⟩:=RZ H hq h;generalize hT:q.cF (p.find (aL w)).toNat=T at h4 ht;have h2:p.vd w=lk↔T=2:=by
  rw[ht];have:∀T:Fin 4,kindWord T.val=lk↔T.val=2:=by decide
  exact this ⟨T,h4⟩
 have h3:p.vd w=oX↔T=3:=by
  rw[ht];have:∀T:Fin 4,kindWord T.val=oX↔T.val=3:=by decide
  exact this ⟨T,h4⟩
 rcases I4 hp with e|e|e|e
 ·right;refine⟨T,h4,?_,?_,?_⟩
  ·rw[QP.kind,e];simp[im,hT]
  ·rw[RP.typeOf,e,ja (by decide),ja (by decide),ht]
  ·rw[QP.aT,e];simp[im,hT]
 ·by_cases hx:T=2
  ·right;refine⟨1,by omega,?_,?_,?_⟩
   ·rw[QP.kind,e];simp[im,hT,hx]
   ·rw[RP.typeOf,e,jb (.inl rfl),jb (h2.mpr hx)];rfl
   ·rw[QP.aT,e];simp[im]
  ·left;exact⟨by rw[QP.kind,e];simp[im,hT,hx],by rw[RP.typeOf,e,jb (.inl rfl),ja (fun e=>hx (h2.mp e))]⟩
 ·by_cases hx:T=2
  ·right;refine⟨1,by omega,?_,?_,?_⟩
   ·rw[QP.kind,e];simp[im,hT,hx]
   ·rw[RP.typeOf,e,jb (.inr rfl),jb (h2.mpr hx)];rfl
   ·rw[QP.aT,e];simp[im]
  ·left;exact⟨by rw[QP.kind,e];simp[im,hT,hx],by rw[RP.typeOf,e,jb (.inr rfl),ja (fun e=>hx (h2.mp e))]⟩
 ·by_cases hx:T=3
  ·right;refine⟨1,by omega,?_,?_,?_⟩
   ·rw[QP.kind,e];simp[im,hT,hx]
   ·rw[RP.typeOf,e,ja (by decide),jb rfl,jb (h3.mpr hx)];rfl
   ·rw[QP.aT,e];simp[im]
  ·left;exact⟨by rw[QP.kind,e];simp[im,hT,hx],by rw[RP.typeOf,e,ja (by decide),jb rfl,ja (fun e=>hx (h3.mp e))]⟩
theorem lV {t:Nat}(h:t<4):¬kindWord t=[]/\(kindWord t=rQ↔t=0)/\(kindWord t=qD↔t=1)/\(kindWord t=oX↔t=3):=by
 have:∀t:Fin 4,¬kindWord t.val=[]/\(kindWord t.val=rQ↔t.val=0)/\(kindWord t.val=qD↔t.val=1)/\(kindWord t.val=oX↔t.val=3):=by decide
 exact this ⟨t,h⟩
theorem yF {t u:Nat}(h:t<4)(h':u<4):kindWord t=kindWord u↔t=u:=by
 have:∀t u:Fin 4,kindWord t.val=kindWord u.val↔t.val=u.val:=by decide
 exact this ⟨t,h⟩ ⟨u,h'⟩
theorem GB {p:RP}(H:o8 p){q:QP}(hq:q.locals=p.fO){w:B}(h:0<=p.find (aL w))(hp:cx w=true){c:UInt8}(hc:c∈([105,111,112]:List UInt8))(w1:B):
  p.fV c w w1=q.aZ ((p.find (aL w)).toNat,im (partOf w)) c:=by
 rcases pB H hq h hp with⟨h1,h2⟩|⟨t,ht,h1,h2,-⟩
 ·rw[QP.aZ,h1,RP.fV,h2];simp only[List.mem_cons,List.not_mem_nil,or_false]at hc;rcases hc with rfl|rfl|rfl<;>rfl
 ·rw[QP.aZ,h1,RP.fV,h2];obtain⟨k1,k2,k3,k4⟩:=lV ht;simp only[List.mem_cons,List.not_mem_nil,or_false]at hc;rcases hc with rfl|rfl|rfl
  ·rw[ja (by decide),ja k1];have hk:ez t 105=(t==0):=rfl;simp only;rw[hk];by_cases p7:t=0
   ·rw[ja (by simp[k2.mpr p7]),ja (by simp),ja (by simp)];simp[p7]
   ·rw[jb (.inl ⟨by simp,fun e=>p7 (k2.mp e)⟩)];simp[p7]
  ·rw[ja (by decide),ja k1];have hk:ez t 111=(t==3):=rfl;simp only;rw[hk];by_cases p7:t=3
   ·rw[ja (by simp[k4.mpr p7]),ja (by simp),ja (by simp)];simp[p7]
   ·rw[jb (.inr (.inr ⟨by simp,fun e=>p7 (k4.mp e)⟩))];simp[p7]
  ·rw[ja (by decide),ja k1];have hk:ez t 112=(t==1):=rfl;simp only;rw[hk];by_cases p7:t=1
   ·rw[ja (by simp[k3.mpr p7]),ja (by simp),ja (by simp)];simp[p7]
   ·rw[jb (.inr (.inl ⟨by simp,fun e=>p7 (k3.mp e)⟩))];simp[p7]
theorem Bz {p:RP}(H:o8 p){q:QP}(hq:q.locals=p.fO){w:B}(h:0<=p.find (aL w))(hp:cx w=true)(w1:B):
  p.fV 100 w w1=q.aZ ((p.find (aL w)).toNat,im (partOf w)) 109:=by
 rcases pB H hq h hp with⟨h1,h2⟩|⟨t,ht,h1,h2,-⟩
 ·rw[QP.aZ,h1,RP.fV,h2];rfl
 ·rw[QP.aZ,h1,RP.fV,h2];obtain⟨k1,k2,k3,k4⟩:=lV ht;have hk:ez t 109= !(t==0):=rfl;simp only;rw[hk,ja (by decide),ja k1,ja (by simp)];by_cases p7:t=0
  ·rw[jb ⟨by simp,k2.mpr p7⟩];simp[p7]
  ·rw[ja (fun e=>p7 (k2.mp e.2)),ja (by simp)];simp[p7]
theorem ri {p:RP}(H:o8 p){q:QP}(hq:q.locals=p.fO){w w1:B}(h:0<=p.find (aL w))(hp:cx w=true)(h':0<=p.find (aL w1))(rY:cx w1=true)(hf:q.aZ ((p.find (aL w1)).toNat,im (partOf w1)) 109=true):
  p.fV 109 w w1=(q.aZ ((p.find (aL w)).toNat,im (partOf w)) 109&&(q.aT ((p.find (aL w1)).toNat,im (partOf w1))==q.aT ((p.find (aL w)).toNat,im (partOf w)))):=by
 rcases pB H hq h' rY with⟨g1,g2⟩|⟨u,hu,g1,g2,g3⟩
 ·rw[QP.aZ,g1]at hf;cases hf
 ·rcases pB H hq h hp with⟨h1,h2⟩|⟨t,ht,h1,h2,h3⟩
  ·rw[QP.aZ,h1,RP.fV,h2];rfl
  ·rw[QP.aZ,h1,RP.fV,h2,g2,h3,g3];obtain⟨k1,k2,k3,k4⟩:=lV ht;have hk:ez t 109= !(t==0):=rfl;simp only;rw[hk,ja (by decide),ja k1,ja (by simp)];have hi:=yF ht hu;by_cases p7:t=0
   ·rw[jb ⟨by simp,k2.mpr p7⟩];simp[p7]
   ·rw[ja (fun e=>p7 (k2.mp e.2))];by_cases hut:t=u
    ·rw[ja (fun e=>e.2 (hi.mpr hut))];simp[hut];omega
    ·rw[jb ⟨by simp,fun e=>hut (hi.mp e)⟩];simp[p7];omega
end Sq
end Go.Proofs.YtmlgajhhnojdjaaGreatDoor

import Derived.Test.YtmlgajhhnojdjaaGreatDoorUAB
namespace Go.Proofs.YtmlgajhhnojdjaaGreatDoor
namespace Sq
open Go
def ay (raw:Bool):List (List B)->eA->Nat->List (Nat×List B)×eA×Option Nat
 |[],o,_=>([],o,none)
 |ws::r,o,i=>match db ws with
  |none=>([],o,some i)
  |some x=>if(aD raw o x.1).2=true then(x::(ay raw r (aD raw o x.1).1 (i+1)).1,(ay raw r (aD raw o x.1).1 (i+1)).2)else([],o,some i)
def RP.eQ (p:RP)(i:Nat):Nat×List B:=((ew (word (p.line i) 0)).getD 0,(p.line i).drop 1)
theorem rU {ws:List B}{x:Nat×List B}(h:db ws=some x):x=((ew (word ws 0)).getD 0,ws.drop 1)/\ew (word ws 0)=some x.1:=by
 rw[db]at h;cases ho:ew (word ws 0)with
 |none=>rw[ho]at h;cases h
 |some op=>
  rw[ho]at h;simp only at h;split at h
  ·cases h;exact⟨rfl,rfl⟩
  ·cases h
theorem pg (raw:Bool)(o:eA)(op:Nat)(h:o.sec<=2):(aD raw o op).1.sec<=2:=by
 unfold aD
 repeat (first|(split;(first|exact h|(simp;done)|skip))|exact h|simp)
theorem rV (raw:Bool):∀(ls:List (List B)) (p:RP) (o:eA),p.raw=raw->lR p o->o.sec<=2->(∀ws∈ls,1<=ws.length)->
  (∀k,(ay raw ls o p.lines.length).2.2=some k->∃q,jt ls p p.lines.length=(q,some k))/\
  ((ay raw ls o p.lines.length).2.2=none->∃q,jt ls p p.lines.length=(q,none)/\lR q (ay raw ls o p.lines.length).2.1/\(ay raw ls o p.lines.length).2.1.sec<=2/\
   (ay raw ls o p.lines.length).1=ls.map fun ws=>((ew (word ws 0)).getD 0,ws.drop 1))
 |[],p,o,_,R,hs,_=>⟨fun k h=>by simp[ay]at h,fun _=>⟨p,rfl,R,hs,rfl⟩⟩
 |ws::r,p,o,hr,R,hs,hw=>by
  have hf:=Rm R (hw ws (jM ..));rw[ay,jt];cases hx:db ws with
  |none=>
   rw[hx]at hf;simp only at hf⊢;rw[hf];exact⟨fun k h=>⟨p.addLine ws,by cases h;rfl⟩,fun h=>by cases h⟩
  |some x=>
   rw[hx]at hf;simp only at hf⊢;rw[hr]at hf;rw[hf];by_cases ha:(aD raw o x.1).2=true
   ·rw[jb ha,jb ha];have R':=R.next hx (by rw[hr];exact ha);rw[hr]at R';have hl:((p.addLine ws).mark p.lines.length).lines.length=p.lines.length+1:=by rw[RP.eE];simp[RP.addLine]
    have ih:=rV raw r _ _ (by rw[RP.sP];exact hr) R' (pg raw o x.1 hs) (fun y hy=>hw y (jN _ hy));rw[hl]at ih;refine⟨ih.1,fun h=> ?_⟩;obtain⟨q,h1,h2,h3,h4⟩:=ih.2 h;refine⟨q,h1,h2,h3,?_⟩;simp only[List.map_cons];rw[h4,(rU hx).1]
   ·rw[ja ha,ja ha];exact⟨fun k h=>⟨p.addLine ws,by cases h;rfl⟩,fun h=>by cases h⟩
def RP.FJ (p:RP)(j:Nat):B×Nat:=(word (p.line j) 1,(fp (word (p.line j) 2)).getD 0)
def RP.iU (p:RP):List (B×Nat):=p.lets.map p.FJ
def RP.oV (p:RP)(i:Nat):ab:={(dw p.iU p.blocks.length (p.eQ i)).getD ⟨0,0,[],0,0,[]⟩with num:=i}
def RP.plain (p:RP)(i:Nat):Bool:= !isLet (p.line i)&& !bV (p.line i)
theorem BX (p:RP)(n:B):∀(l:List Nat) (k:Nat),bz (l.map p.FJ) n k=p.pw n l k
 |[],k=>rfl
 |t::r,k=>by
  rw[List.map_cons,bz,RP.pw,BX p n r (k+1)];rfl
theorem find_eq (p:RP)(n:B):di p.iU n=p.find n:=BX p n p.lets 0
theorem sK {p:RP}:∀(f:B) (_:∀c∈f,c∈([105,111,112,109,35,98,102,118]:List UInt8)) (ws:List B) (_:bc f ws=true) (l:ab),
  (bQ p.iU p.blocks.length f ws l).isSome=p.iw (f.map letter) ws
 |[],_,_,_,_=>rfl
 |c::f,hc,ws,hf,l=>by
  rw[bc,jH]at hf;have ON:=hc c (jM ..);have hcr:∀x∈f,x∈([105,111,112,109,35,98,102,118]:List UInt8):=fun x hx=>hc x (jN _ hx)
  have ih:=fun l=>sK (p:=p) f hcr (ws.drop 1) hf.2 l
  have hw:=hf.1;rw[bQ,List.map_cons,RP.iw];have place:dy (word ws 0)=true->(if di p.iU ((bL (word ws 0)).getD ([],0)).1<0 then none
    else bQ p.iU p.blocks.length f (ws.drop 1) {l with places:=l.places++[((di p.iU ((bL (word ws 0)).getD ([],0)).1).toNat,((bL (word ws 0)).getD ([],0)).2)]}).isSome=(decide (0<=p.find (bh (word ws 0)))&&p.iw (f.map letter) (ws.drop 1)):=by
   intro hp;rw[q7 hp];simp only[Option.getD_some];rw[find_eq];by_cases h0:p.find (bh (word ws 0))<0
   ·rw[jb h0];simp[show¬0<=p.find (bh (word ws 0)) by omega]
   ·rw[ja h0,ih];simp[show 0<=p.find (bh (word ws 0)) by omega]
  simp only[List.mem_cons,List.not_mem_nil,or_false]at ON;rcases ON with rfl|rfl|rfl|rfl|rfl|rfl|rfl|rfl
  ·exact place (kf hw).1
  ·exact place (kf hw).1
  ·exact place (by rw[<-kX];exact hw)
  ·exact place (by rw[<-kX];exact hw)
  ·exact ih _
  ·show(if((aH (word ws 0)).getD 0)≥(p.blocks.length:Int)then none else _).isSome=(decide ((number (word ws 0)).getD 0<p.blocks.length)&&_)
   have hd:(aH (word ws 0)).getD 0=(number (word ws 0)).getD 0:=by
    have h1:(aH (word ws 0)).isSome=true:=hw;have h2:=yK (word ws 0);cases hn:number (word ws 0)with
    |none=>rw[hn]at h2;rw[h2]at h1;cases h1
    |some n=>
     rw[hn]at h2;simp only at h2;split at h2
     ·rw[h2]
     ·rw[h2]at h1;cases h1
   rw[hd];by_cases h0:(number (word ws 0)).getD 0≥(p.blocks.length:Int)
   ·rw[jb h0];simp[show¬(number (word ws 0)).getD 0<(p.blocks.length:Int) by omega]
   ·rw[ja h0,ih];simp[show(number (word ws 0)).getD 0<(p.blocks.length:Int) by omega]
  ·exact ih _
  ·exact ih _
theorem xD {op:Nat}(h:op<23)(h2:2<=op):∀c∈ah op,c∈([105,111,112,109,35,98,102,118]:List UInt8):=by
 have:∀op:Fin 23,2<=op.val->∀c∈ah op.val,c∈([105,111,112,109,35,98,102,118]:List UInt8):=by decide
 exact this ⟨op,h⟩ h2
theorem sN {p:RP}(H:sh p){j:Nat}(hj:j<p.lines.length):∃op,ew (word (p.line j) 0)=some op/\op<23/\(p.plain j=true->2<=op/\bc (ah op) ((p.line j).drop 1)=true/\(behind (word (p.line j) 0) p.raw).1=dW op/\(p.line j).length=(ah op).length+1):=by
 have hf:=H.form j hj;cases ho:ew (word (p.line j) 0)with
 |none=>
  obtain⟨n1,n2,n3⟩:=vM ho p.raw;rw[mE,ja n1,ja n2,n3]at hf;cases hf
 |some op=>
  refine⟨op,rfl,mH ho,fun hp=> ?_⟩;simp only[RP.plain,isLet,bV,Bool.and_eq_true,Bool.not_eq_true',beq_eq_false_iff_ne,ne_eq]at hp;have e0:¬op=0:=fun e=>hp.1 ((zB ho).mpr e)
  have e1:¬op=1:=fun e=>hp.2 ((mj ho).mpr e)
  have h2:2<=op:=by omega
  rw[mE,ja hp.1,ja hp.2,tH ho h2]at hf;simp only[Bool.and_eq_true,decide_eq_true_eq]at hf;obtain⟨RG,lf⟩:=qQ (mH ho) h2 ((p.line j).drop 1);exact⟨h2,by rw[RG];exact hf.2,by rw[tH ho h2],by omega⟩
theorem zD {p:RP}(H:sh p){j:Nat}(hj:j<p.lines.length)(hp:p.plain j=true):(dw p.iU p.blocks.length (p.eQ j)).isSome=p.names j:=by
 obtain⟨op,ho,hl,h⟩:=sN H hj;obtain⟨h2,hf,hb,-⟩:=h hp;have hs:p.eQ j=(op,(p.line j).drop 1):=by rw[RP.eQ,ho];rfl
 have E7:¬word (p.line j) 0=iE:=by
  simp only[RP.plain,isLet,Bool.and_eq_true,Bool.not_eq_true',beq_eq_false_iff_ne,ne_eq]at hp;exact hp.1
 rw[RP.names,ja E7,hb,hs,dw,sK _ (xD hl h2) _ hf,dW];by_cases lT:op=15
 ·rw[jb lT,lT];rfl
 ·rw[ja lT]
structure LR (p:RP)(q:QP)(k:Nat):Prop where
 locals:q.locals=(p.lets.filter fun t=>decide (t<k)).map p.FJ
 blocks:q.blocks.length=(p.blocks.filter fun b=>decide (b<k)).length
 flat:q.blocks.flatten=((List.range k).filter p.plain).map p.oV
theorem LR.start (p:RP):LR p QP.empty 0:=⟨by simp[QP.empty],by rw[List.filter_eq_nil_iff.mpr (by simp)];rfl,by simp[QP.empty]⟩
theorem oR (n k:Nat)(f:Nat->Bool):((List.range n).filter f).filter (fun t=>decide (t<k))=(List.range (min k n)).filter f:=by
 induction n with
 |zero=>simp
 |succ n ih=>
  rw[List.range_succ,List.filter_append,List.filter_append,ih];by_cases h:n<k
  ·rw[show min k (n+1)=n+1 by omega,show min k n=n by omega,List.range_succ,List.filter_append];congr 1;cases hf:f n<;>simp[hf,h]
  ·rw[show min k (n+1)=min k n by omega];cases hf:f n<;>simp[hf,h]
theorem Kj {p:RP}(H:sh p)(k:Nat)(hk:k<=p.lines.length):(p.lets.filter fun t=>decide (t<k))=(List.range k).filter fun j=>isLet (p.line j):=by
 rw[H.lets,RP.dC,oR,show min k p.lines.length=k by omega]
theorem BJ {p:RP}(H:sh p)(k:Nat)(hk:k<=p.lines.length):(p.blocks.filter fun t=>decide (t<k))=(List.range k).filter fun j=>bV (p.line j):=by
 rw[H.blocks,RP.dC,oR,show min k p.lines.length=k by omega]
theorem jl (k:Nat)(f:Nat->Bool):(List.range (k+1)).filter f=(List.range k).filter f++if f k then [k]else []:=by
 rw[List.range_succ,List.filter_append];congr 1;cases h:f k<;>simp[h]
theorem MZ {p:RP}(H:sh p){k:Nat}(hk:k<p.lines.length)(hp:p.plain k=true):(p.lets.filter fun t=>decide (t<k))=p.lets/\1<=(p.blocks.filter fun b=>decide (b<k)).length:=by
 have vZ:=hp;simp only[RP.plain,Bool.and_eq_true,Bool.not_eq_true']at vZ;have lu:p.inside k=true:=by
  rcases H.Pm k hk with h|h
  ·rw[vZ.1]at h;cases h
  ·rw[h,vZ.2];rfl
 have hb:∃b,b<k/\b∈p.blocks:=by
  have:∀(ls:List (List B)),lJ ls=true->∃ws∈ls,word ws 0=cM:=by
   intro ls;induction ls with
   |nil=>intro h;cases h
   |cons a r ih=>
    intro h;rw[lJ]at h;by_cases h1:word a 0=cM
    ·exact⟨a,jM ..,h1⟩
    ·rw[ja h1]at h;by_cases h2:ends (word a 0)=true
     ·rw[jb h2]at h;cases h
     ·rw[ja h2]at h;obtain⟨ws,hm,hw⟩:=ih h;exact⟨ws,jN _ hm,hw⟩
  obtain⟨ws,hm,hw⟩:=this _ lu;rw[List.mem_reverse]at hm;obtain⟨b,qS,OL⟩:=List.mem_take_iff_getElem.mp hm;refine⟨b,by omega,?_⟩;rw[H.blocks,RP.dC,List.mem_filter];refine⟨by simp;omega,?_⟩;have:p.line b=ws:=by rw[RP.line,jA,jB (by omega),OL];rfl
  rw[bV,this,hw];rfl
 obtain⟨b,YU,YV⟩:=hb;constructor
 ·rw[List.filter_eq_self];intro t ht;have htm:=ht;rw[H.lets]at htm;have:=gj htm;have:=H.first t this.1 this.2 b YV;simp;omega
 ·have:b∈p.blocks.filter fun b=>decide (b<k):=by rw[List.mem_filter];exact⟨YV,by simp[YU]⟩
  exact List.length_pos_of_mem this
theorem xM (q:QP)(l:ab)(h:1<=q.blocks.length):(q.addLine l).blocks.flatten=q.blocks.flatten++[l]/\(q.addLine l).blocks.length=q.blocks.length:=by
 have dB:q.blocks≠[]:=by intro e;rw[e]at h;simp at h
 have xX:q.blocks=q.blocks.dropLast++[q.blocks.getLast dB]:=(List.dropLast_concat_getLast dB).symm;have hg:q.blocks.getLastD []=q.blocks.getLast dB:=by rw[List.getLastD_eq_getLast?,List.getLast?_eq_some_getLast dB];rfl
 constructor
 ·unfold QP.addLine;simp only;rw[hg]
  conv=>rhs;rw[xX]
  simp
 ·unfold QP.addLine;simp;omega
theorem EF (A C:List (B×Nat))(n:B)(k:Nat):bz (A++C) n k=if 0<=bz A n k then bz A n k else bz C n (k+A.length):=by
 induction A generalizing k with
 |nil=>simp[bz]
 |cons y r ih=>
  by_cases h:y.1=n
  ·have e1:bz (y::r) n k=k:=by rw[bz,jb h]
   have e2:bz (y::r++C) n k=k:=by rw[jW,bz,jb h]
   rw[e1,e2,jb (by omega)]
  ·have e1:bz (y::r) n k=bz r n (k+1):=by rw[bz,ja h]
   have e2:bz (y::r++C) n k=bz (r++C) n (k+1):=by rw[jW,bz,ja h]
   rw[e1,e2,ih,jY,show k+1+r.length=k+(r.length+1) by omega]
theorem oD {p:RP}(H:sh p):∀(m k:Nat) (q:QP),k+m=p.lines.length->LR p q k->
  (aR p.blocks.length (((List.range p.lines.length).map p.eQ).drop k) k q).2=dY p.names m k/\
  (dY p.names m k=none->LR p (aR p.blocks.length (((List.range p.lines.length).map p.eQ).drop k) k q).1 p.lines.length)
 |0,k,q,hk,R=>by
  rw[jT (by simp;omega),aR];refine⟨rfl,fun _=> ?_⟩;rw[show p.lines.length=k by omega];exact R
 |m+1,k,q,hk,R=>by
  have Iv:k<p.lines.length:=by omega
  have hd:((List.range p.lines.length).map p.eQ).drop k=p.eQ k::((List.range p.lines.length).map p.eQ).drop (k+1):=by
   rw[jE (by simpa using Iv)];simp
  rw[hd,aR,dY];obtain⟨op,ho,hl,ee⟩:=sN H Iv;have hs:p.eQ k=(op,(p.line k).drop 1):=by rw[RP.eQ,ho];rfl
  have e0:=zB ho;have e1:=mj ho;have XE:=Kj H k (by omega);have L0:=Kj H (k+1) (by omega);have qS:=BJ H k (by omega);have Io:=BJ H (k+1) (by omega);rw[jl,<-XE]at L0;rw[jl,<-qS]at Io;have w1:word ((p.line k).drop 1) 0=word (p.line k) 1:=by simp[word]
  have w2:word ((p.line k).drop 1) 1=word (p.line k) 2:=by simp[word]
  by_cases h0:op=0
  ·have hw:=e0.mpr h0;have hL:isLet (p.line k)=true:=by rw[isLet,hw];rfl
   have hB:bV (p.line k)=false:=by rw[bV,hw];rfl
   rw[jb (by rw[hs];exact h0),hs];simp only[w1,w2];rw[hL,jb rfl]at L0;rw[hB]at Io;have UJ:∃L2,p.lets=(p.lets.filter fun t=>decide (t<k))++k::L2:=by
    rw[XE];have:p.lets=(List.range p.lines.length).filter fun j=>isLet (p.line j):=H.lets
    have hr:List.range p.lines.length=List.range k++k::(List.range p.lines.length).drop (k+1):=by
     have h1:=List.take_append_drop k (List.range p.lines.length);rw[jE (by simpa using Iv),List.take_range,show min k p.lines.length=k by omega]at h1;simpa using h1.symm
    rw[this,hr,List.filter_append,List.filter_cons,hL,jb rfl];exact⟨_,rfl⟩
   obtain⟨L2,EY⟩:=UJ;have Xs:=find_eq p (word (p.line k) 1);have OW:(p.FJ k).1=word (p.line k) 1:=rfl;rw[di,RP.iU,EY,List.map_append,<-R.locals,List.map_cons,EF,bz,jb OW]at Xs;have hlen:q.locals.length=(p.lets.filter fun t=>decide (t<k)).length:=by rw[R.locals];simp
   have hna:p.names k=decide (p.lets.getD (p.find (word (p.line k) 1)).toNat 0=k):=by rw[RP.names,jb hw]
   have Xw:=rp q.locals (word (p.line k) 1) 0;by_cases hf:di q.locals (word (p.line k) 1)≥0
   ·have QQ:0<=bz q.locals (word (p.line k) 1) 0:=hf;rw[jb hf];rw[jb QQ]at Xs;have Us:p.names k=false:=by
     rw[hna,<-Xs];simp only[decide_eq_false_iff_not];obtain⟨j,hj⟩:∃j:Nat,bz q.locals (word (p.line k) 1) 0=j:=⟨_,(Int.toNat_of_nonneg QQ).symm⟩;rw[hj]at Xw⊢;have DZ:j<(p.lets.filter fun t=>decide (t<k)).length:=by rw[<-hlen];have:=Xw.2;simp at this;exact this
     rw[EY,Int.toNat_natCast,jA,jg DZ,jB DZ,Option.getD_some];intro e;have hm:=jL DZ;rw[List.mem_filter]at hm;have:=hm.2;simp only[decide_eq_true_eq]at this;omega
    rw[Us];simp
   ·have QQ:¬0<=bz q.locals (word (p.line k) 1) 0:=hf;rw[ja hf];rw[ja QQ]at Xs;have Yl:p.names k=true:=by
     rw[hna,<-Xs,hlen];generalize (p.lets.filter fun t=>decide (t<k))=G at EY⊢;rw[EY];simp
    rw[Yl,jb rfl];refine oD H m (k+1) _ (by omega) ⟨?_,?_,?_⟩
    ·rw[L0,List.map_append,<-R.locals];rfl
    ·rw[Io];simp[QP.addLocal,R.blocks]
    ·rw[jl];have:p.plain k=false:=by rw[RP.plain,hL];rfl
     rw[this];simp[QP.addLocal,R.flat]
  ·rw[ja (by rw[hs];exact h0)];have o8:¬word (p.line k) 0=iE:=fun e=>h0 (e0.mp e)
   have hL:isLet (p.line k)=false:=by rw[isLet];simp[o8]
   rw[hL,ja (by simp),List.append_nil]at L0;by_cases h1:op=1
   ·have hw:=e1.mpr h1;have hB:bV (p.line k)=true:=by rw[bV,hw];rfl
    rw[jb (by rw[hs];exact h1)];rw[hB,jb rfl]at Io;have hn:p.names k=true:=by
     rw[RP.names,ja o8,hw];have:(behind cM p.raw).1=[]:=by cases p.raw<;>rfl
     rw[this];rfl
    rw[jb hn];refine oD H m (k+1) q.addBlock (by omega) ⟨?_,?_,?_⟩
    ·rw[L0];exact R.locals
    ·rw[Io];simp[QP.addBlock,R.blocks]
    ·rw[jl];have:p.plain k=false:=by rw[RP.plain,hB];simp
     rw[this];simp[QP.addBlock,R.flat]
   ·rw[ja (by rw[hs];exact h1)];have Ke:¬word (p.line k) 0=cM:=fun e=>h1 (e1.mp e)
    have hB:bV (p.line k)=false:=by rw[bV];simp[Ke]
    rw[hB,ja (by simp),List.append_nil]at Io;have hp:p.plain k=true:=by rw[RP.plain,hL,hB];rfl
    obtain⟨ha,aG⟩:=MZ H Iv hp;have L4:q.locals=p.iU:=by rw[R.locals,ha];rfl
    have hn:=zD H Iv hp;rw[L4];cases Uz:dw p.iU p.blocks.length (p.eQ k)with
    |none=>
     rw[Uz]at hn;rw[<-hn];simp
    |some l=>
     rw[Uz]at hn;rw[<-hn,Option.isSome_some,jb rfl];simp only;have hq:p.oV k={l with num:=k}:=by rw[RP.oV,Uz];rfl
     obtain⟨f1,f2⟩:=xM q {l with num:=k} (by rw[R.blocks];exact aG);refine oD H m (k+1) _ (by omega) ⟨?_,?_,?_⟩
     ·rw[L0];exact R.locals
     ·rw[Io,f2];exact R.blocks
     ·rw[jl,hp,jb rfl,f1,R.flat,List.map_append,List.map_cons,List.map_nil,hq]
def kindWord (t:Nat):B:=cN.getD t []
theorem JC {w:B}(h:isType w=true):∃t,fp w=some t/\t<4/\w=kindWord t:=by
 simp only[isType,Bool.or_eq_true,beq_iff_eq]at h;rcases h with((h|h)|h)|h<;>subst h
 ·exact⟨0,rfl,by omega,rfl⟩
 ·exact⟨1,rfl,by omega,rfl⟩
 ·exact⟨2,rfl,by omega,rfl⟩
 ·exact⟨3,rfl,by omega,rfl⟩
theorem Yz {p:RP}(H:sh p){q:QP}(hq:q.locals=p.iU){w:B}(h:0<=p.find (bh w)):q.bN (p.find (bh w)).toNat<4/\p.Az w=kindWord (q.bN (p.find (bh w)).toNat):=by
 obtain⟨j,hj,DZ,-⟩:=RP.C3 h;have hm:p.lets.getD j 0∈p.lets:=by rw[jA,jB DZ];exact jL DZ
 have G6:p.lets.getD j 0∈p.dC isLet:=by rw[<-H.lets];exact hm
 have hx:=gj G6;have hf:=H.form _ hx.1;have E7:word (p.line (p.lets.getD j 0)) 0=iE:=by simpa [isLet]using hx.2
 rw[mE,jb E7]at hf;simp only[Bool.and_eq_true,decide_eq_true_eq]at hf;obtain⟨t,ht,ht4,htw⟩:=JC hf.2;have D5:q.bN j=t:=by
  rw[QP.bN,hq,RP.iU,jA,jJ,jB DZ];simp only[Option.map_some,Option.getD_some,RP.FJ];rw[jA,jB DZ,Option.getD_some]at ht;rw[ht];rfl
 rw[RP.Az,hj,Int.toNat_natCast,D5];exact⟨ht4,htw⟩
theorem sH {p:RP}(H:sh p){q:QP}(hq:q.locals=p.iU){w:B}(h:0<=p.find (bh w))(hp:dy w=true):
  (q.kind ((p.find (bh w)).toNat,kW (partOf w))=none/\p.typeOf w=[])\/
  (∃t,t<4/\q.kind ((p.find (bh w)).toNat,kW (partOf w))=some t/\p.typeOf w=kindWord t/\q.aJ ((p.find (bh w)).toNat,kW (partOf w))=t):=by
 obtain⟨h4,ht⟩:=Yz H hq h;generalize hT:q.bN (p.find (bh w)).toNat=T at h4 ht;have h2:p.Az w=oX↔T=2:=by
  rw[ht];have:∀T:Fin 4,kindWord T.val=oX↔T.val=2:=by decide
  exact this ⟨T,h4⟩
 have h3:p.Az w=sa↔T=3:=by
  rw[ht];have:∀T:Fin 4,kindWord T.val=sa↔T.val=3:=by decide
  exact this ⟨T,h4⟩
 rcases P4 hp with e|e|e|e
 ·right;refine⟨T,h4,?_,?_,?_⟩
  ·rw[QP.kind,e];simp[kW,hT]
  ·rw[RP.typeOf,e,ja (by decide),ja (by decide),ht]
  ·rw[QP.aJ,e];simp[kW,hT]
 ·by_cases hx:T=2
  ·right;refine⟨1,by omega,?_,?_,?_⟩
   ·rw[QP.kind,e];simp[kW,hT,hx]
   ·rw[RP.typeOf,e,jb (.inl rfl),jb (h2.mpr hx)];rfl
   ·rw[QP.aJ,e];simp[kW]
  ·left;exact⟨by rw[QP.kind,e];simp[kW,hT,hx],by rw[RP.typeOf,e,jb (.inl rfl),ja (fun e=>hx (h2.mp e))]⟩
 ·by_cases hx:T=2
  ·right;refine⟨1,by omega,?_,?_,?_⟩
   ·rw[QP.kind,e];simp[kW,hT,hx]
   ·rw[RP.typeOf,e,jb (.inr rfl),jb (h2.mpr hx)];rfl
   ·rw[QP.aJ,e];simp[kW]
  ·left;exact⟨by rw[QP.kind,e];simp[kW,hT,hx],by rw[RP.typeOf,e,jb (.inr rfl),ja (fun e=>hx (h2.mp e))]⟩
 ·by_cases hx:T=3
  ·right;refine⟨1,by omega,?_,?_,?_⟩
   ·rw[QP.kind,e];simp[kW,hT,hx]
   ·rw[RP.typeOf,e,ja (by decide),jb rfl,jb (h3.mpr hx)];rfl
   ·rw[QP.aJ,e];simp[kW]
  ·left;exact⟨by rw[QP.kind,e];simp[kW,hT,hx],by rw[RP.typeOf,e,ja (by decide),jb rfl,ja (fun e=>hx (h3.mp e))]⟩
theorem pQ {t:Nat}(h:t<4):¬kindWord t=[]/\(kindWord t=x7↔t=0)/\(kindWord t=vE↔t=1)/\(kindWord t=sa↔t=3):=by
 have:∀t:Fin 4,¬kindWord t.val=[]/\(kindWord t.val=x7↔t.val=0)/\(kindWord t.val=vE↔t.val=1)/\(kindWord t.val=sa↔t.val=3):=by decide
 exact this ⟨t,h⟩
theorem Dr {t u:Nat}(h:t<4)(h':u<4):kindWord t=kindWord u↔t=u:=by
 have:∀t u:Fin 4,kindWord t.val=kindWord u.val↔t.val=u.val:=by decide
 exact this ⟨t,h⟩ ⟨u,h'⟩
theorem Nx {p:RP}(H:sh p){q:QP}(hq:q.locals=p.iU){w:B}(h:0<=p.find (bh w))(hp:dy w=true){c:UInt8}(hc:c∈([105,111,112]:List UInt8))(w1:B):
  p.iY c w w1=q.aB ((p.find (bh w)).toNat,kW (partOf w)) c:=by
 rcases sH H hq h hp with⟨h1,h2⟩|⟨t,ht,h1,h2,-⟩
 ·rw[QP.aB,h1,RP.iY,h2];simp only[List.mem_cons,List.not_mem_nil,or_false]at hc;rcases hc with rfl|rfl|rfl<;>rfl
 ·rw[QP.aB,h1,RP.iY,h2];obtain⟨k1,k2,k3,k4⟩:=pQ ht;simp only[List.mem_cons,List.not_mem_nil,or_false]at hc;rcases hc with rfl|rfl|rfl
  ·rw[ja (by decide),ja k1];have hk:gi t 105=(t==0):=rfl;simp only;rw[hk];by_cases qM:t=0
   ·rw[ja (by simp[k2.mpr qM]),ja (by simp),ja (by simp)];simp[qM]
   ·rw[jb (.inl ⟨by simp,fun e=>qM (k2.mp e)⟩)];simp[qM]
  ·rw[ja (by decide),ja k1];have hk:gi t 111=(t==3):=rfl;simp only;rw[hk];by_cases qM:t=3
   ·rw[ja (by simp[k4.mpr qM]),ja (by simp),ja (by simp)];simp[qM]
   ·rw[jb (.inr (.inr ⟨by simp,fun e=>qM (k4.mp e)⟩))];simp[qM]
  ·rw[ja (by decide),ja k1];have hk:gi t 112=(t==1):=rfl;simp only;rw[hk];by_cases qM:t=1
   ·rw[ja (by simp[k3.mpr qM]),ja (by simp),ja (by simp)];simp[qM]
   ·rw[jb (.inr (.inl ⟨by simp,fun e=>qM (k3.mp e)⟩))];simp[qM]
theorem GL {p:RP}(H:sh p){q:QP}(hq:q.locals=p.iU){w:B}(h:0<=p.find (bh w))(hp:dy w=true)(w1:B):
  p.iY 100 w w1=q.aB ((p.find (bh w)).toNat,kW (partOf w)) 109:=by
 rcases sH H hq h hp with⟨h1,h2⟩|⟨t,ht,h1,h2,-⟩
 ·rw[QP.aB,h1,RP.iY,h2];rfl
 ·rw[QP.aB,h1,RP.iY,h2];obtain⟨k1,k2,k3,k4⟩:=pQ ht;have hk:gi t 109= !(t==0):=rfl;simp only;rw[hk,ja (by decide),ja k1,ja (by simp)];by_cases qM:t=0
  ·rw[jb ⟨by simp,k2.mpr qM⟩];simp[qM]
  ·rw[ja (fun e=>qM (k2.mp e.2)),ja (by simp)];simp[qM]
theorem xB {p:RP}(H:sh p){q:QP}(hq:q.locals=p.iU){w w1:B}(h:0<=p.find (bh w))(hp:dy w=true)(h':0<=p.find (bh w1))(vZ:dy w1=true)(hf:q.aB ((p.find (bh w1)).toNat,kW (partOf w1)) 109=true):
  p.iY 109 w w1=(q.aB ((p.find (bh w)).toNat,kW (partOf w)) 109&&(q.aJ ((p.find (bh w1)).toNat,kW (partOf w1))==q.aJ ((p.find (bh w)).toNat,kW (partOf w)))):=by
 rcases sH H hq h' vZ with⟨g1,g2⟩|⟨u,hu,g1,g2,g3⟩
 ·rw[QP.aB,g1]at hf;cases hf
 ·rcases sH H hq h hp with⟨h1,h2⟩|⟨t,ht,h1,h2,h3⟩
  ·rw[QP.aB,h1,RP.iY,h2];rfl
  ·rw[QP.aB,h1,RP.iY,h2,g2,h3,g3];obtain⟨k1,k2,k3,k4⟩:=pQ ht;have hk:gi t 109= !(t==0):=rfl;simp only;rw[hk,ja (by decide),ja k1,ja (by simp)];have hi:=Dr ht hu;by_cases qM:t=0
   ·rw[jb ⟨by simp,k2.mpr qM⟩];simp[qM]
   ·rw[ja (fun e=>qM (k2.mp e.2))];by_cases hut:t=u
    ·rw[ja (fun e=>e.2 (hi.mpr hut))];simp[hut];omega
    ·rw[jb ⟨by simp,fun e=>hut (hi.mp e)⟩];simp[qM];omega
end Sq
namespace Sq
open Go
def o9 (c:UInt8):Bool:=c==105||c==111||c==112||c==109
def RP.UY (p:RP)(w:B):Nat×Nat:=((p.find (bh w)).toNat,kW (partOf w))
def RP.fG (p:RP):B->List B->List (Nat×Nat)
 |[],_=>[]
 |c::f,ws=>if o9 c then p.UY (word ws 0)::RP.fG p f (ws.drop 1)else RP.fG p f (ws.drop 1)
def xo:B->List B->List Nat
 |[],_=>[]
 |c::f,ws=>if c=98 then((aH (word ws 0)).getD 0).toNat::xo f (ws.drop 1)else xo f (ws.drop 1)
theorem ig {w:B}{c:UInt8}(hc:o9 c=true)(h:du w c=true):dy w=true:=by
 simp only[o9,Bool.or_eq_true,beq_iff_eq]at hc;rcases hc with((rfl|rfl)|rfl)|rfl
 ·exact(kf h).1
 ·exact(kf h).1
 ·rw[<-kX];exact h
 ·rw[<-kX];exact h
theorem xh {p:RP}{nb:Nat}:∀(f:B) (_:∀c∈f,c∈([105,111,112,109,35,98,102,118]:List UInt8)) (ws:List B) (_:bc f ws=true) (l l':ab),bQ p.iU nb f ws l=some l'->
  l'.op=l.op/\l'.places=l.places++p.fG f ws/\l'.next=l.next++xo f ws/\l'.num=l.num
 |[],_,ws,_,l,l',h=>by simp only[bQ,Option.some.injEq]at h;subst h;simp[RP.fG,xo]
 |c::f,hc,ws,hf,l,l',h=>by
  rw[bc,jH]at hf;have ON:=hc c (jM ..);have ih:=xh (p:=p) (nb:=nb) f (fun x hx=>hc x (jN _ hx)) (ws.drop 1) hf.2;have hw:=hf.1;rw[bQ]at h;rw[RP.fG,xo];have place:o9 c=true->(¬c=98)->(if di p.iU ((bL (word ws 0)).getD ([],0)).1<0 then none
    else bQ p.iU nb f (ws.drop 1) {l with places:=l.places++[((di p.iU ((bL (word ws 0)).getD ([],0)).1).toNat,((bL (word ws 0)).getD ([],0)).2)]})=some l'->
    l'.op=l.op/\l'.places=l.places++(if o9 c then p.UY (word ws 0)::RP.fG p f (ws.drop 1)else RP.fG p f (ws.drop 1))/\l'.next=l.next++(if c=98 then((aH (word ws 0)).getD 0).toNat::xo f (ws.drop 1)else xo f (ws.drop 1))/\l'.num=l.num:=by
   intro hp tA h;have ee:=q7 (ig hp hw);rw[ee]at h;simp only[Option.getD_some]at h;rw[find_eq]at h;split at h
   ·cases h
   ·obtain⟨a,b,d,e⟩:=ih _ _ h;rw[jb hp,ja tA];exact⟨a,by rw[b];simp[RP.UY],d,e⟩
  simp only[List.mem_cons,List.not_mem_nil,or_false]at ON;rcases ON with rfl|rfl|rfl|rfl|rfl|rfl|rfl|rfl
  ·exact place rfl (by decide) h
  ·exact place rfl (by decide) h
  ·exact place rfl (by decide) h
  ·exact place rfl (by decide) h
  ·rw[jb (.inl rfl)]at h;have hh:=ih _ _ h;exact hh
  ·rw[ja (by decide),ja (by decide),jb rfl]at h;rw[jb rfl];split at h
   ·cases h
   ·obtain⟨a,b,d,e⟩:=ih _ _ h;exact⟨a,b,by rw[d];simp,e⟩
  ·rw[ja (by decide),jb rfl]at h;have hh:=ih _ _ h;exact hh
  ·rw[jb (.inr rfl)]at h;have hh:=ih _ _ h;exact hh
theorem Yq:∀(f:B) (_:∀c∈f,o9 c=false/\c∈([35,98,102,118]:List UInt8)) (p:RP) (w1:B) (ws:List B),p.fG f ws=[]/\p.lP w1 (f.map letter) ws=true
 |[],_,_,_,_=>⟨rfl,rfl⟩
 |c::f,hc,p,w1,ws=>by
  obtain⟨h1,h2⟩:=Yq f (fun x hx=>hc x (jN _ hx)) p w1 (ws.drop 1);obtain⟨hp,hk⟩:=hc c (jM ..);rw[RP.fG,List.map_cons,RP.lP,hp,h1,h2];refine⟨rfl,?_⟩;simp only[List.mem_cons,List.not_mem_nil,or_false]at hk;rcases hk with rfl|rfl|rfl|rfl<;>rfl
theorem GN {p:RP}(H:sh p){q:QP}(hq:q.locals=p.iU)(w1:B)(C:B)(hC:∀c∈C,o9 c=false/\c∈([35,98,102,118]:List UInt8))(F:B):
  ∀(A:B) (_:∀c∈A,c∈([105,111,112]:List UInt8)) (ws:List B) (k:Nat) (_:F.drop k=A++C) (_:bc (A++C) ws=true) (_:p.iw ((A++C).map letter) ws=true),
   p.lP w1 ((A++C).map letter) ws=q.dN F (p.fG (A++C) ws) k
 |[],_,ws,k,_,_,_=>by
  obtain⟨h1,h2⟩:=Yq C hC p w1 ws;rw[List.nil_append,h1,h2];rfl
 |c::A,hA,ws,k,hF,hf,hn=>by
  have hc:=hA c (jM ..);have ee:o9 c=true:=by
   simp only[List.mem_cons,List.not_mem_nil,or_false]at hc;rcases hc with rfl|rfl|rfl<;>rfl
  have E7:letter c=c:=by
   simp only[List.mem_cons,List.not_mem_nil,or_false]at hc;rcases hc with rfl|rfl|rfl<;>rfl
  rw[jW,bc,jH]at hf;rw[jW,List.map_cons,RP.iw,jH,E7]at hn;have Xu:0<=p.find (bh (word ws 0)):=RP.lM hn.1 (by
   simp only[List.mem_cons,List.not_mem_nil,or_false]at hc⊢;rcases hc with h|h|h<;>simp[h])
  have hFk:F.getD k 0=c:=by
   have:F[k]?=(F.drop k)[0]?:=by simp
   rw[jA,this,hF];rfl
  have ih:=GN H hq w1 C hC F A (fun x hx=>hA x (jN _ hx)) (ws.drop 1) (k+1) (by rw[<-List.drop_drop,hF];rfl) hf.2 hn.2;rw[jW,List.map_cons,RP.lP,RP.fG,ee,jb rfl,QP.dN,hFk,ih,E7,Nx H hq Xu (ig ee hf.1) hc];rfl
theorem GR {op:Nat}(h:op<23)(h2:2<=op)(bR:¬op=12)(lT:¬op=15):
  (∀c∈(ah op).takeWhile o9,c∈([105,111,112]:List UInt8))/\(∀c∈(ah op).dropWhile o9,o9 c=false/\c∈([35,98,102,118]:List UInt8)):=by
 have:∀op:Fin 23,2<=op.val->¬op.val=12->¬op.val=15->
  (∀c∈(ah op.val).takeWhile o9,c∈([105,111,112]:List UInt8))/\(∀c∈(ah op.val).dropWhile o9,o9 c=false/\c∈([35,98,102,118]:List UInt8)):=by decide
 exact this ⟨op,h⟩ h2 bR lT
theorem Gj {p:RP}(H:sh p){j:Nat}(hj:j<p.lines.length)(hp:p.plain j=true)(hn:p.names j=true):∃op,ew (word (p.line j) 0)=some op/\op<23/\2<=op/\(p.oV j).op=op/\(p.oV j).num=j/\
  (p.oV j).places=p.fG (ah op) ((p.line j).drop 1)/\(p.oV j).next=xo (ah op) ((p.line j).drop 1)/\bc (ah op) ((p.line j).drop 1)=true/\(behind (word (p.line j) 0) p.raw).1=dW op/\
  p.iw (dW op) ((p.line j).drop 1)=true:=by
 obtain⟨op,ho,hl,h⟩:=sN H hj;obtain⟨h2,hf,hb,-⟩:=h hp;have hs:p.eQ j=(op,(p.line j).drop 1):=by rw[RP.eQ,ho];rfl
 have Tw:=zD H hj hp;rw[hn]at Tw;obtain⟨l,Uz⟩:=Option.isSome_iff_exists.mp Tw;have hq:p.oV j={l with num:=j}:=by rw[RP.oV,Uz];rfl
 rw[hs,dw]at Uz;obtain⟨a,b,c,-⟩:=xh _ (xD hl h2) _ hf _ _ Uz;have E7:¬word (p.line j) 0=iE:=by
  simp only[RP.plain,isLet,Bool.and_eq_true,Bool.not_eq_true',beq_eq_false_iff_ne,ne_eq]at hp;exact hp.1
 have L5:=RP.PU hn E7;rw[hb]at L5;refine⟨op,ho,hl,h2,by rw[hq];exact a,by rw[hq],?_,?_,hf,hb,L5⟩
 ·rw[hq];simpa using b
 ·rw[hq];simpa using c
theorem IX {p:RP}(H:sh p){q:QP}(hq:q.locals=p.iU){j:Nat}(hj:j<p.lines.length)(hp:p.plain j=true)(hn:p.names j=true):q.fits (p.oV j)=p.types j:=by
 obtain⟨op,ho,hl,h2,ak,-,ee,-,hf,hb,L5⟩:=Gj H hj hp hn;rw[QP.fits,ak,ee,RP.types,hb];generalize hW:(p.line j).drop 1=ws at hf L5⊢;by_cases bR:op=12
 ·subst bR;have UN:ah 12=[109,109]:=rfl;have OL:dW 12=[109,109]:=rfl;rw[OL]at L5⊢;rw[UN]at hf⊢;simp only[bc,Bool.and_eq_true,Bool.and_true]at hf;simp only[RP.iw,Bool.and_eq_true,Bool.and_true]at L5;have f1:=RP.lM L5.1 (by simp);have f2:=RP.lM L5.2 (by simp);have p1:=ig (c:=109) rfl hf.1;have p2:=ig (c:=109) rfl hf.2;have w1:word (p.line j) 1=word ws 0:=by rw[<-hW];simp[word]
  simp only[RP.lP,RP.fG,Bool.and_true,w1];have e1:o9 109=true:=rfl;simp only[e1,if_true,QP.dN,Bool.and_true,List.getD_cons_zero,List.getD_cons_succ];by_cases hk:q.aB (p.UY (word ws 0)) 109=true
  ·rw[xB H hq f1 p1 f1 p1 hk,xB H hq f2 p2 f1 p1 hk];have mY:q.aB ((p.find (bh (word ws 0))).toNat,kW (partOf (word ws 0))) 109=true:=hk;rw[hk,mY];simp[RP.UY]
  ·rw[Bool.not_eq_true]at hk;have:p.iY 109 (word ws 0) (word ws 0)=false:=by
    rcases sH H hq f1 p1 with⟨g1,g2⟩|⟨t,ht,g1,g2,g3⟩
    ·rw[RP.iY,g2];rfl
    ·rw[RP.UY,QP.aB,g1]at hk;have qM:t=0:=by
      have mY:(!(t==0))=false:=hk;simpa using mY
     rw[RP.iY,g2,qM];rfl
   rw[hk,this];simp
 ·by_cases lT:op=15
  ·subst lT;have UN:ah 15=[109]:=rfl;have OL:dW 15=[100]:=rfl;rw[OL]at L5⊢;rw[UN]at hf⊢;simp only[bc,Bool.and_true]at hf;simp only[RP.iw,Bool.and_true]at L5;have f1:=RP.lM L5 (by simp);have p1:=ig (c:=109) rfl hf;simp only[RP.lP,Bool.and_true,RP.fG];rw[GL H hq f1 p1];have e1:o9 109=true:=rfl;simp[e1,QP.dN,RP.UY]
  ·have OL:dW op=(ah op).map letter:=by rw[dW,ja lT]
   rw[OL]at L5⊢;obtain⟨hA,hC⟩:=GR hl h2 bR lT;have xX:(ah op).takeWhile o9++(ah op).dropWhile o9=ah op:=List.takeWhile_append_dropWhile;have:=GN H hq (word (p.line j) 1) _ hC (ah op) _ hA ws 0 (by rw[List.drop_zero,xX]) (by rw[xX];exact hf) (by rw[xX];exact L5);rw[xX]at this;rw[this];have:(op==12)=false:=by simp[bR]
   rw[this];simp
theorem Nz {p:RP}(H:sh p){q:QP}(R:LR p q p.lines.length)(hn:∀j,j<p.lines.length->p.names j=true):q.misfit=dY p.kj p.lines.length 0:=by
 have Uy:q.locals=p.iU:=by
  rw[R.locals,RP.iU,List.filter_eq_self.mpr];intro t ht;rw[H.lets]at ht;simp[(gj ht).1]
 have key:∀(m k:Nat),k+m=p.lines.length->(((((List.range p.lines.length).drop k).filter p.plain).map p.oV).find? fun l=> !q.fits l).map (·.num)=dY p.kj m k:=by
  intro m;induction m with
  |zero=>intro k hk;rw[jT (by simp;omega)];rfl
  |succ m ih=>
   intro k hk;have Iv:k<p.lines.length:=by omega
   rw[jE (by simpa using Iv),List.getElem_range,List.filter_cons,dY];cases hp:p.plain k
   ·have VQ:p.kj k=true:=by
     simp only[RP.plain,isLet,bV,Bool.and_eq_false_iff,Bool.not_eq_false']at hp;rw[RP.kj];rcases hp with h|h<;>simp[h]
    rw[ja (by simp),VQ,jb rfl];exact ih (k+1) (by omega)
   ·have VQ:p.kj k=p.types k:=by
     simp only[RP.plain,isLet,bV,Bool.and_eq_true,Bool.not_eq_true']at hp;rw[RP.kj,hp.1,hp.2];rfl
    have hf:=IX H Uy Iv hp (hn k Iv);rw[jb rfl,List.map_cons,List.find?_cons,VQ,hf];cases ht:p.types k
    ·simp[RP.oV]
    ·simpa using ih (k+1) (by omega)
 rw[QP.misfit,R.flat];have:=key p.lines.length 0 (by omega);rw[List.drop_zero]at this;exact this
def az (text:B)(raw:Bool):Option QP×Nat×Nat:=
 if(split 10 text).length>(if raw then 4000 else 120)then(none,1,0)
 else match (ay raw (br text) ⟨0,0,0⟩ 0).2.2 with
  |some k=>(none,2,k)
  |none=>
   if¬(ay raw (br text) ⟨0,0,0⟩ 0).2.1.sec=2 then(none,2,(split 10 text).length)
   else match (aR (countB (ay raw (br text) ⟨0,0,0⟩ 0).1) (ay raw (br text) ⟨0,0,0⟩ 0).1 0 QP.empty).2 with
    |some k=>(none,3,k)
    |none=>match (aR (countB (ay raw (br text) ⟨0,0,0⟩ 0).1) (ay raw (br text) ⟨0,0,0⟩ 0).1 0 QP.empty).1.misfit with
     |some k=>(none,4,k)
     |none=>(some (aR (countB (ay raw (br text) ⟨0,0,0⟩ 0).1) (ay raw (br text) ⟨0,0,0⟩ 0).1 0 QP.empty).1,0,0)
theorem mO (text:B)(raw:Bool):(az text raw).2=(bY text raw).2/\∀q,(az text raw).1=some q->∃p,(bY text raw).1=some p/\LR p q p.lines.length:=by
 by_cases hlong:(split 10 text).length>(if raw then 4000 else 120)
 ·have h':4000<(split 10 text).length\/(raw=false/\120<(split 10 text).length):=by
   cases raw
   ·exact .inr ⟨rfl,by simpa using hlong⟩
   ·exact .inl (by simpa using hlong)
  rw[az,jb hlong,bY,jb h'];exact⟨rfl,fun q h=>by cases h⟩
 ·have h':¬(4000<(split 10 text).length\/(raw=false/\120<(split 10 text).length)):=by
   cases raw
   ·simp at hlong⊢;omega
   ·simp at hlong⊢;omega
  obtain⟨hs,hn⟩:=rV raw (br text) (Sq.start raw) ⟨0,0,0⟩ rfl (lR.start raw) (by simp) (fun ws hw=>by
   simp only[br,List.mem_map]at hw;obtain⟨a,-,rfl⟩:=hw;exact iy _ _)
  have jy:(Sq.start raw).lines.length=0:=rfl;rw[jy]at hs hn;rw[az,ja hlong,bY,ja h'];cases xX:(ay raw (br text) ⟨0,0,0⟩ 0).2.2 with
  |some k=>
   obtain⟨q,hq⟩:=hs k xX;rw[hq];exact⟨rfl,fun q h=>by cases h⟩
  |none=>
   obtain⟨p,hp,R,pN,IB⟩:=hn xX;rw[hp];obtain⟨H,L9,dp⟩:=sh.read (br text) (Sq.start raw) p (sh.start raw) hp;have De:p.lines=br text:=by rw[dp];rfl
   have hlen:p.lines.length=(split 10 text).length:=by rw[De,ld]
   have GX:=R.Pm;have OF:=R.P2;simp only;rw[hlen]at GX;by_cases hd:(ay raw (br text) ⟨0,0,0⟩ 0).2.1.sec=2
   ·have hx:¬(p.inside (split 10 text).length=true\/p.blocks.length=0):=by
     rintro(h|h)
     ·have:=GX.mpr h;omega
     ·have:=OF.mpr h;omega
    rw[ja (by simp[hd]),ja hx];have hS:(ay raw (br text) ⟨0,0,0⟩ 0).1=(List.range p.lines.length).map p.eQ:=by
     rw[IB];apply List.ext_getElem
     ·simp[De]
     ·intro i h1 h2;simp only[List.length_map]at h1;rw[List.getElem_map,List.getElem_map,List.getElem_range,RP.eQ];have:p.line i=(br text)[i]:=by rw[RP.line,De,jA,jB h1];rfl
      rw[this]
    have Iq:countB (ay raw (br text) ⟨0,0,0⟩ 0).1=p.blocks.length:=by
     rw[hS,countB,H.blocks,RP.dC,List.filter_map,jc];congr 1;apply List.filter_congr
     intro j hj;have xW:j<p.lines.length:=by simpa using hj
     obtain⟨op,ho,-,-⟩:=sN H xW;have hb:=mj ho;simp only[Function.comp,RP.eQ,ho,Option.getD_some];rw[jX];simp only[beq_iff_eq,bV];exact hb.symm
    have mu:=oD H p.lines.length 0 QP.empty (by omega) (LR.start p);rw[List.drop_zero]at mu;rw[Iq,hS,mu.1,hlen];cases Tg:dY p.names (split 10 text).length 0 with
    |some k=>exact⟨rfl,fun q h=>by cases h⟩
    |none=>
     have hR:=mu.2 (by rw[hlen];exact Tg);have UA:∀j,j<p.lines.length->p.names j=true:=fun j hj=>AT p.names _ 0 Tg j (by omega) (by omega)
     have D5:=Nz H hR UA;simp only;rw[hlen]at D5;rw[<-hlen]at D5⊢;rw[D5];cases dY p.kj p.lines.length 0 with
     |some k=>exact⟨rfl,fun q h=>by cases h⟩
     |none=>exact⟨rfl,fun q h=>by cases h;exact⟨p,rfl,hR⟩⟩
   ·have hx:p.inside (split 10 text).length=true\/p.blocks.length=0:=by
     rcases Nat.lt_or_ge (ay raw (br text) ⟨0,0,0⟩ 0).2.1.sec 1 with h|h
     ·exact .inr (OF.mp (by omega))
     ·exact .inl (GX.mp (by omega))
    rw[jb hd,jb hx];exact⟨rfl,fun q h=>by cases h⟩
end Sq
end Go.Proofs.YtmlgajhhnojdjaaGreatDoor

import Derived.Test.YtmlgajhhnojdjaaGreatDoorRBJ
namespace Go.Proofs.YtmlgajhhnojdjaaGreatDoor
namespace Sim
open Go Sq Aux Go.Proofs.YtmlgajhhnojdjaaGreatDoor.Own Mac PrjS FlwA FlwU FlwV FlwX FlwT
def Vx:B->List B->Int->Int
 |[],_,d=>d
 |c::f,ws,d=>Vx f (ws.drop 1) (if c=35\/c=118 then kX (word ws 0)else d)
def MQ:B->List B->Int->Int
 |[],_,d=>d
 |c::f,ws,d=>MQ f (ws.drop 1) (if c=102 then(aA (word ws 0)).getD 0 else d)
theorem kO (ls:List (B×Nat))(nb:Nat):∀(f:B) (ws:List B) (l r:ab),cZ ls nb f ws l=some r->r.number=Vx f ws l.number/\r.flag=MQ f ws l.flag
 |[],ws,l,r,h=>by rw[cZ]at h;cases h;exact⟨rfl,rfl⟩
 |c::f,ws,l,r,h=>by
  rw[cZ]at h;rw[Vx,MQ];by_cases h1:c=35\/c=118
  ·have h2:¬c=102:=by rintro rfl;revert h1;decide
   rw[jb h1]at h⊢;rw[ja h2];have:=kO ls nb f (ws.drop 1) _ r h;rw[sf]at this;exact this
  ·rw[ja h1]at h⊢;by_cases h2:c=102
   ·rw[jb h2]at h⊢;exact kO ls nb f (ws.drop 1) _ r h
   ·rw[ja h2]at h⊢;split at h
    ·split at h
     ·cases h
     ·have:=kO ls nb f (ws.drop 1) _ r h;exact this
    ·split at h
     ·cases h
     ·have:=kO ls nb f (ws.drop 1) _ r h;exact this
theorem BG (p:RP):∀(f:B) (_:∀c∈f,gQ c=false) (ws:List B),p.du f ws=[]
 |[],_,_=>rfl
 |c::f,h,ws=>by rw[RP.du,h c (jM ..)];exact BG p f (fun x hx=>h x (jN _ hx)) _
theorem BF (p:RP)(C:B)(hC:∀c∈C,gQ c=false):∀(A:B) (_:∀c∈A,gQ c=true) (ws:List B),(p.du (A++C) ws).length=A.length/\∀j,j<A.length->(p.du (A++C) ws).getD j (0,0)=p.pk (word ws j)
 |[],_,ws=>by rw[List.nil_append,BG p C hC];exact⟨rfl,fun j hj=>absurd hj (Nat.not_lt_zero _)⟩
 |c::A,h,ws=>by
  obtain⟨h1,h2⟩:=BF p C hC A (fun x hx=>h x (jN _ hx)) (ws.drop 1);rw[jW,RP.du,h c (jM ..),jb rfl];refine⟨by rw[jY,h1];rfl,fun j hj=> ?_⟩;cases j with
  |zero=>rfl
  |succ j=>rw[List.getD_cons_succ,h2 j (by simpa using hj),bW]
theorem Jg:∀op:Fin 23,(∀c∈(ag op.val).takeWhile gQ,gQ c=true)/\(∀c∈(ag op.val).dropWhile gQ,gQ c=false):=by decide
structure Lk (p:RP)(ws:List B)(l:ab):Prop where
 op:word ws 0=bJ l.op
 lo:2<=l.op
 hi:l.op<23
 cQ:l.places.length=((ag l.op).takeWhile gQ).length
 pl:∀j,j<l.places.length->ai l j=p.pk (word ws (j+1))/\0<=p.find (aj (word ws (j+1)))/\bX (word ws (j+1))=true
 nm:l.op=2->l.number=kX (word ws 2)
 fl:l.op=17\/l.op=21->l.flag=kX (word ws 1)
 vl:l.op=17->(l.number==1)=(word ws 2==[49])
 n1:l.op=18->l.next.getD 0 0=(kX (word ws 1)).toNat
 n2:l.op=19\/l.op=20\/l.op=21->l.next.getD 0 0=(kX (word ws 2)).toNat/\l.next.getD 1 0=(kX (word ws 3)).toNat
theorem iE:∀(f:B) (ws:List B) (k:Nat) (hk:k<f.length),bh f ws=true->jq (word ws k) f[k]=true
 |c::f,ws,0,_,h=>by rw[bh,jH]at h;exact h.1
 |c::f,ws,k+1,hk,h=>by
  rw[bh,jH]at h;have:=iE f (ws.drop 1) k (by simpa using hk) h.2
  rwa [bW]at this
theorem yL {w:B}(h:jq w 102=true):(aA w).getD 0=kX w:=by
 have h1:(match aA w with|some n=>decide (n<50)|none=>false)=true:=h;have h2:=pB w;unfold kX;cases hn:number w with
 |none=>rw[hn]at h2;simp only at h2;rw[h2]
 |some n=>
  rw[hn]at h2;simp only at h2;split at h2
  ·rw[h2]
  ·rw[h2]at h1;cases h1
theorem lk_of {p:RP}(H:tM p){i:Nat}(hi:i<p.lines.length)(hp:p.plain i=true)(hn:p.names i=true):Lk p (p.line i) (p.aH i):=by
 obtain⟨op,ho,hl,h2,ax,-,gM,mQ,hf,hb,Ko⟩:=kT H hi hp hn;have hs:p.eM i=(op,(p.line i).drop 1):=by rw[RP.eM,ho];rfl
 have A0:=tv H hi hp;rw[hn]at A0;obtain⟨l,RE⟩:=Option.isSome_iff_exists.mp A0;have hq:p.aH i={l with num:=i}:=by rw[RP.aH,RE];rfl
 rw[hs,ez]at RE;obtain⟨Cq,ZV⟩:=kO _ _ _ _ _ _ RE;have Wn:(p.aH i).number=Vx (ag op) ((p.line i).drop 1) 0:=by rw[hq];exact Cq
 have XC:(p.aH i).flag=MQ (ag op) ((p.line i).drop 1) 0:=by rw[hq];exact ZV
 obtain⟨s1,s2⟩:=Jg ⟨op,hl⟩;have XR:=BF p _ s2 _ s1 ((p.line i).drop 1);simp only at XR;rw[List.takeWhile_append_dropWhile]at XR;have W:∀k,word ((p.line i).drop 1) k=word (p.line i) (k+1):=bW _;refine⟨by rw[ax];exact(gh ho).2,by rw[ax];exact h2,by rw[ax];exact hl,by rw[gM,ax];exact XR.1,?_,?_,?_,?_,?_,?_⟩
 ·intro j hj;rw[gM,XR.1]at hj;have ou:j<(ag op).length:=jK hj (List.takeWhile_sublist _).length_le;have hc:gQ (ag op)[j]=true:=by
   have e:((ag op).takeWhile gQ)[j]=(ag op)[j]:=(List.takeWhile_prefix gQ).getElem hj;rw[<-e];exact s1 _ (jL hj)
  have AX:=iE _ _ j ou hf;refine⟨?_,?_,?_⟩
  ·rw[ai,gM,XR.2 j hj,W]
  ·have ew:¬word (p.line i) 0=cx:=by
    simp only[RP.plain,isLet,Bool.and_eq_true,Bool.not_eq_true',beq_eq_false_iff_ne,ne_eq]at hp;exact hp.1
   have key:∀op:Fin 23,∀j:Fin 3,j.val<(ag op.val).length->gQ ((ag op.val).getD j.val 0)=true->j.val<(cu op.val).length/\(cu op.val).getD j.val 0∈[(105:UInt8),112,109,111,100]:=by decide
   have h3:∀op:Fin 23,(ag op.val).length<=3:=by decide
   have hk:=key ⟨op,hl⟩ ⟨j,jK ou (h3 ⟨op,hl⟩)⟩ ou (by rw[jA,jB ou];exact hc);have B8:j<(behind (word (p.line i) 0) p.raw).1.length:=by rw[hb];exact hk.1
   refine RP.iw hn ew j B8 ?_;have e:(behind (word (p.line i) 0) p.raw).1[j]=(cu op).getD j 0:=by
    rw[jA,<-hb,jB B8];rfl
   rw[e];exact hk.2
  ·have:=gC hc AX
   rwa [W]at this
 ·intro e;rw[ax]at e;subst e;rw[Wn];show kX (word (((p.line i).drop 1).drop 1) 0)=_
  rw[bW,W]
 ·intro e;rw[ax]at e;rw[XC];rcases e with e|e<;>subst e
  ·show(aA (word ((p.line i).drop 1) 0)).getD 0=_
   rw[yL (iE _ _ 0 (by decide) hf),W]
  ·show(aA (word ((p.line i).drop 1) 0)).getD 0=_
   rw[yL (iE _ _ 0 (by decide) hf),W]
 ·intro e;rw[ax]at e;subst e;rw[Wn];have h1:=iE _ _ 1 (by decide) hf;rw[W]at h1;have h3:(word (p.line i) 2==[48]||word (p.line i) 2==[49])=true:=h1;show(kX (word (((p.line i).drop 1).drop 1) 0)==1)=_
  rw[bW,W];rw[Bool.or_eq_true,beq_iff_eq,beq_iff_eq]at h3;rcases h3 with h3|h3<;>rw[show word (p.line i) (1+1)=word (p.line i) 2 from rfl,h3]<;>decide
 ·intro e;rw[ax]at e;subst e;rw[mQ];show((aA (word ((p.line i).drop 1) 0)).getD 0).toNat=_
  rw[fI (iE _ _ 0 (by decide) hf),W];rfl
 ·intro e;rw[ax]at e;rw[mQ];have hA:∀f:B,ag op=f->(∃c,f=[c,98,98]/\¬c=98)->(jw (ag op) ((p.line i).drop 1)).getD 0 0=(kX (word (p.line i) 2)).toNat/\(jw (ag op) ((p.line i).drop 1)).getD 1 0=(kX (word (p.line i) 3)).toNat:=by
   rintro f Ru ⟨c,rfl,hc⟩;rw[Ru]at hf⊢;have h1:=iE _ _ 1 (by simp) hf;have h2:=iE _ _ 2 (by simp) hf;rw[W]at h1 h2;rw[jw,ja hc,jw,jb rfl,jw,jb rfl,jw];simp only[List.getD_cons_zero,List.getD_cons_succ,bW];exact⟨by rw[fI h1];rfl,by rw[fI h2];rfl⟩
  rcases e with e|e|e<;>subst e
  ·exact hA _ rfl ⟨105,rfl,by decide⟩
  ·exact hA _ rfl ⟨111,rfl,by decide⟩
  ·exact hA _ rfl ⟨102,rfl,by decide⟩
def rE (p:RP)(at':Nat):List ab:=((List.range' at' (p.lines.length-at')).takeWhile p.plain).map p.aH
section
variable {text:B} {raw:Bool} {p:RP} {q:QP}
theorem tail_cons {i:Nat}(h:p.body i):rE p i=p.aH i::rE p (i+1):=by
 have hp:p.plain i=true:=dY.mpr h.2;have h1:=h.1;unfold rE;rw[show p.lines.length-i=(p.lines.length-(i+1))+1 by omega,List.range'_succ,List.takeWhile_cons,jb hp];rfl
theorem JR (p:RP)(i:Nat):∀d,p.ed i<=p.ed (i+d)
 |0=>jC _
 |d+1=>by have:=JR p i d;rw[<-Nat.add_assoc,p.dv];omega
theorem Gi (p:RP)(j:Nat):∀(n k:Nat),j+1<p.ed k->((List.range' k n).filter p.plain).filter (fun i=>p.ed i==j+1)=[]
 |0,_,_=>rfl
 |n+1,k,h=>by
  rw[List.range'_succ];have ih:=Gi p j n (k+1) (by have:=JR p k 1;omega);by_cases hp:p.plain k=true
  ·rw[List.filter_cons,jb hp,List.filter_cons,ja (by simp;omega)];exact ih
  ·rw[List.filter_cons,ja hp];exact ih
theorem MN (p:RP)(j:Nat):∀(n k:Nat),p.ed (k+n)<=j+1->(∀i,k<=i->i<k+n->p.ed i=j+1->p.plain i=false)->((List.range' k n).filter p.plain).filter (fun i=>p.ed i==j+1)=[]
 |0,_,_,_=>rfl
 |n+1,k,h,h2=>by
  rw[List.range'_succ];have ih:=MN p j n (k+1) (by rw[show k+1+n=k+(n+1) by omega];exact h) (fun i h3 h4=>h2 i (by omega) (by omega));by_cases hp:p.plain k=true
  ·rw[List.filter_cons,jb hp,List.filter_cons,ja ?_]
   ·exact ih
   ·intro e;have:=h2 k (jC _) (by omega) (by simpa using e);rw[hp]at this;cases this
  ·rw[List.filter_cons,ja hp];exact ih
theorem C8 (H:aF text raw p)(j:Nat):∀(n k:Nat),k+n=p.lines.length->p.ed k=j+1->((List.range' k n).filter p.plain).filter (fun i=>p.ed i==j+1)=(List.range' k n).takeWhile p.plain
 |0,_,_,_=>rfl
 |n+1,k,h,hc=>by
  rw[List.range'_succ,List.takeWhile_cons];by_cases hp:p.plain k=true
  ·have hB:=(dY.mp hp).2;have tl:p.ed (k+1)=j+1:=by rw[p.dv,hB];simpa using hc
   rw[List.filter_cons,jb hp,List.filter_cons,jb (by simp[hc]),jb hp,C8 H j n (k+1) (by omega) tl]
  ·rw[ja hp,List.filter_cons,ja hp];have hl:=H.pP (i:=k) (by omega) (by omega);have hB:ao (p.line k)=true:=by
    cases hb:ao (p.line k)with
    |true=>rfl
    |false=>exact absurd (dY.mpr ⟨hl,hb⟩) hp
   exact Gi p j n (k+1) (by rw[p.dv,hB];simp;omega)
theorem JO (h:fj text raw p q){j:Nat}(hj:j<p.blocks.length):q.blocks.getD j []=rE p (p.blocks.getD j 0+1):=by
 rw[h.block j,rE,vF];obtain⟨h1,h2,h3⟩:=RP.kj h.ok.pre.blocks hj;congr 1;generalize p.blocks.getD j 0=b at*;have hr:List.range p.lines.length=List.range' 0 (b+1)++List.range' (b+1) (p.lines.length-(b+1)):=by
  have:=List.range'_append_1 (s:=0) (m:=b+1) (n:=p.lines.length-(b+1));rw[Nat.zero_add]at this;rw[this,List.range_eq_range'];congr 1;omega
 have hc:p.ed (b+1)=j+1:=by rw[p.dv,h2,h3];rfl
 rw[hr,List.filter_append,List.filter_append,C8 h.ok j _ (b+1) (by omega) hc];have:((List.range' 0 (b+1)).filter p.plain).filter (fun i=>p.ed i==j+1)=[]:=by
  refine MN p j (b+1) 0 (by rw[Nat.zero_add,hc];exact jC _) (fun i _ hi e=> ?_);have:=JR p i (b-i);rw[show i+(b-i)=b by omega]at this;omega
 rw[this,List.nil_append]
end
end Sim
namespace Ex
open Go Go.RowKit Sq Aux PrjJ PrjK PrjL PrjM FlwA FlwE Go.Proofs.YtmlgajhhnojdjaaGreatDoor.Own
structure Br where
 yd:Yd
 al:List Int
 cs:List (Bool×Int)
 flags:List Bool
def WA (q:QP)(p:Nat×Nat):Bool:=q.bt p==3
def cellOf (q:QP)(p:Nat×Nat):Nat:=if WA q p then 24+p.1 else ah p
def Br.cell (b:Br)(q:QP)(p:Nat×Nat):Bool×Int:=b.cs.getD (cellOf q p) (false,0)
def Br.val (b:Br)(q:QP)(p:Nat×Nat):Int:=(b.cell q p).2
def Br.write (b:Br)(q:QP)(p:Nat×Nat)(v:Int):Br:={b with cs:=b.cs.set (cellOf q p) (true,v)}
section
variable {x a:Nat} {w w0 w1:World} {vm vt vi vm1 vt1:Value} {b:Br}
end
end Ex
namespace Ex
theorem hereExB:True:=trivial
end Ex
namespace Ex
theorem hereExC:True:=trivial
end Ex
namespace Ex
theorem hereExD:True:=trivial
end Ex
namespace Ex
theorem hereExE:True:=trivial
end Ex
namespace Ex
open Go Go.RowKit Sq Aux PrjJ PrjK PrjL PrjM PrjR PrjS PrjT FlwA FlwE Go.Proofs.YtmlgajhhnojdjaaGreatDoor.Own
def Br.cU (q:QP)(ts fs:List (Nat×Nat)):Nat->Br->Br
 |0,b=>b
 |k+1,b=>(Br.cU q ts fs k b).write q (ts.getD k (0,0)) ((Br.cU q ts fs k b).val q (fs.getD k (0,0)))
def Br.M4 (b:Br)(q:QP)(t f:Nat×Nat):Br:=Br.cU q (QP.ae q t) (QP.ae q f) (QP.ae q f).length b
def Br.move (b:Br)(q:QP)(t f:Nat×Nat):Br:=
 if WA q f=true/\(b.M4 q t f).val q f=1 then(b.M4 q t f).write q (t.1,3) ((b.M4 q t f).val q (f.1,3))else b.M4 q t f
section
variable {x a:Nat} {w w0 w1:World} {vm vt vi v u:Value} {b:Br} {q:QP}
end
end Ex
namespace Ex
theorem hereExG:True:=trivial
end Ex
namespace Ex
theorem hereExH:True:=trivial
end Ex
namespace Ex
open Go Go.RowKit Sq Aux PrjJ PrjK PrjL PrjM PrjR PrjS PrjT FlwA FlwE Go.Proofs.YtmlgajhhnojdjaaGreatDoor.Own
def Br.new (b:Br)(q:QP)(p:Nat×Nat)(v:Int):Br:=({b with yd:=b.yd.build v}:Br).write q p ((b.yd.made.length+1:Nat):Int)
section
variable {x a:Nat} {w w0:World} {vm vt vi v u:Value} {b:Br} {q:QP}
end
end Ex
namespace Ex
theorem hereExJ:True:=trivial
end Ex
namespace RunA
open Go Sq PrjS
def Whole (b:List ab):Prop:=∃ls l,b=ls++[l]/\18<=l.op/\∀m∈ls,m.op<18
structure Shp (raw:Bool)(o:fk)(q:QP):Prop where
 none:o.sec=0->q.blocks=[]
 sy:o.sec=1->∃bs b,q.blocks=bs++[b]/\(∀c∈bs,Whole c)/\∀m∈b,m.op<18
 whl:o.sec=2->∀c∈q.blocks,Whole c
 has:∀b∈q.blocks,∀l∈b,pE raw l.op=true
 sec:o.sec<=2
theorem Sh {ls:List (B×Nat)}{nb:Nat}{x:Nat×List B}{l:ab}(h:ez ls nb x=some l):l.op=x.1:=by
 rw[ez]at h;obtain⟨i1,-⟩:=l7 ls nb _ _ _ _ h (by simp) (by simp) (by simp) (by simp);exact i1
theorem JD {raw:Bool}{o:fk}{op:Nat}(h:(aQ raw o op).2=true):pE raw op=true:=by
 unfold aQ at h;split at h
 ·cases h
 ·rename_i hh;simpa using hh
theorem Tm (raw:Bool)(nb:Nat):∀(ls:List (List B)) (o:fk) (i j:Nat) (q0 q:QP),(aG raw ls o i).2.2=none->bc nb (aG raw ls o i).1 j q0=(q,none)->Shp raw o q0->Shp raw (aG raw ls o i).2.1 q
 |[],o,i,j,q0,q,_,h,hs=>by
  simp only[aG,bc,Prod.mk.injEq,and_true]at h;rw[<-h];exact hs
 |ws::r,o,i,j,q0,q,hn,h,hs=>by
  rw[aG]at hn h⊢;cases hx:eQ ws with
  |none=>rw[hx]at hn;cases hn
  |some x=>
   rw[hx]at hn h;simp only at hn h⊢;by_cases ha:(aQ raw o x.1).2=true
   ·rw[jb ha]at hn h⊢;have ih:=fun q1 hl lx=>Tm raw nb r (aQ raw o x.1).1 (i+1) (j+1) q1 q hn hl lx
    have Z1:=JD ha;have xW:=qB raw o x.1 hs.sec;rw[bc]at h;have hnh:¬pE raw x.1=false:=by rw[Z1];decide
    by_cases e0:x.1=0
    ·rw[jb e0]at h;split at h
     ·simp at h
     ·refine ih _ h ?_;have e:(aQ raw o x.1).1=⟨o.sec,o.locals+1,o.blocks⟩:=by rw[aQ,ja hnh,jb e0]
      rw[e];exact⟨hs.none,hs.sy,hs.whl,hs.has,hs.sec⟩
    ·rw[ja e0]at h;by_cases e1:x.1=1
     ·rw[jb e1]at h;refine ih _ h ?_;have e:aQ raw o x.1=(⟨1,o.locals,o.blocks+1⟩,decide (0<o.locals)&& !(o.sec==1)&&decide (o.blocks+1<=if raw then 2000 else 20)):=by rw[aQ,ja hnh,ja e0,jb e1]
      rw[e]at ha;simp only[Bool.and_eq_true,Bool.not_eq_true',beq_eq_false_iff_ne]at ha;rw[e];have hsec':=hs.sec;refine⟨fun h=>(by cases h),fun _=>⟨q0.blocks,[],rfl,fun c hc=> ?_,fun m hm=>(by cases hm)⟩,fun h=>(by cases h),fun b hb l hl=> ?_,by simp⟩
      ·by_cases h0:o.sec=0
       ·rw[hs.none h0]at hc;cases hc
       ·exact hs.whl (by have:=ha.1.2;omega) c hc
      ·simp only[QP.addBlock,List.mem_append,List.mem_singleton]at hb;rcases hb with hb|rfl
       ·exact hs.has b hb l hl
       ·cases hl
     ·rw[ja e1]at h;cases hl:ez q0.locals nb x with
      |none=>rw[hl]at h;simp at h
      |some l=>
       rw[hl]at h;have ax:=Sh hl;by_cases h1:o.sec=1
       ·obtain⟨bs,b,hb,hw,ho⟩:=hs.sy h1;have Ke:(q0.addLine {l with num:=j}).blocks=bs++[b++[{l with num:=j}]]:=by
         simp only[QP.addLine,hb];simp
        have Wi:∀b∈(q0.addLine {l with num:=j}).blocks,∀l∈b,pE raw l.op=true:=fun c hc m hm=>by
         rw[Ke]at hc;simp only[List.mem_append,List.mem_singleton]at hc;rcases hc with hc|rfl
         ·exact hs.has c (by rw[hb];simp[hc]) m hm
         ·simp only[List.mem_append,List.mem_singleton]at hm;rcases hm with hm|rfl
          ·exact hs.has b (by rw[hb];simp) m hm
          ·show pE raw l.op=true;rw[ax];exact Z1
        refine ih _ h ?_;by_cases sw:18<=x.1
        ·have e:(aQ raw o x.1).1=⟨2,o.locals,o.blocks⟩:=by rw[aQ,ja hnh,ja e0,ja e1,ja (by simp[h1]),jb sw]
         rw[e];refine⟨fun h=>(by cases h),fun h=>(by cases h),fun _ c hc=> ?_,Wi,by simp⟩;rw[Ke]at hc;simp only[List.mem_append,List.mem_singleton]at hc;rcases hc with hc|rfl
         ·exact hw c hc
         ·exact⟨b,_,rfl,by show 18<=l.op;omega,ho⟩
        ·have e:(aQ raw o x.1).1=o:=by rw[aQ,ja hnh,ja e0,ja e1,ja (by simp[h1]),ja sw]
         rw[e];refine⟨fun h=>by omega,fun _=>⟨bs,_,Ke,hw,fun m hm=> ?_⟩,fun h=>by omega,Wi,hs.sec⟩;simp only[List.mem_append,List.mem_singleton]at hm;rcases hm with hm|rfl
         ·exact ho m hm
         ·show l.op<18;omega
       ·exfalso;rw[aQ,ja hnh,ja e0,ja e1,jb h1]at ha;cases ha
   ·rw[ja ha]at hn;cases hn
structure Shape (q:QP):Prop where
 whole:∀b,b<q.blocks.length->Whole (q.blocks.getD b [])
 has:∀b,∀l∈q.blocks.getD b [],pE false l.op=true
 fits:∀b,∀l∈q.blocks.getD b [],q.fits l=true
theorem l6 {L:List (List ab)}{b:Nat}{l:ab}(h:l∈L.getD b []):L.getD b []∈L:=by
 rw[jA]at h⊢;cases hb:L[b]? with
 |none=>rw[hb]at h;cases h
 |some c=>exact List.mem_of_getElem? hb
theorem tC {text:B}{q:QP}(h:bd text false=(some q,0,0)):Shape q:=by
 by_cases dj:(split 10 text).length>(if false=true then 4000 else 120)
 ·rw[bd,jb dj]at h;cases h
 ·rw[bd,ja dj]at h;split at h
  ·cases h
  ·rename_i tO;split at h
   ·cases h
   ·rename_i xW;split at h
    ·cases h
    ·rename_i yU;split at h
     ·cases h
     ·rename_i hmis;simp only[Prod.mk.injEq,Option.some.injEq,and_true]at h;have hs:=Tm false (countB (aG false (aZ text) ⟨0,0,0⟩ 0).1) (aZ text) ⟨0,0,0⟩ 0 0 QP.empty q tO (by rw[<-h,<-yU]) ⟨fun _=>rfl,fun h=>(by cases h),fun h=>(by cases h),fun b hb=>by simp[QP.empty]at hb,by simp⟩;rw[h]at hmis;refine⟨fun b hb=>hs.whl (by simpa using xW) _ (by simp[hb]),fun b l hl=>hs.has _ (l6 hl) l hl,fun b l hl=> ?_⟩;simp only[QP.misfit,Option.map_eq_none_iff,List.find?_eq_none,Bool.not_eq_true',Bool.not_eq_false]at hmis;exact hmis l (List.mem_flatten.mpr ⟨_,l6 hl,hl⟩)
end RunA
namespace RunB
open Go Sq Aux Go.Proofs.YtmlgajhhnojdjaaGreatDoor.Own RunA PrjS FlwA FlwB FlwC FlwD FlwE FlwF FlwG FlwH FlwI FlwJ FlwK FlwM FlwO FlwP FlwQ FlwS FlwY
def ot (n v:Nat):Prop:=if n=0 then¬v&&&13=0 else¬v&&&2=0
theorem NZ {n u v:Nat}(h:ot n u)(hl:yY u v):ot n v:=by
 have key:∀m,¬u&&&m=0->¬v&&&m=0:=fun m hu hv=>hu (by
  rw[<-hl,Nat.and_or_distrib_right]at hv;apply Nat.eq_of_testBit_eq
  intro i;have:=congrArg (fun x=>x.testBit i) hv;simp only[Nat.testBit_or,Nat.testBit_and,Nat.zero_testBit]at this⊢
  revert this
  cases u.testBit i<;>cases m.testBit i<;>cases v.testBit i<;>simp)
 unfold ot at*;split at h
 ·rename_i e;rw[jb e];exact key _ h
 ·rename_i e;rw[ja e];exact key _ h
structure lC (q:QP)(X:List Nat)(b s:List Nat):Prop where
 lb:b.length=24
 ls:s.length=24
 at_:∀k,k<24->k∉X->¬q.bB (k/2)=0->ot (b.getD k 0) (s.getD k 0)
def j8 (q:QP)(s:List Nat)(o:Own.Own):Prop:=lC q [] o.boxes s
section
variable {q:QP} {X b s:List Nat}
theorem lC.put (h:lC q X b s)(i:Nat){n v:Nat}(hf:ot n v\/q.bB (i/2)=0){Y:List Nat}(hY:∀k,k∈X->k=i\/k∈Y):lC q Y (b.set i n) (s.set i v):=by
 refine⟨by simpa using h.lb,by simpa using h.ls,fun k hk hn ht=> ?_⟩;rw[dA,dA,h.lb,h.ls];by_cases e:i=k
 ·subst e;rw[jb ⟨rfl,hk⟩,jb ⟨rfl,hk⟩];exact hf.resolve_right ht
 ·rw[ja (fun x=>e x.1),ja (fun x=>e x.1)];refine h.at_ k hk (fun hx=> ?_) ht;rcases hY k hx with h1|h1
  ·exact e h1.symm
  ·exact hn h1
theorem lC.clear (h:lC q X b s)(i:Nat){Y:List Nat}(hY:∀k,k∈X\/k=i->k∈Y):lC q Y (b.set i 0) s:=by
 refine⟨by simpa using h.lb,h.ls,fun k hk hn ht=> ?_⟩;rw[dA,ja (fun x=>hn (hY k (.inr x.1.symm)))];exact h.at_ k hk (fun hx=>hn (hY k (.inl hx))) ht
theorem lC.free (h:lC q X b s)(i:Nat)(v:Nat)(ht:q.bB (i/2)=0):lC q X b (s.set i v):=by
 refine⟨h.lb,by simpa using h.ls,fun k hk hn htk=> ?_⟩;rw[dA,ja (fun x=>htk (by rw[<-x.1];exact ht))];exact h.at_ k hk hn htk
theorem lC.mono (h:lC q X b s){t:List Nat}(ht:t.length=24)(hl:ld s t):lC q X b t:=⟨h.lb,ht,fun k hk hn qv=>NZ (h.at_ k hk hn qv) (hl k hk)⟩
theorem BU:∀(ps:List (Nat×Nat)) {o:Own.Own} {s:List Nat},j8 q s o->j8 q (dC ps s) (Own.take ps o).2
 |[],_,_,h=>h
 |p::ps,o,s,h=>by
  rw[Own.take];refine BU ps (o:=o.clear p) (s:=s.set (ah p) (if p.2=3 then 8 else 1)) ?_;exact lC.put h (ah p) (.inl (by unfold ot;rw[jb rfl];split<;>decide)) (fun k hk=>by cases hk)
theorem BT:∀(ps:List (Nat×Nat)) {o:Own.Own} {X:List Nat} {s:List Nat},lC q X o.boxes s->lC q (X++ps.map ah) (Own.take ps o).2.boxes s
 |[],_,X,_,h=>by simpa [Own.take]using h
 |p::ps,o,X,s,h=>by
  rw[Own.take];have:=BT ps (o:=o.clear p) (X:=X++[ah p]) (s:=s) (h.clear (ah p) (fun k hk=>by simpa using hk));simpa using this
theorem II {m:Nat}:∀(ps:List (Nat×Nat)) (ns:List Nat) {o:Own.Own} {s:List Nat},ps.length=ns.length->(∀n∈ns,ot n m)->lC q (ps.map ah) o.boxes s->j8 q (gS m ps s) (Own.o7 ps ns o)
 |[],_,_,_,_,_,h=>h
 |p::ps,[],_,_,hl,_,_=>by cases hl
 |p::ps,n::ns,o,s,hl,hn,h=>by
  rw[Own.o7];refine II ps ns (o:=o.sA p n) (s:=s.set (ah p) m) (by simpa using hl) (fun k hk=>hn k (jN _ hk)) ?_;exact lC.put h (ah p) (.inl (hn n (jM ..))) (fun k hk=>by simpa using hk)
theorem Ig {m:Nat}{o:Own.Own}(h:j8 q s o)(ts frm:List (Nat×Nat))(hl:ts.length=frm.length)(hv:∀n∈(Own.take frm o).1,ot n m):j8 q (gS m ts (dC frm s)) (o.move ts frm):=by
 unfold Own.move;refine II ts _ (by rw[Go.Proofs.YtmlgajhhnojdjaaGreatDoor.Own.take_len];exact hl) hv ?_;rw[(im ts _).2.2.2];have:=BT ts (o:=(Own.take frm o).2) (X:=[]) (BU frm h);simpa using this
theorem A6 {n v:Nat}(h:jv 2 v=false)(hf:ot n v):¬n=0:=fun e=>by
 unfold ot at hf;rw[jb e]at hf;simp only[jv,Bool.not_eq_eq_eq_not,Bool.not_false,beq_iff_eq]at h;exact hf h
end
section
variable {q:QP}
theorem Hg {x:Nat×Nat}(h:q.bK x 105=true):q.bB x.1=0:=by
 unfold QP.bK QP.kind at h;split at h
 ·cases h
 ·rename_i t ht;have h0:t=0:=by simpa [gF]using h
  subst h0;split at ht
  ·split at ht<;>cases ht
  ·split at ht
   ·split at ht<;>cases ht
   ·simpa using ht
theorem A5 {x:Nat×Nat}(h:q.bK x 111=true)(hx:x.2<=3):q.bB x.1=3/\x.2=0:=by
 unfold QP.bK QP.kind at h;split at h
 ·cases h
 ·rename_i t ht;have h0:t=3:=by simpa [gF]using h
  subst h0;split at ht
  ·split at ht<;>cases ht
  ·split at ht
   ·split at ht<;>cases ht
   ·exact⟨by simpa using ht,by omega⟩
theorem qX {x:Nat×Nat}(h:q.bK x 112=true):¬q.bB x.1=0/\¬(x.2=0/\q.bB x.1=2)/\q.bt x=1:=by
 unfold QP.bK QP.kind at h;split at h
 ·cases h
 ·rename_i t ht;have h0:t=1:=by simpa [gF]using h
  subst h0;split at ht
  ·rename_i cg;split at ht
   ·rename_i h2;exact⟨by omega,by omega,by unfold QP.bt;rw[jb (by omega)]⟩
   ·cases ht
  ·split at ht
   ·rename_i h3;split at ht
    ·rename_i h4;exact⟨by omega,by omega,by unfold QP.bt;rw[jb (by omega)]⟩
    ·cases ht
   ·have:q.bB x.1=1:=by simpa using ht
    exact⟨by omega,by omega,by unfold QP.bt;rw[ja (by omega)];exact this⟩
theorem pK {x:Nat×Nat}(h:q.bK x 109=true):¬q.bB x.1=0:=by
 unfold QP.bK QP.kind at h;split at h
 ·cases h
 ·rename_i t ht;have h0:¬t=0:=by simpa [gF]using h
  split at ht
  ·split at ht
   ·omega
   ·cases ht
  ·split at ht
   ·split at ht
    ·omega
    ·cases ht
   ·have:q.bB x.1=t:=by simpa using ht
    omega
theorem dB (x:Nat×Nat):ah x/2=x.1:=by unfold ah;split<;>omega
theorem ig {x:Nat×Nat}(h:x.1<12):ah x<24:=by unfold ah;split<;>omega
structure kI (q:QP)(l:ab):Prop where
 ok:tS q.locals.length q.blocks.length l
 has:pE false l.op=true
 fits:q.fits l=true
theorem eU {l:ab}(h:q.fits l=true){j:Nat}(hj:j<l.places.length):q.bK (ai l j) ((ag l.op).getD j 0)=true:=by
 unfold QP.fits at h;rw[jH]at h;have key:∀(f:B) (ps:List (Nat×Nat)) (k j:Nat),q.fK f ps k=true->j<ps.length->q.bK (ps.getD j (0,0)) (f.getD (k+j) 0)=true:=by
  intro f ps;induction ps with
  |nil=>intro k j _ hj;simp at hj
  |cons x r ih=>
   intro k j h hj;rw[QP.fK,jH]at h;cases j with
   |zero=>simpa using h.1
   |succ j=>
    have:=ih (k+1) j h.2 (by simpa using hj);rw[show k+1+j=k+(j+1) by omega]at this;simpa using this
 have:=key _ _ 0 j h.1 hj;rw[Nat.zero_add]at this;exact this
theorem N0 {l:ab}(h:q.fits l=true)(cg:l.op=12):q.bt (ai l 0)=q.bt (ai l 1):=by
 unfold QP.fits at h;rw[jH,cg]at h;simpa [ai]using h.2
end
end RunB
end Go.Proofs.YtmlgajhhnojdjaaGreatDoor

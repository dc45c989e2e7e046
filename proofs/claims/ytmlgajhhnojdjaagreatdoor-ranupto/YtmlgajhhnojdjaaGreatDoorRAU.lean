import Derived.Test.YtmlgajhhnojdjaaGreatDoorRAT
namespace Go.Proofs.YtmlgajhhnojdjaaGreatDoor
namespace FlwV
open Go Sq FlwU PrjS
theorem H7 (nb:Nat):∀(S:List (Nat×List B)) (i:Nat) (q0 q:QP) (c:Nat->Nat),bc nb S i q0=(q,none)->
  (∀k x,S[k]?=some x->c (i+k+1)=c (i+k)+(if x.1=1 then 1 else 0))->(∀k x,S[k]?=some x->¬x.1=0->¬x.1=1->1<=c (i+k))->q0.blocks.length=c i->q.blocks.length=c (i+S.length)
 |[],i,q0,q,c,h,_,_,hl=>by simp only[bc,Prod.mk.injEq,and_true]at h;rw[<-h];exact hl
 |x::S,i,q0,q,c,h,hc,hp,hl=>by
  have h0:=hc 0 x rfl;have tl:∀k y,S[k]?=some y->c (i+1+k+1)=c (i+1+k)+(if y.1=1 then 1 else 0):=fun k y hy=>by
   have:=hc (k+1) y (by simpa using hy);rw[show i+1+k=i+(k+1) by omega];exact this
  have Cr:∀k y,S[k]?=some y->¬y.1=0->¬y.1=1->1<=c (i+1+k):=fun k y hy=>by
   have:=hp (k+1) y (by simpa using hy);rw[show i+1+k=i+(k+1) by omega];exact this
  have key:∀q1:QP,bc nb S (i+1) q1=(q,none)->q1.blocks.length=c (i+1)->q.blocks.length=c (i+(x::S).length):=fun q1 h1 h2=>by
   have:=H7 nb S (i+1) q1 q c h1 tl Cr h2;rw[this,jY];congr 1;omega
  rw[bc]at h;simp only[Nat.add_zero]at h0;by_cases e0:x.1=0
  ·rw[jb e0]at h;rw[ja (by omega)]at h0;split at h
   ·simp at h
   ·exact key _ h (by simpa [QP.addLocal]using hl.trans (by omega))
  ·rw[ja e0]at h;by_cases e1:x.1=1
   ·rw[jb e1]at h;rw[jb e1]at h0;exact key _ h (by simp[QP.addBlock];omega)
   ·rw[ja e1]at h;rw[ja e1]at h0;have h1:=hp 0 x rfl e0 e1;simp only[Nat.add_zero]at h1;split at h
    ·simp at h
    ·rename_i l _;exact key _ h (by simp[QP.addLine];omega)
structure fj (text:B)(raw:Bool)(p:RP)(q:QP):Prop where
 ref:(aK text raw).1=some p
 ok:aF text raw p
 lr:LR p q p.lines.length
 MW:yA p.ed q
 Yo:Jy q.blocks.length q
 len:q.blocks.length=p.blocks.length
theorem Px {text:B}{raw:Bool}{q:QP}(h:(bd text raw).1=some q):∃p,fj text raw p q:=by
 obtain⟨p,hp,R⟩:=(yf text raw).2 q h;have gX:aF text raw p:=by
  have e:aK text raw=(some p,(aK text raw).2.1,(aK text raw).2.2):=by rw[<-hp]
  exact(jz e).1
 have H:=gX.pre;by_cases dj:(split 10 text).length>(if raw then 4000 else 120)
 ·rw[bd,jb dj]at h;cases h
 ·rw[bd,ja dj]at h;split at h
  ·cases h
  ·rename_i tO;split at h
   ·cases h
   ·split at h
    ·cases h
    ·rename_i yU;split at h
     ·cases h
     ·simp only[Option.some.injEq]at h;obtain⟨-,hn⟩:=tH raw (aZ text) (Sq.start raw) ⟨0,0,0⟩ rfl (oo.start raw) (by simp) (fun ws hw=>by
       simp only[aZ,List.mem_map]at hw;obtain⟨a,-,rfl⟩:=hw;exact fw _ _)
      have zM:(Sq.start raw).lines.length=0:=rfl;rw[zM]at hn;obtain⟨-,-,-,-,Ks⟩:=hn tO;have hS:(aG raw (aZ text) ⟨0,0,0⟩ 0).1=(List.range p.lines.length).map p.eM:=by
       rw[Ks,<-gX.lines];apply List.ext_getElem
       ·simp
       ·intro i h1 h2;simp only[List.length_map]at h1;rw[List.getElem_map,List.getElem_map,List.getElem_range,RP.eM];have:p.line i=p.lines[i]:=by rw[RP.line,jA,jB h1];rfl
        rw[this]
      rw[hS]at yU h;have xt:bc (countB ((List.range p.lines.length).map p.eM)) ((List.range p.lines.length).map p.eM) 0 QP.empty=(q,none):=Prod.ext h yU;have Er:∀k x,((List.range p.lines.length).map p.eM)[k]?=some x->k<p.lines.length/\x=p.eM k:=fun k x hx=>by
       rw[jJ]at hx;by_cases hk:k<p.lines.length
       ·rw[List.getElem?_range hk]at hx;simp only[Option.map_some,Option.some.injEq]at hx;exact⟨hk,hx.symm⟩
       ·rw[jG (by simp;omega)]at hx;cases hx
      have ax:∀k,k<p.lines.length->(p.eM k).1<23/\((p.eM k).1=1↔ao (p.line k)=true)/\((p.eM k).1=0↔isLet (p.line k)=true):=fun k hk=>by
       obtain⟨op,ho,hl,-⟩:=vQ H hk;have e:(p.eM k).1=op:=by rw[RP.eM,ho];rfl
       rw[e];refine⟨hl,?_,?_⟩
       ·rw[ao,beq_iff_eq];exact(oH ho).symm
       ·rw[isLet,beq_iff_eq];exact(Bc ho).symm
      have hc:∀k x,((List.range p.lines.length).map p.eM)[k]?=some x->p.ed (0+k+1)=p.ed (0+k)+(if x.1=1 then 1 else 0):=fun k x hx=>by
       obtain⟨hk,rfl⟩:=Er k x hx;rw[Nat.zero_add,p.dv];congr 1;by_cases hb:ao (p.line k)=true
       ·rw[jb hb,jb ((ax k hk).2.1.mpr hb)]
       ·rw[ja hb,ja (fun e=>hb ((ax k hk).2.1.mp e))]
      have gM:∀k x,((List.range p.lines.length).map p.eM)[k]?=some x->¬x.1=0->¬x.1=1->1<=p.ed (0+k):=fun k x hx h0 h1=>by
       obtain⟨hk,rfl⟩:=Er k x hx;rw[Nat.zero_add];have hL:isLet (p.line k)=false:=by
        cases hL:isLet (p.line k)
        ·rfl
        ·exact absurd ((ax k hk).2.2.mpr hL) h0
       have hB:ao (p.line k)=false:=by
        cases hB:ao (p.line k)
        ·rfl
        ·exact absurd ((ax k hk).2.1.mpr hB) h1
       exact(gX.bZ ⟨hk,hL,hB⟩).2
      have hcz:QP.empty.blocks.length=p.ed 0:=rfl;have hlen:q.blocks.length=p.blocks.length:=by
       rw[R.blocks];congr 1;rw[List.filter_eq_self];intro b hb;rw[H.blocks]at hb;have:=(cI hb).1;simp[this]
      have hqlen:=H7 _ _ 0 _ _ p.ed xt hc gM hcz;have Ki:countB ((List.range p.lines.length).map p.eM)=p.blocks.length:=by
       rw[countB,H.blocks,RP.bQ,List.filter_map,jc];congr 1;apply List.filter_congr
       intro j hj;have Jr:j<p.lines.length:=by simpa using hj
       rw[jX];simp only[Function.comp,beq_iff_eq];exact(ax j Jr).2.1
      refine⟨p,hp,gX,R,zT p.ed _ _ 0 _ _ xt hc gM hcz (GX _),?_,hlen⟩;have:=oU _ _ 0 _ _ xt (fun x hx=>by
       obtain⟨k,hk,rfl⟩:=List.mem_map.mp hx;exact(ax k (by simpa using hk)).1) ⟨fun x hx=>by simp[QP.empty]at hx,fun b hb=>by simp[QP.empty]at hb⟩
      rw[Ki,<-hlen]at this;exact this
section
variable {text:B} {raw:Bool} {p:RP} {q:QP}
theorem fj.locals (h:fj text raw p q):q.locals=p.iv:=by
 rw[h.lr.locals,RP.iv,List.filter_eq_self.mpr];intro t ht;rw[h.ok.pre.lets]at ht;have:=(cI ht).1;simp[this]
theorem fj.aW (h:fj text raw p q):q.locals.length<=12:=by
 rw[h.locals,RP.iv,jc];exact h.ok.pre.aW
theorem DH (p:RP)(i:Nat):(p.aH i).num=i:=rfl
def vF (p:RP)(j m:Nat):List Nat:=((List.range m).filter p.plain).filter fun i=>p.ed i==j+1
theorem fj.block (h:fj text raw p q)(j:Nat):q.blocks.getD j []=(vF p j p.lines.length).map p.aH:=by
 have h1:=yQ (fun l:ab=>p.ed l.num) q.blocks 1 j (fun j l hl=>by rw[h.MW j l hl];omega);rw[h1,h.lr.flat,List.filter_map,vF];congr 1;apply List.filter_congr
 intro i _;simp only[Function.comp,DH];rw[show 1+j=j+1 by omega]
theorem vG (p:RP)(j m:Nat):vF p j (m+1)=vF p j m++if p.plain m&&p.ed m==j+1 then [m]else []:=by
 unfold vF;rw[iD,List.filter_append];congr 1;cases p.plain m
 ·rfl
 ·rw[jb rfl,Bool.true_and];cases h:(p.ed m==j+1)
  ·rw[List.filter_cons,h];rfl
  ·rw[List.filter_cons,h];rfl
theorem dY {i:Nat}:p.plain i=true↔(isLet (p.line i)=false/\ao (p.line i)=false):=by
 simp[RP.plain]
end
end FlwV
namespace FlwW
open Go Sq Aux FlwA FlwB FlwC FlwD FlwE FlwF FlwG FlwH FlwI FlwJ FlwK FlwM FlwO FlwP FlwQ FlwS FlwT FlwU FlwV
theorem xb (p:RP):∀(f:B) (_:∀c∈f,c∈([105,111,112,109,35,98,102,118]:List UInt8)) (ws:List B),(p.placesOf (f.map letter) ws).map toQ=p.du f ws
 |[],_,_=>rfl
 |c::f,hc,ws=>by
  have ih:=xb p f (fun x hx=>hc x (jN _ hx)) (ws.drop 1);have hk:dV (letter c)=gQ c:=by
   have:=hc c (jM ..);simp only[List.mem_cons,List.not_mem_nil,or_false]at this;rcases this with rfl|rfl|rfl|rfl|rfl|rfl|rfl|rfl<;>rfl
  rw[List.map_cons,RP.placesOf,RP.du,hk];cases gQ c
  ·exact ih
  ·rw[jb rfl,jb rfl,List.map_cons,ih];rfl
theorem xc (p:RP):∀(f:B) (ws:List B) (x:bD),x∈p.placesOf f ws->∃k,∃hk:k<f.length,dV f[k]=true/\x=p.placeOf (word ws k)
 |[],_,x,h=>by cases h
 |c::f,ws,x,h=>by
  rw[RP.placesOf]at h;have hrec:x∈p.placesOf f (ws.drop 1)->∃k,∃hk:k<(c::f).length,dV (c::f)[k]=true/\x=p.placeOf (word ws k):=fun h=>by
   obtain⟨k,hk,h1,h2⟩:=xc p f (ws.drop 1) x h;refine⟨k+1,by simpa using hk,by simpa using h1,?_⟩;rw[h2,bW]
  split at h
  ·rename_i hc;rcases jP.mp h with h|h
   ·exact⟨0,by simp,hc,h⟩
   ·exact hrec h
  ·exact hrec h
section
variable {text:B} {p:RP} {q:QP}
theorem zD {raw:Bool}(h:fj text raw p q){i:Nat}(hb:p.body i):Ab (p.aH i) (p.lz i):=by
 have hp:p.plain i=true:=dY.mpr hb.2;obtain⟨op,ho,hl,h2,ax,-,gM,-,hf,Jp,-⟩:=kT h.ok.pre hb.1 hp (h.ok.names i hb.1);refine⟨by rw[ax];exact hl,?_,?_,fun j=> ?_⟩
 ·rw[ax];exact(gh ho).2
 ·rw[gM];show _=(p.placesOf (behind (word (p.line i) 0) p.raw).1 ((p.line i).drop 1)).map toQ
  rw[Jp,cu];by_cases sv:op=15
  ·subst sv;rfl
  ·rw[ja sv,xb p _ (rI hl h2)]
 ·unfold lu.w;rw[jA];cases hx:(p.lz i).places[j]? with
  |none=>exact .inl rfl
  |some x=>
   have hm:x∈p.placesOf (behind (word (p.line i) 0) p.raw).1 ((p.line i).drop 1):=List.mem_of_getElem? hx;obtain⟨k,hk,h1,h2⟩:=xc p _ _ x hm;have:=(h.ok.place hb rfl k hk h1).1.part;rw[bW]at h2;rw[Option.getD_some,h2];exact this
theorem zE {raw:Bool}(h:fj text raw p q):xw q p.lT:=by
 have key:∀n,(∃t,t<4/\q.bB n=t/\p.lT.bB n=kindWord t)\/(q.bB n=0/\p.lT.bB n=[]):=fun n=>by
  by_cases hn:n<p.lets.length
  ·left;have hm:p.lets[n]∈p.bQ isLet:=by rw[<-h.ok.pre.lets];exact jL hn
   have hx:=cI hm;have hf:=h.ok.pre.form _ hx.1;have ew:word (p.line p.lets[n]) 0=cx:=by simpa [isLet]using hx.2
   rw[dJ,jb ew]at hf;simp only[Bool.and_eq_true,decide_eq_true_eq]at hf;obtain⟨t,ht,ht4,X5⟩:=tJ hf.2;refine⟨t,ht4,?_,?_⟩
   ·rw[QP.bB,h.locals,RP.iv,jA,jJ,jB hn];simp only[Option.map_some,Option.getD_some,RP.Bj];rw[ht];rfl
   ·rw[dU.bB,RP.lT,RP.rb,jA,jJ,jB hn];simp only[Option.map_some,Option.getD_some];exact X5
  ·right;constructor
   ·rw[QP.bB,h.locals,RP.iv,jA,jG (by simp;omega)];rfl
   ·rw[dU.bB,RP.lT,RP.rb,jA,jG (by simp;omega)];rfl
 have k4:∀t,t<4->(t=2↔kindWord t=cm)/\(t=3↔kindWord t=eH):=by decide
 constructor
 ·intro n;rcases key n with⟨t,h4,h1,h2⟩|⟨h1,h2⟩
  ·rw[h1,h2];exact(k4 t h4).1
  ·rw[h1,h2];exact⟨fun x=>absurd x (by decide),fun x=>absurd x (by decide)⟩
 ·intro n;rcases key n with⟨t,h4,h1,h2⟩|⟨h1,h2⟩
  ·rw[h1,h2];exact(k4 t h4).2
  ·rw[h1,h2];exact⟨fun x=>absurd x (by decide),fun x=>absurd x (by decide)⟩
def iX (p:RP)(q:QP)(U:Nat->List Nat):Nat->List Nat
 |0=>ar
 |i+1=>if ao (p.line i)=true then U (p.ed i)else bm q (p.aH i) (iX p q U i)
theorem xC (h:aF text false p){m:Nat}(hb:p.body (m+1))(hB:ao (p.line m)=false):p.body m/\ends (word (p.line m) 0)=false/\p.ed (m+1)=p.ed m:=by
 have hi:m<p.lines.length:=by have:=hb.1;omega
 have hc:p.ed (m+1)=p.ed m:=by rw[p.dv,hB];rfl
 have Xv:1<=p.ed m:=by have:=(h.bZ hb).2;rw[hc]at this;exact this
 refine⟨⟨hi,h.pP hi Xv,hB⟩,?_,hc⟩;cases he:ends (word (p.line m) 0)
 ·rfl
 ·exfalso;have h1:=(h.bZ hb).1;have hw:¬word (p.line m) 0=aR:=by simpa [ao]using hB
  rw[gE p m hi,ja hw,he]at h1;cases h1
theorem tY (h:fj text false p q){U:Nat->List Nat}:∀i,p.body i->eI (U (p.aJ i))->eI (iX p q U i)
 |0,hb,_=>by have:=(h.ok.bZ hb).2;simp[RP.ed]at this
 |m+1,hb,hU=>by
  rw[iX];by_cases hB:ao (p.line m)=true
  ·rw[jb hB];rw[oG hB]at hU;exact hU
  ·have Ep:ao (p.line m)=false:=by simpa using hB
   rw[ja hB];rw[qH Ep]at hU;exact gm _ _ (tY h m (xC h.ok hb Ep).1 hU)
def ss (s:List Nat)(t:WS):Prop:=Rel (fun k=>s.getD k 0) t
theorem E3 {s:List Nat}{f:Nat->Nat}{t:WS}(h:Ag s f)(hr:Rel f t):ss s t:=fun k hk=>(h.eq k hk).trans (hr k hk)
theorem xy (h:fj text false p q){U:Nat->List Nat}{EW:Nat->WS}(hE:∀b,(EW b).ak.length=24):∀i,p.body i->eI (U (p.aJ i))->ss (U (p.aJ i)) (EW (p.aJ i))->ss (iX p q U i) (p.along EW i)
 |0,hb,_,_=>by have:=(h.ok.bZ hb).2;simp[RP.ed]at this
 |m+1,hb,hU,hr=>by
  rw[iX,RP.along];by_cases hB:ao (p.line m)=true
  ·rw[jb hB,jb hB];rw[oG hB]at hr;exact hr
  ·have Ep:ao (p.line m)=false:=by simpa using hB
   rw[ja hB,ja hB];rw[qH Ep]at hU hr;have FA:=(xC h.ok hb Ep).1;have ih:=xy h hE m FA hU hr;have hs:=tY h m FA hU;exact E3 (My (zE h) (zD h FA) hs.len) (h.ok.M9 FA (fG hE m) ih)
end
end FlwW
namespace FlwX
open Go Sq Aux FlwA FlwB FlwC FlwD FlwE FlwF FlwG FlwH FlwI FlwJ FlwK FlwM FlwO FlwP FlwQ FlwS FlwT FlwU FlwV FlwW
theorem fI {w:B}(h:jq w 98=true):(aA w).getD 0=(number w).getD 0:=by
 have h1:(aA w).isSome=true:=h;have h2:=pB w;cases hn:number w with
 |none=>rw[hn]at h2;rw[h2]at h1;cases h1
 |some n=>
  rw[hn]at h2;simp only at h2;split at h2
  ·rw[h2]
  ·rw[h2]at h1;cases h1
theorem x9:∀(f:B) (_:∀c∈f,¬c=98) (ws:List B),jw f ws=[]
 |[],_,_=>rfl
 |c::f,h,ws=>by
  rw[jw,ja (h c (jM ..))];exact x9 f (fun x hx=>h x (jN _ hx)) _
theorem DT:∀op:Fin 23,op.val<18\/op.val=22->∀c∈ag op.val,¬c=98:=by decide
theorem Sr:∀op:Fin 23,bJ op.val=bT↔op.val=20:=by decide
theorem Rc (k:Nat):([78]:B).getD k 0=78↔k=0:=by
 match k with
 |0=>simp
 |k+1=>simp
theorem AP {c:UInt8}(hc:¬c=78)(k:Nat):([c,78,78]:B).getD k 0=78↔(k=1\/k=2):=by
 match k with
 |0=>simp[hc]
 |1=>simp
 |2=>simp
 |k+3=>simp
section
variable {text:B} {p:RP} {q:QP}
def tz (p:RP)(i k:Nat)(s:List Nat):List Nat:=if word (p.line i) 0=bT then gS (if k=1 then 4 else 2) [(p.aH i).places.getD 0 (0,0)] s else s
def tgt (p:RP)(i k:Nat):Nat:=((number (word (p.line i) (k+1))).getD 0).toNat
theorem VL (x:Nat×Nat)(s:List Nat):gS 2 [x] (gS 4 [x] s)=gS 2 [x] s:=by
 show(s.set (ah x) 4).set (ah x) 2=s.set (ah x) 2
 rw[List.set_set]
theorem LA (h:fj text false p q){i:Nat}(hb:p.body i)(he:ends (word (p.line i) 0)=false):(p.aH i).next=[]:=by
 have hp:p.plain i=true:=dY.mpr hb.2;obtain⟨op,ho,hl,h2,ax,-,gM,mQ,hf,Jp,-⟩:=kT h.ok.pre hb.1 hp (h.ok.names i hb.1);have Jq:=zH ho;rw[he]at Jq;rw[mQ];exact x9 _ (DT ⟨op,hl⟩ (.inl (by simpa using Jq.symm))) _
theorem DB (h:fj text false p q){i:Nat}(hb:p.body i)(s:List Nat)(x:Nat×List Nat):
  x∈kR (p.aH i) (p.aH i).next 0 s↔∃k,(behind (word (p.line i) 0) p.raw).1.getD k 0=78/\x=(tgt p i k,tz p i k s):=by
 have hp:p.plain i=true:=dY.mpr hb.2;obtain⟨op,ho,hl,h2,ax,-,gM,mQ,hf,Jp,-⟩:=kT h.ok.pre hb.1 hp (h.ok.names i hb.1);have hw:=(gh ho).2;have hm:=Sr ⟨op,hl⟩;simp only at hm;rw[<-hw]at hm;have w1:word ((p.line i).drop 1) 0=word (p.line i) 1:=by rw[bW]
 have w2:word (((p.line i).drop 1).drop 1) 0=word (p.line i) 2:=by rw[bW,bW]
 have w3:word ((((p.line i).drop 1).drop 1).drop 1) 0=word (p.line i) 3:=by rw[bW,bW,bW]
 rw[Jp];by_cases UZ:op<18\/op=22
 ·rw[mQ,x9 _ (DT ⟨op,hl⟩ UZ)];refine⟨fun hx=>(by cases hx),fun⟨k,hk,_⟩=> ?_⟩;exfalso;have key:∀op:Fin 23,op.val<18\/op.val=22->∀c∈cu op.val,¬c=78:=by decide
  rw[jA]at hk;cases hg:(cu op)[k]? with
  |none=>rw[hg]at hk;exact absurd hk (by decide)
  |some c=>
   rw[hg]at hk;exact key ⟨op,hl⟩ UZ c (List.mem_of_getElem? hg) hk
 ·by_cases e18:op=18
  ·subst e18;have hn:¬word (p.line i) 0=bT:=fun e=>absurd (hm.mp e) (by decide)
   have RT:ag 18=[98]:=rfl;have hbh:cu 18=[78]:=rfl;rw[RT]at hf mQ;simp only[bh,Bool.and_true,w1]at hf;simp only[jw,if_true,w1,fI hf]at mQ;rw[hbh,mQ];simp only[kR,cv,ax,Rc,List.mem_singleton];rw[ja (by decide)];constructor
   ·intro hx;exact⟨0,rfl,by rw[hx,tz,ja hn];rfl⟩
   ·rintro⟨k,rfl,hx⟩;rw[hx,tz,ja hn];rfl
  ·have h3:op=19\/op=20\/op=21:=by omega
   obtain⟨c,kq,oa,RT,hbh⟩:∃c:UInt8,¬c=98/\¬letter c=78/\ag op=[c,98,98]/\cu op=[letter c,78,78]:=by
    rcases h3 with rfl|rfl|rfl
    ·exact⟨105,by decide,by decide,rfl,rfl⟩
    ·exact⟨111,by decide,by decide,rfl,rfl⟩
    ·exact⟨102,by decide,by decide,rfl,rfl⟩
   rw[RT]at hf mQ;simp only[bh,Bool.and_eq_true,Bool.and_true,w1,w2,w3]at hf;rw[jw,ja kq]at mQ;simp only[jw,if_true,w2,w3,fI hf.2.1,fI hf.2.2]at mQ;rw[hbh,mQ];simp only[kR,AP oa,List.mem_cons,List.not_mem_nil,or_false];by_cases e20:op=20
   ·have hn:word (p.line i) 0=bT:=hm.mpr e20;have s1:cv (p.aH i) 0 s=tz p i 1 s:=by rw[cv,tz,ax,jb e20,jb hn];rfl
    have s2:cv (p.aH i) (0+1) (tz p i 1 s)=tz p i 2 s:=by
     rw[cv,tz,tz,ax,jb e20,jb hn,jb hn,ja (by decide),jb rfl,ja (by decide),VL]
    rw[s1,s2];constructor
    ·rintro(hx|hx)
     ·exact⟨1,.inl rfl,hx⟩
     ·exact⟨2,.inr rfl,hx⟩
    ·rintro⟨k,rfl|rfl,hx⟩
     ·exact .inl hx
     ·exact .inr hx
   ·have hn:¬word (p.line i) 0=bT:=fun e=>e20 (hm.mp e)
    have s1:∀j s,cv (p.aH i) j s=s:=fun j s=>by rw[cv,ax,ja e20]
    have s2:∀k s,tz p i k s=s:=fun k s=>by rw[tz,ja hn]
    simp only[s1,s2];constructor
    ·rintro(hx|hx)
     ·exact⟨1,.inl rfl,hx⟩
     ·exact⟨2,.inr rfl,hx⟩
    ·rintro⟨k,rfl|rfl,hx⟩
     ·exact .inl hx
     ·exact .inr hx
theorem F3 (p:RP)(i:Nat):∀d,p.ed i<=p.ed (i+d)
 |0=>jC _
 |d+1=>by rw[<-Nat.add_assoc,p.dv];have:=F3 p i d;omega
theorem JQ (p:RP){i j:Nat}(h:i<=j):p.ed i<=p.ed j:=by
 have:=F3 p i (j-i)
 rwa [show i+(j-i)=j by omega]at this
theorem Un (h:fj text false p q):p.ed p.lines.length=p.blocks.length:=by
 rw[h.ok.pre.blocks];rfl
theorem D8 (h:fj text false p q){i:Nat}(hb:p.body i):p.ed i=p.aJ i+1/\p.aJ i<q.blocks.length:=by
 have h1:=(h.ok.bZ hb).2;have h2:=JQ p (Nat.le_of_lt hb.1);rw[Un h,<-h.len]at h2;unfold RP.aJ;omega
theorem Vc (p:RP){j m:Nat}(h:p.ed m<=j):vF p j m=[]:=by
 unfold vF;rw[List.filter_eq_nil_iff];intro i hi;have aL:i<m:=by simp at hi;exact hi.1
 have:=JQ p (Nat.le_of_lt aL);simp;omega
def QS (g:ab->List Nat->List Nat)(ls:List ab)(s:List Nat):List Nat:=ls.foldl (fun s l=>g l s) s
theorem xI (h:fj text false p q)(U:Nat->List Nat){g:ab->List Nat->List Nat}(hg:∀m,p.body m->ends (word (p.line m) 0)=false->∀s,g (p.aH m) s=bm q (p.aH m) s)(j:Nat):
  ∀m,p.body m->p.ed m=j+1->QS g ((vF p j m).map p.aH) (U j)=iX p q U m
 |0,hb,_=>by have:=(h.ok.bZ hb).2;simp[RP.ed]at this
 |m+1,hb,hc=>by
  rw[iX];by_cases hB:ao (p.line m)=true
  ·rw[jb hB];rw[p.dv,hB,jb rfl]at hc;have hpm:p.plain m=false:=by simp[RP.plain,hB]
   rw[vG,hpm,Vc p (by omega),Bool.false_and,ja (by decide),show p.ed m=j by omega];rfl
  ·have Ep:ao (p.line m)=false:=by simpa using hB
   obtain⟨FA,he,Xv⟩:=xC h.ok hb Ep;rw[Xv]at hc;rw[ja hB,vG,dY.mpr FA.2,hc,Bool.true_and,jb (by simp),List.map_append,QS,List.foldl_append];show g (p.aH m) (QS g ((vF p j m).map p.aH) (U j))=_
   rw[xI h U hg j m FA hc,hg m FA he]
theorem DA (q:QP):∀(a b:List ab) (s:List Nat),eo q (a++b) s=eo q a s++eo q b (QS (fun l s=>T9 l l.next 0 (bm q l s)) a s)
 |[],_,_=>rfl
 |l::a,b,s=>by
  rw[jW,eo,eo,DA q a b,List.append_assoc];rfl
theorem AH (q:QP):∀(a b:List ab) (s:List Nat),cX q (a++b) s=(cX q a s).or (cX q b (QS (bm q) a s))
 |[],_,_=>rfl
 |l::a,b,s=>by
  rw[jW,cX,cX,AH q a b];cases aM q l s
  ·rfl
  ·rfl
theorem BA (h:fj text false p q)(U:Nat->List Nat)(j:Nat)(x:Nat×List Nat):∀m,m<=p.lines.length->(x∈eo q ((vF p j m).map p.aH) (U j)↔
  ∃i,i<m/\p.body i/\p.ed i=j+1/\x∈kR (p.aH i) (p.aH i).next 0 (bm q (p.aH i) (iX p q U i)))
 |0,_=>by simp[vF,eo]
 |m+1,hm=>by
  have ih:=BA h U j x m (by omega);rw[vG,List.map_append,DA,List.mem_append,ih];by_cases hc:p.plain m=true/\p.ed m=j+1
  ·have hb:p.body m:=⟨by omega,dY.mp hc.1⟩;have UU:(p.plain m&&p.ed m==j+1)=true:=by simp[hc.1,hc.2]
   rw[jb UU,xI h U (fun m hb he s=>by rw[LA h hb he];rfl) j m hb hc.2];simp only[List.map_cons,List.map_nil,eo,List.append_nil];constructor
   ·rintro(⟨i,h1,h2⟩|h1)
    ·exact⟨i,by omega,h2⟩
    ·exact⟨m,by omega,hb,hc.2,h1⟩
   ·rintro⟨i,h1,h2⟩;by_cases e:i=m
    ·subst e;exact .inr h2.2.2
    ·exact .inl ⟨i,by omega,h2⟩
  ·have UU:¬(p.plain m&&p.ed m==j+1)=true:=by simpa using hc
   rw[ja UU];simp only[List.map_nil,eo,List.not_mem_nil,or_false];constructor
   ·rintro⟨i,h1,h2⟩;exact⟨i,by omega,h2⟩
   ·rintro⟨i,h1,h2⟩;by_cases e:i=m
    ·subst e;exact absurd ⟨dY.mpr h2.1.2,h2.2.1⟩ hc
    ·exact⟨i,by omega,h2⟩
theorem Iz (h:fj text false p q)(U:Nat->List Nat)(j:Nat)(x:Nat×List Nat):x∈eo q (q.blocks.getD j []) (U j)↔
  ∃i k,p.body i/\p.ed i=j+1/\(behind (word (p.line i) 0) p.raw).1.getD k 0=78/\x=(tgt p i k,tz p i k (bm q (p.aH i) (iX p q U i))):=by
 rw[h.block j,BA h U j x _ (jC _)];constructor
 ·rintro⟨i,h1,h2,h3,h4⟩;obtain⟨k,h5⟩:=(DB h h2 _ x).mp h4;exact⟨i,k,h2,h3,h5⟩
 ·rintro⟨i,k,h2,h3,h5⟩;exact⟨i,h2.1,h2,h3,(DB h h2 _ x).mpr ⟨k,h5⟩⟩
theorem jl (f:Nat->Option Nat):∀m k,aC f (m+1) k=(aC f m k).or (f (k+m))
 |0,k=>by simp[aC]
 |m+1,k=>by
  rw[aC,jl f m (k+1),aC,Option.or_assoc,show k+1+m=k+(m+1) by omega]
theorem cF (f:Nat->Option Nat):∀m,aC f m 0=none↔∀i,i<m->f i=none
 |0=>by simp[aC]
 |m+1=>by
  rw[jl,Option.or_eq_none_iff,cF f m,Nat.zero_add];constructor
  ·rintro⟨h1,h2⟩ i hi;by_cases e:i=m
   ·rw[e];exact h2
   ·exact h1 i (by omega)
  ·intro h;exact⟨fun i hi=>h i (by omega),h m (by omega)⟩
theorem jm (f:Nat->Option Nat)(r:Nat):∀m,aC f m 0=some r↔∃i,i<m/\f i=some r/\∀j,j<i->f j=none
 |0=>by simp[aC]
 |m+1=>by
  rw[jl,Option.or_eq_some_iff,jm f r m,cF,Nat.zero_add];constructor
  ·rintro(⟨i,h1,h2⟩|⟨h1,h2⟩)
   ·exact⟨i,by omega,h2⟩
   ·exact⟨m,by omega,h2,h1⟩
  ·rintro⟨i,h1,h2,h3⟩;by_cases e:i=m
   ·subst e;exact .inr ⟨h3,h2⟩
   ·exact .inl ⟨i,by omega,h2,h3⟩
def pick (P:Nat->Bool)(i:Nat):Option Nat:=if P i=true then some i else none
theorem o5 {P:Nat->Bool}{i:Nat}:pick P i=none↔P i=false:=by
 unfold pick;cases P i<;>simp
theorem DE {P:Nat->Bool}{i r:Nat}:pick P i=some r↔P i=true/\i=r:=by
 unfold pick;cases P i<;>simp
def tK (p:RP)(q:QP)(U:Nat->List Nat)(j i:Nat):Bool:=(p.plain i&&p.ed i==j+1)&&aM q (p.aH i) (iX p q U i)
theorem yP (h:fj text false p q)(U:Nat->List Nat)(j:Nat):∀m,m<=p.lines.length->cX q ((vF p j m).map p.aH) (U j)=aC (pick (tK p q U j)) m 0
 |0,_=>rfl
 |m+1,hm=>by
  rw[jl,<-yP h U j m (by omega),vG,List.map_append,AH,Nat.zero_add];congr 1;unfold pick tK;by_cases hc:p.plain m=true/\p.ed m=j+1
  ·have hb:p.body m:=⟨by omega,dY.mp hc.1⟩;have UU:(p.plain m&&p.ed m==j+1)=true:=by simp[hc.1,hc.2]
   rw[jb UU,UU,Bool.true_and,xI h U (fun _ _ _ _=>rfl) j m hb hc.2];simp only[List.map_cons,List.map_nil,cX,DH]
  ·have UU:(p.plain m&&p.ed m==j+1)=false:=by
    cases hx:(p.plain m&&p.ed m==j+1)
    ·rfl
    ·exfalso;apply hc;simpa using hx
   rw[UU,Bool.false_and,ja (by decide),ja (by decide)];rfl
def qg (p:RP)(q:QP)(E:List (List Nat))(i:Nat):Bool:= !(E.getD (p.aJ i) []==ar)&&aM q (p.aH i) (iX p q (fun b=>E.getD b []) i)
theorem NW (h:fj text false p q)(E:List (List Nat)):aC (cV q E) q.blocks.length 0=aC (pick fun i=>p.plain i&&qg p q E i) p.lines.length 0:=by
 have hF:∀b,cV q E b=if E.getD b []=ar then none else aC (pick (tK p q (fun b=>E.getD b []) b)) p.lines.length 0:=fun b=>by
  unfold cV;split
  ·rfl
  ·rw[h.block b];exact yP h (fun b=>E.getD b []) b _ (jC _)
 have one:∀i,i<p.lines.length->(p.plain i&&qg p q E i)=true->p.aJ i<q.blocks.length/\¬E.getD (p.aJ i) []=ar/\tK p q (fun b=>E.getD b []) (p.aJ i) i=true:=fun i hi hw=>by
  simp only[qg,Bool.and_eq_true,Bool.not_eq_true',beq_eq_false_iff_ne]at hw;have hb:p.body i:=⟨hi,dY.mp hw.1⟩;obtain⟨h1,h2⟩:=D8 h hb;refine⟨h2,hw.2.1,?_⟩;unfold tK;rw[hw.1,h1,hw.2.2];simp
 have two:∀b i,i<p.lines.length->tK p q (fun b=>E.getD b []) b i=true->¬E.getD b []=ar->(p.plain i&&qg p q E i)=true/\p.aJ i=b:=fun b i hi hw hz=>by
  simp only[tK,Bool.and_eq_true,beq_iff_eq]at hw;have Rm:p.aJ i=b:=by unfold RP.aJ;omega
  refine⟨?_,Rm⟩;simp only[qg,Rm,hw.1.1,hw.2,Bool.true_and,Bool.and_true,Bool.not_eq_true',beq_eq_false_iff_ne];exact hz
 cases hr:aC (cV q E) q.blocks.length 0 with
 |none=>
  rw[cF]at hr
  symm
  rw[cF];intro i hi;rw[o5];cases hw:(p.plain i&&qg p q E i)
  ·rfl
  ·exfalso;obtain⟨h1,h2,h3⟩:=one i hi hw;have:=hr _ h1;rw[hF,ja h2,cF]at this;have:=o5.mp (this i hi);rw[h3]at this;cases this
 |some r=>
  rw[jm]at hr;obtain⟨b,hb,FB,UZ⟩:=hr;rw[hF]at FB;split at FB
  ·cases FB
  ·rename_i hz;rw[jm]at FB;obtain⟨i,hi,hir,hil⟩:=FB;obtain⟨hw,rfl⟩:=DE.mp hir;obtain⟨hP,Rm⟩:=two b i hi hw hz
   symm
   rw[jm];refine⟨i,hi,DE.mpr ⟨hP,rfl⟩,fun c hc=> ?_⟩;rw[o5];cases hwc:(p.plain c&&qg p q E c)
   ·rfl
   ·exfalso;obtain⟨h1,h2,h3⟩:=one c (by omega) hwc;have hle:p.aJ c<=b:=by
     have:=JQ p (Nat.le_of_lt hc);rw[<-Rm];unfold RP.aJ;omega
    by_cases e:p.aJ c=b
    ·rw[e]at h3;have:=o5.mp (hil c hc);rw[h3]at this;cases this
    ·have:=UZ (p.aJ c) (by omega);rw[hF,ja h2,cF]at this;have:=o5.mp (this c (by omega));rw[h3]at this;cases this
def asInt:Option Nat->Int
 |none=> -1
 |some i=>i
theorem sG (p:RP)(wrong:Nat->Bool):∀m i,p.iq wrong m i=asInt (aC (pick fun i=>p.plain i&&wrong i) m i)
 |0,_=>rfl
 |m+1,i=>by
  rw[RP.iq,aC,sG p wrong m (i+1)];by_cases hc:(!isLet (p.line i)&& !ao (p.line i)&&wrong i)=true
  ·have e:pick (fun i=>p.plain i&&wrong i) i=some i:=jb hc;rw[jb hc,e];rfl
  ·have e:pick (fun i=>p.plain i&&wrong i) i=none:=ja hc;rw[ja hc,e];rfl
end
end FlwX
end Go.Proofs.YtmlgajhhnojdjaaGreatDoor

import Derived.Test.YtmlgajhhnojdjaaGreatDoorRBD
namespace Go.Proofs.YtmlgajhhnojdjaaGreatDoor
namespace FlwV
open Go Sq FlwU PrjS
theorem H6 (nb:Nat):∀(S:List (Nat×List B)) (i:Nat) (q0 q:QP) (c:Nat->Nat),ba nb S i q0=(q,none)->
  (∀k x,S[k]?=some x->c (i+k+1)=c (i+k)+(if x.1=1 then 1 else 0))->(∀k x,S[k]?=some x->¬x.1=0->¬x.1=1->1<=c (i+k))->q0.blocks.length=c i->q.blocks.length=c (i+S.length)
 |[],i,q0,q,c,h,_,_,hl=>by simp only[ba,Prod.mk.injEq,and_true]at h;rw[<-h];exact hl
 |x::S,i,q0,q,c,h,hc,hp,hl=>by
  have h0:=hc 0 x rfl;have tj:∀k y,S[k]?=some y->c (i+1+k+1)=c (i+1+k)+(if y.1=1 then 1 else 0):=fun k y hy=>by
   have:=hc (k+1) y (by simpa using hy);rw[show i+1+k=i+(k+1) by omega];exact this
  have Cq:∀k y,S[k]?=some y->¬y.1=0->¬y.1=1->1<=c (i+1+k):=fun k y hy=>by
   have:=hp (k+1) y (by simpa using hy);rw[show i+1+k=i+(k+1) by omega];exact this
  have key:∀q1:QP,ba nb S (i+1) q1=(q,none)->q1.blocks.length=c (i+1)->q.blocks.length=c (i+(x::S).length):=fun q1 h1 h2=>by
   have:=H6 nb S (i+1) q1 q c h1 tj Cq h2;rw[this,jY];congr 1;omega
  rw[ba]at h;simp only[Nat.add_zero]at h0;by_cases e0:x.1=0
  ·rw[jb e0]at h;rw[ja (by omega)]at h0;split at h
   ·simp at h
   ·exact key _ h (by simpa [QP.addLocal]using hl.trans (by omega))
  ·rw[ja e0]at h;by_cases e1:x.1=1
   ·rw[jb e1]at h;rw[jb e1]at h0;exact key _ h (by simp[QP.addBlock];omega)
   ·rw[ja e1]at h;rw[ja e1]at h0;have h1:=hp 0 x rfl e0 e1;simp only[Nat.add_zero]at h1;split at h
    ·simp at h
    ·rename_i l _;exact key _ h (by simp[QP.addLine];omega)
structure fi (text:B)(raw:Bool)(p:RP)(q:QP):Prop where
 ref:(aJ text raw).1=some p
 ok:aE text raw p
 lr:LR p q p.lines.length
 MV:yz p.ec q
 Yn:Jw q.blocks.length q
 len:q.blocks.length=p.blocks.length
theorem Pw {text:B}{raw:Bool}{q:QP}(h:(bc text raw).1=some q):∃p,fi text raw p q:=by
 obtain⟨p,hp,R⟩:=(ye text raw).2 q h;have gW:aE text raw p:=by
  have e:aJ text raw=(some p,(aJ text raw).2.1,(aJ text raw).2.2):=by rw[<-hp]
  exact(jy e).1
 have H:=gW.pre;by_cases di:(split 10 text).length>(if raw then 4000 else 120)
 ·rw[bc,jb di]at h;cases h
 ·rw[bc,ja di]at h;split at h
  ·cases h
  ·rename_i tN;split at h
   ·cases h
   ·split at h
    ·cases h
    ·rename_i yT;split at h
     ·cases h
     ·simp only[Option.some.injEq]at h;obtain⟨-,hn⟩:=tG raw (aY text) (Sq.start raw) ⟨0,0,0⟩ rfl (om.start raw) (by simp) (fun ws hw=>by
       simp only[aY,List.mem_map]at hw;obtain⟨a,-,rfl⟩:=hw;exact fv _ _)
      have zL:(Sq.start raw).lines.length=0:=rfl;rw[zL]at hn;obtain⟨-,-,-,-,Kr⟩:=hn tN;have hS:(aF raw (aY text) ⟨0,0,0⟩ 0).1=(List.range p.lines.length).map p.eL:=by
       rw[Kr,<-gW.lines];apply List.ext_getElem
       ·simp
       ·intro i h1 h2;simp only[List.length_map]at h1;rw[List.getElem_map,List.getElem_map,List.getElem_range,RP.eL];have:p.line i=p.lines[i]:=by rw[RP.line,jA,jB h1];rfl
        rw[this]
      rw[hS]at yT h;have xr:ba (countB ((List.range p.lines.length).map p.eL)) ((List.range p.lines.length).map p.eL) 0 QP.empty=(q,none):=Prod.ext h yT;have Ep:∀k x,((List.range p.lines.length).map p.eL)[k]?=some x->k<p.lines.length/\x=p.eL k:=fun k x hx=>by
       rw[jJ]at hx;by_cases hk:k<p.lines.length
       ·rw[List.getElem?_range hk]at hx;simp only[Option.map_some,Option.some.injEq]at hx;exact⟨hk,hx.symm⟩
       ·rw[jG (by simp;omega)]at hx;cases hx
      have aw:∀k,k<p.lines.length->(p.eL k).1<23/\((p.eL k).1=1↔al (p.line k)=true)/\((p.eL k).1=0↔isLet (p.line k)=true):=fun k hk=>by
       obtain⟨op,ho,hl,-⟩:=vP H hk;have e:(p.eL k).1=op:=by rw[RP.eL,ho];rfl
       rw[e];refine⟨hl,?_,?_⟩
       ·rw[al,beq_iff_eq];exact(oG ho).symm
       ·rw[isLet,beq_iff_eq];exact(Bb ho).symm
      have hc:∀k x,((List.range p.lines.length).map p.eL)[k]?=some x->p.ec (0+k+1)=p.ec (0+k)+(if x.1=1 then 1 else 0):=fun k x hx=>by
       obtain⟨hk,rfl⟩:=Ep k x hx;rw[Nat.zero_add,p.du];congr 1;by_cases hb:al (p.line k)=true
       ·rw[jb hb,jb ((aw k hk).2.1.mpr hb)]
       ·rw[ja hb,ja (fun e=>hb ((aw k hk).2.1.mp e))]
      have gK:∀k x,((List.range p.lines.length).map p.eL)[k]?=some x->¬x.1=0->¬x.1=1->1<=p.ec (0+k):=fun k x hx h0 h1=>by
       obtain⟨hk,rfl⟩:=Ep k x hx;rw[Nat.zero_add];have hL:isLet (p.line k)=false:=by
        cases hL:isLet (p.line k)
        ·rfl
        ·exact absurd ((aw k hk).2.2.mpr hL) h0
       have hB:al (p.line k)=false:=by
        cases hB:al (p.line k)
        ·rfl
        ·exact absurd ((aw k hk).2.1.mpr hB) h1
       exact(gW.bY ⟨hk,hL,hB⟩).2
      have hcz:QP.empty.blocks.length=p.ec 0:=rfl;have hlen:q.blocks.length=p.blocks.length:=by
       rw[R.blocks];congr 1;rw[List.filter_eq_self];intro b hb;rw[H.blocks]at hb;have:=(cH hb).1;simp[this]
      have hqlen:=H6 _ _ 0 _ _ p.ec xr hc gK hcz;have Kh:countB ((List.range p.lines.length).map p.eL)=p.blocks.length:=by
       rw[countB,H.blocks,RP.bP,List.filter_map,jc];congr 1;apply List.filter_congr
       intro j hj;have Jq:j<p.lines.length:=by simpa using hj
       rw[jX];simp only[Function.comp,beq_iff_eq];exact(aw j Jq).2.1
      refine⟨p,hp,gW,R,zS p.ec _ _ 0 _ _ xr hc gK hcz (GW _),?_,hlen⟩;have:=oT _ _ 0 _ _ xr (fun x hx=>by
       obtain⟨k,hk,rfl⟩:=List.mem_map.mp hx;exact(aw k (by simpa using hk)).1) ⟨fun x hx=>by simp[QP.empty]at hx,fun b hb=>by simp[QP.empty]at hb⟩
      rw[Kh,<-hlen]at this;exact this
section
variable {text:B} {raw:Bool} {p:RP} {q:QP}
theorem fi.locals (h:fi text raw p q):q.locals=p.iu:=by
 rw[h.lr.locals,RP.iu,List.filter_eq_self.mpr];intro t ht;rw[h.ok.pre.lets]at ht;have:=(cH ht).1;simp[this]
theorem fi.aV (h:fi text raw p q):q.locals.length<=12:=by
 rw[h.locals,RP.iu,jc];exact h.ok.pre.aV
theorem DG (p:RP)(i:Nat):(p.aG i).num=i:=rfl
def vE (p:RP)(j m:Nat):List Nat:=((List.range m).filter p.plain).filter fun i=>p.ec i==j+1
theorem fi.block (h:fi text raw p q)(j:Nat):q.blocks.getD j []=(vE p j p.lines.length).map p.aG:=by
 have h1:=yP (fun l:aa=>p.ec l.num) q.blocks 1 j (fun j l hl=>by rw[h.MV j l hl];omega);rw[h1,h.lr.flat,List.filter_map,vE];congr 1;apply List.filter_congr
 intro i _;simp only[Function.comp,DG];rw[show 1+j=j+1 by omega]
theorem vF (p:RP)(j m:Nat):vE p j (m+1)=vE p j m++if p.plain m&&p.ec m==j+1 then [m]else []:=by
 unfold vE;rw[iC,List.filter_append];congr 1;cases p.plain m
 ·rfl
 ·rw[jb rfl,Bool.true_and];cases h:(p.ec m==j+1)
  ·rw[List.filter_cons,h];rfl
  ·rw[List.filter_cons,h];rfl
theorem dX {i:Nat}:p.plain i=true↔(isLet (p.line i)=false/\al (p.line i)=false):=by
 simp[RP.plain]
end
end FlwV
namespace FlwW
open Go Sq Aux FlwA FlwB FlwC FlwD FlwE FlwF FlwG FlwH FlwI FlwJ FlwK FlwM FlwO FlwP FlwQ FlwS FlwT FlwU FlwV
theorem xa (p:RP):∀(f:B) (_:∀c∈f,c∈([105,111,112,109,35,98,102,118]:List UInt8)) (ws:List B),(p.placesOf (f.map letter) ws).map toQ=p.dt f ws
 |[],_,_=>rfl
 |c::f,hc,ws=>by
  have ih:=xa p f (fun x hx=>hc x (jN _ hx)) (ws.drop 1);have hk:dU (letter c)=gP c:=by
   have:=hc c (jM ..);simp only[List.mem_cons,List.not_mem_nil,or_false]at this;rcases this with rfl|rfl|rfl|rfl|rfl|rfl|rfl|rfl<;>rfl
  rw[List.map_cons,RP.placesOf,RP.dt,hk];cases gP c
  ·exact ih
  ·rw[jb rfl,jb rfl,List.map_cons,ih];rfl
theorem xb (p:RP):∀(f:B) (ws:List B) (x:bC),x∈p.placesOf f ws->∃k,∃hk:k<f.length,dU f[k]=true/\x=p.placeOf (word ws k)
 |[],_,x,h=>by cases h
 |c::f,ws,x,h=>by
  rw[RP.placesOf]at h;have hrec:x∈p.placesOf f (ws.drop 1)->∃k,∃hk:k<(c::f).length,dU (c::f)[k]=true/\x=p.placeOf (word ws k):=fun h=>by
   obtain⟨k,hk,h1,h2⟩:=xb p f (ws.drop 1) x h;refine⟨k+1,by simpa using hk,by simpa using h1,?_⟩;rw[h2,bV]
  split at h
  ·rename_i hc;rcases jP.mp h with h|h
   ·exact⟨0,by simp,hc,h⟩
   ·exact hrec h
  ·exact hrec h
section
variable {text:B} {p:RP} {q:QP}
theorem zC {raw:Bool}(h:fi text raw p q){i:Nat}(hb:p.body i):Aa (p.aG i) (p.ly i):=by
 have hp:p.plain i=true:=dX.mpr hb.2;obtain⟨op,ho,hl,h2,aw,-,gK,-,hf,Jo,-⟩:=kS h.ok.pre hb.1 hp (h.ok.names i hb.1);refine⟨by rw[aw];exact hl,?_,?_,fun j=> ?_⟩
 ·rw[aw];exact(gd ho).2
 ·rw[gK];show _=(p.placesOf (behind (word (p.line i) 0) p.raw).1 ((p.line i).drop 1)).map toQ
  rw[Jo,cq];by_cases su:op=15
  ·subst su;rfl
  ·rw[ja su,xa p _ (rH hl h2)]
 ·unfold lq.w;rw[jA];cases hx:(p.ly i).places[j]? with
  |none=>exact .inl rfl
  |some x=>
   have hm:x∈p.placesOf (behind (word (p.line i) 0) p.raw).1 ((p.line i).drop 1):=List.mem_of_getElem? hx;obtain⟨k,hk,h1,h2⟩:=xb p _ _ x hm;have:=(h.ok.place hb rfl k hk h1).1.part;rw[bV]at h2;rw[Option.getD_some,h2];exact this
theorem zD {raw:Bool}(h:fi text raw p q):xv q p.lS:=by
 have key:∀n,(∃t,t<4/\q.bA n=t/\p.lS.bA n=kindWord t)\/(q.bA n=0/\p.lS.bA n=[]):=fun n=>by
  by_cases hn:n<p.lets.length
  ·left;have hm:p.lets[n]∈p.bP isLet:=by rw[<-h.ok.pre.lets];exact jL hn
   have hx:=cH hm;have hf:=h.ok.pre.form _ hx.1;have et:word (p.line p.lets[n]) 0=cv:=by simpa [isLet]using hx.2
   rw[dI,jb et]at hf;simp only[Bool.and_eq_true,decide_eq_true_eq]at hf;obtain⟨t,ht,ht4,X4⟩:=tI hf.2;refine⟨t,ht4,?_,?_⟩
   ·rw[QP.bA,h.locals,RP.iu,jA,jJ,jB hn];simp only[Option.map_some,Option.getD_some,RP.Bi];rw[ht];rfl
   ·rw[dT.bA,RP.lS,RP.ra,jA,jJ,jB hn];simp only[Option.map_some,Option.getD_some];exact X4
  ·right;constructor
   ·rw[QP.bA,h.locals,RP.iu,jA,jG (by simp;omega)];rfl
   ·rw[dT.bA,RP.lS,RP.ra,jA,jG (by simp;omega)];rfl
 have k4:∀t,t<4->(t=2↔kindWord t=cj)/\(t=3↔kindWord t=eG):=by decide
 constructor
 ·intro n;rcases key n with⟨t,h4,h1,h2⟩|⟨h1,h2⟩
  ·rw[h1,h2];exact(k4 t h4).1
  ·rw[h1,h2];exact⟨fun x=>absurd x (by decide),fun x=>absurd x (by decide)⟩
 ·intro n;rcases key n with⟨t,h4,h1,h2⟩|⟨h1,h2⟩
  ·rw[h1,h2];exact(k4 t h4).2
  ·rw[h1,h2];exact⟨fun x=>absurd x (by decide),fun x=>absurd x (by decide)⟩
def iW (p:RP)(q:QP)(U:Nat->List Nat):Nat->List Nat
 |0=>aq
 |i+1=>if al (p.line i)=true then U (p.ec i)else bj q (p.aG i) (iW p q U i)
theorem xB (h:aE text false p){m:Nat}(hb:p.body (m+1))(hB:al (p.line m)=false):p.body m/\ends (word (p.line m) 0)=false/\p.ec (m+1)=p.ec m:=by
 have hi:m<p.lines.length:=by have:=hb.1;omega
 have hc:p.ec (m+1)=p.ec m:=by rw[p.du,hB];rfl
 have Xu:1<=p.ec m:=by have:=(h.bY hb).2;rw[hc]at this;exact this
 refine⟨⟨hi,h.pO hi Xu,hB⟩,?_,hc⟩;cases he:ends (word (p.line m) 0)
 ·rfl
 ·exfalso;have h1:=(h.bY hb).1;have hw:¬word (p.line m) 0=aQ:=by simpa [al]using hB
  rw[gD p m hi,ja hw,he]at h1;cases h1
theorem tX (h:fi text false p q){U:Nat->List Nat}:∀i,p.body i->eH (U (p.aI i))->eH (iW p q U i)
 |0,hb,_=>by have:=(h.ok.bY hb).2;simp[RP.ec]at this
 |m+1,hb,hU=>by
  rw[iW];by_cases hB:al (p.line m)=true
  ·rw[jb hB];rw[oF hB]at hU;exact hU
  ·have Eo:al (p.line m)=false:=by simpa using hB
   rw[ja hB];rw[qG Eo]at hU;exact gi _ _ (tX h m (xB h.ok hb Eo).1 hU)
def sr (s:List Nat)(t:WS):Prop:=Rel (fun k=>s.getD k 0) t
theorem E0 {s:List Nat}{f:Nat->Nat}{t:WS}(h:Ag s f)(hr:Rel f t):sr s t:=fun k hk=>(h.eq k hk).trans (hr k hk)
theorem xx (h:fi text false p q){U:Nat->List Nat}{EW:Nat->WS}(hE:∀b,(EW b).aj.length=24):∀i,p.body i->eH (U (p.aI i))->sr (U (p.aI i)) (EW (p.aI i))->sr (iW p q U i) (p.along EW i)
 |0,hb,_,_=>by have:=(h.ok.bY hb).2;simp[RP.ec]at this
 |m+1,hb,hU,hr=>by
  rw[iW,RP.along];by_cases hB:al (p.line m)=true
  ·rw[jb hB,jb hB];rw[oF hB]at hr;exact hr
  ·have Eo:al (p.line m)=false:=by simpa using hB
   rw[ja hB,ja hB];rw[qG Eo]at hU hr;have Fz:=(xB h.ok hb Eo).1;have ih:=xx h hE m Fz hU hr;have hs:=tX h m Fz hU;exact E0 (Mx (zD h) (zC h Fz) hs.len) (h.ok.M8 Fz (fF hE m) ih)
end
end FlwW
namespace FlwX
open Go Sq Aux FlwA FlwB FlwC FlwD FlwE FlwF FlwG FlwH FlwI FlwJ FlwK FlwM FlwO FlwP FlwQ FlwS FlwT FlwU FlwV FlwW
theorem fH {w:B}(h:jo w 98=true):(az w).getD 0=(number w).getD 0:=by
 have h1:(az w).isSome=true:=h;have h2:=pA w;cases hn:number w with
 |none=>rw[hn]at h2;rw[h2]at h1;cases h1
 |some n=>
  rw[hn]at h2;simp only at h2;split at h2
  ·rw[h2]
  ·rw[h2]at h1;cases h1
theorem x8:∀(f:B) (_:∀c∈f,¬c=98) (ws:List B),jv f ws=[]
 |[],_,_=>rfl
 |c::f,h,ws=>by
  rw[jv,ja (h c (jM ..))];exact x8 f (fun x hx=>h x (jN _ hx)) _
theorem DS:∀op:Fin 23,op.val<18\/op.val=22->∀c∈ae op.val,¬c=98:=by decide
theorem Sp:∀op:Fin 23,bI op.val=bS↔op.val=20:=by decide
theorem Rb (k:Nat):([78]:B).getD k 0=78↔k=0:=by
 match k with
 |0=>simp
 |k+1=>simp
theorem AO {c:UInt8}(hc:¬c=78)(k:Nat):([c,78,78]:B).getD k 0=78↔(k=1\/k=2):=by
 match k with
 |0=>simp[hc]
 |1=>simp
 |2=>simp
 |k+3=>simp
section
variable {text:B} {p:RP} {q:QP}
def tx (p:RP)(i k:Nat)(s:List Nat):List Nat:=if word (p.line i) 0=bS then gR (if k=1 then 4 else 2) [(p.aG i).places.getD 0 (0,0)] s else s
def tgt (p:RP)(i k:Nat):Nat:=((number (word (p.line i) (k+1))).getD 0).toNat
theorem VK (x:Nat×Nat)(s:List Nat):gR 2 [x] (gR 4 [x] s)=gR 2 [x] s:=by
 show(s.set (ag x) 4).set (ag x) 2=s.set (ag x) 2
 rw[List.set_set]
theorem Lz (h:fi text false p q){i:Nat}(hb:p.body i)(he:ends (word (p.line i) 0)=false):(p.aG i).next=[]:=by
 have hp:p.plain i=true:=dX.mpr hb.2;obtain⟨op,ho,hl,h2,aw,-,gK,mP,hf,Jo,-⟩:=kS h.ok.pre hb.1 hp (h.ok.names i hb.1);have Jp:=zG ho;rw[he]at Jp;rw[mP];exact x8 _ (DS ⟨op,hl⟩ (.inl (by simpa using Jp.symm))) _
theorem DA (h:fi text false p q){i:Nat}(hb:p.body i)(s:List Nat)(x:Nat×List Nat):
  x∈kQ (p.aG i) (p.aG i).next 0 s↔∃k,(behind (word (p.line i) 0) p.raw).1.getD k 0=78/\x=(tgt p i k,tx p i k s):=by
 have hp:p.plain i=true:=dX.mpr hb.2;obtain⟨op,ho,hl,h2,aw,-,gK,mP,hf,Jo,-⟩:=kS h.ok.pre hb.1 hp (h.ok.names i hb.1);have hw:=(gd ho).2;have hm:=Sp ⟨op,hl⟩;simp only at hm;rw[<-hw]at hm;have w1:word ((p.line i).drop 1) 0=word (p.line i) 1:=by rw[bV]
 have w2:word (((p.line i).drop 1).drop 1) 0=word (p.line i) 2:=by rw[bV,bV]
 have w3:word ((((p.line i).drop 1).drop 1).drop 1) 0=word (p.line i) 3:=by rw[bV,bV,bV]
 rw[Jo];by_cases UY:op<18\/op=22
 ·rw[mP,x8 _ (DS ⟨op,hl⟩ UY)];refine⟨fun hx=>(by cases hx),fun⟨k,hk,_⟩=> ?_⟩;exfalso;have key:∀op:Fin 23,op.val<18\/op.val=22->∀c∈cq op.val,¬c=78:=by decide
  rw[jA]at hk;cases hg:(cq op)[k]? with
  |none=>rw[hg]at hk;exact absurd hk (by decide)
  |some c=>
   rw[hg]at hk;exact key ⟨op,hl⟩ UY c (List.mem_of_getElem? hg) hk
 ·by_cases e18:op=18
  ·subst e18;have hn:¬word (p.line i) 0=bS:=fun e=>absurd (hm.mp e) (by decide)
   have RS:ae 18=[98]:=rfl;have hbh:cq 18=[78]:=rfl;rw[RS]at hf mP;simp only[bg,Bool.and_true,w1]at hf;simp only[jv,if_true,w1,fH hf]at mP;rw[hbh,mP];simp only[kQ,cu,aw,Rb,List.mem_singleton];rw[ja (by decide)];constructor
   ·intro hx;exact⟨0,rfl,by rw[hx,tx,ja hn];rfl⟩
   ·rintro⟨k,rfl,hx⟩;rw[hx,tx,ja hn];rfl
  ·have h3:op=19\/op=20\/op=21:=by omega
   obtain⟨c,ko,mZ,RS,hbh⟩:∃c:UInt8,¬c=98/\¬letter c=78/\ae op=[c,98,98]/\cq op=[letter c,78,78]:=by
    rcases h3 with rfl|rfl|rfl
    ·exact⟨105,by decide,by decide,rfl,rfl⟩
    ·exact⟨111,by decide,by decide,rfl,rfl⟩
    ·exact⟨102,by decide,by decide,rfl,rfl⟩
   rw[RS]at hf mP;simp only[bg,Bool.and_eq_true,Bool.and_true,w1,w2,w3]at hf;rw[jv,ja ko]at mP;simp only[jv,if_true,w2,w3,fH hf.2.1,fH hf.2.2]at mP;rw[hbh,mP];simp only[kQ,AO mZ,List.mem_cons,List.not_mem_nil,or_false];by_cases e20:op=20
   ·have hn:word (p.line i) 0=bS:=hm.mpr e20;have s1:cu (p.aG i) 0 s=tx p i 1 s:=by rw[cu,tx,aw,jb e20,jb hn];rfl
    have s2:cu (p.aG i) (0+1) (tx p i 1 s)=tx p i 2 s:=by
     rw[cu,tx,tx,aw,jb e20,jb hn,jb hn,ja (by decide),jb rfl,ja (by decide),VK]
    rw[s1,s2];constructor
    ·rintro(hx|hx)
     ·exact⟨1,.inl rfl,hx⟩
     ·exact⟨2,.inr rfl,hx⟩
    ·rintro⟨k,rfl|rfl,hx⟩
     ·exact .inl hx
     ·exact .inr hx
   ·have hn:¬word (p.line i) 0=bS:=fun e=>e20 (hm.mp e)
    have s1:∀j s,cu (p.aG i) j s=s:=fun j s=>by rw[cu,aw,ja e20]
    have s2:∀k s,tx p i k s=s:=fun k s=>by rw[tx,ja hn]
    simp only[s1,s2];constructor
    ·rintro(hx|hx)
     ·exact⟨1,.inl rfl,hx⟩
     ·exact⟨2,.inr rfl,hx⟩
    ·rintro⟨k,rfl|rfl,hx⟩
     ·exact .inl hx
     ·exact .inr hx
theorem F0 (p:RP)(i:Nat):∀d,p.ec i<=p.ec (i+d)
 |0=>jC _
 |d+1=>by rw[<-Nat.add_assoc,p.du];have:=F0 p i d;omega
theorem JP (p:RP){i j:Nat}(h:i<=j):p.ec i<=p.ec j:=by
 have:=F0 p i (j-i)
 rwa [show i+(j-i)=j by omega]at this
theorem Um (h:fi text false p q):p.ec p.lines.length=p.blocks.length:=by
 rw[h.ok.pre.blocks];rfl
theorem D7 (h:fi text false p q){i:Nat}(hb:p.body i):p.ec i=p.aI i+1/\p.aI i<q.blocks.length:=by
 have h1:=(h.ok.bY hb).2;have h2:=JP p (Nat.le_of_lt hb.1);rw[Um h,<-h.len]at h2;unfold RP.aI;omega
theorem Vb (p:RP){j m:Nat}(h:p.ec m<=j):vE p j m=[]:=by
 unfold vE;rw[List.filter_eq_nil_iff];intro i hi;have aK:i<m:=by simp at hi;exact hi.1
 have:=JP p (Nat.le_of_lt aK);simp;omega
def QR (g:aa->List Nat->List Nat)(ls:List aa)(s:List Nat):List Nat:=ls.foldl (fun s l=>g l s) s
theorem xH (h:fi text false p q)(U:Nat->List Nat){g:aa->List Nat->List Nat}(hg:∀m,p.body m->ends (word (p.line m) 0)=false->∀s,g (p.aG m) s=bj q (p.aG m) s)(j:Nat):
  ∀m,p.body m->p.ec m=j+1->QR g ((vE p j m).map p.aG) (U j)=iW p q U m
 |0,hb,_=>by have:=(h.ok.bY hb).2;simp[RP.ec]at this
 |m+1,hb,hc=>by
  rw[iW];by_cases hB:al (p.line m)=true
  ·rw[jb hB];rw[p.du,hB,jb rfl]at hc;have hpm:p.plain m=false:=by simp[RP.plain,hB]
   rw[vF,hpm,Vb p (by omega),Bool.false_and,ja (by decide),show p.ec m=j by omega];rfl
  ·have Eo:al (p.line m)=false:=by simpa using hB
   obtain⟨Fz,he,Xu⟩:=xB h.ok hb Eo;rw[Xu]at hc;rw[ja hB,vF,dX.mpr Fz.2,hc,Bool.true_and,jb (by simp),List.map_append,QR,List.foldl_append];show g (p.aG m) (QR g ((vE p j m).map p.aG) (U j))=_
   rw[xH h U hg j m Fz hc,hg m Fz he]
theorem Dz (q:QP):∀(a b:List aa) (s:List Nat),ej q (a++b) s=ej q a s++ej q b (QR (fun l s=>T8 l l.next 0 (bj q l s)) a s)
 |[],_,_=>rfl
 |l::a,b,s=>by
  rw[jW,ej,ej,Dz q a b,List.append_assoc];rfl
theorem AG (q:QP):∀(a b:List aa) (s:List Nat),cW q (a++b) s=(cW q a s).or (cW q b (QR (bj q) a s))
 |[],_,_=>rfl
 |l::a,b,s=>by
  rw[jW,cW,cW,AG q a b];cases aL q l s
  ·rfl
  ·rfl
theorem Bz (h:fi text false p q)(U:Nat->List Nat)(j:Nat)(x:Nat×List Nat):∀m,m<=p.lines.length->(x∈ej q ((vE p j m).map p.aG) (U j)↔
  ∃i,i<m/\p.body i/\p.ec i=j+1/\x∈kQ (p.aG i) (p.aG i).next 0 (bj q (p.aG i) (iW p q U i)))
 |0,_=>by simp[vE,ej]
 |m+1,hm=>by
  have ih:=Bz h U j x m (by omega);rw[vF,List.map_append,Dz,List.mem_append,ih];by_cases hc:p.plain m=true/\p.ec m=j+1
  ·have hb:p.body m:=⟨by omega,dX.mp hc.1⟩;have UT:(p.plain m&&p.ec m==j+1)=true:=by simp[hc.1,hc.2]
   rw[jb UT,xH h U (fun m hb he s=>by rw[Lz h hb he];rfl) j m hb hc.2];simp only[List.map_cons,List.map_nil,ej,List.append_nil];constructor
   ·rintro(⟨i,h1,h2⟩|h1)
    ·exact⟨i,by omega,h2⟩
    ·exact⟨m,by omega,hb,hc.2,h1⟩
   ·rintro⟨i,h1,h2⟩;by_cases e:i=m
    ·subst e;exact .inr h2.2.2
    ·exact .inl ⟨i,by omega,h2⟩
  ·have UT:¬(p.plain m&&p.ec m==j+1)=true:=by simpa using hc
   rw[ja UT];simp only[List.map_nil,ej,List.not_mem_nil,or_false];constructor
   ·rintro⟨i,h1,h2⟩;exact⟨i,by omega,h2⟩
   ·rintro⟨i,h1,h2⟩;by_cases e:i=m
    ·subst e;exact absurd ⟨dX.mpr h2.1.2,h2.2.1⟩ hc
    ·exact⟨i,by omega,h2⟩
theorem Iy (h:fi text false p q)(U:Nat->List Nat)(j:Nat)(x:Nat×List Nat):x∈ej q (q.blocks.getD j []) (U j)↔
  ∃i k,p.body i/\p.ec i=j+1/\(behind (word (p.line i) 0) p.raw).1.getD k 0=78/\x=(tgt p i k,tx p i k (bj q (p.aG i) (iW p q U i))):=by
 rw[h.block j,Bz h U j x _ (jC _)];constructor
 ·rintro⟨i,h1,h2,h3,h4⟩;obtain⟨k,h5⟩:=(DA h h2 _ x).mp h4;exact⟨i,k,h2,h3,h5⟩
 ·rintro⟨i,k,h2,h3,h5⟩;exact⟨i,h2.1,h2,h3,(DA h h2 _ x).mpr ⟨k,h5⟩⟩
theorem ji (f:Nat->Option Nat):∀m k,aB f (m+1) k=(aB f m k).or (f (k+m))
 |0,k=>by simp[aB]
 |m+1,k=>by
  rw[aB,ji f m (k+1),aB,Option.or_assoc,show k+1+m=k+(m+1) by omega]
theorem cE (f:Nat->Option Nat):∀m,aB f m 0=none↔∀i,i<m->f i=none
 |0=>by simp[aB]
 |m+1=>by
  rw[ji,Option.or_eq_none_iff,cE f m,Nat.zero_add];constructor
  ·rintro⟨h1,h2⟩ i hi;by_cases e:i=m
   ·rw[e];exact h2
   ·exact h1 i (by omega)
  ·intro h;exact⟨fun i hi=>h i (by omega),h m (by omega)⟩
theorem jl (f:Nat->Option Nat)(r:Nat):∀m,aB f m 0=some r↔∃i,i<m/\f i=some r/\∀j,j<i->f j=none
 |0=>by simp[aB]
 |m+1=>by
  rw[ji,Option.or_eq_some_iff,jl f r m,cE,Nat.zero_add];constructor
  ·rintro(⟨i,h1,h2⟩|⟨h1,h2⟩)
   ·exact⟨i,by omega,h2⟩
   ·exact⟨m,by omega,h2,h1⟩
  ·rintro⟨i,h1,h2,h3⟩;by_cases e:i=m
   ·subst e;exact .inr ⟨h3,h2⟩
   ·exact .inl ⟨i,by omega,h2,h3⟩
def pick (P:Nat->Bool)(i:Nat):Option Nat:=if P i=true then some i else none
theorem oZ {P:Nat->Bool}{i:Nat}:pick P i=none↔P i=false:=by
 unfold pick;cases P i<;>simp
theorem DD {P:Nat->Bool}{i r:Nat}:pick P i=some r↔P i=true/\i=r:=by
 unfold pick;cases P i<;>simp
def tJ (p:RP)(q:QP)(U:Nat->List Nat)(j i:Nat):Bool:=(p.plain i&&p.ec i==j+1)&&aL q (p.aG i) (iW p q U i)
theorem yO (h:fi text false p q)(U:Nat->List Nat)(j:Nat):∀m,m<=p.lines.length->cW q ((vE p j m).map p.aG) (U j)=aB (pick (tJ p q U j)) m 0
 |0,_=>rfl
 |m+1,hm=>by
  rw[ji,<-yO h U j m (by omega),vF,List.map_append,AG,Nat.zero_add];congr 1;unfold pick tJ;by_cases hc:p.plain m=true/\p.ec m=j+1
  ·have hb:p.body m:=⟨by omega,dX.mp hc.1⟩;have UT:(p.plain m&&p.ec m==j+1)=true:=by simp[hc.1,hc.2]
   rw[jb UT,UT,Bool.true_and,xH h U (fun _ _ _ _=>rfl) j m hb hc.2];simp only[List.map_cons,List.map_nil,cW,DG]
  ·have UT:(p.plain m&&p.ec m==j+1)=false:=by
    cases hx:(p.plain m&&p.ec m==j+1)
    ·rfl
    ·exfalso;apply hc;simpa using hx
   rw[UT,Bool.false_and,ja (by decide),ja (by decide)];rfl
def qf (p:RP)(q:QP)(E:List (List Nat))(i:Nat):Bool:= !(E.getD (p.aI i) []==aq)&&aL q (p.aG i) (iW p q (fun b=>E.getD b []) i)
theorem NV (h:fi text false p q)(E:List (List Nat)):aB (cU q E) q.blocks.length 0=aB (pick fun i=>p.plain i&&qf p q E i) p.lines.length 0:=by
 have hF:∀b,cU q E b=if E.getD b []=aq then none else aB (pick (tJ p q (fun b=>E.getD b []) b)) p.lines.length 0:=fun b=>by
  unfold cU;split
  ·rfl
  ·rw[h.block b];exact yO h (fun b=>E.getD b []) b _ (jC _)
 have one:∀i,i<p.lines.length->(p.plain i&&qf p q E i)=true->p.aI i<q.blocks.length/\¬E.getD (p.aI i) []=aq/\tJ p q (fun b=>E.getD b []) (p.aI i) i=true:=fun i hi hw=>by
  simp only[qf,Bool.and_eq_true,Bool.not_eq_true',beq_eq_false_iff_ne]at hw;have hb:p.body i:=⟨hi,dX.mp hw.1⟩;obtain⟨h1,h2⟩:=D7 h hb;refine⟨h2,hw.2.1,?_⟩;unfold tJ;rw[hw.1,h1,hw.2.2];simp
 have two:∀b i,i<p.lines.length->tJ p q (fun b=>E.getD b []) b i=true->¬E.getD b []=aq->(p.plain i&&qf p q E i)=true/\p.aI i=b:=fun b i hi hw hz=>by
  simp only[tJ,Bool.and_eq_true,beq_iff_eq]at hw;have Rl:p.aI i=b:=by unfold RP.aI;omega
  refine⟨?_,Rl⟩;simp only[qf,Rl,hw.1.1,hw.2,Bool.true_and,Bool.and_true,Bool.not_eq_true',beq_eq_false_iff_ne];exact hz
 cases hr:aB (cU q E) q.blocks.length 0 with
 |none=>
  rw[cE]at hr
  symm
  rw[cE];intro i hi;rw[oZ];cases hw:(p.plain i&&qf p q E i)
  ·rfl
  ·exfalso;obtain⟨h1,h2,h3⟩:=one i hi hw;have:=hr _ h1;rw[hF,ja h2,cE]at this;have:=oZ.mp (this i hi);rw[h3]at this;cases this
 |some r=>
  rw[jl]at hr;obtain⟨b,hb,FA,UY⟩:=hr;rw[hF]at FA;split at FA
  ·cases FA
  ·rename_i hz;rw[jl]at FA;obtain⟨i,hi,hir,hil⟩:=FA;obtain⟨hw,rfl⟩:=DD.mp hir;obtain⟨hP,Rl⟩:=two b i hi hw hz
   symm
   rw[jl];refine⟨i,hi,DD.mpr ⟨hP,rfl⟩,fun c hc=> ?_⟩;rw[oZ];cases hwc:(p.plain c&&qf p q E c)
   ·rfl
   ·exfalso;obtain⟨h1,h2,h3⟩:=one c (by omega) hwc;have hle:p.aI c<=b:=by
     have:=JP p (Nat.le_of_lt hc);rw[<-Rl];unfold RP.aI;omega
    by_cases e:p.aI c=b
    ·rw[e]at h3;have:=oZ.mp (hil c hc);rw[h3]at this;cases this
    ·have:=UY (p.aI c) (by omega);rw[hF,ja h2,cE]at this;have:=oZ.mp (this c (by omega));rw[h3]at this;cases this
def asInt:Option Nat->Int
 |none=> -1
 |some i=>i
theorem sF (p:RP)(wrong:Nat->Bool):∀m i,p.im wrong m i=asInt (aB (pick fun i=>p.plain i&&wrong i) m i)
 |0,_=>rfl
 |m+1,i=>by
  rw[RP.im,aB,sF p wrong m (i+1)];by_cases hc:(!isLet (p.line i)&& !al (p.line i)&&wrong i)=true
  ·have e:pick (fun i=>p.plain i&&wrong i) i=some i:=jb hc;rw[jb hc,e];rfl
  ·have e:pick (fun i=>p.plain i&&wrong i) i=none:=ja hc;rw[ja hc,e];rfl
end
end FlwX
end Go.Proofs.YtmlgajhhnojdjaaGreatDoor

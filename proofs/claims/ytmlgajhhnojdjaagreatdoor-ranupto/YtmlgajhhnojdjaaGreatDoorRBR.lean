import Derived.Test.YtmlgajhhnojdjaaGreatDoorRBQ
namespace Go.Proofs.YtmlgajhhnojdjaaGreatDoor
namespace Sim
open Go Sq Aux Go.Proofs.YtmlgajhhnojdjaaGreatDoor.Own Mac RefRa RunA RunB PrjS FlwA FlwB FlwC FlwD FlwE FlwF FlwG FlwH FlwI FlwJ FlwK FlwM FlwO FlwP FlwQ FlwS FlwU FlwV FlwW FlwX FlwT FlwY FlwZ
section
variable {q:QP} {ak:List Int} {z:Int} {o:Own.Own} {m m':RM} {s:List Nat} {p:RP} {text:B} {l:aa} {ws:List B} {f:Fx}
theorem Qx (q:QP)(m:RM):iN q (List.replicate 24 15) m:=by
 refine⟨by simp,fun k hk=> ?_⟩;have:(List.replicate 24 15).getD k 0=15:=by rw[jA,jO,jb hk];rfl
 rw[this];unfold s8 Aj
 repeat' split
 all_goals decide
theorem Yc (hT:fi text false p q){n:Nat}(hn:n<p.lets.length):0<=p.find (ai (word (p.line (p.lets.getD n 0)) 1))/\bW (word (p.line (p.lets.getD n 0)) 1)=true/\p.pj (word (p.line (p.lets.getD n 0)) 1)=(n,0)/\(word (p.line (p.lets.getD n 0)) 2=mM↔q.bA n=0):=by
 have e:p.lets.getD n 0=p.lets[n]:=by rw[jA,jB hn];rfl
 rw[e];have hm:p.lets[n]∈p.bP isLet:=by rw[<-hT.ok.pre.lets];exact jL hn
 have hx:=cH hm;have hf:=hT.ok.pre.form _ hx.1;have et:word (p.line p.lets[n]) 0=cv:=by simpa [isLet]using hx.2
 rw[dI,jb et]at hf;simp only[Bool.and_eq_true,decide_eq_true_eq]at hf;obtain⟨t,ht,ht4,X4⟩:=tI hf.2;have RE:isName (word (p.line p.lets[n]) 1)=true:=hf.1.2;obtain⟨gK,RC⟩:=gF RE;have Ko:=hT.ok.names _ hx.1;rw[RP.names,jb et,decide_eq_true_eq]at Ko;have MT:0<=p.find (word (p.line p.lets[n]) 1):=RP.tb p _ _ _ _ (jL hn) rfl;obtain⟨j,hj,ot,-⟩:=RP.ez MT;have P8:j=n:=by
  rw[hj,Int.toNat_natCast,jA,jB ot]at Ko;have hnd:p.lets.Nodup:=by
   rw[hT.ok.pre.lets];unfold RP.bP;exact List.Pairwise.filter _ List.nodup_range
  exact(List.getElem_inj hnd).1 Ko
 have qu:q.bA n=t:=by
  rw[QP.bA,hT.locals,RP.iu,jA,jJ,jB hn];simp only[Option.map_some,Option.getD_some,RP.Bi];rw[ht];rfl
 refine⟨by rw[RC.1];exact MT,gK,?_,?_⟩
 ·unfold RP.pj;rw[RC.1,RC.2,hj,P8];rfl
 ·rw[qu,X4];have key:∀t,t<4->(kindWord t=mM↔t=0):=by decide
  exact key t ht4
theorem AB (hT:fi text false p q):∀(n:Nat) {o:Own.Own} {m:RM},n<=p.lets.length->Ro q ak z o m->Bal.gx q [] o->Ro q ak z (Own.dM q n o) (m.fz p n)/\(m.fz p n).out=m.out
 |0,o,m,_,h,_=>⟨h,rfl⟩
 |n+1,o,m,hn,h,hb=>by
  obtain⟨h1,h2,h3,h4⟩:=Yc hT (n:=n) (by omega);have cf:n<12:=by have:=hT.ok.pre.aV;omega
  rw[Own.dM,RM.fz];have av:Bal.gx q [] (o.drop (QP.ab q (n,0))):=Bal.oI _ hb (fun x hx=>by
   rcases bH q (n,0)with⟨a,-⟩|⟨a,-⟩<;>rw[a]at hx<;>simp at hx
   ·rw[hx];exact ie cf
   ·rcases hx with rfl|rfl<;>exact ie cf)
  by_cases hi:q.bA n=0
  ·rw[jb (h4.2 hi)];have ha:QP.ab q (n,0)=[(n,0)]:=by unfold QP.ab;rw[ja (by rw[hi];simp)]
   rw[ha]at av⊢;have yU:ag (n,0)=2*n:=by simp[ag]
   have hz:o.box (n,0)=0:=by rw[Own.box,yU,h.boxes _ (by omega),show 2*n/2=n by omega,jb hi]
   have hr:Ro q ak z (o.drop [(n,0)]) m:=by
    rw[drop_one,hz];show Ro q ak z (o.clear (n,0)) m
    refine⟨h.y.of rfl rfl rfl,h.len,h.GV,by simpa [Own.clear]using h.Cd,h.ints,fun k hk=> ?_,h.pos,h.ak,h.value⟩;show(o.boxes.set (ag (n,0)) 0).getD k 0=_
    rw[cI,yU];by_cases e:2*n=k
    ·subst e;rw[jb ⟨rfl,by rw[h.Cd];exact hk⟩,show 2*n/2=n by omega,jb hi]
    ·rw[ja (fun x=>e x.1)];exact h.boxes k hk
   exact AB hT n (by omega) hr av
  ·rw[ja (fun e=>hi (h4.1 e))];obtain⟨r1,r2,-⟩:=Ro.drop hT h1 h2 (by rw[h3];exact cf) (by rw[h3];exact hi) h hb (Qx q m);rw[h3]at r1;obtain⟨r3,r4⟩:=AB hT n (by omega) r1 av;exact⟨r3,r4.trans r2⟩
theorem VD (h:At q p text ak f s o m l ws)(aw:l.op<18):fM q ak f s o l (m.aR f p ak ws):=by
 have h1:=h.lk.lo;have h2:=rl h.ln;unfold km at h2;have hc:l.op=2\/(l.op=3\/l.op=4\/l.op=5\/l.op=6)\/l.op=7\/l.op=8\/l.op=9\/l.op=10\/l.op=11\/l.op=12\/l.op=13\/l.op=14\/l.op=15:=by omega
 rcases hc with e|e|e|e|e|e|e|e|e|e|e
 ·exact VG h e
 ·exact Pd h e
 ·exact Yi h e
 ·exact VF h e
 ·exact ES h e
 ·exact SV h e
 ·exact Pe h e
 ·exact SW h e
 ·exact SX h e
 ·exact SY h e
 ·exact SU h e
theorem Qy (h:iN q s m){c:Nat}(hc:c<24)(ht:¬q.bA (c/2)=0)(xr:ju 6 (s.getD c 0)=false)(hs:s.getD c 0<16):m.aZ.getD c 0=110\/m.aZ.getD c 0=119:=by
 have:=h.2 c hc;unfold s8 Aj at this;rw[ja ht]at this;generalize s.getD c 0=v at*;by_cases e1:m.aZ.getD c 0=119
 ·exact .inr e1
 ·by_cases e2:m.aZ.getD c 0=110
  ·exact .inl e2
  ·exfalso;rw[ja e1,ja e2]at this;have key:∀v:Fin 16,ju 6 v.val=false->8&&&v.val=0/\1&&&v.val=0:=by decide
   obtain⟨k1,k2⟩:=key ⟨v,hs⟩ xr;split at this
   ·exact this k1
   ·exact this k2
theorem SC (h:At q p text ak f s o m l ws)(aw:l.op=18\/l.op=19\/l.op=20):(m.next p ws).1=m/\(kW (m.next p ws).2).toNat=l.next.getD (if o.other l then 1 else 0) 0/\iN q (cu l (if o.other l then 1 else 0) s) m:=by
 have hk:=h.lk;rcases aw with aw|aw|aw
 ·have hw:word ws 0=[103,111,116,111]:=by rw[hk.op,aw];rfl
  have hd:m.next p ws=(m,word ws 1):=by unfold RM.next;simp[hw]
  have ho:o.other l=false:=by unfold Own.other;simp[aw]
  rw[hd,ho];refine⟨rfl,(hk.n1 aw).symm,?_⟩;unfold cu;rw[ja (by omega)];exact h.bits
 ·have hn:l.places.length=1:=by rw[hk.cP,aw];rfl
  obtain⟨i,i1,i2,i3,i4,i5⟩:=js h.ln hk h.cf (j:=0) (by omega) (by rw[aw];rfl);have hw:word ws 0=[105,102]:=by rw[hk.op,aw];rfl
  have hd:m.next p ws=(m.bD (sp p (word ws 1)),if m.int (sp p (word ws 1))=0 then word ws 3 else word ws 2):=by unfold RM.next;simp[hw]
  have kY:=h.fault;unfold aL at kY;rw[ja (by omega),jb (by omega)]at kY;have e1:m.has.getD (2*i) false=true:=me h.bits (by omega) (by rw[show 2*i/2=i by omega];exact i4) (by rw[<-i5];exact qY kY) (h.Yq.lt _);have hv:o.num (ah l 0)=m.int (2*i):=by rw[Own.num,i2];exact h.ro.ints i i1 i4
  have ho:o.other l=(m.int (2*i)==0):=by
   unfold Own.other;rw[jb aw,show o.num (l.places.getD 0 (0,0))=m.int (2*i)from hv]
  obtain⟨n1,n2⟩:=hk.n2 (.inl aw);rw[hd,ho,i3];refine⟨mF e1,?_,?_⟩
  ·by_cases hz:m.int (2*i)=0
   ·rw[jb hz,hz,jb (by decide)];exact n2.symm
   ·rw[ja hz,ja (by simpa using hz)];exact n1.symm
  ·unfold cu;rw[ja (by omega)];exact h.bits
 ·have hn:l.places.length=1:=by rw[hk.cP,aw];rfl
  obtain⟨i,i1,i2,i3,i4,i5,i6,i7⟩:=ER h.ln hk h.cf (j:=0) (by omega) (by rw[aw];rfl);have hw:word ws 0=bS:=by rw[hk.op,aw];rfl
  have hd:m.next p ws=(if m.aZ.getD (sp p (word ws 1)) 0=0 then{m with out:=5}else m,if m.aZ.getD (sp p (word ws 1)) 0=110 then word ws 2 else word ws 3):=by unfold RM.next;simp[hw,bS]
  have kY:=h.fault;unfold aL at kY;rw[ja (by omega),ja (by omega),ja (by omega),ja (by omega),ja (by omega),ja (by omega),ja (by omega),jb aw]at kY;have qu:¬q.bA (2*i/2)=0:=by rw[show 2*i/2=i by omega,i5];decide
  have hhow:=Qy h.bits (c:=2*i) (by omega) qu (by rw[<-i6];exact qY kY) (h.Yq.lt _);have ke:o.box (ah l 0)=if m.aZ.getD (2*i) 0=119 then m.held.getD (2*i) 0 else 0:=by rw[Own.box,i6,h.ro.boxes _ (by omega),ja qu]
  have ho:o.other l= !(o.box (ah l 0)==0):=by
   unfold Own.other;rw[ja (by omega),jb aw];rfl
  obtain⟨n1,n2⟩:=hk.n2 (.inr (.inl aw));rw[hd,ho,ke,show sp p (word ws 1)=2*i from i4];have iq:∀j,cu l j s=s.set (2*i) (if j=0 then 4 else 2):=fun j=>by
   unfold cu;rw[jb aw];show s.set (ag (ah l 0)) _=_
   rw[i6]
  have UL:∀v:Nat,¬Aj (m.aZ.getD (2*i) 0)&&&v=0->iN q (s.set (2*i) v) m:=fun v hv=>Al h.bits (fun _ _ _=>rfl) (fun _=>by unfold s8;rw[ja qu];exact hv)
  rcases hhow with hh|hh
  ·rw[hh];refine⟨rfl,n1.symm,?_⟩;rw[iq];exact UL _ (by rw[hh];exact(show¬Aj 110&&&4=0 by decide))
  ·have hp:=h.ro.pos (2*i) (by omega) hh;have e2:(m.held.getD (2*i) 0==0)=false:=by rw[jZ];omega
   rw[hh];simp only[if_true];rw[e2];refine⟨rfl,n2.symm,?_⟩;rw[iq];exact UL _ (by rw[hh];decide)
theorem NH (h:fi text false p q)(hS:Shape q){i:Nat}(hb:p.body i):kH q (p.aG i):=by
 have hm:=Sj h hb;exact⟨h.Yn.lines _ (lZ hm) _ hm,hS.has _ _ hm,hS.fits _ _ hm⟩
theorem E5 (hT:fi text false p q)(hS:Shape q)(howns:f.owns=true)(U:Nat->List Nat)(hU:rP q U)(kM:∀b,b<q.blocks.length->U b=aq\/Full (U b))
  (gW:∀b,b<q.blocks.length->¬U b=aq->cW q (q.blocks.getD b []) (U b)=none):
  ∀(n at':Nat) (s:List Nat) (o:Own.Own) (m:RM) (ans:Nat×Int×Own.Own),oo p at'->eH s->Full s->cW q (rD p (mB p at')) s=none->(∀x∈ej q (rD p (mB p at')) s,la x.2 (U x.1))->j7 q s o/\Bal.gx q [] o->Ro q ak 0 o m->iN q s m->m.out=0->
   dZ q f.room n (rD p (mB p at')) o=some ans->Ua ans.2.2 (eR f p ak n at' m) ans.1 ans.2.1
 |0,at',s,o,m,ans,hs,_,_,_,_,_,h,_,h0,hr=>by
  rw[tail_cons (hs.line hT.ok),dZ]at hr;cases hr
  rw[eR,jb h0];exact h.fin rfl rfl rfl rfl
 |n+1,at',s,o,m,ans,hs,Js,hf,kY,j9,hJ,h,hB,h0,hr=>by
  have cf:=hT.aV;have hb:=hs.line hT.ok;have hk:=Ul hT hb;have hl:=NH hT hS hb;rw[tail_cons hb]at hr kY j9;rw[eR,ja (by rw[h0];decide)];simp only;rw[show(if al (p.line at')=true then at'+1 else at')=mB p at' from rfl];generalize mB p at'=i at*;have he:ends (word (p.line i) 0)=decide (18<=(p.aG i).op):=by rw[hk.op];exact zG ⟨_,hk.hi⟩
  have sw:word (p.line i) 0=[101,110,100]↔(p.aG i).op=22:=by rw[hk.op];exact W9 ⟨_,hk.hi⟩
  have hlo:=hk.lo;have hhi:=hk.hi;rw[cW]at kY;have Oe:aL q (p.aG i) s=false:=by
   cases hv:aL q (p.aG i) s with
   |false=>rfl
   |true=>rw[hv,jb rfl]at kY;cases kY
  rw[Oe,ja (by decide)]at kY;have hA:At q p text ak f s o m (p.aG i) (p.line i):=⟨hT,hl,hk,howns,Oe,hJ.1,hJ.2,h,hB,Js,h0⟩;have Ev:=rl hl;have hgn:km (p.aG i).op->¬(p.aG i).op=6/\¬(p.aG i).op=9/\¬(p.aG i).op=18/\¬(p.aG i).op=19/\¬(p.aG i).op=20/\¬(p.aG i).op=22/\(p.aG i).op<18:=fun e=>by unfold km at e;omega
  by_cases sv:(p.aG i).op<18
  ·have hg:=VD hA sv;have he0:ends (word (p.line i) 0)=false:=by rw[he];simpa using sv
   rw[ja (fun e=>by have:=sw.1 e;omega),ja (by rw[he0];decide)];have Km:=hT.ok.qE hb he0;have mP:=Ds hl sv;have B9:=gi q (p.aG i) Js;have FC:=xK q (WB cf hl) hf;have RJ:∀x∈ej q (rD p (i+1)) (bj q (p.aG i) s),la x.2 (U x.1):=fun x hx=>j9 x (by rw[ej,mP];simpa [kQ,T8]using hx)
   have ih:=fun o' m' (hJ':j7 q (bj q (p.aG i) s) o'/\Bal.gx q [] o') (hr':Ro q ak 0 o' m') (Fz:iN q (bj q (p.aG i) s) m') (h0':m'.out=0) (U6:dZ q f.room n (rD p (i+1)) o'=some ans)=>E5 hT hS howns U hU kM gW n (i+1) _ o' m' ans (.inl Km) B9 FC (by rw[xA Km];exact kY) (by rw[xA Km];exact RJ) hJ' hr' Fz h0' (by rw[xA Km];exact U6)
   unfold fM at hg;rw[dZ]at hr;rcases Ev with FD|aw|aw|aw|aw|aw|aw
   ·obtain⟨g1,g2,g3,g4,g5,g6,-⟩:=hgn FD;rw[ja (fun e=>g1 e.1),ja (fun e=>g2 e.1),ja g2,ja g1]at hg;obtain⟨hn,hJ2⟩:=(Bal.lT cf).fy _ s o hl FD Js Oe hJ;rw[ja g1,ja g2,ja (by omega),ja g6,jb hn]at hr;exact ih _ _ hJ2 hg.1 hg.2.2 hg.2.1 hr
   ·rw[jb aw]at hr;by_cases hz:o.num (ah (p.aG i) 2)=0
    ·rw[jb hz]at hr;rw[jb ⟨aw,hz⟩]at hg;cases hr
     rw[xf f p ak (by rw[hg.1];decide)];exact hg
    ·rw[ja hz]at hr;rw[ja (fun e=>hz e.2),ja (by omega),ja (by omega),jb aw]at hg;exact ih _ _ ((Bal.lT cf).Zi _ s o hl aw Js Oe hJ) hg.1 hg.2.2 hg.2.1 hr
   ·rw[ja (by omega),jb aw]at hr;rw[ja (by omega)]at hg;by_cases hz:(o.drop [ah (p.aG i) 0]).yd.live≥f.room
    ·rw[jb hz]at hr;rw[jb ⟨aw,hz⟩]at hg;cases hr
     rw[xf f p ak (by rw[hg.1];decide)];exact hg
    ·rw[ja hz]at hr;rw[ja (fun e=>hz e.2),jb aw]at hg;exact ih _ _ ((Bal.lT cf).new _ s o hl aw Js Oe hJ) hg.1 hg.2.2 hg.2.1 hr
   ·omega
   ·omega
   ·omega
   ·omega
  ·have he1:ends (word (p.line i) 0)=true:=by rw[he];simpa using sv
   by_cases TO:(p.aG i).op=22
   ·rw[jb (sw.2 TO)];have hn:(p.aG i).places.length=1:=by rw[hk.cP,TO];rfl
    obtain⟨c,c1,c2,c3,c4,c5⟩:=js hl hk cf (j:=0) (by omega) (by rw[TO];rfl);have Rs:=Oe;unfold aL at Rs;rw[ja (by omega),jb (by omega)]at Rs;have e1:m.has.getD (2*c) false=true:=me hB (by omega) (by rw[show 2*c/2=c by omega];exact c4) (by rw[<-c5];exact qY Rs) (Js.lt _);have hv:o.num (ah (p.aG i) 0)=m.int (2*c):=by rw[Own.num,c2];exact h.ints c c1 c4
    rw[dZ,ja (by omega),ja (by omega),ja (by omega),jb TO]at hr;cases hr
    unfold RM.finish;simp only;rw[c3,mF e1,ja (by rw[h0];decide),jb howns,hv];have Kp:Ro q ak (m.int (2*c)) o {m with out:=1,value:=m.int (2*c)}:=⟨h.y.of rfl rfl rfl,⟨h.len.ints,h.len.has,h.len.held,h.len.aZ,h.len.flags⟩,h.GV,h.Cd,h.ints,h.boxes,h.pos,h.ak,rfl⟩;have hql:q.locals.length=p.lets.length:=by rw[hT.locals,RP.iu,jc]
    obtain⟨r1,r2⟩:=AB hT p.lets.length (jC _) Kp hJ.2;rw[hql];exact⟨r2,r1.value,r1.y.text,r1.y.live.symm⟩
   ·rw[ja (fun e=>TO (sw.1 e)),jb he1];have aw:(p.aG i).op=18\/(p.aG i).op=19\/(p.aG i).op=20:=by
     rcases Ev with e|e|e|e|e|e|e
     ·have:=(hgn e).2.2.2.2.2.2;omega
     all_goals omega
    obtain⟨g1,g2,g3⟩:=SC hA aw;have lg:(p.aG i).next.length=if(p.aG i).op=18 then 1 else 2:=by
     rw[hl.ok.EP];rcases aw with e|e|e<;>rw[e]<;>rfl
    have hi:(if o.other (p.aG i)then 1 else 0)<(p.aG i).next.length:=by
     rw[lg];by_cases e:(p.aG i).op=18
     ·have:o.other (p.aG i)=false:=by rw[Own.other,ja (by omega),ja (by omega)]
      rw[this,jb e];decide
     ·rw[ja e];split<;>omega
    have hp:bj q (p.aG i) s=s:=oY (by rcases aw with e|e|e<;>rw[e]<;>rfl) (by omega) (by omega) (by omega);have xT:=M7 (p.aG i) s hi (by rw[lg];split<;>omega);have hle:=j9 ((p.aG i).next.getD (if o.other (p.aG i)then 1 else 0) 0,cu (p.aG i) (if o.other (p.aG i)then 1 else 0) s) (by rw[ej,hp];exact List.mem_append_left _ xT);have B6:(p.aG i).next.getD (if o.other (p.aG i)then 1 else 0) 0<q.blocks.length:=hl.ok.next _ (by rw[jA,jB hi];exact jL _);have iq:=gu (p.aG i) (if o.other (p.aG i)then 1 else 0) Js;have ea:=cQ iq hle (vw (oK (p.aG i) _ hf));have hJ2:=(Bal.lT cf).mono _ _ _ iq (hU.ok _ B6) hle ((Bal.lT cf).term (p.aG i) s o hl aw Js Oe hJ);rw[dZ,ja (by omega),ja (by omega),jb aw]at hr;split at hr
    ·obtain⟨b1,b2⟩:=va hT B6;rw[g1,eW,g2];exact E5 hT hS howns U hU kM gW n _ _ o m ans b1 (hU.ok _ B6) ((kM _ B6).resolve_left ea) (by rw[<-b2];exact gW _ B6 ea) (by rw[<-b2];exact fun x hx=>hU.step _ B6 ea x hx) hJ2 h (CT g3 (hU.ok _ B6).len hle) h0 (by rw[<-b2];exact hr)
    ·cases hr
end
end Sim
end Go.Proofs.YtmlgajhhnojdjaaGreatDoor

import Derived.Test.YtmlgajhhnojdjaaGreatDoorRBQ
import Derived.Test.YtmlgajhhnojdjaaGreatDoorRBL
namespace Go.Proofs.YtmlgajhhnojdjaaGreatDoor
namespace Sim
open Go Sq Aux Go.Proofs.YtmlgajhhnojdjaaGreatDoor.Own Mac RefRa RunA RunB PrjS FlwA FlwB FlwC FlwD FlwE FlwG FlwH FlwJ FlwM FlwS FlwU FlwV FlwW FlwX FlwT
section
variable {q:QP} {al:List Int} {z:Int} {o:Own.Own} {m m':RM} {s:List Nat} {p:RP} {text:B} {l:ab} {ws:List B} {f:Fx}
theorem x7 (w:B):¬Ak (dk w)&&&(if(p.pk w).2=3 then 8 else 1)=0:=by
 rw[Bb];by_cases e:partOf w=115
 ·rw[jb e,jb (show(p.pk w).2=3 from fx.2 e)];decide
 ·rw[ja e,ja (show¬(p.pk w).2=3 from fun x=>e (fx.1 x))];decide
theorem Ii (h:At q p text al f s o m l ws)(hn:l.places.length=2)(a1:QP.ae q (ai l 1)=[ai l 1])(a0:QP.ae q (ai l 0)=[ai l 0])(t0:¬q.bB (ai l 0).1=0)(t1:¬q.bB (ai l 1).1=0){v:Nat}{ch:UInt8}(hch:ch=m.ba.getD (sp p (word ws 2)) 0)(hv:¬Ak ch&&&v=0):
  (p.ak (word ws 2)).2=1/\∃md:RM,md=(m.dc (dk (word ws 2)) (sp p (word ws 2)) 1).drop p (word ws 1)/\md.out=0/\md.ba.length=24/\Ro q al 0 (o.move [ai l 0] [ai l 1]) {md with held:=md.held.set (sp p (word ws 1)) (m.held.getD (sp p (word ws 2)) 0),ba:=md.ba.set (sp p (word ws 1)) ch}/\
   iO q ((dC [ai l 1] s).set (sp p (word ws 1)) v) {md with held:=md.held.set (sp p (word ws 1)) (m.held.getD (sp p (word ws 2)) 0),ba:=md.ba.set (sp p (word ws 1)) ch}:=by
 obtain⟨e0,f0,p0⟩:=h.lk.pl 0 (by omega);obtain⟨e1,f1,p1⟩:=h.lk.pl 1 (by omega);have cg:=h.cg;have g0:=(gI h.ln (j:=0) (by omega)).1;have g1:=(gI h.ln (j:=1) (by omega)).1;have s0:ah (ai l 0)=sp p (word ws 1):=by rw[e0,lP]
 have s1:ah (ai l 1)=sp p (word ws 2):=by rw[e1,lP]
 have k0:=dB (ai l 0);have k1:=dB (ai l 1);have l0:ah (ai l 0)<24:=ig (by omega);have l1:ah (ai l 1)<24:=ig (by omega);rw[s0]at k0 l0;rw[s1]at k1 l1;have tO:=(yk h.both f1 p1).1;rw[<-e1,a1]at tO;refine⟨tO,_,rfl,?_⟩;have oD:=h.ro.clear (x:=ai l 1) (k:=sp p (word ws 2)) (ch:=dk (word ws 2)) s1 (vN _);have aw:=Bal.rY h.WX (p:=ai l 1) (by rw[s1];exact l1);have lv:iO q (dC [ai l 1] s) {m with ba:=m.ba.set (sp p (word ws 2)) (dk (word ws 2))}:=by
  show iO q (s.set (ah (ai l 1)) _) _
  rw[s1];refine fW h.bits h.ro.len.ba rfl rfl (by rw[k1];exact t1) ?_;rw[e1];exact x7 _
 have zn:m.dc (dk (word ws 2)) (sp p (word ws 2)) 1={m with ba:=m.ba.set (sp p (word ws 2)) (dk (word ws 2))}:=rfl;rw[zn];obtain⟨r1,r2,r3⟩:=Ro.drop h.both f0 p0 (by rw[<-e0];omega) (by rw[<-e0];exact t0) oD aw lv;rw[<-e0,a0]at r1 r3;generalize RM.drop p {m with ba:=m.ba.set (sp p (word ws 2)) (dk (word ws 2))} (word ws 1)=md at*;have kf:o.box (ai l 1)=if ch=119 then m.held.getD (sp p (word ws 2)) 0 else 0:=by
  rw[Own.box,s1,h.ro.boxes _ l1,k1,ja t1,hch]
 refine⟨r2.trans h.out,r1.len.ba,?_,?_⟩
 ·show Ro q al 0 (((o.clear (ai l 1)).drop [ai l 0]).sA (ai l 0) (o.box (ai l 1))) _
  exact r1.put s0 l0 (by rw[k0];exact t0) kf (fun e=>h.ro.pos _ l1 (by rw[<-hch];exact e))
 ·have e:dC [ai l 0] (dC [ai l 1] s)=(dC [ai l 1] s).set (sp p (word ws 1)) (if(ai l 0).2=3 then 8 else 1):=by show(dC [ai l 1] s).set (ah (ai l 0)) _=_;rw[s0]
  rw[e]at r3;have:=fW r3 r1.len.ba (m':={md with held:=md.held.set (sp p (word ws 1)) (m.held.getD (sp p (word ws 2)) 0),ba:=md.ba.set (sp p (word ws 1)) ch}) rfl rfl (v:=v) (by rw[k0];exact t0) hv;rw[List.set_set]at this;exact this
theorem SZ (h:At q p text al f s o m l ws)(ax:l.op=14):fN q al f s o l (m.aS f p al ws):=by
 have hk:=h.lk;have hn:l.places.length=2:=by rw[hk.cQ,ax];rfl
 obtain⟨i,i1,i2,i3,i4,i5,i6,i7⟩:=ES h.ln hk h.cg (j:=0) (by omega) (by rw[ax];rfl);obtain⟨b1,b2,b3,b4⟩:=zG h.ln hk h.cg (j:=1) (by omega) (by rw[ax];rfl);have hw:word ws 0=qo:=by rw[hk.op,ax];rfl
 have hd:m.aS f p al ws=m.owned p ws:=by unfold RM.aS;simp[hw,yq,yt,yr,sB,qo,h.owns]
 have kZ:=h.fault;unfold aM at kZ;rw[ja (by omega),ja (by omega),ja (by omega),jb (by omega)]at kZ;have kN:=oK h.fit b2 b3 (by rw[<-b1];exact qZ kZ);obtain⟨hh,-⟩:=h.ro.full b2 kN;have eh:=dB (ai l 1);rw[b1]at eh;obtain⟨tO,md,U1,o1,o2,o3,o4⟩:=Ii h hn b4 i7 (by rw[i2,i5];decide) (by rw[<-eh];exact b3) (v:=2) (ch:=119) hh.symm (by decide);have gD:m.owned p ws={md with held:=md.held.set (sp p (word ws 1)) (m.held.getD (sp p (word ws 2)) 0),ba:=md.ba.set (sp p (word ws 1)) 119}:=by
  unfold RM.owned;simp only;rw[jb hw,tO,<-U1];simp only[RM.cU,Nat.add_zero,List.set_set]
 unfold fN;rw[ja (by omega),ja (by omega),ja (by omega),ja (by omega),hd,gD];refine⟨?_,o1,?_⟩
 ·unfold Own.fz;rw[ja (by omega),ja (by omega),ja (by omega),ja (by omega),ja (by omega),ja (by omega),jb (by omega),i7,b4];exact o3
 ·unfold bm cG;rw[jb (by rw[ax];rfl),ja (by omega),jb ax];show iO q ((dC [ai l 1] s).set (ah (ai l 0)) 2) _
  rw[show ah (ai l 0)=sp p (word ws 1)from by rw[i6];exact i4.symm];exact o4
theorem Ih (hl:kI q l)(hk:Lk p ws l)(ax:l.op=12):q.bt (ai l 0)=q.bt (ai l 1)/\¬q.bB (ai l 0).1=0/\¬q.bB (ai l 1).1=0:=by
 have hn:l.places.length=2:=by rw[hk.cQ,ax];rfl
 have mr:=hl.fits;unfold QP.fits at mr;rw[jH]at mr;have h2:=mr.2;rw[ax]at h2;refine⟨by simpa [ai]using h2,pK ?_,pK ?_⟩
 ·have:=eU hl.fits (j:=0) (by omega);rw[ax]at this;exact this
 ·have:=eU hl.fits (j:=1) (by omega);rw[ax]at this;exact this
theorem SX (h:At q p text al f s o m l ws)(ax:l.op=12):fN q al f s o l (m.aS f p al ws):=by
 have hk:=h.lk;have hn:l.places.length=2:=by rw[hk.cQ,ax];rfl
 obtain⟨k1,t0,t1⟩:=Ih h.ln hk ax;have q0:=gI h.ln (j:=0) (by omega);have q1:=gI h.ln (j:=1) (by omega);have cg:=h.cg;have hlen:=GF k1 q0.2 q1.2;have hw:word ws 0=[109,111,118,101]:=by rw[hk.op,ax];rfl
 have hns:¬word ws 0=qo:=by rw[hw];decide
 have hd:m.aS f p al ws=m.owned p ws:=by unfold RM.aS;simp[hw,yq,yt,yr,sB,qo,h.owns]
 have kZ:=h.fault;unfold aM at kZ;rw[ja (by omega),ja (by omega),ja (by omega),ja (by omega),ja (by omega),jb ax,Bool.or_eq_false_iff]at kZ;have ir:gU q (ai l 1) s=false:=kZ.1;obtain⟨e0,f0,p0⟩:=hk.pl 0 (by omega);obtain⟨e1,f1,p1⟩:=hk.pl 1 (by omega);have s0:ah (ai l 0)=sp p (word ws 1):=by rw[e0,lP]
 have s1:ah (ai l 1)=sp p (word ws 2):=by rw[e1,lP]
 have kh0:=dB (ai l 0);have kh1:=dB (ai l 1);have l0:ah (ai l 0)<24:=ig (by omega);have l1:ah (ai l 1)<24:=ig (by omega);rw[s1]at kh1 l1;rw[s0]at kh0 l0;have hdo:o.fz q l=o.move (QP.ae q (ai l 0)) (QP.ae q (ai l 1)):=by
  unfold Own.fz;rw[ja (by omega),ja (by omega),ja (by omega),ja (by omega),ja (by omega),ja (by omega),jb (by omega)]
 have hpass:bm q l s=gS (dn q (ai l 1) s) (QP.ae q (ai l 0)) (dC (QP.ae q (ai l 1)) s):=by
  unfold bm cG;rw[ja (by rw[ax];decide),jb ax,jb ax];rfl
 unfold fN;rw[ja (by omega),ja (by omega),ja (by omega),ja (by omega),hd,hdo,hpass];rcases bI q (ai l 1)with⟨a1,-⟩|⟨a1,a2,a3⟩
 ·have a0:QP.ae q (ai l 0)=[ai l 0]:=by
   rcases bI q (ai l 0)with⟨a0,-⟩|⟨a0,-⟩
   ·exact a0
   ·rw[a0,a1]at hlen;simp at hlen
  have hv:¬Ak (m.ba.getD (sp p (word ws 2)) 0)&&&dn q (ai l 1) s=0:=by
   unfold dn;unfold gU at ir;by_cases e3:q.bt (ai l 1)=3
   ·rw[jb e3,s1];have:=h.bits.2 _ l1;unfold s9 at this;rw[kh1,ja t1]at this;exact this
   ·rw[ja e3]at ir⊢;have kN:=oK h.fit l1 (by rw[kh1];exact t1) (by rw[<-s1];rw[a1]at ir;exact qZ ir);rw[(h.ro.full l1 kN).1];decide
  obtain⟨tO,md,U1,o1,o2,o3,o4⟩:=Ii h hn a1 a0 t0 t1 (v:=dn q (ai l 1) s) rfl hv;have gD:m.owned p ws={md with held:=md.held.set (sp p (word ws 1)) (m.held.getD (sp p (word ws 2)) 0),ba:=md.ba.set (sp p (word ws 1)) (m.ba.getD (sp p (word ws 2)) 0)}:=by
   unfold RM.owned;simp only;rw[ja hns,tO,<-U1];simp only[RM.cU,Nat.add_zero]
  rw[gD,a0,a1];refine⟨o3,o1,?_⟩;show iO q ((dC [ai l 1] s).set (ah (ai l 0)) _) _
  rw[s0];exact o4
 ·have a0:QP.ae q (ai l 0)=[((ai l 0).1,1),((ai l 0).1,2)]/\(ai l 0).2=0:=by
   rcases bI q (ai l 0)with⟨a0,-⟩|⟨a0,b2,b3⟩
   ·rw[a0,a1]at hlen;simp at hlen
   ·exact⟨a0,b2⟩
  have tO:=(yk h.both f1 p1).1;rw[<-e1,a1]at tO;have hsp2:(p.ak (word ws 2)).2=2:=tO;have v3:¬q.bt (ai l 1)=3:=by unfold QP.bt;rw[ja (by omega),a3];decide
  unfold gU at ir;rw[ja v3,a1]at ir;obtain⟨y1,y2⟩:=Le ir;have hmv:dn q (ai l 1) s=2:=by unfold dn;rw[ja v3]
  have ss1:sp p (word ws 2)=2*(ai l 1).1:=by rw[<-s1];unfold ah;rw[ja (by omega)]
  have ss0:sp p (word ws 1)=2*(ai l 0).1:=by rw[<-s0];unfold ah;rw[ja (by omega)]
  have hlf:dk (word ws 2)=45:=by
   unfold dk;rw[ja];intro e;have:(p.pk (word ws 2)).2=3:=fx.2 e;rw[<-e1]at this;omega
  have sa:∀c:Nat,ah (c,1)=2*c/\ah (c,2)=2*c+1:=fun c=>⟨by simp[ah],by simp[ah]⟩
  have tt:∀{c:Nat},¬q.bB c=0->¬q.bB (2*c/2)=0/\¬q.bB ((2*c+1)/2)=0:=fun{c} hc=>⟨by rw[show 2*c/2=c by omega];exact hc,by rw[show(2*c+1)/2=c by omega];exact hc⟩
  have g0:=q0.1;have g1:=q1.1;obtain⟨x1,x2⟩:=tt t1;obtain⟨u1,u2⟩:=tt t0;have oD:=h.ro.clear (x:=((ai l 1).1,1)) (k:=2*(ai l 1).1) (ch:=45) (sa _).1 (by decide);have aw:=Bal.rY h.WX (p:=((ai l 1).1,1)) (by rw[(sa _).1];omega);have lv:=fW h.bits h.ro.len.ba (m':={m with ba:=m.ba.set (2*(ai l 1).1) 45}) rfl rfl (v:=1) x1 (by decide);have Kq:=oD.clear (x:=((ai l 1).1,2)) (k:=2*(ai l 1).1+1) (ch:=45) (sa _).2 (by decide);have bU:=Bal.rY aw (p:=((ai l 1).1,2)) (by rw[(sa _).2];omega);have mn:=fW lv oD.len.ba (m':={m with ba:=(m.ba.set (2*(ai l 1).1) 45).set (2*(ai l 1).1+1) 45}) rfl rfl (v:=1) x2 (by decide);obtain⟨r1,r2,r3⟩:=Ro.drop h.both f0 p0 (by rw[<-e0];omega) (by rw[<-e0];exact t0) Kq bU mn;rw[<-e0,a0.1]at r1 r3;have zn:m.dc (dk (word ws 2)) (sp p (word ws 2)) 2={m with ba:=(m.ba.set (2*(ai l 1).1) 45).set (2*(ai l 1).1+1) 45}:=by rw[hlf,ss1];rfl
  have hfa1:=oK h.fit (k:=2*(ai l 1).1) (by omega) x1 (by rw[<-(sa _).1];exact y1);have Rt:=oK h.fit (k:=2*(ai l 1).1+1) (by omega) x2 (by rw[<-(sa _).2];exact y2);obtain⟨w1,w2⟩:=h.ro.full (by omega) hfa1;obtain⟨w3,w4⟩:=h.ro.full (by omega) Rt;have U1:∃md,RM.drop p {m with ba:=(m.ba.set (2*(ai l 1).1) 45).set (2*(ai l 1).1+1) 45} (word ws 1)=md:=⟨_,rfl⟩;obtain⟨md,U1⟩:=U1;rw[U1]at r1 r2 r3;have gD:m.owned p ws={md with held:=(md.held.set (2*(ai l 0).1) (m.held.getD (2*(ai l 1).1) 0)).set (2*(ai l 0).1+1) (m.held.getD (2*(ai l 1).1+1) 0),ba:=(md.ba.set (2*(ai l 0).1) 119).set (2*(ai l 0).1+1) 119}:=by
   unfold RM.owned;simp only;rw[ja hns,hsp2,zn,U1,ss0,ss1];simp only[RM.cU,Nat.add_zero];rw[w1,w3]
  rw[gD,a0.1,a1,hmv];have h1:=r1.put (x:=((ai l 0).1,1)) (k:=2*(ai l 0).1) (n:=o.boxes.getD (2*(ai l 1).1) 0) (hd:=m.held.getD (2*(ai l 1).1) 0) (ch:=119) (sa _).1 (by omega) u1 (by rw[jb rfl];exact w2) (fun _=>by omega);have h2:=h1.put (x:=((ai l 0).1,2)) (k:=2*(ai l 0).1+1) (n:=o.boxes.getD (2*(ai l 1).1+1) 0) (hd:=m.held.getD (2*(ai l 1).1+1) 0) (ch:=119) (sa _).2 (by omega) u2 (by rw[jb rfl];exact w4) (fun _=>by omega);refine⟨?_,r2.trans h.out,?_⟩
  ·have em:o.move [((ai l 0).1,1),((ai l 0).1,2)] [((ai l 1).1,1),((ai l 1).1,2)]=((((o.clear ((ai l 1).1,1)).clear ((ai l 1).1,2)).drop [((ai l 0).1,1),((ai l 0).1,2)]).sA ((ai l 0).1,1) (o.boxes.getD (2*(ai l 1).1) 0)).sA ((ai l 0).1,2) (o.boxes.getD (2*(ai l 1).1+1) 0):=by
    have eb1:o.box ((ai l 1).1,1)=o.boxes.getD (2*(ai l 1).1) 0:=by rw[Own.box,(sa _).1]
    have eb2:(o.clear ((ai l 1).1,1)).box ((ai l 1).1,2)=o.boxes.getD (2*(ai l 1).1+1) 0:=by
     show(o.boxes.set (ah ((ai l 1).1,1)) 0).getD (ah ((ai l 1).1,2)) 0=_
     rw[(sa _).1,(sa _).2,cJ,ja (by omega)]
    rw[<-eb1,<-eb2];rfl
   rw[em];exact h2
  ·show iO q (((((s.set (ah ((ai l 1).1,1)) 1).set (ah ((ai l 1).1,2)) 1)).set (ah ((ai l 0).1,1)) 2).set (ah ((ai l 0).1,2)) 2) _
   have e3:dC [((ai l 0).1,1),((ai l 0).1,2)] ((s.set (2*(ai l 1).1) 1).set (2*(ai l 1).1+1) 1)=(((s.set (2*(ai l 1).1) 1).set (2*(ai l 1).1+1) 1).set (2*(ai l 0).1) 1).set (2*(ai l 0).1+1) 1:=by
    show((((s.set (2*(ai l 1).1) 1).set (2*(ai l 1).1+1) 1)).set (ah ((ai l 0).1,1)) 1).set (ah ((ai l 0).1,2)) 1=_
    rw[(sa _).1,(sa _).2]
   rw[e3]at r3;rw[(sa _).1,(sa _).2,(sa _).1,(sa _).2];generalize ((s.set (2*(ai l 1).1) 1).set (2*(ai l 1).1+1) 1)=s2 at*;have b1:=fW r3 r1.len.ba (m':={md with ba:=md.ba.set (2*(ai l 0).1) 119}) rfl rfl (v:=2) u1 (by decide);have b2:=fW b1 (by simpa using r1.len.ba) (m':={md with ba:=(md.ba.set (2*(ai l 0).1) 119).set (2*(ai l 0).1+1) 119}) rfl rfl (v:=2) u2 (by decide);have e4:((((s2.set (2*(ai l 0).1) 1).set (2*(ai l 0).1+1) 1).set (2*(ai l 0).1) 2).set (2*(ai l 0).1+1) 2)=(s2.set (2*(ai l 0).1) 2).set (2*(ai l 0).1+1) 2:=by
    rw[List.set_comm _ _ (show 2*(ai l 0).1+1≠2*(ai l 0).1 by omega),List.set_set,List.set_set]
   rw[e4]at b2;exact lV b2 rfl rfl
end
end Sim
namespace Sim
open Go Sq Aux Go.Proofs.YtmlgajhhnojdjaaGreatDoor.Own Mac RefRa RunA RunB PrjS FlwA FlwB FlwC FlwD FlwE FlwF FlwG FlwH FlwI FlwJ FlwK FlwM FlwO FlwP FlwQ FlwS FlwU FlwV FlwW FlwX FlwT FlwY FlwZ
section
variable {q:QP} {al:List Int} {z:Int} {o:Own.Own} {m m':RM} {s:List Nat} {p:RP} {text:B} {l:ab} {ws:List B} {f:Fx}
theorem Qy (q:QP)(m:RM):iO q (List.replicate 24 15) m:=by
 refine⟨by simp,fun k hk=> ?_⟩;have:(List.replicate 24 15).getD k 0=15:=by rw[jA,jO,jb hk];rfl
 rw[this];unfold s9 Ak
 repeat' split
 all_goals decide
theorem Ye (hT:fj text false p q){n:Nat}(hn:n<p.lets.length):0<=p.find (aj (word (p.line (p.lets.getD n 0)) 1))/\bX (word (p.line (p.lets.getD n 0)) 1)=true/\p.pk (word (p.line (p.lets.getD n 0)) 1)=(n,0)/\(word (p.line (p.lets.getD n 0)) 2=mN↔q.bB n=0):=by
 have e:p.lets.getD n 0=p.lets[n]:=by rw[jA,jB hn];rfl
 rw[e];have hm:p.lets[n]∈p.bQ isLet:=by rw[<-hT.ok.pre.lets];exact jL hn
 have hx:=cI hm;have hf:=hT.ok.pre.form _ hx.1;have ew:word (p.line p.lets[n]) 0=cx:=by simpa [isLet]using hx.2
 rw[dJ,jb ew]at hf;simp only[Bool.and_eq_true,decide_eq_true_eq]at hf;obtain⟨t,ht,ht4,X5⟩:=tJ hf.2;have RF:isName (word (p.line p.lets[n]) 1)=true:=hf.1.2;obtain⟨gM,RD⟩:=gG RF;have Kp:=hT.ok.names _ hx.1;rw[RP.names,jb ew,decide_eq_true_eq]at Kp;have MU:0<=p.find (word (p.line p.lets[n]) 1):=RP.tc p _ _ _ _ (jL hn) rfl;obtain⟨j,hj,ou,-⟩:=RP.eA MU;have P9:j=n:=by
  rw[hj,Int.toNat_natCast,jA,jB ou]at Kp;have hnd:p.lets.Nodup:=by
   rw[hT.ok.pre.lets];unfold RP.bQ;exact List.Pairwise.filter _ List.nodup_range
  exact(List.getElem_inj hnd).1 Kp
 have qv:q.bB n=t:=by
  rw[QP.bB,hT.locals,RP.iv,jA,jJ,jB hn];simp only[Option.map_some,Option.getD_some,RP.Bj];rw[ht];rfl
 refine⟨by rw[RD.1];exact MU,gM,?_,?_⟩
 ·unfold RP.pk;rw[RD.1,RD.2,hj,P9];rfl
 ·rw[qv,X5];have key:∀t,t<4->(kindWord t=mN↔t=0):=by decide
  exact key t ht4
theorem AD (hT:fj text false p q):∀(n:Nat) {o:Own.Own} {m:RM},n<=p.lets.length->Ro q al z o m->Bal.gy q [] o->Ro q al z (Own.dN q n o) (m.fA p n)/\(m.fA p n).out=m.out
 |0,o,m,_,h,_=>⟨h,rfl⟩
 |n+1,o,m,hn,h,hb=>by
  obtain⟨h1,h2,h3,h4⟩:=Ye hT (n:=n) (by omega);have cg:n<12:=by have:=hT.ok.pre.aW;omega
  rw[Own.dN,RM.fA];have aw:Bal.gy q [] (o.drop (QP.ae q (n,0))):=Bal.oJ _ hb (fun x hx=>by
   rcases bI q (n,0)with⟨a,-⟩|⟨a,-⟩<;>rw[a]at hx<;>simp at hx
   ·rw[hx];exact ig cg
   ·rcases hx with rfl|rfl<;>exact ig cg)
  by_cases hi:q.bB n=0
  ·rw[jb (h4.2 hi)];have ha:QP.ae q (n,0)=[(n,0)]:=by unfold QP.ae;rw[ja (by rw[hi];simp)]
   rw[ha]at aw⊢;have yV:ah (n,0)=2*n:=by simp[ah]
   have hz:o.box (n,0)=0:=by rw[Own.box,yV,h.boxes _ (by omega),show 2*n/2=n by omega,jb hi]
   have hr:Ro q al z (o.drop [(n,0)]) m:=by
    rw[drop_one,hz];show Ro q al z (o.clear (n,0)) m
    refine⟨h.y.of rfl rfl rfl,h.len,h.GW,by simpa [Own.clear]using h.Ce,h.ints,fun k hk=> ?_,h.pos,h.al,h.value⟩;show(o.boxes.set (ah (n,0)) 0).getD k 0=_
    rw[cJ,yV];by_cases e:2*n=k
    ·subst e;rw[jb ⟨rfl,by rw[h.Ce];exact hk⟩,show 2*n/2=n by omega,jb hi]
    ·rw[ja (fun x=>e x.1)];exact h.boxes k hk
   exact AD hT n (by omega) hr aw
  ·rw[ja (fun e=>hi (h4.1 e))];obtain⟨r1,r2,-⟩:=Ro.drop hT h1 h2 (by rw[h3];exact cg) (by rw[h3];exact hi) h hb (Qy q m);rw[h3]at r1;obtain⟨r3,r4⟩:=AD hT n (by omega) r1 aw;exact⟨r3,r4.trans r2⟩
theorem VE (h:At q p text al f s o m l ws)(ax:l.op<18):fN q al f s o l (m.aS f p al ws):=by
 have h1:=h.lk.lo;have h2:=rm h.ln;unfold ko at h2;have hc:l.op=2\/(l.op=3\/l.op=4\/l.op=5\/l.op=6)\/l.op=7\/l.op=8\/l.op=9\/l.op=10\/l.op=11\/l.op=12\/l.op=13\/l.op=14\/l.op=15:=by omega
 rcases hc with e|e|e|e|e|e|e|e|e|e|e
 ·exact VH h e
 ·exact Pe h e
 ·exact Yj h e
 ·exact VG h e
 ·exact ET h e
 ·exact SW h e
 ·exact Pf h e
 ·exact SX h e
 ·exact SY h e
 ·exact SZ h e
 ·exact SV h e
theorem Qz (h:iO q s m){c:Nat}(hc:c<24)(ht:¬q.bB (c/2)=0)(xt:jv 6 (s.getD c 0)=false)(hs:s.getD c 0<16):m.ba.getD c 0=110\/m.ba.getD c 0=119:=by
 have:=h.2 c hc;unfold s9 Ak at this;rw[ja ht]at this;generalize s.getD c 0=v at*;by_cases e1:m.ba.getD c 0=119
 ·exact .inr e1
 ·by_cases e2:m.ba.getD c 0=110
  ·exact .inl e2
  ·exfalso;rw[ja e1,ja e2]at this;have key:∀v:Fin 16,jv 6 v.val=false->8&&&v.val=0/\1&&&v.val=0:=by decide
   obtain⟨k1,k2⟩:=key ⟨v,hs⟩ xt;split at this
   ·exact this k1
   ·exact this k2
theorem SD (h:At q p text al f s o m l ws)(ax:l.op=18\/l.op=19\/l.op=20):(m.next p ws).1=m/\(kX (m.next p ws).2).toNat=l.next.getD (if o.other l then 1 else 0) 0/\iO q (cv l (if o.other l then 1 else 0) s) m:=by
 have hk:=h.lk;rcases ax with ax|ax|ax
 ·have hw:word ws 0=[103,111,116,111]:=by rw[hk.op,ax];rfl
  have hd:m.next p ws=(m,word ws 1):=by unfold RM.next;simp[hw]
  have ho:o.other l=false:=by unfold Own.other;simp[ax]
  rw[hd,ho];refine⟨rfl,(hk.n1 ax).symm,?_⟩;unfold cv;rw[ja (by omega)];exact h.bits
 ·have hn:l.places.length=1:=by rw[hk.cQ,ax];rfl
  obtain⟨i,i1,i2,i3,i4,i5⟩:=jt h.ln hk h.cg (j:=0) (by omega) (by rw[ax];rfl);have hw:word ws 0=[105,102]:=by rw[hk.op,ax];rfl
  have hd:m.next p ws=(m.bE (sp p (word ws 1)),if m.int (sp p (word ws 1))=0 then word ws 3 else word ws 2):=by unfold RM.next;simp[hw]
  have kZ:=h.fault;unfold aM at kZ;rw[ja (by omega),jb (by omega)]at kZ;have e1:m.has.getD (2*i) false=true:=mf h.bits (by omega) (by rw[show 2*i/2=i by omega];exact i4) (by rw[<-i5];exact qZ kZ) (h.Yr.lt _);have hv:o.num (ai l 0)=m.int (2*i):=by rw[Own.num,i2];exact h.ro.ints i i1 i4
  have ho:o.other l=(m.int (2*i)==0):=by
   unfold Own.other;rw[jb ax,show o.num (l.places.getD 0 (0,0))=m.int (2*i)from hv]
  obtain⟨n1,n2⟩:=hk.n2 (.inl ax);rw[hd,ho,i3];refine⟨mG e1,?_,?_⟩
  ·by_cases hz:m.int (2*i)=0
   ·rw[jb hz,hz,jb (by decide)];exact n2.symm
   ·rw[ja hz,ja (by simpa using hz)];exact n1.symm
  ·unfold cv;rw[ja (by omega)];exact h.bits
 ·have hn:l.places.length=1:=by rw[hk.cQ,ax];rfl
  obtain⟨i,i1,i2,i3,i4,i5,i6,i7⟩:=ES h.ln hk h.cg (j:=0) (by omega) (by rw[ax];rfl);have hw:word ws 0=bT:=by rw[hk.op,ax];rfl
  have hd:m.next p ws=(if m.ba.getD (sp p (word ws 1)) 0=0 then{m with out:=5}else m,if m.ba.getD (sp p (word ws 1)) 0=110 then word ws 2 else word ws 3):=by unfold RM.next;simp[hw,bT]
  have kZ:=h.fault;unfold aM at kZ;rw[ja (by omega),ja (by omega),ja (by omega),ja (by omega),ja (by omega),ja (by omega),ja (by omega),jb ax]at kZ;have qv:¬q.bB (2*i/2)=0:=by rw[show 2*i/2=i by omega,i5];decide
  have hhow:=Qz h.bits (c:=2*i) (by omega) qv (by rw[<-i6];exact qZ kZ) (h.Yr.lt _);have kf:o.box (ai l 0)=if m.ba.getD (2*i) 0=119 then m.held.getD (2*i) 0 else 0:=by rw[Own.box,i6,h.ro.boxes _ (by omega),ja qv]
  have ho:o.other l= !(o.box (ai l 0)==0):=by
   unfold Own.other;rw[ja (by omega),jb ax];rfl
  obtain⟨n1,n2⟩:=hk.n2 (.inr (.inl ax));rw[hd,ho,kf,show sp p (word ws 1)=2*i from i4];have ir:∀j,cv l j s=s.set (2*i) (if j=0 then 4 else 2):=fun j=>by
   unfold cv;rw[jb ax];show s.set (ah (ai l 0)) _=_
   rw[i6]
  have UM:∀v:Nat,¬Ak (m.ba.getD (2*i) 0)&&&v=0->iO q (s.set (2*i) v) m:=fun v hv=>Am h.bits (fun _ _ _=>rfl) (fun _=>by unfold s9;rw[ja qv];exact hv)
  rcases hhow with hh|hh
  ·rw[hh];refine⟨rfl,n1.symm,?_⟩;rw[ir];exact UM _ (by rw[hh];exact(show¬Ak 110&&&4=0 by decide))
  ·have hp:=h.ro.pos (2*i) (by omega) hh;have e2:(m.held.getD (2*i) 0==0)=false:=by rw[jZ];omega
   rw[hh];simp only[if_true];rw[e2];refine⟨rfl,n2.symm,?_⟩;rw[ir];exact UM _ (by rw[hh];decide)
theorem NI (h:fj text false p q)(hS:Shape q){i:Nat}(hb:p.body i):kI q (p.aH i):=by
 have hm:=Sk h hb;exact⟨h.Yo.lines _ (l6 hm) _ hm,hS.has _ _ hm,hS.fits _ _ hm⟩
theorem E6 (hT:fj text false p q)(hS:Shape q)(howns:f.owns=true)(U:Nat->List Nat)(hU:rQ q U)(kN:∀b,b<q.blocks.length->U b=ar\/Full (U b))
  (gX:∀b,b<q.blocks.length->¬U b=ar->cX q (q.blocks.getD b []) (U b)=none):
  ∀(n at':Nat) (s:List Nat) (o:Own.Own) (m:RM) (ans:Nat×Int×Own.Own),oq p at'->eI s->Full s->cX q (rE p (mC p at')) s=none->(∀x∈eo q (rE p (mC p at')) s,ld x.2 (U x.1))->j8 q s o/\Bal.gy q [] o->Ro q al 0 o m->iO q s m->m.out=0->
   ea q f.room n (rE p (mC p at')) o=some ans->Ub ans.2.2 (eS f p al n at' m) ans.1 ans.2.1
 |0,at',s,o,m,ans,hs,_,_,_,_,_,h,_,h0,hr=>by
  rw[tail_cons (hs.line hT.ok),ea]at hr;cases hr
  rw[eS,jb h0];exact h.fin rfl rfl rfl rfl
 |n+1,at',s,o,m,ans,hs,Jt,hf,kZ,ka,hJ,h,hB,h0,hr=>by
  have cg:=hT.aW;have hb:=hs.line hT.ok;have hk:=Um hT hb;have hl:=NI hT hS hb;rw[tail_cons hb]at hr kZ ka;rw[eS,ja (by rw[h0];decide)];simp only;rw[show(if ao (p.line at')=true then at'+1 else at')=mC p at' from rfl];generalize mC p at'=i at*;have he:ends (word (p.line i) 0)=decide (18<=(p.aH i).op):=by rw[hk.op];exact zH ⟨_,hk.hi⟩
  have sx:word (p.line i) 0=[101,110,100]↔(p.aH i).op=22:=by rw[hk.op];exact Xa ⟨_,hk.hi⟩
  have hlo:=hk.lo;have hhi:=hk.hi;rw[cX]at kZ;have Of:aM q (p.aH i) s=false:=by
   cases hv:aM q (p.aH i) s with
   |false=>rfl
   |true=>rw[hv,jb rfl]at kZ;cases kZ
  rw[Of,ja (by decide)]at kZ;have hA:At q p text al f s o m (p.aH i) (p.line i):=⟨hT,hl,hk,howns,Of,hJ.1,hJ.2,h,hB,Jt,h0⟩;have Ew:=rm hl;have hgn:ko (p.aH i).op->¬(p.aH i).op=6/\¬(p.aH i).op=9/\¬(p.aH i).op=18/\¬(p.aH i).op=19/\¬(p.aH i).op=20/\¬(p.aH i).op=22/\(p.aH i).op<18:=fun e=>by unfold ko at e;omega
  by_cases sw:(p.aH i).op<18
  ·have hg:=VE hA sw;have he0:ends (word (p.line i) 0)=false:=by rw[he];simpa using sw
   rw[ja (fun e=>by have:=sx.1 e;omega),ja (by rw[he0];decide)];have Kn:=hT.ok.qF hb he0;have mQ:=Dt hl sw;have Ca:=gm q (p.aH i) Jt;have FD:=xL q (WC cg hl) hf;have RL:∀x∈eo q (rE p (i+1)) (bm q (p.aH i) s),ld x.2 (U x.1):=fun x hx=>ka x (by rw[eo,mQ];simpa [kR,T9]using hx)
   have ih:=fun o' m' (hJ':j8 q (bm q (p.aH i) s) o'/\Bal.gy q [] o') (hr':Ro q al 0 o' m') (FA:iO q (bm q (p.aH i) s) m') (h0':m'.out=0) (U7:ea q f.room n (rE p (i+1)) o'=some ans)=>E6 hT hS howns U hU kN gX n (i+1) _ o' m' ans (.inl Kn) Ca FD (by rw[xB Kn];exact kZ) (by rw[xB Kn];exact RL) hJ' hr' FA h0' (by rw[xB Kn];exact U7)
   unfold fN at hg;rw[ea]at hr;rcases Ew with FE|ax|ax|ax|ax|ax|ax
   ·obtain⟨g1,g2,g3,g4,g5,g6,-⟩:=hgn FE;rw[ja (fun e=>g1 e.1),ja (fun e=>g2 e.1),ja g2,ja g1]at hg;obtain⟨hn,hJ2⟩:=(Bal.lU cg).fz _ s o hl FE Jt Of hJ;rw[ja g1,ja g2,ja (by omega),ja g6,jb hn]at hr;exact ih _ _ hJ2 hg.1 hg.2.2 hg.2.1 hr
   ·rw[jb ax]at hr;by_cases hz:o.num (ai (p.aH i) 2)=0
    ·rw[jb hz]at hr;rw[jb ⟨ax,hz⟩]at hg;cases hr
     rw[xg f p al (by rw[hg.1];decide)];exact hg
    ·rw[ja hz]at hr;rw[ja (fun e=>hz e.2),ja (by omega),ja (by omega),jb ax]at hg;exact ih _ _ ((Bal.lU cg).Zj _ s o hl ax Jt Of hJ) hg.1 hg.2.2 hg.2.1 hr
   ·rw[ja (by omega),jb ax]at hr;rw[ja (by omega)]at hg;by_cases hz:(o.drop [ai (p.aH i) 0]).yd.live≥f.room
    ·rw[jb hz]at hr;rw[jb ⟨ax,hz⟩]at hg;cases hr
     rw[xg f p al (by rw[hg.1];decide)];exact hg
    ·rw[ja hz]at hr;rw[ja (fun e=>hz e.2),jb ax]at hg;exact ih _ _ ((Bal.lU cg).new _ s o hl ax Jt Of hJ) hg.1 hg.2.2 hg.2.1 hr
   ·omega
   ·omega
   ·omega
   ·omega
  ·have he1:ends (word (p.line i) 0)=true:=by rw[he];simpa using sw
   by_cases TP:(p.aH i).op=22
   ·rw[jb (sx.2 TP)];have hn:(p.aH i).places.length=1:=by rw[hk.cQ,TP];rfl
    obtain⟨c,c1,c2,c3,c4,c5⟩:=jt hl hk cg (j:=0) (by omega) (by rw[TP];rfl);have Rt:=Of;unfold aM at Rt;rw[ja (by omega),jb (by omega)]at Rt;have e1:m.has.getD (2*c) false=true:=mf hB (by omega) (by rw[show 2*c/2=c by omega];exact c4) (by rw[<-c5];exact qZ Rt) (Jt.lt _);have hv:o.num (ai (p.aH i) 0)=m.int (2*c):=by rw[Own.num,c2];exact h.ints c c1 c4
    rw[ea,ja (by omega),ja (by omega),ja (by omega),jb TP]at hr;cases hr
    unfold RM.finish;simp only;rw[c3,mG e1,ja (by rw[h0];decide),jb howns,hv];have Kq:Ro q al (m.int (2*c)) o {m with out:=1,value:=m.int (2*c)}:=⟨h.y.of rfl rfl rfl,⟨h.len.ints,h.len.has,h.len.held,h.len.ba,h.len.flags⟩,h.GW,h.Ce,h.ints,h.boxes,h.pos,h.al,rfl⟩;have hql:q.locals.length=p.lets.length:=by rw[hT.locals,RP.iv,jc]
    obtain⟨r1,r2⟩:=AD hT p.lets.length (jC _) Kq hJ.2;rw[hql];exact⟨r2,r1.value,r1.y.text,r1.y.live.symm⟩
   ·rw[ja (fun e=>TP (sx.1 e)),jb he1];have ax:(p.aH i).op=18\/(p.aH i).op=19\/(p.aH i).op=20:=by
     rcases Ew with e|e|e|e|e|e|e
     ·have:=(hgn e).2.2.2.2.2.2;omega
     all_goals omega
    obtain⟨g1,g2,g3⟩:=SD hA ax;have lh:(p.aH i).next.length=if(p.aH i).op=18 then 1 else 2:=by
     rw[hl.ok.ER];rcases ax with e|e|e<;>rw[e]<;>rfl
    have hi:(if o.other (p.aH i)then 1 else 0)<(p.aH i).next.length:=by
     rw[lh];by_cases e:(p.aH i).op=18
     ·have:o.other (p.aH i)=false:=by rw[Own.other,ja (by omega),ja (by omega)]
      rw[this,jb e];decide
     ·rw[ja e];split<;>omega
    have hp:bm q (p.aH i) s=s:=oZ (by rcases ax with e|e|e<;>rw[e]<;>rfl) (by omega) (by omega) (by omega);have xU:=M8 (p.aH i) s hi (by rw[lh];split<;>omega);have hle:=ka ((p.aH i).next.getD (if o.other (p.aH i)then 1 else 0) 0,cv (p.aH i) (if o.other (p.aH i)then 1 else 0) s) (by rw[eo,hp];exact List.mem_append_left _ xU);have B7:(p.aH i).next.getD (if o.other (p.aH i)then 1 else 0) 0<q.blocks.length:=hl.ok.next _ (by rw[jA,jB hi];exact jL _);have ir:=gv (p.aH i) (if o.other (p.aH i)then 1 else 0) Jt;have ec:=cR ir hle (vy (oL (p.aH i) _ hf));have hJ2:=(Bal.lU cg).mono _ _ _ ir (hU.ok _ B7) hle ((Bal.lU cg).term (p.aH i) s o hl ax Jt Of hJ);rw[ea,ja (by omega),ja (by omega),jb ax]at hr;split at hr
    ·obtain⟨b1,b2⟩:=vc hT B7;rw[g1,eX,g2];exact E6 hT hS howns U hU kN gX n _ _ o m ans b1 (hU.ok _ B7) ((kN _ B7).resolve_left ec) (by rw[<-b2];exact gX _ B7 ec) (by rw[<-b2];exact fun x hx=>hU.step _ B7 ec x hx) hJ2 h (CU g3 (hU.ok _ B7).len hle) h0 (by rw[<-b2];exact hr)
    ·cases hr
end
end Sim
namespace Mac
open Go Go.RowKit Sq Aux Go.Proofs.YtmlgajhhnojdjaaGreatDoor.Own RefRa RefZd PrjS Sim
section
variable {w0 w:World} {x gw cw:Nat} {f:Fx} {m:RM} {p:RP} {t i:Nat} {al:List Int} {text:B} {raw:Bool}
theorem VV (w:B):aO (kX w):=by
 have h:=Dy w;rw[sf]at h;unfold aO kX;omega
theorem Ctx.long (hC:Ctx w0 p f)(i j:Nat):(word (p.line i) j).length<=maxLen:=jS (hC.ok.long i j) (by unfold maxLen;omega)
theorem Tb (h:bf w0 f.a p)(hO:p.Ok)(hi:i<p.lines.length):∃g cap gl dt,w0.cell? ⟨f.a,0,none⟩=some (.slice (some ⟨g,0,none⟩) p.lines.length cap)/\w0.cell? ⟨g,i,none⟩=some (.slice (some ⟨gl,0,none⟩) (p.line i).length dt)/\g<w0.heap.size/\p.lines.length<=cap/\(p.line i).length<=dt/\Row w0 (p.line i) gl:=by
 obtain⟨v,hv,hr⟩:=h.lines;rcases hr with⟨he,_⟩|⟨g,cap,rfl,hc,hg,aD⟩
 ·rw[he]at hi;simp at hi
 ·obtain⟨u,hu,gl,dt,rfl,AW,Wh,hw⟩:=aD i hi;exact⟨g,cap,gl,dt,hv,hu,hg,hc,AW,⟨Wh,hw,hO.wide i⟩⟩
theorem DL (p:RP)(w:B):(p.ak w).2=if partOf w=98 then 1 else if p.typeOf w=cm then 2 else 1:=by
 unfold RP.ak;split
 ·rfl
 ·split<;>rfl
theorem Ph {w1:B}(h:p.typeOf w1=cm):¬partOf w1=98:=fun e=>by
 unfold RP.typeOf at h;rw[jb (.inr e)]at h;split at h
 ·exact absurd h (by decide)
 ·exact absurd h (by decide)
theorem Q6 {w1 w2:B}(h1:p.fits w1)(h2:p.typeOf w2=cm->p.typeOf w1=cm):sp p w1+(p.ak w2).2<=24:=by
 unfold RP.fits at h1;have s1:=DL p w1;have s2:=DL p w2;unfold sp;by_cases e:p.typeOf w2=cm
 ·have e1:=h2 e;rw[ja (Ph e1),jb e1]at s1;have:(p.ak w2).2<=2:=by
   rw[s2,jb e];split<;>omega
  omega
 ·have h3:(p.ak w2).2=1:=by
   rw[s2,ja e];split<;>rfl
  have:1<=(p.ak w1).2:=by
   rw[s1];split
   ·omega
   ·split<;>omega
  omega
theorem vd {i:Nat}(hb:p.body i):¬word (p.line i) 0=cx/\¬word (p.line i) 0=aR:=
 ⟨by have:=hb.2.1;simpa [isLet]using this,by have:=hb.2.2;simpa [ao]using this⟩
theorem rV (hR:aF text raw p){i:Nat}(hb:p.body i):(behind (word (p.line i) 0) raw).2=true/\(p.line i).length=(behind (word (p.line i) 0) raw).1.length+1:=by
 have AX:=hR.pre.form i hb.1;rw[hR.raw]at AX;exact Lg AX (vd hb).1 (vd hb).2
theorem CX (hR:aF text raw p){i:Nat}(hb:p.body i)(k:Nat)(hk:k<(behind (word (p.line i) 0) raw).1.length)(hc:(behind (word (p.line i) 0) raw).1.getD k 0∈[(105:UInt8),112,109,111,100]):0<=p.find (aj (word (p.line i) (k+1))):=by
 have h:= @RP.iw p i (hR.names i hb.1) (vd hb).1 k;rw[hR.raw]at h;refine h hk ?_;rw[jA,jB hk]at hc;exact hc
theorem QB (hR:aF text raw p){i:Nat}(hb:p.body i)(hw:word (p.line i) 0=[109,111,118,101]\/word (p.line i) 0=[115,111,109,101]):sp p (word (p.line i) 1)+(p.ak (word (p.line i) 2)).2<=24:=by
 rcases hw with e|e
 ·have hf:(behind (word (p.line i) 0) p.raw).1=[109,109]:=by rw[e];rfl
  obtain⟨a1,-⟩:=hR.place hb hf 0 (by simp) (by rfl);obtain⟨-,b2⟩:=hR.place hb hf 1 (by simp) (by rfl);refine Q6 a1.fits fun h=> ?_
  rw[<-h];exact((BZ b2).2).symm
 ·have hf:(behind (word (p.line i) 0) p.raw).1=[111,112]:=by rw[e];rfl
  obtain⟨a1,-⟩:=hR.place hb hf 0 (by simp) (by rfl);obtain⟨-,b2⟩:=hR.place hb hf 1 (by simp) (by rfl);refine Q6 a1.fits fun h=> ?_
  rw[show p.typeOf (word (p.line i) 2)=kA from pf b2]at h;exact absurd h (by decide)
theorem Up (hC:Ctx w0 p f)(hR:aF text false p)(hb:p.body i)(ga:Row w0 (p.line i) gw)(hf:f.owns=true)(Ru:bY w0 f.vi al)(hn:∀n∈al,aO n):Ua p f w0 al (p.line i) gw:=by
 obtain⟨h1,h2⟩:=rV hR hb;exact⟨ga,hC,hf,fun j=>hC.long i j,h2,h1,CX hR hb,QB hR hb,VV _,Ru,hn⟩
theorem qI (hC:Ctx w0 p f)(hR:aF text raw p)(hb:p.body i)(k:Nat)(hc:(behind (word (p.line i) 0) raw).1.getD k 0=78):Bw p (word (p.line i) (k+1)):=by
 obtain⟨n,h1,h2,-⟩:=hR.vI i hb.1 k (by rw[hR.raw];exact hc);exact⟨hC.long i _,n,h1,h2⟩
theorem TK (hC:Ctx w0 p f)(hR:aF text raw p)(hb:p.body i)(k:Nat)(hk:k<(behind (word (p.line i) 0) raw).1.length)(hc:(behind (word (p.line i) 0) raw).1.getD k 0∈[(105:UInt8),112,109,111,100]):Wd p (word (p.line i) (k+1)):=
 ⟨hC.long i _,CX hR hb k hk hc⟩
theorem Se (hC:Ctx w0 p f)(hR:aF text raw p):VZ p:=⟨fun n hn=>by
 refine⟨hC.long _ _,?_⟩;have e:p.lets.getD n 0=p.lets[n]:=by rw[jA,jB hn];rfl
 rw[e];have hm:p.lets[n]∈p.bQ isLet:=by rw[<-hR.pre.lets];exact jL hn
 have hx:=cI hm;have hf:=hR.pre.form _ hx.1;have ew:word (p.line p.lets[n]) 0=cx:=by simpa [isLet]using hx.2
 rw[dJ,jb ew]at hf;simp only[Bool.and_eq_true,decide_eq_true_eq]at hf;have RF:isName (word (p.line p.lets[n]) 1)=true:=hf.1.2;rw[(gG RF).2.1];exact RP.tc p _ _ _ _ (jL hn) rfl⟩
theorem AE {w:B}(h:(behind w false).2=true)(he:ends w=true)(hn:¬w=[101,110,100]):w=[103,111,116,111]\/w=[105,102]\/w=[109,97,116,99,104]:=by
 have hm:=pq w h;simp only[l9,List.mem_cons,List.not_mem_nil,or_false]at hm;rcases hm with rfl|rfl|rfl|rfl|rfl|rfl|rfl|rfl|rfl|rfl|rfl|rfl|rfl|rfl|rfl|rfl|rfl|rfl
 all_goals first
  |exact absurd he (by decide)
  |exact absurd rfl hn
  |exact .inl rfl
  |exact .inr (.inl rfl)
  |exact .inr (.inr rfl)
theorem ri (hC:Ctx w0 p f)(hR:aF text false p)(hb:p.body i)(ga:Row w0 (p.line i) gw)(h:cd w0 x f w m)(he:ends (word (p.line i) 0)=true)(hn:¬word (p.line i) 0=[101,110,100]):
  Calls Tryz.prog 93 #[.pointer (some ⟨x,0,none⟩),.slice (some ⟨gw,0,none⟩) (p.line i).length cw] w fun e w'=>e=.returned (.int .i64 ((eX p (m.next p (p.line i)).2:Nat):Int))/\cd w0 x f w' (m.next p (p.line i)).1:=by
 obtain⟨h1,h2⟩:=rV hR hb;rcases AE h1 he hn with e|e|e
 ·have hf:(behind (word (p.line i) 0) false).1=[78]:=by rw[e];rfl
  exact O6 hC h ga (by rw[h2,hf];rfl) (qI hC hR hb 0 (by rw[hf];rfl)) e
 ·have hf:(behind (word (p.line i) 0) false).1=[105,78,78]:=by rw[e];rfl
  have hl:(p.line i).length=4:=by rw[h2,hf];rfl
  have hw:=TK hC hR hb 0 (by rw[hf];simp) (by rw[hf];simp);by_cases hz:m.int (sp p (word (p.line i) 1))=0
  ·exact SB hC h ga hl hw (qI hC hR hb 2 (by rw[hf];rfl)) e hz
  ·exact SC hC h ga hl hw (qI hC hR hb 1 (by rw[hf];rfl)) e hz
 ·have hf:(behind (word (p.line i) 0) false).1=[111,78,78]:=by rw[e];rfl
  have hl:(p.line i).length=4:=by rw[h2,hf];rfl
  have hw:=TK hC hR hb 0 (by rw[hf];simp) (by rw[hf];simp);by_cases hz:m.ba.getD (sp p (word (p.line i) 1)) 0=0
  ·exact Ip hC h ga hl hw (qI hC hR hb 2 (by rw[hf];rfl)) e hz
  ·by_cases xX:m.ba.getD (sp p (word (p.line i) 1)) 0=110
   ·exact Iq hC h ga hl hw (qI hC hR hb 1 (by rw[hf];rfl)) e xX
   ·exact Ir hC h ga hl hw (qI hC hR hb 2 (by rw[hf];rfl)) e hz xX
theorem Vt (hC:Ctx w0 p f)(hR:aF text false p)(hb:p.body i)(he:ends (word (p.line i) 0)=true)(hn:¬word (p.line i) 0=[101,110,100]):Bw p (m.next p (p.line i)).2:=by
 obtain⟨h1,h2⟩:=rV hR hb;rcases AE h1 he hn with e|e|e
 ·have hf:(behind (word (p.line i) 0) false).1=[78]:=by rw[e];rfl
  have hd:m.next p (p.line i)=(m,word (p.line i) 1):=by unfold RM.next;simp[e]
  rw[hd];exact qI hC hR hb 0 (by rw[hf];rfl)
 ·have hf:(behind (word (p.line i) 0) false).1=[105,78,78]:=by rw[e];rfl
  have hd:(m.next p (p.line i)).2=if m.int (sp p (word (p.line i) 1))=0 then word (p.line i) 3 else word (p.line i) 2:=by unfold RM.next;simp[e]
  rw[hd];split
  ·exact qI hC hR hb 2 (by rw[hf];rfl)
  ·exact qI hC hR hb 1 (by rw[hf];rfl)
 ·have hf:(behind (word (p.line i) 0) false).1=[111,78,78]:=by rw[e];rfl
  have hd:(m.next p (p.line i)).2=if m.ba.getD (sp p (word (p.line i) 1)) 0=110 then word (p.line i) 2 else word (p.line i) 3:=by unfold RM.next;simp[e,bT]
  rw[hd];split
  ·exact qI hC hR hb 1 (by rw[hf];rfl)
  ·exact qI hC hR hb 2 (by rw[hf];rfl)
theorem PJ (hR:aF text raw p){l:B}(hb:Bw p l):oq p (eX p l):=by
 obtain⟨n,h1,h2⟩:=hb.num;obtain⟨h3,h4,-⟩:=RP.kj hR.pre.blocks h2;have e:eX p l=p.blocks.getD n 0:=by unfold eX kX;rw[h1];rfl
 rw[e];exact .inr ⟨h3,h4⟩
theorem RM.Ok.next (hO:m.Ok t)(ws:List B):(m.next p ws).1.Ok t:=by
 unfold RM.next;simp only;split
 ·exact hO
 ·split
  ·exact hO.bE _
  ·split
   ·split
    ·exact hO.outs 5
    ·exact hO
   ·exact hO
theorem NU (h:¬m.out=0)(c:UInt8)(k:Nat):¬(m.ee c k).out=0:=by
 unfold RM.ee RM.free;simp only;split
 ·split
  ·simp
  ·exact h
 ·exact h
theorem C5 (h:¬m.out=0)(c:UInt8)(k:Nat):∀n,¬(m.mh c k n).out=0
 |0=>h
 |n+1=>NU (C5 h c k n) c (k+n)
theorem vr:∀(n:Nat) (m:RM),¬m.out=0->¬(RM.fA p n m).out=0
 |0,_,h=>h
 |n+1,m,h=>by
  rw[RM.fA];refine vr n _ ?_;split
  ·exact h
  ·exact C5 h _ _ _
theorem AI (ws:List B):¬(m.finish f p ws).out=0:=by
 unfold RM.finish;simp only;split
 ·assumption
 ·split
  ·exact vr _ _ (by simp)
  ·simp
theorem J2 (hC:Ctx w0 p f)(hR:aF text false p)(hb:p.body i)(ga:Row w0 (p.line i) gw)(h:cd w0 x f w m)(hw:word (p.line i) 0=[101,110,100])(h0:m.out=0)(hf:f.owns=true)(hO:m.Ok t)(ht:t<=1000000):
  Calls Tryz.prog 92 #[.pointer (some ⟨x,0,none⟩),.slice (some ⟨gw,0,none⟩) (p.line i).length cw] w fun e w'=>e=.returned (.tuple #[])/\cd w0 x f w' (m.finish f p (p.line i)):=by
 obtain⟨h1,h2⟩:=rV hR hb;have hfm:(behind (word (p.line i) 0) false).1=[105]:=by rw[hw];rfl
 have hl:(p.line i).length=2:=by rw[h2,hfm];rfl
 have yW:=TK hC hR hb 0 (by rw[hfm];simp) (by rw[hfm];simp);by_cases hh:m.has.getD (sp p (word (p.line i) 1)) false=true
 ·exact J3 hC h ga hl yW hh h0 hf (Se hC hR) hO ht
 ·exact Gk hC h ga hl yW hh
end
end Mac
end Go.Proofs.YtmlgajhhnojdjaaGreatDoor

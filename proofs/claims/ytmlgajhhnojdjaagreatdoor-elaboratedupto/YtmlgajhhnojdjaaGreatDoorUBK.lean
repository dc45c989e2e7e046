import Derived.Test.YtmlgajhhnojdjaaGreatDoorUBJ
namespace Go.Proofs.YtmlgajhhnojdjaaGreatDoor
namespace El
open Go Sq Aux Go.Proofs.YtmlgajhhnojdjaaGreatDoor.Own RunA RunB Ex Bal PrjS FlwA FlwB FlwC FlwD FlwE FlwF FlwG FlwH FlwI FlwJ FlwM FlwS
section
variable {q:QP} {Rb:List (List ab)} {room:Int} {un:List Bool} {s g:List Nat} {o:Own.Own} {b b1:Br} {l:ab} {is:List Item} {rs:List ab}
def rb (q:QP)(un:List Bool)(s:List Nat)(l:ab):Prop:=∀x∈aW q l,ae x<24->cg ((aL q l s).getD (ae x) 0)=true->un.getD (ae x) false=true
theorem eX (q:QP)(un:List Bool)(s:List Nat)(l:ab)(is:List Item):bB q un s l++is=aN (aL q l s) (aW q l)++((if l.op=15 then []else [.line l])++(a8 un s (aq q l s) 24++((if l.op=12 then bJ un (aq q l s) (ag l 0)else [])++is))):=by
 unfold bB;simp only[List.append_assoc]
theorem yY (ez:aW q l=[]){js:List Item}(hL:Laid Rb (aN (aL q l s) (aW q l)++js) rs):Laid Rb js rs:=by
 rw[ez]at hL;exact hL
theorem yh (h:qJ q un s g o b)(hl:eU q l)(bR:q.locals.length<=12)(hf:aE q l s=false){o':Own.Own}(hj:gG q (aq q l s) o'/\gz q [] o')(lT:¬l.op=15){m:Nat}{rs1:List ab}(fy:cS ⟨q.locals,Rb⟩ room m rs b rs1 b1)(hm:m<=100)(lf:b1.flags=b.flags)(hd:La q Rb room g l o' b1)
  (hL:Laid Rb ((if l.op=15 then []else [.line l])++(a8 un s (aq q l s) 24++((if l.op=12 then bJ un (aq q l s) (ag l 0)else [])++is))) rs1):
  ∃m rs' b',m<=200/\cS ⟨q.locals,Rb⟩ room m rs b rs' b'/\Laid Rb is rs'/\qJ q un (aq q l s) (aq q l g) o' b':=by
 rw[ja lT]at hL;obtain⟨rs2,rfl,EY⟩:=hL;obtain⟨b2,d1,d2,d3,d4,d5⟩:=hd rs2;obtain⟨m',rs',b',e1,e2,e3,e4⟩:=finish (room:=room) (b2:=b2) h hl bR hf d2 d3 d4 (d5.trans lf) hj EY;exact⟨m+(1+m'),rs',b',by omega,fy.trans ((cS.one d1).trans e2),e3,e4⟩
theorem Gv (h:qJ q un s g o b)(hl:eU q l)(bR:q.locals.length<=12)(hf:aE q l s=false)(ak:l.op=2\/l.op=3\/l.op=4\/l.op=5\/l.op=7\/l.op=8\/l.op=10\/l.op=11)(hj:gG q (aq q l s) (o.cz q l)/\gz q [] (o.cz q l))(hL:Laid Rb (bB q un s l++is) rs):
  ∃m rs' b',m<=200/\cS ⟨q.locals,Rb⟩ room m rs b rs' b'/\Laid Rb is rs'/\qJ q un (aq q l s) (aq q l g) (o.cz q l) b':=by
 rw[eX]at hL;have ez:aW q l=[]:=by unfold aW;rw[ja (by omega),ja (by omega)]
 obtain⟨d1,d2,d3,d4,d5⟩:=Lq (Rb:=Rb) h hl bR hf ak;exact yh h hl bR hf hj (by omega) (.refl _ _) (by omega) rfl (fun ls=>⟨_,rP _ ls ⟨by omega,by omega,by omega⟩ d1,d2,d3,d4,d5⟩) (yY ez hL)
theorem Oe (h:qJ q un s g o b)(hl:eU q l)(bR:q.locals.length<=12)(hf:aE q l s=false)(ak:l.op=6)(hz:¬o.num (ag l 2)=0)(hj:gG q (aq q l s) (o.calc l)/\gz q [] (o.calc l))(hL:Laid Rb (bB q un s l++is) rs):
  ∃m rs' b',m<=200/\cS ⟨q.locals,Rb⟩ room m rs b rs' b'/\Laid Rb is rs'/\qJ q un (aq q l s) (aq q l g) (o.calc l) b':=by
 rw[eX]at hL;have ez:aW q l=[]:=by unfold aW;rw[ja (by omega),ja (by omega)]
 obtain⟨a1,-,a3,-⟩:=oh (Rb:=Rb) h hl bR hf (by omega);obtain⟨d2,d3,d4,d5⟩:=BP (Rb:=Rb) h hl bR hf (by omega);refine yh h hl bR hf hj (by omega) (.refl _ _) (by omega) rfl (fun ls=>⟨_,?_,d2,d3,d4,d5⟩) (yY ez hL);unfold ix;rw[a1,ja (by decide),jb ak,a3,ja hz]
theorem py (hl:eU q l)(bR:q.locals.length<=12)(ak:l.op=9\/l.op=12\/l.op=13\/l.op=14\/l.op=15):(ag l 0).1<12/\¬q.bN (ag l 0).1=0:=by
 have hlen:0<l.places.length:=by rw[hl.ok.bt];rcases ak with e|e|e|e|e<;>rw[e]<;>decide
 have p0:=ba hl hlen;have k0:=bj hl.fits hlen;refine⟨by omega,?_⟩;rcases ak with e|e|e|e|e<;>rw[e]at k0
 ·exact(ei (x:=ag l 0) k0).1
 ·exact fQ (x:=ag l 0) k0
 ·have:=(jn (x:=ag l 0) k0 p0.2).1;omega
 ·have:=(jn (x:=ag l 0) k0 p0.2).1;omega
 ·exact fQ (x:=ag l 0) k0
theorem Ia (h:qJ q un s g o b)(hl:eU q l)(bR:q.locals.length<=12)(hf:aE q l s=false):((gT q l).map ae).Nodup/\∀x∈gT q l,ae x<24/\¬q.bN (ae x/2)=0/\(x.2=3->g.getD (ae x) 0=2\/g.getD (ae x) 0=8):=by
 unfold gT;by_cases e:l.op=12
 ·rw[jb e];refine⟨dZ q _,fun x hx=> ?_⟩;have hlen:l.places.length=2:=by rw[hl.ok.bt,e];rfl
  have p1:=ba hl (j:=1) (by omega);have k1:=bj hl.fits (j:=1) (by omega);rw[e]at k1;have t1:=fQ (x:=ag l 1) k1;have f1:fW q (ag l 1) s=false:=by
   unfold aE at hf;rw[ja (by omega),ja (by omega),ja (by omega),ja (by omega),ja (by omega),jb e,Bool.or_eq_false_iff]at hf;exact hf.1
  rcases bo q (ag l 1)with⟨e1,-⟩|⟨e1,e2,-⟩<;>rw[e1]at hx<;>simp at hx
  ·subst hx;refine⟨cx (by omega),by rw[bu];exact t1,fun e3=> .inl ?_⟩;unfold fW at f1;rw[ja (by unfold QP.aJ;rw[jb (.inr (.inr e3))];decide),e1]at f1;exact h.two (by omega) (cV f1)
  ·rcases hx with rfl|rfl
   ·exact⟨cx (by simp only;omega),by rw[bu];exact t1,fun e3=>by simp at e3⟩
   ·exact⟨cx (by simp only;omega),by rw[bu];exact t1,fun e3=>by simp at e3⟩
 ·rw[ja e];by_cases e4:l.op=14
  ·rw[jb e4];refine⟨by simp,fun x hx=> ?_⟩;rw[jI]at hx;subst hx;have hlen:l.places.length=2:=by rw[hl.ok.bt,e4];rfl
   have p1:=ba hl (j:=1) (by omega);have k1:=bj hl.fits (j:=1) (by omega);rw[e4]at k1;have t1:=(ei (x:=ag l 1) k1).1;have f1:bI 2 [ag l 1] s=false:=by
    unfold aE at hf;rw[ja (by omega),ja (by omega),ja (by omega),jb (by omega)]at hf;exact hf
   exact⟨cx (by omega),by rw[bu];exact t1,fun _=> .inl (h.two (by omega) (cV f1))⟩
  ·rw[ja e4];exact⟨by simp,fun x hx=>by cases hx⟩
theorem Cn (h:qJ q un s g o b)(hl:eU q l)(bR:q.locals.length<=12)(hf:aE q l s=false)(hA:rb q un s l)(ak:l.op=9){js:List Item}(hL:Laid Rb (aN (aL q l s) (aW q l)++js) rs):
  ∃m rs',m<=6/\cS ⟨q.locals,Rb⟩ room m rs b rs' {b with yd:=(o.drop [ag l 0]).yd}/\Laid Rb js rs':=by
 obtain⟨f1,f2⟩:=py hl bR (.inl ak);obtain⟨g1,g2⟩:=Ia h hl bR hf;obtain⟨-,m,rs',e1,e2,e3⟩:=pE (room:=room) h hA (pD (.inl ak)) f1 f2 g1 g2 hL;obtain⟨-,c,-,-,hh⟩:=EI hl ak;rw[sB (by omega) (by omega),hh]at e2;exact⟨m,rs',e1,e2,e3⟩
theorem PW (h:qJ q un s g o b)(hl:eU q l)(bR:q.locals.length<=12)(hf:aE q l s=false)(hA:rb q un s l)(ak:l.op=9)(hr:¬(o.drop [ag l 0]).yd.live≥room)(hj:gG q (aq q l s) ((o.drop [ag l 0]).new (ag l 0) (o.num (ag l 1)))/\gz q [] ((o.drop [ag l 0]).new (ag l 0) (o.num (ag l 1))))(hL:Laid Rb (bB q un s l++is) rs):
  ∃m rs' b',m<=200/\cS ⟨q.locals,Rb⟩ room m rs b rs' b'/\Laid Rb is rs'/\qJ q un (aq q l s) (aq q l g) ((o.drop [ag l 0]).new (ag l 0) (o.num (ag l 1))) b':=by
 rw[eX]at hL;obtain⟨m,rs1,e1,e2,e3⟩:=Cn (room:=room) h hl bR hf hA ak hL;exact yh h hl bR hf hj (by omega) e2 (by omega) rfl (PV h hl bR hf ak rfl rfl rfl hr) e3
theorem Ls (h:qJ q un s g o b)(hl:eU q l)(bR:q.locals.length<=12)(hf:aE q l s=false)(hA:rb q un s l)(ak:l.op=15)(hj:gG q (aq q l s) (o.drop (QP.ai q (ag l 0)))/\gz q [] (o.drop (QP.ai q (ag l 0))))(hL:Laid Rb (bB q un s l++is) rs):
  ∃m rs' b',m<=200/\cS ⟨q.locals,Rb⟩ room m rs b rs' b'/\Laid Rb is rs'/\qJ q un (aq q l s) (aq q l g) (o.drop (QP.ai q (ag l 0))) b':=by
 rw[eX]at hL;obtain⟨f1,f2⟩:=py hl bR (by omega);obtain⟨g1,g2⟩:=Ia h hl bR hf;obtain⟨-,m,rs1,e1,e2,e3⟩:=pE (room:=room) h hA (pD (by omega)) f1 f2 g1 g2 hL;rw[sB (by omega) (by omega)]at e2;rw[jb ak]at e3;have hlen:l.places.length=1:=by rw[hl.ok.bt,ak];rfl
 have zg:iA (ag l 0) s=false:=by
  unfold aE at hf;rw[ja (by omega),ja (by omega),ja (by omega),ja (by omega),ja (by omega),ja (by omega),jb ak]at hf;exact hf
 have hp:aq q l g=dQ (QP.ai q (ag l 0)) g:=by
  unfold aq;rw[ja (by rw[ak];decide),ja (by omega),ja (by omega),jb ak,qD (by omega) (by omega)];rfl
 have hc:GC q (aq q l g) (o.drop (QP.ai q (ag l 0))).ints (o.drop (QP.ai q (ag l 0))).boxes b.cs:=by
  obtain⟨-,d2,-,d4⟩:=cL (QP.ai q (ag l 0)) o;rw[hp,d2,d4];refine GC.Av _ (dZ q _) (fun x hx=> ?_) h.core;rcases bo q (ag l 0)with⟨e1,-⟩|⟨e1,e2,-⟩<;>rw[e1]at hx<;>simp at hx
  ·subst hx;exact⟨cx f1,by rw[bu];exact f2,fun e3=>DQ zg h f1 e3⟩
  ·rcases hx with rfl|rfl
   ·exact⟨cx (by simp only;omega),by rw[bu];exact f2,fun e3=>by simp at e3⟩
   ·exact⟨cx (by simp only;omega),by rw[bu];exact f2,fun e3=>by simp at e3⟩
 obtain⟨m',rs',b',a1,a2,a3,a4⟩:=finish (room:=room) (b2:={b with yd:=(o.drop (QP.ai q (ag l 0))).yd}) h hl bR hf hc rfl (by show b.aO=_;rw[h.aO,(cL _ _).2.2.1]) rfl hj e3;exact⟨m+m',rs',b',by omega,e2.trans a2,a3,a4⟩
theorem Mr (h:qJ q un s g o b)(hl:eU q l)(bR:q.locals.length<=12)(D5:∀i,q.bN i<=3)(hf:aE q l s=false)(hA:rb q un s l)(A9:ik l.op)(hj:gG q (aq q l s) (o.cz q l)/\gz q [] (o.cz q l))(hL:Laid Rb (bB q un s l++is) rs):
  ∃m rs' b',m<=200/\cS ⟨q.locals,Rb⟩ room m rs b rs' b'/\Laid Rb is rs'/\qJ q un (aq q l s) (aq q l g) (o.cz q l) b':=by
 have OS:=A9;unfold ik at OS;by_cases h1:l.op=12\/l.op=13\/l.op=14\/l.op=15
 ·by_cases lT:l.op=15
  ·have e:o.cz q l=o.drop (QP.ai q (ag l 0)):=by
    rw[Own.cz,ja (by omega),ja (by omega),ja (by omega),ja (by omega),ja (by omega),ja (by omega),ja (by omega),jb (by omega)]
   rw[e]at hj⊢;exact Ls h hl bR hf hA lT hj hL
  ·obtain⟨f1,f2⟩:=py hl bR (by omega);obtain⟨g1,g2⟩:=Ia h hl bR hf;rw[eX]at hL;obtain⟨hc,m,rs1,e1,e2,e3⟩:=pE (room:=room) h hA (pD (by omega)) f1 f2 g1 g2 hL;have hd:La q Rb room g l (o.cz q l) {b with yd:=((Own.take (gT q l) o).2.drop (QP.ai q (ag l 0))).yd}:=by
    rcases h1 with e|e|e|e
    ·have eo:o.cz q l=o.move (QP.ai q (ag l 0)) (QP.ai q (ag l 1)):=by
      rw[Own.cz,ja (by omega),ja (by omega),ja (by omega),ja (by omega),ja (by omega),ja (by omega),jb (by omega)]
     rw[eo];exact MF h hl bR D5 hf e rfl rfl rfl hc
    ·have eo:o.cz q l=o.drop (QP.ai q (ag l 0)):=by
      rw[Own.cz,ja (by omega),ja (by omega),ja (by omega),ja (by omega),ja (by omega),ja (by omega),ja (by omega),jb (by omega)]
     rw[eo,sB (by omega) (by omega)];exact ML h hl bR e rfl rfl rfl
    ·have eo:o.cz q l=o.move (QP.ai q (ag l 0)) (QP.ai q (ag l 1)):=by
      rw[Own.cz,ja (by omega),ja (by omega),ja (by omega),ja (by omega),ja (by omega),ja (by omega),jb (by omega)]
     rw[eo];exact Nj h hl bR hf e rfl rfl rfl hc
    ·exact absurd e lT
   exact yh h hl bR hf hj lT e2 (by omega) rfl hd e3
 ·exact Gv h hl bR hf (by omega) hj hL
theorem yU (un:List Bool)(s:List Nat):∀n,a8 un s s n=[]
 |0=>rfl
 |n+1=>by
  have e:a8 un s s (n+1)=a8 un s s n++eM (un.getD n false) (s.getD n 0) (s.getD n 0) n:=by simp[a8,List.range_succ]
  rw[e,yU un s n];unfold eM;split
  ·rfl
  ·rw[ja (fun x=>x.2 x.1),ja (fun x=>x.2 x.1)];rfl
theorem rX (ak:18<=l.op):bB q un s l++is=aN s (aW q l)++(.line l::is):=by
 rw[eX,ja (by omega),ja (by omega),qD (by omega) (by omega)];have hp:aq q l s=s:=kV (by
  unfold qW;simp only[Bool.or_eq_false_iff,beq_eq_false_iff_ne,ne_eq];omega) (by omega) (by omega) (by omega)
 rw[hp,yU];rfl
theorem Je (h:qJ q un s g o b)(hl:eU q l)(bR:q.locals.length<=12)(hf:aE q l s=false)(ak:l.op=18\/l.op=19\/l.op=20):
  b.breaks ⟨q.locals,Rb⟩ l=false/\b.other ⟨q.locals,Rb⟩ l=o.other l/\jv g (dm l (if o.other l then 1 else 0) s):=by
 rcases ak with e|e|e
 ·refine⟨?_,?_,?_⟩
  ·unfold Br.breaks;rw[ja (by omega),ja (by omega),ja (by omega),ja (by omega),ja (by omega),ja (by omega),ja (by omega)]
  ·unfold Br.other Own.other;rw[ja (by omega),ja (by omega),ja (by omega),ja (by omega),ja (by omega)]
  ·unfold dm;rw[ja (by omega)];exact h.le
 ·have hlen:l.places.length=1:=by rw[hl.ok.bt,e];rfl
  have p0:=ba hl (j:=0) (by omega);have k0:=bj hl.fits (j:=0) (by omega);rw[e]at k0;have k0:q.aB (ag l 0) 105=true:=k0;have f0:dv 2 (s.getD (ae (ag l 0)) 0)=false:=by
   unfold aE at hf;rw[ja (by omega),jb (by omega),iF]at hf;exact cV hf
  have c0:=h.core.oP (Rb:=Rb) k0 (by omega) (h.two (by omega) f0);refine⟨?_,?_,?_⟩
  ·unfold Br.breaks;rw[ja (by omega),jb (by omega)];unfold Br.empty;simp[c0]
  ·unfold Br.other Own.other;rw[jb e,jb e];show(b.val _ (ag l 0)==0)=_
   unfold Br.val;rw[c0];rfl
  ·unfold dm;rw[ja (by omega)];exact h.le
 ·have hlen:l.places.length=1:=by rw[hl.ok.bt,e];rfl
  have p0:=ba hl (j:=0) (by omega);have k0:=bj hl.fits (j:=0) (by omega);rw[e]at k0;have k0:q.aB (ag l 0) 111=true:=k0;obtain⟨t0,-⟩:=jn k0 p0.2;have ht:bA q (ag l 0)=true:=sV k0 p0.2;have LW:q.aJ (ag l 0)=3:=by unfold bA at ht;simpa using ht
  obtain⟨-,e2⟩:=dP LW;have yj:=cx (x:=ag l 0) (by omega);have f0:dv 6 (s.getD (ae (ag l 0)) 0)=false:=by
   unfold aE at hf;rw[ja (by omega),ja (by omega),ja (by omega),ja (by omega),ja (by omega),ja (by omega),ja (by omega),jb e]at hf;exact cV hf
  have Dk:=tO (h.core.bit _ yj) (h.ok.lt _) (h.le _ yj) f0;have eT:=h.core.box _ yj (by rw[bu];omega);have hc:b.cell ⟨q.locals,Rb⟩ (ag l 0)=(true,if g.getD (ae (ag l 0)) 0=2 then 1 else 0):=by
   unfold Br.cell;rw[l6 (q:=⟨q.locals,Rb⟩) ht];rcases Dk with e3|e3
   ·rw[jb e3];exact h.core.Bl _ (by omega) t0 (.inl (by rw[<-e2];exact e3))
   ·rw[ja (by omega)];exact h.core.GJ _ (by omega) t0 (by rw[<-e2];exact e3)
  have ho:o.other l=decide (g.getD (ae (ag l 0)) 0=2):=by
   unfold Own.other;rw[ja (by omega),jb e];show(!(o.box (ag l 0)==0))=_
   by_cases e3:g.getD (ae (ag l 0)) 0=2
   ·rw[decide_eq_true e3];have:=eT.1 e3;have:(o.box (ag l 0)==0)=false:=by rw[jZ];exact this
    rw[this];rfl
   ·rw[decide_eq_false e3];have:o.box (ag l 0)=0:=Decidable.byContradiction fun hx=>e3 (eT.2 hx)
    rw[this];rfl
  refine⟨?_,?_,?_⟩
  ·unfold Br.breaks;rw[ja (by omega),jb (by omega)];unfold Br.empty;simp[hc]
  ·rw[ho];unfold Br.other;rw[ja (by omega),jb e];show(b.val _ (ag l 0)==1)=_
   unfold Br.val;rw[hc];rcases Dk with e3|e3
   ·rw[jb e3,decide_eq_true e3];rfl
   ·rw[ja (by omega),decide_eq_false (by omega)];rfl
  ·unfold dm;rw[jb e];intro k hk;show mC _ ((s.set (ae (ag l 0)) _).getD k 0)
   rw[al];by_cases ek:ae (ag l 0)=k
   ·rw[jb ⟨ek,by rw[h.ok.len];exact hk⟩,<-ek,ho];rcases Dk with e3|e3
    ·rw[e3];decide
    ·rw[e3];decide
   ·rw[ja (fun x=>ek x.1)];exact h.le k hk
end
end El
namespace El
open Go Sq Aux RefRa PrjS RunA Go.Proofs.YtmlgajhhnojdjaaGreatDoor.Own RunB FlwA FlwB FlwD FlwE FlwG
structure RL (q:QP)(nb:Nat)(l:ab):Prop where
 told:Told q.locals nb l
 fits:q.fits l=true
 has:iq true l.op=true
section
variable {q:QP} {nb:Nat} {l:ab} {x:Nat×Nat}
theorem fY.more {nl nb n:Nat}{l:ab}(h:fY nl nb l)(hn:nb<=n):fY nl n l:=
 ⟨h.op,h.Kp,h.places,h.bt,fun k hk=>jK (h.next k hk) hn,h.pa,h.flag,h.number⟩
theorem RL.more {n:Nat}(h:RL q nb l)(hn:nb<=n):RL q n l:=
 ⟨⟨fY.more h.told.ok hn,h.told.flag,h.told.value,h.told.whole,h.told.Ko,h.told.zO⟩,h.fits,h.has⟩
theorem RL.free (h1:x.1<q.locals.length)(h2:x.2<=3)(hk:q.kind x=some 1):RL q nb (kJ x):=by
 refine⟨⟨⟨(by decide:16<23),(by decide:2<=16),fun y hy=>by rw[jI.1 hy];exact⟨h1,h2⟩,rfl,fun n hn=>(by cases hn),rfl,⟨by show(0:Int)<=0;omega,by show(0:Int)<=_;omega⟩,⟨by show _<=(0:Int);omega,by show(0:Int)<=_;omega⟩⟩,by show(0:Int)<50;omega,fun h=>absurd h (by show¬(118:UInt8)∈ah 16;decide),⟨fun h=>absurd h (by decide),trivial⟩,fun _=>rfl,fun _=>rfl⟩,?_,rfl⟩;have:q.aB x 112=true:=by unfold QP.aB;rw[hk];rfl
 show(((q.aB x 112&&true)&&(true||_)))=true
 rw[this];rfl
theorem RL.C5 {k:Nat}{v:Int}(hk:k<24)(hv:v=0\/v=1):RL q nb (dE k v):=by
 refine⟨⟨⟨(by decide:17<23),(by decide:2<=17),fun y hy=>(by cases hy),rfl,fun n hn=>(by cases hn),rfl,⟨by show(0:Int)<=(k:Int);omega,by show(k:Int)<=_;omega⟩,⟨by show _<=v;omega,by show v<=_;omega⟩⟩,by show(k:Int)<50;omega,fun _=>hv,trivial,fun h=>absurd h (by show¬(ah 17).any _=false;decide),fun h=>absurd h (by show¬(ah 17).any _=false;decide)⟩,rfl,rfl⟩
theorem RL.test {k i j:Nat}(hk:k<24)(hi:i<nb)(hj:j<nb):RL q nb {vD k with next:=[i,j]}:=by
 refine⟨⟨⟨(by decide:21<23),(by decide:2<=21),fun y hy=>(by cases hy),rfl,fun n hn=> ?_,rfl,⟨by show(0:Int)<=(k:Int);omega,by show(k:Int)<=_;omega⟩,⟨by show _<=(0:Int);omega,by show(0:Int)<=_;omega⟩⟩,by show(k:Int)<50;omega,fun h=>absurd h (by show¬(118:UInt8)∈ah 21;decide),trivial,fun _=>rfl,fun h=>absurd h (by show¬(ah 21).any _=false;decide)⟩,rfl,rfl⟩;have:n=i\/n=j:=by simpa using hn
 omega
theorem RL.Sm {i j:Nat}(h1:x.1<q.locals.length)(h2:x.2=0)(h3:q.bN x.1=3)(hi:i<nb)(hj:j<nb):RL q nb {kg x with next:=[i,j]}:=by
 refine⟨⟨⟨(by decide:20<23),(by decide:2<=20),fun y hy=>by rw[jI.1 hy];exact⟨h1,by omega⟩,rfl,fun n hn=> ?_,rfl,⟨by show(0:Int)<=0;omega,by show(0:Int)<=_;omega⟩,⟨by show _<=(0:Int);omega,by show(0:Int)<=_;omega⟩⟩,by show(0:Int)<50;omega,fun h=>absurd h (by show¬(118:UInt8)∈ah 20;decide),⟨fun _=>h2,trivial⟩,fun _=>rfl,fun _=>rfl⟩,?_,rfl⟩
 ·have:n=i\/n=j:=by simpa using hn
  omega
 ·have:q.aB x 111=true:=by unfold QP.aB QP.kind;rw[ja (by omega),ja (by omega),h3];rfl
  show(((q.aB x 111&&true)&&(true||_)))=true
  rw[this];rfl
theorem RL.OB {b:Nat}(hb:b<nb):RL q nb (eB b):=by
 refine⟨⟨⟨(by decide:18<23),(by decide:2<=18),fun y hy=>(by cases hy),rfl,fun n hn=>by rw[jI.1 hn];exact hb,rfl,⟨by show(0:Int)<=0;omega,by show(0:Int)<=_;omega⟩,⟨by show _<=(0:Int);omega,by show(0:Int)<=_;omega⟩⟩,by show(0:Int)<50;omega,fun h=>absurd h (by show¬(118:UInt8)∈ah 18;decide),trivial,fun _=>rfl,fun _=>rfl⟩,rfl,rfl⟩
structure SL (q:QP)(nb:Nat)(l:ab):Prop where
 ok:fY q.locals.length nb l
 has:iq false l.op=true
 fits:q.fits l=true
 whole:eK (ah l.op) l.places
 Ko:(ah l.op).any (fun c=>c==35||c==118)=false->l.number=0
 zO:(ah l.op).any (·==102)=false->l.flag=0
theorem KZ:∀op:Fin 23,iq false op.val=true->(ah op.val).any (·==102)=false/\¬(118:UInt8)∈ah op.val:=by decide
theorem SE:∀op:Fin 23,iq false op.val=true->¬op.val=15->iq true op.val=true:=by decide
theorem SL.flag (h:SL q nb l):l.flag=0:=h.zO (KZ ⟨l.op,h.ok.op⟩ h.has).1
theorem RL.src (h:SL q nb l)(lT:¬l.op=15):RL q nb l:=
 ⟨⟨h.ok,by rw[h.flag];omega,fun hv=>absurd hv (KZ ⟨l.op,h.ok.op⟩ h.has).2,h.whole,h.Ko,h.zO⟩,h.fits,SE ⟨l.op,h.ok.op⟩ h.has lT⟩
theorem yC (ht:q.bN x.1<=3)(h3:x.2<=3)(hk:¬q.kind x=none):(∀y∈bT q x,y.1=x.1/\y.2<=3/\q.kind y=some 1)/\(bT q x).length<=2:=by
 unfold bT;split
 ·exact⟨fun y hy=>(by cases hy),by simp⟩
 ·rename_i NN;split
  ·rename_i LW;have hx:=(mI LW).1;refine⟨fun y hy=> ?_,by simp⟩;rw[jI.1 hy];exact⟨rfl,by show 3<=3;omega,by unfold QP.kind;rw[ja (by simp),jb rfl,jb hx]⟩
  ·rename_i LW;unfold QP.ai;split
   ·rename_i hp;refine⟨fun y hy=> ?_,by simp⟩;simp only[List.mem_cons,List.not_mem_nil,or_false]at hy;rcases hy with rfl|rfl
    ·exact⟨rfl,by show 1<=3;omega,by unfold QP.kind;rw[jb (.inl rfl),jb hp.2]⟩
    ·exact⟨rfl,by show 2<=3;omega,by unfold QP.kind;rw[jb (.inr rfl),jb hp.2]⟩
   ·rename_i hp;refine⟨fun y hy=> ?_,by simp⟩;rw[jI.1 hy];refine⟨rfl,h3,?_⟩;unfold QP.aJ at NN LW;unfold QP.kind at hk⊢;by_cases bR:x.2=1\/x.2=2
    ·rw[jb bR]at hk⊢;split
     ·rfl
     ·rename_i hh;rw[ja hh]at hk;exact absurd rfl hk
    ·rw[ja bR]at hk⊢;by_cases VS:x.2=3
     ·rw[jb VS]at hk⊢;split
      ·rfl
      ·rename_i hh;rw[ja hh]at hk;exact absurd rfl hk
     ·rw[ja VS];rw[ja (by omega)]at NN LW;have:q.bN x.1=1:=by omega
      rw[this]
theorem JR (ht:∀i,q.bN i<=3):∀n,(∀y∈fi q n,y.1<n/\y.2<=3/\q.kind y=some 1)/\(fi q n).length<=2*n
 |0=>⟨fun y hy=>(by cases hy),by simp[fi]⟩
 |n+1=>by
  have h0:=yC (q:=q) (x:=(n,0)) (ht n) (by show 0<=3;omega) (by unfold QP.kind;rw[ja (by simp),ja (by simp)];simp);have h1:=JR ht n;rw[fi];refine⟨fun y hy=> ?_,by rw[jV];have:=h0.2;have:=h1.2;omega⟩;rcases List.mem_append.1 hy with h|h
  ·obtain⟨a,b,c⟩:=h0.1 y h;exact⟨by rw[a];show n<n+1;omega,b,c⟩
  ·obtain⟨a,b,c⟩:=h1.1 y h;exact⟨by omega,b,c⟩
theorem yS (h:SL q nb l)(ak:l.op=9\/l.op=12\/l.op=13\/l.op=14\/l.op=15):(ag l 0).1<q.locals.length/\(ag l 0).2<=3/\¬q.kind (ag l 0)=none:=by
 have hlen:1<=l.places.length:=by
  rw[h.ok.bt];have key:∀op:Fin 23,(op.val=9\/op.val=12\/op.val=13\/op.val=14\/op.val=15)->1<=((ah op.val).filter dk).length:=by decide
  exact key ⟨l.op,h.ok.op⟩ ak
 have hf:=h.fits;have ee:=h.ok.places;unfold ag;cases hp:l.places with
 |nil=>rw[hp]at hlen;simp at hlen
 |cons y ps=>
  unfold QP.fits at hf;rw[hp]at hf ee;rw[jH,QP.dN,jH]at hf;have hk:=hf.1.1;have:=ee y (jM ..);refine⟨this.1,this.2,fun hn=> ?_⟩;unfold QP.aB at hk;have Kb:q.kind y=none:=hn;rw[Kb]at hk;cases hk
theorem EP (ht:∀i,q.bN i<=3)(h:SL q nb l):(∀y∈aW q l,y.1<q.locals.length/\y.2<=3/\q.kind y=some 1)/\(l.op<18->(aW q l).length<=2)/\(aW q l).length<=2*q.locals.length:=by
 unfold aW;split
 ·rename_i ak;obtain⟨h1,h2,h3⟩:=yS h ak;have hb:=yC (ht _) h2 h3;refine⟨fun y hy=> ?_,fun _=>hb.2,by have:=hb.2;omega⟩;obtain⟨a,b,c⟩:=hb.1 y hy;exact⟨by rw[a];exact h1,b,c⟩
 ·split
  ·rename_i AW;have ha:=JR ht q.locals.length;exact⟨ha.1,fun kK=>by omega,ha.2⟩
  ·exact⟨fun y hy=>(by cases hy),fun _=>by simp,by simp⟩
def N2 (q:QP)(nb:Nat):Item->Prop
 | .line l=>RL q nb l/\l.op<18
 | .fork t sd=>(∀i j n,nb<=n->i<n->j<n->RL q n {t with next:=[i,j]})/\18<=t.op/\∀m∈sd,RL q nb m/\m.op<18
def AA:Item->Nat
 | .line _=>1
 | .fork _ sd=>4+sd.length
def cE (is:List Item):Nat:=(is.map AA).sum
theorem iZ (is js:List Item):cE (is++js)=cE is+cE js:=by unfold cE;rw[List.map_append,List.sum_append]
theorem iB (bR:q.locals.length<=12)(hx:x.1<q.locals.length):ae x<24:=by unfold ae;split<;>omega
theorem yW (bR:q.locals.length<=12)(s:List Nat):∀ps:List (Nat×Nat),(∀y∈ps,y.1<q.locals.length/\y.2<=3/\q.kind y=some 1)->(∀i∈aN s ps,N2 q nb i)/\cE (aN s ps)<=5*ps.length
 |[],_=>⟨fun i hi=>(by cases hi),by simp[aN,cE]⟩
 |y::ps,h=>by
  obtain⟨h1,h2,h3⟩:=h y (jM ..);have ih:=yW bR s ps (fun z hz=>h z (jN _ hz));have e:aN s (y::ps)=cR (s.getD (ae y) 0) y++aN s ps:=rfl;have hf:∀n,RL q n (kJ y):=fun n=>RL.free h1 h2 h3
  have one:(∀i∈cR (s.getD (ae y) 0) y,N2 q nb i)/\cE (cR (s.getD (ae y) 0) y)<=5:=by
   unfold cR;split
   ·refine⟨fun i hi=> ?_,by simp[cE,AA]⟩;rw[jI.1 hi];refine⟨fun i j n hn hi hj=>RL.test (iB bR h1) hi hj,by show 18<=21;omega,fun m hm=> ?_⟩;rw[jI.1 hm];exact⟨hf nb,by show 16<18;omega⟩
   ·split
    ·refine⟨fun i hi=> ?_,by simp[cE,AA]⟩;rw[jI.1 hi];exact⟨hf nb,by show 16<18;omega⟩
    ·exact⟨fun i hi=>(by cases hi),by simp[cE]⟩
  rw[e,iZ];refine⟨fun i hi=>(List.mem_append.1 hi).elim (one.1 i) (ih.1 i),?_⟩;have:=one.2;have:=ih.2;rw[jY];omega
theorem LB (u:Bool)(was Kg:Nat){k:Nat}(hk:k<24):(∀i∈eM u was Kg k,N2 q nb i)/\cE (eM u was Kg k)<=(if Kg=was then 0 else 1):=by
 unfold eM;split
 ·exact⟨fun i hi=>(by cases hi),by simp[cE]⟩
 ·split
  ·rename_i h1;refine⟨fun i hi=> ?_,?_⟩
   ·rw[jI.1 hi];exact⟨RL.C5 hk (.inr rfl),by show 17<18;omega⟩
   ·rw[ja (fun e=>h1.2 (by omega))];simp[cE,AA]
  ·split
   ·rename_i h1;refine⟨fun i hi=> ?_,?_⟩
    ·rw[jI.1 hi];exact⟨RL.C5 hk (.inl rfl),by show 17<18;omega⟩
    ·rw[ja (fun e=>h1.2 (by rw[<-e];exact h1.1))];simp[cE,AA]
   ·exact⟨fun i hi=>(by cases hi),by simp[cE]⟩
theorem EE (n:Nat):∀P:List Nat,n∈P->(P.filter (·<n)).length+1<=(P.filter (·<n+1)).length
 |[],h=>by cases h
 |y::P,h=>by
  have mono:∀P:List Nat,(P.filter (·<n)).length<=(P.filter (·<n+1)).length:=fun P=>by
   induction P with
   |nil=>simp
   |cons a P ih=>
    rw[List.filter_cons,List.filter_cons];by_cases h1:a<n
    ·simp only[h1,decide_true,if_true,show a<n+1 by omega,List.length_cons];omega
    ·simp only[h1,decide_false,Bool.false_eq_true,if_false];split<;>(try simp only[List.length_cons])<;>omega
  rw[List.filter_cons,List.filter_cons];by_cases e:y=n
  ·subst e;have:=mono P;simp only[show¬y<y by omega,decide_false,Bool.false_eq_true,if_false,show y<y+1 by omega,decide_true,if_true,List.length_cons];omega
  ·have ih:=EE n P ((jP.1 h).resolve_left (fun e'=>e e'.symm));by_cases h1:y<n
   ·simp only[h1,decide_true,if_true,show y<n+1 by omega,List.length_cons];omega
   ·simp only[h1,decide_false,Bool.false_eq_true,if_false];split<;>(try simp only[List.length_cons])<;>omega
theorem ED (n:Nat):∀P:List Nat,(P.filter (·<n)).length<=(P.filter (·<n+1)).length
 |[]=>by simp
 |a::P=>by
  have ih:=ED n P;rw[List.filter_cons,List.filter_cons];by_cases h1:a<n
  ·simp only[h1,decide_true,if_true,show a<n+1 by omega,List.length_cons];omega
  ·simp only[h1,decide_false,Bool.false_eq_true,if_false];split<;>(try simp only[List.length_cons])<;>omega
theorem BZ (un:List Bool)(s t P:List Nat)(hP:∀k,¬k∈P->t.getD k 0=s.getD k 0):∀n,n<=24->(∀i∈a8 un s t n,N2 q nb i)/\cE (a8 un s t n)<=(P.filter (·<n)).length
 |0,_=>⟨fun i hi=>(by simp[a8]at hi),by simp[a8,cE]⟩
 |n+1,hn=>by
  have ih:=BZ un s t P hP n (by omega);have e:a8 un s t (n+1)=a8 un s t n++eM (un.getD n false) (s.getD n 0) (t.getD n 0) n:=by simp[a8,List.range_succ]
  have one:=LB (q:=q) (nb:=nb) (un.getD n false) (s.getD n 0) (t.getD n 0) (k:=n) (by omega);rw[e,iZ];refine⟨fun i hi=>(List.mem_append.1 hi).elim (ih.1 i) (one.1 i),?_⟩;by_cases hm:n∈P
  ·have:=EE n P hm;have h1:=one.2;have:cE (eM (un.getD n false) (s.getD n 0) (t.getD n 0) n)<=1:=jS h1 (by split<;>omega);have:=ih.2;omega
  ·have h1:=one.2;rw[jb (hP n hm)]at h1;have:=ED n P;have:=ih.2;omega
theorem vB:∀(ps:List (Nat×Nat)) (s:List Nat) (k:Nat),¬k∈ps.map ae->(dQ ps s).getD k 0=s.getD k 0
 |[],_,_,_=>rfl
 |y::ps,s,k,h=>by
  rw[List.map_cons,jP,not_or]at h;show(dQ ps (s.set (ae y) _)).getD k 0=_
  rw[vB ps _ k h.2,al,ja (fun e=>h.1 e.1.symm)]
theorem Aa {m:Nat}{ps:List (Nat×Nat)}{s:List Nat}{k:Nat}(h:¬k∈ps.map ae):(gu m ps s).getD k 0=s.getD k 0:=by rw[DG,ja (fun e=>h e.1)]
theorem rz (q:QP)(x:Nat×Nat):(QP.ai q x).length<=2:=by unfold QP.ai;split<;>simp
def Lo (q:QP)(l:ab):List Nat:=(QP.ai q (ag l 0)).map ae++(gT q l).map ae
theorem P6 (q:QP)(l:ab)(s:List Nat)(k:Nat)(h:¬k∈Lo q l):(aq q l s).getD k 0=s.getD k 0:=by
 unfold Lo at h;rw[List.mem_append,not_or]at h;have ht:(aL q l s).getD k 0=s.getD k 0:=by rw[tl];exact vB _ _ _ h.2
 have h1:¬k∈[ag l 0].map ae:=fun e=>by
  rw[List.map_cons,List.map_nil,jI]at e;exact h.1 (by rw[e];exact xx q (ag l 0))
 unfold aq;split
 ·exact(Aa h1).trans ht
 ·split
  ·exact(Aa h.1).trans ht
  ·split
   ·exact(Aa h1).trans ht
   ·split
    ·exact(vB _ _ _ h.1).trans ht
    ·exact ht
theorem J0 (q:QP)(l:ab):(gT q l).length<=2:=by
 unfold gT;split
 ·exact rz q _
 ·split<;>simp
theorem MJ (bR:q.locals.length<=12)(ht:∀i,q.bN i<=3)(h:SL q nb l)(un:List Bool)(s:List Nat)(hs:s.length=24)(ak:l.op=12):
  (∀i∈bJ un (aq q l s) (ag l 0),N2 q nb i)/\cE (bJ un (aq q l s) (ag l 0))+5*(aW q l).length+(Lo q l).length<=14:=by
 obtain⟨h1,h2,h3⟩:=yS h (by omega);have lH:=iB bR h1;have ez:aW q l=bT q (ag l 0):=by unfold aW;rw[jb (by omega)]
 have Tj:q.aJ (ag l 0)=q.aJ (ag l 1):=by
  have:=h.fits;unfold QP.fits at this;rw[jH,ak]at this;have h4:(!((12:Nat)==12)||q.aJ (l.places.getD 0 (0,0))==q.aJ (l.places.getD 1 (0,0)))=true:=this.2;rw[Bool.or_eq_true]at h4;rcases h4 with h|h
  ·exact absurd h (by decide)
  ·exact beq_iff_eq.1 h
 by_cases hk:q.aJ (ag l 1)=3
 ·obtain⟨e1,e2⟩:=dP hk;obtain⟨e3,e4⟩:=dP (Tj.trans hk);obtain⟨e5,e6⟩:=mI (Tj.trans hk);have hb:(bT q (ag l 0)).length=1:=by
   unfold bT;rw[ja (by rw[Tj,hk];omega),jb (Tj.trans hk)];rfl
  have hc:(Lo q l).length=2:=by
   unfold Lo gT;rw[jb ak,e3,e1];rfl
  rw[ez,hb,hc];unfold bJ;split
  ·refine⟨fun i hi=> ?_,by simp[cE,AA]⟩;simp only[List.mem_cons,List.not_mem_nil,or_false]at hi;rcases hi with rfl|rfl
   ·exact⟨RL.C5 lH (.inr rfl),by show 17<18;omega⟩
   ·refine⟨fun i j n hn hi hj=>RL.Sm h1 (by omega) e5 hi hj,by show 18<=20;omega,fun m hm=> ?_⟩;rw[jI.1 hm];exact⟨RL.C5 lH (.inl rfl),by show 17<18;omega⟩
  ·exact⟨fun i hi=>(by cases hi),by simp[cE]⟩
 ·have hm:bJ un (aq q l s) (ag l 0)=[]:=by
   unfold bJ;rw[ja];rintro⟨-,hu⟩;rw[xm ak hk (by omega)]at hu
   revert hu;decide
  rw[hm];refine⟨fun i hi=>(by cases hi),?_⟩;have hb:=(yC (ht _) h2 h3).2;have hc:(Lo q l).length<=4:=by
   unfold Lo;rw[jV,jc,jc];have:=rz q (ag l 0);have:=J0 q l;omega
  rw[ez];simp only[cE,List.map_nil,List.sum_nil];omega
theorem PK (bR:q.locals.length<=12)(ht:∀i,q.bN i<=3)(h:SL q nb l)(kK:l.op<18)(un:List Bool)(s:List Nat)(hs:s.length=24):
  (∀i∈bB q un s l,N2 q nb i)/\cE (bB q un s l)<=15:=by
 obtain⟨f1,f2,-⟩:=EP ht h;have hf:=yW (nb:=nb) bR (aL q l s) (aW q l) f1;have lf:=BZ (q:=q) (nb:=nb) un s (aq q l s) (Lo q l) (fun k hk=>P6 q l s k hk) 24 (jC _);have hle:((Lo q l).filter (·<24)).length<=(Lo q l).length:=List.length_filter_le ..;have hc:(Lo q l).length<=4:=by
  unfold Lo;rw[jV,jc,jc];have:=rz q (ag l 0);have:=J0 q l;omega
 have h2:(∀i∈(if l.op=15 then []else [Item.line l]),N2 q nb i)/\cE (if l.op=15 then []else [Item.line l])<=1:=by
  split
  ·exact⟨fun i hi=>(by cases hi),by simp[cE]⟩
  ·rename_i lT;exact⟨fun i hi=>by rw[jI.1 hi];exact⟨RL.src h lT,kK⟩,by simp[cE,AA]⟩
 have h3:(∀i∈(if l.op=12 then bJ un (aq q l s) (ag l 0)else []),N2 q nb i)/\cE (if l.op=12 then bJ un (aq q l s) (ag l 0)else [])+5*(aW q l).length+(Lo q l).length<=14:=by
  split
  ·rename_i ak;exact MJ bR ht h un s hs ak
  ·refine⟨fun i hi=>(by cases hi),?_⟩;have:=f2 kK;simp only[cE,List.map_nil,List.sum_nil];omega
 unfold bB;rw[iZ,iZ,iZ];refine⟨fun i hi=> ?_,?_⟩
 ·rcases List.mem_append.1 hi with h|h
  ·exact hf.1 i h
  ·rcases List.mem_append.1 h with h|h
   ·exact h2.1 i h
   ·rcases List.mem_append.1 h with h|h
    ·exact lf.1 i h
    ·exact h3.1 i h
 ·have:=hf.2;have:=h2.2;have:=lf.2;have:=h3.2;omega
theorem P5 (q:QP)(l:ab)(s:List Nat):(aq q l s).length=s.length:=by
 unfold aq
 repeat (first|(split;(first|exact(Gf _ _ _).trans (iX q l s)|exact(qC _ _).trans (iX q l s)))|exact iX q l s|split)
theorem BH (bR:q.locals.length<=12)(ht:∀i,q.bN i<=3)(un:List Bool){e:ab}(he:SL q nb e)(kK:18<=e.op):∀(ls:List ab) (s:List Nat),s.length=24->(∀m∈ls,SL q nb m/\m.op<18)->
  ∃is,bO q un (ls++[e]) s=is++[.line e]/\(∀i∈is,N2 q nb i)/\cE is<=15*ls.length+10*q.locals.length
 |[],s,_,_=>by
  obtain⟨f1,-,f3⟩:=EP ht he;have hf:=yW (nb:=nb) bR s (aW q e) f1;refine⟨aN s (aW q e),?_,hf.1,by have:=hf.2;simp only[List.length_nil];omega⟩;show bB q un s e++[]=_
  rw[rX kK]
 |l::ls,s,hs,hl=>by
  obtain⟨k1,k2⟩:=hl l (jM ..);have one:=PK bR ht k1 k2 un s hs;obtain⟨is,i1,i2,i3⟩:=BH bR ht un he kK ls (aq q l s) ((P5 q l s).trans hs) (fun m hm=>hl m (jN _ hm));refine⟨bB q un s l++is,?_,fun i hi=>(List.mem_append.1 hi).elim (one.1 i) (i2 i),?_⟩
  ·show bB q un s l++bO q un (ls++[e]) (aq q l s)=_
   rw[i1,List.append_assoc]
  ·rw[iZ,jY];have:=one.2;omega
end
end El
end Go.Proofs.YtmlgajhhnojdjaaGreatDoor

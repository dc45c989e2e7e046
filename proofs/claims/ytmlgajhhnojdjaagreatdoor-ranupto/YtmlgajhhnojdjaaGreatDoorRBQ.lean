import Derived.Test.YtmlgajhhnojdjaaGreatDoorRBP
namespace Go.Proofs.YtmlgajhhnojdjaaGreatDoor
namespace Sim
open Go Sq Aux Go.Proofs.YtmlgajhhnojdjaaGreatDoor.Own Mac RefRa RunA RunB PrjS FlwA FlwB FlwC FlwD FlwE FlwG FlwH FlwJ FlwM FlwS FlwU FlwV FlwW FlwX FlwT
def Ak (c:UInt8):Nat:=if c=119 then 2 else if c=110 then 4 else if c=104 then 8 else 1
def s9 (q:QP)(m:RM)(k:Nat):Nat:=if q.bB (k/2)=0 then(if m.has.getD k false=true then 2 else 1)else Ak (m.ba.getD k 0)
def iO (q:QP)(s:List Nat)(m:RM):Prop:=s.length=24/\∀k,k<24->¬s9 q m k&&&s.getD k 0=0
structure Ro (q:QP)(al:List Int)(z:Int)(o:Own.Own)(m:RM):Prop where
 y:Ry o.yd m
 len:m.rO
 GW:o.ints.length=12
 Ce:o.boxes.length=24
 ints:∀i,i<12->q.bB i=0->o.ints.getD i 0=m.ints.getD (2*i) 0
 boxes:∀k,k<24->o.boxes.getD k 0=if q.bB (k/2)=0 then 0 else if m.ba.getD k 0=119 then m.held.getD k 0 else 0
 pos:∀k,k<24->m.ba.getD k 0=119->1<=m.held.getD k 0
 al:o.al=al.drop m.used
 value:m.value=z
section
variable {q:QP} {al:List Int} {z:Int} {o:Own.Own} {m m':RM} {s:List Nat} {p:RP} {w:B} {text:B}
theorem Am (h:iO q s m){c v:Nat}(h1:∀k,k<24->¬k=c->s9 q m' k=s9 q m k)(h2:c<24->¬s9 q m' c&&&v=0):iO q (s.set c v) m':=by
 refine⟨by simpa using h.1,fun k hk=> ?_⟩;rw[cJ,h.1];by_cases e:c=k
 ·subst e;rw[jb ⟨rfl,hk⟩];exact h2 hk
 ·rw[ja (fun x=>e x.1),h1 k hk (fun x=>e x.symm)];exact h.2 k hk
theorem fW (h:iO q s m)(hl:m.ba.length=24){c v:Nat}{ch:UInt8}(h1:m'.has=m.has)(h2:m'.ba=m.ba.set c ch)(ht:¬q.bB (c/2)=0)(hv:¬Ak ch&&&v=0):iO q (s.set c v) m':=by
 refine Am h (fun k hk hn=> ?_) (fun hc=> ?_)
 ·have e:(m.ba.set c ch).getD k 0=m.ba.getD k 0:=by rw[cJ,ja (fun x=>hn x.1.symm)]
  unfold s9;rw[h1,h2,e]
 ·have e:(m.ba.set c ch).getD c 0=ch:=by rw[cJ,jb ⟨rfl,by omega⟩]
  unfold s9;rw[ja ht,h2,e];exact hv
theorem zC (h:iO q s m)(hl:m.has.length=24){c:Nat}(ht:q.bB (c/2)=0)(v:Int):iO q (s.set c 2) (m.be c v):=by
 refine Am h (fun k hk hn=> ?_) (fun hc=> ?_)
 ·have e:(m.has.set c true).getD k false=m.has.getD k false:=by rw[cJ,ja (fun x=>hn x.1.symm)]
  unfold s9 RM.be;simp only;rw[e]
 ·have e:(m.has.set c true).getD c false=true:=by rw[cJ,jb ⟨rfl,by omega⟩]
  unfold s9 RM.be;simp only;rw[jb ht,e];decide
theorem lV (h:iO q s m)(h1:m'.has=m.has)(h2:m'.ba=m.ba):iO q s m':=⟨h.1,fun k hk=>by unfold s9;rw[h1,h2];exact h.2 k hk⟩
theorem WW {u v a:Nat}(hl:yY u v)(hu:¬a&&&u=0):¬a&&&v=0:=fun hv=>hu (by
 rw[<-hl,Nat.and_or_distrib_left]at hv;apply Nat.eq_of_testBit_eq
 intro i;have:=congrArg (fun x=>x.testBit i) hv;simp only[Nat.testBit_or,Nat.testBit_and,Nat.zero_testBit]at this⊢
 revert this
 cases u.testBit i<;>cases a.testBit i<;>cases v.testBit i<;>simp)
theorem CU {t:List Nat}(h:iO q s m)(ht:t.length=24)(hl:ld s t):iO q t m:=⟨ht,fun k hk=>WW (hl k hk) (h.2 k hk)⟩
theorem mf (h:iO q s m){c:Nat}(hc:c<24)(ht:q.bB (c/2)=0)(xt:jv 2 (s.getD c 0)=false)(hs:s.getD c 0<16):m.has.getD c false=true:=by
 have:=h.2 c hc;unfold s9 at this;rw[jb ht]at this;split at this
 ·assumption
 ·exfalso;simp only[jv,Bool.not_eq_false',beq_iff_eq]at xt;refine this ?_;have key:∀v:Fin 16,v.val&&&(15-2)=0->1&&&v.val=0:=by decide
  exact key ⟨_,hs⟩ xt
theorem Ro.be (h:Ro q al z o m){c i:Nat}(hi:i<12)(hc:c=2*i)(v:Int):Ro q al z {o with ints:=o.ints.set i v} (m.be c v):=by
 refine⟨h.y.of rfl rfl rfl,⟨by simpa [RM.be]using h.len.ints,by simpa [RM.be]using h.len.has,h.len.held,h.len.ba,h.len.flags⟩,by simpa using h.GW,h.Ce,fun j hj hjt=> ?_,h.boxes,h.pos,h.al,h.value⟩;show(o.ints.set i v).getD j 0=(m.ints.set c v).getD (2*j) 0
 rw[cJ,cJ,h.GW,h.len.ints];by_cases e:i=j
 ·subst e;rw[jb ⟨rfl,hj⟩,jb ⟨hc,by omega⟩]
 ·rw[ja (fun x=>e x.1),ja (fun x=>e (by omega))];exact h.ints j hj hjt
theorem Ro.zv (h:Ro q al z o m){y:Yd}(hy:Ry y m')(h1:m'.ints=m.ints)(h2:m'.has=m.has)(h3:m'.held=m.held)(h4:m'.ba=m.ba)(h5:m'.flags=m.flags)(h6:m'.used=m.used)(h7:m'.value=m.value):Ro q al z {o with yd:=y} m':=
 ⟨hy,⟨by rw[h1];exact h.len.ints,by rw[h2];exact h.len.has,by rw[h3];exact h.len.held,by rw[h4];exact h.len.ba,by rw[h5];exact h.len.flags⟩,h.GW,h.Ce,fun i hi ht=>by rw[h1];exact h.ints i hi ht,fun k hk=>by rw[h4,h3];exact h.boxes k hk,fun k hk=>by rw[h4,h3];exact h.pos k hk,by rw[h6];exact h.al,by rw[h7];exact h.value⟩
theorem Ro.put (h:Ro q al z o m){x:Nat×Nat}{k n hd:Nat}{ch:UInt8}(hx:ah x=k)(hk:k<24)(ht:¬q.bB (k/2)=0)(hn:n=if ch=119 then hd else 0)(hp:ch=119->1<=hd):Ro q al z (o.sA x n) {m with held:=m.held.set k hd,ba:=m.ba.set k ch}:=by
 refine⟨h.y.of rfl rfl rfl,⟨h.len.ints,h.len.has,by simpa using h.len.held,by simpa using h.len.ba,h.len.flags⟩,h.GW,by simpa [Own.sA]using h.Ce,h.ints,fun j hj=> ?_,fun j hj=> ?_,h.al,h.value⟩
 ·show(o.boxes.set (ah x) n).getD j 0=if q.bB (j/2)=0 then 0 else if(m.ba.set k ch).getD j 0=119 then(m.held.set k hd).getD j 0 else 0
  rw[cJ,cJ,cJ,hx,h.Ce,h.len.ba,h.len.held];by_cases e:k=j
  ·subst e;simp only[true_and,if_pos hk,if_neg ht];exact hn
  ·have en:¬(k=j/\j<24):=fun x=>e x.1
   simp only[if_neg en];exact h.boxes j hj
 ·show(m.ba.set k ch).getD j 0=119->1<=(m.held.set k hd).getD j 0
  rw[cJ,cJ,h.len.ba,h.len.held];by_cases e:k=j
  ·subst e;rw[jb ⟨rfl,hk⟩,jb ⟨rfl,hk⟩];exact hp
  ·rw[ja (fun x=>e x.1),ja (fun x=>e x.1)];exact h.pos j hj
theorem Ro.clear (h:Ro q al z o m){x:Nat×Nat}{k:Nat}{ch:UInt8}(hx:ah x=k)(hc:¬ch=119):Ro q al z (o.clear x) {m with ba:=m.ba.set k ch}:=by
 refine⟨h.y.of rfl rfl rfl,⟨h.len.ints,h.len.has,h.len.held,by simpa using h.len.ba,h.len.flags⟩,h.GW,by simpa [Own.clear]using h.Ce,h.ints,fun j hj=> ?_,fun j hj=> ?_,h.al,h.value⟩
 ·show(o.boxes.set (ah x) 0).getD j 0=if q.bB (j/2)=0 then 0 else if(m.ba.set k ch).getD j 0=119 then m.held.getD j 0 else 0
  rw[cJ,cJ,hx,h.Ce,h.len.ba];by_cases e:k=j
  ·subst e;simp only[true_and,if_pos hj,if_neg hc];split<;>rfl
  ·have en:¬(k=j/\j<24):=fun x=>e x.1
   simp only[if_neg en];exact h.boxes j hj
 ·show(m.ba.set k ch).getD j 0=119->_
  rw[cJ,h.len.ba];by_cases e:k=j
  ·subst e;rw[jb ⟨rfl,hj⟩];exact fun x=>absurd x hc
  ·rw[ja (fun x=>e x.1)];exact h.pos j hj
theorem FR {hs:List Nat}(hb:Bal.gy q hs o){k n:Nat}(hk:o.boxes.getD k 0=n)(hn:1<=n):(o.yd.at n).2=true:=by
 have h1:=hb.y.WK n hn;have h2:n∈hs++o.boxes:=by
  refine List.mem_append_right _ ?_;rw[<-hk,jA];cases e:o.boxes[k]? with
  |none=>rw[jA,e]at hk;simp at hk;omega
  |some v=>exact List.mem_of_getElem? e
 have h3:=List.count_pos_iff.2 h2;rw[h1]at h3;unfold Bal.Bg at h3;split at h3
 ·assumption
 ·omega
theorem drop_one (o:Own.Own)(x:Nat×Nat):o.drop [x]=(o.clear x).eO (o.box x):=rfl
theorem QR (o:Own.Own)(x y:Nat×Nat):o.drop [x,y]=(o.drop [x]).drop [y]:=by
 show(((o.clear x).clear y).eO (o.box x)).eO ((o.clear x).box y)=(((o.clear x).eO (o.box x)).clear y).eO (((o.clear x).eO (o.box x)).box y)
 unfold Own.eO;by_cases e:o.box x=0
 ·rw[jb e,jb e]
 ·rw[ja e,ja e];rfl
theorem xH (m:RM)(c:UInt8)(k:Nat):(m.ee c k).ba=m.ba.set k c/\(m.ee c k).has=m.has/\(m.ee c k).held=m.held/\(m.ee c k).used=m.used:=by
 unfold RM.ee RM.free;simp only;split
 ·split<;>exact⟨rfl,rfl,rfl,rfl⟩
 ·exact⟨rfl,rfl,rfl,rfl⟩
theorem Ro.ee {hs:List Nat}(h:Ro q al z o m)(hb:Bal.gy q hs o){x:Nat×Nat}{k:Nat}(hx:ah x=k)(hk:k<24)(ht:¬q.bB (k/2)=0){c:UInt8}(hc:¬c=119):Ro q al z (o.drop [x]) (m.ee c k)/\(m.ee c k).out=m.out:=by
 have kf:o.box x=if m.ba.getD k 0=119 then m.held.getD k 0 else 0:=by rw[Own.box,hx,h.boxes k hk,ja ht]
 have h1:=h.clear (x:=x) hx hc;rw[drop_one];unfold RM.ee;simp only;by_cases e:m.ba.getD k 0=119
 ·rw[jb e]at kf⊢;have hp:=h.pos k hk e;have hl:=FR hb (k:=k) (n:=m.held.getD k 0) (by rw[<-kf,Own.box,hx]) hp;have Kp:m.named k=m.held.getD k 0:=by
   unfold RM.named;rw[ja];rintro(e1|e1)
   ·omega
   ·rw[<-h.y.at,hl]at e1;cases e1
  rw[kf];unfold Own.eO RM.free;rw[ja (by omega),ja (by omega),Kp];exact⟨h1.zv (h1.y.free (m.held.getD k 0)) rfl rfl rfl rfl rfl rfl rfl,rfl⟩
 ·rw[ja e]at kf⊢;rw[kf];exact⟨h1,rfl⟩
theorem vN (w:B):¬dk w=119:=by unfold dk;split<;>decide
theorem Bb (w:B):Ak (dk w)=if partOf w=115 then 8 else 1:=by unfold dk;split<;>rfl
theorem ig {x:Nat×Nat}(hx:x.1<12):ah x<24:=by unfold ah;split<;>omega
theorem Ro.drop {hs:List Nat}(hT:fj text false p q)(hf:0<=p.find (aj w))(hp:bX w=true)(cg:(p.pk w).1<12)(ht:¬q.bB (p.pk w).1=0)(h:Ro q al z o m)(hb:Bal.gy q hs o)(hB:iO q s m):
  Ro q al z (o.drop (QP.ae q (p.pk w))) (m.drop p w)/\(m.drop p w).out=m.out/\iO q (dC (QP.ae q (p.pk w)) s) (m.drop p w):=by
 obtain⟨e1,-⟩:=yk hT hf hp;have es:=lP p w;have hh:=dB (p.pk w);have aL:=ig cg;have hl:=h.len.ba;unfold RM.drop;rcases bI q (p.pk w)with⟨a1,-⟩|⟨a1,a2,a3⟩
 ·rw[a1]at e1⊢;rw[e1];show Ro q al z _ (m.ee (dk w) (sp p w+0))/\(m.ee (dk w) (sp p w+0)).out=m.out/\_
  rw[Nat.add_zero,<-es];obtain⟨r1,r2⟩:=h.ee hb (x:=p.pk w) rfl aL (by rw[hh];exact ht) (vN w);obtain⟨k1,k2,-⟩:=xH m (dk w) (ah (p.pk w));refine⟨r1,r2,fW hB hl k2 k1 (by rw[hh];exact ht) ?_⟩;rw[Bb];by_cases e:partOf w=115
  ·rw[jb e,jb (show(p.pk w).2=3 from fx.2 e)];decide
  ·rw[ja e,ja (show¬(p.pk w).2=3 from fun x=>e (fx.1 x))];decide
 ·rw[a1]at e1⊢;rw[e1];have hpt:¬partOf w=115:=fun e=>by
   have:(p.pk w).2=3:=fx.2 e;omega
  have yV:sp p w=2*(p.pk w).1:=by rw[<-es];unfold ah;rw[ja (by omega)]
  show Ro q al z _ ((m.ee (dk w) (sp p w+0)).ee (dk w) (sp p w+1))/\((m.ee (dk w) (sp p w+0)).ee (dk w) (sp p w+1)).out=m.out/\_
  rw[Nat.add_zero,yV];generalize (p.pk w).1=c at*;have s1:ah (c,1)=2*c:=by simp[ah]
  have s2:ah (c,2)=2*c+1:=by simp[ah]
  have t1:¬q.bB (2*c/2)=0:=by rw[show 2*c/2=c by omega];exact ht
  have t2:¬q.bB ((2*c+1)/2)=0:=by rw[show(2*c+1)/2=c by omega];exact ht
  obtain⟨r1,r2⟩:=h.ee hb s1 (by omega) t1 (vN w);have aw:Bal.gy q hs (o.drop [(c,1)]):=Bal.oJ [(c,1)] hb (fun x hx=>by rw[jI.1 hx,s1];omega);obtain⟨r3,r4⟩:=r1.ee aw s2 (by omega) t2 (vN w);obtain⟨k1,k2,-⟩:=xH m (dk w) (2*c);obtain⟨k3,k4,-⟩:=xH (m.ee (dk w) (2*c)) (dk w) (2*c+1);rw[QR];refine⟨r3,r4.trans r2,?_⟩;show iO q ((s.set (ah (c,1)) 1).set (ah (c,2)) 1) _
  rw[s1,s2];have hv:¬Ak (dk w)&&&1=0:=by rw[Bb,ja hpt];decide
  exact fW (fW hB hl k2 k1 t1 hv) (by rw[k1];simpa using hl) k4 k3 t2 hv
end
end Sim
namespace Sim
open Go Sq Aux Go.Proofs.YtmlgajhhnojdjaaGreatDoor.Own Mac RefRa RunA RunB PrjS FlwA FlwB FlwC FlwD FlwE FlwG FlwH FlwJ FlwM FlwS FlwU FlwV FlwW FlwX FlwT
def Ub (o:Own.Own)(m:RM)(u:Nat)(v:Int):Prop:=m.out=u/\m.value=v/\m.trace=o.yd.text/\m.count=o.yd.live
section
variable {q:QP} {al:List Int} {z:Int} {o:Own.Own} {m m':RM} {s:List Nat} {p:RP} {text:B} {l:ab} {ws:List B} {f:Fx}
theorem Ro.fin (h:Ro q al 0 o m){u:Nat}(h1:m'.out=u)(h2:m'.value=m.value)(h3:m'.trace=m.trace)(h4:m'.count=m.count):Ub o m' u 0:=⟨h1,by rw[h2];exact h.value,by rw[h3];exact h.y.text,by rw[h4];exact h.y.live.symm⟩
theorem gI (hl:kI q l){j:Nat}(hj:j<l.places.length):(ai l j).1<q.locals.length/\(ai l j).2<=3:=hl.ok.places _ (by unfold ai;rw[jA,jB hj];exact jL hj)
theorem OB {x:Nat×Nat}(h:q.bK x 105=true):¬x.2=2:=fun e=>by
 unfold QP.bK QP.kind at h;rw[jb (.inr e)]at h;split at h
 ·cases h
 ·rename_i t ht;split at ht
  ·cases ht;cases h
  ·cases ht
theorem jt (hl:kI q l)(hk:Lk p ws l)(cg:q.locals.length<=12){j:Nat}(hj:j<l.places.length)(hw:(ag l.op).getD j 0=105):∃i,i<12/\(ai l j).1=i/\sp p (word ws (j+1))=2*i/\q.bB i=0/\ah (ai l j)=2*i:=by
 obtain⟨h1,h2⟩:=gI hl hj;have cf:=eU hl.fits hj;rw[hw]at cf;have e:=(hk.pl j hj).1;have es:ah (ai l j)=sp p (word ws (j+1)):=by rw[e,lP]
 have e2:ah (ai l j)=2*(ai l j).1:=by unfold ah;rw[ja (OB cf)]
 exact⟨_,by omega,rfl,by rw[<-es];exact e2,Hg cf,e2⟩
theorem zG (hl:kI q l)(hk:Lk p ws l)(cg:q.locals.length<=12){j:Nat}(hj:j<l.places.length)(hw:(ag l.op).getD j 0=112):ah (ai l j)=sp p (word ws (j+1))/\sp p (word ws (j+1))<24/\¬q.bB (sp p (word ws (j+1))/2)=0/\QP.ae q (ai l j)=[ai l j]:=by
 obtain⟨h1,h2⟩:=gI hl hj;have cf:=eU hl.fits hj;rw[hw]at cf;have e:=(hk.pl j hj).1;have es:ah (ai l j)=sp p (word ws (j+1)):=by rw[e,lP]
 have eh:=dB (ai l j);rw[es]at eh;obtain⟨k1,k2,-⟩:=qX cf;exact⟨es,by omega,by rw[eh];exact k1,by unfold QP.ae;rw[ja k2]⟩
theorem ES (hl:kI q l)(hk:Lk p ws l)(cg:q.locals.length<=12){j:Nat}(hj:j<l.places.length)(hw:(ag l.op).getD j 0=111):∃i,i<12/\(ai l j).1=i/\(ai l j).2=0/\sp p (word ws (j+1))=2*i/\q.bB i=3/\ah (ai l j)=2*i/\QP.ae q (ai l j)=[ai l j]:=by
 obtain⟨h1,h2⟩:=gI hl hj;have cf:=eU hl.fits hj;rw[hw]at cf;have e:=(hk.pl j hj).1;have es:ah (ai l j)=sp p (word ws (j+1)):=by rw[e,lP]
 obtain⟨k1,k2⟩:=A5 cf h2;have e2:ah (ai l j)=2*(ai l j).1:=by unfold ah;rw[ja (by omega)]
 exact⟨_,by omega,rfl,k2,by rw[<-es];exact e2,k1,e2,by unfold QP.ae;rw[ja (by omega)]⟩
theorem qZ {n:Nat}{x:Nat×Nat}(h:bA n [x] s=false):jv n (s.getD (ah x) 0)=false:=by simpa [bA]using h
theorem Le {n:Nat}{x y:Nat×Nat}(h:bA n [x,y] s=false):jv n (s.getD (ah x) 0)=false/\jv n (s.getD (ah y) 0)=false:=by simpa [bA]using h
theorem oK (hF:j8 q s o){k:Nat}(hk:k<24)(ht:¬q.bB (k/2)=0)(xt:jv 2 (s.getD k 0)=false):¬o.boxes.getD k 0=0:=fun e=>by
 have:=hF.at_ k hk (by simp) ht;unfold ot at this;rw[jb e]at this;simp only[jv,Bool.not_eq_false',beq_iff_eq]at xt;exact this xt
theorem Ro.full (h:Ro q al z o m){k:Nat}(hk:k<24)(hn:¬o.boxes.getD k 0=0):m.ba.getD k 0=119/\o.boxes.getD k 0=m.held.getD k 0:=by
 have:=h.boxes k hk;rw[this]at hn⊢;split at hn
 ·exact absurd rfl hn
 ·rename_i e;rw[ja e]at this⊢;split at hn
  ·rename_i e2;rw[jb e2];exact⟨e2,rfl⟩
  ·exact absurd rfl hn
theorem Ro.named (h:Ro q al z o m)(hb:Bal.gy q [] o){k:Nat}(hk:k<24)(hn:¬o.boxes.getD k 0=0):m.named k=o.boxes.getD k 0/\m.boxed k=m:=by
 obtain⟨h1,h2⟩:=h.full hk hn;have hl:=FR hb (k:=k) rfl (by omega);have e:m.named k=o.boxes.getD k 0:=by
  unfold RM.named;rw[<-h2,ja];rintro(e1|e1)
  ·exact hn e1
  ·rw[<-h.y.at,hl]at e1;cases e1
 exact⟨e,by unfold RM.boxed;rw[ja (by rw[e];exact hn)]⟩
def fN (q:QP)(al:List Int)(f:Fx)(s:List Nat)(o:Own.Own)(l:ab)(m':RM):Prop:=
 if l.op=6/\o.num (ai l 2)=0 then Ub o m' 4 0
 else if l.op=9/\(o.drop [ai l 0]).yd.live≥f.room then Ub (o.drop [ai l 0]) m' 3 0
 else Ro q al 0 (if l.op=9 then(o.drop [ai l 0]).new (ai l 0) (o.num (ai l 1))else if l.op=6 then o.calc l else o.fz q l) m'/\m'.out=0/\iO q (bm q l s) m'
structure At (q:QP)(p:RP)(text:B)(al:List Int)(f:Fx)(s:List Nat)(o:Own.Own)(m:RM)(l:ab)(ws:List B):Prop where
 both:fj text false p q
 ln:kI q l
 lk:Lk p ws l
 owns:f.owns=true
 fault:aM q l s=false
 fit:j8 q s o
 WX:Bal.gy q [] o
 ro:Ro q al 0 o m
 bits:iO q s m
 Yr:eI s
 out:m.out=0
theorem At.cg (h:At q p text al f s o m l ws):q.locals.length<=12:=h.both.aW
theorem rp (ax:oQ l.op=true)(B6:¬l.op=14):bm q l s=s.set (ah (ai l 0)) 2:=by
 have:¬l.op=12:=fun e=>by rw[e]at ax;cases ax
 unfold bm cG;rw[jb ax,ja this,ja B6];rfl
theorem VH (h:At q p text al f s o m l ws)(ax:l.op=2):fN q al f s o l (m.aS f p al ws):=by
 have hk:=h.lk;have hn:l.places.length=1:=by rw[hk.cQ,ax];rfl
 obtain⟨i,i1,i2,i3,i4,i5⟩:=jt h.ln hk h.cg (j:=0) (by omega) (by rw[ax];rfl);have hw:word ws 0=[115,101,116]:=by rw[hk.op,ax];rfl
 have hd:m.aS f p al ws=m.be (2*i) (kX (word ws 2)):=by unfold RM.aS;simp[hw];rw[i3]
 unfold fN;rw[ja (by omega),ja (by omega),ja (by omega),ja (by omega),hd,rp (by rw[ax];rfl) (by omega),i5];refine⟨?_,h.out,zC h.bits h.ro.len.has (by rw[show 2*i/2=i by omega];exact i4) _⟩;unfold Own.fz;rw[jb ax,hk.nm ax,i2];exact h.ro.be i1 rfl _
theorem Pe (h:At q p text al f s o m l ws)(ax:l.op=3\/l.op=4\/l.op=5\/l.op=6):fN q al f s o l (m.aS f p al ws):=by
 have hk:=h.lk;have key:∀op:Fin 23,op.val=3\/op.val=4\/op.val=5\/op.val=6->((ag op.val).takeWhile gQ).length=3/\(ag op.val).getD 0 0=105/\(ag op.val).getD 1 0=105/\(ag op.val).getD 2 0=105/\(bJ op.val=yq\/bJ op.val=yt\/bJ op.val=yr\/bJ op.val=sB)/\¬bJ op.val=[115,101,116]/\MA (bJ op.val)=op.val/\(bJ op.val=sB↔op.val=6)/\oQ op.val=true:=by decide
 obtain⟨k1,k2,k3,k4,k5,k6,k7,k8,k9⟩:=key ⟨l.op,hk.hi⟩ ax;simp only at k1 k2 k3 k4 k5 k6 k7 k8 k9;have hn:l.places.length=3:=by rw[hk.cQ];exact k1
 obtain⟨i,i1,i2,i3,i4,i5⟩:=jt h.ln hk h.cg (j:=0) (by omega) k2;obtain⟨a,a1,a2,a3,a4,a5⟩:=jt h.ln hk h.cg (j:=1) (by omega) k3;obtain⟨c,c1,c2,c3,c4,c5⟩:=jt h.ln hk h.cg (j:=2) (by omega) k4;rw[<-hk.op]at k5 k6 k7 k8;have hd:m.aS f p al ws=m.arith p ws:=by unfold RM.aS;simp only;rw[ja k6,jb k5]
 have kZ:=h.fault;unfold aM at kZ;rw[jb (by omega)]at kZ;obtain⟨l1,l2⟩:=Le kZ;have e1:m.has.getD (2*a) false=true:=mf h.bits (by omega) (by rw[show 2*a/2=a by omega];exact a4) (by rw[<-a5];exact l1) (h.Yr.lt _);have e2:m.has.getD (2*c) false=true:=mf h.bits (by omega) (by rw[show 2*c/2=c by omega];exact c4) (by rw[<-c5];exact l2) (h.Yr.lt _);have X7:o.num (ai l 1)=m.int (2*a):=by rw[Own.num,a2];exact h.ro.ints a a1 a4
 have YY:o.num (ai l 2)=m.int (2*c):=by rw[Own.num,c2];exact h.ro.ints c c1 c4
 rw[hd];unfold fN RM.arith;simp only;rw[a3,c3,i3,mG e1,mG e2,ja (show¬¬m.out=0 by rw[h.out];decide),k7,YY];by_cases hz:l.op=6/\m.int (2*c)=0
 ·rw[jb hz,jb (show word ws 0=sB/\m.int (2*c)=0 from⟨k8.2 hz.1,hz.2⟩)];exact h.ro.fin rfl rfl rfl rfl
 ·rw[ja hz,ja (show¬(word ws 0=sB/\m.int (2*c)=0)from fun e=>hz ⟨k8.1 e.1,e.2⟩),ja (by omega),ja (by omega)];have hc:(if l.op=6 then o.calc l else o.fz q l)=o.calc l:=by
   split
   ·rfl
   ·unfold Own.fz;rw[ja (by omega),jb (by omega)]
  rw[hc,rp k9 (by omega),i5];refine⟨?_,h.out,zC h.bits h.ro.len.has (by rw[show 2*i/2=i by omega];exact i4) _⟩;unfold Own.calc;rw[X7,YY,i2];exact h.ro.be i1 rfl _
theorem Yj (h:At q p text al f s o m l ws)(ax:l.op=7):fN q al f s o l (m.aS f p al ws):=by
 have hk:=h.lk;have hn:l.places.length=1:=by rw[hk.cQ,ax];rfl
 obtain⟨i,i1,i2,i3,i4,i5⟩:=jt h.ln hk h.cg (j:=0) (by omega) (by rw[ax];rfl);have hw:word ws 0=[105,110]:=by rw[hk.op,ax];rfl
 have hd:m.aS f p al ws=m.input p al ws:=by unfold RM.aS;simp[hw,yq,yt,yr,sB]
 have hr:=h.ro;have h1:Ro q al 0 {o with al:=o.al.tail} {m with used:=m.used+1}:=⟨hr.y.of rfl rfl rfl,⟨hr.len.ints,hr.len.has,hr.len.held,hr.len.ba,hr.len.flags⟩,hr.GW,hr.Ce,hr.ints,hr.boxes,hr.pos,by show o.al.tail=al.drop (m.used+1);rw[hr.al,List.tail_drop],hr.value⟩;have hv:o.al.headD 0=al.getD m.used 0:=by
  rw[hr.al,List.headD_eq_head?_getD,List.head?_drop,jA]
 unfold fN;rw[ja (by omega),ja (by omega),ja (by omega),ja (by omega),hd,rp (by rw[ax];rfl) (by omega),i5];unfold RM.input;rw[i3,<-hv];refine⟨?_,h.out,zC (m:={m with used:=m.used+1}) (lV h.bits rfl rfl) hr.len.has (by rw[show 2*i/2=i by omega];exact i4) _⟩;unfold Own.fz;rw[ja (by omega),ja (by omega),jb ax,i2];exact h1.be i1 rfl _
theorem VG (h:At q p text al f s o m l ws)(ax:l.op=8):fN q al f s o l (m.aS f p al ws):=by
 have hk:=h.lk;have hn:l.places.length=1:=by rw[hk.cQ,ax];rfl
 obtain⟨i,i1,i2,i3,i4,i5⟩:=jt h.ln hk h.cg (j:=0) (by omega) (by rw[ax];rfl);have hw:word ws 0=[111,117,116]:=by rw[hk.op,ax];rfl
 have hd:m.aS f p al ws=m.tell p ws:=by unfold RM.aS;simp[hw,yq,yt,yr,sB]
 have kZ:=h.fault;unfold aM at kZ;rw[ja (by omega),jb (by omega)]at kZ;have e1:m.has.getD (2*i) false=true:=mf h.bits (by omega) (by rw[show 2*i/2=i by omega];exact i4) (by rw[<-i5];exact qZ kZ) (h.Yr.lt _);unfold fN;rw[ja (by omega),ja (by omega),ja (by omega),ja (by omega),hd];unfold RM.tell;simp only;rw[i3,mG e1,jb h.out,oZ (by rw[ax];rfl) (by omega) (by omega) (by omega)];refine⟨?_,h.out,lV h.bits rfl rfl⟩;unfold Own.fz;rw[ja (by omega),ja (by omega),ja (by omega),jb ax,show o.num (ai l 0)=m.int (2*i) by rw[Own.num,i2];exact h.ro.ints i i1 i4];exact h.ro.zv (h.ro.y.note 111 _) rfl rfl rfl rfl rfl rfl rfl
theorem SW (h:At q p text al f s o m l ws)(ax:l.op=10):fN q al f s o l (m.aS f p al ws):=by
 have hk:=h.lk;have hn:l.places.length=2:=by rw[hk.cQ,ax];rfl
 obtain⟨i,i1,i2,i3,i4,i5⟩:=jt h.ln hk h.cg (j:=0) (by omega) (by rw[ax];rfl);obtain⟨b1,b2,b3,-⟩:=zG h.ln hk h.cg (j:=1) (by omega) (by rw[ax];rfl);have hw:word ws 0=[108,111,97,100]:=by rw[hk.op,ax];rfl
 have hd:m.aS f p al ws=m.load p ws:=by unfold RM.aS;simp[hw,yq,yt,yr,sB]
 have kZ:=h.fault;unfold aM at kZ;rw[ja (by omega),ja (by omega),ja (by omega),jb (by omega)]at kZ;have kN:=oK h.fit b2 b3 (by rw[<-b1];exact qZ kZ);obtain⟨e1,e2⟩:=h.ro.named h.WX b2 kN;have kf:o.box (ai l 1)=o.boxes.getD (sp p (word ws 2)) 0:=by rw[Own.box,b1]
 unfold fN;rw[ja (by omega),ja (by omega),ja (by omega),ja (by omega),hd,rp (by rw[ax];rfl) (by omega),i5];unfold RM.load;simp only;rw[e2,jb h.out,e1,i3];refine⟨?_,h.out,zC (m:=m.note 60 ((o.boxes.getD (sp p (word ws 2)) 0:Nat):Int)) (lV h.bits rfl rfl) h.ro.len.has (by rw[show 2*i/2=i by omega];exact i4) _⟩;unfold Own.fz;rw[ja (by omega),ja (by omega),ja (by omega),ja (by omega),jb ax,kf,h.ro.y.at,i2];exact(h.ro.zv (h.ro.y.load _) rfl rfl rfl rfl rfl rfl rfl).be i1 rfl _
theorem Pf (h:At q p text al f s o m l ws)(ax:l.op=11):fN q al f s o l (m.aS f p al ws):=by
 have hk:=h.lk;have hn:l.places.length=2:=by rw[hk.cQ,ax];rfl
 obtain⟨b1,b2,b3,-⟩:=zG h.ln hk h.cg (j:=0) (by omega) (by rw[ax];rfl);obtain⟨i,i1,i2,i3,i4,i5⟩:=jt h.ln hk h.cg (j:=1) (by omega) (by rw[ax];rfl);have hw:word ws 0=[115,116,111,114,101]:=by rw[hk.op,ax];rfl
 have hd:m.aS f p al ws=m.store p ws:=by unfold RM.aS;simp[hw,yq,yt,yr,sB]
 have kZ:=h.fault;unfold aM at kZ;rw[ja (by omega),ja (by omega),ja (by omega),ja (by omega),jb ax]at kZ;obtain⟨l1,l2⟩:=Le kZ;have kN:=oK h.fit b2 b3 (by rw[<-b1];exact l1);obtain⟨e1,e2⟩:=h.ro.named h.WX b2 kN;have e3:m.has.getD (2*i) false=true:=mf h.bits (by omega) (by rw[show 2*i/2=i by omega];exact i4) (by rw[<-i5];exact l2) (h.Yr.lt _);have kf:o.box (ai l 0)=o.boxes.getD (sp p (word ws 1)) 0:=by rw[Own.box,b1]
 unfold fN;rw[ja (by omega),ja (by omega),ja (by omega),ja (by omega),hd];unfold RM.store;simp only;rw[e2,i3,mG e3,jb h.out,e1,oZ (by rw[ax];rfl) (by omega) (by omega) (by omega)];refine⟨?_,h.out,lV h.bits rfl rfl⟩;unfold Own.fz;rw[ja (by omega),ja (by omega),ja (by omega),ja (by omega),ja (by omega),jb ax,kf,show o.num (ai l 1)=m.int (2*i) by rw[Own.num,i2];exact h.ro.ints i i1 i4];exact h.ro.zv (h.ro.y.store _ _) rfl rfl rfl rfl rfl rfl rfl
theorem ET (h:At q p text al f s o m l ws)(ax:l.op=9):fN q al f s o l (m.aS f p al ws):=by
 have hk:=h.lk;have hn:l.places.length=2:=by rw[hk.cQ,ax];rfl
 obtain⟨b1,b2,b3,b4⟩:=zG h.ln hk h.cg (j:=0) (by omega) (by rw[ax];rfl);obtain⟨i,i1,i2,i3,i4,i5⟩:=jt h.ln hk h.cg (j:=1) (by omega) (by rw[ax];rfl);have hw:word ws 0=[110,101,119]:=by rw[hk.op,ax];rfl
 have hd:m.aS f p al ws=m.new f p ws:=by unfold RM.aS;simp[hw,yq,yt,yr,sB]
 have kZ:=h.fault;unfold aM at kZ;rw[ja (by omega),ja (by omega),jb ax,Bool.or_eq_false_iff]at kZ;have e3:m.has.getD (2*i) false=true:=mf h.bits (by omega) (by rw[show 2*i/2=i by omega];exact i4) (by rw[<-i5];exact qZ kZ.1) (h.Yr.lt _);obtain⟨e0,f0,p0⟩:=hk.pl 0 (by omega);have eh:=dB (ai l 0);have aL:=(gI h.ln (j:=0) (by omega)).1;have cg:=h.cg;rw[b1]at eh;obtain⟨r1,r2,r3⟩:=Ro.drop h.both f0 p0 (by rw[<-e0];omega) (by rw[<-e0,<-eh];exact b3) h.ro h.WX h.bits;rw[<-e0,b4]at r1 r3;have Cq:o.num (ai l 1)=m.int (2*i):=by rw[Own.num,i2];exact h.ro.ints i i1 i4
 unfold fN;rw[ja (by omega),hd];unfold RM.new;simp only;rw[i3,mG e3,ja (show¬¬m.out=0 by rw[h.out];decide),jb h.owns,Cq];have ka:(m.drop p (word ws 1)).out=0:=r2.trans h.out;generalize U1:m.drop p (word ws 1)=md at*;unfold RM.made;have hlv:=r1.y.live;by_cases hr:f.room<=md.count
 ·rw[jb ⟨ax,by omega⟩,jb hr];exact r1.fin rfl rfl rfl rfl
 ·rw[ja (fun e=>hr (by have:=e.2;omega)),jb ax,ja hr];simp only;rw[jb h.owns,rp (by rw[ax];rfl) (by omega),b1];have h1:=r1.zv (r1.y.build (m.int (2*i))) rfl rfl rfl rfl rfl rfl rfl;have h2:=h1.put (x:=ai l 0) (n:=md.boxes.length+1) (hd:=md.boxes.length+1) (ch:=119) b1 b2 b3 (by rw[jb rfl]) (fun _=>by omega);refine⟨?_,ka,?_⟩
  ·unfold Own.new;rw[r1.y.made];exact h2
  ·have e:dC [ai l 0] s=s.set (sp p (word ws 1)) (if(ai l 0).2=3 then 8 else 1):=by show s.set (ah (ai l 0)) _=_;rw[b1]
   rw[e]at r3;have:=fW r3 r1.len.ba (m':={md with held:=md.held.set (sp p (word ws 1)) (md.boxes.length+1),ba:=md.ba.set (sp p (word ws 1)) 119}) rfl rfl (v:=2) b3 (by decide);rw[List.set_set]at this;exact lV this rfl rfl
theorem SV (h:At q p text al f s o m l ws)(ax:l.op=15):fN q al f s o l (m.aS f p al ws):=by
 have hk:=h.lk;have hn:l.places.length=1:=by rw[hk.cQ,ax];rfl
 have hw:word ws 0=[100,114,111,112]:=by rw[hk.op,ax];rfl
 have hd:m.aS f p al ws=m.drop p (word ws 1):=by unfold RM.aS;simp[hw,yq,yt,yr,sB,qo]
 obtain⟨e0,f0,p0⟩:=hk.pl 0 (by omega);have aL:=(gI h.ln (j:=0) (by omega)).1;have cg:=h.cg;have qv:¬q.bB (ai l 0).1=0:=pK (by have:=eU h.ln.fits (j:=0) (by omega);rw[ax]at this;exact this);obtain⟨r1,r2,r3⟩:=Ro.drop h.both f0 p0 (by rw[<-e0];omega) (by rw[<-e0];exact qv) h.ro h.WX h.bits;rw[<-e0]at r1 r3;unfold fN;rw[ja (by omega),ja (by omega),ja (by omega),ja (by omega),hd];refine⟨?_,r2.trans h.out,?_⟩
 ·unfold Own.fz;rw[ja (by omega),ja (by omega),ja (by omega),ja (by omega),ja (by omega),ja (by omega),ja (by omega),jb (by omega)];exact r1
 ·unfold bm cG;rw[ja (by rw[ax];decide),ja (by omega),ja (by omega),jb ax,ja (by omega),ja (by omega)];exact r3
theorem SY (h:At q p text al f s o m l ws)(ax:l.op=13):fN q al f s o l (m.aS f p al ws):=by
 have hk:=h.lk;have hn:l.places.length=1:=by rw[hk.cQ,ax];rfl
 obtain⟨i,i1,i2,i3,i4,i5,i6,i7⟩:=ES h.ln hk h.cg (j:=0) (by omega) (by rw[ax];rfl);have hw:word ws 0=[110,111,110,101]:=by rw[hk.op,ax];rfl
 have hd:m.aS f p al ws=m.none f p ws:=by unfold RM.aS;simp[hw,yq,yt,yr,sB,qo]
 obtain⟨e0,f0,p0⟩:=hk.pl 0 (by omega);have cg:=h.cg;obtain⟨r1,r2,r3⟩:=Ro.drop h.both f0 p0 (by rw[<-e0,i2];exact i1) (by rw[<-e0,i2,i5];decide) h.ro h.WX h.bits;rw[<-e0]at r1 r3;have qv:¬q.bB (2*i/2)=0:=by rw[show 2*i/2=i by omega,i5];decide
 unfold fN;rw[ja (by omega),ja (by omega),ja (by omega),ja (by omega),hd];unfold RM.none;simp only;rw[jb h.owns,show sp p (word ws 1)=2*i from i4];refine⟨?_,r2.trans h.out,?_⟩
 ·unfold Own.fz;rw[ja (by omega),ja (by omega),ja (by omega),ja (by omega),ja (by omega),ja (by omega),ja (by omega),jb (by omega)];have h1:=r1.clear (x:=ai l 0) (k:=2*i) (ch:=110) i6 (by decide);have e:(o.drop (QP.ae q (ai l 0))).clear (ai l 0)=o.drop (QP.ae q (ai l 0)):=by
   unfold Own.clear;have hz:=Bal.drop_zero (QP.ae q (ai l 0)) o (k:=ah (ai l 0)) (.inl (by rw[i7];simp));have:(o.drop (QP.ae q (ai l 0))).boxes.set (ah (ai l 0)) 0=(o.drop (QP.ae q (ai l 0))).boxes:=by
    apply List.ext_getElem?
    intro n;rw[jd];split
    ·rename_i e;subst e;rw[jA]at hz;split
     ·rename_i aL;rw[jB aL]at hz⊢;simp at hz;rw[hz]
     ·rename_i aL;rw[jG (by omega)]
    ·rfl
   rw[this]
  rw[e]at h1;exact h1
 ·unfold bm cG;rw[ja (by rw[ax];decide),ja (by omega),jb ax,ja (by omega),ja (by omega)];rw[i7]at r3;have e1:dC [ai l 0] s=s.set (2*i) (if(ai l 0).2=3 then 8 else 1):=by show s.set (ah (ai l 0)) _=_;rw[i6]
  have e2:gS 4 [l.places.getD 0 (0,0)] s=s.set (2*i) 4:=by show s.set (ah (ai l 0)) _=_;rw[i6]
  rw[e1]at r3;rw[e2];have:=fW r3 r1.len.ba (m':={m.drop p (word ws 1)with ba:=(m.drop p (word ws 1)).ba.set (2*i) 110}) rfl rfl (v:=4) qv (by decide);rw[List.set_set]at this;exact this
end
end Sim
end Go.Proofs.YtmlgajhhnojdjaaGreatDoor

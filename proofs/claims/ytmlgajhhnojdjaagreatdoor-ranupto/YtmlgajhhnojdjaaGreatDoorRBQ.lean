import Derived.Test.YtmlgajhhnojdjaaGreatDoorRBP
namespace Go.Proofs.YtmlgajhhnojdjaaGreatDoor
namespace Sim
open Go Sq Aux Go.Proofs.YtmlgajhhnojdjaaGreatDoor.Own Mac RefRa RunA RunB PrjS FlwA FlwB FlwC FlwD FlwE FlwG FlwH FlwJ FlwM FlwS FlwU FlwV FlwW FlwX FlwT
def Ua (o:Own.Own)(m:RM)(u:Nat)(v:Int):Prop:=m.out=u/\m.value=v/\m.trace=o.yd.text/\m.count=o.yd.live
section
variable {q:QP} {ak:List Int} {z:Int} {o:Own.Own} {m m':RM} {s:List Nat} {p:RP} {text:B} {l:aa} {ws:List B} {f:Fx}
theorem Ro.fin (h:Ro q ak 0 o m){u:Nat}(h1:m'.out=u)(h2:m'.value=m.value)(h3:m'.trace=m.trace)(h4:m'.count=m.count):Ua o m' u 0:=⟨h1,by rw[h2];exact h.value,by rw[h3];exact h.y.text,by rw[h4];exact h.y.live.symm⟩
theorem gH (hl:kH q l){j:Nat}(hj:j<l.places.length):(ah l j).1<q.locals.length/\(ah l j).2<=3:=hl.ok.places _ (by unfold ah;rw[jA,jB hj];exact jL hj)
theorem OA {x:Nat×Nat}(h:q.bJ x 105=true):¬x.2=2:=fun e=>by
 unfold QP.bJ QP.kind at h;rw[jb (.inr e)]at h;split at h
 ·cases h
 ·rename_i t ht;split at ht
  ·cases ht;cases h
  ·cases ht
theorem js (hl:kH q l)(hk:Lk p ws l)(cf:q.locals.length<=12){j:Nat}(hj:j<l.places.length)(hw:(ae l.op).getD j 0=105):∃i,i<12/\(ah l j).1=i/\sp p (word ws (j+1))=2*i/\q.bA i=0/\ag (ah l j)=2*i:=by
 obtain⟨h1,h2⟩:=gH hl hj;have cd:=eT hl.fits hj;rw[hw]at cd;have e:=(hk.pl j hj).1;have es:ag (ah l j)=sp p (word ws (j+1)):=by rw[e,lO]
 have e2:ag (ah l j)=2*(ah l j).1:=by unfold ag;rw[ja (OA cd)]
 exact⟨_,by omega,rfl,by rw[<-es];exact e2,Hf cd,e2⟩
theorem zF (hl:kH q l)(hk:Lk p ws l)(cf:q.locals.length<=12){j:Nat}(hj:j<l.places.length)(hw:(ae l.op).getD j 0=112):ag (ah l j)=sp p (word ws (j+1))/\sp p (word ws (j+1))<24/\¬q.bA (sp p (word ws (j+1))/2)=0/\QP.ab q (ah l j)=[ah l j]:=by
 obtain⟨h1,h2⟩:=gH hl hj;have cd:=eT hl.fits hj;rw[hw]at cd;have e:=(hk.pl j hj).1;have es:ag (ah l j)=sp p (word ws (j+1)):=by rw[e,lO]
 have eh:=dA (ah l j);rw[es]at eh;obtain⟨k1,k2,-⟩:=qW cd;exact⟨es,by omega,by rw[eh];exact k1,by unfold QP.ab;rw[ja k2]⟩
theorem ER (hl:kH q l)(hk:Lk p ws l)(cf:q.locals.length<=12){j:Nat}(hj:j<l.places.length)(hw:(ae l.op).getD j 0=111):∃i,i<12/\(ah l j).1=i/\(ah l j).2=0/\sp p (word ws (j+1))=2*i/\q.bA i=3/\ag (ah l j)=2*i/\QP.ab q (ah l j)=[ah l j]:=by
 obtain⟨h1,h2⟩:=gH hl hj;have cd:=eT hl.fits hj;rw[hw]at cd;have e:=(hk.pl j hj).1;have es:ag (ah l j)=sp p (word ws (j+1)):=by rw[e,lO]
 obtain⟨k1,k2⟩:=A4 cd h2;have e2:ag (ah l j)=2*(ah l j).1:=by unfold ag;rw[ja (by omega)]
 exact⟨_,by omega,rfl,k2,by rw[<-es];exact e2,k1,e2,by unfold QP.ab;rw[ja (by omega)]⟩
theorem qY {n:Nat}{x:Nat×Nat}(h:bw n [x] s=false):ju n (s.getD (ag x) 0)=false:=by simpa [bw]using h
theorem Ld {n:Nat}{x y:Nat×Nat}(h:bw n [x,y] s=false):ju n (s.getD (ag x) 0)=false/\ju n (s.getD (ag y) 0)=false:=by simpa [bw]using h
theorem oJ (hF:j7 q s o){k:Nat}(hk:k<24)(ht:¬q.bA (k/2)=0)(xr:ju 2 (s.getD k 0)=false):¬o.boxes.getD k 0=0:=fun e=>by
 have:=hF.at_ k hk (by simp) ht;unfold oq at this;rw[jb e]at this;simp only[ju,Bool.not_eq_false',beq_iff_eq]at xr;exact this xr
theorem Ro.full (h:Ro q ak z o m){k:Nat}(hk:k<24)(hn:¬o.boxes.getD k 0=0):m.aZ.getD k 0=119/\o.boxes.getD k 0=m.held.getD k 0:=by
 have:=h.boxes k hk;rw[this]at hn⊢;split at hn
 ·exact absurd rfl hn
 ·rename_i e;rw[ja e]at this⊢;split at hn
  ·rename_i e2;rw[jb e2];exact⟨e2,rfl⟩
  ·exact absurd rfl hn
theorem Ro.named (h:Ro q ak z o m)(hb:Bal.gx q [] o){k:Nat}(hk:k<24)(hn:¬o.boxes.getD k 0=0):m.named k=o.boxes.getD k 0/\m.boxed k=m:=by
 obtain⟨h1,h2⟩:=h.full hk hn;have hl:=FQ hb (k:=k) rfl (by omega);have e:m.named k=o.boxes.getD k 0:=by
  unfold RM.named;rw[<-h2,ja];rintro(e1|e1)
  ·exact hn e1
  ·rw[<-h.y.at,hl]at e1;cases e1
 exact⟨e,by unfold RM.boxed;rw[ja (by rw[e];exact hn)]⟩
def fM (q:QP)(ak:List Int)(f:Fx)(s:List Nat)(o:Own.Own)(l:aa)(m':RM):Prop:=
 if l.op=6/\o.num (ah l 2)=0 then Ua o m' 4 0
 else if l.op=9/\(o.drop [ah l 0]).yd.live≥f.room then Ua (o.drop [ah l 0]) m' 3 0
 else Ro q ak 0 (if l.op=9 then(o.drop [ah l 0]).new (ah l 0) (o.num (ah l 1))else if l.op=6 then o.calc l else o.fy q l) m'/\m'.out=0/\iN q (bj q l s) m'
structure At (q:QP)(p:RP)(text:B)(ak:List Int)(f:Fx)(s:List Nat)(o:Own.Own)(m:RM)(l:aa)(ws:List B):Prop where
 both:fi text false p q
 ln:kH q l
 lk:Lk p ws l
 owns:f.owns=true
 fault:aL q l s=false
 fit:j7 q s o
 WW:Bal.gx q [] o
 ro:Ro q ak 0 o m
 bits:iN q s m
 Yq:eH s
 out:m.out=0
theorem At.cf (h:At q p text ak f s o m l ws):q.locals.length<=12:=h.both.aV
theorem rn (aw:oP l.op=true)(B5:¬l.op=14):bj q l s=s.set (ag (ah l 0)) 2:=by
 have:¬l.op=12:=fun e=>by rw[e]at aw;cases aw
 unfold bj cF;rw[jb aw,ja this,ja B5];rfl
theorem VG (h:At q p text ak f s o m l ws)(aw:l.op=2):fM q ak f s o l (m.aR f p ak ws):=by
 have hk:=h.lk;have hn:l.places.length=1:=by rw[hk.cP,aw];rfl
 obtain⟨i,i1,i2,i3,i4,i5⟩:=js h.ln hk h.cf (j:=0) (by omega) (by rw[aw];rfl);have hw:word ws 0=[115,101,116]:=by rw[hk.op,aw];rfl
 have hd:m.aR f p ak ws=m.be (2*i) (kW (word ws 2)):=by unfold RM.aR;simp[hw];rw[i3]
 unfold fM;rw[ja (by omega),ja (by omega),ja (by omega),ja (by omega),hd,rn (by rw[aw];rfl) (by omega),i5];refine⟨?_,h.out,zB h.bits h.ro.len.has (by rw[show 2*i/2=i by omega];exact i4) _⟩;unfold Own.fy;rw[jb aw,hk.nm aw,i2];exact h.ro.be i1 rfl _
theorem Pd (h:At q p text ak f s o m l ws)(aw:l.op=3\/l.op=4\/l.op=5\/l.op=6):fM q ak f s o l (m.aR f p ak ws):=by
 have hk:=h.lk;have key:∀op:Fin 23,op.val=3\/op.val=4\/op.val=5\/op.val=6->((ae op.val).takeWhile gP).length=3/\(ae op.val).getD 0 0=105/\(ae op.val).getD 1 0=105/\(ae op.val).getD 2 0=105/\(bI op.val=yp\/bI op.val=yr\/bI op.val=yq\/bI op.val=sA)/\¬bI op.val=[115,101,116]/\Mz (bI op.val)=op.val/\(bI op.val=sA↔op.val=6)/\oP op.val=true:=by decide
 obtain⟨k1,k2,k3,k4,k5,k6,k7,k8,k9⟩:=key ⟨l.op,hk.hi⟩ aw;simp only at k1 k2 k3 k4 k5 k6 k7 k8 k9;have hn:l.places.length=3:=by rw[hk.cP];exact k1
 obtain⟨i,i1,i2,i3,i4,i5⟩:=js h.ln hk h.cf (j:=0) (by omega) k2;obtain⟨a,a1,a2,a3,a4,a5⟩:=js h.ln hk h.cf (j:=1) (by omega) k3;obtain⟨c,c1,c2,c3,c4,c5⟩:=js h.ln hk h.cf (j:=2) (by omega) k4;rw[<-hk.op]at k5 k6 k7 k8;have hd:m.aR f p ak ws=m.arith p ws:=by unfold RM.aR;simp only;rw[ja k6,jb k5]
 have kY:=h.fault;unfold aL at kY;rw[jb (by omega)]at kY;obtain⟨l1,l2⟩:=Ld kY;have e1:m.has.getD (2*a) false=true:=me h.bits (by omega) (by rw[show 2*a/2=a by omega];exact a4) (by rw[<-a5];exact l1) (h.Yq.lt _);have e2:m.has.getD (2*c) false=true:=me h.bits (by omega) (by rw[show 2*c/2=c by omega];exact c4) (by rw[<-c5];exact l2) (h.Yq.lt _);have X6:o.num (ah l 1)=m.int (2*a):=by rw[Own.num,a2];exact h.ro.ints a a1 a4
 have YX:o.num (ah l 2)=m.int (2*c):=by rw[Own.num,c2];exact h.ro.ints c c1 c4
 rw[hd];unfold fM RM.arith;simp only;rw[a3,c3,i3,mF e1,mF e2,ja (show¬¬m.out=0 by rw[h.out];decide),k7,YX];by_cases hz:l.op=6/\m.int (2*c)=0
 ·rw[jb hz,jb (show word ws 0=sA/\m.int (2*c)=0 from⟨k8.2 hz.1,hz.2⟩)];exact h.ro.fin rfl rfl rfl rfl
 ·rw[ja hz,ja (show¬(word ws 0=sA/\m.int (2*c)=0)from fun e=>hz ⟨k8.1 e.1,e.2⟩),ja (by omega),ja (by omega)];have hc:(if l.op=6 then o.calc l else o.fy q l)=o.calc l:=by
   split
   ·rfl
   ·unfold Own.fy;rw[ja (by omega),jb (by omega)]
  rw[hc,rn k9 (by omega),i5];refine⟨?_,h.out,zB h.bits h.ro.len.has (by rw[show 2*i/2=i by omega];exact i4) _⟩;unfold Own.calc;rw[X6,YX,i2];exact h.ro.be i1 rfl _
theorem Yi (h:At q p text ak f s o m l ws)(aw:l.op=7):fM q ak f s o l (m.aR f p ak ws):=by
 have hk:=h.lk;have hn:l.places.length=1:=by rw[hk.cP,aw];rfl
 obtain⟨i,i1,i2,i3,i4,i5⟩:=js h.ln hk h.cf (j:=0) (by omega) (by rw[aw];rfl);have hw:word ws 0=[105,110]:=by rw[hk.op,aw];rfl
 have hd:m.aR f p ak ws=m.input p ak ws:=by unfold RM.aR;simp[hw,yp,yr,yq,sA]
 have hr:=h.ro;have h1:Ro q ak 0 {o with ak:=o.ak.tail} {m with used:=m.used+1}:=⟨hr.y.of rfl rfl rfl,⟨hr.len.ints,hr.len.has,hr.len.held,hr.len.aZ,hr.len.flags⟩,hr.GV,hr.Cd,hr.ints,hr.boxes,hr.pos,by show o.ak.tail=ak.drop (m.used+1);rw[hr.ak,List.tail_drop],hr.value⟩;have hv:o.ak.headD 0=ak.getD m.used 0:=by
  rw[hr.ak,List.headD_eq_head?_getD,List.head?_drop,jA]
 unfold fM;rw[ja (by omega),ja (by omega),ja (by omega),ja (by omega),hd,rn (by rw[aw];rfl) (by omega),i5];unfold RM.input;rw[i3,<-hv];refine⟨?_,h.out,zB (m:={m with used:=m.used+1}) (lU h.bits rfl rfl) hr.len.has (by rw[show 2*i/2=i by omega];exact i4) _⟩;unfold Own.fy;rw[ja (by omega),ja (by omega),jb aw,i2];exact h1.be i1 rfl _
theorem VF (h:At q p text ak f s o m l ws)(aw:l.op=8):fM q ak f s o l (m.aR f p ak ws):=by
 have hk:=h.lk;have hn:l.places.length=1:=by rw[hk.cP,aw];rfl
 obtain⟨i,i1,i2,i3,i4,i5⟩:=js h.ln hk h.cf (j:=0) (by omega) (by rw[aw];rfl);have hw:word ws 0=[111,117,116]:=by rw[hk.op,aw];rfl
 have hd:m.aR f p ak ws=m.tell p ws:=by unfold RM.aR;simp[hw,yp,yr,yq,sA]
 have kY:=h.fault;unfold aL at kY;rw[ja (by omega),jb (by omega)]at kY;have e1:m.has.getD (2*i) false=true:=me h.bits (by omega) (by rw[show 2*i/2=i by omega];exact i4) (by rw[<-i5];exact qY kY) (h.Yq.lt _);unfold fM;rw[ja (by omega),ja (by omega),ja (by omega),ja (by omega),hd];unfold RM.tell;simp only;rw[i3,mF e1,jb h.out,oY (by rw[aw];rfl) (by omega) (by omega) (by omega)];refine⟨?_,h.out,lU h.bits rfl rfl⟩;unfold Own.fy;rw[ja (by omega),ja (by omega),ja (by omega),jb aw,show o.num (ah l 0)=m.int (2*i) by rw[Own.num,i2];exact h.ro.ints i i1 i4];exact h.ro.zu (h.ro.y.note 111 _) rfl rfl rfl rfl rfl rfl rfl
theorem SV (h:At q p text ak f s o m l ws)(aw:l.op=10):fM q ak f s o l (m.aR f p ak ws):=by
 have hk:=h.lk;have hn:l.places.length=2:=by rw[hk.cP,aw];rfl
 obtain⟨i,i1,i2,i3,i4,i5⟩:=js h.ln hk h.cf (j:=0) (by omega) (by rw[aw];rfl);obtain⟨b1,b2,b3,-⟩:=zF h.ln hk h.cf (j:=1) (by omega) (by rw[aw];rfl);have hw:word ws 0=[108,111,97,100]:=by rw[hk.op,aw];rfl
 have hd:m.aR f p ak ws=m.load p ws:=by unfold RM.aR;simp[hw,yp,yr,yq,sA]
 have kY:=h.fault;unfold aL at kY;rw[ja (by omega),ja (by omega),ja (by omega),jb (by omega)]at kY;have kM:=oJ h.fit b2 b3 (by rw[<-b1];exact qY kY);obtain⟨e1,e2⟩:=h.ro.named h.WW b2 kM;have ke:o.box (ah l 1)=o.boxes.getD (sp p (word ws 2)) 0:=by rw[Own.box,b1]
 unfold fM;rw[ja (by omega),ja (by omega),ja (by omega),ja (by omega),hd,rn (by rw[aw];rfl) (by omega),i5];unfold RM.load;simp only;rw[e2,jb h.out,e1,i3];refine⟨?_,h.out,zB (m:=m.note 60 ((o.boxes.getD (sp p (word ws 2)) 0:Nat):Int)) (lU h.bits rfl rfl) h.ro.len.has (by rw[show 2*i/2=i by omega];exact i4) _⟩;unfold Own.fy;rw[ja (by omega),ja (by omega),ja (by omega),ja (by omega),jb aw,ke,h.ro.y.at,i2];exact(h.ro.zu (h.ro.y.load _) rfl rfl rfl rfl rfl rfl rfl).be i1 rfl _
theorem Pe (h:At q p text ak f s o m l ws)(aw:l.op=11):fM q ak f s o l (m.aR f p ak ws):=by
 have hk:=h.lk;have hn:l.places.length=2:=by rw[hk.cP,aw];rfl
 obtain⟨b1,b2,b3,-⟩:=zF h.ln hk h.cf (j:=0) (by omega) (by rw[aw];rfl);obtain⟨i,i1,i2,i3,i4,i5⟩:=js h.ln hk h.cf (j:=1) (by omega) (by rw[aw];rfl);have hw:word ws 0=[115,116,111,114,101]:=by rw[hk.op,aw];rfl
 have hd:m.aR f p ak ws=m.store p ws:=by unfold RM.aR;simp[hw,yp,yr,yq,sA]
 have kY:=h.fault;unfold aL at kY;rw[ja (by omega),ja (by omega),ja (by omega),ja (by omega),jb aw]at kY;obtain⟨l1,l2⟩:=Ld kY;have kM:=oJ h.fit b2 b3 (by rw[<-b1];exact l1);obtain⟨e1,e2⟩:=h.ro.named h.WW b2 kM;have e3:m.has.getD (2*i) false=true:=me h.bits (by omega) (by rw[show 2*i/2=i by omega];exact i4) (by rw[<-i5];exact l2) (h.Yq.lt _);have ke:o.box (ah l 0)=o.boxes.getD (sp p (word ws 1)) 0:=by rw[Own.box,b1]
 unfold fM;rw[ja (by omega),ja (by omega),ja (by omega),ja (by omega),hd];unfold RM.store;simp only;rw[e2,i3,mF e3,jb h.out,e1,oY (by rw[aw];rfl) (by omega) (by omega) (by omega)];refine⟨?_,h.out,lU h.bits rfl rfl⟩;unfold Own.fy;rw[ja (by omega),ja (by omega),ja (by omega),ja (by omega),ja (by omega),jb aw,ke,show o.num (ah l 1)=m.int (2*i) by rw[Own.num,i2];exact h.ro.ints i i1 i4];exact h.ro.zu (h.ro.y.store _ _) rfl rfl rfl rfl rfl rfl rfl
theorem ES (h:At q p text ak f s o m l ws)(aw:l.op=9):fM q ak f s o l (m.aR f p ak ws):=by
 have hk:=h.lk;have hn:l.places.length=2:=by rw[hk.cP,aw];rfl
 obtain⟨b1,b2,b3,b4⟩:=zF h.ln hk h.cf (j:=0) (by omega) (by rw[aw];rfl);obtain⟨i,i1,i2,i3,i4,i5⟩:=js h.ln hk h.cf (j:=1) (by omega) (by rw[aw];rfl);have hw:word ws 0=[110,101,119]:=by rw[hk.op,aw];rfl
 have hd:m.aR f p ak ws=m.new f p ws:=by unfold RM.aR;simp[hw,yp,yr,yq,sA]
 have kY:=h.fault;unfold aL at kY;rw[ja (by omega),ja (by omega),jb aw,Bool.or_eq_false_iff]at kY;have e3:m.has.getD (2*i) false=true:=me h.bits (by omega) (by rw[show 2*i/2=i by omega];exact i4) (by rw[<-i5];exact qY kY.1) (h.Yq.lt _);obtain⟨e0,f0,p0⟩:=hk.pl 0 (by omega);have eh:=dA (ah l 0);have aK:=(gH h.ln (j:=0) (by omega)).1;have cf:=h.cf;rw[b1]at eh;obtain⟨r1,r2,r3⟩:=Ro.drop h.both f0 p0 (by rw[<-e0];omega) (by rw[<-e0,<-eh];exact b3) h.ro h.WW h.bits;rw[<-e0,b4]at r1 r3;have Cp:o.num (ah l 1)=m.int (2*i):=by rw[Own.num,i2];exact h.ro.ints i i1 i4
 unfold fM;rw[ja (by omega),hd];unfold RM.new;simp only;rw[i3,mF e3,ja (show¬¬m.out=0 by rw[h.out];decide),jb h.owns,Cp];have j9:(m.drop p (word ws 1)).out=0:=r2.trans h.out;generalize U0:m.drop p (word ws 1)=md at*;unfold RM.made;have hlv:=r1.y.live;by_cases hr:f.room<=md.count
 ·rw[jb ⟨aw,by omega⟩,jb hr];exact r1.fin rfl rfl rfl rfl
 ·rw[ja (fun e=>hr (by have:=e.2;omega)),jb aw,ja hr];simp only;rw[jb h.owns,rn (by rw[aw];rfl) (by omega),b1];have h1:=r1.zu (r1.y.build (m.int (2*i))) rfl rfl rfl rfl rfl rfl rfl;have h2:=h1.put (x:=ah l 0) (n:=md.boxes.length+1) (hd:=md.boxes.length+1) (ch:=119) b1 b2 b3 (by rw[jb rfl]) (fun _=>by omega);refine⟨?_,j9,?_⟩
  ·unfold Own.new;rw[r1.y.made];exact h2
  ·have e:dB [ah l 0] s=s.set (sp p (word ws 1)) (if(ah l 0).2=3 then 8 else 1):=by show s.set (ag (ah l 0)) _=_;rw[b1]
   rw[e]at r3;have:=fV r3 r1.len.aZ (m':={md with held:=md.held.set (sp p (word ws 1)) (md.boxes.length+1),aZ:=md.aZ.set (sp p (word ws 1)) 119}) rfl rfl (v:=2) b3 (by decide);rw[List.set_set]at this;exact lU this rfl rfl
theorem SU (h:At q p text ak f s o m l ws)(aw:l.op=15):fM q ak f s o l (m.aR f p ak ws):=by
 have hk:=h.lk;have hn:l.places.length=1:=by rw[hk.cP,aw];rfl
 have hw:word ws 0=[100,114,111,112]:=by rw[hk.op,aw];rfl
 have hd:m.aR f p ak ws=m.drop p (word ws 1):=by unfold RM.aR;simp[hw,yp,yr,yq,sA,qn]
 obtain⟨e0,f0,p0⟩:=hk.pl 0 (by omega);have aK:=(gH h.ln (j:=0) (by omega)).1;have cf:=h.cf;have qu:¬q.bA (ah l 0).1=0:=pJ (by have:=eT h.ln.fits (j:=0) (by omega);rw[aw]at this;exact this);obtain⟨r1,r2,r3⟩:=Ro.drop h.both f0 p0 (by rw[<-e0];omega) (by rw[<-e0];exact qu) h.ro h.WW h.bits;rw[<-e0]at r1 r3;unfold fM;rw[ja (by omega),ja (by omega),ja (by omega),ja (by omega),hd];refine⟨?_,r2.trans h.out,?_⟩
 ·unfold Own.fy;rw[ja (by omega),ja (by omega),ja (by omega),ja (by omega),ja (by omega),ja (by omega),ja (by omega),jb (by omega)];exact r1
 ·unfold bj cF;rw[ja (by rw[aw];decide),ja (by omega),ja (by omega),jb aw,ja (by omega),ja (by omega)];exact r3
theorem SX (h:At q p text ak f s o m l ws)(aw:l.op=13):fM q ak f s o l (m.aR f p ak ws):=by
 have hk:=h.lk;have hn:l.places.length=1:=by rw[hk.cP,aw];rfl
 obtain⟨i,i1,i2,i3,i4,i5,i6,i7⟩:=ER h.ln hk h.cf (j:=0) (by omega) (by rw[aw];rfl);have hw:word ws 0=[110,111,110,101]:=by rw[hk.op,aw];rfl
 have hd:m.aR f p ak ws=m.none f p ws:=by unfold RM.aR;simp[hw,yp,yr,yq,sA,qn]
 obtain⟨e0,f0,p0⟩:=hk.pl 0 (by omega);have cf:=h.cf;obtain⟨r1,r2,r3⟩:=Ro.drop h.both f0 p0 (by rw[<-e0,i2];exact i1) (by rw[<-e0,i2,i5];decide) h.ro h.WW h.bits;rw[<-e0]at r1 r3;have qu:¬q.bA (2*i/2)=0:=by rw[show 2*i/2=i by omega,i5];decide
 unfold fM;rw[ja (by omega),ja (by omega),ja (by omega),ja (by omega),hd];unfold RM.none;simp only;rw[jb h.owns,show sp p (word ws 1)=2*i from i4];refine⟨?_,r2.trans h.out,?_⟩
 ·unfold Own.fy;rw[ja (by omega),ja (by omega),ja (by omega),ja (by omega),ja (by omega),ja (by omega),ja (by omega),jb (by omega)];have h1:=r1.clear (x:=ah l 0) (k:=2*i) (ch:=110) i6 (by decide);have e:(o.drop (QP.ab q (ah l 0))).clear (ah l 0)=o.drop (QP.ab q (ah l 0)):=by
   unfold Own.clear;have hz:=Bal.drop_zero (QP.ab q (ah l 0)) o (k:=ag (ah l 0)) (.inl (by rw[i7];simp));have:(o.drop (QP.ab q (ah l 0))).boxes.set (ag (ah l 0)) 0=(o.drop (QP.ab q (ah l 0))).boxes:=by
    apply List.ext_getElem?
    intro n;rw[jd];split
    ·rename_i e;subst e;rw[jA]at hz;split
     ·rename_i aK;rw[jB aK]at hz⊢;simp at hz;rw[hz]
     ·rename_i aK;rw[jG (by omega)]
    ·rfl
   rw[this]
  rw[e]at h1;exact h1
 ·unfold bj cF;rw[ja (by rw[aw];decide),ja (by omega),jb aw,ja (by omega),ja (by omega)];rw[i7]at r3;have e1:dB [ah l 0] s=s.set (2*i) (if(ah l 0).2=3 then 8 else 1):=by show s.set (ag (ah l 0)) _=_;rw[i6]
  have e2:gR 4 [l.places.getD 0 (0,0)] s=s.set (2*i) 4:=by show s.set (ag (ah l 0)) _=_;rw[i6]
  rw[e1]at r3;rw[e2];have:=fV r3 r1.len.aZ (m':={m.drop p (word ws 1)with aZ:=(m.drop p (word ws 1)).aZ.set (2*i) 110}) rfl rfl (v:=4) qu (by decide);rw[List.set_set]at this;exact this
end
end Sim
namespace Sim
open Go Sq Aux Go.Proofs.YtmlgajhhnojdjaaGreatDoor.Own Mac RefRa RunA RunB PrjS FlwA FlwB FlwC FlwD FlwE FlwG FlwH FlwJ FlwM FlwS FlwU FlwV FlwW FlwX FlwT
section
variable {q:QP} {ak:List Int} {z:Int} {o:Own.Own} {m m':RM} {s:List Nat} {p:RP} {text:B} {l:aa} {ws:List B} {f:Fx}
theorem x6 (w:B):¬Aj (dj w)&&&(if(p.pj w).2=3 then 8 else 1)=0:=by
 rw[Ba];by_cases e:partOf w=115
 ·rw[jb e,jb (show(p.pj w).2=3 from fw.2 e)];decide
 ·rw[ja e,ja (show¬(p.pj w).2=3 from fun x=>e (fw.1 x))];decide
theorem Ih (h:At q p text ak f s o m l ws)(hn:l.places.length=2)(a1:QP.ab q (ah l 1)=[ah l 1])(a0:QP.ab q (ah l 0)=[ah l 0])(t0:¬q.bA (ah l 0).1=0)(t1:¬q.bA (ah l 1).1=0){v:Nat}{ch:UInt8}(hch:ch=m.aZ.getD (sp p (word ws 2)) 0)(hv:¬Aj ch&&&v=0):
  (p.aj (word ws 2)).2=1/\∃md:RM,md=(m.db (dj (word ws 2)) (sp p (word ws 2)) 1).drop p (word ws 1)/\md.out=0/\md.aZ.length=24/\Ro q ak 0 (o.move [ah l 0] [ah l 1]) {md with held:=md.held.set (sp p (word ws 1)) (m.held.getD (sp p (word ws 2)) 0),aZ:=md.aZ.set (sp p (word ws 1)) ch}/\
   iN q ((dB [ah l 1] s).set (sp p (word ws 1)) v) {md with held:=md.held.set (sp p (word ws 1)) (m.held.getD (sp p (word ws 2)) 0),aZ:=md.aZ.set (sp p (word ws 1)) ch}:=by
 obtain⟨e0,f0,p0⟩:=h.lk.pl 0 (by omega);obtain⟨e1,f1,p1⟩:=h.lk.pl 1 (by omega);have cf:=h.cf;have g0:=(gH h.ln (j:=0) (by omega)).1;have g1:=(gH h.ln (j:=1) (by omega)).1;have s0:ag (ah l 0)=sp p (word ws 1):=by rw[e0,lO]
 have s1:ag (ah l 1)=sp p (word ws 2):=by rw[e1,lO]
 have k0:=dA (ah l 0);have k1:=dA (ah l 1);have l0:ag (ah l 0)<24:=ie (by omega);have l1:ag (ah l 1)<24:=ie (by omega);rw[s0]at k0 l0;rw[s1]at k1 l1;have tN:=(yj h.both f1 p1).1;rw[<-e1,a1]at tN;refine⟨tN,_,rfl,?_⟩;have oC:=h.ro.clear (x:=ah l 1) (k:=sp p (word ws 2)) (ch:=dj (word ws 2)) s1 (vM _);have av:=Bal.rX h.WW (p:=ah l 1) (by rw[s1];exact l1);have lu:iN q (dB [ah l 1] s) {m with aZ:=m.aZ.set (sp p (word ws 2)) (dj (word ws 2))}:=by
  show iN q (s.set (ag (ah l 1)) _) _
  rw[s1];refine fV h.bits h.ro.len.aZ rfl rfl (by rw[k1];exact t1) ?_;rw[e1];exact x6 _
 have zm:m.db (dj (word ws 2)) (sp p (word ws 2)) 1={m with aZ:=m.aZ.set (sp p (word ws 2)) (dj (word ws 2))}:=rfl;rw[zm];obtain⟨r1,r2,r3⟩:=Ro.drop h.both f0 p0 (by rw[<-e0];omega) (by rw[<-e0];exact t0) oC av lu;rw[<-e0,a0]at r1 r3;generalize RM.drop p {m with aZ:=m.aZ.set (sp p (word ws 2)) (dj (word ws 2))} (word ws 1)=md at*;have ke:o.box (ah l 1)=if ch=119 then m.held.getD (sp p (word ws 2)) 0 else 0:=by
  rw[Own.box,s1,h.ro.boxes _ l1,k1,ja t1,hch]
 refine⟨r2.trans h.out,r1.len.aZ,?_,?_⟩
 ·show Ro q ak 0 (((o.clear (ah l 1)).drop [ah l 0]).sy (ah l 0) (o.box (ah l 1))) _
  exact r1.put s0 l0 (by rw[k0];exact t0) ke (fun e=>h.ro.pos _ l1 (by rw[<-hch];exact e))
 ·have e:dB [ah l 0] (dB [ah l 1] s)=(dB [ah l 1] s).set (sp p (word ws 1)) (if(ah l 0).2=3 then 8 else 1):=by show(dB [ah l 1] s).set (ag (ah l 0)) _=_;rw[s0]
  rw[e]at r3;have:=fV r3 r1.len.aZ (m':={md with held:=md.held.set (sp p (word ws 1)) (m.held.getD (sp p (word ws 2)) 0),aZ:=md.aZ.set (sp p (word ws 1)) ch}) rfl rfl (v:=v) (by rw[k0];exact t0) hv;rw[List.set_set]at this;exact this
theorem SY (h:At q p text ak f s o m l ws)(aw:l.op=14):fM q ak f s o l (m.aR f p ak ws):=by
 have hk:=h.lk;have hn:l.places.length=2:=by rw[hk.cP,aw];rfl
 obtain⟨i,i1,i2,i3,i4,i5,i6,i7⟩:=ER h.ln hk h.cf (j:=0) (by omega) (by rw[aw];rfl);obtain⟨b1,b2,b3,b4⟩:=zF h.ln hk h.cf (j:=1) (by omega) (by rw[aw];rfl);have hw:word ws 0=qn:=by rw[hk.op,aw];rfl
 have hd:m.aR f p ak ws=m.owned p ws:=by unfold RM.aR;simp[hw,yp,yr,yq,sA,qn,h.owns]
 have kY:=h.fault;unfold aL at kY;rw[ja (by omega),ja (by omega),ja (by omega),jb (by omega)]at kY;have kM:=oJ h.fit b2 b3 (by rw[<-b1];exact qY kY);obtain⟨hh,-⟩:=h.ro.full b2 kM;have eh:=dA (ah l 1);rw[b1]at eh;obtain⟨tN,md,U0,o1,o2,o3,o4⟩:=Ih h hn b4 i7 (by rw[i2,i5];decide) (by rw[<-eh];exact b3) (v:=2) (ch:=119) hh.symm (by decide);have gC:m.owned p ws={md with held:=md.held.set (sp p (word ws 1)) (m.held.getD (sp p (word ws 2)) 0),aZ:=md.aZ.set (sp p (word ws 1)) 119}:=by
  unfold RM.owned;simp only;rw[jb hw,tN,<-U0];simp only[RM.cT,Nat.add_zero,List.set_set]
 unfold fM;rw[ja (by omega),ja (by omega),ja (by omega),ja (by omega),hd,gC];refine⟨?_,o1,?_⟩
 ·unfold Own.fy;rw[ja (by omega),ja (by omega),ja (by omega),ja (by omega),ja (by omega),ja (by omega),jb (by omega),i7,b4];exact o3
 ·unfold bj cF;rw[jb (by rw[aw];rfl),ja (by omega),jb aw];show iN q ((dB [ah l 1] s).set (ag (ah l 0)) 2) _
  rw[show ag (ah l 0)=sp p (word ws 1)from by rw[i6];exact i4.symm];exact o4
theorem Ig (hl:kH q l)(hk:Lk p ws l)(aw:l.op=12):q.br (ah l 0)=q.br (ah l 1)/\¬q.bA (ah l 0).1=0/\¬q.bA (ah l 1).1=0:=by
 have hn:l.places.length=2:=by rw[hk.cP,aw];rfl
 have mq:=hl.fits;unfold QP.fits at mq;rw[jH]at mq;have h2:=mq.2;rw[aw]at h2;refine⟨by simpa [ah]using h2,pJ ?_,pJ ?_⟩
 ·have:=eT hl.fits (j:=0) (by omega);rw[aw]at this;exact this
 ·have:=eT hl.fits (j:=1) (by omega);rw[aw]at this;exact this
theorem SW (h:At q p text ak f s o m l ws)(aw:l.op=12):fM q ak f s o l (m.aR f p ak ws):=by
 have hk:=h.lk;have hn:l.places.length=2:=by rw[hk.cP,aw];rfl
 obtain⟨k1,t0,t1⟩:=Ig h.ln hk aw;have q0:=gH h.ln (j:=0) (by omega);have q1:=gH h.ln (j:=1) (by omega);have cf:=h.cf;have hlen:=GD k1 q0.2 q1.2;have hw:word ws 0=[109,111,118,101]:=by rw[hk.op,aw];rfl
 have hns:¬word ws 0=qn:=by rw[hw];decide
 have hd:m.aR f p ak ws=m.owned p ws:=by unfold RM.aR;simp[hw,yp,yr,yq,sA,qn,h.owns]
 have kY:=h.fault;unfold aL at kY;rw[ja (by omega),ja (by omega),ja (by omega),ja (by omega),ja (by omega),jb aw,Bool.or_eq_false_iff]at kY;have iq:gT q (ah l 1) s=false:=kY.1;obtain⟨e0,f0,p0⟩:=hk.pl 0 (by omega);obtain⟨e1,f1,p1⟩:=hk.pl 1 (by omega);have s0:ag (ah l 0)=sp p (word ws 1):=by rw[e0,lO]
 have s1:ag (ah l 1)=sp p (word ws 2):=by rw[e1,lO]
 have kh0:=dA (ah l 0);have kh1:=dA (ah l 1);have l0:ag (ah l 0)<24:=ie (by omega);have l1:ag (ah l 1)<24:=ie (by omega);rw[s1]at kh1 l1;rw[s0]at kh0 l0;have hdo:o.fy q l=o.move (QP.ab q (ah l 0)) (QP.ab q (ah l 1)):=by
  unfold Own.fy;rw[ja (by omega),ja (by omega),ja (by omega),ja (by omega),ja (by omega),ja (by omega),jb (by omega)]
 have hpass:bj q l s=gR (dm q (ah l 1) s) (QP.ab q (ah l 0)) (dB (QP.ab q (ah l 1)) s):=by
  unfold bj cF;rw[ja (by rw[aw];decide),jb aw,jb aw];rfl
 unfold fM;rw[ja (by omega),ja (by omega),ja (by omega),ja (by omega),hd,hdo,hpass];rcases bH q (ah l 1)with⟨a1,-⟩|⟨a1,a2,a3⟩
 ·have a0:QP.ab q (ah l 0)=[ah l 0]:=by
   rcases bH q (ah l 0)with⟨a0,-⟩|⟨a0,-⟩
   ·exact a0
   ·rw[a0,a1]at hlen;simp at hlen
  have hv:¬Aj (m.aZ.getD (sp p (word ws 2)) 0)&&&dm q (ah l 1) s=0:=by
   unfold dm;unfold gT at iq;by_cases e3:q.br (ah l 1)=3
   ·rw[jb e3,s1];have:=h.bits.2 _ l1;unfold s8 at this;rw[kh1,ja t1]at this;exact this
   ·rw[ja e3]at iq⊢;have kM:=oJ h.fit l1 (by rw[kh1];exact t1) (by rw[<-s1];rw[a1]at iq;exact qY iq);rw[(h.ro.full l1 kM).1];decide
  obtain⟨tN,md,U0,o1,o2,o3,o4⟩:=Ih h hn a1 a0 t0 t1 (v:=dm q (ah l 1) s) rfl hv;have gC:m.owned p ws={md with held:=md.held.set (sp p (word ws 1)) (m.held.getD (sp p (word ws 2)) 0),aZ:=md.aZ.set (sp p (word ws 1)) (m.aZ.getD (sp p (word ws 2)) 0)}:=by
   unfold RM.owned;simp only;rw[ja hns,tN,<-U0];simp only[RM.cT,Nat.add_zero]
  rw[gC,a0,a1];refine⟨o3,o1,?_⟩;show iN q ((dB [ah l 1] s).set (ag (ah l 0)) _) _
  rw[s0];exact o4
 ·have a0:QP.ab q (ah l 0)=[((ah l 0).1,1),((ah l 0).1,2)]/\(ah l 0).2=0:=by
   rcases bH q (ah l 0)with⟨a0,-⟩|⟨a0,b2,b3⟩
   ·rw[a0,a1]at hlen;simp at hlen
   ·exact⟨a0,b2⟩
  have tN:=(yj h.both f1 p1).1;rw[<-e1,a1]at tN;have hsp2:(p.aj (word ws 2)).2=2:=tN;have v3:¬q.br (ah l 1)=3:=by unfold QP.br;rw[ja (by omega),a3];decide
  unfold gT at iq;rw[ja v3,a1]at iq;obtain⟨y1,y2⟩:=Ld iq;have hmv:dm q (ah l 1) s=2:=by unfold dm;rw[ja v3]
  have ss1:sp p (word ws 2)=2*(ah l 1).1:=by rw[<-s1];unfold ag;rw[ja (by omega)]
  have ss0:sp p (word ws 1)=2*(ah l 0).1:=by rw[<-s0];unfold ag;rw[ja (by omega)]
  have hlf:dj (word ws 2)=45:=by
   unfold dj;rw[ja];intro e;have:(p.pj (word ws 2)).2=3:=fw.2 e;rw[<-e1]at this;omega
  have sa:∀c:Nat,ag (c,1)=2*c/\ag (c,2)=2*c+1:=fun c=>⟨by simp[ag],by simp[ag]⟩
  have tt:∀{c:Nat},¬q.bA c=0->¬q.bA (2*c/2)=0/\¬q.bA ((2*c+1)/2)=0:=fun{c} hc=>⟨by rw[show 2*c/2=c by omega];exact hc,by rw[show(2*c+1)/2=c by omega];exact hc⟩
  have g0:=q0.1;have g1:=q1.1;obtain⟨x1,x2⟩:=tt t1;obtain⟨u1,u2⟩:=tt t0;have oC:=h.ro.clear (x:=((ah l 1).1,1)) (k:=2*(ah l 1).1) (ch:=45) (sa _).1 (by decide);have av:=Bal.rX h.WW (p:=((ah l 1).1,1)) (by rw[(sa _).1];omega);have lu:=fV h.bits h.ro.len.aZ (m':={m with aZ:=m.aZ.set (2*(ah l 1).1) 45}) rfl rfl (v:=1) x1 (by decide);have Kp:=oC.clear (x:=((ah l 1).1,2)) (k:=2*(ah l 1).1+1) (ch:=45) (sa _).2 (by decide);have bT:=Bal.rX av (p:=((ah l 1).1,2)) (by rw[(sa _).2];omega);have ml:=fV lu oC.len.aZ (m':={m with aZ:=(m.aZ.set (2*(ah l 1).1) 45).set (2*(ah l 1).1+1) 45}) rfl rfl (v:=1) x2 (by decide);obtain⟨r1,r2,r3⟩:=Ro.drop h.both f0 p0 (by rw[<-e0];omega) (by rw[<-e0];exact t0) Kp bT ml;rw[<-e0,a0.1]at r1 r3;have zm:m.db (dj (word ws 2)) (sp p (word ws 2)) 2={m with aZ:=(m.aZ.set (2*(ah l 1).1) 45).set (2*(ah l 1).1+1) 45}:=by rw[hlf,ss1];rfl
  have hfa1:=oJ h.fit (k:=2*(ah l 1).1) (by omega) x1 (by rw[<-(sa _).1];exact y1);have Rs:=oJ h.fit (k:=2*(ah l 1).1+1) (by omega) x2 (by rw[<-(sa _).2];exact y2);obtain⟨w1,w2⟩:=h.ro.full (by omega) hfa1;obtain⟨w3,w4⟩:=h.ro.full (by omega) Rs;have U0:∃md,RM.drop p {m with aZ:=(m.aZ.set (2*(ah l 1).1) 45).set (2*(ah l 1).1+1) 45} (word ws 1)=md:=⟨_,rfl⟩;obtain⟨md,U0⟩:=U0;rw[U0]at r1 r2 r3;have gC:m.owned p ws={md with held:=(md.held.set (2*(ah l 0).1) (m.held.getD (2*(ah l 1).1) 0)).set (2*(ah l 0).1+1) (m.held.getD (2*(ah l 1).1+1) 0),aZ:=(md.aZ.set (2*(ah l 0).1) 119).set (2*(ah l 0).1+1) 119}:=by
   unfold RM.owned;simp only;rw[ja hns,hsp2,zm,U0,ss0,ss1];simp only[RM.cT,Nat.add_zero];rw[w1,w3]
  rw[gC,a0.1,a1,hmv];have h1:=r1.put (x:=((ah l 0).1,1)) (k:=2*(ah l 0).1) (n:=o.boxes.getD (2*(ah l 1).1) 0) (hd:=m.held.getD (2*(ah l 1).1) 0) (ch:=119) (sa _).1 (by omega) u1 (by rw[jb rfl];exact w2) (fun _=>by omega);have h2:=h1.put (x:=((ah l 0).1,2)) (k:=2*(ah l 0).1+1) (n:=o.boxes.getD (2*(ah l 1).1+1) 0) (hd:=m.held.getD (2*(ah l 1).1+1) 0) (ch:=119) (sa _).2 (by omega) u2 (by rw[jb rfl];exact w4) (fun _=>by omega);refine⟨?_,r2.trans h.out,?_⟩
  ·have em:o.move [((ah l 0).1,1),((ah l 0).1,2)] [((ah l 1).1,1),((ah l 1).1,2)]=((((o.clear ((ah l 1).1,1)).clear ((ah l 1).1,2)).drop [((ah l 0).1,1),((ah l 0).1,2)]).sy ((ah l 0).1,1) (o.boxes.getD (2*(ah l 1).1) 0)).sy ((ah l 0).1,2) (o.boxes.getD (2*(ah l 1).1+1) 0):=by
    have eb1:o.box ((ah l 1).1,1)=o.boxes.getD (2*(ah l 1).1) 0:=by rw[Own.box,(sa _).1]
    have eb2:(o.clear ((ah l 1).1,1)).box ((ah l 1).1,2)=o.boxes.getD (2*(ah l 1).1+1) 0:=by
     show(o.boxes.set (ag ((ah l 1).1,1)) 0).getD (ag ((ah l 1).1,2)) 0=_
     rw[(sa _).1,(sa _).2,cI,ja (by omega)]
    rw[<-eb1,<-eb2];rfl
   rw[em];exact h2
  ·show iN q (((((s.set (ag ((ah l 1).1,1)) 1).set (ag ((ah l 1).1,2)) 1)).set (ag ((ah l 0).1,1)) 2).set (ag ((ah l 0).1,2)) 2) _
   have e3:dB [((ah l 0).1,1),((ah l 0).1,2)] ((s.set (2*(ah l 1).1) 1).set (2*(ah l 1).1+1) 1)=(((s.set (2*(ah l 1).1) 1).set (2*(ah l 1).1+1) 1).set (2*(ah l 0).1) 1).set (2*(ah l 0).1+1) 1:=by
    show((((s.set (2*(ah l 1).1) 1).set (2*(ah l 1).1+1) 1)).set (ag ((ah l 0).1,1)) 1).set (ag ((ah l 0).1,2)) 1=_
    rw[(sa _).1,(sa _).2]
   rw[e3]at r3;rw[(sa _).1,(sa _).2,(sa _).1,(sa _).2];generalize ((s.set (2*(ah l 1).1) 1).set (2*(ah l 1).1+1) 1)=s2 at*;have b1:=fV r3 r1.len.aZ (m':={md with aZ:=md.aZ.set (2*(ah l 0).1) 119}) rfl rfl (v:=2) u1 (by decide);have b2:=fV b1 (by simpa using r1.len.aZ) (m':={md with aZ:=(md.aZ.set (2*(ah l 0).1) 119).set (2*(ah l 0).1+1) 119}) rfl rfl (v:=2) u2 (by decide);have e4:((((s2.set (2*(ah l 0).1) 1).set (2*(ah l 0).1+1) 1).set (2*(ah l 0).1) 2).set (2*(ah l 0).1+1) 2)=(s2.set (2*(ah l 0).1) 2).set (2*(ah l 0).1+1) 2:=by
    rw[List.set_comm _ _ (show 2*(ah l 0).1+1≠2*(ah l 0).1 by omega),List.set_set,List.set_set]
   rw[e4]at b2;exact lU b2 rfl rfl
end
end Sim
end Go.Proofs.YtmlgajhhnojdjaaGreatDoor

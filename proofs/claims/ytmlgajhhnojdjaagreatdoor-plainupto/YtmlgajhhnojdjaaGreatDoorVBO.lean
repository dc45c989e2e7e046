import Derived.Test.YtmlgajhhnojdjaaGreatDoorVBN
namespace Go.Proofs.YtmlgajhhnojdjaaGreatDoor
namespace El
open Go Sq Aux RefRa PrjS RunA Go.Proofs.YtmlgajhhnojdjaaGreatDoor.Own RunB FlwA FlwB FlwD FlwE FlwG
structure RL (q:QP)(nb:Nat)(l:ab):Prop where
 told:Told q.locals nb l
 fits:q.fits l=true
 has:fK true l.op=true
section
variable {q:QP} {nb:Nat} {l:ab} {x:Nat×Nat}
theorem iB.more {nl nb n:Nat}{l:ab}(h:iB nl nb l)(hn:nb<=n):iB nl n l:=
 ⟨h.op,h.PA,h.places,h.cP,fun k hk=>jK (h.next k hk) hn,h.pI,h.flag,h.number⟩
theorem RL.more {n:Nat}(h:RL q nb l)(hn:nb<=n):RL q n l:=
 ⟨⟨iB.more h.told.ok hn,h.told.flag,h.told.value,h.told.whole,h.told.IW,h.told.yN⟩,h.fits,h.has⟩
theorem RL.free (h1:x.1<q.locals.length)(h2:x.2<=3)(hk:q.kind x=some 1):RL q nb (ji x):=by
 refine⟨⟨⟨(by decide:16<23),(by decide:2<=16),fun y hy=>by rw[jI.1 hy];exact⟨h1,h2⟩,rfl,fun n hn=>(by cases hn),rfl,⟨by show(0:Int)<=0;omega,by show(0:Int)<=_;omega⟩,⟨by show _<=(0:Int);omega,by show(0:Int)<=_;omega⟩⟩,by show(0:Int)<50;omega,fun h=>absurd h (by show¬(118:UInt8)∈ae 16;decide),⟨fun h=>absurd h (by decide),trivial⟩,fun _=>rfl,fun _=>rfl⟩,?_,rfl⟩;have:q.aZ x 112=true:=by unfold QP.aZ;rw[hk];rfl
 show(((q.aZ x 112&&true)&&(true||_)))=true
 rw[this];rfl
theorem RL.yg {k:Nat}{v:Int}(hk:k<24)(hv:v=0\/v=1):RL q nb (dB k v):=by
 refine⟨⟨⟨(by decide:17<23),(by decide:2<=17),fun y hy=>(by cases hy),rfl,fun n hn=>(by cases hn),rfl,⟨by show(0:Int)<=(k:Int);omega,by show(k:Int)<=_;omega⟩,⟨by show _<=v;omega,by show v<=_;omega⟩⟩,by show(k:Int)<50;omega,fun _=>hv,trivial,fun h=>absurd h (by show¬(ae 17).any _=false;decide),fun h=>absurd h (by show¬(ae 17).any _=false;decide)⟩,rfl,rfl⟩
theorem RL.test {k i j:Nat}(hk:k<24)(hi:i<nb)(hj:j<nb):RL q nb {y5 k with next:=[i,j]}:=by
 refine⟨⟨⟨(by decide:21<23),(by decide:2<=21),fun y hy=>(by cases hy),rfl,fun n hn=> ?_,rfl,⟨by show(0:Int)<=(k:Int);omega,by show(k:Int)<=_;omega⟩,⟨by show _<=(0:Int);omega,by show(0:Int)<=_;omega⟩⟩,by show(k:Int)<50;omega,fun h=>absurd h (by show¬(118:UInt8)∈ae 21;decide),trivial,fun _=>rfl,fun h=>absurd h (by show¬(ae 21).any _=false;decide)⟩,rfl,rfl⟩;have:n=i\/n=j:=by simpa using hn
 omega
theorem RL.LI {i j:Nat}(h1:x.1<q.locals.length)(h2:x.2=0)(h3:q.cF x.1=3)(hi:i<nb)(hj:j<nb):RL q nb {mG x with next:=[i,j]}:=by
 refine⟨⟨⟨(by decide:20<23),(by decide:2<=20),fun y hy=>by rw[jI.1 hy];exact⟨h1,by omega⟩,rfl,fun n hn=> ?_,rfl,⟨by show(0:Int)<=0;omega,by show(0:Int)<=_;omega⟩,⟨by show _<=(0:Int);omega,by show(0:Int)<=_;omega⟩⟩,by show(0:Int)<50;omega,fun h=>absurd h (by show¬(118:UInt8)∈ae 20;decide),⟨fun _=>h2,trivial⟩,fun _=>rfl,fun _=>rfl⟩,?_,rfl⟩
 ·have:n=i\/n=j:=by simpa using hn
  omega
 ·have:q.aZ x 111=true:=by unfold QP.aZ QP.kind;rw[ja (by omega),ja (by omega),h3];rfl
  show(((q.aZ x 111&&true)&&(true||_)))=true
  rw[this];rfl
theorem RL.Hu {b:Nat}(hb:b<nb):RL q nb (dC b):=by
 refine⟨⟨⟨(by decide:18<23),(by decide:2<=18),fun y hy=>(by cases hy),rfl,fun n hn=>by rw[jI.1 hn];exact hb,rfl,⟨by show(0:Int)<=0;omega,by show(0:Int)<=_;omega⟩,⟨by show _<=(0:Int);omega,by show(0:Int)<=_;omega⟩⟩,by show(0:Int)<50;omega,fun h=>absurd h (by show¬(118:UInt8)∈ae 18;decide),trivial,fun _=>rfl,fun _=>rfl⟩,rfl,rfl⟩
structure SL (q:QP)(nb:Nat)(l:ab):Prop where
 ok:iB q.locals.length nb l
 has:fK false l.op=true
 fits:q.fits l=true
 whole:fA (ae l.op) l.places
 IW:(ae l.op).any (fun c=>c==35||c==118)=false->l.number=0
 yN:(ae l.op).any (·==102)=false->l.flag=0
theorem Eh:∀op:Fin 23,fK false op.val=true->(ae op.val).any (·==102)=false/\¬(118:UInt8)∈ae op.val:=by decide
theorem L3:∀op:Fin 23,fK false op.val=true->¬op.val=15->fK true op.val=true:=by decide
theorem SL.flag (h:SL q nb l):l.flag=0:=h.yN (Eh ⟨l.op,h.ok.op⟩ h.has).1
theorem RL.src (h:SL q nb l)(lz:¬l.op=15):RL q nb l:=
 ⟨⟨h.ok,by rw[h.flag];omega,fun hv=>absurd hv (Eh ⟨l.op,h.ok.op⟩ h.has).2,h.whole,h.IW,h.yN⟩,h.fits,L3 ⟨l.op,h.ok.op⟩ h.has lz⟩
theorem ss (ht:q.cF x.1<=3)(h3:x.2<=3)(hk:¬q.kind x=none):(∀y∈bR q x,y.1=x.1/\y.2<=3/\q.kind y=some 1)/\(bR q x).length<=2:=by
 unfold bR;split
 ·exact⟨fun y hy=>(by cases hy),by simp⟩
 ·rename_i hk0;split
  ·rename_i NX;have hx:=(tG NX).1;refine⟨fun y hy=> ?_,by simp⟩;rw[jI.1 hy];exact⟨rfl,by show 3<=3;omega,by unfold QP.kind;rw[ja (by simp),jb rfl,jb hx]⟩
  ·rename_i NX;unfold QP.ai;split
   ·rename_i hp;refine⟨fun y hy=> ?_,by simp⟩;simp only[List.mem_cons,List.not_mem_nil,or_false]at hy;rcases hy with rfl|rfl
    ·exact⟨rfl,by show 1<=3;omega,by unfold QP.kind;rw[jb (.inl rfl),jb hp.2]⟩
    ·exact⟨rfl,by show 2<=3;omega,by unfold QP.kind;rw[jb (.inr rfl),jb hp.2]⟩
   ·rename_i hp;refine⟨fun y hy=> ?_,by simp⟩;rw[jI.1 hy];refine⟨rfl,h3,?_⟩;unfold QP.aT at hk0 NX;unfold QP.kind at hk⊢;by_cases cV:x.2=1\/x.2=2
    ·rw[jb cV]at hk⊢;split
     ·rfl
     ·rename_i hh;rw[ja hh]at hk;exact absurd rfl hk
    ·rw[ja cV]at hk⊢;by_cases Pw:x.2=3
     ·rw[jb Pw]at hk⊢;split
      ·rfl
      ·rename_i hh;rw[ja hh]at hk;exact absurd rfl hk
     ·rw[ja Pw];rw[ja (by omega)]at hk0 NX;have:q.cF x.1=1:=by omega
      rw[this]
theorem DB (ht:∀i,q.cF i<=3):∀n,(∀y∈gV q n,y.1<n/\y.2<=3/\q.kind y=some 1)/\(gV q n).length<=2*n
 |0=>⟨fun y hy=>(by cases hy),by simp[gV]⟩
 |n+1=>by
  have h0:=ss (q:=q) (x:=(n,0)) (ht n) (by show 0<=3;omega) (by unfold QP.kind;rw[ja (by simp),ja (by simp)];simp);have h1:=DB ht n;rw[gV];refine⟨fun y hy=> ?_,by rw[jV];have:=h0.2;have:=h1.2;omega⟩;rcases List.mem_append.1 hy with h|h
  ·obtain⟨a,b,c⟩:=h0.1 y h;exact⟨by rw[a];show n<n+1;omega,b,c⟩
  ·obtain⟨a,b,c⟩:=h1.1 y h;exact⟨by omega,b,c⟩
theorem sF (h:SL q nb l)(aH:l.op=9\/l.op=12\/l.op=13\/l.op=14\/l.op=15):(aw l 0).1<q.locals.length/\(aw l 0).2<=3/\¬q.kind (aw l 0)=none:=by
 have hlen:1<=l.places.length:=by
  rw[h.ok.cP];have key:∀op:Fin 23,(op.val=9\/op.val=12\/op.val=13\/op.val=14\/op.val=15)->1<=((ae op.val).filter eg).length:=by decide
  exact key ⟨l.op,h.ok.op⟩ aH
 have hf:=h.fits;have dL:=h.ok.places;unfold aw;cases hp:l.places with
 |nil=>rw[hp]at hlen;simp at hlen
 |cons y ps=>
  unfold QP.fits at hf;rw[hp]at hf dL;rw[jH,QP.cQ,jH]at hf;have hk:=hf.1.1;have:=dL y (jM ..);refine⟨this.1,this.2,fun hn=> ?_⟩;unfold QP.aZ at hk;have DV:q.kind y=none:=hn;rw[DV]at hk;cases hk
theorem zS (ht:∀i,q.cF i<=3)(h:SL q nb l):(∀y∈bf q l,y.1<q.locals.length/\y.2<=3/\q.kind y=some 1)/\(l.op<18->(bf q l).length<=2)/\(bf q l).length<=2*q.locals.length:=by
 unfold bf;split
 ·rename_i aH;obtain⟨h1,h2,h3⟩:=sF h aH;have hb:=ss (ht _) h2 h3;refine⟨fun y hy=> ?_,fun _=>hb.2,by have:=hb.2;omega⟩;obtain⟨a,b,c⟩:=hb.1 y hy;exact⟨by rw[a];exact h1,b,c⟩
 ·split
  ·rename_i B9;have ha:=DB ht q.locals.length;exact⟨ha.1,fun iN=>by omega,ha.2⟩
  ·exact⟨fun y hy=>(by cases hy),fun _=>by simp,by simp⟩
def G1 (q:QP)(nb:Nat):Item->Prop
 | .line l=>RL q nb l/\l.op<18
 | .fork t sd=>(∀i j n,nb<=n->i<n->j<n->RL q n {t with next:=[i,j]})/\18<=t.op/\∀m∈sd,RL q nb m/\m.op<18
def vf:Item->Nat
 | .line _=>1
 | .fork _ sd=>4+sd.length
def bF (is:List Item):Nat:=(is.map vf).sum
theorem fW (is js:List Item):bF (is++js)=bF is+bF js:=by unfold bF;rw[List.map_append,List.sum_append]
theorem iW (cV:q.locals.length<=12)(hx:x.1<q.locals.length):ah x<24:=by unfold ah;split<;>omega
theorem sJ (cV:q.locals.length<=12)(s:List Nat):∀ps:List (Nat×Nat),(∀y∈ps,y.1<q.locals.length/\y.2<=3/\q.kind y=some 1)->(∀i∈aN s ps,G1 q nb i)/\bF (aN s ps)<=5*ps.length
 |[],_=>⟨fun i hi=>(by cases hi),by simp[aN,bF]⟩
 |y::ps,h=>by
  obtain⟨h1,h2,h3⟩:=h y (jM ..);have ih:=sJ cV s ps (fun z hz=>h z (jN _ hz));have e:aN s (y::ps)=cd (s.getD (ah y) 0) y++aN s ps:=rfl;have hf:∀n,RL q n (ji y):=fun n=>RL.free h1 h2 h3
  have one:(∀i∈cd (s.getD (ah y) 0) y,G1 q nb i)/\bF (cd (s.getD (ah y) 0) y)<=5:=by
   unfold cd;split
   ·refine⟨fun i hi=> ?_,by simp[bF,vf]⟩;rw[jI.1 hi];refine⟨fun i j n hn hi hj=>RL.test (iW cV h1) hi hj,by show 18<=21;omega,fun m hm=> ?_⟩;rw[jI.1 hm];exact⟨hf nb,by show 16<18;omega⟩
   ·split
    ·refine⟨fun i hi=> ?_,by simp[bF,vf]⟩;rw[jI.1 hi];exact⟨hf nb,by show 16<18;omega⟩
    ·exact⟨fun i hi=>(by cases hi),by simp[bF]⟩
  rw[e,fW];refine⟨fun i hi=>(List.mem_append.1 hi).elim (one.1 i) (ih.1 i),?_⟩;have:=one.2;have:=ih.2;rw[jY];omega
theorem EI (u:Bool)(was Ix:Nat){k:Nat}(hk:k<24):(∀i∈dw u was Ix k,G1 q nb i)/\bF (dw u was Ix k)<=(if Ix=was then 0 else 1):=by
 unfold dw;split
 ·exact⟨fun i hi=>(by cases hi),by simp[bF]⟩
 ·split
  ·rename_i h1;refine⟨fun i hi=> ?_,?_⟩
   ·rw[jI.1 hi];exact⟨RL.yg hk (.inr rfl),by show 17<18;omega⟩
   ·rw[ja (fun e=>h1.2 (by omega))];simp[bF,vf]
  ·split
   ·rename_i h1;refine⟨fun i hi=> ?_,?_⟩
    ·rw[jI.1 hi];exact⟨RL.yg hk (.inl rfl),by show 17<18;omega⟩
    ·rw[ja (fun e=>h1.2 (by rw[<-e];exact h1.1))];simp[bF,vf]
   ·exact⟨fun i hi=>(by cases hi),by simp[bF]⟩
theorem zI (n:Nat):∀P:List Nat,n∈P->(P.filter (·<n)).length+1<=(P.filter (·<n+1)).length
 |[],h=>by cases h
 |y::P,h=>by
  have mono:∀P:List Nat,(P.filter (·<n)).length<=(P.filter (·<n+1)).length:=fun P=>by
   induction P with
   |nil=>simp
   |cons a P ih=>
    rw[List.filter_cons,List.filter_cons];by_cases h1:a<n
    ·simp only[h1,decide_true,if_true,show a<n+1 by omega,List.length_cons];omega
    ·simp only[h1,decide_false,Bool.false_eq_true,if_false];split<;>(try simp only[List.length_cons])<;>omega
  rw[List.filter_cons,List.filter_cons];by_cases e:y=n
  ·subst e;have:=mono P;simp only[show¬y<y by omega,decide_false,Bool.false_eq_true,if_false,show y<y+1 by omega,decide_true,if_true,List.length_cons];omega
  ·have ih:=zI n P ((jP.1 h).resolve_left (fun e'=>e e'.symm));by_cases h1:y<n
   ·simp only[h1,decide_true,if_true,show y<n+1 by omega,List.length_cons];omega
   ·simp only[h1,decide_false,Bool.false_eq_true,if_false];split<;>(try simp only[List.length_cons])<;>omega
theorem zH (n:Nat):∀P:List Nat,(P.filter (·<n)).length<=(P.filter (·<n+1)).length
 |[]=>by simp
 |a::P=>by
  have ih:=zH n P;rw[List.filter_cons,List.filter_cons];by_cases h1:a<n
  ·simp only[h1,decide_true,if_true,show a<n+1 by omega,List.length_cons];omega
  ·simp only[h1,decide_false,Bool.false_eq_true,if_false];split<;>(try simp only[List.length_cons])<;>omega
theorem xu (un:List Bool)(s t P:List Nat)(hP:∀k,¬k∈P->t.getD k 0=s.getD k 0):∀n,n<=24->(∀i∈aY un s t n,G1 q nb i)/\bF (aY un s t n)<=(P.filter (·<n)).length
 |0,_=>⟨fun i hi=>(by simp[aY]at hi),by simp[aY,bF]⟩
 |n+1,hn=>by
  have ih:=xu un s t P hP n (by omega);have e:aY un s t (n+1)=aY un s t n++dw (un.getD n false) (s.getD n 0) (t.getD n 0) n:=by simp[aY,List.range_succ]
  have one:=EI (q:=q) (nb:=nb) (un.getD n false) (s.getD n 0) (t.getD n 0) (k:=n) (by omega);rw[e,fW];refine⟨fun i hi=>(List.mem_append.1 hi).elim (ih.1 i) (one.1 i),?_⟩;by_cases hm:n∈P
  ·have:=zI n P hm;have h1:=one.2;have:bF (dw (un.getD n false) (s.getD n 0) (t.getD n 0) n)<=1:=jS h1 (by split<;>omega);have:=ih.2;omega
  ·have h1:=one.2;rw[jb (hP n hm)]at h1;have:=zH n P;have:=ih.2;omega
theorem qB:∀(ps:List (Nat×Nat)) (s:List Nat) (k:Nat),¬k∈ps.map ah->(dz ps s).getD k 0=s.getD k 0
 |[],_,_,_=>rfl
 |y::ps,s,k,h=>by
  rw[List.map_cons,jP,not_or]at h;show(dz ps (s.set (ah y) _)).getD k 0=_
  rw[qB ps _ k h.2,qf,ja (fun e=>h.1 e.1.symm)]
theorem tL {m:Nat}{ps:List (Nat×Nat)}{s:List Nat}{k:Nat}(h:¬k∈ps.map ah):(eO m ps s).getD k 0=s.getD k 0:=by rw[yS,ja (fun e=>h e.1)]
theorem oD (q:QP)(x:Nat×Nat):(QP.ai q x).length<=2:=by unfold QP.ai;split<;>simp
def EB (q:QP)(l:ab):List Nat:=(QP.ai q (aw l 0)).map ah++(zU q l).map ah
theorem I6 (q:QP)(l:ab)(s:List Nat)(k:Nat)(h:¬k∈EB q l):(au q l s).getD k 0=s.getD k 0:=by
 unfold EB at h;rw[List.mem_append,not_or]at h;have ht:(aR q l s).getD k 0=s.getD k 0:=by rw[tU];exact qB _ _ _ h.2
 have h1:¬k∈[aw l 0].map ah:=fun e=>by
  rw[List.map_cons,List.map_nil,jI]at e;exact h.1 (by rw[e];exact q9 q (aw l 0))
 unfold au;split
 ·exact(tL h1).trans ht
 ·split
  ·exact(tL h.1).trans ht
  ·split
   ·exact(tL h1).trans ht
   ·split
    ·exact(qB _ _ _ h.1).trans ht
    ·exact ht
theorem DJ (q:QP)(l:ab):(zU q l).length<=2:=by
 unfold zU;split
 ·exact oD q _
 ·split<;>simp
theorem FG (cV:q.locals.length<=12)(ht:∀i,q.cF i<=3)(h:SL q nb l)(un:List Bool)(s:List Nat)(hs:s.length=24)(aH:l.op=12):
  (∀i∈bw un (au q l s) (aw l 0),G1 q nb i)/\bF (bw un (au q l s) (aw l 0))+5*(bf q l).length+(EB q l).length<=14:=by
 obtain⟨h1,h2,h3⟩:=sF h (by omega);have gO:=iW cV h1;have K9:bf q l=bR q (aw l 0):=by unfold bf;rw[jb (by omega)]
 have SP:q.aT (aw l 0)=q.aT (aw l 1):=by
  have:=h.fits;unfold QP.fits at this;rw[jH,aH]at this;have h4:(!((12:Nat)==12)||q.aT (l.places.getD 0 (0,0))==q.aT (l.places.getD 1 (0,0)))=true:=this.2;rw[Bool.or_eq_true]at h4;rcases h4 with h|h
  ·exact absurd h (by decide)
  ·exact beq_iff_eq.1 h
 by_cases hk:q.aT (aw l 1)=3
 ·obtain⟨e1,e2⟩:=tF hk;obtain⟨e3,e4⟩:=tF (SP.trans hk);obtain⟨e5,e6⟩:=tG (SP.trans hk);have hb:(bR q (aw l 0)).length=1:=by
   unfold bR;rw[ja (by rw[SP,hk];omega),jb (SP.trans hk)];rfl
  have hc:(EB q l).length=2:=by
   unfold EB zU;rw[jb aH,e3,e1];rfl
  rw[K9,hb,hc];unfold bw;split
  ·refine⟨fun i hi=> ?_,by simp[bF,vf]⟩;simp only[List.mem_cons,List.not_mem_nil,or_false]at hi;rcases hi with rfl|rfl
   ·exact⟨RL.yg gO (.inr rfl),by show 17<18;omega⟩
   ·refine⟨fun i j n hn hi hj=>RL.LI h1 (by omega) e5 hi hj,by show 18<=20;omega,fun m hm=> ?_⟩;rw[jI.1 hm];exact⟨RL.yg gO (.inl rfl),by show 17<18;omega⟩
  ·exact⟨fun i hi=>(by cases hi),by simp[bF]⟩
 ·have hm:bw un (au q l s) (aw l 0)=[]:=by
   unfold bw;rw[ja];rintro⟨-,hu⟩;rw[AW aH hk (by omega)]at hu
   revert hu;decide
  rw[hm];refine⟨fun i hi=>(by cases hi),?_⟩;have hb:=(ss (ht _) h2 h3).2;have hc:(EB q l).length<=4:=by
   unfold EB;rw[jV,jc,jc];have:=oD q (aw l 0);have:=DJ q l;omega
  rw[K9];simp only[bF,List.map_nil,List.sum_nil];omega
theorem IL (cV:q.locals.length<=12)(ht:∀i,q.cF i<=3)(h:SL q nb l)(iN:l.op<18)(un:List Bool)(s:List Nat)(hs:s.length=24):
  (∀i∈bo q un s l,G1 q nb i)/\bF (bo q un s l)<=15:=by
 obtain⟨f1,f2,-⟩:=zS ht h;have hf:=sJ (nb:=nb) cV (aR q l s) (bf q l) f1;have yo:=xu (q:=q) (nb:=nb) un s (au q l s) (EB q l) (fun k hk=>I6 q l s k hk) 24 (jC _);have hle:((EB q l).filter (·<24)).length<=(EB q l).length:=List.length_filter_le ..;have hc:(EB q l).length<=4:=by
  unfold EB;rw[jV,jc,jc];have:=oD q (aw l 0);have:=DJ q l;omega
 have h2:(∀i∈(if l.op=15 then []else [Item.line l]),G1 q nb i)/\bF (if l.op=15 then []else [Item.line l])<=1:=by
  split
  ·exact⟨fun i hi=>(by cases hi),by simp[bF]⟩
  ·rename_i lz;exact⟨fun i hi=>by rw[jI.1 hi];exact⟨RL.src h lz,iN⟩,by simp[bF,vf]⟩
 have h3:(∀i∈(if l.op=12 then bw un (au q l s) (aw l 0)else []),G1 q nb i)/\bF (if l.op=12 then bw un (au q l s) (aw l 0)else [])+5*(bf q l).length+(EB q l).length<=14:=by
  split
  ·rename_i aH;exact FG cV ht h un s hs aH
  ·refine⟨fun i hi=>(by cases hi),?_⟩;have:=f2 iN;simp only[bF,List.map_nil,List.sum_nil];omega
 unfold bo;rw[fW,fW,fW];refine⟨fun i hi=> ?_,?_⟩
 ·rcases List.mem_append.1 hi with h|h
  ·exact hf.1 i h
  ·rcases List.mem_append.1 h with h|h
   ·exact h2.1 i h
   ·rcases List.mem_append.1 h with h|h
    ·exact yo.1 i h
    ·exact h3.1 i h
 ·have:=hf.2;have:=h2.2;have:=yo.2;have:=h3.2;omega
theorem I5 (q:QP)(l:ab)(s:List Nat):(au q l s).length=s.length:=by
 unfold au
 repeat (first|(split;(first|exact(Bf _ _ _).trans (mJ q l s)|exact(mI _ _).trans (mJ q l s)))|exact mJ q l s|split)
theorem xj (cV:q.locals.length<=12)(ht:∀i,q.cF i<=3)(un:List Bool){e:ab}(he:SL q nb e)(iN:18<=e.op):∀(ls:List ab) (s:List Nat),s.length=24->(∀m∈ls,SL q nb m/\m.op<18)->
  ∃is,bg q un (ls++[e]) s=is++[.line e]/\(∀i∈is,G1 q nb i)/\bF is<=15*ls.length+10*q.locals.length
 |[],s,_,_=>by
  obtain⟨f1,-,f3⟩:=zS ht he;have hf:=sJ (nb:=nb) cV s (bf q e) f1;refine⟨aN s (bf q e),?_,hf.1,by have:=hf.2;simp only[List.length_nil];omega⟩;show bo q un s e++[]=_
  rw[Df iN]
 |l::ls,s,hs,hl=>by
  obtain⟨k1,k2⟩:=hl l (jM ..);have one:=IL cV ht k1 k2 un s hs;obtain⟨is,i1,i2,i3⟩:=xj cV ht un he iN ls (au q l s) ((I5 q l s).trans hs) (fun m hm=>hl m (jN _ hm));refine⟨bo q un s l++is,?_,fun i hi=>(List.mem_append.1 hi).elim (one.1 i) (i2 i),?_⟩
  ·show bo q un s l++bg q un (ls++[e]) (au q l s)=_
   rw[i1,List.append_assoc]
  ·rw[fW,jY];have:=one.2;omega
end
end El
namespace El
open Go Sq Aux RefRa PrjS RunA Go.Proofs.YtmlgajhhnojdjaaGreatDoor.Own RunB FlwA FlwB FlwD FlwE FlwG
structure BP (q:QP)(n:Nat)(m:Mk):Prop where
 at_:m.at_<m.blocks.length
 len:q.blocks.length<=m.blocks.length
 side:m.at_=n\/q.blocks.length<=m.at_
 Wz:n<q.blocks.length
 lines:∀k,∀l∈m.blocks.getD k [],RL q m.blocks.length l
 kp:∀l∈m.blocks.getD m.at_ [],l.op<18
 rest:∀k,k<m.blocks.length->¬k=m.at_->(n<k/\k<q.blocks.length)\/Whole (m.blocks.getD k [])
 emp:∀k,n<k->k<q.blocks.length->m.blocks.getD k []=[]
structure ze (q:QP)(n:Nat)(m:Mk):Prop where
 len:q.blocks.length<=m.blocks.length
 lines:∀k,∀l∈m.blocks.getD k [],RL q m.blocks.length l
 rest:∀k,k<m.blocks.length->(n<=k/\k<q.blocks.length)\/Whole (m.blocks.getD k [])
 emp:∀k,n<=k->k<q.blocks.length->m.blocks.getD k []=[]
def Mk.total (m:Mk):Nat:=m.blocks.length+m.blocks.flatten.length
theorem xT:∀(L:List (List ab)) (k:Nat) (y:List ab),k<L.length->(L.set k y).flatten.length+(L.getD k []).length=L.flatten.length+y.length
 |[],_,_,h=>by cases h
 |a::L,0,y,_=>by
  show(y::L).flatten.length+a.length=(a::L).flatten.length+y.length
  rw[List.flatten_cons,List.flatten_cons,jV,jV];omega
 |a::L,k+1,y,h=>by
  have ih:=xT L k y (by simpa using h);show(a::L.set k y).flatten.length+(L.getD k []).length=(a::L).flatten.length+y.length
  rw[List.flatten_cons,List.flatten_cons,jV,jV];omega
theorem kd (m:Mk)(ls:List ab)(h:m.at_<m.blocks.length):(m.put ls).total=m.total+ls.length:=by
 have:=xT m.blocks m.at_ (m.blocks.getD m.at_ []++ls) h;unfold Mk.total;rw[dV];unfold Mk.put;simp only;rw[jV]at this;omega
theorem B4 (m:Mk)(t:ab)(sd:List ab)(h:m.at_<m.blocks.length):(m.fork t sd).total=m.total+(4+sd.length):=by
 have h0:(⟨m.blocks++[[],[]],m.at_⟩:Mk).total=m.total+2:=by
  show(m.blocks++[[],[]]).length+(m.blocks++[[],[]]).flatten.length=m.blocks.length+m.blocks.flatten.length+2
  simp only[List.length_append,List.length_cons,List.length_nil,List.flatten_append,List.flatten_cons,List.flatten_nil];omega
 have h1:=kd (⟨m.blocks++[[],[]],m.at_⟩:Mk) [{t with next:=[m.blocks.length,m.blocks.length+1]}] (by show m.at_<(m.blocks++[[],[]]).length;rw[jV];omega);have h2:=kd (⟨((⟨m.blocks++[[],[]],m.at_⟩:Mk).put [{t with next:=[m.blocks.length,m.blocks.length+1]}]).blocks,m.blocks.length⟩:Mk) (sd++[dC (m.blocks.length+1)]) (by rw[dV];show m.blocks.length<(m.blocks++[[],[]]).length;rw[jV];simp);have e1:(m.fork t sd).total=((⟨((⟨m.blocks++[[],[]],m.at_⟩:Mk).put [{t with next:=[m.blocks.length,m.blocks.length+1]}]).blocks,m.blocks.length⟩:Mk).put (sd++[dC (m.blocks.length+1)])).total:=rfl;have e2:(⟨((⟨m.blocks++[[],[]],m.at_⟩:Mk).put [{t with next:=[m.blocks.length,m.blocks.length+1]}]).blocks,m.blocks.length⟩:Mk).total=((⟨m.blocks++[[],[]],m.at_⟩:Mk).put [{t with next:=[m.blocks.length,m.blocks.length+1]}]).total:=rfl;rw[e1,h2,e2,h1,h0,jV];simp only[List.length_cons,List.length_nil];omega
section
variable {q:QP} {n:Nat} {m:Mk}
theorem BP.line (h:BP q n m){l:ab}(hl:RL q q.blocks.length l)(iN:l.op<18):BP q n (m.put [l]):=by
 have hp:=jq m [l] h.at_;have hn:=dV m [l];have ha:(m.put [l]).at_=m.at_:=rfl;refine⟨by rw[hn,ha];exact h.at_,by rw[hn];exact h.len,by rw[ha];exact h.side,h.Wz,fun k x hx=> ?_,fun x hx=> ?_,fun k hk c8=> ?_,fun k h1 h2=> ?_⟩
 ·rw[hn];rw[hp]at hx;split at hx
  ·rcases List.mem_append.1 hx with hx|hx
   ·exact h.lines k x hx
   ·rw[jI.1 hx];exact hl.more h.len
  ·exact h.lines k x hx
 ·rw[ha,hp,jb rfl]at hx;rcases List.mem_append.1 hx with hx|hx
  ·exact h.kp x hx
  ·rw[jI.1 hx];exact iN
 ·rw[hn]at hk;rw[ha]at c8;rw[hp,ja c8];exact h.rest k hk c8
 ·rw[hp,ja (by have:=h.side;omega)];exact h.emp k h1 h2
theorem BP.close (h:BP q n m){l:ab}(hl:RL q q.blocks.length l)(iN:18<=l.op):ze q (n+1) (m.put [l]):=by
 have hp:=jq m [l] h.at_;have hn:=dV m [l];refine⟨by rw[hn];exact h.len,fun k x hx=> ?_,fun k hk=> ?_,fun k h1 h2=> ?_⟩
 ·rw[hn];rw[hp]at hx;split at hx
  ·rcases List.mem_append.1 hx with hx|hx
   ·exact h.lines k x hx
   ·rw[jI.1 hx];exact hl.more h.len
  ·exact h.lines k x hx
 ·rw[hn]at hk;by_cases e:k=m.at_
  ·right;rw[hp,jb e];exact⟨m.blocks.getD k [],l,rfl,iN,fun x hx=>h.kp x (by rw[<-e];exact hx)⟩
  ·rw[hp,ja e];exact(h.rest k hk e).imp (fun x=>⟨by omega,x.2⟩) id
 ·rw[hp,ja (by have:=h.side;omega)];exact h.emp k (by omega) h2
theorem BP.fork (h:BP q n m){t:ab}{sd:List ab}(hi:G1 q q.blocks.length (.fork t sd)):BP q n (m.fork t sd):=by
 have hp:=my m t sd h.at_;have hn:=lN m t sd;have ha:(m.fork t sd).at_=m.blocks.length+1:=rfl;have km:=h.at_;have hlen:=h.len;have Wn:=h.side;obtain⟨i1,i2,i3⟩:=hi;refine⟨by rw[hn,ha];omega,by rw[hn];omega,by rw[ha];right;omega,h.Wz,fun k x hx=> ?_,fun x hx=> ?_,fun k hk c8=> ?_,fun k h1 h2=> ?_⟩
 ·rw[hn];rw[hp]at hx;split at hx
  ·rcases List.mem_append.1 hx with hx|hx
   ·exact(h.lines k x hx).more (by omega)
   ·rw[jI.1 hx];exact i1 _ _ _ (by omega) (by omega) (by omega)
  ·split at hx
   ·rcases List.mem_append.1 hx with hx|hx
    ·exact(i3 x hx).1.more (by omega)
    ·rw[jI.1 hx];exact RL.Hu (by omega)
   ·exact(h.lines k x hx).more (by omega)
 ·rw[ha,hp,ja (by omega),ja (by omega),jA,jG (by omega)]at hx;cases hx
 ·rw[hn]at hk;rw[ha]at c8;rw[hp];split
  ·rename_i e;right;exact⟨m.blocks.getD k [],_,rfl,i2,fun x hx=>h.kp x (by rw[<-e];exact hx)⟩
  ·split
   ·right;exact⟨sd,_,rfl,by show 18<=18;omega,fun x hx=>(i3 x hx).2⟩
   ·rename_i e1 e2;exact h.rest k (by omega) e1
 ·rw[hp,ja (by omega),ja (by omega)];exact h.emp k h1 h2
theorem BP.items:∀(is:List Item) {m:Mk},BP q n m->(∀i∈is,G1 q q.blocks.length i)->BP q n (m.items is)/\(m.items is).total=m.total+bF is
 |[],m,h,_=>⟨h,by simp[Mk.items,bF]⟩
 | .line l::is,m,h,hi=>by
  have h1:=hi _ (jM ..);have ih:=BP.items is (h.line h1.1 h1.2) (fun i x=>hi i (jN _ x));refine⟨ih.1,ih.2.trans ?_⟩;rw[kd m [l] h.at_];show m.total+1+bF is=m.total+(1+bF is)
  omega
 | .fork t sd::is,m,h,hi=>by
  have h1:=hi _ (jM ..);have ih:=BP.items is (h.fork h1) (fun i x=>hi i (jN _ x));refine⟨ih.1,ih.2.trans ?_⟩;rw[B4 m t sd h.at_];show m.total+(4+sd.length)+bF is=m.total+((4+sd.length)+bF is)
  omega
theorem ze.opens (h:ze q n m)(hn:n<q.blocks.length):BP q n ⟨m.blocks,n⟩:=
 ⟨jK hn h.len,h.len,.inl rfl,hn,h.lines,fun l hl=>(by
  have:l∈m.blocks.getD n []:=hl;rw[h.emp n (jC _) hn]at this;cases this),
  fun k hk c8=>(h.rest k hk).imp (fun x=>⟨by have:¬k=n:=c8;omega,x.2⟩) id,fun k h1 h2=>h.emp k (by omega) h2⟩
end
structure Nb (q:QP):Prop where
 CE:q.locals.length<=12
 ty:∀i,q.cF i<=3
 whole:∀b,b<q.blocks.length->Whole (q.blocks.getD b [])
 lines:∀b,∀l∈q.blocks.getD b [],SL q q.blocks.length l
theorem xW (q:QP){b:Nat}(hb:b<q.blocks.length):(q.blocks.take (b+1)).flatten.length=(q.blocks.take b).flatten.length+(q.blocks.getD b []).length:=by
 have e:q.blocks.take (b+1)=q.blocks.take b++[q.blocks.getD b []]:=by
  rw[List.take_add_one,jB hb,jA,jB hb];rfl
 rw[e,List.flatten_append,jV,List.flatten_cons,List.flatten_nil,List.append_nil]
theorem xG {q:QP}(hq:Nb q)(E:List (List Nat))(hE:∀b,b<q.blocks.length->(E.getD b []).length=24)(un:List Bool):∀b,b<=q.blocks.length->
  ze q b (bA q E un b)/\(bA q E un b).total<=q.blocks.length+15*(q.blocks.take b).flatten.length+(10*q.locals.length)*b
 |0,_=>by
  have hr:∀k,(List.replicate q.blocks.length ([]:List ab)).getD k []=[]:=fun k=>by
   rw[jA,jO];split<;>rfl
  refine⟨⟨by show _<=(List.replicate q.blocks.length ([]:List ab)).length;rw[List.length_replicate];exact jC _,fun k l hl=> ?_,fun k hk=> ?_,fun k _ _=>hr k⟩,?_⟩
  ·have:l∈(List.replicate q.blocks.length ([]:List ab)).getD k []:=hl;rw[hr k]at this;cases this
  ·left;have:k<(List.replicate q.blocks.length ([]:List ab)).length:=hk;rw[List.length_replicate]at this;exact⟨jQ _,this⟩
  ·show(List.replicate q.blocks.length ([]:List ab)).length+(List.replicate q.blocks.length ([]:List ab)).flatten.length<=_
   rw[List.length_replicate,List.flatten_replicate_nil];simp
 |b+1,hb=>by
  obtain⟨ih1,ih2⟩:=xG hq E hE un b (by omega);have aH:=ih1.opens (by omega);have RH:(⟨(bA q E un b).blocks,b⟩:Mk).total=(bA q E un b).total:=rfl;obtain⟨ls,e,he,iN,dS⟩:=hq.whole b (by omega);have Ac:=xW q (b:=b) (by omega);have hmul:(10*q.locals.length)*(b+1)=(10*q.locals.length)*b+10*q.locals.length:=by rw[Nat.mul_succ]
  have hlen:(q.blocks.getD b []).length=ls.length+1:=by rw[he];simp
  show ze q (b+1) (iS q E un b (bA q E un b))/\(iS q E un b (bA q E un b)).total<=_
  unfold iS;split
  ·refine⟨aH.close (RL.Hu (by omega)) (by show 18<=18;omega),?_⟩;rw[kd _ _ aH.at_,RH];simp only[List.length_cons,List.length_nil];omega
  ·have gO:∀l∈q.blocks.getD b [],SL q q.blocks.length l:=hq.lines b;rw[he]at gO;obtain⟨is,i1,i2,i3⟩:=xj hq.CE hq.ty un (gO e (by simp)) iN ls (E.getD b []) (hE b (by omega)) (fun m hm=>⟨gO m (by simp[hm]),dS m hm⟩);rw[he,i1,fM];obtain⟨j1,j2⟩:=BP.items is aH i2;refine⟨j1.close (RL.src (gO e (by simp)) (by omega)) iN,?_⟩;show(((⟨(bA q E un b).blocks,b⟩:Mk).items is).put [e]).total<=_
   rw[kd _ _ j1.at_,j2,RH];simp only[List.length_cons,List.length_nil];omega
structure Mh (R:QP):Prop where
 whole:∀b,b<R.blocks.length->Whole (R.blocks.getD b [])
 lines:∀b,∀l∈R.blocks.getD b [],RL R R.blocks.length l
theorem mT {q R:QP}(h:R.locals=q.locals)(f:B):∀(ps:List (Nat×Nat)) (k:Nat),R.cQ f ps k=q.cQ f ps k
 |[],_=>rfl
 |x::ps,k=>by
  have h1:∀i,R.cF i=q.cF i:=fun i=>by unfold QP.cF;rw[h]
  have h2:R.aZ x (f.getD k 0)=q.aZ x (f.getD k 0):=by
   unfold QP.aZ QP.kind;rw[h1]
  rw[QP.cQ,QP.cQ,h2,mT h f ps (k+1)]
theorem zN {q R:QP}(h:R.locals=q.locals)(l:ab):R.fits l=q.fits l:=by
 have h1:∀i,R.cF i=q.cF i:=fun i=>by unfold QP.cF;rw[h]
 have h2:∀x,R.aT x=q.aT x:=fun x=>by unfold QP.aT;rw[h1]
 unfold QP.fits;rw[mT h,h2,h2]
theorem OA {q:QP}(hq:Nb q)(E:List (List Nat))(hE:∀b,b<q.blocks.length->(E.getD b []).length=24):Mh (lv q E)/\(lv q E).blocks.length+(lv q E).blocks.flatten.length<=q.blocks.length+15*q.blocks.flatten.length+(10*q.locals.length)*q.blocks.length:=by
 obtain⟨h1,h2⟩:=xG hq E hE (pb q E q.blocks.length) q.blocks.length (jC _);rw[List.take_length]at h2;refine⟨⟨fun b hb=>((h1.rest b hb).resolve_left fun x=>by omega),fun b l hl=> ?_⟩,h2⟩;have:=h1.lines b l hl;exact⟨this.told,by rw[zN (q:=q) (R:=lv q E) rfl l];exact this.fits,this.has⟩
end El
namespace El
theorem Sy:True:=trivial
end El
end Go.Proofs.YtmlgajhhnojdjaaGreatDoor

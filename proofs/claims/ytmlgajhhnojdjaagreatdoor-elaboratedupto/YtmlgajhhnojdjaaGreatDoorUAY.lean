import Derived.Test.YtmlgajhhnojdjaaGreatDoorUAX
namespace Go.Proofs.YtmlgajhhnojdjaaGreatDoor
namespace Ex
open Go Sq Aux Go.Proofs.YtmlgajhhnojdjaaGreatDoor.Own RunA RunB PrjS FlwA FlwE FlwS
structure GU (q:QP)(l:ab):Prop where
 ok:fY q.locals.length q.blocks.length l
 has:¬l.op=15
 fits:q.fits l=true
 flag:l.op=17\/l.op=21->0<=l.flag/\l.flag<50
structure Br.Fit (q:QP)(b:Br):Prop where
 len:b.cs.length=36
 bx:b.Bx q
 tg:∀i,i<12->q.bN i=3->b.cs.getD (24+i) (false,0)=(true,1)->(b.cs.getD (2*i) (false,0)).1=true
section
variable {q:QP} {b:Br} {l:ab} {p t f:Nat×Nat} {v:Int}
theorem jm (s:List (Bool×Int))(i:Nat)(y:Bool×Int)(k:Nat):(s.set i y).getD k (false,0)=if i=k/\k<s.length then y else s.getD k (false,0):=by
 rw[jA,jA,jd];by_cases e:i=k
 ·subst e;by_cases h:i<s.length
  ·simp[h]
  ·simp[h]
 ·simp[e]
theorem jh (h:bA q p=false):cellOf q p=ae p:=by unfold cellOf;rw[h];rfl
theorem l6 (h:bA q p=true):cellOf q p=24+p.1:=by unfold cellOf;rw[h];rfl
theorem ti (h:bA q p=true):q.bN p.1=3/\¬(p.2=1\/p.2=2\/p.2=3):=by
 unfold bA QP.aJ at h;split at h
 ·simp at h
 ·rename_i hn;exact⟨by simpa using h,hn⟩
theorem dU (q:QP)(i:Nat):bA q (i,3)=false:=by simp[bA,QP.aJ]
theorem gh (i:Nat):ae (i,3)=2*i:=by simp[ae]
theorem Br.Fit.write (h:b.Fit q)(hp:p.1<12)(hv:q.bN p.1=0\/(bA q p=true/\¬v=1)\/(bA q p=false/\1<=v/\v<=b.yd.made.length)):(b.write q p v).Fit q:=by
 have hlen:=h.len;refine⟨by simpa [Br.write]using hlen,fun k hk ht hf=> ?_,fun i hi h3 tX=> ?_⟩
 ·show 1<=((b.cs.set (cellOf q p) (true,v)).getD k (false,0)).2/\((b.cs.set (cellOf q p) (true,v)).getD k (false,0)).2<=b.yd.made.length
  have QQ:((b.cs.set (cellOf q p) (true,v)).getD k (false,0)).1=true:=hf;rw[jm]at QQ⊢;by_cases e:cellOf q p=k/\k<b.cs.length
  ·rw[jb e];rcases hv with h0|⟨h1,-⟩|⟨h1,h2⟩
   ·exfalso;by_cases Pj:bA q p=true
    ·have:=(ti Pj).1;omega
    ·rw[jh (by simpa using Pj)]at e;have:=bu p;rw[e.1]at this;rw[this]at ht;exact ht h0
   ·rw[l6 h1]at e;omega
   ·exact h2
  ·rw[ja e]at QQ⊢;exact h.bx k hk ht QQ
 ·have G8:(b.cs.set (cellOf q p) (true,v)).getD (24+i) (false,0)=(true,1):=tX;show((b.cs.set (cellOf q p) (true,v)).getD (2*i) (false,0)).1=true
  rw[jm]at G8⊢;by_cases e:cellOf q p=2*i/\2*i<b.cs.length
  ·rw[jb e]
  ·rw[ja e];by_cases e2:cellOf q p=24+i/\24+i<b.cs.length
   ·rw[jb e2]at G8;have NS:v=1:=by simpa using G8
    exfalso;rcases hv with h0|⟨h1,h2⟩|⟨h1,-⟩
    ·by_cases Pj:bA q p=true
     ·have:=(ti Pj).1;omega
     ·rw[jh (by simpa using Pj)]at e2;have:=iB hp;omega
    ·exact h2 NS
    ·rw[jh h1]at e2;have:=iB hp;omega
   ·rw[ja e2]at G8;exact h.tg i hi h3 G8
theorem Br.Fit.both (h:b.Fit q)(hp:p.1<12)(ht:bA q p=true)(u:Int)(hv:1<=v/\v<=b.yd.made.length):((b.write q p u).write q (p.1,3) v).Fit q:=by
 have hlen:=h.len;have e1:=l6 ht;have e2:cellOf q (p.1,3)=2*p.1:=by rw[jh (dU q p.1),gh]
 have key:∀k,((b.write q p u).write q (p.1,3) v).cs.getD k (false,0)=if 2*p.1=k then(true,v)else if 24+p.1=k then(true,u)else b.cs.getD k (false,0):=fun k=>by
  show((b.cs.set (cellOf q p) (true,u)).set (cellOf q (p.1,3)) (true,v)).getD k (false,0)=_
  rw[jm,jm,e1,e2,List.length_set,hlen];by_cases a1:2*p.1=k
  ·rw[jb ⟨a1,by omega⟩,jb a1]
  ·rw[ja (fun e=>a1 e.1),ja a1];by_cases a2:24+p.1=k
   ·rw[jb ⟨a2,by omega⟩,jb a2]
   ·rw[ja (fun e=>a2 e.1),ja a2]
 refine⟨by simpa [Br.write]using hlen,fun k hk ht hf=> ?_,fun i hi h3 tX=> ?_⟩
 ·rw[key]at hf⊢;by_cases a1:2*p.1=k
  ·rw[jb a1];exact hv
  ·rw[ja a1,ja (by omega)]at hf⊢;exact h.bx k hk ht hf
 ·rw[key]at tX⊢;by_cases a1:2*p.1=2*i
  ·rw[jb a1]
  ·rw[ja a1,ja (by omega)];rw[ja (by omega),ja (by omega)]at tX;exact h.tg i hi h3 tX
theorem LG {k:Nat}(_hp:cellOf q p<b.cs.length)(hf:(b.cs.getD k (false,0)).1=true):((b.write q p v).cs.getD k (false,0)).1=true:=by
 show((b.cs.set (cellOf q p) (true,v)).getD k (false,0)).1=true
 rw[jm];split
 ·rfl
 ·exact hf
theorem Br.Fit.val (h:b.Fit q)(hp:p.1<12)(ht:bA q p=false)(h0:¬q.bN p.1=0)(hf:(b.cell q p).1=true):1<=b.val q p/\b.val q p<=b.yd.made.length:=by
 unfold Br.val Br.cell at*;rw[jh ht]at hf⊢;exact h.bx (ae p) (iB hp) (by rw[bu];exact h0) hf
theorem yH (ts fs:List (Nat×Nat))(hl:ts.length=fs.length)(ht:∀y∈ts,y.1<12/\bA q y=false)(hf:∀y∈fs,y.1<12/\bA q y=false/\¬q.bN y.1=0/\(b.cell q y).1=true)(h:b.Fit q):
  ∀k,k<=fs.length->(Br.dS q ts fs k b).Fit q/\(Br.dS q ts fs k b).yd=b.yd/\∀j,(b.cs.getD j (false,0)).1=true->((Br.dS q ts fs k b).cs.getD j (false,0)).1=true
 |0,_=>⟨h,rfl,fun _ h=>h⟩
 |k+1,hk=>by
  obtain⟨h1,h2,h3⟩:=yH ts fs hl ht hf h k (by omega);have mt:ts.getD k (0,0)∈ts:=by rw[jA,jB (by omega)];exact jL _
  have mf:fs.getD k (0,0)∈fs:=by rw[jA,jB (by omega)];exact jL _
  obtain⟨t1,t2⟩:=ht _ mt;obtain⟨f1,f2,f3,f4⟩:=hf _ mf;have hv:=h1.val f1 f2 f3 (h3 _ f4);refine⟨h1.write t1 (.inr (.inr ⟨t2,hv⟩)),h2,fun j hj=>LG (by rw[h1.len];exact qm t1) (h3 j hj)⟩
theorem kM (h:bA q p=false):∀y∈QP.ai q p,bA q y=false/\y.1=p.1:=fun y hy=>by
 rcases bo q p with⟨e,-⟩|⟨e,-⟩<;>rw[e]at hy<;>simp at hy
 ·rw[hy];exact⟨h,rfl⟩
 ·rcases hy with rfl|rfl<;>exact⟨by simp[bA,QP.aJ],rfl⟩
theorem Br.Fit.move (h:b.Fit q)(ht:t.1<12)(hf:f.1<12)(hk:q.aJ t=q.aJ f)(h0:¬q.bN f.1=0)(hl:(QP.ai q t).length=(QP.ai q f).length)(hfull:∀y∈QP.ai q f,(b.cell q y).1=true):(b.move q t f).Fit q:=by
 have htf:bA q t=bA q f:=by unfold bA;rw[hk]
 unfold Br.move;cases hit:bA q f
 ·rw[ja (by simp)];refine(yH _ _ hl (fun y hy=> ?_) (fun y hy=> ?_) h _ (jC _)).1
  ·obtain⟨a1,a2⟩:=kM (htf.trans hit) y hy;exact⟨by omega,a1⟩
  ·obtain⟨a1,a2⟩:=kM hit y hy;exact⟨by omega,a1,by rw[a2];exact h0,hfull y hy⟩
 ·have RJ:=htf.trans hit;have ef:QP.ai q f=[f]:=by
   rcases bo q f with⟨e,-⟩|⟨-,-,e⟩
   ·exact e
   ·have:=(ti hit).1;omega
  have et:QP.ai q t=[t]:=by
   rcases bo q t with⟨e,-⟩|⟨-,-,e⟩
   ·exact e
   ·have:=(ti RJ).1;omega
  have em:b.fE q t f=b.write q t (b.val q f):=by unfold Br.fE;rw[ef,et];rfl
  have hff:(b.cell q f).1=true:=hfull f (by rw[ef];simp);have ev:(b.fE q t f).val q f=b.val q f:=by
   rw[em];show((b.cs.set (cellOf q t) (true,b.val q f)).getD (cellOf q f) (false,0)).2=_
   rw[jm];split
   ·rfl
   ·rfl
  by_cases h1:(b.fE q t f).val q f=1
  ·rw[jb ⟨rfl,h1⟩,em];have aG:b.val q f=1:=by rw[<-ev];exact h1
   have WR:(b.cs.getD (2*f.1) (false,0)).1=true:=h.tg f.1 hf (ti hit).1 (by
    unfold Br.val Br.cell at*;rw[l6 hit]at hff aG;exact Prod.ext hff aG)
   have Bc:1<=(b.cs.getD (2*f.1) (false,0)).2/\(b.cs.getD (2*f.1) (false,0)).2<=b.yd.made.length:=h.bx (2*f.1) (by omega) (by rw[show 2*f.1/2=f.1 by omega];exact h0) WR;have ec:(b.write q t (b.val q f)).val q (f.1,3)=(b.cs.getD (2*f.1) (false,0)).2:=by
    show((b.cs.set (cellOf q t) (true,b.val q f)).getD (cellOf q (f.1,3)) (false,0)).2=_
    rw[jh (dU q f.1),gh,l6 RJ,jm,ja (by omega)]
   rw[ec];exact h.both ht RJ _ Bc
  ·rw[ja (fun e=>h1 e.2),em];refine h.write ht (.inr (.inl ⟨RJ,?_⟩));rw[<-ev];exact h1
end
end Ex
namespace Ex
open Go Sq Aux Go.Proofs.YtmlgajhhnojdjaaGreatDoor.Own RunA RunB PrjS FlwA FlwE FlwS Bal
structure od (q:QP)(b:Br):Prop where
 fit:b.Fit q
 Lg:∃cs,eZ cs b.yd
section
variable {q:QP} {b:Br} {l:ab} {p:Nat×Nat}
theorem aV (hl:GU q l){j:Nat}(hj:j<l.places.length):(ag l j).1<q.locals.length/\(ag l j).2<=3:=
 hl.ok.places _ (by unfold ag;rw[jA,jB hj];exact jL _)
theorem lB {x:Nat×Nat}(h:q.aB x 112=true):bA q x=false:=by
 have:=(ei h).2.2;unfold bA;rw[this];rfl
theorem sV {x:Nat×Nat}(h:q.aB x 111=true)(h3:x.2<=3):bA q x=true:=by
 obtain⟨h1,h2⟩:=jn h h3;unfold bA QP.aJ;rw[ja (by omega),h1];rfl
theorem zP (h:b.dead q p=false):(b.cell q p).1=true/\(b.yd.at (b.val q p).toNat).2=true:=by
 unfold Br.dead at h;simpa using h
theorem Dw {cs:List Nat}{y:Yd}(h:eZ cs y){n:Nat}(hn:1<=n)(hl:(y.at n).2=true):n∈cs:=by
 have:=h.TK n hn;unfold xi at this;rw[jb hl]at this;exact List.count_pos_iff.1 (by omega)
theorem Oy {y:Yd}(h:∃cs,eZ cs y){n:Nat}(hn:1<=n)(hl:(y.at n).2=true):∃cs,eZ cs (y.free n):=by
 obtain⟨cs,h⟩:=h;have hm:=Dw h hn hl;refine⟨cs.erase n,eZ.free (h.congr fun k _=> ?_) hn⟩;rw[List.count_cons,List.count_erase];have:1<=cs.count n:=List.count_pos_iff.2 hm;by_cases e:n=k
 ·subst e;simp;omega
 ·have:(n==k)=false:=by simp;omega
  rw[this];simp
theorem od.qe (h:od q b){y:Yd}(hm:y.made.length=b.yd.made.length)(hy:∃cs,eZ cs y):od q {b with yd:=y}:=
 ⟨⟨h.fit.len,fun k hk ht hf=>by have:=h.fit.bx k hk ht hf;show _/\_<=(y.made.length:Int);rw[hm];exact this,h.fit.tg⟩,hy⟩
theorem Lv (h:b.empty q [p]=false):(b.cell q p).1=true:=by simpa [Br.empty]using h
theorem Lu {ps:List (Nat×Nat)}(h:b.empty q ps=false):∀y∈ps,(b.cell q y).1=true:=fun y hy=>by
 unfold Br.empty at h;have:=List.any_eq_false.1 h y hy;simpa using this
theorem tK (q:QP)(ts fs:List (Nat×Nat))(b:Br):∀k,(Br.dS q ts fs k b).yd=b.yd
 |0=>rfl
 |k+1=>tK q ts fs b k
theorem Dz (q:QP)(b:Br)(t f:Nat×Nat):(b.move q t f).yd=b.yd:=by
 unfold Br.move;split
 ·exact tK _ _ _ _ _
 ·exact tK _ _ _ _ _
theorem Og (q:QP)(b:Br)(l:ab):(b.cz q l).yd.made.length=b.yd.made.length:=by
 unfold Br.cz;split
 ·rfl
 split
 ·rfl
 split
 ·rfl
 split
 ·rfl
 split
 ·rfl
 split
 ·simp[Yd.store,Yd.note]
 split
 ·simp[Yd.free,Yd.note]
 split
 ·rw[Dz]
 split
 ·rfl
 split
 ·rfl
 split
 ·rfl
 ·rfl
theorem vj (bR:q.locals.length<=12)(hl:GU q l)(ak:l.op=2\/l.op=3\/l.op=4\/l.op=5\/l.op=7\/l.op=8\/l.op=10\/l.op=11\/l.op=16\/l.op=12\/l.op=13\/l.op=14\/l.op=17)(hb:b.breaks q l=false)(h:od q b):QX q b l/\od q (b.cz q l):=by
 have int0:l.op=2\/l.op=3\/l.op=4\/l.op=5\/l.op=7\/l.op=10->q.bN (ag l 0).1=0/\(ag l 0).1<12:=fun ho=>by
  have hlen:0<l.places.length:=by rcases ho with e|e|e|e|e|e<;>(rw[hl.ok.bt,e];decide)
  have k0:=bj hl.fits (j:=0) hlen;have hw:(ah l.op).getD 0 0=105:=by rcases ho with e|e|e|e|e|e<;>(rw[e];rfl)
  rw[hw]at k0;exact⟨sI k0,by have:=(aV hl hlen).1;omega⟩
 have hw:∀{b':Br} (v:Int),od q b'->(l.op=2\/l.op=3\/l.op=4\/l.op=5\/l.op=7\/l.op=10)->od q (b'.write q (ag l 0) v):=fun v h' ho=>⟨h'.fit.write (int0 ho).2 (.inl (int0 ho).1),h'.Lg⟩
 have zd:∀(a1:l.op=17->0<=l.flag/\l.flag<50) (a2:l.op=12->(QP.ai q (ag l 0)).length=(QP.ai q (ag l 1)).length) (a3:l.op=11\/l.op=16->1<=b.val q (ag l 0)/\b.val q (ag l 0)<=b.yd.made.length) (a4:l.op=10->1<=b.val q (ag l 1)/\b.val q (ag l 1)<=b.yd.made.length),QX q b l:=fun a1 a2 a3 a4=>⟨ak,a1,a2,a3,a4⟩
 unfold Br.cz;unfold Br.breaks at hb;rcases ak with e|e|e|e|e|e|e|e|e|e|e|e|e
 ·refine⟨zd (by omega) (by omega) (by omega) (by omega),?_⟩;rw[jb e];exact hw _ h (by omega)
 ·refine⟨zd (by omega) (by omega) (by omega) (by omega),?_⟩;rw[ja (by omega),jb (by omega)];exact hw _ h (by omega)
 ·refine⟨zd (by omega) (by omega) (by omega) (by omega),?_⟩;rw[ja (by omega),jb (by omega)];exact hw _ h (by omega)
 ·refine⟨zd (by omega) (by omega) (by omega) (by omega),?_⟩;rw[ja (by omega),jb (by omega)];exact hw _ h (by omega)
 ·refine⟨zd (by omega) (by omega) (by omega) (by omega),?_⟩;rw[ja (by omega),ja (by omega),jb (by omega)];exact hw _ (b':={b with aO:=b.aO.tail}) ⟨⟨h.fit.len,h.fit.bx,h.fit.tg⟩,h.Lg⟩ (by omega)
 ·refine⟨zd (by omega) (by omega) (by omega) (by omega),?_⟩;rw[ja (by omega),ja (by omega),ja (by omega),jb (by omega)];obtain⟨cs,hc⟩:=h.Lg;exact h.qe rfl ⟨cs,hc.out _⟩
 ·have hlen:l.places.length=2:=by rw[hl.ok.bt,e];rfl
  have k1:=bj hl.fits (j:=1) (by omega);rw[e]at k1;rw[ja (by omega),ja (by omega),ja (by omega),ja (by omega),jb e]at hb;obtain⟨d1,d2⟩:=zP hb;have p1:=(aV hl (j:=1) (by omega)).1;have hv:=h.fit.val (by omega) (lB (x:=ag l 1) k1) (ei (x:=ag l 1) k1).1 d1;refine⟨zd (by omega) (by omega) (by omega) (fun _=>hv),?_⟩;rw[ja (by omega),ja (by omega),ja (by omega),ja (by omega),jb (by omega)];obtain⟨cs,hc⟩:=h.Lg;exact hw _ (h.qe (y:=b.yd.load (b.val q (ag l 1)).toNat) rfl ⟨cs,hc.load (by omega) (Dw hc (by omega) d2)⟩) (by omega)
 ·have hlen:l.places.length=2:=by rw[hl.ok.bt,e];rfl
  have k0:=bj hl.fits (j:=0) (by omega);rw[e]at k0;rw[ja (by omega),ja (by omega),ja (by omega),ja (by omega),ja (by omega),jb e,Bool.or_eq_false_iff]at hb;obtain⟨d1,d2⟩:=zP hb.1;have p0:=(aV hl (j:=0) (by omega)).1;have hv:=h.fit.val (by omega) (lB (x:=ag l 0) k0) (ei (x:=ag l 0) k0).1 d1;refine⟨zd (by omega) (by omega) (fun _=>hv) (by omega),?_⟩;rw[ja (by omega),ja (by omega),ja (by omega),ja (by omega),ja (by omega),jb (by omega)];obtain⟨cs,hc⟩:=h.Lg;exact h.qe (by simp[Yd.store,Yd.note]) ⟨cs,hc.store (by omega) (Dw hc (by omega) d2) _⟩
 ·have hlen:l.places.length=1:=by rw[hl.ok.bt,e];rfl
  have k0:=bj hl.fits (j:=0) (by omega);rw[e]at k0;rw[ja (by omega),ja (by omega),ja (by omega),ja (by omega),ja (by omega),ja (by omega),jb e]at hb;obtain⟨d1,d2⟩:=zP hb;have p0:=(aV hl (j:=0) (by omega)).1;have hv:=h.fit.val (by omega) (lB (x:=ag l 0) k0) (ei (x:=ag l 0) k0).1 d1;refine⟨zd (by omega) (by omega) (fun _=>hv) (by omega),?_⟩;rw[ja (by omega),ja (by omega),ja (by omega),ja (by omega),ja (by omega),ja (by omega),jb (by omega)];exact h.qe (by simp[Yd.free,Yd.note]) (Oy h.Lg (by omega) d2)
 ·have hlen:l.places.length=2:=by rw[hl.ok.bt,e];rfl
  have k0:=bj hl.fits (j:=0) (by omega);have k1:=bj hl.fits (j:=1) (by omega);rw[e]at k0 k1;have LY:=qo hl.fits e;have p0:=aV hl (j:=0) (by omega);have p1:=aV hl (j:=1) (by omega);have G5:(QP.ai q (ag l 0)).length=(QP.ai q (ag l 1)).length:=by
   rcases bo q (ag l 0)with⟨a1,a2⟩|⟨a1,a2,a3⟩<;>rcases bo q (ag l 1)with⟨c1,c2⟩|⟨c1,c2,c3⟩<;>rw[a1,c1]
   ·rfl
   ·exfalso;unfold QP.aJ at LY;rw[ja (show¬((ag l 1).2=1\/(ag l 1).2=2\/(ag l 1).2=3) by omega)]at LY;by_cases hp:(ag l 0).2=1\/(ag l 0).2=2\/(ag l 0).2=3
    ·rw[jb hp]at LY;omega
    ·rw[ja hp]at LY;exact a2 ⟨by omega,by omega⟩
   ·exfalso;unfold QP.aJ at LY;rw[ja (show¬((ag l 0).2=1\/(ag l 0).2=2\/(ag l 0).2=3) by omega)]at LY;by_cases hp:(ag l 1).2=1\/(ag l 1).2=2\/(ag l 1).2=3
    ·rw[jb hp]at LY;omega
    ·rw[ja hp]at LY;exact c2 ⟨by omega,by omega⟩
   ·rfl
  rw[ja (by omega),ja (by omega),ja (by omega),jb e]at hb;refine⟨zd (by omega) (fun _=>G5) (by omega) (by omega),?_⟩;rw[ja (by omega),ja (by omega),ja (by omega),ja (by omega),ja (by omega),ja (by omega),ja (by omega),jb (by omega)];refine⟨h.fit.move (by omega) (by omega) LY (fQ (x:=ag l 1) k1) G5 (Lu hb),?_⟩;rw[Dz];exact h.Lg
 ·have hlen:l.places.length=1:=by rw[hl.ok.bt,e];rfl
  have k0:=bj hl.fits (j:=0) (by omega);rw[e]at k0;have p0:=aV hl (j:=0) (by omega);refine⟨zd (by omega) (by omega) (by omega) (by omega),?_⟩;rw[ja (by omega),ja (by omega),ja (by omega),ja (by omega),ja (by omega),ja (by omega),ja (by omega),ja (by omega),jb (by omega)];exact⟨h.fit.write (by omega) (.inr (.inl ⟨sV (x:=ag l 0) k0 p0.2,by decide⟩)),h.Lg⟩
 ·have hlen:l.places.length=2:=by rw[hl.ok.bt,e];rfl
  have k0:=bj hl.fits (j:=0) (by omega);have k1:=bj hl.fits (j:=1) (by omega);rw[e]at k0 k1;have p0:=aV hl (j:=0) (by omega);have p1:=aV hl (j:=1) (by omega);rw[ja (by omega),ja (by omega),jb (by omega)]at hb;have J8:=Lv hb;have qM:=sV (x:=ag l 0) k0 p0.2;have VP:=lB (x:=ag l 1) k1;have hv:=h.fit.val (by omega) VP (ei (x:=ag l 1) k1).1 J8;refine⟨zd (by omega) (by omega) (by omega) (by omega),?_⟩;rw[ja (by omega),ja (by omega),ja (by omega),ja (by omega),ja (by omega),ja (by omega),ja (by omega),ja (by omega),ja (by omega),jb (by omega)];have ev:(b.write q (ag l 0) 1).val q (ag l 1)=b.val q (ag l 1):=by
   show((b.cs.set (cellOf q (ag l 0)) (true,1)).getD (cellOf q (ag l 1)) (false,0)).2=_
   have:=iB (x:=ag l 1) (by omega);rw[jm,ja (by rw[l6 qM,jh VP];omega)];rfl
  rw[ev];exact⟨h.fit.both (by omega) qM 1 hv,h.Lg⟩
 ·refine⟨zd (fun _=>hl.flag (.inl e)) (by omega) (by omega) (by omega),?_⟩;rw[ja (by omega),ja (by omega),ja (by omega),ja (by omega),ja (by omega),ja (by omega),ja (by omega),ja (by omega),ja (by omega),ja (by omega),jb (by omega)];exact⟨⟨h.fit.len,h.fit.bx,h.fit.tg⟩,h.Lg⟩
theorem tI (bR:q.locals.length<=12)(hl:GU q l)(ak:l.op=6)(h:od q b):od q (b.calc q l):=by
 have hlen:l.places.length=3:=by rw[hl.ok.bt,ak];rfl
 have k0:=bj hl.fits (j:=0) (by omega);rw[ak]at k0;have p0:=aV hl (j:=0) (by omega);exact⟨h.fit.write (by have:=p0.1;unfold ag at this;omega) (.inl (sI (x:=ag l 0) k0)),h.Lg⟩
theorem zM (bR:q.locals.length<=12)(hl:GU q l)(ak:l.op=9)(v:Int)(h:od q b):od q (b.new q (ag l 0) v):=by
 have hlen:l.places.length=2:=by rw[hl.ok.bt,ak];rfl
 have k0:=bj hl.fits (j:=0) (by omega);rw[ak]at k0;have p0:=(aV hl (j:=0) (by omega)).1;obtain⟨cs,hc⟩:=h.Lg;have OZ:(b.yd.build v).made.length=b.yd.made.length+1:=by simp[Yd.build,Yd.note]
 have h1:({b with yd:=b.yd.build v}:Br).Fit q:=⟨h.fit.len,fun k hk ht hf=>by
  have hx:=h.fit.bx k hk ht hf;refine⟨hx.1,Int.le_trans hx.2 ?_⟩;show(b.yd.made.length:Int)<=((b.yd.build v).made.length:Int)
  rw[OZ];omega,h.fit.tg⟩
 refine⟨h1.write (by omega) (.inr (.inr ⟨lB (x:=ag l 0) k0,by omega,?_⟩)),⟨_,hc.build v⟩⟩;show _<=((b.yd.build v).made.length:Int)
 rw[OZ];omega
theorem p5 (bR:q.locals.length<=12)(room:Int)(dj:∀j,j<q.blocks.length->Whole (q.blocks.getD j []))(pK:∀j,∀l∈q.blocks.getD j [],GU q l):
  ∀(f:Nat) (ls:List ab) (b:Br),Whole ls->(∀l∈ls,GU q l)->od q b->∃bX,da q room f ls b=some bX/\od q bX.2.2/\(bX.1=1\/bX.1=2\/bX.1=3\/bX.1=4\/bX.1=5)/\bX.2.2.yd.made.length<=b.yd.made.length+f
 |f,[],b,hw,_,_=>by obtain⟨us,t,e,-⟩:=hw;simp at e
 |0,l::ls,b,_,_,h=>⟨(2,0,b),rfl,h,by simp,jC _⟩
 |f+1,l::ls,b,hw,hl,h=>by
  have jy:=hl l (jM ..);have o1:=jy.ok.op;have o2:=jy.ok.Kp;have o3:=jy.has;rw[da];cases hb:b.breaks q l
  ·rw[ja (by simp)];rcases sc hw with⟨kK,rfl⟩|⟨kK,QT⟩
   ·by_cases AW:l.op=22
    ·rw[ja (by omega),ja (by omega),ja (by omega),jb AW];exact⟨_,rfl,h,by simp,by show b.yd.made.length<=_;omega⟩
    ·rw[ja (by omega),ja (by omega),jb (by omega),jb rfl];have iP:l.next.length=if l.op=18 then 1 else 2:=by
      rw[jy.ok.pa];have:l.op=18\/l.op=19\/l.op=20\/l.op=21:=by omega
      rcases this with e|e|e|e<;>rw[e]<;>rfl
     have hi:(if b.other q l then 1 else 0)<l.next.length:=by
      rw[iP];by_cases e:l.op=18
      ·have:b.other q l=false:=by rw[Br.other,ja (by omega),ja (by omega),ja (by omega)]
       rw[this,jb e];decide
      ·rw[ja e];split<;>omega
     have WI:l.next.getD (if b.other q l then 1 else 0) 0<q.blocks.length:=jy.ok.next _ (by rw[jA,jB hi];exact jL _);obtain⟨bX,h1,h2,h3,h4⟩:=p5 bR room dj pK f _ b (dj _ WI) (pK _) h;exact⟨bX,h1,h2,h3,by omega⟩
   ·have RN:∀m∈ls,GU q m:=fun m hm=>hl m (jN _ hm)
    by_cases h6:l.op=6
    ·rw[jb h6];split
     ·exact⟨_,rfl,h,by simp,by show b.yd.made.length<=_;omega⟩
     ·obtain⟨bX,h1,h2,h3,h4⟩:=p5 bR room dj pK f ls _ QT RN (tI bR jy h6 h);exact⟨bX,h1,h2,h3,by have e:(b.calc q l).yd.made.length=b.yd.made.length:=rfl;omega⟩
    ·rw[ja h6];by_cases h9:l.op=9
     ·rw[jb h9];split
      ·exact⟨_,rfl,h,by simp,by show b.yd.made.length<=_;omega⟩
      ·obtain⟨bX,h1,h2,h3,h4⟩:=p5 bR room dj pK f ls _ QT RN (zM bR jy h9 (b.val q (ag l 1)) h);refine⟨bX,h1,h2,h3,?_⟩;have e:(b.new q (ag l 0) (b.val q (ag l 1))).yd.made.length=b.yd.made.length+1:=by simp[Br.new,Br.write,Yd.build,Yd.note]
       omega
     ·rw[ja h9,ja (by omega),ja (by omega)];obtain⟨-,hd⟩:=vj bR jy (by omega) hb h;obtain⟨bX,h1,h2,h3,h4⟩:=p5 bR room dj pK f ls _ QT RN hd;refine⟨bX,h1,h2,h3,?_⟩;have e:=Og q b l;omega
  ·rw[jb rfl];exact⟨_,rfl,h,by simp,by show b.yd.made.length<=_;omega⟩
end
end Ex
namespace El
open Go Sq Aux Go.Proofs.YtmlgajhhnojdjaaGreatDoor.Own FlwA FlwE FlwF FlwG
def bT (q:QP)(x:Nat×Nat):List (Nat×Nat):=if q.aJ x=0 then []else if q.aJ x=3 then [(x.1,3)]else QP.ai q x
def fi (q:QP):Nat->List (Nat×Nat)
 |0=>[]
 |n+1=>bT q (n,0)++fi q n
def aW (q:QP)(l:ab):List (Nat×Nat):=
 if l.op=9\/l.op=12\/l.op=13\/l.op=14\/l.op=15 then bT q (ag l 0)else if l.op=22 then fi q q.locals.length else []
def cg (v:Nat):Bool:= !(v&&&2==0)&& !(v==2)
def kJ (x:Nat×Nat):ab:=⟨0,16,[x],0,0,[]⟩
def dE (k:Nat)(v:Int):ab:=⟨0,17,[],v,(k:Nat),[]⟩
def vD (k:Nat):ab:=⟨0,21,[],0,(k:Nat),[]⟩
def kg (x:Nat×Nat):ab:=⟨0,20,[x],0,0,[]⟩
def eB (b:Nat):ab:=⟨0,18,[],0,0,[b]⟩
inductive Item where
 |line (l:ab)
 |fork (t:ab) (aside:List ab)
def cR (v:Nat)(x:Nat×Nat):List Item:=if cg v=true then [.fork (vD (ae x)) [kJ x]]else if v=2 then [.line (kJ x)]else []
def aN (s:List Nat)(ps:List (Nat×Nat)):List Item:=ps.flatMap fun x=>cR (s.getD (ae x) 0) x
def eM (un:Bool)(was Kg k:Nat):List Item:=if un=false then []else if Kg=2/\¬was=2 then [.line (dE k 1)]else if Kg&&&2=0/\¬was&&&2=0 then [.line (dE k 0)]else []
def a8 (un:List Bool)(s t:List Nat)(n:Nat):List Item:=(List.range n).flatMap fun k=>eM (un.getD k false) (s.getD k 0) (t.getD k 0) k
def bJ (un:List Bool)(t:List Nat)(x:Nat×Nat):List Item:=
 if un.getD (ae x) false=true/\cg (t.getD (ae x) 0)=true then [.line (dE (ae x) 1),.fork (kg x) [dE (ae x) 0]]else []
def bB (q:QP)(un:List Bool)(s:List Nat)(l:ab):List Item:=
 aN (aL q l s) (aW q l)++((if l.op=15 then []else [.line l])++(a8 un s (aq q l s) 24++if l.op=12 then bJ un (aq q l s) (ag l 0)else []))
def bO (q:QP)(un:List Bool):List ab->List Nat->List Item
 |[],_=>[]
 |l::ls,s=>bB q un s l++bO q un ls (aq q l s)
structure Mk where
 blocks:List (List ab)
 at_:Nat
def Mk.put (m:Mk)(ls:List ab):Mk:=⟨m.blocks.set m.at_ (m.blocks.getD m.at_ []++ls),m.at_⟩
def Mk.fork (m:Mk)(t:ab)(aside:List ab):Mk:=
 ⟨((⟨((⟨m.blocks++[[],[]],m.at_⟩:Mk).put [{t with next:=[m.blocks.length,m.blocks.length+1]}]).blocks,m.blocks.length⟩:Mk).put (aside++[eB (m.blocks.length+1)])).blocks,m.blocks.length+1⟩
def Mk.item (m:Mk):Item->Mk
 | .line l=>m.put [l]
 | .fork t aside=>m.fork t aside
def Mk.items (m:Mk)(is:List Item):Mk:=is.foldl Mk.item m
theorem iS (m:Mk)(is js:List Item):m.items (is++js)=(m.items is).items js:=List.foldl_append
def gO (s:List Nat)(ps:List (Nat×Nat))(un:List Bool):List Bool:=ps.foldl (fun un x=>if cg (s.getD (ae x) 0)=true then un.set (ae x) true else un) un
def kE (q:QP):List ab->List Nat->List Bool->List Bool
 |[],_,un=>un
 |l::ls,s,un=>kE q ls (aq q l s) (gO (aL q l s) (aW q l) un)
def j5 (q:QP)(E:List (List Nat)):Nat->List Bool
 |0=>List.replicate 24 false
 |b+1=>kE q (q.blocks.getD b []) (E.getD b []) (j5 q E b)
def mG (q:QP)(E:List (List Nat))(un:List Bool)(b:Nat)(m:Mk):Mk:=
 if E.getD b []=au then(⟨m.blocks,b⟩:Mk).put [eB b]else(⟨m.blocks,b⟩:Mk).items (bO q un (q.blocks.getD b []) (E.getD b []))
def cD (q:QP)(E:List (List Nat))(un:List Bool):Nat->Mk
 |0=>⟨List.replicate q.blocks.length [],0⟩
 |b+1=>mG q E un b (cD q E un b)
def ki (q:QP)(E:List (List Nat)):QP:=⟨q.locals,(cD q E (j5 q E q.blocks.length) q.blocks.length).blocks⟩
def Laid (R:List (List ab)):List Item->List ab->Prop
 |[],rs=>rs=[]
 | .line l::is,rs=>∃rs',rs=l::rs'/\Laid R is rs'
 | .fork t aside::is,rs=>∃i j,rs=[{t with next:=[i,j]}]/\R.getD i []=aside++[eB j]/\Laid R is (R.getD j [])
theorem fH (m:Mk)(ls:List ab):(m.put ls).blocks.length=m.blocks.length:=by simp[Mk.put]
theorem LI (s:List (List ab))(i:Nat)(y:List ab)(k:Nat):(s.set i y).getD k []=if i=k/\k<s.length then y else s.getD k []:=by
 rw[jA,jA,jd];by_cases e:i=k
 ·subst e;by_cases h:i<s.length
  ·simp[h]
  ·simp[h]
 ·simp[e]
theorem l9 (m:Mk)(ls:List ab)(h:m.at_<m.blocks.length)(k:Nat):(m.put ls).blocks.getD k []=if k=m.at_ then m.blocks.getD k []++ls else m.blocks.getD k []:=by
 rw[Mk.put,LI];by_cases e:m.at_=k
 ·subst e;rw[jb ⟨rfl,h⟩,jb rfl]
 ·rw[ja (fun x=>e x.1),ja (fun x=>e x.symm)]
theorem yv (L:List (List ab))(k:Nat):(L++[[],[]]).getD k []=L.getD k []:=by
 rw[jA,jA,List.getElem?_append];by_cases h:k<L.length
 ·rw[jb h]
 ·rw[ja h,jG (l:=L) (by omega)];rcases Nat.lt_or_ge (k-L.length) 2 with h2|h2
  ·rcases(show k-L.length=0\/k-L.length=1 by omega)with e|e<;>rw[e]<;>rfl
  ·rw[jG (by simpa using h2)]
theorem pB (m:Mk)(t:ab)(sd:List ab):(m.fork t sd).blocks.length=m.blocks.length+2:=by simp[Mk.fork,Mk.put]
theorem qp (m:Mk)(t:ab)(sd:List ab)(h:m.at_<m.blocks.length)(k:Nat):(m.fork t sd).blocks.getD k []=
  if k=m.at_ then m.blocks.getD k []++[{t with next:=[m.blocks.length,m.blocks.length+1]}]else if k=m.blocks.length then sd++[eB (m.blocks.length+1)]else m.blocks.getD k []:=by
 unfold Mk.fork;rw[l9 _ _ (by simp[Mk.put]),l9 _ _ (by simp;omega)];simp only[yv];by_cases e:k=m.at_
 ·subst e;rw[ja (by omega)];simp only[if_true]
 ·by_cases e2:k=m.blocks.length
  ·subst e2;simp only[if_true,if_neg e];rw[jA,jG (jC _)];rfl
  ·simp only[if_neg e,if_neg e2]
structure Lays (m:Mk)(is:List Item)(m':Mk):Prop where
 len:m.blocks.length<=m'.blocks.length
 aZ:∀k,k<m.blocks.length->¬k=m.at_->m'.blocks.getD k []=m.blocks.getD k []
 VW:∃rs,m'.blocks.getD m.at_ []=m.blocks.getD m.at_ []++rs/\∀R:List (List ab),(∀k,k=m.at_\/m.blocks.length<=k->k<m'.blocks.length->R.getD k []=m'.blocks.getD k [])->Laid R is rs
theorem oC:∀(is:List Item) (m:Mk),m.at_<m.blocks.length->Lays m is (m.items is)
 |[],m,h=>⟨jC _,fun _ _ _=>rfl,[],by simp[Mk.items],fun _ _=>rfl⟩
 | .line l::is,m,h=>by
  have ih:=oC is (m.put [l]) (by rw[fH];exact h);have e:m.items (.line l::is)=(m.put [l]).items is:=rfl;rw[e];obtain⟨rs,h1,h2⟩:=ih.VW;have hl:=ih.len;rw[fH]at hl;refine⟨hl,fun k hk dB=> ?_,l::rs,?_,fun R hR=>⟨rs,rfl,h2 R fun k hk bg=>hR k ?_ bg⟩⟩
  ·rw[ih.aZ k (by rw[fH];exact hk) dB,l9 _ _ h,ja dB]
  ·show(Mk.items (m.put [l]) is).blocks.getD (m.put [l]).at_ []=_
   rw[h1,l9 _ _ h,jb (show(m.put [l]).at_=m.at_ from rfl),List.append_assoc];rfl
  ·rw[fH]at hk;exact hk
 | .fork t sd::is,m,h=>by
  have hn:=pB m t sd;have ih:=oC is (m.fork t sd) (by rw[hn];show m.blocks.length+1<_;omega);have e:m.items (.fork t sd::is)=(m.fork t sd).items is:=rfl;rw[e];have mX:(m.fork t sd).at_=m.blocks.length+1:=rfl;obtain⟨rs,h1,h2⟩:=ih.VW;have hl:=ih.len;rw[hn]at hl;refine⟨by omega,fun k hk dB=> ?_,[{t with next:=[m.blocks.length,m.blocks.length+1]}],?_,fun R hR=> ?_⟩
  ·rw[ih.aZ k (by omega) (by omega),qp _ _ _ h,ja dB,ja (by omega)]
  ·rw[ih.aZ _ (by omega) (by omega),qp _ _ _ h,jb rfl]
  ·refine⟨m.blocks.length,m.blocks.length+1,rfl,?_,?_⟩
   ·rw[hR _ (.inr (jC _)) (by omega),ih.aZ _ (by omega) (by omega),qp _ _ _ h,ja (by omega),jb rfl]
   ·rw[hR _ (.inr (by omega)) (by omega)];have h3:(Mk.items (m.fork t sd) is).blocks.getD (m.blocks.length+1) []=rs:=by
     rw[mX]at h1;rw[h1,qp _ _ _ h,ja (by omega),ja (by omega),jA,jG (by omega)];rfl
    rw[h3];refine h2 R fun k hk bg=>hR k (.inr ?_) bg
    rw[hn,mX]at hk;omega
def vJ (q:QP)(E:List (List Nat))(un:List Bool)(R:List (List ab))(b:Nat):Prop:=
 if E.getD b []=au then R.getD b []=[eB b]else Laid R (bO q un (q.blocks.getD b []) (E.getD b [])) (R.getD b [])
structure Made (q:QP)(E:List (List Nat))(un:List Bool)(n:Nat)(m:Mk):Prop where
 len:q.blocks.length<=m.blocks.length
 new:∀k,n<=k->k<q.blocks.length->m.blocks.getD k []=[]
 VW:∀b,b<n->∀R:List (List ab),(∀k,k<n\/q.blocks.length<=k->k<m.blocks.length->R.getD k []=m.blocks.getD k [])->vJ q E un R b
theorem Qc (m:Mk)(l:ab)(h:m.at_<m.blocks.length):Lays m [.line l] (m.put [l]):=oC [.line l] m h
theorem vk (q:QP)(E:List (List Nat))(un:List Bool):∀n,n<=q.blocks.length->Made q E un n (cD q E un n)
 |0,_=>⟨by simp[cD],fun k _ hk=>by simp[cD,List.getD_eq_getElem?_getD,hk],fun b hb=>by omega⟩
 |n+1,hn=>by
  have ih:=vk q E un n (by omega);have jy:=ih.len;have hnew:=ih.new n (jC _) (by omega);have key:∃is,Lays (⟨(cD q E un n).blocks,n⟩:Mk) is (cD q E un (n+1))/\∀R rs,R.getD n []=rs->Laid R is rs->vJ q E un R n:=by
   rw[cD,mG];by_cases hz:E.getD n []=au
   ·rw[jb hz];refine⟨_,Qc _ _ (by show n<(cD q E un n).blocks.length;omega),fun R rs hr hL=> ?_⟩;rw[vJ,jb hz];obtain⟨rs',h1,h2⟩:=hL;rw[hr,h1];have:rs'=[]:=h2;rw[this]
   ·rw[ja hz];refine⟨_,oC _ _ (by show n<(cD q E un n).blocks.length;omega),fun R rs hr hL=> ?_⟩;rw[vJ,ja hz,hr];exact hL
  obtain⟨is,hL,hk⟩:=key;have hlen:=hL.len;refine⟨jS jy hL.len,fun k h1 h2=> ?_,fun b hb R hR=> ?_⟩
  ·rw[hL.aZ k (by show k<(cD q E un n).blocks.length;omega) (by show¬k=n;omega)];exact ih.new k (by omega) h2
  ·by_cases e:b=n
   ·subst e;obtain⟨rs,h1,h2⟩:=hL.VW;have h3:(cD q E un (b+1)).blocks.getD b []=rs:=by
     refine h1.trans ?_;show(cD q E un b).blocks.getD b []++rs=rs
     rw[hnew];rfl
    refine hk R rs ?_ (h2 R fun k mY bg=>hR k ?_ bg)
    ·rw[hR b (.inl (by omega)) (by have:(⟨(cD q E un b).blocks,b⟩:Mk).blocks.length<=_:=hL.len;simp only at this;omega),h3]
    ·rcases mY with h|h
     ·left;have:k=b:=h;omega
     ·right;have:(cD q E un b).blocks.length<=k:=h;omega
   ·refine ih.VW b (by omega) R fun k mY bg=> ?_
    have OY:k<(cD q E un (n+1)).blocks.length:=jK bg hL.len;rw[hR k (by omega) OY,hL.aZ k bg (by show¬k=n;omega)]
theorem Gk (q:QP)(E:List (List Nat)){b:Nat}(hb:b<q.blocks.length):vJ q E (j5 q E q.blocks.length) (ki q E).blocks b:=
 (vk q E _ q.blocks.length (jC _)).VW b hb _ fun _ _ _=>rfl
theorem SD (q:QP)(E:List (List Nat)):q.blocks.length<=(ki q E).blocks.length:=(vk q E _ q.blocks.length (jC _)).len
theorem tF (s:List Nat):∀(ps:List (Nat×Nat)) (un:List Bool),(gO s ps un).length=un.length
 |[],_=>rfl
 |x::ps,un=>by
  show(gO s ps (if cg (s.getD (ae x) 0)=true then un.set (ae x) true else un)).length=_
  rw[tF s ps];split<;>simp
theorem rk (s:List Nat):∀(ps:List (Nat×Nat)) (un:List Bool) (k:Nat),un.getD k false=true->(gO s ps un).getD k false=true
 |[],_,_,h=>h
 |x::ps,un,k,h=>by
  show(gO s ps (if cg (s.getD (ae x) 0)=true then un.set (ae x) true else un)).getD k false=true
  refine rk s ps _ k ?_;split
  ·rw[jA,jd];rw[jA]at h;have hk:k<un.length:=by
    rcases Nat.lt_or_ge k un.length with h1|h1
    ·exact h1
    ·rw[jG h1]at h;cases h
   by_cases e:ae x=k
   ·rw[jb e,jb (by omega)];rfl
   ·rw[ja e];exact h
  ·exact h
theorem BE (s:List Nat):∀(ps:List (Nat×Nat)) (un:List Bool) (x:Nat×Nat),x∈ps->ae x<un.length->cg (s.getD (ae x) 0)=true->(gO s ps un).getD (ae x) false=true
 |[],_,_,h,_,_=>by cases h
 |y::ps,un,x,h,hl,hu=>by
  show(gO s ps (if cg (s.getD (ae y) 0)=true then un.set (ae y) true else un)).getD _ false=true
  rcases jP.1 h with e|e
  ·subst e;refine rk s ps _ _ ?_;rw[jb hu,jA,List.getElem?_set_self hl];rfl
  ·refine BE s ps _ x e ?_ hu;split
   ·simpa using hl
   ·exact hl
theorem BD (q:QP):∀(ls:List ab) (s:List Nat) (un:List Bool),(kE q ls s un).length=un.length
 |[],_,_=>rfl
 |l::ls,s,un=>by rw[kE,BD q ls,tF]
theorem rj (q:QP):∀(ls:List ab) (s:List Nat) (un:List Bool) (k:Nat),un.getD k false=true->(kE q ls s un).getD k false=true
 |[],_,_,_,h=>h
 |l::ls,s,un,k,h=>by rw[kE];exact rj q ls _ _ k (rk _ _ _ k h)
theorem BC (q:QP)(E:List (List Nat)):∀n,(j5 q E n).length=24
 |0=>by simp[j5]
 |n+1=>by rw[j5,BD,BC q E n]
theorem yx (q:QP)(E:List (List Nat))(k:Nat):∀(m n:Nat),(j5 q E n).getD k false=true->(j5 q E (n+m)).getD k false=true
 |0,_,h=>h
 |m+1,n,h=>by
  show(j5 q E ((n+m)+1)).getD k false=true
  rw[j5];exact rj q _ _ _ k (yx q E k m n h)
def qN (q:QP)(un:List Bool):List ab->List Nat->Prop
 |[],_=>True
 |l::ls,s=>(∀x∈aW q l,ae x<24->cg ((aL q l s).getD (ae x) 0)=true->un.getD (ae x) false=true)/\qN q un ls (aq q l s)
theorem qN.mono {q:QP}{un un':List Bool}(h:∀k,un.getD k false=true->un'.getD k false=true):∀(ls:List ab) (s:List Nat),qN q un ls s->qN q un' ls s
 |[],_,_=>trivial
 |_::ls,_,ha=>⟨fun x hx hl hu=>h _ (ha.1 x hx hl hu),qN.mono h ls _ ha.2⟩
theorem vL (q:QP):∀(ls:List ab) (s:List Nat) (un:List Bool),un.length=24->qN q (kE q ls s un) ls s
 |[],_,_,_=>trivial
 |l::ls,s,un,hl=>by
  rw[kE];refine⟨fun x hx h24 hu=>rj q ls _ _ _ (BE _ _ _ x hx (by omega) hu),vL q ls _ _ (by rw[tF];exact hl)⟩
theorem BF (q:QP)(E:List (List Nat)){b n:Nat}(hb:b<n):qN q (j5 q E n) (q.blocks.getD b []) (E.getD b []):=by
 have h1:=vL q (q.blocks.getD b []) (E.getD b []) (j5 q E b) (BC q E b);refine qN.mono (fun k hk=> ?_) _ _ h1;have:=yx q E k (n-(b+1)) (b+1) hk
 rwa [show b+1+(n-(b+1))=n by omega]at this
end El
namespace El
open Go Go.RowKit Sq Aux PrjF PrjG PrjJ PrjK PrjL PrjM PrjN PrjO PrjP PrjR PrjS PrjT FlwA FlwE
theorem qu {w w':World}{v:Value}{ls:List (B×Nat)}(h:gM w v ls)(hb:Below w.heap.size w w'):gM w' v ls:=by
 obtain⟨z,h⟩:=h;exact⟨z,aw h hb⟩
set_option maxRecDepth 20000 in
set_option maxHeartbeats 2000000 in
theorem BL (q:QP)(x:Nat×Nat)(v u:Value)(a:Nat)(w:World)(hp:w.heap[a]?=some (.cells #[v,u] 110 (0,0)))(hv:gM w v q.locals)(bU:q.locals.length<=4000)(hx:x.1<q.locals.length):
  Calls Tryz.prog 175 #[.pointer (some ⟨a,0,none⟩),.agg #[.int .i64 (x.1:Nat),.int .i64 (x.2:Nat)]] w fun e w'=>∃ad c,e=.returned (.slice ad (bT q x).length c)/\aI w.heap.size w' (.slice ad (bT q x).length c) (bT q x)/\Below w.heap.size w w':=by
 obtain⟨V,hV⟩:∃V,w.alloc (.cells #[.int .i64 (x.1:Nat),.int .i64 (x.2:Nat)] 119)=V:=⟨_,rfl⟩;have dH:Below w.heap.size w V:=by rw[<-hV];exact(Below.refl _ _).alloc (jC _) _
 have GX:V.heap[w.heap.size]?=some (.cells #[.int .i64 (x.1:Nat),.int .i64 (x.2:Nat)] 119 (0,0)):=by rw[<-hV];exact jD
 have tY:V.heap.size=w.heap.size+1:=by rw[<-hV];simp
 have KK:=mA q x v u a V ((dH.block a (lt_of_heap hp)).trans hp) (qu hv dH) bU hx;have KH:=fun(W:World) (hW:Below w.heap.size w W)=>c8 q x v u a W ((hW.block a (lt_of_heap hp)).trans hp) (qu hv hW) hx
 have c0:V.cell? ⟨w.heap.size,0,none⟩=some (.int .i64 (x.1:Nat)):=by rw[cell_of_heap GX];rfl
 have c1:V.cell? ⟨w.heap.size,1,none⟩=some (.int .i64 (x.2:Nat)):=by rw[cell_of_heap GX];rfl
 have HC:Hid (∀W,Below V.heap.size V W->W.cell? ⟨w.heap.size,0,none⟩=some (.int .i64 (x.1:Nat))/\W.cell? ⟨w.heap.size,1,none⟩=some (.int .i64 (x.2:Nat))):=fun W hW=>⟨(hW.cell (p:=⟨w.heap.size,0,none⟩) (by show w.heap.size<_;omega)).trans c0,(hW.cell (p:=⟨w.heap.size,1,none⟩) (by show w.heap.size<_;omega)).trans c1⟩
 obtain⟨k,hk⟩:∃k,q.aJ x=k:=⟨_,rfl⟩;rw[hk]at KK;by_cases h0:k=0
 ·have hb:bT q x=[]:=by unfold bT;rw[jb (hk.trans h0)]
  have t0:((k:Int)==0)=true:=by rw[h0];rfl
  rw[hb];clear hk;go_enter Tryz.func175,Tryz.ntmps175
  go_wp2_with (go_at_call 207;refine KK.mono ?_;rintro e w2 ⟨rfl,bH⟩)
  go_ret
  exact⟨none,0,rfl,World.ownsRow_nil _ _ _ _,dH.trans (bH.mono dH.size)⟩
 ·have t0:((k:Int)==0)=false:=by rw[jZ];omega
  by_cases h3:k=3
  ·have hb:bT q x=[(x.1,3)]:=by unfold bT;rw[ja (by rw[hk];exact h0),jb (hk.trans h3)]
   have t3:((k:Int)==3)=true:=by rw[h3];rfl
   rw[hb];clear hk;go_enter Tryz.func175,Tryz.ntmps175
   go_wp2_with (go_at_call 207;refine KK.mono ?_;rintro e w2 ⟨rfl,bH⟩;obtain⟨d0,d1⟩:=HC.out w2 bH)
   go_ret
   have cT:=dH.trans (bH.mono dH.size);exact⟨_,1,rfl,⟨rfl,.inr ⟨w2.heap.size,1,_,rfl,cT.size,jD,jC _,by unfold maxLen;omega,rfl,rfl⟩⟩,cT.alloc cT.size _⟩
  ·have hb:bT q x=QP.ai q x:=by unfold bT;rw[ja (by rw[hk];exact h0),ja (by rw[hk];exact h3)]
   have t3:((k:Int)==3)=false:=by rw[jZ];omega
   rw[hb];clear hk;go_enter Tryz.func175,Tryz.ntmps175
   go_wp2_with (first
    |(go_at_call 207;refine KK.mono ?_;rintro e w2 ⟨rfl,bH⟩;obtain⟨d0,d1⟩:=HC.out w2 bH;have cT:=dH.trans (bH.mono dH.size);have TO:=KH w2 cT)
    |(go_at_call 102;refine TO.mono ?_;rintro e w4 ⟨g,c,rfl,hP4,A7⟩))
   go_ret
   exact⟨_,c,rfl,fo hP4 cT.size,cT.trans (A7.mono cT.size)⟩
end El
end Go.Proofs.YtmlgajhhnojdjaaGreatDoor

import Derived.Test.YtmlgajhhnojdjaaGreatDoorRAV
import Derived.Test.YtmlgajhhnojdjaaGreatDoorRBJ
namespace Go.Proofs.YtmlgajhhnojdjaaGreatDoor
namespace RunB
open Go Sq Aux Go.Proofs.YtmlgajhhnojdjaaGreatDoor.Own RunA PrjS FlwA FlwB FlwC FlwD FlwE FlwF FlwG FlwH FlwI FlwJ FlwK FlwM FlwO FlwP FlwQ FlwS FlwY
def oq (n v:Nat):Prop:=if n=0 then¬v&&&13=0 else¬v&&&2=0
theorem NY {n u v:Nat}(h:oq n u)(hl:yX u v):oq n v:=by
 have key:∀m,¬u&&&m=0->¬v&&&m=0:=fun m hu hv=>hu (by
  rw[<-hl,Nat.and_or_distrib_right]at hv;apply Nat.eq_of_testBit_eq
  intro i;have:=congrArg (fun x=>x.testBit i) hv;simp only[Nat.testBit_or,Nat.testBit_and,Nat.zero_testBit]at this⊢
  revert this
  cases u.testBit i<;>cases m.testBit i<;>cases v.testBit i<;>simp)
 unfold oq at*;split at h
 ·rename_i e;rw[jb e];exact key _ h
 ·rename_i e;rw[ja e];exact key _ h
structure lB (q:QP)(X:List Nat)(b s:List Nat):Prop where
 lb:b.length=24
 ls:s.length=24
 at_:∀k,k<24->k∉X->¬q.bA (k/2)=0->oq (b.getD k 0) (s.getD k 0)
def j7 (q:QP)(s:List Nat)(o:Own.Own):Prop:=lB q [] o.boxes s
section
variable {q:QP} {X b s:List Nat}
theorem lB.put (h:lB q X b s)(i:Nat){n v:Nat}(hf:oq n v\/q.bA (i/2)=0){Y:List Nat}(hY:∀k,k∈X->k=i\/k∈Y):lB q Y (b.set i n) (s.set i v):=by
 refine⟨by simpa using h.lb,by simpa using h.ls,fun k hk hn ht=> ?_⟩;rw[dz,dz,h.lb,h.ls];by_cases e:i=k
 ·subst e;rw[jb ⟨rfl,hk⟩,jb ⟨rfl,hk⟩];exact hf.resolve_right ht
 ·rw[ja (fun x=>e x.1),ja (fun x=>e x.1)];refine h.at_ k hk (fun hx=> ?_) ht;rcases hY k hx with h1|h1
  ·exact e h1.symm
  ·exact hn h1
theorem lB.clear (h:lB q X b s)(i:Nat){Y:List Nat}(hY:∀k,k∈X\/k=i->k∈Y):lB q Y (b.set i 0) s:=by
 refine⟨by simpa using h.lb,h.ls,fun k hk hn ht=> ?_⟩;rw[dz,ja (fun x=>hn (hY k (.inr x.1.symm)))];exact h.at_ k hk (fun hx=>hn (hY k (.inl hx))) ht
theorem lB.free (h:lB q X b s)(i:Nat)(v:Nat)(ht:q.bA (i/2)=0):lB q X b (s.set i v):=by
 refine⟨h.lb,by simpa using h.ls,fun k hk hn htk=> ?_⟩;rw[dz,ja (fun x=>htk (by rw[<-x.1];exact ht))];exact h.at_ k hk hn htk
theorem lB.mono (h:lB q X b s){t:List Nat}(ht:t.length=24)(hl:la s t):lB q X b t:=⟨h.lb,ht,fun k hk hn qu=>NY (h.at_ k hk hn qu) (hl k hk)⟩
theorem BT:∀(ps:List (Nat×Nat)) {o:Own.Own} {s:List Nat},j7 q s o->j7 q (dB ps s) (Own.take ps o).2
 |[],_,_,h=>h
 |p::ps,o,s,h=>by
  rw[Own.take];refine BT ps (o:=o.clear p) (s:=s.set (ag p) (if p.2=3 then 8 else 1)) ?_;exact lB.put h (ag p) (.inl (by unfold oq;rw[jb rfl];split<;>decide)) (fun k hk=>by cases hk)
theorem BS:∀(ps:List (Nat×Nat)) {o:Own.Own} {X:List Nat} {s:List Nat},lB q X o.boxes s->lB q (X++ps.map ag) (Own.take ps o).2.boxes s
 |[],_,X,_,h=>by simpa [Own.take]using h
 |p::ps,o,X,s,h=>by
  rw[Own.take];have:=BS ps (o:=o.clear p) (X:=X++[ag p]) (s:=s) (h.clear (ag p) (fun k hk=>by simpa using hk));simpa using this
theorem IH {m:Nat}:∀(ps:List (Nat×Nat)) (ns:List Nat) {o:Own.Own} {s:List Nat},ps.length=ns.length->(∀n∈ns,oq n m)->lB q (ps.map ag) o.boxes s->j7 q (gR m ps s) (Own.o6 ps ns o)
 |[],_,_,_,_,_,h=>h
 |p::ps,[],_,_,hl,_,_=>by cases hl
 |p::ps,n::ns,o,s,hl,hn,h=>by
  rw[Own.o6];refine IH ps ns (o:=o.sy p n) (s:=s.set (ag p) m) (by simpa using hl) (fun k hk=>hn k (jN _ hk)) ?_;exact lB.put h (ag p) (.inl (hn n (jM ..))) (fun k hk=>by simpa using hk)
theorem Ie {m:Nat}{o:Own.Own}(h:j7 q s o)(ts frm:List (Nat×Nat))(hl:ts.length=frm.length)(hv:∀n∈(Own.take frm o).1,oq n m):j7 q (gR m ts (dB frm s)) (o.move ts frm):=by
 unfold Own.move;refine IH ts _ (by rw[Go.Proofs.YtmlgajhhnojdjaaGreatDoor.Own.take_len];exact hl) hv ?_;rw[(ij ts _).2.2.2];have:=BS ts (o:=(Own.take frm o).2) (X:=[]) (BT frm h);simpa using this
theorem A5 {n v:Nat}(h:ju 2 v=false)(hf:oq n v):¬n=0:=fun e=>by
 unfold oq at hf;rw[jb e]at hf;simp only[ju,Bool.not_eq_eq_eq_not,Bool.not_false,beq_iff_eq]at h;exact hf h
end
section
variable {q:QP}
theorem Hf {x:Nat×Nat}(h:q.bJ x 105=true):q.bA x.1=0:=by
 unfold QP.bJ QP.kind at h;split at h
 ·cases h
 ·rename_i t ht;have h0:t=0:=by simpa [gE]using h
  subst h0;split at ht
  ·split at ht<;>cases ht
  ·split at ht
   ·split at ht<;>cases ht
   ·simpa using ht
theorem A4 {x:Nat×Nat}(h:q.bJ x 111=true)(hx:x.2<=3):q.bA x.1=3/\x.2=0:=by
 unfold QP.bJ QP.kind at h;split at h
 ·cases h
 ·rename_i t ht;have h0:t=3:=by simpa [gE]using h
  subst h0;split at ht
  ·split at ht<;>cases ht
  ·split at ht
   ·split at ht<;>cases ht
   ·exact⟨by simpa using ht,by omega⟩
theorem qW {x:Nat×Nat}(h:q.bJ x 112=true):¬q.bA x.1=0/\¬(x.2=0/\q.bA x.1=2)/\q.br x=1:=by
 unfold QP.bJ QP.kind at h;split at h
 ·cases h
 ·rename_i t ht;have h0:t=1:=by simpa [gE]using h
  subst h0;split at ht
  ·rename_i cf;split at ht
   ·rename_i h2;exact⟨by omega,by omega,by unfold QP.br;rw[jb (by omega)]⟩
   ·cases ht
  ·split at ht
   ·rename_i h3;split at ht
    ·rename_i h4;exact⟨by omega,by omega,by unfold QP.br;rw[jb (by omega)]⟩
    ·cases ht
   ·have:q.bA x.1=1:=by simpa using ht
    exact⟨by omega,by omega,by unfold QP.br;rw[ja (by omega)];exact this⟩
theorem pJ {x:Nat×Nat}(h:q.bJ x 109=true):¬q.bA x.1=0:=by
 unfold QP.bJ QP.kind at h;split at h
 ·cases h
 ·rename_i t ht;have h0:¬t=0:=by simpa [gE]using h
  split at ht
  ·split at ht
   ·omega
   ·cases ht
  ·split at ht
   ·split at ht
    ·omega
    ·cases ht
   ·have:q.bA x.1=t:=by simpa using ht
    omega
theorem dA (x:Nat×Nat):ag x/2=x.1:=by unfold ag;split<;>omega
theorem ie {x:Nat×Nat}(h:x.1<12):ag x<24:=by unfold ag;split<;>omega
structure kH (q:QP)(l:aa):Prop where
 ok:tR q.locals.length q.blocks.length l
 has:pD false l.op=true
 fits:q.fits l=true
theorem eT {l:aa}(h:q.fits l=true){j:Nat}(hj:j<l.places.length):q.bJ (ah l j) ((ae l.op).getD j 0)=true:=by
 unfold QP.fits at h;rw[jH]at h;have key:∀(f:B) (ps:List (Nat×Nat)) (k j:Nat),q.fJ f ps k=true->j<ps.length->q.bJ (ps.getD j (0,0)) (f.getD (k+j) 0)=true:=by
  intro f ps;induction ps with
  |nil=>intro k j _ hj;simp at hj
  |cons x r ih=>
   intro k j h hj;rw[QP.fJ,jH]at h;cases j with
   |zero=>simpa using h.1
   |succ j=>
    have:=ih (k+1) j h.2 (by simpa using hj);rw[show k+1+j=k+(j+1) by omega]at this;simpa using this
 have:=key _ _ 0 j h.1 hj;rw[Nat.zero_add]at this;exact this
theorem NZ {l:aa}(h:q.fits l=true)(cf:l.op=12):q.br (ah l 0)=q.br (ah l 1):=by
 unfold QP.fits at h;rw[jH,cf]at h;simpa [ah]using h.2
end
end RunB
namespace RunB
open Go Sq Aux Go.Proofs.YtmlgajhhnojdjaaGreatDoor.Own RunA PrjS FlwA FlwB FlwC FlwD FlwE FlwF FlwG FlwH FlwI FlwJ FlwK FlwM FlwO FlwP FlwQ FlwS FlwY
section
variable {q:QP} {l:aa} {s:List Nat} {o:Own.Own}
theorem eo (hl:kH q l){j:Nat}(hj:j<l.places.length):(ah l j).1<q.locals.length/\(ah l j).2<=3:=
 hl.ok.places _ (by unfold ah;rw[jA,jB hj];exact jL _)
theorem CS (l:aa)(j:Nat):aa.at l j=ah l j:=rfl
theorem rV (ic:q.locals.length<=12)(h:j7 q s o){p:Nat×Nat}(hp:p.1<q.locals.length)(ht:¬q.bA p.1=0)(hn:bw 2 [p] s=false):1<=o.box p:=by
 have hk:=lB.at_ h (ag p) (ie (by omega)) (by simp) (by rw[dA];exact ht);simp only[bw,List.any_cons,List.any_nil,Bool.or_false]at hn;have:=A5 hn hk;show 1<=o.boxes.getD (ag p) 0
 omega
theorem bH (q:QP)(x:Nat×Nat):QP.ab q x=[x]/\¬(x.2=0/\q.bA x.1=2)\/QP.ab q x=[(x.1,1),(x.1,2)]/\x.2=0/\q.bA x.1=2:=by
 unfold QP.ab;by_cases h:x.2=0/\q.bA x.1=2
 ·exact .inr ⟨by rw[jb h],h⟩
 ·exact .inl ⟨by rw[ja h],h⟩
theorem rp (hl:kH q l)(cf:l.op=12):(QP.ab q (ah l 0)).length=(QP.ab q (ah l 1)).length:=by
 have hk:=NZ hl.fits cf;have hlen:l.places.length=2:=by rw[hl.ok.cP,cf];rfl
 have h0:=(eo hl (j:=0) (by omega)).2;have h1:=(eo hl (j:=1) (by omega)).2;unfold QP.br at hk;rcases bH q (ah l 0)with⟨e,h⟩|⟨e,h,h'⟩<;>rcases bH q (ah l 1)with⟨e2,h2⟩|⟨e2,h2,h2'⟩<;>rw[e,e2]
 ·rfl
 ·exfalso;rw[ja (show¬((ah l 1).2=1\/(ah l 1).2=2\/(ah l 1).2=3) by omega)]at hk;by_cases hp:(ah l 0).2=1\/(ah l 0).2=2\/(ah l 0).2=3
  ·rw[jb hp]at hk;omega
  ·rw[ja hp]at hk;exact h ⟨by omega,by omega⟩
 ·exfalso;rw[ja (show¬((ah l 0).2=1\/(ah l 0).2=2\/(ah l 0).2=3) by omega)]at hk;by_cases hp:(ah l 1).2=1\/(ah l 1).2=2\/(ah l 1).2=3
  ·rw[jb hp]at hk;omega
  ·rw[ja hp]at hk;exact h2 ⟨by omega,by omega⟩
 ·rfl
theorem ru (hl:kH q l)(B5:l.op=14):QP.ab q (ah l 0)=[ah l 0]/\QP.ab q (ah l 1)=[ah l 1]/\q.bA (ah l 0).1=3/\¬q.bA (ah l 1).1=0:=by
 have hlen:l.places.length=2:=by rw[hl.ok.cP,B5];rfl
 have k0:=eT hl.fits (j:=0) (by omega);have k1:=eT hl.fits (j:=1) (by omega);rw[B5]at k0 k1;have o0:=A4 (x:=ah l 0) k0 (eo hl (j:=0) (by omega)).2;have o1:=qW (x:=ah l 1) k1;refine⟨?_,?_,o0.1,o1.1⟩
 ·rcases bH q (ah l 0)with⟨e,-⟩|⟨-,-,e⟩
  ·exact e
  ·omega
 ·rcases bH q (ah l 1)with⟨e,-⟩|⟨-,e1,e2⟩
  ·exact e
  ·exact absurd ⟨e1,e2⟩ o1.2.1
theorem TI (ic:q.locals.length<=12)(h:j7 q s o){x:Nat×Nat}(hx:x.1<q.locals.length/\x.2<=3)(ht:¬q.bA x.1=0)(iq:gT q x s=false):∀n∈(Own.take (QP.ab q x) o).1,oq n (dm q x s):=by
 have hf:=fun k hk ht=>lB.at_ h k hk (by simp) ht
 rcases bH q x with⟨e,hn⟩|⟨e,h0,h2⟩
 ·rw[e];have hk:=hf (ag x) (ie (by omega)) (by rw[dA];exact ht);intro n hm;simp only[Own.take,List.mem_singleton]at hm;subst hm;unfold dm;by_cases h3:q.br x=3
  ·rw[jb h3];exact hk
  ·rw[ja h3];unfold gT at iq;rw[ja h3,e]at iq;have:=rV ic h hx.1 ht iq;unfold oq;rw[ja (by omega)];decide
 ·have h3:¬q.br x=3:=by unfold QP.br;rw[ja (by omega)];omega
  unfold gT at iq;rw[ja h3,e]at iq;unfold dm;rw[ja h3,e];simp only[bw,List.any_cons,List.any_nil,Bool.or_false,Bool.or_eq_false_iff]at iq;have s1:ag (x.1,1)=2*x.1:=rfl;have s2:ag (x.1,2)=2*x.1+1:=rfl;have k1:=A5 iq.1 (hf _ (ie (x:=(x.1,1)) (by show x.1<12;omega)) (by rw[dA];exact ht));have k2:=A5 iq.2 (hf _ (ie (x:=(x.1,2)) (by show x.1<12;omega)) (by rw[dA];exact ht));intro n hm;simp only[Own.take,List.mem_cons,List.not_mem_nil,or_false]at hm;unfold oq;rcases hm with rfl|rfl
  ·rw[ja (show¬o.box (x.1,1)=0 from k1)];decide
  ·have:(o.clear (x.1,1)).box (x.1,2)=o.boxes.getD (ag (x.1,2)) 0:=by
    unfold Own.clear Own.box;rw[dz,ja (by rw[s1,s2];omega)]
   rw[this,ja k2];decide
theorem pR (h:j7 q s o){p:Nat×Nat}(ht:q.bA p.1=0){o':Own.Own}(hb:o'.boxes=o.boxes):j7 q (s.set (ag p) 2) o':=by
 unfold j7;rw[hb];exact lB.free h _ _ (by rw[dA];exact ht)
theorem kR (hp:oP l.op=true)(B5:¬l.op=14):bj q l s=s.set (ag (ah l 0)) 2:=by
 have cf:¬l.op=12:=fun e=>by rw[e]at hp;cases hp
 rw[bj,jb hp,cF,ja cf,ja B5];rfl
theorem oY (hp:oP l.op=false)(cf:¬l.op=12)(En:¬l.op=13)(su:¬l.op=15):bj q l s=s:=by
 have B5:¬l.op=14:=fun e=>by rw[e]at hp;cases hp
 rw[bj,ja (by rw[hp];decide),ja cf,ja En,ja su,cF,ja cf,ja B5]
theorem kq (hl:kH q l)(aw:l.op=2\/l.op=3\/l.op=4\/l.op=5\/l.op=6\/l.op=7\/l.op=10):q.bA (ah l 0).1=0:=by
 have key:∀op:Fin 23,(op.val=2\/op.val=3\/op.val=4\/op.val=5\/op.val=6\/op.val=7\/op.val=10)->0<((ae op.val).filter sL).length/\(ae op.val).getD 0 0=105:=by decide
 obtain⟨k1,k2⟩:=key ⟨l.op,hl.ok.op⟩ aw;have:=eT hl.fits (j:=0) (by rw[hl.ok.cP];exact k1);have k3:(ae l.op).getD 0 0=105:=k2;rw[k3]at this;exact Hf this
theorem Si (hl:kH q l)(ic:q.locals.length<=12)(hf:aL q l s=false)(h:j7 q s o)(FD:km l.op):o.bD l=true/\j7 q (bj q l s) (o.fy q l):=by
 have easy:¬l.op=10->¬l.op=11->o.bD l=true:=fun h1 h2=>by unfold Own.bD;rw[ja h1,ja h2]
 rcases FD with e|e|e|e|e|e|e|e|e|e|e|e
 ·refine⟨easy (by omega) (by omega),?_⟩;rw[kR (by rw[e];rfl) (by omega),Own.fy,jb e];exact pR h (kq hl (by omega)) rfl
 ·refine⟨easy (by omega) (by omega),?_⟩;rw[kR (by rw[e];rfl) (by omega),Own.fy,ja (by omega),jb (by omega)];exact pR h (kq hl (by omega)) rfl
 ·refine⟨easy (by omega) (by omega),?_⟩;rw[kR (by rw[e];rfl) (by omega),Own.fy,ja (by omega),jb (by omega)];exact pR h (kq hl (by omega)) rfl
 ·refine⟨easy (by omega) (by omega),?_⟩;rw[kR (by rw[e];rfl) (by omega),Own.fy,ja (by omega),jb (by omega)];exact pR h (kq hl (by omega)) rfl
 ·refine⟨easy (by omega) (by omega),?_⟩;rw[kR (by rw[e];rfl) (by omega),Own.fy,ja (by omega),ja (by omega),jb (by omega)];exact pR h (kq hl (by omega)) rfl
 ·refine⟨easy (by omega) (by omega),?_⟩;rw[oY (by rw[e];rfl) (by omega) (by omega) (by omega),Own.fy,ja (by omega),ja (by omega),ja (by omega),jb (by omega)];exact h
 ·have hlen:l.places.length=2:=by rw[hl.ok.cP,e];rfl
  have k1:=eT hl.fits (j:=1) (by omega);rw[e]at k1;rw[aL,ja (by omega),ja (by omega),ja (by omega),jb (by omega),CS]at hf;refine⟨?_,?_⟩
  ·unfold Own.bD;rw[jb e];exact decide_eq_true (rV ic h (eo hl (j:=1) (by omega)).1 (qW (x:=ah l 1) k1).1 hf)
  ·rw[kR (by rw[e];rfl) (by omega),Own.fy,ja (by omega),ja (by omega),ja (by omega),ja (by omega),jb (by omega)];exact pR h (kq hl (by omega)) rfl
 ·have hlen:l.places.length=2:=by rw[hl.ok.cP,e];rfl
  have k0:=eT hl.fits (j:=0) (by omega);rw[e]at k0;rw[aL,ja (by omega),ja (by omega),ja (by omega),ja (by omega),jb (by omega),CS,CS]at hf;have Oc:bw 2 [ah l 0] s=false:=by
   simp only[bw,List.any_cons,List.any_nil,Bool.or_false,Bool.or_eq_false_iff]at hf⊢;exact hf.1
  refine⟨?_,?_⟩
  ·unfold Own.bD;rw[ja (by omega),jb e];exact decide_eq_true (rV ic h (eo hl (j:=0) (by omega)).1 (qW (x:=ah l 0) k0).1 Oc)
  ·rw[oY (by rw[e];rfl) (by omega) (by omega) (by omega),Own.fy,ja (by omega),ja (by omega),ja (by omega),ja (by omega),ja (by omega),jb (by omega)];exact h
 ·refine⟨easy (by omega) (by omega),?_⟩;have hlen:l.places.length=2:=by rw[hl.ok.cP,e];rfl
  have k1:=eT hl.fits (j:=1) (by omega);rw[e]at k1;rw[aL,ja (by omega),ja (by omega),ja (by omega),ja (by omega),ja (by omega),jb (by omega),CS,CS,Bool.or_eq_false_iff]at hf;rw[bj,ja (by rw[e];decide),jb e,cF,jb e,Own.fy,ja (by omega),ja (by omega),ja (by omega),ja (by omega),ja (by omega),ja (by omega),jb (by omega)];exact Ie h _ _ (rp hl e) (TI ic h (eo hl (j:=1) (by omega)) (pJ (x:=ah l 1) k1) hf.1)
 ·refine⟨easy (by omega) (by omega),?_⟩;have hlen:l.places.length=1:=by rw[hl.ok.cP,e];rfl
  have k0:=eT hl.fits (j:=0) (by omega);rw[e]at k0;have o0:=A4 (x:=ah l 0) k0 (eo hl (j:=0) (by omega)).2;have hh:QP.ab q (ah l 0)=[ah l 0]:=by
   rcases bH q (ah l 0)with⟨e,-⟩|⟨-,-,e⟩
   ·exact e
   ·omega
  rw[bj,ja (by rw[e];decide),ja (by omega),jb e,cF,ja (by omega),ja (by omega),Own.fy,ja (by omega),ja (by omega),ja (by omega),ja (by omega),ja (by omega),ja (by omega),ja (by omega),jb (by omega),hh];unfold j7;rw[(ij _ _).2.2.2];exact lB.put h (ag (ah l 0)) (.inl (by unfold oq;rw[jb rfl];decide)) (fun k hk=>by cases hk)
 ·refine⟨easy (by omega) (by omega),?_⟩;have hlen:l.places.length=2:=by rw[hl.ok.cP,e];rfl
  obtain⟨h0,h1,h2,h3⟩:=ru hl e;rw[aL,ja (by omega),ja (by omega),ja (by omega),jb (by omega),CS]at hf;rw[bj,jb (by rw[e];rfl),cF,ja (by omega),jb e,Own.fy,ja (by omega),ja (by omega),ja (by omega),ja (by omega),ja (by omega),ja (by omega),jb (by omega),h0,h1];refine Ie h [ah l 0] [ah l 1] rfl (fun n hn=> ?_);simp only[Own.take,List.mem_singleton]at hn;subst hn;have:=rV ic h (eo hl (j:=1) (by omega)).1 h3 hf;unfold oq;rw[ja (by omega)];decide
 ·refine⟨easy (by omega) (by omega),?_⟩;rw[bj,ja (by rw[e];decide),ja (by omega),ja (by omega),jb e,cF,ja (by omega),ja (by omega),Own.fy,ja (by omega),ja (by omega),ja (by omega),ja (by omega),ja (by omega),ja (by omega),ja (by omega),jb (by omega)];unfold j7;rw[(ij _ _).2.2.2];exact BT _ h
theorem QB (hl:kH q l)(h:j7 q s o)(aw:l.op=6):j7 q (bj q l s) (o.calc l):=by
 rw[kR (by rw[aw];rfl) (by omega)];exact pR h (kq hl (by omega)) rfl
theorem Vq (h:j7 q s o)(aw:l.op=9)(v:Int):j7 q (bj q l s) ((o.drop [ah l 0]).new (ah l 0) v):=by
 rw[kR (by rw[aw];rfl) (by omega)];have e:((o.drop [ah l 0]).new (ah l 0) v).boxes=o.boxes.set (ag (ah l 0)) ((o.drop [ah l 0]).yd.made.length+1):=by
  show(o.drop [ah l 0]).boxes.set _ _=_
  rw[(ij _ _).2.2.2];show(o.boxes.set (ag (ah l 0)) 0).set _ _=_
  rw[List.set_set]
 unfold j7;rw[e];exact lB.put h _ (.inl (by unfold oq;rw[ja (by omega)];decide)) (fun k hk=>by cases hk)
theorem Ty (_hls:q.locals.length<=12)(h:j7 q s o):j7 q (cu l (if o.other l then 1 else 0) s) o:=by
 unfold cu;by_cases e:l.op=20
 ·rw[jb e];refine⟨h.lb,by simpa [gR]using h.ls,fun k hk hn ht=> ?_⟩;show oq _ ((s.set (ag (l.places.getD 0 (0,0))) _).getD k 0)
  rw[dz,h.ls];by_cases ek:ag (l.places.getD 0 (0,0))=k
  ·rw[jb ⟨ek,hk⟩];have ho:o.other l= !(o.boxes.getD k 0==0):=by
    unfold Own.other;rw[ja (by omega),jb e];unfold Own.box;rw[ek]
   rw[ho];by_cases hz:o.boxes.getD k 0=0
   ·rw[hz];unfold oq;decide
   ·have hb:(o.boxes.getD k 0==0)=false:=by rw[jZ];exact hz
    rw[hb];unfold oq;rw[ja hz];decide
  ·rw[ja (fun x=>ek x.1)];exact h.at_ k hk hn ht
 ·rw[ja e];exact h
theorem DL (q:QP)(ak:List Int):j7 q aU (Own.start ak):=
 ⟨by simp[Own.start],by decide,fun k hk _ _=>by
  have h1:(Own.start ak).boxes.getD k 0=0:=by show(List.replicate 24 0).getD k 0=0;rw[jA,jO,jb hk];rfl
  have h2:aU.getD k 0=1:=by show(List.replicate 24 1).getD k 0=1;rw[jA,jO,jb hk];rfl
  rw[h1,h2];unfold oq;decide⟩
end
end RunB
namespace Bal
open Go Sq Go.Proofs.YtmlgajhhnojdjaaGreatDoor.Own
structure Qp where
 live:List Bool
 count:Int
 right:Bool
def Qp.nil:Qp:=⟨[],0,true⟩
def Vv (n:Int)(c:UInt8):Int:=10*n+(c.toNat:Int)-48
def LB (l:B):Int:=(l.take 8).foldl Vv 0
def Qp.word (s:Qp):B->Qp
 |[]=>{s with right:=false}
 |c::r=>
  if c=111 then s
  else if c=43 then⟨s.live++[true],s.count+1,s.right&&(LB r==(s.live.length:Int)+1)⟩
  else if LB r<1\/LB r>(s.live.length:Int)\/s.live.getD ((LB r).toNat-1) false=false then{s with right:=false}
  else if c=45 then⟨s.live.set ((LB r).toNat-1) false,s.count-1,s.right⟩
  else s
def xl (ws:List B):Qp:=ws.foldl Qp.word .nil
theorem sj (ws:List B)(b:B):xl (ws++[b])=(xl ws).word b:=by simp[xl]
theorem JU (u:Nat):(Lib.decDigits u).foldl Vv 0=(u:Int):=by
 induction u using Nat.strongRecOn with
 |_ u ih=>
  by_cases h:u<10
  ·rw[Lib.decDigits,dif_pos h];simp only[List.foldl_cons,List.foldl_nil,Vv,UInt8.toNat_ofNat'];omega
  ·rw[Lib.decDigits,dif_neg h,List.foldl_append,ih (u/10) (by omega)];simp only[List.foldl_cons,List.foldl_nil,Vv,UInt8.toNat_ofNat'];omega
theorem Az:∀(k u:Nat),u<10^(k+1)->Lib.nDigits u<=k+1
 |0,u,h=>by rw[Lib.nDigits_small (by simpa using h)];omega
 |k+1,u,h=>by
  by_cases hs:u<10
  ·rw[Lib.nDigits_small hs];omega
  ·rw[Lib.nDigits_big hs];have:=Az k (u/10) (by rw[Nat.pow_succ]at h;omega);omega
theorem RZ (u:Nat):Lib.itoa (u:Int)=Lib.decDigits u:=by
 unfold Lib.itoa;rw[ja (by omega)];simp
theorem Bq {u:Nat}(h:u<100000000):LB (Lib.itoa (u:Int))=u:=by
 rw[RZ,LB,List.take_of_length_le (by rw[Lib.decDigits_length];exact Az 7 u (by simpa using h)),JU]
theorem Eb (u:Nat):∀c∈Lib.decDigits u,48<=c.toNat/\c.toNat<=57:=by
 induction u using Nat.strongRecOn with
 |_ u ih=>
  intro c hc;by_cases h:u<10
  ·rw[Lib.decDigits,dif_pos h,jI]at hc;rw[hc,UInt8.toNat_ofNat'];omega
  ·rw[Lib.decDigits,dif_neg h,List.mem_append,jI]at hc;rcases hc with hc|hc
   ·exact ih _ (by omega) c hc
   ·rw[hc,UInt8.toNat_ofNat'];omega
theorem La (n:Int):(32:UInt8)∉Lib.itoa n:=by
 intro h;have key:∀u,(32:UInt8)∉Lib.decDigits u:=fun u hu=>by
  have:=(Eb u _ hu).1;exact absurd this (by decide)
 unfold Lib.itoa at h;split at h
 ·rcases jP.1 h with h|h
  ·cases h
  ·exact key _ h
 ·exact key _ h
def Bf (y:Yd)(n:Nat):Nat:=if(y.at n).2=true then 1 else 0
structure kG (cs:List Nat)(y:Yd):Prop where
 told:y.made.length<10000000->xl y.trace=⟨y.made.map (·.2),y.live,true⟩
 WJ:∀n,1<=n->cs.count n=Bf y n
 sum:y.live=(((y.made.map (·.2)).count true:Nat):Int)
 words:∀b∈y.trace,b≠[]/\(32:UInt8)∉b
section
variable {cs ds:List Nat} {y:Yd} {n:Nat}
theorem kG.congr (h:kG cs y)(he:∀n,1<=n->ds.count n=cs.count n):kG ds y:=⟨h.told,fun n hn=>(he n hn).trans (h.WJ n hn),h.sum,h.words⟩
theorem so {l:List B}(h:∀b∈l,b≠[]/\(32:UInt8)∉b)(c:UInt8)(hc:c≠32)(n:Int):∀b∈l++[c::Lib.itoa n],b≠[]/\(32:UInt8)∉b:=fun b hb=>by
 rcases List.mem_append.1 hb with hb|hb
 ·exact h b hb
 ·rw[jI.1 hb];refine⟨by simp,fun hm=> ?_⟩;rcases jP.1 hm with hm|hm
  ·exact hc hm.symm
  ·exact La n hm
theorem kG.out (h:kG cs y)(m:Int):kG cs (y.note 111 m):=by
 refine⟨fun hm=> ?_,h.WJ,h.sum,so h.words 111 (by decide) m⟩;have:=h.told hm;show xl (y.trace++[111::Lib.itoa m])=_
 rw[sj,this];rfl
theorem D0 (h:(y.at n).2=true):n-1<y.made.length:=by
 rcases Nat.lt_or_ge (n-1) y.made.length with h1|h1
 ·exact h1
 ·rw[Yd.at,jA,jG h1]at h;cases h
theorem xy (y:Yd)(n:Nat):(y.made.map (·.2)).getD (n-1) false=(y.at n).2:=by
 rw[Yd.at,jA,jA,jJ];cases y.made[n-1]?<;>rfl
theorem kG.build (h:kG cs y)(v:Int):kG ((y.made.length+1)::cs) (y.build v):=by
 refine⟨fun hm=> ?_,fun n hn=> ?_,?_,so h.words 43 (by decide) _⟩
 ·have Oh:y.made.length+1<10000000:=by simpa [Yd.build,Yd.note]using hm
  show xl (y.trace++[43::Lib.itoa ((y.made.length+1:Nat):Int)])=⟨(y.made++[(v,true)]).map (·.2),y.live+1,true⟩
  rw[sj,h.told (by omega)];simp only[Qp.word];rw[ja (by decide),jb trivial,Bq (by omega)];simp
 ·rw[List.count_cons,h.WJ n hn];show _=if((y.made++[(v,true)]).getD (n-1) (0,false)).2=true then 1 else 0
  unfold Bf Yd.at;rw[jA,jA,List.getElem?_append];by_cases h1:n-1<y.made.length
  ·rw[jb h1];have:(y.made.length+1==n)=false:=by simp;omega
   rw[this];simp
  ·rw[ja h1,jG (by omega)];by_cases h2:n=y.made.length+1
   ·subst h2;simp
   ·have:(y.made.length+1==n)=false:=by simp;omega
    rw[this,jG (by simp;omega)];simp
 ·show y.live+1=((((y.made++[(v,true)]).map (·.2)).count true:Nat):Int)
  rw[h.sum];simp
theorem kG.EL (h:kG cs y)(hn:1<=n)(hc:n∈cs):(y.at n).2=true:=by
 have h1:=h.WJ n hn;have h2:=List.count_pos_iff.2 hc;unfold Bf at h1;split at h1
 ·assumption
 ·omega
theorem kG.free (h:kG (n::cs) y)(hn:1<=n):kG cs (y.free n):=by
 have hl:=h.EL hn (jM ..);have aK:=D0 hl;refine⟨fun hm=> ?_,fun k hk=> ?_,?_,so h.words 45 (by decide) _⟩
 ·have Oh:y.made.length<10000000:=by simpa [Yd.free,Yd.note]using hm
  show xl (y.trace++[45::Lib.itoa ((n:Nat):Int)])=⟨(y.made.set (n-1) ((y.at n).1,false)).map (·.2),y.live-1,true⟩
  rw[sj,h.told Oh];simp only[Qp.word];rw[ja (by decide),ja (by decide),Bq (by omega),ja,jb trivial,List.map_set]
  ·simp
  ·rw[Int.toNat_natCast,xy,hl,jc];rintro(e|e|e)
   ·omega
   ·omega
   ·cases e
 ·have h1:=h.WJ k hk;rw[List.count_cons]at h1;show _=if((y.made.set (n-1) ((y.at n).1,false)).getD (k-1) (0,false)).2=true then 1 else 0
  rw[jA];by_cases e:n=k
  ·subst e;rw[List.getElem?_set_self aK];unfold Bf at h1;rw[jb hl]at h1;simp at h1⊢;exact h1
  ·rw[List.getElem?_set_ne (by omega)];have:(n==k)=false:=by simp;omega
   rw[this]at h1;simpa [Bf,Yd.at,List.getD_eq_getElem?_getD]using h1
 ·show y.live-1=(((((y.made.set (n-1) ((y.at n).1,false)).map (·.2)).count true:Nat)):Int)
  rw[List.map_set,List.count_set (by simpa using aK),h.sum];have hg:(y.made.map (·.2))[n-1]'(by simpa using aK)=true:=by
   have:=xy y n;rw[jA,jB (by simpa using aK)]at this;rw[hl]at this;exact this
  rw[hg];have hp:1<=(y.made.map (·.2)).count true:=List.count_pos_iff.2 (hg▸jL _);simp;omega
theorem PO {s:Qp}{c:UInt8}(h1:¬c=111)(h2:¬c=43)(h3:¬c=45){n:Nat}(hn:1<=n)(h8:n<100000000)(hl:s.live.getD (n-1) false=true):s.word (c::Lib.itoa (n:Int))=s:=by
 have aK:n-1<s.live.length:=by
  rcases Nat.lt_or_ge (n-1) s.live.length with h|h
  ·exact h
  ·rw[jA,jG h]at hl;cases hl
 simp only[Qp.word];rw[ja h1,ja h2,Bq h8,ja,ja h3];rw[Int.toNat_natCast,hl];rintro(e|e|e)
 ·omega
 ·omega
 ·cases e
theorem kG.use (h:kG cs y)(hn:1<=n)(hc:n∈cs)(c:UInt8)(h1:¬c=111)(h2:¬c=43)(h3:¬c=45)(h4:c≠32):kG cs (y.note c (n:Nat)):=by
 have hl:=h.EL hn hc;have aK:=D0 hl;refine⟨fun hm=> ?_,h.WJ,h.sum,so h.words c h4 _⟩;have Oh:y.made.length<10000000:=hm;show xl (y.trace++[c::Lib.itoa ((n:Nat):Int)])=_
 rw[sj,h.told Oh,PO h1 h2 h3 hn (by omega) (by rw[xy];exact hl)];rfl
theorem kG.load (h:kG cs y)(hn:1<=n)(hc:n∈cs):kG cs (y.load n):=h.use hn hc 60 (by decide) (by decide) (by decide) (by decide)
theorem kG.store (h:kG cs y)(hn:1<=n)(hc:n∈cs)(v:Int):kG cs (y.store n v):=by
 have hs:=h.use hn hc 62 (by decide) (by decide) (by decide) (by decide);have hm:(y.made.set (n-1) (v,(y.at n).2)).map (·.2)=y.made.map (·.2):=by
  rw[List.map_set];have:=D0 (h.EL hn hc);refine List.ext_getElem? fun k=> ?_
  rw[jd];by_cases e:n-1=k
  ·subst e;rw[jb rfl,jb (by simpa using this),<-xy,jA,jB (by simpa using this)];rfl
  ·rw[ja e]
 refine⟨fun hk=> ?_,fun k hk=> ?_,?_,hs.words⟩
 ·have:=hs.told (by simpa [Yd.store,Yd.note]using hk);show xl _=⟨(y.made.set (n-1) (v,(y.at n).2)).map (·.2),y.live,true⟩
  rw[hm];exact this
 ·rw[h.WJ k hk];unfold Bf;rw[<-xy,<-xy];show(if(y.made.map (·.2)).getD (k-1) false=true then 1 else 0)=if((y.made.set (n-1) (v,(y.at n).2)).map (·.2)).getD (k-1) false=true then 1 else 0
  rw[hm]
 ·show y.live=((((y.made.set (n-1) (v,(y.at n).2)).map (·.2)).count true:Nat):Int)
  rw[hm];exact h.sum
end
end Bal
namespace RunB
open Go Sq Aux Go.Proofs.YtmlgajhhnojdjaaGreatDoor.Own RunA PrjS FlwA FlwB FlwC FlwD FlwE FlwF FlwG FlwH FlwI FlwJ FlwK FlwM FlwO FlwP FlwQ FlwS FlwV FlwY FlwZ
structure Steps (q:QP)(J:List Nat->Own.Own->Prop):Prop where
 fy:∀l s o,kH q l->km l.op->eH s->aL q l s=false->J s o->o.bD l=true/\J (bj q l s) (o.fy q l)
 Zi:∀l s o,kH q l->l.op=6->eH s->aL q l s=false->J s o->J (bj q l s) (o.calc l)
 new:∀l s o,kH q l->l.op=9->eH s->aL q l s=false->J s o->J (bj q l s) ((o.drop [ah l 0]).new (ah l 0) (o.num (ah l 1)))
 term:∀l s o,kH q l->l.op=18\/l.op=19\/l.op=20->eH s->aL q l s=false->J s o->J (cu l (if o.other l then 1 else 0) s) o
 mono:∀s t o,eH s->eH t->la s t->J s o->J t o
def WM (q:QP)(J:List Nat->Own.Own->Prop)(room:Int)(ans:Nat×Int×Own.Own):Prop:=
 ∃s o,J s o/\((ans=(2,0,o))\/(ans=(4,0,o))\/(∃l,kH q l/\l.op=9/\(o.drop [ah l 0]).yd.live≥room/\ans=(3,0,o.drop [ah l 0]))\/∃l,kH q l/\l.op=22/\ans=(1,o.num (ah l 0),o.dM q q.locals.length))
theorem lY {q:QP}(ic:q.locals.length<=12):Steps q (j7 q) where
 fy:=fun _ _ _ hl FD _ hf h=>Si hl ic hf h FD
 Zi:=fun _ _ _ hl aw _ _ h=>QB hl h aw
 new:=fun _ _ _ _ aw _ _ h=>Vq h aw _
 term:=fun _ _ _ _ _ _ _ h=>Ty ic h
 mono:=fun _ _ _ _ ht hl h=>lB.mono h ht.len hl
theorem Ml {l:aa}{ls:List aa}(h:Whole (l::ls)):(18<=l.op/\ls=[])\/(l.op<18/\Whole ls):=by
 obtain⟨us,t,e,h1,h2⟩:=h;cases us with
 |nil=>simp only[List.nil_append,List.cons.injEq]at e;exact .inl ⟨by rw[e.1];exact h1,e.2⟩
 |cons a us=>
  simp only[List.cons_append,List.cons.injEq]at e;exact .inr ⟨by rw[e.1];exact h2 a (jM ..),us,t,e.2,h1,fun m hm=>h2 m (jN _ hm)⟩
theorem Ds {q:QP}{l:aa}(hl:kH q l)(h:l.op<18):l.next=[]:=by
 have key:∀op:Fin 18,((ae op.val).filter (·==98)).length=0:=by decide
 have:=hl.ok.EP;rw[show((ae l.op).filter (·==98)).length=0 from key ⟨l.op,h⟩]at this;exact List.length_eq_zero_iff.mp this
theorem rl {q:QP}{l:aa}(hl:kH q l):km l.op\/l.op=6\/l.op=9\/l.op=18\/l.op=19\/l.op=20\/l.op=22:=by
 have h1:=hl.ok.op;have h2:=hl.ok.op2;have h3:=hl.has;unfold pD at h3;unfold km;by_cases e:l.op=16\/l.op=17\/l.op=21
 ·rw[ja (by omega),jb e]at h3;cases h3
 ·omega
theorem M7 (l:aa)(s:List Nat){i:Nat}(hi:i<l.next.length)(h2:l.next.length<=2):(l.next.getD i 0,cu l i s)∈kQ l l.next 0 s:=by
 match hn:l.next,h2 with
 |[],_=>rw[hn]at hi;simp at hi
 |[n],_=>
  rw[hn]at hi;have:i=0:=by simp at hi;omega
  subst this;simp[kQ]
 |[n,m],_=>
  rw[hn]at hi;have:i=0\/i=1:=by simp at hi;omega
  rcases this with rfl|rfl
  ·simp[kQ]
  ·have e:cu l 1 (cu l 0 s)=cu l 1 s:=by
    unfold cu;split
    ·simp only[gR,List.foldl_cons,List.foldl_nil,List.set_set]
    ·rfl
   simp[kQ,e]
 |_::_::_::_,h=>simp at h
theorem WB {q:QP}{l:aa}(ic:q.locals.length<=12)(hl:kH q l):Qm l:=fun x hx=>by have:=(hl.ok.places x hx).1;omega
theorem LW {q:QP}{J:List Nat->Own.Own->Prop}(ic:q.locals.length<=12)(hS:Shape q)(hq:Jw q.blocks.length q)(U:Nat->List Nat)(hU:rP q U)(kM:∀b,b<q.blocks.length->U b=aq\/Full (U b))
  (gW:∀b,b<q.blocks.length->¬U b=aq->cW q (q.blocks.getD b []) (U b)=none) (H:Steps q J) (room:Int):
  ∀(f:Nat) (ls:List aa) (s:List Nat) (o:Own.Own),Whole ls->(∀l∈ls,kH q l)->eH s->Full s->cW q ls s=none->(∀x∈ej q ls s,la x.2 (U x.1))->J s o->∃ans,dZ q room f ls o=some ans/\WM q J room ans
 |f,[],s,o,hw,_,_,_,_,_,_=>by
  obtain⟨us,t,e,-⟩:=hw;simp at e
 |0,l::ls,s,o,_,_,_,_,_,_,h=>⟨(2,0,o),rfl,s,o,h,.inl rfl⟩
 |f+1,l::ls,s,o,hw,kZ,hs,hf,kY,j9,h=>by
  have hl:=kZ l (jM ..);rw[cW]at kY;have Oe:aL q l s=false:=by
   cases hv:aL q l s with
   |false=>rfl
   |true=>rw[hv,jb rfl]at kY;cases kY
  rw[Oe,ja (by decide)]at kY;rcases Ml hw with⟨sv,rfl⟩|⟨sv,hw2⟩
  ·have ho:=rl hl;unfold km at ho;by_cases TO:l.op=22
   ·refine⟨_,?_,s,o,h,.inr (.inr (.inr ⟨l,hl,TO,rfl⟩))⟩;rw[dZ,ja (by omega),ja (by omega),ja (by omega),jb TO]
   ·have aw:l.op=18\/l.op=19\/l.op=20:=by omega
    have lg:l.next.length=if l.op=18 then 1 else 2:=by
     rw[hl.ok.EP];rcases aw with e|e|e<;>rw[e]<;>rfl
    have hi:(if o.other l then 1 else 0)<l.next.length:=by
     rw[lg];by_cases e:l.op=18
     ·have:o.other l=false:=by rw[Own.other,ja (by omega),ja (by omega)]
      rw[this,jb e];decide
     ·rw[ja e];split<;>omega
    have hp:bj q l s=s:=oY (by rcases aw with e|e|e<;>rw[e]<;>rfl) (by omega) (by omega) (by omega);have xT:=M7 l s hi (by rw[lg];split<;>omega);have hle:=j9 (l.next.getD (if o.other l then 1 else 0) 0,cu l (if o.other l then 1 else 0) s) (by rw[ej,hp];exact List.mem_append_left _ xT);have hb:l.next.getD (if o.other l then 1 else 0) 0<q.blocks.length:=hl.ok.next _ (by rw[jA,jB hi];exact jL _);have iq:=gu l (if o.other l then 1 else 0) hs;have ea:=cQ iq hle (vw (oK l _ hf));have hJ:=H.mono _ _ _ iq (hU.ok _ hb) hle (H.term l s o hl aw hs Oe h);obtain⟨ans,h1,h2⟩:=LW ic hS hq U hU kM gW H room f (q.blocks.getD (l.next.getD (if o.other l then 1 else 0) 0) []) _ o (hS.whole _ hb) (fun m hm=>⟨hq.lines _ (lZ hm) m hm,hS.has _ m hm,hS.fits _ m hm⟩) (hU.ok _ hb) ((kM _ hb).resolve_left ea) (gW _ hb ea) (fun x hx=>hU.step _ hb ea x hx) hJ;refine⟨ans,?_,h2⟩;rw[dZ,ja (by omega),ja (by omega),jb aw,jb rfl];exact h1
  ·have mP:=Ds hl sv;have B9:=gi q l hs;have FC:=xK q (WB ic hl) hf;have RJ:∀x∈ej q ls (bj q l s),la x.2 (U x.1):=fun x hx=>j9 x (by rw[ej,mP];simpa [kQ,T8]using hx)
   have ih:=fun o' (hJ:J (bj q l s) o')=>LW ic hS hq U hU kM gW H room f ls (bj q l s) o' hw2 (fun m hm=>kZ m (jN _ hm)) B9 FC kY RJ hJ
   rcases rl hl with FD|aw|aw|aw|aw|aw|aw
   ·obtain⟨hn,hJ⟩:=H.fy l s o hl FD hs Oe h;obtain⟨ans,h1,h2⟩:=ih _ hJ;refine⟨ans,?_,h2⟩;have hgo':=FD;unfold km at hgo';rw[dZ,ja (by omega),ja (by omega),ja (by omega),ja (by omega),jb hn];exact h1
   ·by_cases hz:o.num (ah l 2)=0
    ·refine⟨_,?_,s,o,h,.inr (.inl rfl)⟩;rw[dZ,jb aw,jb hz]
    ·obtain⟨ans,h1,h2⟩:=ih _ (H.Zi l s o hl aw hs Oe h);refine⟨ans,?_,h2⟩;rw[dZ,jb aw,ja hz];exact h1
   ·by_cases hr:(o.drop [ah l 0]).yd.live≥room
    ·refine⟨_,?_,s,o,h,.inr (.inr (.inl ⟨l,hl,aw,hr,rfl⟩))⟩;rw[dZ,ja (by omega),jb aw,jb hr]
    ·obtain⟨ans,h1,h2⟩:=ih _ (H.new l s o hl aw hs Oe h);refine⟨ans,?_,h2⟩;rw[dZ,ja (by omega),jb aw,ja hr];exact h1
   ·omega
   ·omega
   ·omega
   ·omega
theorem cE (f:Nat->Option Nat):∀(m k:Nat),aB f m k=none->∀c,k<=c->c<k+m->f c=none
 |0,_,_,c,h1,h2=>by omega
 |m+1,k,h,c,h1,h2=>by
  rw[aB]at h;cases hk:f k with
  |some v=>rw[hk]at h;cases h
  |none=>
   rw[hk,Option.none_or]at h;by_cases e:c=k
   ·rw[e];exact hk
   ·exact cE f m (k+1) h c (by omega) (by omega)
theorem IS {text:B}{p:RP}{q:QP}{E:List (List Nat)}(hD:lA text p q E)(hr:bc text false=(some q,0,0))(hn:aB (cU q E) q.blocks.length 0=none){J:List Nat->Own.Own->Prop}(H:Steps q J){ak:List Int}(hJ:J aU (Own.start ak))(room:Int)(f:Nat):
  ∃ans,dZ q room f (q.blocks.getD 0 []) (Own.start ak)=some ans/\WM q J room ans:=by
 have hS:=tB hr;have hq:=hD.both.Yn;have ic:=hD.both.aV;have hI:=hD.inv.inv;have hU:rP q (fun b=>E.getD b []):=⟨fun b hb=>hD.ok hb,hI.start,fun b hb hz x hx=>hI.step b hb rfl hz x hx⟩;have h0:¬E.getD 0 []=aq:=cQ ⟨by decide,fun k=>by
  by_cases hk:k<24
  ·have:aU.getD k 0=1:=by show(List.replicate 24 1).getD k 0=1;rw[jA,jO,jb hk];rfl
   rw[this];decide
  ·rw[jA,jG (by show(List.replicate 24 1).length<=k;simp;omega)];decide⟩ hI.start (vw pB)
 have gW:∀b,b<q.blocks.length->¬E.getD b []=aq->cW q (q.blocks.getD b []) (E.getD b [])=none:=fun b hb hz=>by
  have:=cE _ _ _ hn b (jQ _) (by omega);rw[cU,ja hz]at this;exact this
 have hstok:eH aU:=⟨by decide,fun k=>by
  by_cases hk:k<24
  ·have:aU.getD k 0=1:=by show(List.replicate 24 1).getD k 0=1;rw[jA,jO,jb hk];rfl
   rw[this];decide
  ·rw[jA,jG (by show(List.replicate 24 1).length<=k;simp;omega)];decide⟩
 exact LW ic hS hq (fun b=>E.getD b []) hU hD.inv.full gW H room f (q.blocks.getD 0 []) (E.getD 0 []) (Own.start ak) (hS.whole 0 hD.pos) (fun m hm=>⟨hq.lines _ (lZ hm) m hm,hS.has _ m hm,hS.fits _ m hm⟩) (hD.ok hD.pos) ((hD.inv.full 0 hD.pos).resolve_left h0) (gW 0 hD.pos h0) (fun x hx=>hU.step 0 hD.pos h0 x hx) (H.mono _ _ _ hstok (hD.ok hD.pos) hI.start hJ)
end RunB
end Go.Proofs.YtmlgajhhnojdjaaGreatDoor

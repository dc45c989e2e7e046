import Derived.Test.YtmlgajhhnojdjaaGreatDoorRBM
namespace Go.Proofs.YtmlgajhhnojdjaaGreatDoor
namespace RunB
open Go Sq Aux Go.Proofs.YtmlgajhhnojdjaaGreatDoor.Own RunA PrjS FlwA FlwB FlwC FlwD FlwE FlwF FlwG FlwH FlwI FlwJ FlwK FlwM FlwO FlwP FlwQ FlwS FlwY
section
variable {q:QP} {l:ab} {s:List Nat} {o:Own.Own}
theorem er (hl:kI q l){j:Nat}(hj:j<l.places.length):(ai l j).1<q.locals.length/\(ai l j).2<=3:=
 hl.ok.places _ (by unfold ai;rw[jA,jB hj];exact jL _)
theorem CT (l:ab)(j:Nat):ab.at l j=ai l j:=rfl
theorem rW (ie:q.locals.length<=12)(h:j8 q s o){p:Nat×Nat}(hp:p.1<q.locals.length)(ht:¬q.bB p.1=0)(hn:bA 2 [p] s=false):1<=o.box p:=by
 have hk:=lC.at_ h (ah p) (ig (by omega)) (by simp) (by rw[dB];exact ht);simp only[bA,List.any_cons,List.any_nil,Bool.or_false]at hn;have:=A6 hn hk;show 1<=o.boxes.getD (ah p) 0
 omega
theorem bI (q:QP)(x:Nat×Nat):QP.ae q x=[x]/\¬(x.2=0/\q.bB x.1=2)\/QP.ae q x=[(x.1,1),(x.1,2)]/\x.2=0/\q.bB x.1=2:=by
 unfold QP.ae;by_cases h:x.2=0/\q.bB x.1=2
 ·exact .inr ⟨by rw[jb h],h⟩
 ·exact .inl ⟨by rw[ja h],h⟩
theorem rq (hl:kI q l)(cg:l.op=12):(QP.ae q (ai l 0)).length=(QP.ae q (ai l 1)).length:=by
 have hk:=N0 hl.fits cg;have hlen:l.places.length=2:=by rw[hl.ok.cQ,cg];rfl
 have h0:=(er hl (j:=0) (by omega)).2;have h1:=(er hl (j:=1) (by omega)).2;unfold QP.bt at hk;rcases bI q (ai l 0)with⟨e,h⟩|⟨e,h,h'⟩<;>rcases bI q (ai l 1)with⟨e2,h2⟩|⟨e2,h2,h2'⟩<;>rw[e,e2]
 ·rfl
 ·exfalso;rw[ja (show¬((ai l 1).2=1\/(ai l 1).2=2\/(ai l 1).2=3) by omega)]at hk;by_cases hp:(ai l 0).2=1\/(ai l 0).2=2\/(ai l 0).2=3
  ·rw[jb hp]at hk;omega
  ·rw[ja hp]at hk;exact h ⟨by omega,by omega⟩
 ·exfalso;rw[ja (show¬((ai l 0).2=1\/(ai l 0).2=2\/(ai l 0).2=3) by omega)]at hk;by_cases hp:(ai l 1).2=1\/(ai l 1).2=2\/(ai l 1).2=3
  ·rw[jb hp]at hk;omega
  ·rw[ja hp]at hk;exact h2 ⟨by omega,by omega⟩
 ·rfl
theorem rv (hl:kI q l)(B6:l.op=14):QP.ae q (ai l 0)=[ai l 0]/\QP.ae q (ai l 1)=[ai l 1]/\q.bB (ai l 0).1=3/\¬q.bB (ai l 1).1=0:=by
 have hlen:l.places.length=2:=by rw[hl.ok.cQ,B6];rfl
 have k0:=eU hl.fits (j:=0) (by omega);have k1:=eU hl.fits (j:=1) (by omega);rw[B6]at k0 k1;have o0:=A5 (x:=ai l 0) k0 (er hl (j:=0) (by omega)).2;have o1:=qX (x:=ai l 1) k1;refine⟨?_,?_,o0.1,o1.1⟩
 ·rcases bI q (ai l 0)with⟨e,-⟩|⟨-,-,e⟩
  ·exact e
  ·omega
 ·rcases bI q (ai l 1)with⟨e,-⟩|⟨-,e1,e2⟩
  ·exact e
  ·exact absurd ⟨e1,e2⟩ o1.2.1
theorem TJ (ie:q.locals.length<=12)(h:j8 q s o){x:Nat×Nat}(hx:x.1<q.locals.length/\x.2<=3)(ht:¬q.bB x.1=0)(ir:gU q x s=false):∀n∈(Own.take (QP.ae q x) o).1,ot n (dn q x s):=by
 have hf:=fun k hk ht=>lC.at_ h k hk (by simp) ht
 rcases bI q x with⟨e,hn⟩|⟨e,h0,h2⟩
 ·rw[e];have hk:=hf (ah x) (ig (by omega)) (by rw[dB];exact ht);intro n hm;simp only[Own.take,List.mem_singleton]at hm;subst hm;unfold dn;by_cases h3:q.bt x=3
  ·rw[jb h3];exact hk
  ·rw[ja h3];unfold gU at ir;rw[ja h3,e]at ir;have:=rW ie h hx.1 ht ir;unfold ot;rw[ja (by omega)];decide
 ·have h3:¬q.bt x=3:=by unfold QP.bt;rw[ja (by omega)];omega
  unfold gU at ir;rw[ja h3,e]at ir;unfold dn;rw[ja h3,e];simp only[bA,List.any_cons,List.any_nil,Bool.or_false,Bool.or_eq_false_iff]at ir;have s1:ah (x.1,1)=2*x.1:=rfl;have s2:ah (x.1,2)=2*x.1+1:=rfl;have k1:=A6 ir.1 (hf _ (ig (x:=(x.1,1)) (by show x.1<12;omega)) (by rw[dB];exact ht));have k2:=A6 ir.2 (hf _ (ig (x:=(x.1,2)) (by show x.1<12;omega)) (by rw[dB];exact ht));intro n hm;simp only[Own.take,List.mem_cons,List.not_mem_nil,or_false]at hm;unfold ot;rcases hm with rfl|rfl
  ·rw[ja (show¬o.box (x.1,1)=0 from k1)];decide
  ·have:(o.clear (x.1,1)).box (x.1,2)=o.boxes.getD (ah (x.1,2)) 0:=by
    unfold Own.clear Own.box;rw[dA,ja (by rw[s1,s2];omega)]
   rw[this,ja k2];decide
theorem pS (h:j8 q s o){p:Nat×Nat}(ht:q.bB p.1=0){o':Own.Own}(hb:o'.boxes=o.boxes):j8 q (s.set (ah p) 2) o':=by
 unfold j8;rw[hb];exact lC.free h _ _ (by rw[dB];exact ht)
theorem kS (hp:oQ l.op=true)(B6:¬l.op=14):bm q l s=s.set (ah (ai l 0)) 2:=by
 have cg:¬l.op=12:=fun e=>by rw[e]at hp;cases hp
 rw[bm,jb hp,cG,ja cg,ja B6];rfl
theorem oZ (hp:oQ l.op=false)(cg:¬l.op=12)(Eo:¬l.op=13)(sv:¬l.op=15):bm q l s=s:=by
 have B6:¬l.op=14:=fun e=>by rw[e]at hp;cases hp
 rw[bm,ja (by rw[hp];decide),ja cg,ja Eo,ja sv,cG,ja cg,ja B6]
theorem ks (hl:kI q l)(ax:l.op=2\/l.op=3\/l.op=4\/l.op=5\/l.op=6\/l.op=7\/l.op=10):q.bB (ai l 0).1=0:=by
 have key:∀op:Fin 23,(op.val=2\/op.val=3\/op.val=4\/op.val=5\/op.val=6\/op.val=7\/op.val=10)->0<((ag op.val).filter sM).length/\(ag op.val).getD 0 0=105:=by decide
 obtain⟨k1,k2⟩:=key ⟨l.op,hl.ok.op⟩ ax;have:=eU hl.fits (j:=0) (by rw[hl.ok.cQ];exact k1);have k3:(ag l.op).getD 0 0=105:=k2;rw[k3]at this;exact Hg this
theorem Sj (hl:kI q l)(ie:q.locals.length<=12)(hf:aM q l s=false)(h:j8 q s o)(FE:ko l.op):o.bE l=true/\j8 q (bm q l s) (o.fz q l):=by
 have easy:¬l.op=10->¬l.op=11->o.bE l=true:=fun h1 h2=>by unfold Own.bE;rw[ja h1,ja h2]
 rcases FE with e|e|e|e|e|e|e|e|e|e|e|e
 ·refine⟨easy (by omega) (by omega),?_⟩;rw[kS (by rw[e];rfl) (by omega),Own.fz,jb e];exact pS h (ks hl (by omega)) rfl
 ·refine⟨easy (by omega) (by omega),?_⟩;rw[kS (by rw[e];rfl) (by omega),Own.fz,ja (by omega),jb (by omega)];exact pS h (ks hl (by omega)) rfl
 ·refine⟨easy (by omega) (by omega),?_⟩;rw[kS (by rw[e];rfl) (by omega),Own.fz,ja (by omega),jb (by omega)];exact pS h (ks hl (by omega)) rfl
 ·refine⟨easy (by omega) (by omega),?_⟩;rw[kS (by rw[e];rfl) (by omega),Own.fz,ja (by omega),jb (by omega)];exact pS h (ks hl (by omega)) rfl
 ·refine⟨easy (by omega) (by omega),?_⟩;rw[kS (by rw[e];rfl) (by omega),Own.fz,ja (by omega),ja (by omega),jb (by omega)];exact pS h (ks hl (by omega)) rfl
 ·refine⟨easy (by omega) (by omega),?_⟩;rw[oZ (by rw[e];rfl) (by omega) (by omega) (by omega),Own.fz,ja (by omega),ja (by omega),ja (by omega),jb (by omega)];exact h
 ·have hlen:l.places.length=2:=by rw[hl.ok.cQ,e];rfl
  have k1:=eU hl.fits (j:=1) (by omega);rw[e]at k1;rw[aM,ja (by omega),ja (by omega),ja (by omega),jb (by omega),CT]at hf;refine⟨?_,?_⟩
  ·unfold Own.bE;rw[jb e];exact decide_eq_true (rW ie h (er hl (j:=1) (by omega)).1 (qX (x:=ai l 1) k1).1 hf)
  ·rw[kS (by rw[e];rfl) (by omega),Own.fz,ja (by omega),ja (by omega),ja (by omega),ja (by omega),jb (by omega)];exact pS h (ks hl (by omega)) rfl
 ·have hlen:l.places.length=2:=by rw[hl.ok.cQ,e];rfl
  have k0:=eU hl.fits (j:=0) (by omega);rw[e]at k0;rw[aM,ja (by omega),ja (by omega),ja (by omega),ja (by omega),jb (by omega),CT,CT]at hf;have Od:bA 2 [ai l 0] s=false:=by
   simp only[bA,List.any_cons,List.any_nil,Bool.or_false,Bool.or_eq_false_iff]at hf⊢;exact hf.1
  refine⟨?_,?_⟩
  ·unfold Own.bE;rw[ja (by omega),jb e];exact decide_eq_true (rW ie h (er hl (j:=0) (by omega)).1 (qX (x:=ai l 0) k0).1 Od)
  ·rw[oZ (by rw[e];rfl) (by omega) (by omega) (by omega),Own.fz,ja (by omega),ja (by omega),ja (by omega),ja (by omega),ja (by omega),jb (by omega)];exact h
 ·refine⟨easy (by omega) (by omega),?_⟩;have hlen:l.places.length=2:=by rw[hl.ok.cQ,e];rfl
  have k1:=eU hl.fits (j:=1) (by omega);rw[e]at k1;rw[aM,ja (by omega),ja (by omega),ja (by omega),ja (by omega),ja (by omega),jb (by omega),CT,CT,Bool.or_eq_false_iff]at hf;rw[bm,ja (by rw[e];decide),jb e,cG,jb e,Own.fz,ja (by omega),ja (by omega),ja (by omega),ja (by omega),ja (by omega),ja (by omega),jb (by omega)];exact Ig h _ _ (rq hl e) (TJ ie h (er hl (j:=1) (by omega)) (pK (x:=ai l 1) k1) hf.1)
 ·refine⟨easy (by omega) (by omega),?_⟩;have hlen:l.places.length=1:=by rw[hl.ok.cQ,e];rfl
  have k0:=eU hl.fits (j:=0) (by omega);rw[e]at k0;have o0:=A5 (x:=ai l 0) k0 (er hl (j:=0) (by omega)).2;have hh:QP.ae q (ai l 0)=[ai l 0]:=by
   rcases bI q (ai l 0)with⟨e,-⟩|⟨-,-,e⟩
   ·exact e
   ·omega
  rw[bm,ja (by rw[e];decide),ja (by omega),jb e,cG,ja (by omega),ja (by omega),Own.fz,ja (by omega),ja (by omega),ja (by omega),ja (by omega),ja (by omega),ja (by omega),ja (by omega),jb (by omega),hh];unfold j8;rw[(im _ _).2.2.2];exact lC.put h (ah (ai l 0)) (.inl (by unfold ot;rw[jb rfl];decide)) (fun k hk=>by cases hk)
 ·refine⟨easy (by omega) (by omega),?_⟩;have hlen:l.places.length=2:=by rw[hl.ok.cQ,e];rfl
  obtain⟨h0,h1,h2,h3⟩:=rv hl e;rw[aM,ja (by omega),ja (by omega),ja (by omega),jb (by omega),CT]at hf;rw[bm,jb (by rw[e];rfl),cG,ja (by omega),jb e,Own.fz,ja (by omega),ja (by omega),ja (by omega),ja (by omega),ja (by omega),ja (by omega),jb (by omega),h0,h1];refine Ig h [ai l 0] [ai l 1] rfl (fun n hn=> ?_);simp only[Own.take,List.mem_singleton]at hn;subst hn;have:=rW ie h (er hl (j:=1) (by omega)).1 h3 hf;unfold ot;rw[ja (by omega)];decide
 ·refine⟨easy (by omega) (by omega),?_⟩;rw[bm,ja (by rw[e];decide),ja (by omega),ja (by omega),jb e,cG,ja (by omega),ja (by omega),Own.fz,ja (by omega),ja (by omega),ja (by omega),ja (by omega),ja (by omega),ja (by omega),ja (by omega),jb (by omega)];unfold j8;rw[(im _ _).2.2.2];exact BU _ h
theorem QC (hl:kI q l)(h:j8 q s o)(ax:l.op=6):j8 q (bm q l s) (o.calc l):=by
 rw[kS (by rw[ax];rfl) (by omega)];exact pS h (ks hl (by omega)) rfl
theorem Vr (h:j8 q s o)(ax:l.op=9)(v:Int):j8 q (bm q l s) ((o.drop [ai l 0]).new (ai l 0) v):=by
 rw[kS (by rw[ax];rfl) (by omega)];have e:((o.drop [ai l 0]).new (ai l 0) v).boxes=o.boxes.set (ah (ai l 0)) ((o.drop [ai l 0]).yd.made.length+1):=by
  show(o.drop [ai l 0]).boxes.set _ _=_
  rw[(im _ _).2.2.2];show(o.boxes.set (ah (ai l 0)) 0).set _ _=_
  rw[List.set_set]
 unfold j8;rw[e];exact lC.put h _ (.inl (by unfold ot;rw[ja (by omega)];decide)) (fun k hk=>by cases hk)
theorem Tz (_hls:q.locals.length<=12)(h:j8 q s o):j8 q (cv l (if o.other l then 1 else 0) s) o:=by
 unfold cv;by_cases e:l.op=20
 ·rw[jb e];refine⟨h.lb,by simpa [gS]using h.ls,fun k hk hn ht=> ?_⟩;show ot _ ((s.set (ah (l.places.getD 0 (0,0))) _).getD k 0)
  rw[dA,h.ls];by_cases ek:ah (l.places.getD 0 (0,0))=k
  ·rw[jb ⟨ek,hk⟩];have ho:o.other l= !(o.boxes.getD k 0==0):=by
    unfold Own.other;rw[ja (by omega),jb e];unfold Own.box;rw[ek]
   rw[ho];by_cases hz:o.boxes.getD k 0=0
   ·rw[hz];unfold ot;decide
   ·have hb:(o.boxes.getD k 0==0)=false:=by rw[jZ];exact hz
    rw[hb];unfold ot;rw[ja hz];decide
  ·rw[ja (fun x=>ek x.1)];exact h.at_ k hk hn ht
 ·rw[ja e];exact h
theorem DM (q:QP)(al:List Int):j8 q aV (Own.start al):=
 ⟨by simp[Own.start],by decide,fun k hk _ _=>by
  have h1:(Own.start al).boxes.getD k 0=0:=by show(List.replicate 24 0).getD k 0=0;rw[jA,jO,jb hk];rfl
  have h2:aV.getD k 0=1:=by show(List.replicate 24 1).getD k 0=1;rw[jA,jO,jb hk];rfl
  rw[h1,h2];unfold ot;decide⟩
end
end RunB
namespace Ex
theorem hereExK:True:=trivial
end Ex
namespace Bal
open Go Sq Go.Proofs.YtmlgajhhnojdjaaGreatDoor.Own
structure Qq where
 live:List Bool
 count:Int
 right:Bool
def Qq.nil:Qq:=⟨[],0,true⟩
def Vw (n:Int)(c:UInt8):Int:=10*n+(c.toNat:Int)-48
def LC (l:B):Int:=(l.take 8).foldl Vw 0
def Qq.word (s:Qq):B->Qq
 |[]=>{s with right:=false}
 |c::r=>
  if c=111 then s
  else if c=43 then⟨s.live++[true],s.count+1,s.right&&(LC r==(s.live.length:Int)+1)⟩
  else if LC r<1\/LC r>(s.live.length:Int)\/s.live.getD ((LC r).toNat-1) false=false then{s with right:=false}
  else if c=45 then⟨s.live.set ((LC r).toNat-1) false,s.count-1,s.right⟩
  else s
def xm (ws:List B):Qq:=ws.foldl Qq.word .nil
theorem sn (ws:List B)(b:B):xm (ws++[b])=(xm ws).word b:=by simp[xm]
theorem JV (u:Nat):(Lib.decDigits u).foldl Vw 0=(u:Int):=by
 induction u using Nat.strongRecOn with
 |_ u ih=>
  by_cases h:u<10
  ·rw[Lib.decDigits,dif_pos h];simp only[List.foldl_cons,List.foldl_nil,Vw,UInt8.toNat_ofNat'];omega
  ·rw[Lib.decDigits,dif_neg h,List.foldl_append,ih (u/10) (by omega)];simp only[List.foldl_cons,List.foldl_nil,Vw,UInt8.toNat_ofNat'];omega
theorem AA:∀(k u:Nat),u<10^(k+1)->Lib.nDigits u<=k+1
 |0,u,h=>by rw[Lib.nDigits_small (by simpa using h)];omega
 |k+1,u,h=>by
  by_cases hs:u<10
  ·rw[Lib.nDigits_small hs];omega
  ·rw[Lib.nDigits_big hs];have:=AA k (u/10) (by rw[Nat.pow_succ]at h;omega);omega
theorem R0 (u:Nat):Lib.itoa (u:Int)=Lib.decDigits u:=by
 unfold Lib.itoa;rw[ja (by omega)];simp
theorem Bt {u:Nat}(h:u<100000000):LC (Lib.itoa (u:Int))=u:=by
 rw[R0,LC,List.take_of_length_le (by rw[Lib.decDigits_length];exact AA 7 u (by simpa using h)),JV]
theorem Ec (u:Nat):∀c∈Lib.decDigits u,48<=c.toNat/\c.toNat<=57:=by
 induction u using Nat.strongRecOn with
 |_ u ih=>
  intro c hc;by_cases h:u<10
  ·rw[Lib.decDigits,dif_pos h,jI]at hc;rw[hc,UInt8.toNat_ofNat'];omega
  ·rw[Lib.decDigits,dif_neg h,List.mem_append,jI]at hc;rcases hc with hc|hc
   ·exact ih _ (by omega) c hc
   ·rw[hc,UInt8.toNat_ofNat'];omega
theorem Lb (n:Int):(32:UInt8)∉Lib.itoa n:=by
 intro h;have key:∀u,(32:UInt8)∉Lib.decDigits u:=fun u hu=>by
  have:=(Ec u _ hu).1;exact absurd this (by decide)
 unfold Lib.itoa at h;split at h
 ·rcases jP.1 h with h|h
  ·cases h
  ·exact key _ h
 ·exact key _ h
def Bg (y:Yd)(n:Nat):Nat:=if(y.at n).2=true then 1 else 0
structure kH (cs:List Nat)(y:Yd):Prop where
 told:y.made.length<10000000->xm y.trace=⟨y.made.map (·.2),y.live,true⟩
 WK:∀n,1<=n->cs.count n=Bg y n
 sum:y.live=(((y.made.map (·.2)).count true:Nat):Int)
 words:∀b∈y.trace,b≠[]/\(32:UInt8)∉b
section
variable {cs ds:List Nat} {y:Yd} {n:Nat}
theorem kH.congr (h:kH cs y)(he:∀n,1<=n->ds.count n=cs.count n):kH ds y:=⟨h.told,fun n hn=>(he n hn).trans (h.WK n hn),h.sum,h.words⟩
theorem sq {l:List B}(h:∀b∈l,b≠[]/\(32:UInt8)∉b)(c:UInt8)(hc:c≠32)(n:Int):∀b∈l++[c::Lib.itoa n],b≠[]/\(32:UInt8)∉b:=fun b hb=>by
 rcases List.mem_append.1 hb with hb|hb
 ·exact h b hb
 ·rw[jI.1 hb];refine⟨by simp,fun hm=> ?_⟩;rcases jP.1 hm with hm|hm
  ·exact hc hm.symm
  ·exact Lb n hm
theorem kH.out (h:kH cs y)(m:Int):kH cs (y.note 111 m):=by
 refine⟨fun hm=> ?_,h.WK,h.sum,sq h.words 111 (by decide) m⟩;have:=h.told hm;show xm (y.trace++[111::Lib.itoa m])=_
 rw[sn,this];rfl
theorem D1 (h:(y.at n).2=true):n-1<y.made.length:=by
 rcases Nat.lt_or_ge (n-1) y.made.length with h1|h1
 ·exact h1
 ·rw[Yd.at,jA,jG h1]at h;cases h
theorem xz (y:Yd)(n:Nat):(y.made.map (·.2)).getD (n-1) false=(y.at n).2:=by
 rw[Yd.at,jA,jA,jJ];cases y.made[n-1]?<;>rfl
theorem kH.build (h:kH cs y)(v:Int):kH ((y.made.length+1)::cs) (y.build v):=by
 refine⟨fun hm=> ?_,fun n hn=> ?_,?_,sq h.words 43 (by decide) _⟩
 ·have Oi:y.made.length+1<10000000:=by simpa [Yd.build,Yd.note]using hm
  show xm (y.trace++[43::Lib.itoa ((y.made.length+1:Nat):Int)])=⟨(y.made++[(v,true)]).map (·.2),y.live+1,true⟩
  rw[sn,h.told (by omega)];simp only[Qq.word];rw[ja (by decide),jb trivial,Bt (by omega)];simp
 ·rw[List.count_cons,h.WK n hn];show _=if((y.made++[(v,true)]).getD (n-1) (0,false)).2=true then 1 else 0
  unfold Bg Yd.at;rw[jA,jA,List.getElem?_append];by_cases h1:n-1<y.made.length
  ·rw[jb h1];have:(y.made.length+1==n)=false:=by simp;omega
   rw[this];simp
  ·rw[ja h1,jG (by omega)];by_cases h2:n=y.made.length+1
   ·subst h2;simp
   ·have:(y.made.length+1==n)=false:=by simp;omega
    rw[this,jG (by simp;omega)];simp
 ·show y.live+1=((((y.made++[(v,true)]).map (·.2)).count true:Nat):Int)
  rw[h.sum];simp
theorem kH.EM (h:kH cs y)(hn:1<=n)(hc:n∈cs):(y.at n).2=true:=by
 have h1:=h.WK n hn;have h2:=List.count_pos_iff.2 hc;unfold Bg at h1;split at h1
 ·assumption
 ·omega
theorem kH.free (h:kH (n::cs) y)(hn:1<=n):kH cs (y.free n):=by
 have hl:=h.EM hn (jM ..);have aL:=D1 hl;refine⟨fun hm=> ?_,fun k hk=> ?_,?_,sq h.words 45 (by decide) _⟩
 ·have Oi:y.made.length<10000000:=by simpa [Yd.free,Yd.note]using hm
  show xm (y.trace++[45::Lib.itoa ((n:Nat):Int)])=⟨(y.made.set (n-1) ((y.at n).1,false)).map (·.2),y.live-1,true⟩
  rw[sn,h.told Oi];simp only[Qq.word];rw[ja (by decide),ja (by decide),Bt (by omega),ja,jb trivial,List.map_set]
  ·simp
  ·rw[Int.toNat_natCast,xz,hl,jc];rintro(e|e|e)
   ·omega
   ·omega
   ·cases e
 ·have h1:=h.WK k hk;rw[List.count_cons]at h1;show _=if((y.made.set (n-1) ((y.at n).1,false)).getD (k-1) (0,false)).2=true then 1 else 0
  rw[jA];by_cases e:n=k
  ·subst e;rw[List.getElem?_set_self aL];unfold Bg at h1;rw[jb hl]at h1;simp at h1⊢;exact h1
  ·rw[List.getElem?_set_ne (by omega)];have:(n==k)=false:=by simp;omega
   rw[this]at h1;simpa [Bg,Yd.at,List.getD_eq_getElem?_getD]using h1
 ·show y.live-1=(((((y.made.set (n-1) ((y.at n).1,false)).map (·.2)).count true:Nat)):Int)
  rw[List.map_set,List.count_set (by simpa using aL),h.sum];have hg:(y.made.map (·.2))[n-1]'(by simpa using aL)=true:=by
   have:=xz y n;rw[jA,jB (by simpa using aL)]at this;rw[hl]at this;exact this
  rw[hg];have hp:1<=(y.made.map (·.2)).count true:=List.count_pos_iff.2 (hg▸jL _);simp;omega
theorem PR {s:Qq}{c:UInt8}(h1:¬c=111)(h2:¬c=43)(h3:¬c=45){n:Nat}(hn:1<=n)(h8:n<100000000)(hl:s.live.getD (n-1) false=true):s.word (c::Lib.itoa (n:Int))=s:=by
 have aL:n-1<s.live.length:=by
  rcases Nat.lt_or_ge (n-1) s.live.length with h|h
  ·exact h
  ·rw[jA,jG h]at hl;cases hl
 simp only[Qq.word];rw[ja h1,ja h2,Bt h8,ja,ja h3];rw[Int.toNat_natCast,hl];rintro(e|e|e)
 ·omega
 ·omega
 ·cases e
theorem kH.use (h:kH cs y)(hn:1<=n)(hc:n∈cs)(c:UInt8)(h1:¬c=111)(h2:¬c=43)(h3:¬c=45)(h4:c≠32):kH cs (y.note c (n:Nat)):=by
 have hl:=h.EM hn hc;have aL:=D1 hl;refine⟨fun hm=> ?_,h.WK,h.sum,sq h.words c h4 _⟩;have Oi:y.made.length<10000000:=hm;show xm (y.trace++[c::Lib.itoa ((n:Nat):Int)])=_
 rw[sn,h.told Oi,PR h1 h2 h3 hn (by omega) (by rw[xz];exact hl)];rfl
theorem kH.load (h:kH cs y)(hn:1<=n)(hc:n∈cs):kH cs (y.load n):=h.use hn hc 60 (by decide) (by decide) (by decide) (by decide)
theorem kH.store (h:kH cs y)(hn:1<=n)(hc:n∈cs)(v:Int):kH cs (y.store n v):=by
 have hs:=h.use hn hc 62 (by decide) (by decide) (by decide) (by decide);have hm:(y.made.set (n-1) (v,(y.at n).2)).map (·.2)=y.made.map (·.2):=by
  rw[List.map_set];have:=D1 (h.EM hn hc);refine List.ext_getElem? fun k=> ?_
  rw[jd];by_cases e:n-1=k
  ·subst e;rw[jb rfl,jb (by simpa using this),<-xz,jA,jB (by simpa using this)];rfl
  ·rw[ja e]
 refine⟨fun hk=> ?_,fun k hk=> ?_,?_,hs.words⟩
 ·have:=hs.told (by simpa [Yd.store,Yd.note]using hk);show xm _=⟨(y.made.set (n-1) (v,(y.at n).2)).map (·.2),y.live,true⟩
  rw[hm];exact this
 ·rw[h.WK k hk];unfold Bg;rw[<-xz,<-xz];show(if(y.made.map (·.2)).getD (k-1) false=true then 1 else 0)=if((y.made.set (n-1) (v,(y.at n).2)).map (·.2)).getD (k-1) false=true then 1 else 0
  rw[hm]
 ·show y.live=((((y.made.set (n-1) (v,(y.at n).2)).map (·.2)).count true:Nat):Int)
  rw[hm];exact h.sum
end
end Bal
namespace RunB
open Go Sq Aux Go.Proofs.YtmlgajhhnojdjaaGreatDoor.Own RunA PrjS FlwA FlwB FlwC FlwD FlwE FlwF FlwG FlwH FlwI FlwJ FlwK FlwM FlwO FlwP FlwQ FlwS FlwV FlwY FlwZ
structure Steps (q:QP)(J:List Nat->Own.Own->Prop):Prop where
 fz:∀l s o,kI q l->ko l.op->eI s->aM q l s=false->J s o->o.bE l=true/\J (bm q l s) (o.fz q l)
 Zj:∀l s o,kI q l->l.op=6->eI s->aM q l s=false->J s o->J (bm q l s) (o.calc l)
 new:∀l s o,kI q l->l.op=9->eI s->aM q l s=false->J s o->J (bm q l s) ((o.drop [ai l 0]).new (ai l 0) (o.num (ai l 1)))
 term:∀l s o,kI q l->l.op=18\/l.op=19\/l.op=20->eI s->aM q l s=false->J s o->J (cv l (if o.other l then 1 else 0) s) o
 mono:∀s t o,eI s->eI t->ld s t->J s o->J t o
def WN (q:QP)(J:List Nat->Own.Own->Prop)(room:Int)(ans:Nat×Int×Own.Own):Prop:=
 ∃s o,J s o/\((ans=(2,0,o))\/(ans=(4,0,o))\/(∃l,kI q l/\l.op=9/\(o.drop [ai l 0]).yd.live≥room/\ans=(3,0,o.drop [ai l 0]))\/∃l,kI q l/\l.op=22/\ans=(1,o.num (ai l 0),o.dN q q.locals.length))
theorem lZ {q:QP}(ie:q.locals.length<=12):Steps q (j8 q) where
 fz:=fun _ _ _ hl FE _ hf h=>Sj hl ie hf h FE
 Zj:=fun _ _ _ hl ax _ _ h=>QC hl h ax
 new:=fun _ _ _ _ ax _ _ h=>Vr h ax _
 term:=fun _ _ _ _ _ _ _ h=>Tz ie h
 mono:=fun _ _ _ _ ht hl h=>lC.mono h ht.len hl
theorem Mm {l:ab}{ls:List ab}(h:Whole (l::ls)):(18<=l.op/\ls=[])\/(l.op<18/\Whole ls):=by
 obtain⟨us,t,e,h1,h2⟩:=h;cases us with
 |nil=>simp only[List.nil_append,List.cons.injEq]at e;exact .inl ⟨by rw[e.1];exact h1,e.2⟩
 |cons a us=>
  simp only[List.cons_append,List.cons.injEq]at e;exact .inr ⟨by rw[e.1];exact h2 a (jM ..),us,t,e.2,h1,fun m hm=>h2 m (jN _ hm)⟩
theorem Dt {q:QP}{l:ab}(hl:kI q l)(h:l.op<18):l.next=[]:=by
 have key:∀op:Fin 18,((ag op.val).filter (·==98)).length=0:=by decide
 have:=hl.ok.ER;rw[show((ag l.op).filter (·==98)).length=0 from key ⟨l.op,h⟩]at this;exact List.length_eq_zero_iff.mp this
theorem rm {q:QP}{l:ab}(hl:kI q l):ko l.op\/l.op=6\/l.op=9\/l.op=18\/l.op=19\/l.op=20\/l.op=22:=by
 have h1:=hl.ok.op;have h2:=hl.ok.op2;have h3:=hl.has;unfold pE at h3;unfold ko;by_cases e:l.op=16\/l.op=17\/l.op=21
 ·rw[ja (by omega),jb e]at h3;cases h3
 ·omega
theorem M8 (l:ab)(s:List Nat){i:Nat}(hi:i<l.next.length)(h2:l.next.length<=2):(l.next.getD i 0,cv l i s)∈kR l l.next 0 s:=by
 match hn:l.next,h2 with
 |[],_=>rw[hn]at hi;simp at hi
 |[n],_=>
  rw[hn]at hi;have:i=0:=by simp at hi;omega
  subst this;simp[kR]
 |[n,m],_=>
  rw[hn]at hi;have:i=0\/i=1:=by simp at hi;omega
  rcases this with rfl|rfl
  ·simp[kR]
  ·have e:cv l 1 (cv l 0 s)=cv l 1 s:=by
    unfold cv;split
    ·simp only[gS,List.foldl_cons,List.foldl_nil,List.set_set]
    ·rfl
   simp[kR,e]
 |_::_::_::_,h=>simp at h
theorem WC {q:QP}{l:ab}(ie:q.locals.length<=12)(hl:kI q l):Qn l:=fun x hx=>by have:=(hl.ok.places x hx).1;omega
theorem LX {q:QP}{J:List Nat->Own.Own->Prop}(ie:q.locals.length<=12)(hS:Shape q)(hq:Jy q.blocks.length q)(U:Nat->List Nat)(hU:rQ q U)(kN:∀b,b<q.blocks.length->U b=ar\/Full (U b))
  (gX:∀b,b<q.blocks.length->¬U b=ar->cX q (q.blocks.getD b []) (U b)=none) (H:Steps q J) (room:Int):
  ∀(f:Nat) (ls:List ab) (s:List Nat) (o:Own.Own),Whole ls->(∀l∈ls,kI q l)->eI s->Full s->cX q ls s=none->(∀x∈eo q ls s,ld x.2 (U x.1))->J s o->∃ans,ea q room f ls o=some ans/\WN q J room ans
 |f,[],s,o,hw,_,_,_,_,_,_=>by
  obtain⟨us,t,e,-⟩:=hw;simp at e
 |0,l::ls,s,o,_,_,_,_,_,_,h=>⟨(2,0,o),rfl,s,o,h,.inl rfl⟩
 |f+1,l::ls,s,o,hw,la,hs,hf,kZ,ka,h=>by
  have hl:=la l (jM ..);rw[cX]at kZ;have Of:aM q l s=false:=by
   cases hv:aM q l s with
   |false=>rfl
   |true=>rw[hv,jb rfl]at kZ;cases kZ
  rw[Of,ja (by decide)]at kZ;rcases Mm hw with⟨sw,rfl⟩|⟨sw,hw2⟩
  ·have ho:=rm hl;unfold ko at ho;by_cases TP:l.op=22
   ·refine⟨_,?_,s,o,h,.inr (.inr (.inr ⟨l,hl,TP,rfl⟩))⟩;rw[ea,ja (by omega),ja (by omega),ja (by omega),jb TP]
   ·have ax:l.op=18\/l.op=19\/l.op=20:=by omega
    have lh:l.next.length=if l.op=18 then 1 else 2:=by
     rw[hl.ok.ER];rcases ax with e|e|e<;>rw[e]<;>rfl
    have hi:(if o.other l then 1 else 0)<l.next.length:=by
     rw[lh];by_cases e:l.op=18
     ·have:o.other l=false:=by rw[Own.other,ja (by omega),ja (by omega)]
      rw[this,jb e];decide
     ·rw[ja e];split<;>omega
    have hp:bm q l s=s:=oZ (by rcases ax with e|e|e<;>rw[e]<;>rfl) (by omega) (by omega) (by omega);have xU:=M8 l s hi (by rw[lh];split<;>omega);have hle:=ka (l.next.getD (if o.other l then 1 else 0) 0,cv l (if o.other l then 1 else 0) s) (by rw[eo,hp];exact List.mem_append_left _ xU);have hb:l.next.getD (if o.other l then 1 else 0) 0<q.blocks.length:=hl.ok.next _ (by rw[jA,jB hi];exact jL _);have ir:=gv l (if o.other l then 1 else 0) hs;have ec:=cR ir hle (vy (oL l _ hf));have hJ:=H.mono _ _ _ ir (hU.ok _ hb) hle (H.term l s o hl ax hs Of h);obtain⟨ans,h1,h2⟩:=LX ie hS hq U hU kN gX H room f (q.blocks.getD (l.next.getD (if o.other l then 1 else 0) 0) []) _ o (hS.whole _ hb) (fun m hm=>⟨hq.lines _ (l6 hm) m hm,hS.has _ m hm,hS.fits _ m hm⟩) (hU.ok _ hb) ((kN _ hb).resolve_left ec) (gX _ hb ec) (fun x hx=>hU.step _ hb ec x hx) hJ;refine⟨ans,?_,h2⟩;rw[ea,ja (by omega),ja (by omega),jb ax,jb rfl];exact h1
  ·have mQ:=Dt hl sw;have Ca:=gm q l hs;have FD:=xL q (WC ie hl) hf;have RL:∀x∈eo q ls (bm q l s),ld x.2 (U x.1):=fun x hx=>ka x (by rw[eo,mQ];simpa [kR,T9]using hx)
   have ih:=fun o' (hJ:J (bm q l s) o')=>LX ie hS hq U hU kN gX H room f ls (bm q l s) o' hw2 (fun m hm=>la m (jN _ hm)) Ca FD kZ RL hJ
   rcases rm hl with FE|ax|ax|ax|ax|ax|ax
   ·obtain⟨hn,hJ⟩:=H.fz l s o hl FE hs Of h;obtain⟨ans,h1,h2⟩:=ih _ hJ;refine⟨ans,?_,h2⟩;have hgo':=FE;unfold ko at hgo';rw[ea,ja (by omega),ja (by omega),ja (by omega),ja (by omega),jb hn];exact h1
   ·by_cases hz:o.num (ai l 2)=0
    ·refine⟨_,?_,s,o,h,.inr (.inl rfl)⟩;rw[ea,jb ax,jb hz]
    ·obtain⟨ans,h1,h2⟩:=ih _ (H.Zj l s o hl ax hs Of h);refine⟨ans,?_,h2⟩;rw[ea,jb ax,ja hz];exact h1
   ·by_cases hr:(o.drop [ai l 0]).yd.live≥room
    ·refine⟨_,?_,s,o,h,.inr (.inr (.inl ⟨l,hl,ax,hr,rfl⟩))⟩;rw[ea,ja (by omega),jb ax,jb hr]
    ·obtain⟨ans,h1,h2⟩:=ih _ (H.new l s o hl ax hs Of h);refine⟨ans,?_,h2⟩;rw[ea,ja (by omega),jb ax,ja hr];exact h1
   ·omega
   ·omega
   ·omega
   ·omega
theorem cF (f:Nat->Option Nat):∀(m k:Nat),aC f m k=none->∀c,k<=c->c<k+m->f c=none
 |0,_,_,c,h1,h2=>by omega
 |m+1,k,h,c,h1,h2=>by
  rw[aC]at h;cases hk:f k with
  |some v=>rw[hk]at h;cases h
  |none=>
   rw[hk,Option.none_or]at h;by_cases e:c=k
   ·rw[e];exact hk
   ·exact cF f m (k+1) h c (by omega) (by omega)
theorem IT {text:B}{p:RP}{q:QP}{E:List (List Nat)}(hD:lB text p q E)(hr:bd text false=(some q,0,0))(hn:aC (cV q E) q.blocks.length 0=none){J:List Nat->Own.Own->Prop}(H:Steps q J){al:List Int}(hJ:J aV (Own.start al))(room:Int)(f:Nat):
  ∃ans,ea q room f (q.blocks.getD 0 []) (Own.start al)=some ans/\WN q J room ans:=by
 have hS:=tC hr;have hq:=hD.both.Yo;have ie:=hD.both.aW;have hI:=hD.inv.inv;have hU:rQ q (fun b=>E.getD b []):=⟨fun b hb=>hD.ok hb,hI.start,fun b hb hz x hx=>hI.step b hb rfl hz x hx⟩;have h0:¬E.getD 0 []=ar:=cR ⟨by decide,fun k=>by
  by_cases hk:k<24
  ·have:aV.getD k 0=1:=by show(List.replicate 24 1).getD k 0=1;rw[jA,jO,jb hk];rfl
   rw[this];decide
  ·rw[jA,jG (by show(List.replicate 24 1).length<=k;simp;omega)];decide⟩ hI.start (vy pC)
 have gX:∀b,b<q.blocks.length->¬E.getD b []=ar->cX q (q.blocks.getD b []) (E.getD b [])=none:=fun b hb hz=>by
  have:=cF _ _ _ hn b (jQ _) (by omega);rw[cV,ja hz]at this;exact this
 have hstok:eI aV:=⟨by decide,fun k=>by
  by_cases hk:k<24
  ·have:aV.getD k 0=1:=by show(List.replicate 24 1).getD k 0=1;rw[jA,jO,jb hk];rfl
   rw[this];decide
  ·rw[jA,jG (by show(List.replicate 24 1).length<=k;simp;omega)];decide⟩
 exact LX ie hS hq (fun b=>E.getD b []) hU hD.inv.full gX H room f (q.blocks.getD 0 []) (E.getD 0 []) (Own.start al) (hS.whole 0 hD.pos) (fun m hm=>⟨hq.lines _ (l6 hm) m hm,hS.has _ m hm,hS.fits _ m hm⟩) (hD.ok hD.pos) ((hD.inv.full 0 hD.pos).resolve_left h0) (gX 0 hD.pos h0) (fun x hx=>hU.step 0 hD.pos h0 x hx) (H.mono _ _ _ hstok (hD.ok hD.pos) hI.start hJ)
end RunB
namespace Ex
theorem hereExL:True:=trivial
end Ex
namespace Ex
theorem hereExM:True:=trivial
end Ex
end Go.Proofs.YtmlgajhhnojdjaaGreatDoor

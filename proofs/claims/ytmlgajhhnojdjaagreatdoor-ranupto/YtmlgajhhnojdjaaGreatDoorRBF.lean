import Derived.Test.YtmlgajhhnojdjaaGreatDoorRBE
namespace Go.Proofs.YtmlgajhhnojdjaaGreatDoor
namespace RunB
open Go Sq Aux Go.Proofs.YtmlgajhhnojdjaaGreatDoor.Own RunA PrjS FlwA FlwB FlwC FlwD FlwE FlwF FlwG FlwH FlwI FlwJ FlwK FlwM FlwO FlwP FlwQ FlwS FlwY
section
variable {q:QP} {l:ab} {s:List Nat} {o:Own.Own}
theorem er (hl:kI q l){j:Nat}(hj:j<l.places.length):(ai l j).1<q.locals.length/\(ai l j).2<=3:=
 hl.ok.places _ (by unfold ai;rw[jA,jB hj];exact jL _)
theorem CT (l:ab)(j:Nat):ab.at l j=ai l j:=rfl
theorem rW (ie:q.locals.length<=12)(h:j8 q s o){p:Nat×Nat}(hp:p.1<q.locals.length)(ht:¬q.bB p.1=0)(hn:bA 2 [p] s=false):1<=o.box p:=by
 have hk:=lC.at_ h (ah p) (ig (by omega)) (by simp) (by rw[dB];exact ht);simp only[bA,List.any_cons,List.any_nil,Bool.or_false]at hn;have:=A6 hn hk;show 1<=o.boxes.getD (ah p) 0
 omega
theorem bI (q:QP)(x:Nat×Nat):QP.ae q x=[x]/\¬(x.2=0/\q.bB x.1=2)\/QP.ae q x=[(x.1,1),(x.1,2)]/\x.2=0/\q.bB x.1=2:=by
 unfold QP.ae;by_cases h:x.2=0/\q.bB x.1=2
 ·exact .inr ⟨by rw[jb h],h⟩
 ·exact .inl ⟨by rw[ja h],h⟩
theorem rq (hl:kI q l)(cg:l.op=12):(QP.ae q (ai l 0)).length=(QP.ae q (ai l 1)).length:=by
 have hk:=N0 hl.fits cg;have hlen:l.places.length=2:=by rw[hl.ok.cQ,cg];rfl
 have h0:=(er hl (j:=0) (by omega)).2;have h1:=(er hl (j:=1) (by omega)).2;unfold QP.bt at hk;rcases bI q (ai l 0)with⟨e,h⟩|⟨e,h,h'⟩<;>rcases bI q (ai l 1)with⟨e2,h2⟩|⟨e2,h2,h2'⟩<;>rw[e,e2]
 ·rfl
 ·exfalso;rw[ja (show¬((ai l 1).2=1\/(ai l 1).2=2\/(ai l 1).2=3) by omega)]at hk;by_cases hp:(ai l 0).2=1\/(ai l 0).2=2\/(ai l 0).2=3
  ·rw[jb hp]at hk;omega
  ·rw[ja hp]at hk;exact h ⟨by omega,by omega⟩
 ·exfalso;rw[ja (show¬((ai l 0).2=1\/(ai l 0).2=2\/(ai l 0).2=3) by omega)]at hk;by_cases hp:(ai l 1).2=1\/(ai l 1).2=2\/(ai l 1).2=3
  ·rw[jb hp]at hk;omega
  ·rw[ja hp]at hk;exact h2 ⟨by omega,by omega⟩
 ·rfl
theorem rv (hl:kI q l)(B6:l.op=14):QP.ae q (ai l 0)=[ai l 0]/\QP.ae q (ai l 1)=[ai l 1]/\q.bB (ai l 0).1=3/\¬q.bB (ai l 1).1=0:=by
 have hlen:l.places.length=2:=by rw[hl.ok.cQ,B6];rfl
 have k0:=eU hl.fits (j:=0) (by omega);have k1:=eU hl.fits (j:=1) (by omega);rw[B6]at k0 k1;have o0:=A5 (x:=ai l 0) k0 (er hl (j:=0) (by omega)).2;have o1:=qX (x:=ai l 1) k1;refine⟨?_,?_,o0.1,o1.1⟩
 ·rcases bI q (ai l 0)with⟨e,-⟩|⟨-,-,e⟩
  ·exact e
  ·omega
 ·rcases bI q (ai l 1)with⟨e,-⟩|⟨-,e1,e2⟩
  ·exact e
  ·exact absurd ⟨e1,e2⟩ o1.2.1
theorem TJ (ie:q.locals.length<=12)(h:j8 q s o){x:Nat×Nat}(hx:x.1<q.locals.length/\x.2<=3)(ht:¬q.bB x.1=0)(ir:gU q x s=false):∀n∈(Own.take (QP.ae q x) o).1,ot n (dn q x s):=by
 have hf:=fun k hk ht=>lC.at_ h k hk (by simp) ht
 rcases bI q x with⟨e,hn⟩|⟨e,h0,h2⟩
 ·rw[e];have hk:=hf (ah x) (ig (by omega)) (by rw[dB];exact ht);intro n hm;simp only[Own.take,List.mem_singleton]at hm;subst hm;unfold dn;by_cases h3:q.bt x=3
  ·rw[jb h3];exact hk
  ·rw[ja h3];unfold gU at ir;rw[ja h3,e]at ir;have:=rW ie h hx.1 ht ir;unfold ot;rw[ja (by omega)];decide
 ·have h3:¬q.bt x=3:=by unfold QP.bt;rw[ja (by omega)];omega
  unfold gU at ir;rw[ja h3,e]at ir;unfold dn;rw[ja h3,e];simp only[bA,List.any_cons,List.any_nil,Bool.or_false,Bool.or_eq_false_iff]at ir;have s1:ah (x.1,1)=2*x.1:=rfl;have s2:ah (x.1,2)=2*x.1+1:=rfl;have k1:=A6 ir.1 (hf _ (ig (x:=(x.1,1)) (by show x.1<12;omega)) (by rw[dB];exact ht));have k2:=A6 ir.2 (hf _ (ig (x:=(x.1,2)) (by show x.1<12;omega)) (by rw[dB];exact ht));intro n hm;simp only[Own.take,List.mem_cons,List.not_mem_nil,or_false]at hm;unfold ot;rcases hm with rfl|rfl
  ·rw[ja (show¬o.box (x.1,1)=0 from k1)];decide
  ·have:(o.clear (x.1,1)).box (x.1,2)=o.boxes.getD (ah (x.1,2)) 0:=by
    unfold Own.clear Own.box;rw[dA,ja (by rw[s1,s2];omega)]
   rw[this,ja k2];decide
theorem pS (h:j8 q s o){p:Nat×Nat}(ht:q.bB p.1=0){o':Own.Own}(hb:o'.boxes=o.boxes):j8 q (s.set (ah p) 2) o':=by
 unfold j8;rw[hb];exact lC.free h _ _ (by rw[dB];exact ht)
theorem kS (hp:oQ l.op=true)(B6:¬l.op=14):bm q l s=s.set (ah (ai l 0)) 2:=by
 have cg:¬l.op=12:=fun e=>by rw[e]at hp;cases hp
 rw[bm,jb hp,cG,ja cg,ja B6];rfl
theorem oZ (hp:oQ l.op=false)(cg:¬l.op=12)(Eo:¬l.op=13)(sv:¬l.op=15):bm q l s=s:=by
 have B6:¬l.op=14:=fun e=>by rw[e]at hp;cases hp
 rw[bm,ja (by rw[hp];decide),ja cg,ja Eo,ja sv,cG,ja cg,ja B6]
theorem ks (hl:kI q l)(ax:l.op=2\/l.op=3\/l.op=4\/l.op=5\/l.op=6\/l.op=7\/l.op=10):q.bB (ai l 0).1=0:=by
 have key:∀op:Fin 23,(op.val=2\/op.val=3\/op.val=4\/op.val=5\/op.val=6\/op.val=7\/op.val=10)->0<((ag op.val).filter sM).length/\(ag op.val).getD 0 0=105:=by decide
 obtain⟨k1,k2⟩:=key ⟨l.op,hl.ok.op⟩ ax;have:=eU hl.fits (j:=0) (by rw[hl.ok.cQ];exact k1);have k3:(ag l.op).getD 0 0=105:=k2;rw[k3]at this;exact Hg this
theorem Sj (hl:kI q l)(ie:q.locals.length<=12)(hf:aM q l s=false)(h:j8 q s o)(FE:ko l.op):o.bE l=true/\j8 q (bm q l s) (o.fz q l):=by
 have easy:¬l.op=10->¬l.op=11->o.bE l=true:=fun h1 h2=>by unfold Own.bE;rw[ja h1,ja h2]
 rcases FE with e|e|e|e|e|e|e|e|e|e|e|e
 ·refine⟨easy (by omega) (by omega),?_⟩;rw[kS (by rw[e];rfl) (by omega),Own.fz,jb e];exact pS h (ks hl (by omega)) rfl
 ·refine⟨easy (by omega) (by omega),?_⟩;rw[kS (by rw[e];rfl) (by omega),Own.fz,ja (by omega),jb (by omega)];exact pS h (ks hl (by omega)) rfl
 ·refine⟨easy (by omega) (by omega),?_⟩;rw[kS (by rw[e];rfl) (by omega),Own.fz,ja (by omega),jb (by omega)];exact pS h (ks hl (by omega)) rfl
 ·refine⟨easy (by omega) (by omega),?_⟩;rw[kS (by rw[e];rfl) (by omega),Own.fz,ja (by omega),jb (by omega)];exact pS h (ks hl (by omega)) rfl
 ·refine⟨easy (by omega) (by omega),?_⟩;rw[kS (by rw[e];rfl) (by omega),Own.fz,ja (by omega),ja (by omega),jb (by omega)];exact pS h (ks hl (by omega)) rfl
 ·refine⟨easy (by omega) (by omega),?_⟩;rw[oZ (by rw[e];rfl) (by omega) (by omega) (by omega),Own.fz,ja (by omega),ja (by omega),ja (by omega),jb (by omega)];exact h
 ·have hlen:l.places.length=2:=by rw[hl.ok.cQ,e];rfl
  have k1:=eU hl.fits (j:=1) (by omega);rw[e]at k1;rw[aM,ja (by omega),ja (by omega),ja (by omega),jb (by omega),CT]at hf;refine⟨?_,?_⟩
  ·unfold Own.bE;rw[jb e];exact decide_eq_true (rW ie h (er hl (j:=1) (by omega)).1 (qX (x:=ai l 1) k1).1 hf)
  ·rw[kS (by rw[e];rfl) (by omega),Own.fz,ja (by omega),ja (by omega),ja (by omega),ja (by omega),jb (by omega)];exact pS h (ks hl (by omega)) rfl
 ·have hlen:l.places.length=2:=by rw[hl.ok.cQ,e];rfl
  have k0:=eU hl.fits (j:=0) (by omega);rw[e]at k0;rw[aM,ja (by omega),ja (by omega),ja (by omega),ja (by omega),jb (by omega),CT,CT]at hf;have Od:bA 2 [ai l 0] s=false:=by
   simp only[bA,List.any_cons,List.any_nil,Bool.or_false,Bool.or_eq_false_iff]at hf⊢;exact hf.1
  refine⟨?_,?_⟩
  ·unfold Own.bE;rw[ja (by omega),jb e];exact decide_eq_true (rW ie h (er hl (j:=0) (by omega)).1 (qX (x:=ai l 0) k0).1 Od)
  ·rw[oZ (by rw[e];rfl) (by omega) (by omega) (by omega),Own.fz,ja (by omega),ja (by omega),ja (by omega),ja (by omega),ja (by omega),jb (by omega)];exact h
 ·refine⟨easy (by omega) (by omega),?_⟩;have hlen:l.places.length=2:=by rw[hl.ok.cQ,e];rfl
  have k1:=eU hl.fits (j:=1) (by omega);rw[e]at k1;rw[aM,ja (by omega),ja (by omega),ja (by omega),ja (by omega),ja (by omega),jb (by omega),CT,CT,Bool.or_eq_false_iff]at hf;rw[bm,ja (by rw[e];decide),jb e,cG,jb e,Own.fz,ja (by omega),ja (by omega),ja (by omega),ja (by omega),ja (by omega),ja (by omega),jb (by omega)];exact Ig h _ _ (rq hl e) (TJ ie h (er hl (j:=1) (by omega)) (pK (x:=ai l 1) k1) hf.1)
 ·refine⟨easy (by omega) (by omega),?_⟩;have hlen:l.places.length=1:=by rw[hl.ok.cQ,e];rfl
  have k0:=eU hl.fits (j:=0) (by omega);rw[e]at k0;have o0:=A5 (x:=ai l 0) k0 (er hl (j:=0) (by omega)).2;have hh:QP.ae q (ai l 0)=[ai l 0]:=by
   rcases bI q (ai l 0)with⟨e,-⟩|⟨-,-,e⟩
   ·exact e
   ·omega
  rw[bm,ja (by rw[e];decide),ja (by omega),jb e,cG,ja (by omega),ja (by omega),Own.fz,ja (by omega),ja (by omega),ja (by omega),ja (by omega),ja (by omega),ja (by omega),ja (by omega),jb (by omega),hh];unfold j8;rw[(im _ _).2.2.2];exact lC.put h (ah (ai l 0)) (.inl (by unfold ot;rw[jb rfl];decide)) (fun k hk=>by cases hk)
 ·refine⟨easy (by omega) (by omega),?_⟩;have hlen:l.places.length=2:=by rw[hl.ok.cQ,e];rfl
  obtain⟨h0,h1,h2,h3⟩:=rv hl e;rw[aM,ja (by omega),ja (by omega),ja (by omega),jb (by omega),CT]at hf;rw[bm,jb (by rw[e];rfl),cG,ja (by omega),jb e,Own.fz,ja (by omega),ja (by omega),ja (by omega),ja (by omega),ja (by omega),ja (by omega),jb (by omega),h0,h1];refine Ig h [ai l 0] [ai l 1] rfl (fun n hn=> ?_);simp only[Own.take,List.mem_singleton]at hn;subst hn;have:=rW ie h (er hl (j:=1) (by omega)).1 h3 hf;unfold ot;rw[ja (by omega)];decide
 ·refine⟨easy (by omega) (by omega),?_⟩;rw[bm,ja (by rw[e];decide),ja (by omega),ja (by omega),jb e,cG,ja (by omega),ja (by omega),Own.fz,ja (by omega),ja (by omega),ja (by omega),ja (by omega),ja (by omega),ja (by omega),ja (by omega),jb (by omega)];unfold j8;rw[(im _ _).2.2.2];exact BU _ h
theorem QC (hl:kI q l)(h:j8 q s o)(ax:l.op=6):j8 q (bm q l s) (o.calc l):=by
 rw[kS (by rw[ax];rfl) (by omega)];exact pS h (ks hl (by omega)) rfl
theorem Vr (h:j8 q s o)(ax:l.op=9)(v:Int):j8 q (bm q l s) ((o.drop [ai l 0]).new (ai l 0) v):=by
 rw[kS (by rw[ax];rfl) (by omega)];have e:((o.drop [ai l 0]).new (ai l 0) v).boxes=o.boxes.set (ah (ai l 0)) ((o.drop [ai l 0]).yd.made.length+1):=by
  show(o.drop [ai l 0]).boxes.set _ _=_
  rw[(im _ _).2.2.2];show(o.boxes.set (ah (ai l 0)) 0).set _ _=_
  rw[List.set_set]
 unfold j8;rw[e];exact lC.put h _ (.inl (by unfold ot;rw[ja (by omega)];decide)) (fun k hk=>by cases hk)
theorem Tz (_hls:q.locals.length<=12)(h:j8 q s o):j8 q (cv l (if o.other l then 1 else 0) s) o:=by
 unfold cv;by_cases e:l.op=20
 ·rw[jb e];refine⟨h.lb,by simpa [gS]using h.ls,fun k hk hn ht=> ?_⟩;show ot _ ((s.set (ah (l.places.getD 0 (0,0))) _).getD k 0)
  rw[dA,h.ls];by_cases ek:ah (l.places.getD 0 (0,0))=k
  ·rw[jb ⟨ek,hk⟩];have ho:o.other l= !(o.boxes.getD k 0==0):=by
    unfold Own.other;rw[ja (by omega),jb e];unfold Own.box;rw[ek]
   rw[ho];by_cases hz:o.boxes.getD k 0=0
   ·rw[hz];unfold ot;decide
   ·have hb:(o.boxes.getD k 0==0)=false:=by rw[jZ];exact hz
    rw[hb];unfold ot;rw[ja hz];decide
  ·rw[ja (fun x=>ek x.1)];exact h.at_ k hk hn ht
 ·rw[ja e];exact h
theorem DM (q:QP)(al:List Int):j8 q aV (Own.start al):=
 ⟨by simp[Own.start],by decide,fun k hk _ _=>by
  have h1:(Own.start al).boxes.getD k 0=0:=by show(List.replicate 24 0).getD k 0=0;rw[jA,jO,jb hk];rfl
  have h2:aV.getD k 0=1:=by show(List.replicate 24 1).getD k 0=1;rw[jA,jO,jb hk];rfl
  rw[h1,h2];unfold ot;decide⟩
end
end RunB
namespace Ex
theorem hereExK:True:=trivial
end Ex
namespace Bal
open Go Sq Go.Proofs.YtmlgajhhnojdjaaGreatDoor.Own
structure Qq where
 live:List Bool
 count:Int
 right:Bool
def Qq.nil:Qq:=⟨[],0,true⟩
def Vw (n:Int)(c:UInt8):Int:=10*n+(c.toNat:Int)-48
def LC (l:B):Int:=(l.take 8).foldl Vw 0
def Qq.word (s:Qq):B->Qq
 |[]=>{s with right:=false}
 |c::r=>
  if c=111 then s
  else if c=43 then⟨s.live++[true],s.count+1,s.right&&(LC r==(s.live.length:Int)+1)⟩
  else if LC r<1\/LC r>(s.live.length:Int)\/s.live.getD ((LC r).toNat-1) false=false then{s with right:=false}
  else if c=45 then⟨s.live.set ((LC r).toNat-1) false,s.count-1,s.right⟩
  else s
def xm (ws:List B):Qq:=ws.foldl Qq.word .nil
theorem sn (ws:List B)(b:B):xm (ws++[b])=(xm ws).word b:=by simp[xm]
theorem JV (u:Nat):(Lib.decDigits u).foldl Vw 0=(u:Int):=by
 induction u using Nat.strongRecOn with
 |_ u ih=>
  by_cases h:u<10
  ·rw[Lib.decDigits,dif_pos h];simp only[List.foldl_cons,List.foldl_nil,Vw,UInt8.toNat_ofNat'];omega
  ·rw[Lib.decDigits,dif_neg h,List.foldl_append,ih (u/10) (by omega)];simp only[List.foldl_cons,List.foldl_nil,Vw,UInt8.toNat_ofNat'];omega
theorem AA:∀(k u:Nat),u<10^(k+1)->Lib.nDigits u<=k+1
 |0,u,h=>by rw[Lib.nDigits_small (by simpa using h)];omega
 |k+1,u,h=>by
  by_cases hs:u<10
  ·rw[Lib.nDigits_small hs];omega
  ·rw[Lib.nDigits_big hs];have:=AA k (u/10) (by rw[Nat.pow_succ]at h;omega);omega
theorem R0 (u:Nat):Lib.itoa (u:Int)=Lib.decDigits u:=by
 unfold Lib.itoa;rw[ja (by omega)];simp
theorem Bt {u:Nat}(h:u<100000000):LC (Lib.itoa (u:Int))=u:=by
 rw[R0,LC,List.take_of_length_le (by rw[Lib.decDigits_length];exact AA 7 u (by simpa using h)),JV]
theorem Ec (u:Nat):∀c∈Lib.decDigits u,48<=c.toNat/\c.toNat<=57:=by
 induction u using Nat.strongRecOn with
 |_ u ih=>
  intro c hc;by_cases h:u<10
  ·rw[Lib.decDigits,dif_pos h,jI]at hc;rw[hc,UInt8.toNat_ofNat'];omega
  ·rw[Lib.decDigits,dif_neg h,List.mem_append,jI]at hc;rcases hc with hc|hc
   ·exact ih _ (by omega) c hc
   ·rw[hc,UInt8.toNat_ofNat'];omega
theorem Lb (n:Int):(32:UInt8)∉Lib.itoa n:=by
 intro h;have key:∀u,(32:UInt8)∉Lib.decDigits u:=fun u hu=>by
  have:=(Ec u _ hu).1;exact absurd this (by decide)
 unfold Lib.itoa at h;split at h
 ·rcases jP.1 h with h|h
  ·cases h
  ·exact key _ h
 ·exact key _ h
def Bg (y:Yd)(n:Nat):Nat:=if(y.at n).2=true then 1 else 0
structure kH (cs:List Nat)(y:Yd):Prop where
 told:y.made.length<10000000->xm y.trace=⟨y.made.map (·.2),y.live,true⟩
 WK:∀n,1<=n->cs.count n=Bg y n
 sum:y.live=(((y.made.map (·.2)).count true:Nat):Int)
 words:∀b∈y.trace,b≠[]/\(32:UInt8)∉b
section
variable {cs ds:List Nat} {y:Yd} {n:Nat}
theorem kH.congr (h:kH cs y)(he:∀n,1<=n->ds.count n=cs.count n):kH ds y:=⟨h.told,fun n hn=>(he n hn).trans (h.WK n hn),h.sum,h.words⟩
theorem sq {l:List B}(h:∀b∈l,b≠[]/\(32:UInt8)∉b)(c:UInt8)(hc:c≠32)(n:Int):∀b∈l++[c::Lib.itoa n],b≠[]/\(32:UInt8)∉b:=fun b hb=>by
 rcases List.mem_append.1 hb with hb|hb
 ·exact h b hb
 ·rw[jI.1 hb];refine⟨by simp,fun hm=> ?_⟩;rcases jP.1 hm with hm|hm
  ·exact hc hm.symm
  ·exact Lb n hm
theorem kH.out (h:kH cs y)(m:Int):kH cs (y.note 111 m):=by
 refine⟨fun hm=> ?_,h.WK,h.sum,sq h.words 111 (by decide) m⟩;have:=h.told hm;show xm (y.trace++[111::Lib.itoa m])=_
 rw[sn,this];rfl
theorem D1 (h:(y.at n).2=true):n-1<y.made.length:=by
 rcases Nat.lt_or_ge (n-1) y.made.length with h1|h1
 ·exact h1
 ·rw[Yd.at,jA,jG h1]at h;cases h
theorem xz (y:Yd)(n:Nat):(y.made.map (·.2)).getD (n-1) false=(y.at n).2:=by
 rw[Yd.at,jA,jA,jJ];cases y.made[n-1]?<;>rfl
theorem kH.build (h:kH cs y)(v:Int):kH ((y.made.length+1)::cs) (y.build v):=by
 refine⟨fun hm=> ?_,fun n hn=> ?_,?_,sq h.words 43 (by decide) _⟩
 ·have Oi:y.made.length+1<10000000:=by simpa [Yd.build,Yd.note]using hm
  show xm (y.trace++[43::Lib.itoa ((y.made.length+1:Nat):Int)])=⟨(y.made++[(v,true)]).map (·.2),y.live+1,true⟩
  rw[sn,h.told (by omega)];simp only[Qq.word];rw[ja (by decide),jb trivial,Bt (by omega)];simp
 ·rw[List.count_cons,h.WK n hn];show _=if((y.made++[(v,true)]).getD (n-1) (0,false)).2=true then 1 else 0
  unfold Bg Yd.at;rw[jA,jA,List.getElem?_append];by_cases h1:n-1<y.made.length
  ·rw[jb h1];have:(y.made.length+1==n)=false:=by simp;omega
   rw[this];simp
  ·rw[ja h1,jG (by omega)];by_cases h2:n=y.made.length+1
   ·subst h2;simp
   ·have:(y.made.length+1==n)=false:=by simp;omega
    rw[this,jG (by simp;omega)];simp
 ·show y.live+1=((((y.made++[(v,true)]).map (·.2)).count true:Nat):Int)
  rw[h.sum];simp
theorem kH.EM (h:kH cs y)(hn:1<=n)(hc:n∈cs):(y.at n).2=true:=by
 have h1:=h.WK n hn;have h2:=List.count_pos_iff.2 hc;unfold Bg at h1;split at h1
 ·assumption
 ·omega
theorem kH.free (h:kH (n::cs) y)(hn:1<=n):kH cs (y.free n):=by
 have hl:=h.EM hn (jM ..);have aL:=D1 hl;refine⟨fun hm=> ?_,fun k hk=> ?_,?_,sq h.words 45 (by decide) _⟩
 ·have Oi:y.made.length<10000000:=by simpa [Yd.free,Yd.note]using hm
  show xm (y.trace++[45::Lib.itoa ((n:Nat):Int)])=⟨(y.made.set (n-1) ((y.at n).1,false)).map (·.2),y.live-1,true⟩
  rw[sn,h.told Oi];simp only[Qq.word];rw[ja (by decide),ja (by decide),Bt (by omega),ja,jb trivial,List.map_set]
  ·simp
  ·rw[Int.toNat_natCast,xz,hl,jc];rintro(e|e|e)
   ·omega
   ·omega
   ·cases e
 ·have h1:=h.WK k hk;rw[List.count_cons]at h1;show _=if((y.made.set (n-1) ((y.at n).1,false)).getD (k-1) (0,false)).2=true then 1 else 0
  rw[jA];by_cases e:n=k
  ·subst e;rw[List.getElem?_set_self aL];unfold Bg at h1;rw[jb hl]at h1;simp at h1⊢;exact h1
  ·rw[List.getElem?_set_ne (by omega)];have:(n==k)=false:=by simp;omega
   rw[this]at h1;simpa [Bg,Yd.at,List.getD_eq_getElem?_getD]using h1
 ·show y.live-1=(((((y.made.set (n-1) ((y.at n).1,false)).map (·.2)).count true:Nat)):Int)
  rw[List.map_set,List.count_set (by simpa using aL),h.sum];have hg:(y.made.map (·.2))[n-1]'(by simpa using aL)=true:=by
   have:=xz y n;rw[jA,jB (by simpa using aL)]at this;rw[hl]at this;exact this
  rw[hg];have hp:1<=(y.made.map (·.2)).count true:=List.count_pos_iff.2 (hg▸jL _);simp;omega
theorem PR {s:Qq}{c:UInt8}(h1:¬c=111)(h2:¬c=43)(h3:¬c=45){n:Nat}(hn:1<=n)(h8:n<100000000)(hl:s.live.getD (n-1) false=true):s.word (c::Lib.itoa (n:Int))=s:=by
 have aL:n-1<s.live.length:=by
  rcases Nat.lt_or_ge (n-1) s.live.length with h|h
  ·exact h
  ·rw[jA,jG h]at hl;cases hl
 simp only[Qq.word];rw[ja h1,ja h2,Bt h8,ja,ja h3];rw[Int.toNat_natCast,hl];rintro(e|e|e)
 ·omega
 ·omega
 ·cases e
theorem kH.use (h:kH cs y)(hn:1<=n)(hc:n∈cs)(c:UInt8)(h1:¬c=111)(h2:¬c=43)(h3:¬c=45)(h4:c≠32):kH cs (y.note c (n:Nat)):=by
 have hl:=h.EM hn hc;have aL:=D1 hl;refine⟨fun hm=> ?_,h.WK,h.sum,sq h.words c h4 _⟩;have Oi:y.made.length<10000000:=hm;show xm (y.trace++[c::Lib.itoa ((n:Nat):Int)])=_
 rw[sn,h.told Oi,PR h1 h2 h3 hn (by omega) (by rw[xz];exact hl)];rfl
theorem kH.load (h:kH cs y)(hn:1<=n)(hc:n∈cs):kH cs (y.load n):=h.use hn hc 60 (by decide) (by decide) (by decide) (by decide)
theorem kH.store (h:kH cs y)(hn:1<=n)(hc:n∈cs)(v:Int):kH cs (y.store n v):=by
 have hs:=h.use hn hc 62 (by decide) (by decide) (by decide) (by decide);have hm:(y.made.set (n-1) (v,(y.at n).2)).map (·.2)=y.made.map (·.2):=by
  rw[List.map_set];have:=D1 (h.EM hn hc);refine List.ext_getElem? fun k=> ?_
  rw[jd];by_cases e:n-1=k
  ·subst e;rw[jb rfl,jb (by simpa using this),<-xz,jA,jB (by simpa using this)];rfl
  ·rw[ja e]
 refine⟨fun hk=> ?_,fun k hk=> ?_,?_,hs.words⟩
 ·have:=hs.told (by simpa [Yd.store,Yd.note]using hk);show xm _=⟨(y.made.set (n-1) (v,(y.at n).2)).map (·.2),y.live,true⟩
  rw[hm];exact this
 ·rw[h.WK k hk];unfold Bg;rw[<-xz,<-xz];show(if(y.made.map (·.2)).getD (k-1) false=true then 1 else 0)=if((y.made.set (n-1) (v,(y.at n).2)).map (·.2)).getD (k-1) false=true then 1 else 0
  rw[hm]
 ·show y.live=((((y.made.set (n-1) (v,(y.at n).2)).map (·.2)).count true:Nat):Int)
  rw[hm];exact h.sum
end
end Bal
namespace FlwR
open Go Go.RowKit Sq Aux PrjF PrjG PrjJ PrjK PrjL PrjM PrjO PrjP PrjQ PrjS PrjU FlwA FlwB FlwC FlwD FlwE FlwF FlwG FlwH FlwI FlwJ FlwK FlwL FlwM FlwN FlwO FlwP FlwQ
theorem G1:(Tryz.prog.info? 209).map (fun i=>(i.zero.map Value.cells,i.size,i.bytes))=some (some (aq ar).toArray,24,24):=by kernel_rfl
theorem Fk:Tryz.prog.underlying 139=some (.slice 209):=by kernel_rfl
theorem P5:eI ar:=⟨by decide,pj⟩
theorem Bl (w:World)(n:Nat):aT (w.alloc (.cells (madeCells (aq ar).toArray (n*24)) 209)) w.heap.size (List.replicate n ar):=by
 refine⟨fun s hs=>by rw[List.eq_of_mem_replicate hs];exact P5,madeCells (aq ar).toArray (n*24),by show(w.heap.push _)[w.heap.size]?=_;simp,by rw[size_madeCells];simp;omega,fun i j hi hj=> ?_⟩;rw[List.length_replicate]at hi;have hs:(aq ar).toArray.size=24:=by decide
 have Jr:j<(aq ar).toArray.size:=by rw[hs];exact hj
 have e:(i*24+j)%(aq ar).toArray.size=j:=by rw[hs];omega
 unfold madeCells;rw[Array.getElem?_map,Array.getElem?_range,jb (by omega),Option.map_some,e];rw[getElem!_pos _ j Jr];have hz:(List.replicate n ar).getD i []=ar:=by simp[List.getD_eq_getElem?_getD,hi]
 have hl:j<ar.length:=by simpa [ar]using hj
 rw[hz];simp[aq,hl]
theorem zq (n:Nat)(hn:n<=4000)(w:World):(Instr.makeSlice 139 (.int .i64 (n:Int)) (.int .i64 (n:Int))).run Tryz.prog w=.ok (.slice (some ⟨w.heap.size,0,none⟩) n n) (w.alloc (.cells (madeCells (aq ar).toArray (n*24)) 209)):=by
 obtain⟨i,hi,hx⟩:=Option.map_eq_some_iff.1 G1;simp only[Prod.mk.injEq]at hx;obtain⟨hz,hs,hb⟩:=hx;obtain⟨z,hz,hc⟩:=Option.map_eq_some_iff.1 hz;have:=run_make (P:=Tryz.prog) w 139 209 i z Fk hi hz .i64 .i64 n n (by omega) (Int.le_refl _) (by rw[hb];omega) (by omega);rw[hs,hc]at this;simpa using this
section
variable {z a:Nat} {w w':World} {q:QP} {vl vb:Value} {us:List Value} {vss:List (List (Value×Value))}
set_option maxRecDepth 20000 in
set_option maxHeartbeats 2000000 in
theorem Ml (h:lE z a w q vl vb us vss)(h0:0<q.blocks.length)(hn:q.blocks.length<=4000)(ie:q.locals.length<=12)(hq:Jy q.blocks.length q)(eY:∀j,(q.blocks.getD j []).length<=4000)
  (I:List (List Nat)->(Nat->Bool)->Prop) (Rd:I (eP (List.replicate q.blocks.length ar) 0 aV) (gY (List.replicate q.blocks.length ar) (fun _=>false) 0 aV))
  (hI:∀E O b,Fy E->E.length=q.blocks.length->b<q.blocks.length->O b=true->I E O->I (gJ q E (cC O b false) b).2.1 (gJ q E (cC O b false) b).2.2):
  Calls Tryz.prog 90 #[.pointer (some ⟨a,0,none⟩)] w fun e w'=>∃ap mb E' O',e=.returned (.agg #[.pointer (some ⟨a,0,none⟩),.slice (some ⟨ap,0,none⟩) q.blocks.length q.blocks.length,.map (some mb)])/\
   lE z a w' q vl vb us vss/\E'.length=q.blocks.length/\aT w' ap E'/\cO w' mb q.blocks.length O'/\I E' O'/\(∀b,O' b=false)/\w.heap.size<=ap/\w.heap.size<=mb/\Below w.heap.size w w':=by
 obtain⟨p0,p1,-,-⟩:=lE.facts h;obtain⟨adb,cb,rfl⟩:=ca h.blocks;have hbR:Below w.heap.size w (w.alloc (.cells #[.pointer none,.slice none 0 0,.map none] 165)):=(Below.refl _ _).alloc (jC _) _;have XM:=zq q.blocks.length hn;have YS:= @run_makeMap Tryz.prog;have p1R:=(hbR.cell (p:=⟨a,1,none⟩) h.lt).trans p1;have hPR:=h.below hbR;have Xj:(w.alloc (.cells #[.pointer none,.slice none 0 0,.map none] 165)).heap[w.heap.size]?=some (.cells #[.pointer none,.slice none 0 0,.map none] 165 (0,0)):=jD;go_enter Tryz.func90,Tryz.ntmps90
 go_upto_region 1 with fail
 generalize (w.alloc (.cells #[.pointer none,.slice none 0 0,.map none] 165))=R at*;go_upto_region 2 with fail
 have aw:Below R.heap.size R (R.alloc (.cells (madeCells (aq ar).toArray (q.blocks.length*24)) 209)):=(Below.refl _ _).alloc (jC _) _;have oD:=Bl R q.blocks.length;have lx:(R.alloc (.cells (madeCells (aq ar).toArray (q.blocks.length*24)) 209)).heap.size=R.heap.size+1:=by simp
 generalize (R.alloc (.cells (madeCells (aq ar).toArray (q.blocks.length*24)) 209))=R1 at*;have bU:Below R1.heap.size R1 (R1.alloc (.map #[] 0)):=(Below.refl _ _).alloc (jC _) _;have Js:=cO.made R1 q.blocks.length;have Ca:(R1.alloc (.map #[] 0)).heap.size=R.heap.size+1+1:=by simp[lx]
 generalize (R1.alloc (.map #[] 0))=R2 at*;have lJ:Below R2.heap.size R2 (R2.alloc (.cells #[.pointer (some ⟨a,0,none⟩),.slice (some ⟨R.heap.size,0,none⟩) q.blocks.length q.blocks.length,.map (some (R.heap.size+1))] 165)):=(Below.refl _ _).alloc (jC _) _;have hx3:(R2.alloc (.cells #[.pointer (some ⟨a,0,none⟩),.slice (some ⟨R.heap.size,0,none⟩) q.blocks.length q.blocks.length,.map (some (R.heap.size+1))] 165)).heap[R2.heap.size]?=some (.cells #[.pointer (some ⟨a,0,none⟩),.slice (some ⟨R.heap.size,0,none⟩) q.blocks.length q.blocks.length,.map (some (R.heap.size+1))] 165 (0,0)):=jD;generalize (R2.alloc (.cells #[.pointer (some ⟨a,0,none⟩),.slice (some ⟨R.heap.size,0,none⟩) q.blocks.length q.blocks.length,.map (some (R.heap.size+1))] 165))=R3 at*;have hwR:w.heap.size<R.heap.size:=lt_of_heap Xj;have B7:Below R.heap.size R R3:=aw.trans ((bU.mono aw.size).trans (lJ.mono (jS aw.size bU.size)));have Wt:aT R3 R.heap.size (List.replicate q.blocks.length ar):=(oD.heap (bU.block _ oD.lt)).heap (lJ.block _ (by omega));rw[lx]at Js;rw[Ca]at hx3;have Wp:cO R3 (R.heap.size+1) q.blocks.length (fun _=>false):=Js.heap (lJ.block _ (by omega));have hW:kL z (R.heap.size+1+1) a R.heap.size (R.heap.size+1) R3 q vl (.slice adb q.blocks.length cb) us vss (List.replicate q.blocks.length ar) (fun _=>false):=
  ⟨hx3,hPR.below B7,by simp,Wt,Wp⟩
 have hrr3:=(B7.block w.heap.size hwR).trans Xj;have Jl:=hbR.trans (B7.mono hbR.size);have KF:=J4 hW h0 hn ie hq eY I Rd hI;clear aw bU lJ oD Js lx Ca hx3 Wp Wt XM YS p1R Xj hPR p0 p1 Rd hI;have ZE:w.heap.size<=R.heap.size:=by omega
 have Qa:w.heap.size<=R.heap.size+1:=by omega
 generalize Y1:R.heap.size+1+1=x at*;have hne1:w.heap.size≠R.heap.size:=by omega
 have hne2:w.heap.size≠R.heap.size+1:=by omega
 clear Y1;generalize R.heap.size=ap at*;generalize ap+1=mb at*;go_wp2_with (go_at_call 144;refine KF.mono ?_;rintro e w1 ⟨rfl,E',O',tj,TR,mo,qq⟩;obtain⟨c0,c1,c2⟩:=tj.facts;have oD:=(qq.block _ (lt_of_heap hrr3) hne1 hne2).trans hrr3;have d0:=(cell_of_heap oD 0).trans (by rfl:_=some (Value.pointer none));have d1:=(cell_of_heap oD 1).trans (by rfl:_=some (Value.slice none 0 0));have d2:=(cell_of_heap oD 2).trans (by rfl:_=some (Value.map none));have f0:=frozen_of_heap oD 0;have f1:=frozen_of_heap oD 1;have f2:=frozen_of_heap oD 2)
 have hrf:(((w1.setCell ⟨w.heap.size,0,none⟩ (.pointer (some ⟨a,0,none⟩))).setCell ⟨w.heap.size,1,none⟩ (.slice (some ⟨ap,0,none⟩) q.blocks.length q.blocks.length)).setCell ⟨w.heap.size,2,none⟩ (.map (some mb))).heap[w.heap.size]?=some (.cells #[.pointer (some ⟨a,0,none⟩),.slice (some ⟨ap,0,none⟩) q.blocks.length q.blocks.length,.map (some mb)] 165 (0,0)):=by
  rw[Go.Proofs.YtmlgajhhnojdjaaGreatDoor.Aux.heap_setCell_same (Go.Proofs.YtmlgajhhnojdjaaGreatDoor.Aux.heap_setCell_same (Go.Proofs.YtmlgajhhnojdjaaGreatDoor.Aux.heap_setCell_same oD 0 _) 1 _) 2 _];rfl
 have AS:bw w.heap.size w1 (((w1.setCell ⟨w.heap.size,0,none⟩ (.pointer (some ⟨a,0,none⟩))).setCell ⟨w.heap.size,1,none⟩ (.slice (some ⟨ap,0,none⟩) q.blocks.length q.blocks.length)).setCell ⟨w.heap.size,2,none⟩ (.map (some mb))):=(((bw.refl _ _).setCell 0 _).setCell 1 _).setCell 2 _;clear d0 d1 d2 f0 f1 f2 c0 c1 c2;generalize (((w1.setCell ⟨w.heap.size,0,none⟩ (.pointer (some ⟨a,0,none⟩))).setCell ⟨w.heap.size,1,none⟩ (.slice (some ⟨ap,0,none⟩) q.blocks.length q.blocks.length)).setCell ⟨w.heap.size,2,none⟩ (.map (some mb)))=wf at*;refine bodyPost_ret (dQ Tryz.results90 _ _ _ w.heap.size [.pointer (some ⟨a,0,none⟩),.slice (some ⟨ap,0,none⟩) q.blocks.length q.blocks.length,.map (some mb)] _ rfl (fun j v hv=>by rw[Nat.zero_add,cell_of_heap hrf];simpa using hv) Tryz.underlying165 rfl (by kernel_rfl)) rfl ?_;have Og:∀(g:Nat) (cs:Array Value) (e:TypeId) (f:Nat×Nat),w1.heap[g]?=some (.cells cs e f)->e≠165->wf.heap[g]?=w1.heap[g]?:=fun g cs e f hg he=>AS.block g (lt_of_heap hg) (fun e1=>by
  rw[e1,oD]at hg;simp only[Option.some.injEq,Obj.cells.injEq]at hg;exact he hg.2.1.symm)
 refine⟨ap,mb,E',O',rfl,?_,tj.len,tj.row.heap (AS.block _ tj.row.lt (by omega)),tj.sy.heap (AS.block _ tj.sy.lt (by omega)),TR,mo,ZE,Qa,(Jl.trans (qq.below ZE Qa Jl.size)).trans (AS.below (jC _) (jS Jl.size qq.size))⟩;exact(h.below ((Jl.trans (qq.below ZE Qa Jl.size)).trans (AS.below (jC _) (jS Jl.size qq.size))))
set_option maxRecDepth 20000 in
theorem z8 (h:lE z a w q vl vb us vss)(h0:0<q.blocks.length)(hn:q.blocks.length<=4000)(ie:q.locals.length<=12)(hq:Jy q.blocks.length q)(eY:∀j,(q.blocks.getD j []).length<=4000)
  (I:List (List Nat)->(Nat->Bool)->Prop) (Rd:I (eP (List.replicate q.blocks.length ar) 0 aV) (gY (List.replicate q.blocks.length ar) (fun _=>false) 0 aV))
  (hI:∀E O b,Fy E->E.length=q.blocks.length->b<q.blocks.length->O b=true->I E O->I (gJ q E (cC O b false) b).2.1 (gJ q E (cC O b false) b).2.2):
  Calls Tryz.prog 54 #[.pointer (some ⟨a,0,none⟩)] w fun e w'=>(∃E',Fy E'/\E'.length=q.blocks.length/\I E' (fun _=>false)/\e=.returned (CS (aC (cV q E') q.blocks.length 0)))/\Below w.heap.size w w':=by
 have KW:=Ml h h0 hn ie hq eY I Rd hI;have KF:=fun x ap mb w1 E' (hW:kL z x a ap mb w1 q vl vb us vss E' (fun _=>false))=>AJ hW hn ie hq eY
 go_enter Tryz.func54,Tryz.ntmps54
 go_upto_region 2 with(go_at_call 90;refine KW.mono ?_;rintro e w1 ⟨ap,mb,E',O',rfl,Gz,tn,oD,YU,TR,mo,ZE,Qa,lv⟩)
 have hO:O'=fun _=>false:=funext mo
 have ZG:Below w1.heap.size w1 (w1.alloc (.cells #[.pointer (some ⟨a,0,none⟩),.slice (some ⟨ap,0,none⟩) q.blocks.length q.blocks.length,.map (some mb)] 165)):=(Below.refl _ _).alloc (jC _) _;have hX:(w1.alloc (.cells #[.pointer (some ⟨a,0,none⟩),.slice (some ⟨ap,0,none⟩) q.blocks.length q.blocks.length,.map (some mb)] 165)).heap[w1.heap.size]?=some (.cells #[.pointer (some ⟨a,0,none⟩),.slice (some ⟨ap,0,none⟩) q.blocks.length q.blocks.length,.map (some mb)] 165 (0,0)):=jD;have hW:kL z w1.heap.size a ap mb _ q vl vb us vss E' O':=⟨hX,Gz.below ZG,tn,oD.heap (ZG.block _ oD.lt),YU.below ZG⟩;rw[hO]at hW TR;have KX:=KF _ _ _ _ _ hW;have hBX:=lv.trans (ZG.mono lv.size);have hEok:Fy E':=oD.1;obtain⟨r,hr⟩:∃r,Hid (aC (cV q E') q.blocks.length 0=r):=⟨_,rfl⟩;rw[hr.out,tZ]at KX;clear KF KW hW hX ZG YU oD Gz mo hO Rd hI;generalize (w1.alloc (.cells #[.pointer (some ⟨a,0,none⟩),.slice (some ⟨ap,0,none⟩) q.blocks.length q.blocks.length,.map (some mb)] 165))=W at*;go_wp2_with (go_at_call 91;refine KX.mono ?_;rintro e w2 ⟨rfl,qs⟩)
 go_ret2
 refine⟨⟨E',hEok,tn,TR,?_⟩,hBX.trans (qs.below ZE Qa hBX.size)⟩;rw[hr.out,tZ];rfl
end
end FlwR
namespace PrjV
open Go Go.RowKit Sq Aux PrjF PrjG PrjH PrjI PrjJ PrjK PrjL PrjM PrjN PrjO PrjP PrjQ PrjR PrjS PrjT PrjU
theorem ru {ws:List B}{x:Nat×List B}(h:eQ ws=some x):x.1<23/\x.2.length=(ag x.1).length/\x.2=ws.drop 1:=by
 obtain⟨h1,h2⟩:=tE h;rw[eQ,h2]at h;simp only at h;split at h
 ·rename_i hc;refine⟨oX h2,?_,by rw[h1]⟩;rw[h1];simp only[List.length_drop];rw[h2];exact hc.1
 ·cases h
theorem zc (raw:Bool):∀(LS:List (List B)) (o:fk) (i:Nat) (S:List (Nat×List B)) (o':fk),aG raw LS o i=(S,o',none)->S.length=LS.length/\∀j,j<LS.length->∃ws x,LS[j]?=some ws/\S[j]?=some x/\eQ ws=some x
 |[],o,i,S,o',h=>by
  simp only[aG,Prod.mk.injEq]at h;obtain⟨rfl,-⟩:=h;exact⟨rfl,fun j hj=>by simp at hj⟩
 |ws::r,o,i,S,o',h=>by
  rw[aG]at h;cases hs:eQ ws with
  |none=>rw[hs]at h;simp at h
  |some x=>
   rw[hs]at h;simp only at h;by_cases ha:(aQ raw o x.1).2=true
   ·rw[jb ha]at h;simp only[Prod.mk.injEq]at h;obtain⟨rfl,h2⟩:=h;obtain⟨i1,i2⟩:=zc raw r _ (i+1) _ o' (Prod.ext rfl h2);refine⟨by simp[i1],fun j hj=> ?_⟩;cases j with
    |zero=>exact⟨ws,x,rfl,rfl,hs⟩
    |succ j=>simpa using i2 j (by simpa using hj)
   ·rw[ja ha]at h;simp at h
theorem sS (raw:Bool):∀(LS:List (List B)) (o:fk) (i:Nat) (S:List (Nat×List B)) (o':fk),aG raw LS o i=(S,o',none)->∀j,j<S.length->2<=(S.getD j (0,[])).1->o.sec=1\/1<=countB (S.take j)
 |[],o,i,S,o',h,j,hj,_=>by
  simp only[aG,Prod.mk.injEq]at h;obtain⟨rfl,-⟩:=h;simp at hj
 |ws::r,o,i,S,o',h,j,hj,h2=>by
  rw[aG]at h;cases hs:eQ ws with
  |none=>rw[hs]at h;simp at h
  |some x=>
   rw[hs]at h;simp only at h;by_cases ha:(aQ raw o x.1).2=true
   ·rw[jb ha]at h;simp only[Prod.mk.injEq]at h;obtain⟨rfl,hr⟩:=h;have ax:∀(h2:2<=x.1),o.sec=1:=fun h2=>by
     rw[aQ]at ha;split at ha
     ·simp at ha
     ·rw[ja (by omega),ja (by omega)]at ha;split at ha
      ·simp at ha
      ·rename_i h1;simpa using h1
    cases j with
    |zero=>exact .inl (ax (by simpa using h2))
    |succ j=>
     have ih:=sS raw r _ (i+1) _ o' (Prod.ext rfl hr) j (by simpa using hj) (by simpa using h2);by_cases h1:x.1=1
     ·right;unfold countB;rw[List.take_succ_cons,List.filter_cons,jb (by simp[h1])];simp
     ·rcases ih with ih|ih
      ·left;by_cases h0:x.1=0
       ·rw[aQ]at ih;split at ih
        ·exact ih
        ·exact ih
       ·exact ax (by omega)
      ·right;unfold countB at ih⊢;rw[List.take_succ_cons,List.filter_cons];split
       ·simp
       ·exact ih
   ·rw[ja ha]at h;simp at h
theorem Tg {raw:Bool}{L:List B}{S:List (Nat×List B)}{o:fk}(h:aG raw (L.map (split 32)) ⟨0,0,0⟩ 0=(S,o,none))(hL:L.length<=4000)(hlen:∀j,(word L j).length<=1048576):zy S/\S.length=L.length:=by
 obtain⟨h1,h2⟩:=zc raw _ _ _ _ _ h;rw[jc]at h1;have key:∀j,j<S.length->∃ws,ws=split 32 (word L j)/\eQ ws=some (S.getD j (0,[])):=fun j hj=>by
  obtain⟨ws,x,e1,e2,e3⟩:=h2 j (by simp;omega);refine⟨ws,?_,by rw[jA,e2];exact e3⟩;have ou:j<L.length:=by omega
  rw[jJ,jB ou]at e1;simp only[Option.map_some,Option.some.injEq]at e1;rw[<-e1];simp[word,ou]
 refine⟨⟨by omega,fun j hj=> ?_,fun j hj=> ?_,fun j i=> ?_,fun j hj h2=> ?_⟩,h1⟩
 ·obtain⟨ws,-,hs⟩:=key j hj;exact(ru hs).1
 ·obtain⟨ws,-,hs⟩:=key j hj;exact(ru hs).2.1
 ·by_cases hj:j<S.length
  ·obtain⟨ws,e,hs⟩:=key j hj;rw[(ru hs).2.2,e];have:word ((split 32 (word L j)).drop 1) i=word (split 32 (word L j)) (i+1):=by simp[word]
   rw[this];exact jS (eN 32 _ _) (hlen j)
  ·rw[jA,jG (by omega)];simp[word]
 ·have:=sS raw _ _ _ _ _ h j hj h2;rcases this with h|h
  ·simp at h
  ·exact h
theorem og (nb:Nat):∀(S:List (Nat×List B)) (i m:Nat) (q0 q:QP),bc nb S i q0=(q,none)->(∀b∈q0.blocks,b.length<=m)->q.locals.length<=q0.locals.length+S.length/\q.blocks.length<=q0.blocks.length+S.length/\∀b∈q.blocks,b.length<=m+S.length
 |[],i,m,q0,q,h,hm=>by
  simp only[bc,Prod.mk.injEq,and_true]at h;subst h;exact⟨jC _,jC _,hm⟩
 |x::r,i,m,q0,q,h,hm=>by
  rw[bc]at h;by_cases e0:x.1=0
  ·rw[jb e0]at h;split at h
   ·cases h
   ·obtain⟨i1,i2,i3⟩:=og nb r (i+1) m _ q h hm;simp only[QP.addLocal,List.length_append,List.length_singleton]at i1 i2;exact⟨by simp;omega,by simp;omega,fun b hb=>by have:=i3 b hb;simp;omega⟩
  ·rw[ja e0]at h;by_cases e1:x.1=1
   ·rw[jb e1]at h;obtain⟨i1,i2,i3⟩:=og nb r (i+1) m _ q h (fun b hb=>by
     simp only[QP.addBlock,List.mem_append,List.mem_singleton]at hb;rcases hb with hb|rfl
     ·exact hm b hb
     ·simp)
    simp only[QP.addBlock,List.length_append,List.length_singleton]at i1 i2;exact⟨by simp;omega,by simp;omega,fun b hb=>by have:=i3 b hb;simp;omega⟩
   ·rw[ja e1]at h;cases hl:ez q0.locals nb x with
    |none=>rw[hl]at h;cases h
    |some l=>
     rw[hl]at h;obtain⟨i1,i2,i3⟩:=og nb r (i+1) (m+1) _ q h (fun b hb=>by
      simp only[QP.addLine,List.mem_append,List.mem_singleton]at hb;rcases hb with hb|rfl
      ·exact Nat.le_succ_of_le (hm b (List.dropLast_subset _ hb))
      ·rw[jV,List.length_singleton,List.getLastD_eq_getLast?];cases hq:q0.blocks.getLast? with
       |none=>simp
       |some b'=>have:=hm b' (List.mem_of_getLast? hq);simp;omega)
     simp only[QP.addLine,List.length_append,List.length_singleton,List.length_dropLast]at i1 i2;exact⟨by simp;omega,by simp;omega,fun b hb=>by have:=i3 b hb;simp;omega⟩
theorem ON (l:B)(w:World)(h:l.length<=1048576)(E:Env w):
  Calls Tryz.prog 116 #[.string (bs l),.string ⟨#[10]⟩] w fun e w'=>e=.returned (.slice (some ⟨w.heap.size,0,none⟩) (split 10 l).length (split 10 l).length)/\Below w.heap.size w w'/\w.heap.size<w'.heap.size/\∀j,j<(split 10 l).length->w'.cell? ⟨w.heap.size,j,none⟩=some (.string (bs (word (split 10 l) j))):=by
 obtain⟨m,hm⟩:=E.OZ;have hc:=Eb 10 l.length l (jC _);refine(Tryz.strings_Split (bs l) ⟨#[10]⟩ m w (by rw[dR];omega) hm (by decide)).mono ?_;rintro e w' ⟨rfl,rfl⟩;rw[hc];refine⟨rfl,(Below.refl _ _).alloc (jC _) _,by simp,fun j hj=> ?_⟩;rw[((pZ 10 (Lib.countB (bs l) ⟨#[10]⟩) l).2.2 (by omega))];have:(w.alloc (.cells (((split 10 l).map bs).map Value.string).toArray 9)).heap[w.heap.size]?=some (.cells (((split 10 l).map bs).map Value.string).toArray 9 (0,0)):=jD;rw[cell_of_heap this];simp[word,hj]
theorem F5 (l:B)(w:World):Calls Tryz.prog 114 #[.string (bs l),.string ⟨#[10]⟩] w fun e w'=>e=.returned (.int .i64 (((split 10 l).length-1:Nat):Int))/\w'=w:=by
 have:=Tryz.strings_Count_one (bs l) 10 w;have e:(Lib.countByte (bs l).data.toList 10:Nat)=(split 10 l).length-1:=by
  rw[oj];simp[Lib.countByte,bs]
 rw[e]at this;exact this
end PrjV
end Go.Proofs.YtmlgajhhnojdjaaGreatDoor

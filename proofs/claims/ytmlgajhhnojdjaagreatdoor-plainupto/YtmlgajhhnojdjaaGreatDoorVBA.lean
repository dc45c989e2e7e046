import Derived.Test.YtmlgajhhnojdjaaGreatDoorVAZ
namespace Go.Proofs.YtmlgajhhnojdjaaGreatDoor
namespace RunB
open Go Sq Aux Go.Proofs.YtmlgajhhnojdjaaGreatDoor.Own RunA PrjS FlwA FlwB FlwC FlwD FlwE FlwF FlwG FlwH FlwI FlwJ FlwK FlwM FlwO FlwP FlwQ FlwS FlwY
section
variable {q:QP} {l:ab} {s:List Nat} {o:Own.Own}
theorem gv (hl:lC q l){j:Nat}(hj:j<l.places.length):(aw l j).1<q.locals.length/\(aw l j).2<=3:=
 hl.ok.places _ (by unfold aw;rw[jA,jB hj];exact jL _)
theorem xg (l:ab)(j:Nat):ab.at l j=aw l j:=rfl
theorem mw (dS:q.locals.length<=12)(h:gT q s o){p:Nat×Nat}(hp:p.1<q.locals.length)(ht:¬q.cF p.1=0)(hn:bt 2 [p] s=false):1<=o.box p:=by
 have hk:=gG.at_ h (ah p) (iW (by omega)) (by simp) (by rw[kf];exact ht);simp only[bt,List.any_cons,List.any_nil,Bool.or_false]at hn;have:=tg hn hk;show 1<=o.boxes.getD (ah p) 0
 omega
theorem dD (q:QP)(x:Nat×Nat):QP.ai q x=[x]/\¬(x.2=0/\q.cF x.1=2)\/QP.ai q x=[(x.1,1),(x.1,2)]/\x.2=0/\q.cF x.1=2:=by
 unfold QP.ai;by_cases h:x.2=0/\q.cF x.1=2
 ·exact .inr ⟨by rw[jb h],h⟩
 ·exact .inl ⟨by rw[ja h],h⟩
theorem q6 (hl:lC q l)(cV:l.op=12):(QP.ai q (aw l 0)).length=(QP.ai q (aw l 1)).length:=by
 have hk:=EH hl.fits cV;have hlen:l.places.length=2:=by rw[hl.ok.cP,cV];rfl
 have h0:=(gv hl (j:=0) (by omega)).2;have h1:=(gv hl (j:=1) (by omega)).2;unfold QP.aT at hk;rcases dD q (aw l 0)with⟨e,h⟩|⟨e,h,h'⟩<;>rcases dD q (aw l 1)with⟨e2,h2⟩|⟨e2,h2,EN⟩<;>rw[e,e2]
 ·rfl
 ·exfalso;rw[ja (show¬((aw l 1).2=1\/(aw l 1).2=2\/(aw l 1).2=3) by omega)]at hk;by_cases hp:(aw l 0).2=1\/(aw l 0).2=2\/(aw l 0).2=3
  ·rw[jb hp]at hk;omega
  ·rw[ja hp]at hk;exact h ⟨by omega,by omega⟩
 ·exfalso;rw[ja (show¬((aw l 0).2=1\/(aw l 0).2=2\/(aw l 0).2=3) by omega)]at hk;by_cases hp:(aw l 1).2=1\/(aw l 1).2=2\/(aw l 1).2=3
  ·rw[jb hp]at hk;omega
  ·rw[ja hp]at hk;exact h2 ⟨by omega,by omega⟩
 ·rfl
theorem ra (hl:lC q l)(vF:l.op=14):QP.ai q (aw l 0)=[aw l 0]/\QP.ai q (aw l 1)=[aw l 1]/\q.cF (aw l 0).1=3/\¬q.cF (aw l 1).1=0:=by
 have hlen:l.places.length=2:=by rw[hl.ok.cP,vF];rfl
 have k0:=kA hl.fits (j:=0) (by omega);have k1:=kA hl.fits (j:=1) (by omega);rw[vF]at k0 k1;have o0:=AD (x:=aw l 0) k0 (gv hl (j:=0) (by omega)).2;have o1:=tf (x:=aw l 1) k1;refine⟨?_,?_,o0.1,o1.1⟩
 ·rcases dD q (aw l 0)with⟨e,-⟩|⟨-,-,e⟩
  ·exact e
  ·omega
 ·rcases dD q (aw l 1)with⟨e,-⟩|⟨-,e1,e2⟩
  ·exact e
  ·exact absurd ⟨e1,e2⟩ o1.2.1
theorem JE (dS:q.locals.length<=12)(h:gT q s o){x:Nat×Nat}(hx:x.1<q.locals.length/\x.2<=3)(ht:¬q.cF x.1=0)(iA:iw q x s=false):∀n∈(Own.take (QP.ai q x) o).1,jy n (da q x s):=by
 have hf:=fun k hk ht=>gG.at_ h k hk (by simp) ht
 rcases dD q x with⟨e,hn⟩|⟨e,h0,h2⟩
 ·rw[e];have hk:=hf (ah x) (iW (by omega)) (by rw[kf];exact ht);intro n hm;simp only[Own.take,List.mem_singleton]at hm;subst hm;unfold da;by_cases h3:q.aT x=3
  ·rw[jb h3];exact hk
  ·rw[ja h3];unfold iw at iA;rw[ja h3,e]at iA;have:=mw dS h hx.1 ht iA;unfold jy;rw[ja (by omega)];decide
 ·have h3:¬q.aT x=3:=by unfold QP.aT;rw[ja (by omega)];omega
  unfold iw at iA;rw[ja h3,e]at iA;unfold da;rw[ja h3,e];simp only[bt,List.any_cons,List.any_nil,Bool.or_false,Bool.or_eq_false_iff]at iA;have s1:ah (x.1,1)=2*x.1:=rfl;have s2:ah (x.1,2)=2*x.1+1:=rfl;have k1:=tg iA.1 (hf _ (iW (x:=(x.1,1)) (by show x.1<12;omega)) (by rw[kf];exact ht));have k2:=tg iA.2 (hf _ (iW (x:=(x.1,2)) (by show x.1<12;omega)) (by rw[kf];exact ht));intro n hm;simp only[Own.take,List.mem_cons,List.not_mem_nil,or_false]at hm;unfold jy;rcases hm with rfl|rfl
  ·rw[ja (show¬o.box (x.1,1)=0 from k1)];decide
  ·have:(o.clear (x.1,1)).box (x.1,2)=o.boxes.getD (ah (x.1,2)) 0:=by
    unfold Own.clear Own.box;rw[dK,ja (by rw[s1,s2];omega)]
   rw[this,ja k2];decide
theorem kN (h:gT q s o){p:Nat×Nat}(ht:q.cF p.1=0){o':Own.Own}(hb:o'.boxes=o.boxes):gT q (s.set (ah p) 2) o':=by
 unfold gT;rw[hb];exact gG.free h _ _ (by rw[kf];exact ht)
theorem gu (hp:pz l.op=true)(vF:¬l.op=14):au q l s=s.set (ah (aw l 0)) 2:=by
 have cV:¬l.op=12:=fun e=>by rw[e]at hp;cases hp
 rw[au,jb hp,aR,ja cV,ja vF];rfl
theorem pP (hp:pz l.op=false)(cV:¬l.op=12)(yi:¬l.op=13)(lz:¬l.op=15):au q l s=s:=by
 have vF:¬l.op=14:=fun e=>by rw[e]at hp;cases hp
 rw[au,ja (by rw[hp];decide),ja cV,ja yi,ja lz,aR,ja cV,ja vF]
theorem fL (hl:lC q l)(aH:l.op=2\/l.op=3\/l.op=4\/l.op=5\/l.op=6\/l.op=7\/l.op=10):q.cF (aw l 0).1=0:=by
 have key:∀op:Fin 23,(op.val=2\/op.val=3\/op.val=4\/op.val=5\/op.val=6\/op.val=7\/op.val=10)->0<((ae op.val).filter eg).length/\(ae op.val).getD 0 0=105:=by decide
 obtain⟨k1,k2⟩:=key ⟨l.op,hl.ok.op⟩ aH;have:=kA hl.fits (j:=0) (by rw[hl.ok.cP];exact k1);have k3:(ae l.op).getD 0 0=105:=k2;rw[k3]at this;exact IA this
theorem IK (hl:lC q l)(dS:q.locals.length<=12)(hf:bh q l s=false)(h:gT q s o)(JU:kB l.op):o.rL l=true/\gT q (au q l s) (o.gJ q l):=by
 have easy:¬l.op=10->¬l.op=11->o.rL l=true:=fun h1 h2=>by unfold Own.rL;rw[ja h1,ja h2]
 rcases JU with e|e|e|e|e|e|e|e|e|e|e|e
 ·refine⟨easy (by omega) (by omega),?_⟩;rw[gu (by rw[e];rfl) (by omega),Own.gJ,jb e];exact kN h (fL hl (by omega)) rfl
 ·refine⟨easy (by omega) (by omega),?_⟩;rw[gu (by rw[e];rfl) (by omega),Own.gJ,ja (by omega),jb (by omega)];exact kN h (fL hl (by omega)) rfl
 ·refine⟨easy (by omega) (by omega),?_⟩;rw[gu (by rw[e];rfl) (by omega),Own.gJ,ja (by omega),jb (by omega)];exact kN h (fL hl (by omega)) rfl
 ·refine⟨easy (by omega) (by omega),?_⟩;rw[gu (by rw[e];rfl) (by omega),Own.gJ,ja (by omega),jb (by omega)];exact kN h (fL hl (by omega)) rfl
 ·refine⟨easy (by omega) (by omega),?_⟩;rw[gu (by rw[e];rfl) (by omega),Own.gJ,ja (by omega),ja (by omega),jb (by omega)];exact kN h (fL hl (by omega)) rfl
 ·refine⟨easy (by omega) (by omega),?_⟩;rw[pP (by rw[e];rfl) (by omega) (by omega) (by omega),Own.gJ,ja (by omega),ja (by omega),ja (by omega),jb (by omega)];exact h
 ·have hlen:l.places.length=2:=by rw[hl.ok.cP,e];rfl
  have k1:=kA hl.fits (j:=1) (by omega);rw[e]at k1;rw[bh,ja (by omega),ja (by omega),ja (by omega),jb (by omega),xg]at hf;refine⟨?_,?_⟩
  ·unfold Own.rL;rw[jb e];exact decide_eq_true (mw dS h (gv hl (j:=1) (by omega)).1 (tf (x:=aw l 1) k1).1 hf)
  ·rw[gu (by rw[e];rfl) (by omega),Own.gJ,ja (by omega),ja (by omega),ja (by omega),ja (by omega),jb (by omega)];exact kN h (fL hl (by omega)) rfl
 ·have hlen:l.places.length=2:=by rw[hl.ok.cP,e];rfl
  have k0:=kA hl.fits (j:=0) (by omega);rw[e]at k0;rw[bh,ja (by omega),ja (by omega),ja (by omega),ja (by omega),jb (by omega),xg,xg]at hf;have Mx:bt 2 [aw l 0] s=false:=by
   simp only[bt,List.any_cons,List.any_nil,Bool.or_false,Bool.or_eq_false_iff]at hf⊢;exact hf.1
  refine⟨?_,?_⟩
  ·unfold Own.rL;rw[ja (by omega),jb e];exact decide_eq_true (mw dS h (gv hl (j:=0) (by omega)).1 (tf (x:=aw l 0) k0).1 Mx)
  ·rw[pP (by rw[e];rfl) (by omega) (by omega) (by omega),Own.gJ,ja (by omega),ja (by omega),ja (by omega),ja (by omega),ja (by omega),jb (by omega)];exact h
 ·refine⟨easy (by omega) (by omega),?_⟩;have hlen:l.places.length=2:=by rw[hl.ok.cP,e];rfl
  have k1:=kA hl.fits (j:=1) (by omega);rw[e]at k1;rw[bh,ja (by omega),ja (by omega),ja (by omega),ja (by omega),ja (by omega),jb (by omega),xg,xg,Bool.or_eq_false_iff]at hf;rw[au,ja (by rw[e];decide),jb e,aR,jb e,Own.gJ,ja (by omega),ja (by omega),ja (by omega),ja (by omega),ja (by omega),ja (by omega),jb (by omega)];exact AU h _ _ (q6 hl e) (JE dS h (gv hl (j:=1) (by omega)) (CD (x:=aw l 1) k1) hf.1)
 ·refine⟨easy (by omega) (by omega),?_⟩;have hlen:l.places.length=1:=by rw[hl.ok.cP,e];rfl
  have k0:=kA hl.fits (j:=0) (by omega);rw[e]at k0;have o0:=AD (x:=aw l 0) k0 (gv hl (j:=0) (by omega)).2;have hh:QP.ai q (aw l 0)=[aw l 0]:=by
   rcases dD q (aw l 0)with⟨e,-⟩|⟨-,-,e⟩
   ·exact e
   ·omega
  rw[au,ja (by rw[e];decide),ja (by omega),jb e,aR,ja (by omega),ja (by omega),Own.gJ,ja (by omega),ja (by omega),ja (by omega),ja (by omega),ja (by omega),ja (by omega),ja (by omega),jb (by omega),hh];unfold gT;rw[(eS _ _).2.2.2];exact gG.put h (ah (aw l 0)) (.inl (by unfold jy;rw[jb rfl];decide)) (fun k hk=>by cases hk)
 ·refine⟨easy (by omega) (by omega),?_⟩;have hlen:l.places.length=2:=by rw[hl.ok.cP,e];rfl
  obtain⟨h0,h1,h2,h3⟩:=ra hl e;rw[bh,ja (by omega),ja (by omega),ja (by omega),jb (by omega),xg]at hf;rw[au,jb (by rw[e];rfl),aR,ja (by omega),jb e,Own.gJ,ja (by omega),ja (by omega),ja (by omega),ja (by omega),ja (by omega),ja (by omega),jb (by omega),h0,h1];refine AU h [aw l 0] [aw l 1] rfl (fun n hn=> ?_);simp only[Own.take,List.mem_singleton]at hn;subst hn;have:=mw dS h (gv hl (j:=1) (by omega)).1 h3 hf;unfold jy;rw[ja (by omega)];decide
 ·refine⟨easy (by omega) (by omega),?_⟩;rw[au,ja (by rw[e];decide),ja (by omega),ja (by omega),jb e,aR,ja (by omega),ja (by omega),Own.gJ,ja (by omega),ja (by omega),ja (by omega),ja (by omega),ja (by omega),ja (by omega),ja (by omega),jb (by omega)];unfold gT;rw[(eS _ _).2.2.2];exact tY _ h
theorem Hb (hl:lC q l)(h:gT q s o)(aH:l.op=6):gT q (au q l s) (o.calc l):=by
 rw[gu (by rw[aH];rfl) (by omega)];exact kN h (fL hl (by omega)) rfl
theorem LL (h:gT q s o)(aH:l.op=9)(v:Int):gT q (au q l s) ((o.drop [aw l 0]).new (aw l 0) v):=by
 rw[gu (by rw[aH];rfl) (by omega)];have e:((o.drop [aw l 0]).new (aw l 0) v).boxes=o.boxes.set (ah (aw l 0)) ((o.drop [aw l 0]).yd.made.length+1):=by
  show(o.drop [aw l 0]).boxes.set _ _=_
  rw[(eS _ _).2.2.2];show(o.boxes.set (ah (aw l 0)) 0).set _ _=_
  rw[List.set_set]
 unfold gT;rw[e];exact gG.put h _ (.inl (by unfold jy;rw[ja (by omega)];decide)) (fun k hk=>by cases hk)
theorem Js (_hls:q.locals.length<=12)(h:gT q s o):gT q (cM l (if o.other l then 1 else 0) s) o:=by
 unfold cM;by_cases e:l.op=20
 ·rw[jb e];refine⟨h.lb,by simpa [eO]using h.ls,fun k hk hn ht=> ?_⟩;show jy _ ((s.set (ah (l.places.getD 0 (0,0))) _).getD k 0)
  rw[dK,h.ls];by_cases ek:ah (l.places.getD 0 (0,0))=k
  ·rw[jb ⟨ek,hk⟩];have ho:o.other l= !(o.boxes.getD k 0==0):=by
    unfold Own.other;rw[ja (by omega),jb e];unfold Own.box;rw[ek]
   rw[ho];by_cases hz:o.boxes.getD k 0=0
   ·rw[hz];unfold jy;decide
   ·have hb:(o.boxes.getD k 0==0)=false:=by rw[jZ];exact hz
    rw[hb];unfold jy;rw[ja hz];decide
  ·rw[ja (fun x=>ek x.1)];exact h.at_ k hk hn ht
 ·rw[ja e];exact h
theorem Gs (q:QP)(cX:List Int):gT q aA (Own.start cX):=
 ⟨by simp[Own.start],by decide,fun k hk _ _=>by
  have h1:(Own.start cX).boxes.getD k 0=0:=by show(List.replicate 24 0).getD k 0=0;rw[jA,jO,jb hk];rfl
  have h2:aA.getD k 0=1:=by show(List.replicate 24 1).getD k 0=1;rw[jA,jO,jb hk];rfl
  rw[h1,h2];unfold jy;decide⟩
end
end RunB
namespace FlwR
open Go Go.RowKit Sq Aux PrjF PrjG PrjJ PrjK PrjL PrjM PrjO PrjP PrjQ PrjS PrjU FlwA FlwB FlwC FlwD FlwE FlwF FlwG FlwH FlwI FlwJ FlwK FlwL FlwM FlwN FlwO FlwP FlwQ
theorem Aq:(Tryz.prog.info? 209).map (fun i=>(i.zero.map Value.cells,i.size,i.bytes))=some (some (ag ak).toArray,24,24):=by kernel_rfl
theorem y6:Tryz.prog.underlying 139=some (.slice 209):=by kernel_rfl
theorem GI:dn ak:=⟨by decide,mL⟩
theorem IQ (w:World)(n:Nat):cL (w.alloc (.cells (madeCells (ag ak).toArray (n*24)) 209)) w.heap.size (List.replicate n ak):=by
 refine⟨fun s hs=>by rw[List.eq_of_mem_replicate hs];exact GI,madeCells (ag ak).toArray (n*24),by show(w.heap.push _)[w.heap.size]?=_;simp,by rw[size_madeCells];simp;omega,fun i j hi hj=> ?_⟩;rw[List.length_replicate]at hi;have hs:(ag ak).toArray.size=24:=by decide
 have rI:j<(ag ak).toArray.size:=by rw[hs];exact hj
 have e:(i*24+j)%(ag ak).toArray.size=j:=by rw[hs];omega
 unfold madeCells;rw[Array.getElem?_map,Array.getElem?_range,jb (by omega),Option.map_some,e];rw[getElem!_pos _ j rI];have hz:(List.replicate n ak).getD i []=ak:=by simp[List.getD_eq_getElem?_getD,hi]
 have hl:j<ak.length:=by simpa [ak]using hj
 rw[hz];simp[ag,hl]
theorem rP (n:Nat)(hn:n<=4000)(w:World):(Instr.makeSlice 139 (.int .i64 (n:Int)) (.int .i64 (n:Int))).run Tryz.prog w=.ok (.slice (some ⟨w.heap.size,0,none⟩) n n) (w.alloc (.cells (madeCells (ag ak).toArray (n*24)) 209)):=by
 obtain⟨i,hi,hx⟩:=Option.map_eq_some_iff.1 Aq;simp only[Prod.mk.injEq]at hx;obtain⟨hz,hs,hb⟩:=hx;obtain⟨z,hz,hc⟩:=Option.map_eq_some_iff.1 hz;have:=run_make (P:=Tryz.prog) w 139 209 i z y6 hi hz .i64 .i64 n n (by omega) (Int.le_refl _) (by rw[hb];omega) (by omega);rw[hs,hc]at this;simpa using this
section
variable {z a:Nat} {w w':World} {q:QP} {vl vb:Value} {us:List Value} {vss:List (List (Value×Value))}
set_option maxRecDepth 20000 in
set_option maxHeartbeats 2000000 in
theorem vg (h:fe z a w q vl vb us vss)(h0:0<q.blocks.length)(hn:q.blocks.length<=4000)(dS:q.locals.length<=12)(hq:vZ q.blocks.length q)(cD:∀j,(q.blocks.getD j []).length<=4000)
  (I:List (List Nat)->(Nat->Bool)->Prop) (BH:I (cZ (List.replicate q.blocks.length ak) 0 aA) (eh (List.replicate q.blocks.length ak) (fun _=>false) 0 aA))
  (hI:∀E O b,vB E->E.length=q.blocks.length->b<q.blocks.length->O b=true->I E O->I (dx q E (bH O b false) b).2.1 (dx q E (bH O b false) b).2.2):
  Calls Tryz.prog 90 #[.pointer (some ⟨a,0,none⟩)] w fun e w'=>∃ap mb E' O',e=.returned (.agg #[.pointer (some ⟨a,0,none⟩),.slice (some ⟨ap,0,none⟩) q.blocks.length q.blocks.length,.map (some mb)])/\
   fe z a w' q vl vb us vss/\E'.length=q.blocks.length/\cL w' ap E'/\bQ w' mb q.blocks.length O'/\I E' O'/\(∀b,O' b=false)/\w.heap.size<=ap/\w.heap.size<=mb/\Below w.heap.size w w':=by
 obtain⟨p0,p1,-,-⟩:=fe.facts h;obtain⟨adb,cb,rfl⟩:=a8 h.blocks;have Sn:Below w.heap.size w (w.alloc (.cells #[.pointer none,.slice none 0 0,.map none] 165)):=(Below.refl _ _).alloc (jC _) _;have Rg:=rP q.blocks.length hn;have Yi:= @run_makeMap Tryz.prog;have p1R:=(Sn.cell (p:=⟨a,1,none⟩) h.lt).trans p1;have Vy:=h.below Sn;have BJ:(w.alloc (.cells #[.pointer none,.slice none 0 0,.map none] 165)).heap[w.heap.size]?=some (.cells #[.pointer none,.slice none 0 0,.map none] 165 (0,0)):=jD;go_enter Tryz.func90,Tryz.ntmps90
 go_upto_region 1 with fail
 generalize (w.alloc (.cells #[.pointer none,.slice none 0 0,.map none] 165))=R at*;go_upto_region 2 with fail
 have aB:Below R.heap.size R (R.alloc (.cells (madeCells (ag ak).toArray (q.blocks.length*24)) 209)):=(Below.refl _ _).alloc (jC _) _;have mB:=IQ R q.blocks.length;have mZ:(R.alloc (.cells (madeCells (ag ak).toArray (q.blocks.length*24)) 209)).heap.size=R.heap.size+1:=by simp
 generalize (R.alloc (.cells (madeCells (ag ak).toArray (q.blocks.length*24)) 209))=R1 at*;have bu:Below R1.heap.size R1 (R1.alloc (.map #[] 0)):=(Below.refl _ _).alloc (jC _) _;have Rk:=bQ.made R1 q.blocks.length;have Cq:(R1.alloc (.map #[] 0)).heap.size=R.heap.size+1+1:=by simp[mZ]
 generalize (R1.alloc (.map #[] 0))=R2 at*;have dR:Below R2.heap.size R2 (R2.alloc (.cells #[.pointer (some ⟨a,0,none⟩),.slice (some ⟨R.heap.size,0,none⟩) q.blocks.length q.blocks.length,.map (some (R.heap.size+1))] 165)):=(Below.refl _ _).alloc (jC _) _;have Pw:(R2.alloc (.cells #[.pointer (some ⟨a,0,none⟩),.slice (some ⟨R.heap.size,0,none⟩) q.blocks.length q.blocks.length,.map (some (R.heap.size+1))] 165)).heap[R2.heap.size]?=some (.cells #[.pointer (some ⟨a,0,none⟩),.slice (some ⟨R.heap.size,0,none⟩) q.blocks.length q.blocks.length,.map (some (R.heap.size+1))] 165 (0,0)):=jD;generalize (R2.alloc (.cells #[.pointer (some ⟨a,0,none⟩),.slice (some ⟨R.heap.size,0,none⟩) q.blocks.length q.blocks.length,.map (some (R.heap.size+1))] 165))=R3 at*;have YT:w.heap.size<R.heap.size:=lt_of_heap BJ;have TL:Below R.heap.size R R3:=aB.trans ((bu.mono aB.size).trans (dR.mono (jS aB.size bu.size)));have Af:cL R3 R.heap.size (List.replicate q.blocks.length ak):=(mB.heap (bu.block _ mB.lt)).heap (dR.block _ (by omega));rw[mZ]at Rk;rw[Cq]at Pw;have MF:bQ R3 (R.heap.size+1) q.blocks.length (fun _=>false):=Rk.heap (dR.block _ (by omega));have hW:fZ z (R.heap.size+1+1) a R.heap.size (R.heap.size+1) R3 q vl (.slice adb q.blocks.length cb) us vss (List.replicate q.blocks.length ak) (fun _=>false):=
  ⟨Pw,Vy.below TL,by simp,Af,MF⟩
 have Ry:=(TL.block w.heap.size YT).trans BJ;have vk:=Sn.trans (TL.mono Sn.size);have KF:=B3 hW h0 hn dS hq cD I BH hI;clear aB bu dR mB Rk mZ Cq Pw MF Af Rg Yi p1R BJ Vy p0 p1 BH hI;have GM:w.heap.size<=R.heap.size:=by omega
 have Le:w.heap.size<=R.heap.size+1:=by omega
 generalize Oe:R.heap.size+1+1=x at*;have Ur:w.heap.size≠R.heap.size:=by omega
 have Us:w.heap.size≠R.heap.size+1:=by omega
 clear Oe;generalize R.heap.size=ap at*;generalize ap+1=mb at*;go_wp2_with (go_at_call 144;refine KF.mono ?_;rintro e w1 ⟨rfl,E',O',k9,JM,gh,jj⟩;obtain⟨c0,c1,c2⟩:=k9.facts;have mB:=(jj.block _ (lt_of_heap Ry) Ur Us).trans Ry;have d0:=(cell_of_heap mB 0).trans (by rfl:_=some (Value.pointer none));have d1:=(cell_of_heap mB 1).trans (by rfl:_=some (Value.slice none 0 0));have d2:=(cell_of_heap mB 2).trans (by rfl:_=some (Value.map none));have f0:=frozen_of_heap mB 0;have f1:=frozen_of_heap mB 1;have f2:=frozen_of_heap mB 2)
 have YA:(((w1.setCell ⟨w.heap.size,0,none⟩ (.pointer (some ⟨a,0,none⟩))).setCell ⟨w.heap.size,1,none⟩ (.slice (some ⟨ap,0,none⟩) q.blocks.length q.blocks.length)).setCell ⟨w.heap.size,2,none⟩ (.map (some mb))).heap[w.heap.size]?=some (.cells #[.pointer (some ⟨a,0,none⟩),.slice (some ⟨ap,0,none⟩) q.blocks.length q.blocks.length,.map (some mb)] 165 (0,0)):=by
  rw[Go.Proofs.YtmlgajhhnojdjaaGreatDoor.Aux.heap_setCell_same (Go.Proofs.YtmlgajhhnojdjaaGreatDoor.Aux.heap_setCell_same (Go.Proofs.YtmlgajhhnojdjaaGreatDoor.Aux.heap_setCell_same mB 0 _) 1 _) 2 _];rfl
 have rB:aW w.heap.size w1 (((w1.setCell ⟨w.heap.size,0,none⟩ (.pointer (some ⟨a,0,none⟩))).setCell ⟨w.heap.size,1,none⟩ (.slice (some ⟨ap,0,none⟩) q.blocks.length q.blocks.length)).setCell ⟨w.heap.size,2,none⟩ (.map (some mb))):=(((aW.refl _ _).setCell 0 _).setCell 1 _).setCell 2 _;clear d0 d1 d2 f0 f1 f2 c0 c1 c2;generalize (((w1.setCell ⟨w.heap.size,0,none⟩ (.pointer (some ⟨a,0,none⟩))).setCell ⟨w.heap.size,1,none⟩ (.slice (some ⟨ap,0,none⟩) q.blocks.length q.blocks.length)).setCell ⟨w.heap.size,2,none⟩ (.map (some mb)))=wf at*;refine bodyPost_ret (cK Tryz.results90 _ _ _ w.heap.size [.pointer (some ⟨a,0,none⟩),.slice (some ⟨ap,0,none⟩) q.blocks.length q.blocks.length,.map (some mb)] _ rfl (fun j v hv=>by rw[Nat.zero_add,cell_of_heap YA];simpa using hv) Tryz.underlying165 rfl (by kernel_rfl)) rfl ?_;have EW:∀(g:Nat) (cs:Array Value) (e:TypeId) (f:Nat×Nat),w1.heap[g]?=some (.cells cs e f)->e≠165->wf.heap[g]?=w1.heap[g]?:=fun g cs e f hg he=>rB.block g (lt_of_heap hg) (fun e1=>by
  rw[e1,mB]at hg;simp only[Option.some.injEq,Obj.cells.injEq]at hg;exact he hg.2.1.symm)
 refine⟨ap,mb,E',O',rfl,?_,k9.len,k9.row.heap (rB.block _ k9.row.lt (by omega)),k9.kp.heap (rB.block _ k9.kp.lt (by omega)),JM,gh,GM,Le,(vk.trans (jj.below GM Le vk.size)).trans (rB.below (jC _) (jS vk.size jj.size))⟩;exact(h.below ((vk.trans (jj.below GM Le vk.size)).trans (rB.below (jC _) (jS vk.size jj.size))))
set_option maxRecDepth 20000 in
theorem sf (h:fe z a w q vl vb us vss)(h0:0<q.blocks.length)(hn:q.blocks.length<=4000)(dS:q.locals.length<=12)(hq:vZ q.blocks.length q)(cD:∀j,(q.blocks.getD j []).length<=4000)
  (I:List (List Nat)->(Nat->Bool)->Prop) (BH:I (cZ (List.replicate q.blocks.length ak) 0 aA) (eh (List.replicate q.blocks.length ak) (fun _=>false) 0 aA))
  (hI:∀E O b,vB E->E.length=q.blocks.length->b<q.blocks.length->O b=true->I E O->I (dx q E (bH O b false) b).2.1 (dx q E (bH O b false) b).2.2):
  Calls Tryz.prog 54 #[.pointer (some ⟨a,0,none⟩)] w fun e w'=>(∃E',vB E'/\E'.length=q.blocks.length/\I E' (fun _=>false)/\e=.returned (xb (aG (bK q E') q.blocks.length 0)))/\Below w.heap.size w w':=by
 have KW:=vg h h0 hn dS hq cD I BH hI;have KF:=fun x ap mb w1 E' (hW:fZ z x a ap mb w1 q vl vb us vss E' (fun _=>false))=>sE hW hn dS hq cD
 go_enter Tryz.func54,Tryz.ntmps54
 go_upto_region 2 with(go_at_call 90;refine KW.mono ?_;rintro e w1 ⟨ap,mb,E',O',rfl,z6,vr,mB,V6,JM,gh,GM,Le,dk⟩)
 have hO:O'=fun _=>false:=funext gh
 have Qk:Below w1.heap.size w1 (w1.alloc (.cells #[.pointer (some ⟨a,0,none⟩),.slice (some ⟨ap,0,none⟩) q.blocks.length q.blocks.length,.map (some mb)] 165)):=(Below.refl _ _).alloc (jC _) _;have hX:(w1.alloc (.cells #[.pointer (some ⟨a,0,none⟩),.slice (some ⟨ap,0,none⟩) q.blocks.length q.blocks.length,.map (some mb)] 165)).heap[w1.heap.size]?=some (.cells #[.pointer (some ⟨a,0,none⟩),.slice (some ⟨ap,0,none⟩) q.blocks.length q.blocks.length,.map (some mb)] 165 (0,0)):=jD;have hW:fZ z w1.heap.size a ap mb _ q vl vb us vss E' O':=⟨hX,z6.below Qk,vr,mB.heap (Qk.block _ mB.lt),V6.below Qk⟩;rw[hO]at hW JM;have KX:=KF _ _ _ _ _ hW;have Vl:=dk.trans (Qk.mono dk.size);have Ts:vB E':=mB.1;obtain⟨r,hr⟩:∃r,Hid (aG (bK q E') q.blocks.length 0=r):=⟨_,rfl⟩;rw[hr.out,pa]at KX;clear KF KW hW hX Qk V6 mB z6 gh hO BH hI;generalize (w1.alloc (.cells #[.pointer (some ⟨a,0,none⟩),.slice (some ⟨ap,0,none⟩) q.blocks.length q.blocks.length,.map (some mb)] 165))=W at*;go_wp2_with (go_at_call 91;refine KX.mono ?_;rintro e w2 ⟨rfl,jk⟩)
 go_ret2
 refine⟨⟨E',Ts,vr,JM,?_⟩,Vl.trans (jk.below GM Le Vl.size)⟩;rw[hr.out,pa];rfl
end
end FlwR
namespace PrjV
open Go Go.RowKit Sq Aux PrjF PrjG PrjH PrjI PrjJ PrjK PrjL PrjM PrjN PrjO PrjP PrjQ PrjR PrjS PrjT PrjU
theorem mg {ws:List B}{x:Nat×List B}(h:bW ws=some x):x.1<23/\x.2.length=(ae x.1).length/\x.2=ws.drop 1:=by
 obtain⟨h1,h2⟩:=kR h;rw[bW,h2]at h;simp only at h;split at h
 ·rename_i hc;refine⟨ij h2,?_,by rw[h1]⟩;rw[h1];simp only[List.length_drop];rw[h2];exact hc.1
 ·cases h
theorem rb (raw:Bool):∀(LS:List (List B)) (o:di) (i:Nat) (S:List (Nat×List B)) (o':di),ar raw LS o i=(S,o',none)->S.length=LS.length/\∀j,j<LS.length->∃ws x,LS[j]?=some ws/\S[j]?=some x/\bW ws=some x
 |[],o,i,S,o',h=>by
  simp only[ar,Prod.mk.injEq]at h;obtain⟨rfl,-⟩:=h;exact⟨rfl,fun j hj=>by simp at hj⟩
 |ws::r,o,i,S,o',h=>by
  rw[ar]at h;cases hs:bW ws with
  |none=>rw[hs]at h;simp at h
  |some x=>
   rw[hs]at h;simp only at h;by_cases ha:(aq raw o x.1).2=true
   ·rw[jb ha]at h;simp only[Prod.mk.injEq]at h;obtain⟨rfl,h2⟩:=h;obtain⟨i1,i2⟩:=rb raw r _ (i+1) _ o' (Prod.ext rfl h2);refine⟨by simp[i1],fun j hj=> ?_⟩;cases j with
    |zero=>exact⟨ws,x,rfl,rfl,hs⟩
    |succ j=>simpa using i2 j (by simpa using hj)
   ·rw[ja ha]at h;simp at h
theorem oe (raw:Bool):∀(LS:List (List B)) (o:di) (i:Nat) (S:List (Nat×List B)) (o':di),ar raw LS o i=(S,o',none)->∀j,j<S.length->2<=(S.getD j (0,[])).1->o.sec=1\/1<=countB (S.take j)
 |[],o,i,S,o',h,j,hj,_=>by
  simp only[ar,Prod.mk.injEq]at h;obtain⟨rfl,-⟩:=h;simp at hj
 |ws::r,o,i,S,o',h,j,hj,h2=>by
  rw[ar]at h;cases hs:bW ws with
  |none=>rw[hs]at h;simp at h
  |some x=>
   rw[hs]at h;simp only at h;by_cases ha:(aq raw o x.1).2=true
   ·rw[jb ha]at h;simp only[Prod.mk.injEq]at h;obtain⟨rfl,hr⟩:=h;have aH:∀(h2:2<=x.1),o.sec=1:=fun h2=>by
     rw[aq]at ha;split at ha
     ·simp at ha
     ·rw[ja (by omega),ja (by omega)]at ha;split at ha
      ·simp at ha
      ·rename_i h1;simpa using h1
    cases j with
    |zero=>exact .inl (aH (by simpa using h2))
    |succ j=>
     have ih:=oe raw r _ (i+1) _ o' (Prod.ext rfl hr) j (by simpa using hj) (by simpa using h2);by_cases h1:x.1=1
     ·right;unfold countB;rw[List.take_succ_cons,List.filter_cons,jb (by simp[h1])];simp
     ·rcases ih with ih|ih
      ·left;by_cases h0:x.1=0
       ·rw[aq]at ih;split at ih
        ·exact ih
        ·exact ih
       ·exact aH (by omega)
      ·right;unfold countB at ih⊢;rw[List.take_succ_cons,List.filter_cons];split
       ·simp
       ·exact ih
   ·rw[ja ha]at h;simp at h
theorem Jf {raw:Bool}{L:List B}{S:List (Nat×List B)}{o:di}(h:ar raw (L.map (split 32)) ⟨0,0,0⟩ 0=(S,o,none))(hL:L.length<=4000)(hlen:∀j,(word L j).length<=1048576):rU S/\S.length=L.length:=by
 obtain⟨h1,h2⟩:=rb raw _ _ _ _ _ h;rw[jc]at h1;have key:∀j,j<S.length->∃ws,ws=split 32 (word L j)/\bW ws=some (S.getD j (0,[])):=fun j hj=>by
  obtain⟨ws,x,e1,e2,e3⟩:=h2 j (by simp;omega);refine⟨ws,?_,by rw[jA,e2];exact e3⟩;have zb:j<L.length:=by omega
  rw[jJ,jB zb]at e1;simp only[Option.map_some,Option.some.injEq]at e1;rw[<-e1];simp[word,zb]
 refine⟨⟨by omega,fun j hj=> ?_,fun j hj=> ?_,fun j i=> ?_,fun j hj h2=> ?_⟩,h1⟩
 ·obtain⟨ws,-,hs⟩:=key j hj;exact(mg hs).1
 ·obtain⟨ws,-,hs⟩:=key j hj;exact(mg hs).2.1
 ·by_cases hj:j<S.length
  ·obtain⟨ws,e,hs⟩:=key j hj;rw[(mg hs).2.2,e];have:word ((split 32 (word L j)).drop 1) i=word (split 32 (word L j)) (i+1):=by simp[word]
   rw[this];exact jS (fX 32 _ _) (hlen j)
  ·rw[jA,jG (by omega)];simp[word]
 ·have:=oe raw _ _ _ _ _ h j hj h2;rcases this with h|h
  ·simp at h
  ·exact h
theorem iR (nb:Nat):∀(S:List (Nat×List B)) (i m:Nat) (q0 q:QP),aJ nb S i q0=(q,none)->(∀b∈q0.blocks,b.length<=m)->q.locals.length<=q0.locals.length+S.length/\q.blocks.length<=q0.blocks.length+S.length/\∀b∈q.blocks,b.length<=m+S.length
 |[],i,m,q0,q,h,hm=>by
  simp only[aJ,Prod.mk.injEq,and_true]at h;subst h;exact⟨jC _,jC _,hm⟩
 |x::r,i,m,q0,q,h,hm=>by
  rw[aJ]at h;by_cases e0:x.1=0
  ·rw[jb e0]at h;split at h
   ·cases h
   ·obtain⟨i1,i2,i3⟩:=iR nb r (i+1) m _ q h hm;simp only[QP.addLocal,List.length_append,List.length_singleton]at i1 i2;exact⟨by simp;omega,by simp;omega,fun b hb=>by have:=i3 b hb;simp;omega⟩
  ·rw[ja e0]at h;by_cases e1:x.1=1
   ·rw[jb e1]at h;obtain⟨i1,i2,i3⟩:=iR nb r (i+1) m _ q h (fun b hb=>by
     simp only[QP.addBlock,List.mem_append,List.mem_singleton]at hb;rcases hb with hb|rfl
     ·exact hm b hb
     ·simp)
    simp only[QP.addBlock,List.length_append,List.length_singleton]at i1 i2;exact⟨by simp;omega,by simp;omega,fun b hb=>by have:=i3 b hb;simp;omega⟩
   ·rw[ja e1]at h;cases hl:cU q0.locals nb x with
    |none=>rw[hl]at h;cases h
    |some l=>
     rw[hl]at h;obtain⟨i1,i2,i3⟩:=iR nb r (i+1) (m+1) _ q h (fun b hb=>by
      simp only[QP.addLine,List.mem_append,List.mem_singleton]at hb;rcases hb with hb|rfl
      ·exact Nat.le_succ_of_le (hm b (List.dropLast_subset _ hb))
      ·rw[jV,List.length_singleton,List.getLastD_eq_getLast?];cases hq:q0.blocks.getLast? with
       |none=>simp
       |some b'=>have:=hm b' (List.mem_of_getLast? hq);simp;omega)
     simp only[QP.addLine,List.length_append,List.length_singleton,List.length_dropLast]at i1 i2;exact⟨by simp;omega,by simp;omega,fun b hb=>by have:=i3 b hb;simp;omega⟩
theorem Fw (l:B)(w:World)(h:l.length<=1048576)(E:Env w):
  Calls Tryz.prog 116 #[.string (bs l),.string ⟨#[10]⟩] w fun e w'=>e=.returned (.slice (some ⟨w.heap.size,0,none⟩) (split 10 l).length (split 10 l).length)/\Below w.heap.size w w'/\w.heap.size<w'.heap.size/\∀j,j<(split 10 l).length->w'.cell? ⟨w.heap.size,j,none⟩=some (.string (bs (word (split 10 l) j))):=by
 obtain⟨m,hm⟩:=E.FD;have hc:=yb 10 l.length l (jC _);refine(Tryz.strings_Split (bs l) ⟨#[10]⟩ m w (by rw[cu];omega) hm (by decide)).mono ?_;rintro e w' ⟨rfl,rfl⟩;rw[hc];refine⟨rfl,(Below.refl _ _).alloc (jC _) _,by simp,fun j hj=> ?_⟩;rw[((kS 10 (Lib.countB (bs l) ⟨#[10]⟩) l).2.2 (by omega))];have:(w.alloc (.cells (((split 10 l).map bs).map Value.string).toArray 9)).heap[w.heap.size]?=some (.cells (((split 10 l).map bs).map Value.string).toArray 9 (0,0)):=jD;rw[cell_of_heap this];simp[word,hj]
theorem zy (l:B)(w:World):Calls Tryz.prog 114 #[.string (bs l),.string ⟨#[10]⟩] w fun e w'=>e=.returned (.int .i64 (((split 10 l).length-1:Nat):Int))/\w'=w:=by
 have:=Tryz.strings_Count_one (bs l) 10 w;have e:(Lib.countByte (bs l).data.toList 10:Nat)=(split 10 l).length-1:=by
  rw[iX];simp[Lib.countByte,bs]
 rw[e]at this;exact this
end PrjV
end Go.Proofs.YtmlgajhhnojdjaaGreatDoor

import Derived.Test.YtmlgajhhnojdjaaGreatDoorRAR
namespace Go.Proofs.YtmlgajhhnojdjaaGreatDoor
namespace Sq
open Go Aux RefS RefT
theorem Sv {p:RP}{i:Nat}{f:B}(N:p.names i=true)(hl:¬word (p.line i) 0=cx)(hb:(behind (word (p.line i) 0) p.raw).1=f)(k:Nat)(hk:k<f.length)(hc:f[k]∈[(105:UInt8),112,109,111,100]):0<=p.find (aj (word (p.line i) (k+1))):=by
 subst hb;exact RP.iw N hl k hk hc
theorem aF.dI {text:B}{raw:Bool}{p:RP}(h:aF text raw p)(i:Nat)(hi:i<p.lines.length):p.dI (p.line i):=by
 have hN:=h.names i hi;have hB:∀(f:B) (e:(behind (word (p.line i) 0) p.raw).1=f) (hl:¬word (p.line i) 0=cx) (k:Nat) (hk:k<f.length) (hc:f[k]∈[(105:UInt8),112,109,111,100]),p.fits (word (p.line i) (k+1)):=fun f e hl k hk hc=>RP.MP (Sv hN hl e k hk hc) h.pre.aW
 refine⟨fun hm=> ?_,fun hm=> ?_⟩
 ·simp only[List.mem_cons,List.not_mem_nil,or_false]at hm;rcases hm with e|e|e|e|e|e|e|e|e|e|e|e|e
  ·exact hB [105,110] (by rw[e];rfl) (by rw[e];decide) 0 (by simp) (by simp)
  ·exact hB [105] (by rw[e];rfl) (by rw[e];decide) 0 (by simp) (by simp)
  ·exact hB [105,105,105] (by rw[e];rfl) (by rw[e];decide) 0 (by simp) (by simp)
  ·exact hB [105,105,105] (by rw[e];rfl) (by rw[e];decide) 0 (by simp) (by simp)
  ·exact hB [105,105,105] (by rw[e];rfl) (by rw[e];decide) 0 (by simp) (by simp)
  ·exact hB [105,105,105] (by rw[e];rfl) (by rw[e];decide) 0 (by simp) (by simp)
  ·exact hB [112,105] (by rw[e];rfl) (by rw[e];decide) 0 (by simp) (by simp)
  ·exact hB [105,112] (by rw[e];rfl) (by rw[e];decide) 0 (by simp) (by simp)
  ·exact hB [111] (by rw[e];rfl) (by rw[e];decide) 0 (by simp) (by simp)
  ·exact hB [100] (by rw[e];rfl) (by rw[e];decide) 0 (by simp) (by simp)
  ·exact hB [109,109] (by rw[e];rfl) (by rw[e];decide) 0 (by simp) (by simp)
  ·exact hB [111,112] (by rw[e];rfl) (by rw[e];decide) 0 (by simp) (by simp)
  ·exact hB [111,78,78] (by rw[e];rfl) (by rw[e];decide) 0 (by simp) (by simp)
 ·rcases hm with e|e
  ·exact hB [109,109] (by rw[e];rfl) (by rw[e];decide) 1 (by simp) (by simp)
  ·exact hB [111,112] (by rw[e];rfl) (by rw[e];decide) 1 (by simp) (by simp)
def DZ (x y:List WS):Prop:=∀i,((lw x i).known=true->(lw y i).known=true)/\Sub (lw x i) (lw y i)
theorem DZ.trans {x y z:List WS}(h:DZ x y)(h':DZ y z):DZ x z:=fun i=>⟨fun e=>(h' i).1 ((h i).1 e),(h i).2.trans (h' i).2⟩
theorem Af {x:List WS×Bool}(h:cP x.1){b:Nat}(hb:b<x.1.length){o:WS}(ho:o.dT):DZ x.1 (ke b o x).1:=by
 intro i;unfold ke;simp only;rw[lj _ _ _ hb];split
 ·rename_i e;subst e;exact⟨fun _=>WS.CQ _ _,fun k c hc=>(WS.Mx (h.fe i) ho (h.zero i) k c).mpr (.inl hc)⟩
 ·exact⟨id,Sub.refl _⟩
section
variable {p:RP}
theorem q8 (ws:List B){s:WS}(hs:s.dT)(f:B)(hb:∀k,f.getD k 0=78->p.dr (word ws (k+1))<p.lines.length):∀(m k:Nat) (x:List WS×Bool),x.1.length=p.lines.length->cP x.1->DZ x.1 (p.eZ ws s f m k x).1
 |0,k,x,_,_=>fun i=>⟨id,Sub.refl _⟩
 |m+1,k,x,hl,hr=>by
  rw[RP.eZ];by_cases hc:f.getD k 0=78
  ·rw[jb hc];have hg:=fV hr (b:=p.dr (word ws (k+1))) (by rw[hl];exact hb k hc) (p.lN hs ws k);exact(Af hr (by rw[hl];exact hb k hc) (p.lN hs ws k)).trans (q8 ws hs f hb m (k+1) _ (hg.len.trans hl) hg.rows)
  ·rw[ja hc];exact q8 ws hs f hb m (k+1) x hl hr
theorem Fh (hp:sC p){i:Nat}(hi:i<p.lines.length){x:List WS×Bool}(hl:x.1.length=p.lines.length)(hr:cP x.1):DZ x.1 (p.through i x).1:=by
 unfold RP.through;split
 ·have hf:=p.kV (hr.fe i) (p.line i);split
  ·exact q8 _ hf _ (hp.vI i hi) _ _ x hl hr
  ·rename_i he;exact Af hr (by rw[hl];exact hp.next i hi (by simpa using he)) hf
 ·exact fun i=>⟨id,Sub.refl _⟩
theorem y7 (hp:sC p):∀(m i:Nat) (x:List WS×Bool),i+m<=p.lines.length->x.1.length=p.lines.length->cP x.1->DZ x.1 (p.iy m i x).1
 |0,i,x,_,_,_=>fun i=>⟨id,Sub.refl _⟩
 |m+1,i,x,hi,hl,hr=>by
  rw[RP.iy];have hg:=RP.kG hp i (by omega) x hl hr;exact(Fh hp (by omega) hl hr).trans (y7 hp m (i+1) _ (by omega) (hg.len.trans hl) hg.rows)
end
structure Reached (p:RP)(L:List WS):Prop where
 len:L.length=p.lines.length
 rows:cP L
 start:DZ p.iA L
 least:∀C,s6 p C->pn L C
theorem aF.VM {text:B}{raw:Bool}{p:RP}(h:aF text raw p){L:List WS}(hL:p.Reach L):Reached p L:=by
 have hf:=h.first.2;induction hL with
 |start=>
  refine⟨(tD hf).2,(tD hf).1,fun i=>⟨id,Sub.refl _⟩,fun C hC i=> ?_⟩;unfold RP.iA;rw[lj _ _ _ (by simpa using hf),zU];split
  ·rename_i e;rw[e];exact⟨fun _=>hC.start.1,hC.start.2⟩
  ·refine⟨fun e=>(by cases e),fun k c hc=> ?_⟩;have:aI.at k=[]:=by
    unfold WS.at aI;simp only[List.getD_eq_getElem?_getD,List.getElem?_replicate];split<;>rfl
   rw[this]at hc;simp at hc
 |pass L _ _ ih=>
  have hg:=RP.LL h.leads L ih.len ih.rows;exact⟨hg.len.trans ih.len,hg.rows,ih.start.trans (y7 h.leads _ 0 (L,false) (by omega) ih.len ih.rows),fun C hC=>sQ h.leads h.dI hC _ 0 (L,false) (by omega) ih.len ih.rows (ih.least C hC)⟩
theorem aF.settled {text:B}{raw:Bool}{p:RP}(h:aF text raw p){L:List WS}(hL:p.iT L):Reached p L/\s6 p (lw L):=by
 obtain⟨L0,hr,hp⟩:=hL;have hR:=h.VM hr;obtain⟨-,h2,h3⟩:=vZ h.leads p.lines.length 0 (L0,false) (by omega) hR.len hR.rows (by show(p.pass L0).2=false;rw[hp]);have e:L0=L:=by
  have:(p.pass L0).1=L0:=h2;rw[hp]at this;exact this.symm
 subst e;refine⟨hR,⟨fun i=>(hR.rows.fe i).len,?_,fun i hi hk x hx=>h3 i (by omega) (by omega) hk x hx⟩⟩;have hs:=hR.start (p.blocks.getD 0 0);have e:lw p.iA (p.blocks.getD 0 0)=j0:=by
  unfold RP.iA;rw[lj _ _ _ (by simpa using h.first.2),jb rfl]
 rw[e]at hs;exact⟨hs.1 rfl,hs.2⟩
end Sq
namespace Sq
open Go Aux RefS RefT
def RP.ed (p:RP)(i:Nat):Nat:=((List.range i).filter fun j=>ao (p.line j)).length
theorem RP.dv (p:RP)(i:Nat):p.ed (i+1)=p.ed i+if ao (p.line i)then 1 else 0:=by
 unfold RP.ed;rw[List.range_succ,List.filter_append,jV];congr 1;cases h:ao (p.line i)<;>simp[h]
theorem range_split (n b:Nat)(h:b<n):∃r,List.range n=List.range b++b::r:=by
 obtain⟨m,rfl⟩:∃m,n=b+(m+1):=⟨n-b-1,by omega⟩;rw[List.range_add,List.range_succ_eq_map];exact⟨List.map (fun x=>b+x) (List.map Nat.succ (List.range m)),by simp only[List.map_cons,Nat.add_zero]⟩
theorem RP.oI {p:RP}(hb:p.blocks=p.bQ ao){b:Nat}(h:b<p.lines.length)(hB:ao (p.line b)=true):p.ed b<p.blocks.length/\p.blocks.getD (p.ed b) 0=b:=by
 obtain⟨r,hr⟩:=range_split p.lines.length b h;have e:p.blocks=((List.range b).filter fun j=>ao (p.line j))++b::r.filter fun j=>ao (p.line j):=by
  rw[hb,RP.bQ,hr,List.filter_append,List.filter_cons,jb hB]
 have hl:((List.range b).filter fun j=>ao (p.line j)).length=p.ed b:=rfl;rw[e];constructor
 ·simp[hl]
 ·rw[jA,jf (by omega),hl,Nat.sub_self];rfl
theorem RP.kj {p:RP}(hb:p.blocks=p.bQ ao){m:Nat}(hm:m<p.blocks.length):p.blocks.getD m 0<p.lines.length/\ao (p.line (p.blocks.getD m 0))=true/\p.ed (p.blocks.getD m 0)=m:=by
 have h1:p.blocks.getD m 0=p.blocks[m]:=by simp[hm]
 have h2:p.blocks.getD m 0∈p.bQ ao:=by rw[<-hb,h1];exact jL _
 obtain⟨h3,h4⟩:=cI h2;refine⟨h3,h4,?_⟩;obtain⟨h5,h6⟩:=RP.oI hb h3 h4;have hnd:p.blocks.Nodup:=by
  rw[hb];unfold RP.bQ;exact List.Pairwise.filter _ List.nodup_range
 have h7:p.blocks[p.ed (p.blocks.getD m 0)]=p.blocks[m]:=by
  have:p.blocks.getD (p.ed (p.blocks.getD m 0)) 0=p.blocks[p.ed (p.blocks.getD m 0)]:=by rw[jA (i:=p.ed _),jB h5];rfl
  rw[<-this,h6,h1]
 exact(List.getElem_inj hnd).mp h7
def RP.body (p:RP)(i:Nat):Prop:=i<p.lines.length/\isLet (p.line i)=false/\ao (p.line i)=false
theorem tq (p:RP):∀i,i<=p.lines.length->p.inside i=true->1<=p.ed i
 |0,_,h=>by simp[RP.inside,lK]at h
 |i+1,hi,h=>by
  rw[gE p i (by omega)]at h;rw[p.dv];by_cases hb:word (p.line i) 0=aR
  ·have:ao (p.line i)=true:=by simp[ao,hb]
   rw[this];simp
  ·rw[ja hb]at h;split at h
   ·cases h
   ·have:=tq p i (by omega) h;omega
section
variable {text:B} {raw:Bool} {p:RP}
theorem aF.pP (h:aF text raw p){i:Nat}(hi:i<p.lines.length)(hc:1<=p.ed i):isLet (p.line i)=false:=by
 cases hl:isLet (p.line i)
 ·rfl
 ·exfalso;unfold RP.ed at hc;obtain⟨b,hb⟩:=List.exists_mem_of_length_pos (jK Nat.zero_lt_one hc);simp only[List.mem_filter,List.mem_range]at hb;have:b∈p.blocks:=by rw[h.pre.blocks,RP.bQ];simp[hb.2];omega
  have:=h.pre.first i hi hl b this;omega
theorem aF.bZ (h:aF text raw p){i:Nat}(hb:p.body i):p.inside i=true/\1<=p.ed i:=by
 have:p.inside i=true:=by
  rcases h.pre.MW i hb.1 with hl|hl
  ·rw[hb.2.1]at hl;cases hl
  ·rw[hl,hb.2.2];rfl
 exact⟨this,tq p i (Nat.le_of_lt hb.1) this⟩
theorem aF.Ds (h:aF text raw p){i:Nat}(lg:p.inside (i+1)=true)(hn:i+1<p.lines.length):p.body (i+1):=by
 have hc:=tq p (i+1) (by omega) lg;have hl:=h.pP hn hc;refine⟨hn,hl,?_⟩;rcases h.pre.MW (i+1) hn with h1|h1
 ·rw[hl]at h1;cases h1
 ·rw[lg]at h1;cases hb:ao (p.line (i+1))
  ·rfl
  ·rw[hb]at h1;cases h1
theorem tb:ends aR=false:=by decide
theorem aF.lF (h:aF text raw p){i:Nat}(hi:i<p.lines.length)(hb:ao (p.line i)=true):p.body (i+1):=by
 have hw:word (p.line i) 0=aR:=by simpa [ao]using hb
 exact h.Ds (by rw[gE p i hi,jb hw]) (h.next i hi (by rw[hw];exact tb))
theorem aF.qF (h:aF text raw p){i:Nat}(hb:p.body i)(he:ends (word (p.line i) 0)=false):p.body (i+1):=by
 have hw:¬word (p.line i) 0=aR:=by have:=hb.2.2;simpa [ao]using this
 exact h.Ds (by rw[gE p i hb.1,ja hw,he];exact(h.bZ hb).1) (h.next i hb.1 he)
end
theorem ite_N {c:Prop} [Decidable c](a b:B×Bool)(ha:c->78∉a.1)(hb:78∉b.1):78∉(if c then a else b).1:=by
 split
 ·exact ha ‹_›
 ·exact hb
theorem not_N {w:B}{r:Bool}(h:ends w=false):78∉(behind w r).1:=by
 simp only[ends,Bool.or_eq_false_iff,beq_eq_false_iff_ne]at h;obtain⟨⟨⟨⟨h1,h2⟩,h3⟩,h4⟩,h5⟩:=h;unfold behind
 repeat (refine ite_N _ _ (fun hc=>by first|(simp;done)|exact absurd hc h1|exact absurd hc h2|exact absurd hc h3|exact absurd hc h5) ?_)
 simp
theorem vS {w:B}{r:Bool}(h:ends w=false)(k:Nat):¬(behind w r).1.getD k 0=78:=fun he=>by
 have hk:=va w r k he;have:(behind w r).1.getD k 0=(behind w r).1[k]:=by simp[hk]
 rw[this]at he;exact not_N (r:=r) h (he▸jL hk)
def RP.along (p:RP)(E:Nat->WS):Nat->WS
 |0=>aI
 |i+1=>if ao (p.line i)then E (p.ed i)else(p.step (p.line i) (RP.along p E i)).1
def RP.aJ (p:RP)(i:Nat):Nat:=p.ed i-1
structure mS (p:RP)(E:Nat->WS):Prop where
 len:∀b,(E b).ak.length=24
 start:(E 0).known=true/\Sub j0 (E 0)
 step:∀i,p.body i->(E (p.aJ i)).known=true->∀k,(behind (word (p.line i) 0) p.raw).1.getD k 0=78->(E ((number (word (p.line i) (k+1))).getD 0).toNat).known=true/\
  Sub (p.eF (p.line i) (p.step (p.line i) (p.along E i)).1 k) (E ((number (word (p.line i) (k+1))).getD 0).toNat)
def DX (p:RP)(E:Nat->WS):Prop:=∀E',mS p E'->∀b,b<p.blocks.length->(E b).known=true->(E' b).known=true/\Sub (E b) (E' b)
theorem RP.mM (p:RP){s:WS}(hs:s.ak.length=24)(ws:List B):(p.step ws s).1.ak.length=24:=by
 have e:∀l c,(p.now s l c).ak.length=24:=fun l c=>by rw[p.kE,hs]
 have e2:(RP.cK p ws s).1.ak.length=24:=by
  unfold RP.cK RP.taken;split<;>simp[p.kE,hs]
 unfold RP.step
 repeat' split
 all_goals first|exact hs|exact e _ _|exact e2
theorem fG {p:RP}{E:Nat->WS}(hE:∀b,(E b).ak.length=24):∀i,(p.along E i).ak.length=24
 |0=>rfl
 |i+1=>by
  rw[RP.along];split
  ·exact hE _
  ·exact p.mM (fG hE i) _
theorem step_block (p:RP){ws:List B}(h:word ws 0=aR)(s:WS):(p.step ws s)=(s,true):=by
 unfold RP.step;simp[h,aR]
def RP.spread (p:RP)(E:Nat->WS)(i:Nat):WS:=if p.ed (i+1)=0 then aI else if ao (p.line i)then E (p.ed i)else⟨(E (p.aJ i)).known,(p.along E i).ak⟩
section
variable {text:B} {raw:Bool} {p:RP}
theorem om (h:aF text raw p)(E:Nat->WS){i:Nat}(hb:p.body i):p.spread E i=⟨(E (p.aJ i)).known,(p.along E i).ak⟩:=by
 have:=(h.bZ hb).2;unfold RP.spread;rw[ja (by rw[p.dv];omega),hb.2.2];rfl
theorem lR (E:Nat->WS){i:Nat}(hb:ao (p.line i)=true):p.spread E i=E (p.ed i):=by
 unfold RP.spread;rw[ja (by rw[p.dv,hb];simp),hb];rfl
theorem oG {i:Nat}(hb:ao (p.line i)=true):p.aJ (i+1)=p.ed i:=by
 unfold RP.aJ;rw[p.dv,hb];simp
theorem qH {i:Nat}(hb:ao (p.line i)=false):p.aJ (i+1)=p.aJ i:=by
 unfold RP.aJ;rw[p.dv,hb];simp
theorem Tu {s t:WS}(h:∀k,s.at k=t.at k):Sub s t:=fun k c hc=>by rw[<-h k];exact hc
theorem aF.sU (h:aF text raw p){E:Nat->WS}(hE:mS p E):s6 p (p.spread E):=by
 have lI:=fG (p:=p) hE.len;refine⟨fun i=> ?_,?_,fun i hi hk x hx=> ?_⟩
 ·unfold RP.spread;split
  ·rfl
  ·split
   ·exact hE.len _
   ·exact lI i
 ·have hm:=RP.kj h.pre.blocks h.first.1;rw[lR E hm.2.1,hm.2.2];exact hE.start
 ·by_cases hb:ao (p.line i)=true
  ·have hw:word (p.line i) 0=aR:=by simpa [ao]using hb
   have sb:=h.lF hi hb;unfold RP.outs at hx;rw[hw,ja (by rw[tb];decide),jI,step_block p hw,lR E hb]at hx;rw[lR E hb]at hk;subst hx;simp only;rw[om h E sb,oG hb];refine⟨hk,Tu fun k=> ?_⟩;have:p.along E (i+1)=E (p.ed i):=by rw[RP.along,jb hb]
   show _=(p.along E (i+1)).at k
   rw[this]
  ·have FA:ao (p.line i)=false:=by simpa using hb
   by_cases hc:p.ed (i+1)=0
   ·exfalso;unfold RP.spread at hk;rw[jb hc]at hk;cases hk
   ·have sb:p.body i:=⟨hi,h.pP hi (by rw[p.dv,FA]at hc;simp at hc;omega),FA⟩;rw[om h E sb]at hk hx;simp only at hk;have hm:Sub (p.step (p.line i) ⟨(E (p.aJ i)).known,(p.along E i).ak⟩).1 (p.step (p.line i) (p.along E i)).1:=RP.pd (p.line i) (h.dI i hi) (s:=⟨(E (p.aJ i)).known,(p.along E i).ak⟩) (lI i) (lI i) (fun _ _ hc=>hc);unfold RP.outs at hx;by_cases he:ends (word (p.line i) 0)=true
    ·rw[jb he]at hx;simp only[List.mem_map,List.mem_filter,List.mem_range,beq_iff_eq]at hx;obtain⟨k,⟨B8,GK⟩,rfl⟩:=hx;obtain⟨n,hn,Kn,TW,ql⟩:=h.vI i hi k GK;obtain⟨c1,c2⟩:=hE.step i sb hk k GK;rw[hn]at c1 c2;simp only[Option.getD_some,Int.toNat_natCast]at c1 c2;have YS:=RP.kj h.pre.blocks Kn;simp only;rw[TW,lR E YS.2.1,YS.2.2];have tn:(p.step (p.line i) ⟨(E (p.aJ i)).known,(p.along E i).ak⟩).1.ak.length=24:=p.mM (s:=⟨(E (p.aJ i)).known,(p.along E i).ak⟩) (lI i) (p.line i);have Dh:(p.step (p.line i) (p.along E i)).1.ak.length=24:=p.mM (lI i) (p.line i);exact⟨c1,(RP.tA (p.line i) (h.dI i hi) tn Dh hm k).trans c2⟩
    ·have Jq:ends (word (p.line i) 0)=false:=by simpa using he
     rw[ja he,jI]at hx;subst hx;simp only;rw[om h E (h.qF sb Jq),qH FA];refine⟨hk,hm.trans (Tu fun k=> ?_)⟩;have:p.along E (i+1)=(p.step (p.line i) (p.along E i)).1:=by rw[RP.along,ja hb]
     show _=(p.along E (i+1)).at k
     rw[this]
def RP.yS (p:RP)(C:Nat->WS)(b:Nat):WS:=C (p.blocks.getD b 0)
theorem oc (h:aF text raw p){C:Nat->WS}(hC:s6 p C):∀i,p.body i->(p.yS C (p.aJ i)).known=true->(C i).known=true/\Sub (p.along (p.yS C) i) (C i)
 |0,hb,_=>by have:=(h.bZ hb).2;simp[RP.ed]at this
 |i+1,hb,hk=>by
  have hi:i<p.lines.length:=by have:=hb.1;omega
  rw[RP.along];by_cases TV:ao (p.line i)=true
  ·rw[jb TV];rw[oG TV]at hk;have e:p.yS C (p.ed i)=C i:=by unfold RP.yS;rw[(RP.oI h.pre.blocks hi TV).2]
   rw[e]at hk⊢;have hw:word (p.line i) 0=aR:=by simpa [ao]using TV
   have:=hC.step i hi hk (i+1,C i) (by unfold RP.outs;rw[hw,ja (by rw[tb];decide),step_block p hw];simp);exact this
  ·have UL:ao (p.line i)=false:=by simpa using TV
   rw[ja TV];rw[qH UL]at hk;have Xv:1<=p.ed i:=by have:=(h.bZ hb).2;rw[p.dv,UL]at this;simpa using this
   have sb:p.body i:=⟨hi,h.pP hi Xv,UL⟩;have he:ends (word (p.line i) 0)=false:=by
    cases he:ends (word (p.line i) 0)
    ·rfl
    ·exfalso;have h1:=(h.bZ hb).1;have hw:¬word (p.line i) 0=aR:=by simpa [ao]using UL
     rw[gE p i hi,ja hw,he]at h1;cases h1
   obtain⟨h1,h2⟩:=oc h hC i sb hk;have:=hC.step i hi h1 (i+1,(p.step (p.line i) (C i)).1) (by unfold RP.outs;rw[he];simp);exact⟨this.1,(RP.pd _ (h.dI i hi) (fG (fun b=>hC.len _) i) (hC.len i) h2).trans this.2⟩
theorem aF.vC (h:aF text raw p){C:Nat->WS}(hC:s6 p C):mS p (p.yS C):=by
 refine⟨fun b=>hC.len _,hC.start,fun i hb hk k GK=> ?_⟩;obtain⟨h1,h2⟩:=oc h hC i hb hk;obtain⟨n,hn,Kn,TW,ql⟩:=h.vI i hb.1 k GK;have he:ends (word (p.line i) 0)=true:=by
  cases he:ends (word (p.line i) 0)
  ·exfalso;exact absurd GK (vS he k)
  ·rfl
 have:=hC.step i hb.1 h1 (p.dr (word (p.line i) (k+1)),p.eF (p.line i) (p.step (p.line i) (C i)).1 k) (by
  unfold RP.outs;rw[jb he];simp only[List.mem_map,List.mem_filter,List.mem_range,beq_iff_eq];exact⟨k,⟨va _ _ _ GK,GK⟩,rfl⟩)
 rw[hn];simp only[Option.getD_some,Int.toNat_natCast];unfold RP.yS;rw[TW]at this;have lI:(p.along (p.yS C) i).ak.length=24:=fG (fun b=>hC.len _) i;have hm:=RP.pd (p.line i) (h.dI i hb.1) lI (hC.len i) h2;exact⟨this.1,(RP.tA (p.line i) (h.dI i hb.1) (p.mM lI (p.line i)) (p.mM (hC.len i) (p.line i)) hm k).trans this.2⟩
theorem aF.same (h:aF text raw p){L:List WS}(hL:p.iT L){E:Nat->WS}(hE:mS p E)(hl:DX p E){i:Nat}(hb:p.body i):
  ((lw L i).known=true↔(E (p.aJ i)).known=true)/\((lw L i).known=true->∀k c,c∈(lw L i).at k↔c∈(p.along E i).at k):=by
 obtain⟨hR,hC⟩:=h.settled hL;have h1:=hR.least _ (h.sU hE) i;rw[om h E hb]at h1;have hH:=h.vC hC;have De:p.aJ i<p.blocks.length:=by
  have hc:=(h.bZ hb).2;have:p.ed i<=p.blocks.length:=by
   obtain⟨r,hr⟩:=range_split p.lines.length i hb.1;rw[h.pre.blocks,RP.bQ,hr,List.filter_append,jV];unfold RP.ed;omega
  unfold RP.aJ;omega
 have hx:(E (p.aJ i)).known=true->(lw L i).known=true:=fun hk=>(oc h hC i hb (hl _ hH _ De hk).1).1
 refine⟨⟨h1.1,hx⟩,fun hk k c=>⟨fun hc=>h1.2 k c hc,fun hc=> ?_⟩⟩;have Dg:=h1.1 hk;have lI:∀j,p.body j->p.aJ j=p.aJ i->Sub (p.along E j) (p.along (p.yS (lw L)) j):=by
  intro j;induction j with
  |zero=>intro hj;have:=(h.bZ hj).2;simp[RP.ed]at this
  |succ j ih=>
   intro hj Z4;have P9:j<p.lines.length:=by have:=hj.1;omega
   rw[RP.along,RP.along];by_cases hbj:ao (p.line j)=true
   ·rw[jb hbj,jb hbj];rw[oG hbj]at Z4;rw[Z4];exact(hl _ hH _ De Dg).2
   ·have Xu:ao (p.line j)=false:=by simpa using hbj
    rw[ja hbj,ja hbj];rw[qH Xu]at Z4;have Xv:1<=p.ed j:=by have:=(h.bZ hj).2;rw[p.dv,Xu]at this;simpa using this
    exact RP.pd (p.line j) (h.dI j P9) (fG hE.len j) (fG (fun b=>hC.len _) j) (ih ⟨P9,h.pP P9 Xv,Xu⟩ Z4)
 exact(oc h hC i hb (hl _ hH _ De Dg).1).2 k c (lI i hb rfl k c hc)
end
end Sq
namespace Sq
open Go Aux RefS RefT
structure bD where
 loc:Nat
 part:UInt8
instance:Inhabited bD:=⟨⟨0,0⟩⟩
def bD.slot (x:bD):Nat:=if x.part=98 then 2*x.loc+1 else 2*x.loc
structure lu where
 num:Nat
 op:B
 places:List bD
 number:Int
 next:List Nat
def lu.w (l:lu)(j:Nat):bD:=l.places.getD j default
structure dU where
 locals:List (B×B)
 blocks:List (List lu)
def dU.bB (q:dU)(n:Nat):B:=(q.locals.getD n ([],[])).2
def dU.kind (q:dU)(x:bD):B:=if x.part=97\/x.part=98\/x.part=115 then kA else q.bB x.loc
def dU.fL (q:dU)(x:bD):List bD:=if x.part=0/\q.bB x.loc=cm then [⟨x.loc,97⟩,⟨x.loc,98⟩]else [x]
def dV (c:UInt8):Bool:=c==105||c==111||c==112||c==109||c==100
def RP.placeOf (p:RP)(w:B):bD:=⟨(p.find (aj w)).toNat,partOf w⟩
def RP.placesOf (p:RP):B->List B->List bD
 |[],_=>[]
 |c::f,ws=>if dV c then p.placeOf (word ws 0)::RP.placesOf p f (ws.drop 1)else RP.placesOf p f (ws.drop 1)
def Lz:B->List B->List Nat
 |[],_=>[]
 |c::f,ws=>if c=78 then((number (word ws 0)).getD 0).toNat::Lz f (ws.drop 1)else Lz f (ws.drop 1)
def numOf:B->List B->Int
 |[],_=>0
 |c::f,ws=>if c=110 then(number (word ws 0)).getD 0 else numOf f (ws.drop 1)
def RP.lz (p:RP)(i:Nat):lu:=⟨i,word (p.line i) 0,p.placesOf (behind (word (p.line i) 0) p.raw).1 ((p.line i).drop 1),numOf (behind (word (p.line i) 0) p.raw).1 ((p.line i).drop 1),Lz (behind (word (p.line i) 0) p.raw).1 ((p.line i).drop 1)⟩
def RP.rb (p:RP):List (B×B):=p.lets.map fun j=>(word (p.line j) 1,word (p.line j) 2)
def RP.WY (p:RP)(b:Nat):List lu:=(((List.range p.lines.length).drop (b+1)).takeWhile fun j=> !ao (p.line j)).map p.lz
def RP.lT (p:RP):dU:=⟨p.rb,p.blocks.map p.WY⟩
def bitsOf (s:B):Nat:=(if 45∈s then 1 else 0)+(if 119∈s then 2 else 0)+(if 110∈s then 4 else 0)+(if 104∈s then 8 else 0)
def xe (may:Nat)(ps:List bD)(s:Nat->Nat):Nat->Nat:=ps.foldl (fun s x k=>if k=x.slot then may else s k) s
def rG (ps:List bD)(s:Nat->Nat):Nat->Nat:=ps.foldl (fun s x k=>if k=x.slot then(if x.part=115 then 8 else 1)else s k) s
def dO (fit:Nat)(ps:List bD)(s:Nat->Nat):Bool:=ps.any fun x=> !(s x.slot&&&(15-fit)==0)
def dU.pass (q:dU)(l:lu)(s:Nat->Nat):Nat->Nat:=
 if l.op∈([[115,101,116],[105,110],[97,100,100],[115,117,98],[109,117,108],[100,105,118],[110,101,119],[108,111,97,100]]:List B)then xe 2 [l.w 0] s
 else if l.op=[109,111,118,101]then xe (if q.kind (l.w 1)=eH then s (l.w 1).slot else 2) (q.fL (l.w 0)) (rG (q.fL (l.w 1)) s)
 else if l.op=[110,111,110,101]then xe 4 [l.w 0] s
 else if l.op=[115,111,109,101]then xe 2 [l.w 0] (rG [l.w 1] s)
 else if l.op=[100,114,111,112]then rG (q.fL (l.w 0)) s
 else s
def BL (x:bD)(s:Nat->Nat):Bool:=x.part==115&&dO 10 [x] s
def dU.stuck (q:dU)(x:bD)(s:Nat->Nat):Bool:=if q.kind x=eH then dO 6 [x] s else dO 2 (q.fL x) s
def dU.Eg (q:dU)(l:lu)(s:Nat->Nat):Bool:=
 if l.op∈([[97,100,100],[115,117,98],[109,117,108],[100,105,118]]:List B)then dO 2 [l.w 1,l.w 2] s
 else if l.op∈([[111,117,116],[105,102],[101,110,100]]:List B)then dO 2 [l.w 0] s
 else if l.op=[110,101,119]then dO 2 [l.w 1] s||BL (l.w 0) s
 else if l.op=[108,111,97,100]\/l.op=[115,111,109,101]then dO 2 [l.w 1] s
 else if l.op=[115,116,111,114,101]then dO 2 [l.w 0,l.w 1] s
 else if l.op=[109,111,118,101]then q.stuck (l.w 1) s||BL (l.w 0) s
 else if l.op=[100,114,111,112]then BL (l.w 0) s
 else if l.op=[109,97,116,99,104]then dO 6 [l.w 0] s
 else false
def Rel (s:Nat->Nat)(t:WS):Prop:=∀k,k<24->s k=bitsOf (t.at k)
theorem Na (may:Nat):∀(ps:List bD) (s:Nat->Nat) (k:Nat),xe may ps s k=if k∈ps.map bD.slot then may else s k
 |[],s,k=>rfl
 |x::ps,s,k=>by
  have:=Na may ps (fun j=>if j=x.slot then may else s j) k;unfold xe at this⊢;rw[List.foldl_cons,this];by_cases h1:k∈ps.map bD.slot
  ·rw[jb h1,jb (by simp at h1⊢;exact .inr h1)]
  ·rw[ja h1];by_cases h2:k=x.slot
   ·rw[jb h2,jb (by simp[h2])]
   ·rw[ja h2,ja (by simp at h1⊢;exact⟨h2,h1⟩)]
theorem I7 (v:Nat):∀(ps:List bD) (_:∀x∈ps,(if x.part=115 then 8 else 1)=v) (s:Nat->Nat) (k:Nat),rG ps s k=if k∈ps.map bD.slot then v else s k
 |[],_,s,k=>rfl
 |x::ps,hv,s,k=>by
  have:=I7 v ps (fun y hy=>hv y (by simp[hy])) (fun j=>if j=x.slot then(if x.part=115 then 8 else 1)else s j) k;unfold rG at this⊢;rw[List.foldl_cons,this];by_cases h1:k∈ps.map bD.slot
  ·rw[jb h1,jb (by simp at h1⊢;exact .inr h1)]
  ·rw[ja h1];by_cases h2:k=x.slot
   ·rw[jb h2,hv x (jM ..)];exact(jb (by rw[List.map_cons,h2];exact jM ..)).symm
   ·rw[ja h2,ja (by simp at h1⊢;exact⟨h2,h1⟩)]
section
variable {p:RP}
theorem Np {w:B}(h:0<=p.find (aj w)):p.lT.bB (p.placeOf w).loc=p.j6 w:=by
 obtain⟨j,hj,ou,-⟩:=RP.eA h;unfold dU.bB RP.lT RP.rb RP.placeOf RP.j6;simp only;rw[hj,Int.toNat_natCast];simp[ou]
theorem sj (w:B):(p.placeOf w).slot=(p.ak w).1:=by
 unfold bD.slot RP.placeOf RP.ak;simp only;split
 ·rfl
 ·split<;>rfl
def zW (w:B):Prop:=partOf w=0\/partOf w=97\/partOf w=98\/partOf w=115
theorem BC {w:B}(h:0<=p.find (aj w))(hp:zW w):p.typeOf w=cm↔(p.placeOf w).part=0/\p.lT.bB (p.placeOf w).loc=cm:=by
 rw[Np h];unfold RP.typeOf RP.placeOf;simp only;have UO:¬kA=cm:=by decide
 have qS:¬([]:B)=cm:=by decide
 have hh:∀t u:B,¬(if t=u then kA else [])=cm:=fun t u=>by split;exact UO;exact qS
 rcases hp with e|e|e|e
 ·rw[e,ja (by decide),ja (by decide)];exact⟨fun h=>⟨rfl,h⟩,fun h=>h.2⟩
 ·rw[e,jb (.inl rfl)];exact⟨fun h=>absurd h (hh _ _),fun h=>absurd h.1 (by decide)⟩
 ·rw[e,jb (.inr rfl)];exact⟨fun h=>absurd h (hh _ _),fun h=>absurd h.1 (by decide)⟩
 ·rw[e,ja (by decide),jb rfl];exact⟨fun h=>absurd h (hh _ _),fun h=>absurd h.1 (by decide)⟩
theorem pb {w:B}(ht:¬p.typeOf w=cm):(p.ak w).2=1:=by
 unfold RP.ak;by_cases h:partOf w=98
 ·rw[jb h]
 ·rw[ja h,ja ht]
theorem vA {w:B}(h:0<=p.find (aj w))(hp:zW w)(k:Nat):k∈(p.lT.fL (p.placeOf w)).map bD.slot↔p.ju w k=true:=by
 have YV:=BC h hp;unfold dU.fL RP.ju;by_cases hc:(p.placeOf w).part=0/\p.lT.bB (p.placeOf w).loc=cm
 ·rw[jb hc];have ht:=YV.mpr hc;have AZ:partOf w=0:=hc.1;have hs:p.ak w=(2*(p.find (aj w)).toNat,2):=by
   unfold RP.ak;rw[ja (by rw[AZ];decide),jb ht]
  rw[hs];have hl:(p.placeOf w).loc=(p.find (aj w)).toNat:=rfl;simp[bD.slot,hl];omega
 ·rw[ja hc];have ht:¬p.typeOf w=cm:=fun e=>hc (YV.mp e)
  have hs:(p.ak w).2=1:=pb ht;rw[hs,List.map_cons,List.map_nil,jI,sj];simp;omega
theorem Iv {w:B}(ht:¬p.typeOf w=cm)(k:Nat):k∈[p.placeOf w].map bD.slot↔p.ju w k=true:=by
 have hs:(p.ak w).2=1:=pb ht;unfold RP.ju;rw[hs,List.map_cons,List.map_nil,jI,sj];simp;omega
theorem Nb {ps:List bD}{w:B}(Qb:∀k,k∈ps.map bD.slot↔p.ju w k=true){s:Nat->Nat}{t:WS}(ht:t.ak.length=24)(hf:p.fits w)(h:Rel s t){may:Nat}{c:B}(hc:bitsOf c=may):Rel (xe may ps s) (p.now t w c):=by
 intro k hk;rw[Na,p.gR ht hf];by_cases hx:p.ju w k=true
 ·rw[jb ((Qb k).mpr hx),jb hx,hc]
 ·rw[ja (fun e=>hx ((Qb k).mp e)),ja hx];exact h k hk
theorem x7 (w:B):bitsOf (left w)=if partOf w=115 then 8 else 1:=by
 unfold left;split<;>decide
theorem IM {ps:List bD}{w:B}(Qb:∀k,k∈ps.map bD.slot↔p.ju w k=true)(hv:∀x∈ps,(if x.part=115 then 8 else 1)=if partOf w=115 then 8 else 1){s:Nat->Nat}{t:WS}(ht:t.ak.length=24)(hf:p.fits w)(h:Rel s t):Rel (rG ps s) (p.now t w (left w)):=by
 intro k hk;rw[I7 _ ps hv,p.gR ht hf];by_cases hx:p.ju w k=true
 ·rw[jb ((Qb k).mpr hx),jb hx,x7]
 ·rw[ja (fun e=>hx ((Qb k).mp e)),ja hx];exact h k hk
theorem GD {w:B}:∀x∈p.lT.fL (p.placeOf w),(if x.part=115 then 8 else 1)=if partOf w=115 then(8:Nat)else 1:=by
 intro x hx;unfold dU.fL at hx;split at hx
 ·rename_i hc;have AZ:partOf w=0:=hc.1;rw[AZ];simp only[List.mem_cons,List.not_mem_nil,or_false]at hx;rcases hx with rfl|rfl<;>rfl
 ·rw[jI]at hx;subst hx;rfl
end
end Sq
namespace Sq
open Go Aux RefS RefT
theorem B2 (ws:List B)(n k:Nat):word (ws.drop n) k=word ws (n+k):=by simp[word,List.getD_eq_getElem?_getD]
theorem qU {w:B}(h:isName w=true):partOf w=0:=by
 unfold partOf;have:dw w=false:=by
  cases hd:dw w
  ·rfl
  ·exfalso;simp only[dw,Bool.and_eq_true,decide_eq_true_eq,beq_iff_eq]at hd;obtain⟨h1,h2⟩:=hd;have hm:(46:UInt8)∈w:=List.mem_of_getElem? h2;simp only[isName,Bool.and_eq_true,List.all_eq_true]at h;have:=h.1.1 46 hm;exact absurd this (by decide)
 rw[this];rfl
theorem lL {w:B}(h:bX w=true):zW w:=by
 simp only[bX,Bool.and_eq_true,Bool.or_eq_true,decide_eq_true_eq,beq_iff_eq]at h;obtain⟨h1,((h2|h2)|h2)|h2⟩:=h
 ·rw[h2]at h1;exact .inl (qU h1)
 ·exact .inr (.inl h2)
 ·exact .inr (.inr (.inl h2))
 ·exact .inr (.inr (.inr h2))
theorem Mi (p:RP)(w1:B):∀(f:B) (ws:List B) (k:Nat) (hk:k<f.length),p.fy w1 f ws=true->p.di f[k] (word ws k) w1=true:=by
 intro f;induction f with
 |nil=>intro ws k hk;simp at hk
 |cons c f ih=>
  intro ws k hk h;rw[RP.fy,jH]at h;cases k with
  |zero=>exact h.1
  |succ k=>
   have:=ih (ws.drop 1) k (by simpa using hk) h.2;rw[bW]at this;simpa using this
structure dM (p:RP)(w:B):Prop where
 find:0<=p.find (aj w)
 part:zW w
 fits:p.fits w
 type:¬p.typeOf w=[]
section
variable {text:B} {raw:Bool} {p:RP}
theorem aF.place (h:aF text raw p){i:Nat}(hb:p.body i){f:B}(hf:(behind (word (p.line i) 0) p.raw).1=f)(k:Nat)(hk:k<f.length)(hc:dV f[k]=true):dM p (word (p.line i) (k+1))/\p.di f[k] (word (p.line i) (k+1)) (word (p.line i) 1)=true:=by
 subst hf;have hl:¬word (p.line i) 0=cx:=by have:=hb.2.1;simpa [isLet]using this
 have ql:¬word (p.line i) 0=aR:=by have:=hb.2.2;simpa [ao]using this
 simp only[dV,Bool.or_eq_true,beq_iff_eq]at hc;have hfd:=RP.iw (h.names i hb.1) hl k hk (by simp only[List.mem_cons,List.not_mem_nil,or_false];rcases hc with(((hc|hc)|hc)|hc)|hc<;>simp[hc]);have hw:=sN (h.pre.form i hb.1) hl k hk;have ht:p.di (behind (word (p.line i) 0) p.raw).1[k] (word (p.line i) (k+1)) (word (p.line i) 1)=true:=by
  have:=h.types i hb.1;simp only[RP.cz,Bool.or_eq_true,beq_iff_eq]at this;rcases this with(e|e)|e
  ·exact absurd e hl
  ·exact absurd e ql
  ·have:=Mi p _ _ _ k hk e
   rwa [bW]at this
 refine⟨⟨hfd,?_,RP.MP hfd h.pre.aW,?_⟩,ht⟩
 ·rcases hc with(((hc|hc)|hc)|hc)|hc
  ·rw[hc,iC,jb (.inl rfl)]at hw;exact .inl (qU hw)
  ·rw[hc,iC,jb (.inr rfl)]at hw;exact .inl (qU hw)
  ·rw[hc,iC,ja (by decide),jb (.inl rfl)]at hw;exact lL hw
  ·rw[hc,iC,ja (by decide),jb (.inr (.inl rfl))]at hw;exact lL hw
  ·rw[hc,iC,ja (by decide),jb (.inr (.inr rfl))]at hw;exact lL hw
 ·intro e;unfold RP.di at ht;rw[ja (by rcases hc with(((hc|hc)|hc)|hc)|hc<;>rw[hc]<;>decide),jb e]at ht;cases ht
theorem cL {w w1:B}(h:p.di 105 w w1=true):p.typeOf w=mN:=by
 unfold RP.di at h;rw[ja (by decide)]at h;by_cases e:p.typeOf w=mN
 ·exact e
 ·split at h
  ·cases h
  ·rw[jb (.inl ⟨rfl,e⟩)]at h;cases h
theorem pf {w w1:B}(h:p.di 112 w w1=true):p.typeOf w=kA:=by
 unfold RP.di at h;rw[ja (by decide)]at h;by_cases e:p.typeOf w=kA
 ·exact e
 ·split at h
  ·cases h
  ·rw[jb (.inr (.inl ⟨rfl,e⟩))]at h;cases h
theorem xq {w w1:B}(h:p.di 111 w w1=true):p.typeOf w=eH:=by
 unfold RP.di at h;rw[ja (by decide)]at h;by_cases e:p.typeOf w=eH
 ·exact e
 ·split at h
  ·cases h
  ·rw[jb (.inr (.inr ⟨rfl,e⟩))]at h;cases h
theorem BZ {w w1:B}(h:p.di 109 w w1=true):¬p.typeOf w=mN/\p.typeOf w=p.typeOf w1:=by
 unfold RP.di at h;rw[ja (by decide)]at h;split at h
 ·cases h
 ·rw[ja (by rintro(⟨h,-⟩|⟨h,-⟩|⟨h,-⟩)<;>exact absurd h (by decide))]at h;split at h
  ·cases h
  ·rename_i h1;refine⟨fun e=>h1 ⟨.inl rfl,e⟩,?_⟩;by_cases e:p.typeOf w=p.typeOf w1
   ·exact e
   ·rw[jb ⟨rfl,e⟩]at h;cases h
theorem Hf {w:B}(h:dM p w):p.lT.kind (p.placeOf w)=p.typeOf w:=by
 have ht:=h.type;unfold dU.kind;rw[Np h.find];unfold RP.typeOf at ht⊢;have e:(p.placeOf w).part=partOf w:=rfl;rw[e];rcases h.part with hp|hp|hp|hp
 ·rw[hp,ja (by decide),ja (by decide),ja (by decide)]
 ·rw[hp,jb (.inl rfl)]at ht;rw[hp,jb (.inl rfl),jb (.inl rfl)];split at ht
  ·rw[jb ‹_›]
  ·exact absurd rfl ht
 ·rw[hp,jb (.inr rfl)]at ht;rw[hp,jb (.inr (.inl rfl)),jb (.inr rfl)];split at ht
  ·rw[jb ‹_›]
  ·exact absurd rfl ht
 ·rw[hp,ja (by decide),jb rfl]at ht;rw[hp,jb (.inr (.inr rfl)),ja (by decide),jb rfl];split at ht
  ·rw[jb ‹_›]
  ·exact absurd rfl ht
theorem int_ne:¬mN=cm:=by decide
theorem D9:¬kA=cm:=by decide
theorem yb:¬eH=cm:=by decide
theorem rl {s:B}(hs:∀c∈s,c∈eE)(t:B):only s t=true↔(45∈s->45∈t)/\(110∈s->110∈t)/\(119∈s->119∈t)/\(104∈s->104∈t):=by
 simp only[only,has,List.all_eq_true,List.contains_iff_mem];refine⟨fun h=>⟨h 45,h 110,h 119,h 104⟩,fun⟨h1,h2,h3,h4⟩ c hc=> ?_⟩;have:=hs c hc;simp only[eE,List.mem_cons,List.not_mem_nil,or_false]at this;rcases this with rfl|rfl|rfl|rfl
 ·exact h1 hc
 ·exact h2 hc
 ·exact h3 hc
 ·exact h4 hc
theorem LF {s:B}(hs:∀c∈s,c∈eE):(!(bitsOf s&&&(15-2)==0))= !only s [119]:=by
 congr 1;rw[jX,rl hs];unfold bitsOf;by_cases h1:(45:UInt8)∈s<;>by_cases h2:(110:UInt8)∈s<;>by_cases h3:(119:UInt8)∈s<;>by_cases h4:(104:UInt8)∈s<;>simp[h1,h2,h3,h4]
theorem VB {s:B}(hs:∀c∈s,c∈eE):(!(bitsOf s&&&(15-6)==0))= !only s [110,119]:=by
 congr 1;rw[jX,rl hs];unfold bitsOf;by_cases h1:(45:UInt8)∈s<;>by_cases h2:(110:UInt8)∈s<;>by_cases h3:(119:UInt8)∈s<;>by_cases h4:(104:UInt8)∈s<;>simp[h1,h2,h3,h4]
theorem VC {s:B}(hs:∀c∈s,c∈eE):(!(bitsOf s&&&(15-10)==0))= !only s [119,104]:=by
 congr 1;rw[jX,rl hs];unfold bitsOf;by_cases h1:(45:UInt8)∈s<;>by_cases h2:(110:UInt8)∈s<;>by_cases h3:(119:UInt8)∈s<;>by_cases h4:(104:UInt8)∈s<;>simp[h1,h2,h3,h4]
end
end Sq
namespace Sq
open Go Aux RefS RefT
theorem DW (ws:List B)(k:Nat):word ws.tail k=word ws (k+1):=by rw[<-List.drop_one,bW]
section
variable {text:B} {p:RP}
theorem pQ {i:Nat}{f:B}(hf:(behind (word (p.line i) 0) p.raw).1=f):(p.lz i).places=p.placesOf f ((p.line i).drop 1):=by
 unfold RP.lz;rw[hf]
theorem zf {i:Nat}(hf:(behind (word (p.line i) 0) p.raw).1=[105,105,105]):(p.lz i).w 0=p.placeOf (word (p.line i) 1)/\(p.lz i).w 1=p.placeOf (word (p.line i) 2)/\(p.lz i).w 2=p.placeOf (word (p.line i) 3):=by
 unfold lu.w;rw[pQ hf];simp[RP.placesOf,dV,B2,DW]
theorem ic {i:Nat}{c:UInt8}{r:B}(hf:(behind (word (p.line i) 0) p.raw).1=c::r)(hc:dV c=true):(p.lz i).w 0=p.placeOf (word (p.line i) 1):=by
 unfold lu.w;rw[pQ hf,RP.placesOf,jb hc];simp[DW]
theorem B0 {i:Nat}{c d:UInt8}{r:B}(hf:(behind (word (p.line i) 0) p.raw).1=c::d::r)(hc:dV c=true)(hd:dV d=true):(p.lz i).w 1=p.placeOf (word (p.line i) 2):=by
 unfold lu.w;rw[pQ hf,RP.placesOf,jb hc,RP.placesOf,jb hd];simp[B2]
theorem yp {s:Nat->Nat}{t:WS}(ht:t.dT)(hr:Rel s t){w:B}(hw:dM p w)(hp:¬p.typeOf w=cm)(ho:¬p.typeOf w=eH):dO 2 [p.placeOf w] s= !p.there t w:=by
 have hs:=pb hp;have hk:(p.ak w).1<24:=by have:=hw.fits;unfold RP.fits at this;omega
 unfold dO RP.there;rw[hs,List.any_cons,List.any_nil,Bool.or_false,sj,hr _ hk,LF (ht.fe _).qi];unfold RP.some;rw[ja ho,dS];cases only (t.at (p.ak w).1) [119]<;>rfl
theorem DR {s:Nat->Nat}{t:WS}(ht:t.dT)(hr:Rel s t){w:B}(hw:dM p w)(ho:p.typeOf w=eH):dO 6 [p.placeOf w] s= !p.there t w:=by
 have hs:=pb (p:=p) (w:=w) (by rw[ho];exact yb);have hk:(p.ak w).1<24:=by have:=hw.fits;unfold RP.fits at this;omega
 unfold dO RP.there;rw[hs,List.any_cons,List.any_nil,Bool.or_false,sj,hr _ hk,VB (ht.fe _).qi];unfold RP.some;rw[jb ho,dS];cases only (t.at (p.ak w).1) [110,119]<;>rfl
theorem Md {s:Nat->Nat}{t:WS}(ht:t.dT)(hr:Rel s t){w:B}(hw:dM p w)(ho:p.typeOf w=cm):dO 2 (p.lT.fL (p.placeOf w)) s= !p.there t w:=by
 have YV:=(BC hw.find hw.part).mp ho;have AZ:partOf w=0:=YV.1;have hs:p.ak w=(2*(p.find (aj w)).toNat,2):=by
  unfold RP.ak;rw[ja (by rw[AZ];decide),jb ho]
 have hf:=hw.fits;unfold RP.fits at hf;rw[hs]at hf;unfold dU.fL;rw[jb YV];unfold dO RP.there;rw[hs];have e1:bD.slot ⟨(p.placeOf w).loc,97⟩=2*(p.find (aj w)).toNat:=rfl;have e2:bD.slot ⟨(p.placeOf w).loc,98⟩=2*(p.find (aj w)).toNat+1:=rfl;simp only[List.any_cons,List.any_nil,Bool.or_false,e1,e2];rw[hr _ (by omega),hr _ (by omega),LF (ht.fe _).qi,LF (ht.fe _).qi];unfold RP.some;rw[ja (by rw[ho];decide),dS,dS,dS];cases only (t.at (2*(p.find (aj w)).toNat)) [119]<;>cases only (t.at (2*(p.find (aj w)).toNat+1)) [119]<;>rfl
theorem Fa {s:Nat->Nat}{t:WS}(ht:t.dT)(hr:Rel s t){w:B}(hw:dM p w):BL (p.placeOf w) s= !cy p t w:=by
 have hb:=(RP.gu (p:=p) (w:=w) (RP.eA hw.find).choose_spec.1).2;have hk:(p.ak w).1<24:=by have:=hw.fits;unfold RP.fits at this;omega
 unfold BL cy dO;rw[List.any_cons,List.any_nil,Bool.or_false,sj,hr _ hk,VC (ht.fe _).qi];show(partOf w==115&&_)=_
 cases partOf w==115<;>cases only (t.at (p.ak w).1) [119,104]<;>rfl
theorem Tt {s:Nat->Nat}{t:WS}(ht:t.dT)(hr:Rel s t){w:B}(hw:dM p w):p.lT.stuck (p.placeOf w) s= !p.there t w:=by
 unfold dU.stuck;rw[Hf hw];by_cases ho:p.typeOf w=eH
 ·rw[jb ho];exact DR ht hr hw ho
 ·rw[ja ho];by_cases hp:p.typeOf w=cm
  ·exact Md ht hr hw hp
  ·have:p.lT.fL (p.placeOf w)=[p.placeOf w]:=by
    unfold dU.fL;rw[ja (fun e=>hp ((BC hw.find hw.part).mpr e))]
   rw[this];exact yp ht hr hw hp ho
end
end Sq
end Go.Proofs.YtmlgajhhnojdjaaGreatDoor

import Derived.Test.YtmlgajhhnojdjaaGreatDoorRAM
namespace Go.Proofs.YtmlgajhhnojdjaaGreatDoor
namespace Sq
open Go Aux RefS RefT
theorem Su {p:RP}{i:Nat}{f:B}(N:p.names i=true)(hl:¬word (p.line i) 0=cv)(hb:(behind (word (p.line i) 0) p.raw).1=f)(k:Nat)(hk:k<f.length)(hc:f[k]∈[(105:UInt8),112,109,111,100]):0<=p.find (ai (word (p.line i) (k+1))):=by
 subst hb;exact RP.iv N hl k hk hc
theorem aE.dH {text:B}{raw:Bool}{p:RP}(h:aE text raw p)(i:Nat)(hi:i<p.lines.length):p.dH (p.line i):=by
 have hN:=h.names i hi;have hB:∀(f:B) (e:(behind (word (p.line i) 0) p.raw).1=f) (hl:¬word (p.line i) 0=cv) (k:Nat) (hk:k<f.length) (hc:f[k]∈[(105:UInt8),112,109,111,100]),p.fits (word (p.line i) (k+1)):=fun f e hl k hk hc=>RP.MO (Su hN hl e k hk hc) h.pre.aV
 refine⟨fun hm=> ?_,fun hm=> ?_⟩
 ·simp only[List.mem_cons,List.not_mem_nil,or_false]at hm;rcases hm with e|e|e|e|e|e|e|e|e|e|e|e|e
  ·exact hB [105,110] (by rw[e];rfl) (by rw[e];decide) 0 (by simp) (by simp)
  ·exact hB [105] (by rw[e];rfl) (by rw[e];decide) 0 (by simp) (by simp)
  ·exact hB [105,105,105] (by rw[e];rfl) (by rw[e];decide) 0 (by simp) (by simp)
  ·exact hB [105,105,105] (by rw[e];rfl) (by rw[e];decide) 0 (by simp) (by simp)
  ·exact hB [105,105,105] (by rw[e];rfl) (by rw[e];decide) 0 (by simp) (by simp)
  ·exact hB [105,105,105] (by rw[e];rfl) (by rw[e];decide) 0 (by simp) (by simp)
  ·exact hB [112,105] (by rw[e];rfl) (by rw[e];decide) 0 (by simp) (by simp)
  ·exact hB [105,112] (by rw[e];rfl) (by rw[e];decide) 0 (by simp) (by simp)
  ·exact hB [111] (by rw[e];rfl) (by rw[e];decide) 0 (by simp) (by simp)
  ·exact hB [100] (by rw[e];rfl) (by rw[e];decide) 0 (by simp) (by simp)
  ·exact hB [109,109] (by rw[e];rfl) (by rw[e];decide) 0 (by simp) (by simp)
  ·exact hB [111,112] (by rw[e];rfl) (by rw[e];decide) 0 (by simp) (by simp)
  ·exact hB [111,78,78] (by rw[e];rfl) (by rw[e];decide) 0 (by simp) (by simp)
 ·rcases hm with e|e
  ·exact hB [109,109] (by rw[e];rfl) (by rw[e];decide) 1 (by simp) (by simp)
  ·exact hB [111,112] (by rw[e];rfl) (by rw[e];decide) 1 (by simp) (by simp)
def DY (x y:List WS):Prop:=∀i,((lw x i).known=true->(lw y i).known=true)/\Sub (lw x i) (lw y i)
theorem DY.trans {x y z:List WS}(h:DY x y)(h':DY y z):DY x z:=fun i=>⟨fun e=>(h' i).1 ((h i).1 e),(h i).2.trans (h' i).2⟩
theorem Ae {x:List WS×Bool}(h:cO x.1){b:Nat}(hb:b<x.1.length){o:WS}(ho:o.dS):DY x.1 (kd b o x).1:=by
 intro i;unfold kd;simp only;rw[lh _ _ _ hb];split
 ·rename_i e;subst e;exact⟨fun _=>WS.CP _ _,fun k c hc=>(WS.Mw (h.fc i) ho (h.zero i) k c).mpr (.inl hc)⟩
 ·exact⟨id,Sub.refl _⟩
section
variable {p:RP}
theorem qZ (ws:List B){s:WS}(hs:s.dS)(f:B)(hb:∀k,f.getD k 0=78->p.dq (word ws (k+1))<p.lines.length):∀(m k:Nat) (x:List WS×Bool),x.1.length=p.lines.length->cO x.1->DY x.1 (p.eY ws s f m k x).1
 |0,k,x,_,_=>fun i=>⟨id,Sub.refl _⟩
 |m+1,k,x,hl,hr=>by
  rw[RP.eY];by_cases hc:f.getD k 0=78
  ·rw[jb hc];have hg:=fU hr (b:=p.dq (word ws (k+1))) (by rw[hl];exact hb k hc) (p.lM hs ws k);exact(Ae hr (by rw[hl];exact hb k hc) (p.lM hs ws k)).trans (qZ ws hs f hb m (k+1) _ (hg.len.trans hl) hg.rows)
  ·rw[ja hc];exact qZ ws hs f hb m (k+1) x hl hr
theorem Fg (hp:sB p){i:Nat}(hi:i<p.lines.length){x:List WS×Bool}(hl:x.1.length=p.lines.length)(hr:cO x.1):DY x.1 (p.through i x).1:=by
 unfold RP.through;split
 ·have hf:=p.kU (hr.fc i) (p.line i);split
  ·exact qZ _ hf _ (hp.vH i hi) _ _ x hl hr
  ·rename_i he;exact Ae hr (by rw[hl];exact hp.next i hi (by simpa using he)) hf
 ·exact fun i=>⟨id,Sub.refl _⟩
theorem y6 (hp:sB p):∀(m i:Nat) (x:List WS×Bool),i+m<=p.lines.length->x.1.length=p.lines.length->cO x.1->DY x.1 (p.ix m i x).1
 |0,i,x,_,_,_=>fun i=>⟨id,Sub.refl _⟩
 |m+1,i,x,hi,hl,hr=>by
  rw[RP.ix];have hg:=RP.kF hp i (by omega) x hl hr;exact(Fg hp (by omega) hl hr).trans (y6 hp m (i+1) _ (by omega) (hg.len.trans hl) hg.rows)
end
structure Reached (p:RP)(L:List WS):Prop where
 len:L.length=p.lines.length
 rows:cO L
 start:DY p.iz L
 least:∀C,sZ p C->pk L C
theorem aE.VL {text:B}{raw:Bool}{p:RP}(h:aE text raw p){L:List WS}(hL:p.Reach L):Reached p L:=by
 have hf:=h.first.2;induction hL with
 |start=>
  refine⟨(tC hf).2,(tC hf).1,fun i=>⟨id,Sub.refl _⟩,fun C hC i=> ?_⟩;unfold RP.iz;rw[lh _ _ _ (by simpa using hf),zT];split
  ·rename_i e;rw[e];exact⟨fun _=>hC.start.1,hC.start.2⟩
  ·refine⟨fun e=>(by cases e),fun k c hc=> ?_⟩;have:aH.at k=[]:=by
    unfold WS.at aH;simp only[List.getD_eq_getElem?_getD,List.getElem?_replicate];split<;>rfl
   rw[this]at hc;simp at hc
 |pass L _ _ ih=>
  have hg:=RP.LJ h.leads L ih.len ih.rows;exact⟨hg.len.trans ih.len,hg.rows,ih.start.trans (y6 h.leads _ 0 (L,false) (by omega) ih.len ih.rows),fun C hC=>sP h.leads h.dH hC _ 0 (L,false) (by omega) ih.len ih.rows (ih.least C hC)⟩
theorem aE.settled {text:B}{raw:Bool}{p:RP}(h:aE text raw p){L:List WS}(hL:p.iS L):Reached p L/\sZ p (lw L):=by
 obtain⟨L0,hr,hp⟩:=hL;have hR:=h.VL hr;obtain⟨-,h2,h3⟩:=vY h.leads p.lines.length 0 (L0,false) (by omega) hR.len hR.rows (by show(p.pass L0).2=false;rw[hp]);have e:L0=L:=by
  have:(p.pass L0).1=L0:=h2;rw[hp]at this;exact this.symm
 subst e;refine⟨hR,⟨fun i=>(hR.rows.fc i).len,?_,fun i hi hk x hx=>h3 i (by omega) (by omega) hk x hx⟩⟩;have hs:=hR.start (p.blocks.getD 0 0);have e:lw p.iz (p.blocks.getD 0 0)=jz:=by
  unfold RP.iz;rw[lh _ _ _ (by simpa using h.first.2),jb rfl]
 rw[e]at hs;exact⟨hs.1 rfl,hs.2⟩
end Sq
namespace Sq
open Go Aux RefS RefT
def RP.ec (p:RP)(i:Nat):Nat:=((List.range i).filter fun j=>al (p.line j)).length
theorem RP.du (p:RP)(i:Nat):p.ec (i+1)=p.ec i+if al (p.line i)then 1 else 0:=by
 unfold RP.ec;rw[List.range_succ,List.filter_append,jV];congr 1;cases h:al (p.line i)<;>simp[h]
theorem range_split (n b:Nat)(h:b<n):∃r,List.range n=List.range b++b::r:=by
 obtain⟨m,rfl⟩:∃m,n=b+(m+1):=⟨n-b-1,by omega⟩;rw[List.range_add,List.range_succ_eq_map];exact⟨List.map (fun x=>b+x) (List.map Nat.succ (List.range m)),by simp only[List.map_cons,Nat.add_zero]⟩
theorem RP.oH {p:RP}(hb:p.blocks=p.bP al){b:Nat}(h:b<p.lines.length)(hB:al (p.line b)=true):p.ec b<p.blocks.length/\p.blocks.getD (p.ec b) 0=b:=by
 obtain⟨r,hr⟩:=range_split p.lines.length b h;have e:p.blocks=((List.range b).filter fun j=>al (p.line j))++b::r.filter fun j=>al (p.line j):=by
  rw[hb,RP.bP,hr,List.filter_append,List.filter_cons,jb hB]
 have hl:((List.range b).filter fun j=>al (p.line j)).length=p.ec b:=rfl;rw[e];constructor
 ·simp[hl]
 ·rw[jA,jf (by omega),hl,Nat.sub_self];rfl
theorem RP.ki {p:RP}(hb:p.blocks=p.bP al){m:Nat}(hm:m<p.blocks.length):p.blocks.getD m 0<p.lines.length/\al (p.line (p.blocks.getD m 0))=true/\p.ec (p.blocks.getD m 0)=m:=by
 have h1:p.blocks.getD m 0=p.blocks[m]:=by simp[hm]
 have h2:p.blocks.getD m 0∈p.bP al:=by rw[<-hb,h1];exact jL _
 obtain⟨h3,h4⟩:=cH h2;refine⟨h3,h4,?_⟩;obtain⟨h5,h6⟩:=RP.oH hb h3 h4;have hnd:p.blocks.Nodup:=by
  rw[hb];unfold RP.bP;exact List.Pairwise.filter _ List.nodup_range
 have h7:p.blocks[p.ec (p.blocks.getD m 0)]=p.blocks[m]:=by
  have:p.blocks.getD (p.ec (p.blocks.getD m 0)) 0=p.blocks[p.ec (p.blocks.getD m 0)]:=by rw[jA (i:=p.ec _),jB h5];rfl
  rw[<-this,h6,h1]
 exact(List.getElem_inj hnd).mp h7
def RP.body (p:RP)(i:Nat):Prop:=i<p.lines.length/\isLet (p.line i)=false/\al (p.line i)=false
theorem tp (p:RP):∀i,i<=p.lines.length->p.inside i=true->1<=p.ec i
 |0,_,h=>by simp[RP.inside,lJ]at h
 |i+1,hi,h=>by
  rw[gD p i (by omega)]at h;rw[p.du];by_cases hb:word (p.line i) 0=aQ
  ·have:al (p.line i)=true:=by simp[al,hb]
   rw[this];simp
  ·rw[ja hb]at h;split at h
   ·cases h
   ·have:=tp p i (by omega) h;omega
section
variable {text:B} {raw:Bool} {p:RP}
theorem aE.pO (h:aE text raw p){i:Nat}(hi:i<p.lines.length)(hc:1<=p.ec i):isLet (p.line i)=false:=by
 cases hl:isLet (p.line i)
 ·rfl
 ·exfalso;unfold RP.ec at hc;obtain⟨b,hb⟩:=List.exists_mem_of_length_pos (jK Nat.zero_lt_one hc);simp only[List.mem_filter,List.mem_range]at hb;have:b∈p.blocks:=by rw[h.pre.blocks,RP.bP];simp[hb.2];omega
  have:=h.pre.first i hi hl b this;omega
theorem aE.bY (h:aE text raw p){i:Nat}(hb:p.body i):p.inside i=true/\1<=p.ec i:=by
 have:p.inside i=true:=by
  rcases h.pre.MV i hb.1 with hl|hl
  ·rw[hb.2.1]at hl;cases hl
  ·rw[hl,hb.2.2];rfl
 exact⟨this,tp p i (Nat.le_of_lt hb.1) this⟩
theorem aE.Dr (h:aE text raw p){i:Nat}(lf:p.inside (i+1)=true)(hn:i+1<p.lines.length):p.body (i+1):=by
 have hc:=tp p (i+1) (by omega) lf;have hl:=h.pO hn hc;refine⟨hn,hl,?_⟩;rcases h.pre.MV (i+1) hn with h1|h1
 ·rw[hl]at h1;cases h1
 ·rw[lf]at h1;cases hb:al (p.line (i+1))
  ·rfl
  ·rw[hb]at h1;cases h1
theorem ta:ends aQ=false:=by decide
theorem aE.lE (h:aE text raw p){i:Nat}(hi:i<p.lines.length)(hb:al (p.line i)=true):p.body (i+1):=by
 have hw:word (p.line i) 0=aQ:=by simpa [al]using hb
 exact h.Dr (by rw[gD p i hi,jb hw]) (h.next i hi (by rw[hw];exact ta))
theorem aE.qE (h:aE text raw p){i:Nat}(hb:p.body i)(he:ends (word (p.line i) 0)=false):p.body (i+1):=by
 have hw:¬word (p.line i) 0=aQ:=by have:=hb.2.2;simpa [al]using this
 exact h.Dr (by rw[gD p i hb.1,ja hw,he];exact(h.bY hb).1) (h.next i hb.1 he)
end
theorem ite_N {c:Prop} [Decidable c](a b:B×Bool)(ha:c->78∉a.1)(hb:78∉b.1):78∉(if c then a else b).1:=by
 split
 ·exact ha ‹_›
 ·exact hb
theorem not_N {w:B}{r:Bool}(h:ends w=false):78∉(behind w r).1:=by
 simp only[ends,Bool.or_eq_false_iff,beq_eq_false_iff_ne]at h;obtain⟨⟨⟨⟨h1,h2⟩,h3⟩,h4⟩,h5⟩:=h;unfold behind
 repeat (refine ite_N _ _ (fun hc=>by first|(simp;done)|exact absurd hc h1|exact absurd hc h2|exact absurd hc h3|exact absurd hc h5) ?_)
 simp
theorem vR {w:B}{r:Bool}(h:ends w=false)(k:Nat):¬(behind w r).1.getD k 0=78:=fun he=>by
 have hk:=tZ w r k he;have:(behind w r).1.getD k 0=(behind w r).1[k]:=by simp[hk]
 rw[this]at he;exact not_N (r:=r) h (he▸jL hk)
def RP.along (p:RP)(E:Nat->WS):Nat->WS
 |0=>aH
 |i+1=>if al (p.line i)then E (p.ec i)else(p.step (p.line i) (RP.along p E i)).1
def RP.aI (p:RP)(i:Nat):Nat:=p.ec i-1
structure mR (p:RP)(E:Nat->WS):Prop where
 len:∀b,(E b).aj.length=24
 start:(E 0).known=true/\Sub jz (E 0)
 step:∀i,p.body i->(E (p.aI i)).known=true->∀k,(behind (word (p.line i) 0) p.raw).1.getD k 0=78->(E ((number (word (p.line i) (k+1))).getD 0).toNat).known=true/\
  Sub (p.eE (p.line i) (p.step (p.line i) (p.along E i)).1 k) (E ((number (word (p.line i) (k+1))).getD 0).toNat)
def DW (p:RP)(E:Nat->WS):Prop:=∀E',mR p E'->∀b,b<p.blocks.length->(E b).known=true->(E' b).known=true/\Sub (E b) (E' b)
theorem RP.mL (p:RP){s:WS}(hs:s.aj.length=24)(ws:List B):(p.step ws s).1.aj.length=24:=by
 have e:∀l c,(p.now s l c).aj.length=24:=fun l c=>by rw[p.kD,hs]
 have e2:(RP.cJ p ws s).1.aj.length=24:=by
  unfold RP.cJ RP.taken;split<;>simp[p.kD,hs]
 unfold RP.step
 repeat' split
 all_goals first|exact hs|exact e _ _|exact e2
theorem fF {p:RP}{E:Nat->WS}(hE:∀b,(E b).aj.length=24):∀i,(p.along E i).aj.length=24
 |0=>rfl
 |i+1=>by
  rw[RP.along];split
  ·exact hE _
  ·exact p.mL (fF hE i) _
theorem step_block (p:RP){ws:List B}(h:word ws 0=aQ)(s:WS):(p.step ws s)=(s,true):=by
 unfold RP.step;simp[h,aQ]
def RP.spread (p:RP)(E:Nat->WS)(i:Nat):WS:=if p.ec (i+1)=0 then aH else if al (p.line i)then E (p.ec i)else⟨(E (p.aI i)).known,(p.along E i).aj⟩
section
variable {text:B} {raw:Bool} {p:RP}
theorem oj (h:aE text raw p)(E:Nat->WS){i:Nat}(hb:p.body i):p.spread E i=⟨(E (p.aI i)).known,(p.along E i).aj⟩:=by
 have:=(h.bY hb).2;unfold RP.spread;rw[ja (by rw[p.du];omega),hb.2.2];rfl
theorem lQ (E:Nat->WS){i:Nat}(hb:al (p.line i)=true):p.spread E i=E (p.ec i):=by
 unfold RP.spread;rw[ja (by rw[p.du,hb];simp),hb];rfl
theorem oF {i:Nat}(hb:al (p.line i)=true):p.aI (i+1)=p.ec i:=by
 unfold RP.aI;rw[p.du,hb];simp
theorem qG {i:Nat}(hb:al (p.line i)=false):p.aI (i+1)=p.aI i:=by
 unfold RP.aI;rw[p.du,hb];simp
theorem Tt {s t:WS}(h:∀k,s.at k=t.at k):Sub s t:=fun k c hc=>by rw[<-h k];exact hc
theorem aE.sT (h:aE text raw p){E:Nat->WS}(hE:mR p E):sZ p (p.spread E):=by
 have lH:=fF (p:=p) hE.len;refine⟨fun i=> ?_,?_,fun i hi hk x hx=> ?_⟩
 ·unfold RP.spread;split
  ·rfl
  ·split
   ·exact hE.len _
   ·exact lH i
 ·have hm:=RP.ki h.pre.blocks h.first.1;rw[lQ E hm.2.1,hm.2.2];exact hE.start
 ·by_cases hb:al (p.line i)=true
  ·have hw:word (p.line i) 0=aQ:=by simpa [al]using hb
   have r8:=h.lE hi hb;unfold RP.outs at hx;rw[hw,ja (by rw[ta];decide),jI,step_block p hw,lQ E hb]at hx;rw[lQ E hb]at hk;subst hx;simp only;rw[oj h E r8,oF hb];refine⟨hk,Tt fun k=> ?_⟩;have:p.along E (i+1)=E (p.ec i):=by rw[RP.along,jb hb]
   show _=(p.along E (i+1)).at k
   rw[this]
  ·have Fz:al (p.line i)=false:=by simpa using hb
   by_cases hc:p.ec (i+1)=0
   ·exfalso;unfold RP.spread at hk;rw[jb hc]at hk;cases hk
   ·have r8:p.body i:=⟨hi,h.pO hi (by rw[p.du,Fz]at hc;simp at hc;omega),Fz⟩;rw[oj h E r8]at hk hx;simp only at hk;have hm:Sub (p.step (p.line i) ⟨(E (p.aI i)).known,(p.along E i).aj⟩).1 (p.step (p.line i) (p.along E i)).1:=RP.pb (p.line i) (h.dH i hi) (s:=⟨(E (p.aI i)).known,(p.along E i).aj⟩) (lH i) (lH i) (fun _ _ hc=>hc);unfold RP.outs at hx;by_cases he:ends (word (p.line i) 0)=true
    ·rw[jb he]at hx;simp only[List.mem_map,List.mem_filter,List.mem_range,beq_iff_eq]at hx;obtain⟨k,⟨B7,GJ⟩,rfl⟩:=hx;obtain⟨n,hn,Km,TV,qk⟩:=h.vH i hi k GJ;obtain⟨c1,c2⟩:=hE.step i r8 hk k GJ;rw[hn]at c1 c2;simp only[Option.getD_some,Int.toNat_natCast]at c1 c2;have YR:=RP.ki h.pre.blocks Km;simp only;rw[TV,lQ E YR.2.1,YR.2.2];have tm:(p.step (p.line i) ⟨(E (p.aI i)).known,(p.along E i).aj⟩).1.aj.length=24:=p.mL (s:=⟨(E (p.aI i)).known,(p.along E i).aj⟩) (lH i) (p.line i);have Dg:(p.step (p.line i) (p.along E i)).1.aj.length=24:=p.mL (lH i) (p.line i);exact⟨c1,(RP.tz (p.line i) (h.dH i hi) tm Dg hm k).trans c2⟩
    ·have Jp:ends (word (p.line i) 0)=false:=by simpa using he
     rw[ja he,jI]at hx;subst hx;simp only;rw[oj h E (h.qE r8 Jp),qG Fz];refine⟨hk,hm.trans (Tt fun k=> ?_)⟩;have:p.along E (i+1)=(p.step (p.line i) (p.along E i)).1:=by rw[RP.along,ja hb]
     show _=(p.along E (i+1)).at k
     rw[this]
def RP.yR (p:RP)(C:Nat->WS)(b:Nat):WS:=C (p.blocks.getD b 0)
theorem oa (h:aE text raw p){C:Nat->WS}(hC:sZ p C):∀i,p.body i->(p.yR C (p.aI i)).known=true->(C i).known=true/\Sub (p.along (p.yR C) i) (C i)
 |0,hb,_=>by have:=(h.bY hb).2;simp[RP.ec]at this
 |i+1,hb,hk=>by
  have hi:i<p.lines.length:=by have:=hb.1;omega
  rw[RP.along];by_cases TU:al (p.line i)=true
  ·rw[jb TU];rw[oF TU]at hk;have e:p.yR C (p.ec i)=C i:=by unfold RP.yR;rw[(RP.oH h.pre.blocks hi TU).2]
   rw[e]at hk⊢;have hw:word (p.line i) 0=aQ:=by simpa [al]using TU
   have:=hC.step i hi hk (i+1,C i) (by unfold RP.outs;rw[hw,ja (by rw[ta];decide),step_block p hw];simp);exact this
  ·have UK:al (p.line i)=false:=by simpa using TU
   rw[ja TU];rw[qG UK]at hk;have Xu:1<=p.ec i:=by have:=(h.bY hb).2;rw[p.du,UK]at this;simpa using this
   have r8:p.body i:=⟨hi,h.pO hi Xu,UK⟩;have he:ends (word (p.line i) 0)=false:=by
    cases he:ends (word (p.line i) 0)
    ·rfl
    ·exfalso;have h1:=(h.bY hb).1;have hw:¬word (p.line i) 0=aQ:=by simpa [al]using UK
     rw[gD p i hi,ja hw,he]at h1;cases h1
   obtain⟨h1,h2⟩:=oa h hC i r8 hk;have:=hC.step i hi h1 (i+1,(p.step (p.line i) (C i)).1) (by unfold RP.outs;rw[he];simp);exact⟨this.1,(RP.pb _ (h.dH i hi) (fF (fun b=>hC.len _) i) (hC.len i) h2).trans this.2⟩
theorem aE.vB (h:aE text raw p){C:Nat->WS}(hC:sZ p C):mR p (p.yR C):=by
 refine⟨fun b=>hC.len _,hC.start,fun i hb hk k GJ=> ?_⟩;obtain⟨h1,h2⟩:=oa h hC i hb hk;obtain⟨n,hn,Km,TV,qk⟩:=h.vH i hb.1 k GJ;have he:ends (word (p.line i) 0)=true:=by
  cases he:ends (word (p.line i) 0)
  ·exfalso;exact absurd GJ (vR he k)
  ·rfl
 have:=hC.step i hb.1 h1 (p.dq (word (p.line i) (k+1)),p.eE (p.line i) (p.step (p.line i) (C i)).1 k) (by
  unfold RP.outs;rw[jb he];simp only[List.mem_map,List.mem_filter,List.mem_range,beq_iff_eq];exact⟨k,⟨tZ _ _ _ GJ,GJ⟩,rfl⟩)
 rw[hn];simp only[Option.getD_some,Int.toNat_natCast];unfold RP.yR;rw[TV]at this;have lH:(p.along (p.yR C) i).aj.length=24:=fF (fun b=>hC.len _) i;have hm:=RP.pb (p.line i) (h.dH i hb.1) lH (hC.len i) h2;exact⟨this.1,(RP.tz (p.line i) (h.dH i hb.1) (p.mL lH (p.line i)) (p.mL (hC.len i) (p.line i)) hm k).trans this.2⟩
theorem aE.same (h:aE text raw p){L:List WS}(hL:p.iS L){E:Nat->WS}(hE:mR p E)(hl:DW p E){i:Nat}(hb:p.body i):
  ((lw L i).known=true↔(E (p.aI i)).known=true)/\((lw L i).known=true->∀k c,c∈(lw L i).at k↔c∈(p.along E i).at k):=by
 obtain⟨hR,hC⟩:=h.settled hL;have h1:=hR.least _ (h.sT hE) i;rw[oj h E hb]at h1;have hH:=h.vB hC;have Dd:p.aI i<p.blocks.length:=by
  have hc:=(h.bY hb).2;have:p.ec i<=p.blocks.length:=by
   obtain⟨r,hr⟩:=range_split p.lines.length i hb.1;rw[h.pre.blocks,RP.bP,hr,List.filter_append,jV];unfold RP.ec;omega
  unfold RP.aI;omega
 have hx:(E (p.aI i)).known=true->(lw L i).known=true:=fun hk=>(oa h hC i hb (hl _ hH _ Dd hk).1).1
 refine⟨⟨h1.1,hx⟩,fun hk k c=>⟨fun hc=>h1.2 k c hc,fun hc=> ?_⟩⟩;have Df:=h1.1 hk;have lH:∀j,p.body j->p.aI j=p.aI i->Sub (p.along E j) (p.along (p.yR (lw L)) j):=by
  intro j;induction j with
  |zero=>intro hj;have:=(h.bY hj).2;simp[RP.ec]at this
  |succ j ih=>
   intro hj Z3;have P8:j<p.lines.length:=by have:=hj.1;omega
   rw[RP.along,RP.along];by_cases hbj:al (p.line j)=true
   ·rw[jb hbj,jb hbj];rw[oF hbj]at Z3;rw[Z3];exact(hl _ hH _ Dd Df).2
   ·have Xt:al (p.line j)=false:=by simpa using hbj
    rw[ja hbj,ja hbj];rw[qG Xt]at Z3;have Xu:1<=p.ec j:=by have:=(h.bY hj).2;rw[p.du,Xt]at this;simpa using this
    exact RP.pb (p.line j) (h.dH j P8) (fF hE.len j) (fF (fun b=>hC.len _) j) (ih ⟨P8,h.pO P8 Xu,Xt⟩ Z3)
 exact(oa h hC i hb (hl _ hH _ Dd Df).1).2 k c (lH i hb rfl k c hc)
end
end Sq
namespace Sq
open Go Aux RefS RefT
structure bC where
 loc:Nat
 part:UInt8
instance:Inhabited bC:=⟨⟨0,0⟩⟩
def bC.slot (x:bC):Nat:=if x.part=98 then 2*x.loc+1 else 2*x.loc
structure lq where
 num:Nat
 op:B
 places:List bC
 number:Int
 next:List Nat
def lq.w (l:lq)(j:Nat):bC:=l.places.getD j default
structure dT where
 locals:List (B×B)
 blocks:List (List lq)
def dT.bA (q:dT)(n:Nat):B:=(q.locals.getD n ([],[])).2
def dT.kind (q:dT)(x:bC):B:=if x.part=97\/x.part=98\/x.part=115 then kz else q.bA x.loc
def dT.fK (q:dT)(x:bC):List bC:=if x.part=0/\q.bA x.loc=cj then [⟨x.loc,97⟩,⟨x.loc,98⟩]else [x]
def dU (c:UInt8):Bool:=c==105||c==111||c==112||c==109||c==100
def RP.placeOf (p:RP)(w:B):bC:=⟨(p.find (ai w)).toNat,partOf w⟩
def RP.placesOf (p:RP):B->List B->List bC
 |[],_=>[]
 |c::f,ws=>if dU c then p.placeOf (word ws 0)::RP.placesOf p f (ws.drop 1)else RP.placesOf p f (ws.drop 1)
def Ly:B->List B->List Nat
 |[],_=>[]
 |c::f,ws=>if c=78 then((number (word ws 0)).getD 0).toNat::Ly f (ws.drop 1)else Ly f (ws.drop 1)
def numOf:B->List B->Int
 |[],_=>0
 |c::f,ws=>if c=110 then(number (word ws 0)).getD 0 else numOf f (ws.drop 1)
def RP.ly (p:RP)(i:Nat):lq:=⟨i,word (p.line i) 0,p.placesOf (behind (word (p.line i) 0) p.raw).1 ((p.line i).drop 1),numOf (behind (word (p.line i) 0) p.raw).1 ((p.line i).drop 1),Ly (behind (word (p.line i) 0) p.raw).1 ((p.line i).drop 1)⟩
def RP.ra (p:RP):List (B×B):=p.lets.map fun j=>(word (p.line j) 1,word (p.line j) 2)
def RP.WX (p:RP)(b:Nat):List lq:=(((List.range p.lines.length).drop (b+1)).takeWhile fun j=> !al (p.line j)).map p.ly
def RP.lS (p:RP):dT:=⟨p.ra,p.blocks.map p.WX⟩
def bitsOf (s:B):Nat:=(if 45∈s then 1 else 0)+(if 119∈s then 2 else 0)+(if 110∈s then 4 else 0)+(if 104∈s then 8 else 0)
def xd (may:Nat)(ps:List bC)(s:Nat->Nat):Nat->Nat:=ps.foldl (fun s x k=>if k=x.slot then may else s k) s
def rE (ps:List bC)(s:Nat->Nat):Nat->Nat:=ps.foldl (fun s x k=>if k=x.slot then(if x.part=115 then 8 else 1)else s k) s
def dN (fit:Nat)(ps:List bC)(s:Nat->Nat):Bool:=ps.any fun x=> !(s x.slot&&&(15-fit)==0)
def dT.pass (q:dT)(l:lq)(s:Nat->Nat):Nat->Nat:=
 if l.op∈([[115,101,116],[105,110],[97,100,100],[115,117,98],[109,117,108],[100,105,118],[110,101,119],[108,111,97,100]]:List B)then xd 2 [l.w 0] s
 else if l.op=[109,111,118,101]then xd (if q.kind (l.w 1)=eG then s (l.w 1).slot else 2) (q.fK (l.w 0)) (rE (q.fK (l.w 1)) s)
 else if l.op=[110,111,110,101]then xd 4 [l.w 0] s
 else if l.op=[115,111,109,101]then xd 2 [l.w 0] (rE [l.w 1] s)
 else if l.op=[100,114,111,112]then rE (q.fK (l.w 0)) s
 else s
def BK (x:bC)(s:Nat->Nat):Bool:=x.part==115&&dN 10 [x] s
def dT.stuck (q:dT)(x:bC)(s:Nat->Nat):Bool:=if q.kind x=eG then dN 6 [x] s else dN 2 (q.fK x) s
def dT.Ef (q:dT)(l:lq)(s:Nat->Nat):Bool:=
 if l.op∈([[97,100,100],[115,117,98],[109,117,108],[100,105,118]]:List B)then dN 2 [l.w 1,l.w 2] s
 else if l.op∈([[111,117,116],[105,102],[101,110,100]]:List B)then dN 2 [l.w 0] s
 else if l.op=[110,101,119]then dN 2 [l.w 1] s||BK (l.w 0) s
 else if l.op=[108,111,97,100]\/l.op=[115,111,109,101]then dN 2 [l.w 1] s
 else if l.op=[115,116,111,114,101]then dN 2 [l.w 0,l.w 1] s
 else if l.op=[109,111,118,101]then q.stuck (l.w 1) s||BK (l.w 0) s
 else if l.op=[100,114,111,112]then BK (l.w 0) s
 else if l.op=[109,97,116,99,104]then dN 6 [l.w 0] s
 else false
def Rel (s:Nat->Nat)(t:WS):Prop:=∀k,k<24->s k=bitsOf (t.at k)
theorem M9 (may:Nat):∀(ps:List bC) (s:Nat->Nat) (k:Nat),xd may ps s k=if k∈ps.map bC.slot then may else s k
 |[],s,k=>rfl
 |x::ps,s,k=>by
  have:=M9 may ps (fun j=>if j=x.slot then may else s j) k;unfold xd at this⊢;rw[List.foldl_cons,this];by_cases h1:k∈ps.map bC.slot
  ·rw[jb h1,jb (by simp at h1⊢;exact .inr h1)]
  ·rw[ja h1];by_cases h2:k=x.slot
   ·rw[jb h2,jb (by simp[h2])]
   ·rw[ja h2,ja (by simp at h1⊢;exact⟨h2,h1⟩)]
theorem I6 (v:Nat):∀(ps:List bC) (_:∀x∈ps,(if x.part=115 then 8 else 1)=v) (s:Nat->Nat) (k:Nat),rE ps s k=if k∈ps.map bC.slot then v else s k
 |[],_,s,k=>rfl
 |x::ps,hv,s,k=>by
  have:=I6 v ps (fun y hy=>hv y (by simp[hy])) (fun j=>if j=x.slot then(if x.part=115 then 8 else 1)else s j) k;unfold rE at this⊢;rw[List.foldl_cons,this];by_cases h1:k∈ps.map bC.slot
  ·rw[jb h1,jb (by simp at h1⊢;exact .inr h1)]
  ·rw[ja h1];by_cases h2:k=x.slot
   ·rw[jb h2,hv x (jM ..)];exact(jb (by rw[List.map_cons,h2];exact jM ..)).symm
   ·rw[ja h2,ja (by simp at h1⊢;exact⟨h2,h1⟩)]
section
variable {p:RP}
theorem No {w:B}(h:0<=p.find (ai w)):p.lS.bA (p.placeOf w).loc=p.j5 w:=by
 obtain⟨j,hj,ot,-⟩:=RP.ez h;unfold dT.bA RP.lS RP.ra RP.placeOf RP.j5;simp only;rw[hj,Int.toNat_natCast];simp[ot]
theorem sh (w:B):(p.placeOf w).slot=(p.aj w).1:=by
 unfold bC.slot RP.placeOf RP.aj;simp only;split
 ·rfl
 ·split<;>rfl
def zV (w:B):Prop:=partOf w=0\/partOf w=97\/partOf w=98\/partOf w=115
theorem BB {w:B}(h:0<=p.find (ai w))(hp:zV w):p.typeOf w=cj↔(p.placeOf w).part=0/\p.lS.bA (p.placeOf w).loc=cj:=by
 rw[No h];unfold RP.typeOf RP.placeOf;simp only;have UN:¬kz=cj:=by decide
 have qR:¬([]:B)=cj:=by decide
 have hh:∀t u:B,¬(if t=u then kz else [])=cj:=fun t u=>by split;exact UN;exact qR
 rcases hp with e|e|e|e
 ·rw[e,ja (by decide),ja (by decide)];exact⟨fun h=>⟨rfl,h⟩,fun h=>h.2⟩
 ·rw[e,jb (.inl rfl)];exact⟨fun h=>absurd h (hh _ _),fun h=>absurd h.1 (by decide)⟩
 ·rw[e,jb (.inr rfl)];exact⟨fun h=>absurd h (hh _ _),fun h=>absurd h.1 (by decide)⟩
 ·rw[e,ja (by decide),jb rfl];exact⟨fun h=>absurd h (hh _ _),fun h=>absurd h.1 (by decide)⟩
theorem pa {w:B}(ht:¬p.typeOf w=cj):(p.aj w).2=1:=by
 unfold RP.aj;by_cases h:partOf w=98
 ·rw[jb h]
 ·rw[ja h,ja ht]
theorem vz {w:B}(h:0<=p.find (ai w))(hp:zV w)(k:Nat):k∈(p.lS.fK (p.placeOf w)).map bC.slot↔p.jt w k=true:=by
 have YU:=BB h hp;unfold dT.fK RP.jt;by_cases hc:(p.placeOf w).part=0/\p.lS.bA (p.placeOf w).loc=cj
 ·rw[jb hc];have ht:=YU.mpr hc;have AY:partOf w=0:=hc.1;have hs:p.aj w=(2*(p.find (ai w)).toNat,2):=by
   unfold RP.aj;rw[ja (by rw[AY];decide),jb ht]
  rw[hs];have hl:(p.placeOf w).loc=(p.find (ai w)).toNat:=rfl;simp[bC.slot,hl];omega
 ·rw[ja hc];have ht:¬p.typeOf w=cj:=fun e=>hc (YU.mp e)
  have hs:(p.aj w).2=1:=pa ht;rw[hs,List.map_cons,List.map_nil,jI,sh];simp;omega
theorem Iu {w:B}(ht:¬p.typeOf w=cj)(k:Nat):k∈[p.placeOf w].map bC.slot↔p.jt w k=true:=by
 have hs:(p.aj w).2=1:=pa ht;unfold RP.jt;rw[hs,List.map_cons,List.map_nil,jI,sh];simp;omega
theorem Na {ps:List bC}{w:B}(Qa:∀k,k∈ps.map bC.slot↔p.jt w k=true){s:Nat->Nat}{t:WS}(ht:t.aj.length=24)(hf:p.fits w)(h:Rel s t){may:Nat}{c:B}(hc:bitsOf c=may):Rel (xd may ps s) (p.now t w c):=by
 intro k hk;rw[M9,p.gQ ht hf];by_cases hx:p.jt w k=true
 ·rw[jb ((Qa k).mpr hx),jb hx,hc]
 ·rw[ja (fun e=>hx ((Qa k).mp e)),ja hx];exact h k hk
theorem x6 (w:B):bitsOf (left w)=if partOf w=115 then 8 else 1:=by
 unfold left;split<;>decide
theorem IL {ps:List bC}{w:B}(Qa:∀k,k∈ps.map bC.slot↔p.jt w k=true)(hv:∀x∈ps,(if x.part=115 then 8 else 1)=if partOf w=115 then 8 else 1){s:Nat->Nat}{t:WS}(ht:t.aj.length=24)(hf:p.fits w)(h:Rel s t):Rel (rE ps s) (p.now t w (left w)):=by
 intro k hk;rw[I6 _ ps hv,p.gQ ht hf];by_cases hx:p.jt w k=true
 ·rw[jb ((Qa k).mpr hx),jb hx,x6]
 ·rw[ja (fun e=>hx ((Qa k).mp e)),ja hx];exact h k hk
theorem GC {w:B}:∀x∈p.lS.fK (p.placeOf w),(if x.part=115 then 8 else 1)=if partOf w=115 then(8:Nat)else 1:=by
 intro x hx;unfold dT.fK at hx;split at hx
 ·rename_i hc;have AY:partOf w=0:=hc.1;rw[AY];simp only[List.mem_cons,List.not_mem_nil,or_false]at hx;rcases hx with rfl|rfl<;>rfl
 ·rw[jI]at hx;subst hx;rfl
end
end Sq
namespace Sq
open Go Aux RefS RefT
theorem B1 (ws:List B)(n k:Nat):word (ws.drop n) k=word ws (n+k):=by simp[word,List.getD_eq_getElem?_getD]
theorem qT {w:B}(h:isName w=true):partOf w=0:=by
 unfold partOf;have:dv w=false:=by
  cases hd:dv w
  ·rfl
  ·exfalso;simp only[dv,Bool.and_eq_true,decide_eq_true_eq,beq_iff_eq]at hd;obtain⟨h1,h2⟩:=hd;have hm:(46:UInt8)∈w:=List.mem_of_getElem? h2;simp only[isName,Bool.and_eq_true,List.all_eq_true]at h;have:=h.1.1 46 hm;exact absurd this (by decide)
 rw[this];rfl
theorem lK {w:B}(h:bW w=true):zV w:=by
 simp only[bW,Bool.and_eq_true,Bool.or_eq_true,decide_eq_true_eq,beq_iff_eq]at h;obtain⟨h1,((h2|h2)|h2)|h2⟩:=h
 ·rw[h2]at h1;exact .inl (qT h1)
 ·exact .inr (.inl h2)
 ·exact .inr (.inr (.inl h2))
 ·exact .inr (.inr (.inr h2))
theorem Mh (p:RP)(w1:B):∀(f:B) (ws:List B) (k:Nat) (hk:k<f.length),p.fx w1 f ws=true->p.dh f[k] (word ws k) w1=true:=by
 intro f;induction f with
 |nil=>intro ws k hk;simp at hk
 |cons c f ih=>
  intro ws k hk h;rw[RP.fx,jH]at h;cases k with
  |zero=>exact h.1
  |succ k=>
   have:=ih (ws.drop 1) k (by simpa using hk) h.2;rw[bV]at this;simpa using this
structure dL (p:RP)(w:B):Prop where
 find:0<=p.find (ai w)
 part:zV w
 fits:p.fits w
 type:¬p.typeOf w=[]
section
variable {text:B} {raw:Bool} {p:RP}
theorem aE.place (h:aE text raw p){i:Nat}(hb:p.body i){f:B}(hf:(behind (word (p.line i) 0) p.raw).1=f)(k:Nat)(hk:k<f.length)(hc:dU f[k]=true):dL p (word (p.line i) (k+1))/\p.dh f[k] (word (p.line i) (k+1)) (word (p.line i) 1)=true:=by
 subst hf;have hl:¬word (p.line i) 0=cv:=by have:=hb.2.1;simpa [isLet]using this
 have qk:¬word (p.line i) 0=aQ:=by have:=hb.2.2;simpa [al]using this
 simp only[dU,Bool.or_eq_true,beq_iff_eq]at hc;have hfd:=RP.iv (h.names i hb.1) hl k hk (by simp only[List.mem_cons,List.not_mem_nil,or_false];rcases hc with(((hc|hc)|hc)|hc)|hc<;>simp[hc]);have hw:=sM (h.pre.form i hb.1) hl k hk;have ht:p.dh (behind (word (p.line i) 0) p.raw).1[k] (word (p.line i) (k+1)) (word (p.line i) 1)=true:=by
  have:=h.types i hb.1;simp only[RP.cy,Bool.or_eq_true,beq_iff_eq]at this;rcases this with(e|e)|e
  ·exact absurd e hl
  ·exact absurd e qk
  ·have:=Mh p _ _ _ k hk e
   rwa [bV]at this
 refine⟨⟨hfd,?_,RP.MO hfd h.pre.aV,?_⟩,ht⟩
 ·rcases hc with(((hc|hc)|hc)|hc)|hc
  ·rw[hc,iB,jb (.inl rfl)]at hw;exact .inl (qT hw)
  ·rw[hc,iB,jb (.inr rfl)]at hw;exact .inl (qT hw)
  ·rw[hc,iB,ja (by decide),jb (.inl rfl)]at hw;exact lK hw
  ·rw[hc,iB,ja (by decide),jb (.inr (.inl rfl))]at hw;exact lK hw
  ·rw[hc,iB,ja (by decide),jb (.inr (.inr rfl))]at hw;exact lK hw
 ·intro e;unfold RP.dh at ht;rw[ja (by rcases hc with(((hc|hc)|hc)|hc)|hc<;>rw[hc]<;>decide),jb e]at ht;cases ht
theorem cK {w w1:B}(h:p.dh 105 w w1=true):p.typeOf w=mM:=by
 unfold RP.dh at h;rw[ja (by decide)]at h;by_cases e:p.typeOf w=mM
 ·exact e
 ·split at h
  ·cases h
  ·rw[jb (.inl ⟨rfl,e⟩)]at h;cases h
theorem pd {w w1:B}(h:p.dh 112 w w1=true):p.typeOf w=kz:=by
 unfold RP.dh at h;rw[ja (by decide)]at h;by_cases e:p.typeOf w=kz
 ·exact e
 ·split at h
  ·cases h
  ·rw[jb (.inr (.inl ⟨rfl,e⟩))]at h;cases h
theorem xp {w w1:B}(h:p.dh 111 w w1=true):p.typeOf w=eG:=by
 unfold RP.dh at h;rw[ja (by decide)]at h;by_cases e:p.typeOf w=eG
 ·exact e
 ·split at h
  ·cases h
  ·rw[jb (.inr (.inr ⟨rfl,e⟩))]at h;cases h
theorem BY {w w1:B}(h:p.dh 109 w w1=true):¬p.typeOf w=mM/\p.typeOf w=p.typeOf w1:=by
 unfold RP.dh at h;rw[ja (by decide)]at h;split at h
 ·cases h
 ·rw[ja (by rintro(⟨h,-⟩|⟨h,-⟩|⟨h,-⟩)<;>exact absurd h (by decide))]at h;split at h
  ·cases h
  ·rename_i h1;refine⟨fun e=>h1 ⟨.inl rfl,e⟩,?_⟩;by_cases e:p.typeOf w=p.typeOf w1
   ·exact e
   ·rw[jb ⟨rfl,e⟩]at h;cases h
theorem He {w:B}(h:dL p w):p.lS.kind (p.placeOf w)=p.typeOf w:=by
 have ht:=h.type;unfold dT.kind;rw[No h.find];unfold RP.typeOf at ht⊢;have e:(p.placeOf w).part=partOf w:=rfl;rw[e];rcases h.part with hp|hp|hp|hp
 ·rw[hp,ja (by decide),ja (by decide),ja (by decide)]
 ·rw[hp,jb (.inl rfl)]at ht;rw[hp,jb (.inl rfl),jb (.inl rfl)];split at ht
  ·rw[jb ‹_›]
  ·exact absurd rfl ht
 ·rw[hp,jb (.inr rfl)]at ht;rw[hp,jb (.inr (.inl rfl)),jb (.inr rfl)];split at ht
  ·rw[jb ‹_›]
  ·exact absurd rfl ht
 ·rw[hp,ja (by decide),jb rfl]at ht;rw[hp,jb (.inr (.inr rfl)),ja (by decide),jb rfl];split at ht
  ·rw[jb ‹_›]
  ·exact absurd rfl ht
theorem int_ne:¬mM=cj:=by decide
theorem D8:¬kz=cj:=by decide
theorem ya:¬eG=cj:=by decide
theorem rk {s:B}(hs:∀c∈s,c∈eD)(t:B):only s t=true↔(45∈s->45∈t)/\(110∈s->110∈t)/\(119∈s->119∈t)/\(104∈s->104∈t):=by
 simp only[only,has,List.all_eq_true,List.contains_iff_mem];refine⟨fun h=>⟨h 45,h 110,h 119,h 104⟩,fun⟨h1,h2,h3,h4⟩ c hc=> ?_⟩;have:=hs c hc;simp only[eD,List.mem_cons,List.not_mem_nil,or_false]at this;rcases this with rfl|rfl|rfl|rfl
 ·exact h1 hc
 ·exact h2 hc
 ·exact h3 hc
 ·exact h4 hc
theorem LD {s:B}(hs:∀c∈s,c∈eD):(!(bitsOf s&&&(15-2)==0))= !only s [119]:=by
 congr 1;rw[jX,rk hs];unfold bitsOf;by_cases h1:(45:UInt8)∈s<;>by_cases h2:(110:UInt8)∈s<;>by_cases h3:(119:UInt8)∈s<;>by_cases h4:(104:UInt8)∈s<;>simp[h1,h2,h3,h4]
theorem VA {s:B}(hs:∀c∈s,c∈eD):(!(bitsOf s&&&(15-6)==0))= !only s [110,119]:=by
 congr 1;rw[jX,rk hs];unfold bitsOf;by_cases h1:(45:UInt8)∈s<;>by_cases h2:(110:UInt8)∈s<;>by_cases h3:(119:UInt8)∈s<;>by_cases h4:(104:UInt8)∈s<;>simp[h1,h2,h3,h4]
theorem VB {s:B}(hs:∀c∈s,c∈eD):(!(bitsOf s&&&(15-10)==0))= !only s [119,104]:=by
 congr 1;rw[jX,rk hs];unfold bitsOf;by_cases h1:(45:UInt8)∈s<;>by_cases h2:(110:UInt8)∈s<;>by_cases h3:(119:UInt8)∈s<;>by_cases h4:(104:UInt8)∈s<;>simp[h1,h2,h3,h4]
end
end Sq
namespace Sq
open Go Aux RefS RefT
theorem DV (ws:List B)(k:Nat):word ws.tail k=word ws (k+1):=by rw[<-List.drop_one,bV]
section
variable {text:B} {p:RP}
theorem pP {i:Nat}{f:B}(hf:(behind (word (p.line i) 0) p.raw).1=f):(p.ly i).places=p.placesOf f ((p.line i).drop 1):=by
 unfold RP.ly;rw[hf]
theorem ze {i:Nat}(hf:(behind (word (p.line i) 0) p.raw).1=[105,105,105]):(p.ly i).w 0=p.placeOf (word (p.line i) 1)/\(p.ly i).w 1=p.placeOf (word (p.line i) 2)/\(p.ly i).w 2=p.placeOf (word (p.line i) 3):=by
 unfold lq.w;rw[pP hf];simp[RP.placesOf,dU,B1,DV]
theorem ia {i:Nat}{c:UInt8}{r:B}(hf:(behind (word (p.line i) 0) p.raw).1=c::r)(hc:dU c=true):(p.ly i).w 0=p.placeOf (word (p.line i) 1):=by
 unfold lq.w;rw[pP hf,RP.placesOf,jb hc];simp[DV]
theorem BZ {i:Nat}{c d:UInt8}{r:B}(hf:(behind (word (p.line i) 0) p.raw).1=c::d::r)(hc:dU c=true)(hd:dU d=true):(p.ly i).w 1=p.placeOf (word (p.line i) 2):=by
 unfold lq.w;rw[pP hf,RP.placesOf,jb hc,RP.placesOf,jb hd];simp[B1]
theorem yo {s:Nat->Nat}{t:WS}(ht:t.dS)(hr:Rel s t){w:B}(hw:dL p w)(hp:¬p.typeOf w=cj)(ho:¬p.typeOf w=eG):dN 2 [p.placeOf w] s= !p.there t w:=by
 have hs:=pa hp;have hk:(p.aj w).1<24:=by have:=hw.fits;unfold RP.fits at this;omega
 unfold dN RP.there;rw[hs,List.any_cons,List.any_nil,Bool.or_false,sh,hr _ hk,LD (ht.fc _).qh];unfold RP.some;rw[ja ho,dR];cases only (t.at (p.aj w).1) [119]<;>rfl
theorem DQ {s:Nat->Nat}{t:WS}(ht:t.dS)(hr:Rel s t){w:B}(hw:dL p w)(ho:p.typeOf w=eG):dN 6 [p.placeOf w] s= !p.there t w:=by
 have hs:=pa (p:=p) (w:=w) (by rw[ho];exact ya);have hk:(p.aj w).1<24:=by have:=hw.fits;unfold RP.fits at this;omega
 unfold dN RP.there;rw[hs,List.any_cons,List.any_nil,Bool.or_false,sh,hr _ hk,VA (ht.fc _).qh];unfold RP.some;rw[jb ho,dR];cases only (t.at (p.aj w).1) [110,119]<;>rfl
theorem Mc {s:Nat->Nat}{t:WS}(ht:t.dS)(hr:Rel s t){w:B}(hw:dL p w)(ho:p.typeOf w=cj):dN 2 (p.lS.fK (p.placeOf w)) s= !p.there t w:=by
 have YU:=(BB hw.find hw.part).mp ho;have AY:partOf w=0:=YU.1;have hs:p.aj w=(2*(p.find (ai w)).toNat,2):=by
  unfold RP.aj;rw[ja (by rw[AY];decide),jb ho]
 have hf:=hw.fits;unfold RP.fits at hf;rw[hs]at hf;unfold dT.fK;rw[jb YU];unfold dN RP.there;rw[hs];have e1:bC.slot ⟨(p.placeOf w).loc,97⟩=2*(p.find (ai w)).toNat:=rfl;have e2:bC.slot ⟨(p.placeOf w).loc,98⟩=2*(p.find (ai w)).toNat+1:=rfl;simp only[List.any_cons,List.any_nil,Bool.or_false,e1,e2];rw[hr _ (by omega),hr _ (by omega),LD (ht.fc _).qh,LD (ht.fc _).qh];unfold RP.some;rw[ja (by rw[ho];decide),dR,dR,dR];cases only (t.at (2*(p.find (ai w)).toNat)) [119]<;>cases only (t.at (2*(p.find (ai w)).toNat+1)) [119]<;>rfl
theorem E9 {s:Nat->Nat}{t:WS}(ht:t.dS)(hr:Rel s t){w:B}(hw:dL p w):BK (p.placeOf w) s= !cx p t w:=by
 have hb:=(RP.gq (p:=p) (w:=w) (RP.ez hw.find).choose_spec.1).2;have hk:(p.aj w).1<24:=by have:=hw.fits;unfold RP.fits at this;omega
 unfold BK cx dN;rw[List.any_cons,List.any_nil,Bool.or_false,sh,hr _ hk,VB (ht.fc _).qh];show(partOf w==115&&_)=_
 cases partOf w==115<;>cases only (t.at (p.aj w).1) [119,104]<;>rfl
theorem Ts {s:Nat->Nat}{t:WS}(ht:t.dS)(hr:Rel s t){w:B}(hw:dL p w):p.lS.stuck (p.placeOf w) s= !p.there t w:=by
 unfold dT.stuck;rw[He hw];by_cases ho:p.typeOf w=eG
 ·rw[jb ho];exact DQ ht hr hw ho
 ·rw[ja ho];by_cases hp:p.typeOf w=cj
  ·exact Mc ht hr hw hp
  ·have:p.lS.fK (p.placeOf w)=[p.placeOf w]:=by
    unfold dT.fK;rw[ja (fun e=>hp ((BB hw.find hw.part).mpr e))]
   rw[this];exact yo ht hr hw hp ho
end
end Sq
end Go.Proofs.YtmlgajhhnojdjaaGreatDoor

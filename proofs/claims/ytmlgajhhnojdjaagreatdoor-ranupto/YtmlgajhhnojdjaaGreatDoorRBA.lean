import Derived.Test.YtmlgajhhnojdjaaGreatDoorRAM
namespace Go.Proofs.YtmlgajhhnojdjaaGreatDoor
namespace Sq
open Go Aux RefS RefT
theorem gE (p:RP)(i:Nat)(hi:i<p.lines.length):p.inside (i+1)=if word (p.line i) 0=aR then true else if ends (word (p.line i) 0)then false else p.inside i:=by
 unfold RP.inside;rw[List.take_add_one,jB hi];have:p.line i=p.lines[i]:=by simp[RP.line,hi]
 simp only[Option.toList_some,List.reverse_append,List.reverse_cons,List.reverse_nil,List.nil_append,List.cons_append,lK,this]
theorem aF.pos {text:B}{raw:Bool}{p:RP}(h:aF text raw p):0<p.lines.length:=by
 have:=fw 10 text;rw[h.lines,dz];omega
theorem aF.NH {text:B}{raw:Bool}{p:RP}(h:aF text raw p):∃b∈p.blocks,b<p.lines.length/\ao (p.line b)=true:=by
 cases hb:p.blocks with
 |nil=>exact absurd hb h.nonempty
 |cons b r=>
  have:b∈p.blocks:=by rw[hb];simp
  refine⟨b,by simp,?_⟩;rw[h.pre.blocks]at this;exact cI this
theorem aF.next {text:B}{raw:Bool}{p:RP}(h:aF text raw p)(i:Nat)(hi:i<p.lines.length)(he:ends (word (p.line i) 0)=false):i+1<p.lines.length:=by
 by_cases qR:i+1<p.lines.length
 ·exact qR
 ·exfalso;have hn:p.lines.length=i+1:=by omega
  have hs:=h.shut;rw[hn,gE p i hi]at hs;by_cases hb:word (p.line i) 0=aR
  ·rw[jb hb]at hs;cases hs
  ·rw[ja hb,he]at hs;rcases h.pre.MW i hi with hl|hl
   ·obtain⟨b,h1,h2,h3⟩:=h.NH;have:=h.pre.first i hi hl b h1;omega
   ·rw[show ao (p.line i)=false by simp[ao,hb]]at hl;simp[hl]at hs
theorem va (w:B)(r:Bool)(k:Nat)(h:(behind w r).1.getD k 0=78):k<(behind w r).1.length:=by
 by_cases hk:k<(behind w r).1.length
 ·exact hk
 ·rw[jA,jG (by omega)]at h;cases h
theorem RP.Im {p:RP}{i:Nat}(h:p.names i=true)(hl:¬word (p.line i) 0=cx)(k:Nat)(hc:(behind (word (p.line i) 0) p.raw).1.getD k 0=78):(number (word (p.line i) (k+1))).getD 0<p.blocks.length:=by
 have hk:=va _ _ _ hc;have:=p.Bo _ _ k hk (RP.Bp h hl);rw[bW]at this;have e:(behind (word (p.line i) 0) p.raw).1[k]=78:=by
  rw[jA,jB hk]at hc;simpa using hc
 rw[e,RP.rh,ja (by decide),jb rfl]at this;simpa using this
theorem N1:∀(f:B) (ws:List B) (k:Nat) (hk:k<f.length),jo f ws=true->iC f[k] (word ws k)=true:=by
 intro f;induction f with
 |nil=>intro ws k hk;simp at hk
 |cons c f ih=>
  intro ws k hk h;rw[jo,jH]at h;cases k with
  |zero=>exact h.1
  |succ k=>
   have:=ih (ws.drop 1) k (by simpa using hk) h.2;rw[bW]at this;simpa using this
theorem sN {raw:Bool}{ws:List B}(h:dJ raw ws=true)(hl:¬word ws 0=cx)(k:Nat)(hk:k<(behind (word ws 0) raw).1.length):iC (behind (word ws 0) raw).1[k] (word ws (k+1))=true:=by
 unfold dJ at h;rw[ja hl]at h;by_cases hb:word ws 0=aR
 ·exfalso;have:(behind (word ws 0) raw).1=[]:=by rw[hb];cases raw<;>rfl
  rw[this]at hk;simp at hk
 ·rw[ja hb]at h;simp only[Bool.and_eq_true]at h;have:=N1 _ _ k hk h.2
  rwa [bW]at this
theorem Be {raw:Bool}{ws:List B}(h:dJ raw ws=true)(hl:¬word ws 0=cx)(k:Nat)(hc:(behind (word ws 0) raw).1.getD k 0=78):∃n:Nat,number (word ws (k+1))=some (n:Int):=by
 have hk:=va _ _ _ hc;have:=sN h hl k hk;have e:(behind (word ws 0) raw).1[k]=78:=by
  rw[jA,jB hk]at hc;simpa using hc
 rw[e,iC,ja (by decide),ja (by decide),ja (by decide),jb rfl]at this;cases hn:number (word ws (k+1))with
 |none=>rw[hn]at this;cases this
 |some n=>
  rw[hn]at this;exact⟨n.toNat,by simp only[decide_eq_true_eq]at this;rw[Int.toNat_of_nonneg this]⟩
theorem JI (r:Bool):(behind cx r).1=[]:=by cases r<;>rfl
theorem aF.vI {text:B}{raw:Bool}{p:RP}(h:aF text raw p)(i:Nat)(hi:i<p.lines.length)(k:Nat)(hc:(behind (word (p.line i) 0) p.raw).1.getD k 0=78):∃n:Nat,number (word (p.line i) (k+1))=some (n:Int)/\n<p.blocks.length/\p.dr (word (p.line i) (k+1))=p.blocks.getD n 0/\p.blocks.getD n 0<p.lines.length:=by
 have hl:¬word (p.line i) 0=cx:=by
  intro e;rw[e,JI]at hc;cases hc
 obtain⟨n,hn⟩:=Be (h.pre.form i hi) hl k hc;have hb:=RP.Im (h.names i hi) hl k hc;rw[hn]at hb;have FA:n<p.blocks.length:=by simpa using hb
 refine⟨n,hn,FA,by unfold RP.dr;rw[hn];simp,?_⟩;have hm:p.blocks.getD n 0∈p.blocks:=by simp[FA]
 have hw:=h.pre.blocks;rw[hw]at hm⊢;exact(cI hm).1
theorem aF.leads {text:B}{raw:Bool}{p:RP}(h:aF text raw p):sC p:=
 ⟨h.next,fun i hi k hc=>by obtain⟨n,-,-,h1,h2⟩:=h.vI i hi k hc;rw[h1];exact h2⟩
theorem aF.first {text:B}{raw:Bool}{p:RP}(h:aF text raw p):0<p.blocks.length/\p.blocks.getD 0 0<p.lines.length:=by
 have h0:0<p.blocks.length:=List.length_pos_iff.mpr h.nonempty;refine⟨h0,?_⟩;have hm:p.blocks.getD 0 0∈p.blocks:=by simp[h0]
 have hw:=h.pre.blocks;rw[hw]at hm⊢;exact(cI hm).1
end Sq
namespace Sq
open Go Aux RefS RefT
inductive Src where
 |const (c:B)
 |copy (k:Nat)
def Src.of (x:Src)(f:Nat->B):B:=match x with| .const c=>c| .copy k=>f k
def RP.ju (p:RP)(l:B)(k:Nat):Bool:=decide ((p.ak l).1<=k)&&decide (k<(p.ak l).1+(p.ak l).2)
def RP.jx (p:RP)(l:B)(c:Src)(g:Nat->Src)(k:Nat):Src:=if p.ju l k then c else g k
def RP.BV (p:RP)(ws:List B):Nat->Src:=
 let g:=p.jx (word ws 1) (.const [119]) (p.jx (word ws 2) (.const (left (word ws 2))) .copy)
 if word ws 0=[109,111,118,101]/\p.typeOf (word ws 1)=eH then p.jx (word ws 1) (.copy (p.ak (word ws 2)).1) g else g
def RP.src (p:RP)(ws:List B):Nat->Src:=
 if word ws 0=[115,101,116]\/word ws 0=[105,110]then p.jx (word ws 1) (.const [119]) .copy
 else if word ws 0=[97,100,100]\/word ws 0=[115,117,98]\/word ws 0=[109,117,108]\/word ws 0=[100,105,118]then p.jx (word ws 1) (.const [119]) .copy
 else if word ws 0=[111,117,116]\/word ws 0=[105,102]\/word ws 0=[101,110,100]\/word ws 0=[109,97,116,99,104]then .copy
 else if word ws 0=[110,101,119]then p.jx (word ws 1) (.const [119]) .copy
 else if word ws 0=[108,111,97,100]then p.jx (word ws 1) (.const [119]) .copy
 else if word ws 0=[115,116,111,114,101]then .copy
 else if word ws 0=[110,111,110,101]then p.jx (word ws 1) (.const [110]) .copy
 else if word ws 0=[100,114,111,112]then p.jx (word ws 1) (.const (left (word ws 1))) .copy
 else if word ws 0=[109,111,118,101]\/word ws 0=[115,111,109,101]then p.BV ws
 else .copy
theorem JG {s:WS}(hs:s.ak.length=24){k:Nat}(hk:24<=k):s.at k=[]:=by
 unfold WS.at;rw[jA,jG (by omega)];rfl
theorem Dv (c:B):∀(m k:Nat) (s:WS),(oh c m k s).ak.length=s.ak.length
 |0,_,_=>rfl
 |m+1,k,s=>by rw[oh,Dv c m];simp[WS.set]
theorem Is (c:B):∀(m j:Nat) (s:WS),j+m<=s.ak.length->∀k,(oh c m j s).at k=if j<=k/\k<j+m then c else s.at k
 |0,j,s,_,k=>by rw[oh,ja (by omega)]
 |m+1,j,s,h,k=>by
  rw[oh,Is c m (j+1) _ (by simp[WS.set];omega) k,WS.D2 s j k c (by omega)];by_cases h1:j+1<=k/\k<j+1+m
  ·rw[jb h1,jb (by omega)]
  ·rw[ja h1];by_cases h2:k=j
   ·rw[jb h2,jb (by omega)]
   ·rw[ja h2,ja (by omega)]
def RP.fits (p:RP)(l:B):Prop:=(p.ak l).1+(p.ak l).2<=24
theorem RP.MP {p:RP}{l:B}(h:0<=p.find (aj l))(cg:p.lets.length<=12):p.fits l:=by
 obtain⟨j,hj,ou,_⟩:=RP.eA h;have:=(RP.gu hj).1;unfold RP.fits;omega
theorem RP.gR (p:RP){s:WS}(hs:s.ak.length=24){l:B}(hl:p.fits l)(c:B)(k:Nat):(p.now s l c).at k=if p.ju l k then c else s.at k:=by
 unfold RP.now RP.ju;rw[Is c _ _ s (by rw[hs];exact hl) k];simp only[Bool.and_eq_true,decide_eq_true_eq]
theorem RP.kE (p:RP)(s:WS)(l c:B):(p.now s l c).ak.length=s.ak.length:=Dv c _ _ s
def RP.dI (p:RP)(ws:List B):Prop:=(word ws 0∈([[115,101,116],[105,110],[97,100,100],[115,117,98],[109,117,108],[100,105,118],[110,101,119],[108,111,97,100],[110,111,110,101],[100,114,111,112],[109,111,118,101],[115,111,109,101],[109,97,116,99,104]]:List B)->p.fits (word ws 1))/\
 (word ws 0=[109,111,118,101]\/word ws 0=[115,111,109,101]->p.fits (word ws 2))
theorem Tw (p:RP){s:WS}(hs:s.ak.length=24)(ws:List B)(h1:p.fits (word ws 1))(h2:p.fits (word ws 2))(k:Nat):(RP.cK p ws s).1.at k=(p.BV ws k).of s.at:=by
 unfold RP.cK RP.taken RP.BV;have e1:∀k,(p.now (p.now s (word ws 2) (left (word ws 2))) (word ws 1) [119]).at k=(p.jx (word ws 1) (.const [119]) (p.jx (word ws 2) (.const (left (word ws 2))) .copy) k).of s.at:=fun k=>by
  rw[p.gR (by rw[p.kE,hs]) h1,p.gR hs h2];unfold RP.jx;split
  ·rfl
  ·split<;>rfl
 by_cases hc:word ws 0=[109,111,118,101]/\p.typeOf (word ws 1)=eH
 ·rw[jb hc];have tl:word ws 0=[109,111,118,101]/\p.typeOf (word ws 1)=[111,112,116]:=hc;simp only[tl,and_self,if_true];rw[p.gR (by rw[p.kE,p.kE,hs]) h1,e1];show _=(if p.ju (word ws 1) k then _ else _:Src).of s.at
  split<;>rfl
 ·rw[ja hc];have tl:¬(word ws 0=[109,111,118,101]/\p.typeOf (word ws 1)=[111,112,116]):=hc;simp only[tl,if_false];exact e1 k
theorem RP.Nk (p:RP){s:WS}(hs:s.ak.length=24){ws:List B}(h:p.dI ws)(k:Nat):(p.step ws s).1.at k=(p.src ws k).of s.at:=by
 have hn:∀c,p.fits (word ws 1)->(p.now s (word ws 1) c).at k=(p.jx (word ws 1) (.const c) .copy k).of s.at:=fun c hf=>by
  rw[p.gR hs hf];unfold RP.jx;split<;>rfl
 unfold RP.step RP.src
 repeat' split
 all_goals first
  |rfl
  |(refine hn _ (h.1 ?_);rename_i hw;(first|(rcases hw with hw|hw|hw|hw<;>simp[hw];done)|(rcases hw with hw|hw<;>simp[hw];done)|(simp[hw];done)))
  |(rename_i hw;exact Tw p hs ws (h.1 (by rcases hw with hw|hw<;>simp[hw])) (h.2 hw) k)
end Sq
namespace Sq
open Go Aux RefS RefT
def Sub (s t:WS):Prop:=∀k c,c∈s.at k->c∈t.at k
theorem Sub.refl (s:WS):Sub s s:=fun _ _ h=>h
theorem Sub.trans {s t u:WS}(h:Sub s t)(h':Sub t u):Sub s u:=fun k c hc=>h' k c (h k c hc)
theorem DV (s:B)(c x:UInt8):x∈fT s c↔x∈s\/x=c:=by
 unfold fT;split
 ·exact⟨.inl,fun h=>by rcases h with h|h;exact h;rw[h];assumption⟩
 ·simp
theorem CP:∀(o s:B) (m:Bool) (x:UInt8),x∈(eV s m o).1↔x∈s\/x∈o
 |[],s,m,x=>by simp[eV]
 |c::r,s,m,x=>by rw[eV,CP r,DV];simp[or_assoc]
theorem yC:∀(o s:B) (m:Bool),(eV s m o).2=false->m=false/\(eV s m o).1=s/\∀c∈o,c∈s
 |[],s,m,h=>⟨h,rfl,by simp⟩
 |c::r,s,m,h=>by
  rw[eV]at h⊢;obtain⟨h1,h2,h3⟩:=yC r _ _ h;simp only[Bool.or_eq_false_iff,Bool.not_eq_false',beq_iff_eq]at h1;rw[h1.2]at h2 h3⊢;refine⟨h1.1,h2,fun x hx=> ?_⟩;rcases jP.mp hx with rfl|hx
  ·have:=(DV s x x).mpr (.inr rfl)
   rwa [h1.2]at this
  ·exact h3 x hx
theorem Qs {s:WS}(hs:s.ak.length=24)(o:WS)(i:Nat)(hi:i<24)(m:Bool)(j:Nat):(iV o i s m).1.at j=if j=i then(eV (s.at i) m (o.at i)).1 else s.at j:=WS.D2 s i j _ (by omega)
theorem Ai (o:WS):∀(n i:Nat) (s:WS) (m:Bool),s.ak.length=24->i+n<=24->∀j x,x∈(eW o n i s m).1.at j↔x∈s.at j\/(i<=j/\j<i+n/\x∈o.at j)
 |0,i,s,m,_,_,j,x=>by rw[eW];exact⟨.inl,fun h=>by rcases h with h|⟨h1,h2,-⟩;exact h;omega⟩
 |n+1,i,s,m,hs,hi,j,x=>by
  rw[eW,Ai o n (i+1) _ _ (by simp[iV,WS.set,hs]) (by omega) j x,Qs hs o i (by omega)];by_cases hj:j=i
  ·subst hj;rw[jb rfl,CP];constructor
   ·rintro((h|h)|⟨h,-⟩)
    ·exact .inl h
    ·exact .inr ⟨jC _,by omega,h⟩
    ·omega
   ·rintro(h|⟨-,-,h⟩)
    ·exact .inl (.inl h)
    ·exact .inl (.inr h)
  ·rw[ja hj];constructor
   ·rintro(h|⟨h1,h2,h3⟩)
    ·exact .inl h
    ·exact .inr ⟨by omega,by omega,h3⟩
   ·rintro(h|⟨h1,h2,h3⟩)
    ·exact .inl h
    ·exact .inr ⟨by omega,by omega,h3⟩
theorem tW (o:WS):∀(n i:Nat) (s:WS) (m:Bool),s.ak.length=24->i+n<=24->(eW o n i s m).2=false->m=false/\(eW o n i s m).1=s/\∀j,i<=j->j<i+n->∀x∈o.at j,x∈s.at j
 |0,i,s,m,_,_,h=>⟨h,rfl,fun j h1 h2=>by omega⟩
 |n+1,i,s,m,hs,hi,h=>by
  rw[eW]at h⊢;obtain⟨h1,h2,h3⟩:=tW o n (i+1) _ _ (by simp[iV,WS.set,hs]) (by omega) h;obtain⟨g1,g2,g3⟩:=yC (o.at i) (s.at i) m h1;have e:(iV o i s m).1=s:=by
   unfold iV;simp only;rw[g2,WS.IY s i (by omega)]
  rw[e]at h2 h3⊢;refine⟨g1,h2,fun j hj1 XI x hx=> ?_⟩;by_cases hj:j=i
  ·subst hj;exact g3 x hx
  ·exact h3 j (by omega) (by omega) x hx
theorem WS.Mx {s o:WS}(hs:s.dT)(ho:o.dT)(hz:s.known=false->s=aI)(j:Nat)(x:UInt8):x∈(s.add o).1.at j↔x∈s.at j\/x∈o.at j:=by
 unfold WS.add;by_cases hk:s.known=true
 ·rw[jb hk,Ai o 24 0 s false hs.len (by omega)];by_cases hj:j<24
  ·exact⟨fun h=>h.imp id (·.2.2),fun h=>h.imp id (⟨by omega,by omega,·⟩)⟩
  ·rw[JG hs.len (by omega),JG ho.len (by omega)];simp
 ·rw[ja hk];have e:=hz (by simpa using hk);have:s.at j=[]:=by
   rw[e];unfold WS.at aI;simp only[List.getD_eq_getElem?_getD,List.getElem?_replicate];split<;>rfl
  rw[this];simp[WS.at]
theorem WS.Nv {s o:WS}(hs:s.dT)(ho:o.dT)(h:(s.add o).2=false):s.known=true/\(s.add o).1=s/\Sub o s:=by
 unfold WS.add at h⊢;by_cases hk:s.known=true
 ·rw[jb hk]at h⊢;obtain⟨-,h2,h3⟩:=tW o 24 0 s false hs.len (by omega) h;refine⟨hk,h2,fun j x hx=> ?_⟩;by_cases hj:j<24
  ·exact h3 j (by omega) (by omega) x hx
  ·rw[JG ho.len (by omega)]at hx;simp at hx
 ·rw[ja hk]at h;cases h
def RP.outs (p:RP)(i:Nat)(s:WS):List (Nat×WS):=
 if ends (word (p.line i) 0)then((List.range (behind (word (p.line i) 0) p.raw).1.length).filter fun k=>(behind (word (p.line i) 0) p.raw).1.getD k 0==78).map fun k=>(p.dr (word (p.line i) (k+1)),p.eF (p.line i) (p.step (p.line i) s).1 k)
 else [(i+1,(p.step (p.line i) s).1)]
structure s6 (p:RP)(C:Nat->WS):Prop where
 len:∀i,(C i).ak.length=24
 start:(C (p.blocks.getD 0 0)).known=true/\Sub j0 (C (p.blocks.getD 0 0))
 step:∀i,i<p.lines.length->(C i).known=true->∀x∈p.outs i (C i),(C x.1).known=true/\Sub x.2 (C x.1)
def pn (L:List WS)(C:Nat->WS):Prop:=∀i,((lw L i).known=true->(C i).known=true)/\Sub (lw L i) (C i)
section
variable {p:RP}
theorem tT {x:List WS×Bool}(h:cP x.1){b:Nat}(hb:b<x.1.length){o:WS}(ho:o.dT){C:Nat->WS}(hw:pn x.1 C)(hk:(C b).known=true)(hs:Sub o (C b)):pn (ke b o x).1 C:=by
 intro i;unfold ke;simp only;rw[lj _ _ _ hb];split
 ·rename_i e;subst e;refine⟨fun _=>hk,fun k c hc=> ?_⟩;rw[WS.Mx (h.fe i) ho (h.zero i)]at hc;rcases hc with hc|hc
  ·exact(hw i).2 k c hc
  ·exact hs k c hc
 ·exact hw i
theorem yE {x:List WS×Bool}(h:cP x.1){b:Nat}(hb:b<x.1.length){o:WS}(ho:o.dT)(hq:(ke b o x).2=false):x.2=false/\(ke b o x).1=x.1/\(lw x.1 b).known=true/\Sub o (lw x.1 b):=by
 unfold ke at hq⊢;simp only[Bool.or_eq_false_iff]at hq⊢;obtain⟨h1,h2,h3⟩:=WS.Nv (h.fe b) ho hq.2;refine⟨hq.1,?_,h1,h3⟩;rw[h2];apply List.ext_getElem?
 intro j;rw[jd];split
 ·rename_i e;subst e;simp[lw,hb]
 ·rfl
theorem pM (ws:List B){s:WS}(hs:s.dT)(f:B)(hb:∀k,f.getD k 0=78->p.dr (word ws (k+1))<p.lines.length):∀(m k:Nat) (x:List WS×Bool),x.1.length=p.lines.length->cP x.1->(p.eZ ws s f m k x).2=false->
  x.2=false/\(p.eZ ws s f m k x).1=x.1/\∀j,k<=j->j<k+m->f.getD j 0=78->(lw x.1 (p.dr (word ws (j+1)))).known=true/\Sub (p.eF ws s j) (lw x.1 (p.dr (word ws (j+1))))
 |0,k,x,_,_,h=>⟨h,rfl,fun j h1 h2=>by omega⟩
 |m+1,k,x,hl,hr,h=>by
  rw[RP.eZ]at h⊢;by_cases hc:f.getD k 0=78
  ·rw[jb hc]at h⊢;have hg:=fV hr (b:=p.dr (word ws (k+1))) (by rw[hl];exact hb k hc) (p.lN hs ws k);obtain⟨h1,h2,h3⟩:=pM ws hs f hb m (k+1) _ (hg.len.trans hl) hg.rows h;obtain⟨g1,g2,g3⟩:=yE hr (by rw[hl];exact hb k hc) (p.lN hs ws k) h1;rw[g2]at h2 h3;refine⟨g1,h2,fun j hj1 XI hj=> ?_⟩;by_cases e:j=k
   ·subst e;exact g3
   ·exact h3 j (by omega) (by omega) hj
  ·rw[ja hc]at h⊢;obtain⟨h1,h2,h3⟩:=pM ws hs f hb m (k+1) x hl hr h;refine⟨h1,h2,fun j hj1 XI hj=> ?_⟩;by_cases e:j=k
   ·subst e;exact absurd hj hc
   ·exact h3 j (by omega) (by omega) hj
theorem CH (hp:sC p){i:Nat}(hi:i<p.lines.length){x:List WS×Bool}(hl:x.1.length=p.lines.length)(hr:cP x.1)(h:(p.through i x).2=false):
  x.2=false/\(p.through i x).1=x.1/\((lw x.1 i).known=true->∀y∈p.outs i (lw x.1 i),(lw x.1 y.1).known=true/\Sub y.2 (lw x.1 y.1)):=by
 unfold RP.through at h⊢;by_cases hk:(lw x.1 i).known=true
 ·rw[jb hk]at h⊢;have hf:=p.kV (hr.fe i) (p.line i);unfold RP.outs;by_cases he:ends (word (p.line i) 0)=true
  ·rw[jb he]at h⊢;obtain⟨h1,h2,h3⟩:=pM (p:=p) (p.line i) hf _ (hp.vI i hi) _ 0 x hl hr h;refine⟨h1,h2,fun _ y hy=> ?_⟩;simp only[if_pos he,List.mem_map,List.mem_filter,List.mem_range,beq_iff_eq]at hy;obtain⟨k,⟨B8,GK⟩,rfl⟩:=hy;exact h3 k (by omega) (by omega) GK
  ·rw[ja he]at h⊢;obtain⟨h1,h2,h3⟩:=yE hr (by rw[hl];exact hp.next i hi (by simpa using he)) hf h;refine⟨h1,h2,fun _ y hy=> ?_⟩;rw[ja he,jI]at hy;subst hy;exact h3
 ·rw[ja hk]at h⊢;exact⟨h,rfl,fun h'=>absurd h' hk⟩
theorem vZ (hp:sC p):∀(m i:Nat) (x:List WS×Bool),i+m<=p.lines.length->x.1.length=p.lines.length->cP x.1->(p.iy m i x).2=false->
  x.2=false/\(p.iy m i x).1=x.1/\∀j,i<=j->j<i+m->(lw x.1 j).known=true->∀y∈p.outs j (lw x.1 j),(lw x.1 y.1).known=true/\Sub y.2 (lw x.1 y.1)
 |0,i,x,_,_,_,h=>⟨h,rfl,fun j h1 h2=>by omega⟩
 |m+1,i,x,hi,hl,hr,h=>by
  rw[RP.iy]at h⊢;have hg:=RP.kG hp i (by omega) x hl hr;obtain⟨h1,h2,h3⟩:=vZ hp m (i+1) _ (by omega) (hg.len.trans hl) hg.rows h;obtain⟨g1,g2,g3⟩:=CH hp (by omega) hl hr h1;rw[g2]at h2 h3;refine⟨g1,h2,fun j hj1 XI=> ?_⟩;by_cases e:j=i
  ·subst e;exact g3
  ·exact h3 j (by omega) (by omega)
theorem RP.pd (ws:List B)(h:p.dI ws){s t:WS}(hs:s.ak.length=24)(ht:t.ak.length=24)(ir:Sub s t):Sub (p.step ws s).1 (p.step ws t).1:=by
 intro k c hc;rw[p.Nk hs h]at hc;rw[p.Nk ht h];cases hx:p.src ws k with
 |const d=>rw[hx]at hc;exact hc
 |copy j=>rw[hx]at hc;exact ir j c hc
theorem RP.tA (ws:List B)(h:p.dI ws){s t:WS}(hs:s.ak.length=24)(ht:t.ak.length=24)(ir:Sub s t)(k:Nat):Sub (p.eF ws s k) (p.eF ws t k):=by
 intro j c hc;unfold RP.eF at hc⊢;have hf:word ws 0=bT->p.fits (word ws 1):=fun e=>h.1 (by rw[e];simp[bT])
 split at hc
 ·rename_i hm;rw[jb hm];rw[p.gR hs (hf hm.1)]at hc;rw[p.gR ht (hf hm.1)];split at hc
  ·rename_i e;rw[jb e];exact hc
  ·rename_i e;rw[ja e];exact ir j c hc
 ·rename_i hm;rw[ja hm];split at hc
  ·rename_i hm;rw[jb hm];rw[p.gR hs (hf hm.1)]at hc;rw[p.gR ht (hf hm.1)];split at hc
   ·rename_i e;rw[jb e];exact hc
   ·rename_i e;rw[ja e];exact ir j c hc
  ·rename_i hm;rw[ja hm];exact ir j c hc
theorem ox (ws:List B){s:WS}(hs:s.dT)(f:B)(hb:∀k,f.getD k 0=78->p.dr (word ws (k+1))<p.lines.length){C:Nat->WS}(hC:∀k,k<f.length->f.getD k 0=78->(C (p.dr (word ws (k+1)))).known=true/\Sub (p.eF ws s k) (C (p.dr (word ws (k+1))))):
  ∀(m k:Nat) (x:List WS×Bool),k+m<=f.length->x.1.length=p.lines.length->cP x.1->pn x.1 C->pn (p.eZ ws s f m k x).1 C
 |0,k,x,_,_,_,h=>h
 |m+1,k,x,hk,hl,hr,h=>by
  rw[RP.eZ];by_cases hc:f.getD k 0=78
  ·rw[jb hc];have hg:=fV hr (b:=p.dr (word ws (k+1))) (by rw[hl];exact hb k hc) (p.lN hs ws k);obtain⟨c1,c2⟩:=hC k (by omega) hc;exact ox ws hs f hb hC m (k+1) _ (by omega) (hg.len.trans hl) hg.rows (tT hr (by rw[hl];exact hb k hc) (p.lN hs ws k) h c1 c2)
  ·rw[ja hc];exact ox ws hs f hb hC m (k+1) x (by omega) hl hr h
theorem BW (hp:sC p)(mr:∀i,i<p.lines.length->p.dI (p.line i)){C:Nat->WS}(hC:s6 p C){i:Nat}(hi:i<p.lines.length){x:List WS×Bool}(hl:x.1.length=p.lines.length)(hr:cP x.1)(h:pn x.1 C):pn (p.through i x).1 C:=by
 unfold RP.through;by_cases hk:(lw x.1 i).known=true
 ·rw[jb hk];have hf:=p.kV (hr.fe i) (p.line i);have zK:=hC.step i hi ((h i).1 hk);have hm:=RP.pd (p.line i) (mr i hi) (hr.fe i).len (hC.len i) (h i).2;have AW:(p.step (p.line i) (C i)).1.ak.length=24:=by
   have e:∀l c,(p.now (C i) l c).ak.length=24:=fun l c=>by rw[p.kE,hC.len]
   have e2:(RP.cK p (p.line i) (C i)).1.ak.length=24:=by
    unfold RP.cK RP.taken;split<;>simp[p.kE,hC.len]
   unfold RP.step
   repeat' split
   all_goals first|exact hC.len i|exact e _ _|exact e2
  unfold RP.outs at zK;by_cases he:ends (word (p.line i) 0)=true
  ·rw[jb he];simp only[if_pos he,List.mem_map,List.mem_filter,List.mem_range,beq_iff_eq]at zK;refine ox (p.line i) hf _ (hp.vI i hi) (fun k B8 GK=> ?_) _ 0 x (by omega) hl hr h;obtain⟨c1,c2⟩:=zK _ ⟨k,⟨B8,GK⟩,rfl⟩;exact⟨c1,(RP.tA (p.line i) (mr i hi) hf.len AW hm k).trans c2⟩
  ·rw[ja he];rw[ja he]at zK;obtain⟨c1,c2⟩:=zK _ (jI.mpr rfl);exact tT hr (by rw[hl];exact hp.next i hi (by simpa using he)) hf h c1 (hm.trans c2)
 ·rw[ja hk];exact h
theorem sQ (hp:sC p)(mr:∀i,i<p.lines.length->p.dI (p.line i)){C:Nat->WS}(hC:s6 p C):∀(m i:Nat) (x:List WS×Bool),i+m<=p.lines.length->x.1.length=p.lines.length->cP x.1->pn x.1 C->pn (p.iy m i x).1 C
 |0,i,x,_,_,_,h=>h
 |m+1,i,x,hi,hl,hr,h=>by
  rw[RP.iy];have hg:=RP.kG hp i (by omega) x hl hr;exact sQ hp mr hC m (i+1) _ (by omega) (hg.len.trans hl) hg.rows (BW hp mr hC (by omega) hl hr h)
end
end Sq
namespace Sq
open Go Aux RefS RefT
theorem Sv {p:RP}{i:Nat}{f:B}(N:p.names i=true)(hl:¬word (p.line i) 0=cx)(hb:(behind (word (p.line i) 0) p.raw).1=f)(k:Nat)(hk:k<f.length)(hc:f[k]∈[(105:UInt8),112,109,111,100]):0<=p.find (aj (word (p.line i) (k+1))):=by
 subst hb;exact RP.iw N hl k hk hc
theorem aF.dI {text:B}{raw:Bool}{p:RP}(h:aF text raw p)(i:Nat)(hi:i<p.lines.length):p.dI (p.line i):=by
 have hN:=h.names i hi;have hB:∀(f:B) (e:(behind (word (p.line i) 0) p.raw).1=f) (hl:¬word (p.line i) 0=cx) (k:Nat) (hk:k<f.length) (hc:f[k]∈[(105:UInt8),112,109,111,100]),p.fits (word (p.line i) (k+1)):=fun f e hl k hk hc=>RP.MP (Sv hN hl e k hk hc) h.pre.aW
 refine⟨fun hm=> ?_,fun hm=> ?_⟩
 ·simp only[List.mem_cons,List.not_mem_nil,or_false]at hm;rcases hm with e|e|e|e|e|e|e|e|e|e|e|e|e
  ·exact hB [105,110] (by rw[e];rfl) (by rw[e];decide) 0 (by simp) (by simp)
  ·exact hB [105] (by rw[e];rfl) (by rw[e];decide) 0 (by simp) (by simp)
  ·exact hB [105,105,105] (by rw[e];rfl) (by rw[e];decide) 0 (by simp) (by simp)
  ·exact hB [105,105,105] (by rw[e];rfl) (by rw[e];decide) 0 (by simp) (by simp)
  ·exact hB [105,105,105] (by rw[e];rfl) (by rw[e];decide) 0 (by simp) (by simp)
  ·exact hB [105,105,105] (by rw[e];rfl) (by rw[e];decide) 0 (by simp) (by simp)
  ·exact hB [112,105] (by rw[e];rfl) (by rw[e];decide) 0 (by simp) (by simp)
  ·exact hB [105,112] (by rw[e];rfl) (by rw[e];decide) 0 (by simp) (by simp)
  ·exact hB [111] (by rw[e];rfl) (by rw[e];decide) 0 (by simp) (by simp)
  ·exact hB [100] (by rw[e];rfl) (by rw[e];decide) 0 (by simp) (by simp)
  ·exact hB [109,109] (by rw[e];rfl) (by rw[e];decide) 0 (by simp) (by simp)
  ·exact hB [111,112] (by rw[e];rfl) (by rw[e];decide) 0 (by simp) (by simp)
  ·exact hB [111,78,78] (by rw[e];rfl) (by rw[e];decide) 0 (by simp) (by simp)
 ·rcases hm with e|e
  ·exact hB [109,109] (by rw[e];rfl) (by rw[e];decide) 1 (by simp) (by simp)
  ·exact hB [111,112] (by rw[e];rfl) (by rw[e];decide) 1 (by simp) (by simp)
def DZ (x y:List WS):Prop:=∀i,((lw x i).known=true->(lw y i).known=true)/\Sub (lw x i) (lw y i)
theorem DZ.trans {x y z:List WS}(h:DZ x y)(h':DZ y z):DZ x z:=fun i=>⟨fun e=>(h' i).1 ((h i).1 e),(h i).2.trans (h' i).2⟩
theorem Af {x:List WS×Bool}(h:cP x.1){b:Nat}(hb:b<x.1.length){o:WS}(ho:o.dT):DZ x.1 (ke b o x).1:=by
 intro i;unfold ke;simp only;rw[lj _ _ _ hb];split
 ·rename_i e;subst e;exact⟨fun _=>WS.CQ _ _,fun k c hc=>(WS.Mx (h.fe i) ho (h.zero i) k c).mpr (.inl hc)⟩
 ·exact⟨id,Sub.refl _⟩
section
variable {p:RP}
theorem q8 (ws:List B){s:WS}(hs:s.dT)(f:B)(hb:∀k,f.getD k 0=78->p.dr (word ws (k+1))<p.lines.length):∀(m k:Nat) (x:List WS×Bool),x.1.length=p.lines.length->cP x.1->DZ x.1 (p.eZ ws s f m k x).1
 |0,k,x,_,_=>fun i=>⟨id,Sub.refl _⟩
 |m+1,k,x,hl,hr=>by
  rw[RP.eZ];by_cases hc:f.getD k 0=78
  ·rw[jb hc];have hg:=fV hr (b:=p.dr (word ws (k+1))) (by rw[hl];exact hb k hc) (p.lN hs ws k);exact(Af hr (by rw[hl];exact hb k hc) (p.lN hs ws k)).trans (q8 ws hs f hb m (k+1) _ (hg.len.trans hl) hg.rows)
  ·rw[ja hc];exact q8 ws hs f hb m (k+1) x hl hr
theorem Fh (hp:sC p){i:Nat}(hi:i<p.lines.length){x:List WS×Bool}(hl:x.1.length=p.lines.length)(hr:cP x.1):DZ x.1 (p.through i x).1:=by
 unfold RP.through;split
 ·have hf:=p.kV (hr.fe i) (p.line i);split
  ·exact q8 _ hf _ (hp.vI i hi) _ _ x hl hr
  ·rename_i he;exact Af hr (by rw[hl];exact hp.next i hi (by simpa using he)) hf
 ·exact fun i=>⟨id,Sub.refl _⟩
theorem y7 (hp:sC p):∀(m i:Nat) (x:List WS×Bool),i+m<=p.lines.length->x.1.length=p.lines.length->cP x.1->DZ x.1 (p.iy m i x).1
 |0,i,x,_,_,_=>fun i=>⟨id,Sub.refl _⟩
 |m+1,i,x,hi,hl,hr=>by
  rw[RP.iy];have hg:=RP.kG hp i (by omega) x hl hr;exact(Fh hp (by omega) hl hr).trans (y7 hp m (i+1) _ (by omega) (hg.len.trans hl) hg.rows)
end
structure Reached (p:RP)(L:List WS):Prop where
 len:L.length=p.lines.length
 rows:cP L
 start:DZ p.iA L
 least:∀C,s6 p C->pn L C
theorem aF.VM {text:B}{raw:Bool}{p:RP}(h:aF text raw p){L:List WS}(hL:p.Reach L):Reached p L:=by
 have hf:=h.first.2;induction hL with
 |start=>
  refine⟨(tD hf).2,(tD hf).1,fun i=>⟨id,Sub.refl _⟩,fun C hC i=> ?_⟩;unfold RP.iA;rw[lj _ _ _ (by simpa using hf),zU];split
  ·rename_i e;rw[e];exact⟨fun _=>hC.start.1,hC.start.2⟩
  ·refine⟨fun e=>(by cases e),fun k c hc=> ?_⟩;have:aI.at k=[]:=by
    unfold WS.at aI;simp only[List.getD_eq_getElem?_getD,List.getElem?_replicate];split<;>rfl
   rw[this]at hc;simp at hc
 |pass L _ _ ih=>
  have hg:=RP.LL h.leads L ih.len ih.rows;exact⟨hg.len.trans ih.len,hg.rows,ih.start.trans (y7 h.leads _ 0 (L,false) (by omega) ih.len ih.rows),fun C hC=>sQ h.leads h.dI hC _ 0 (L,false) (by omega) ih.len ih.rows (ih.least C hC)⟩
theorem aF.settled {text:B}{raw:Bool}{p:RP}(h:aF text raw p){L:List WS}(hL:p.iT L):Reached p L/\s6 p (lw L):=by
 obtain⟨L0,hr,hp⟩:=hL;have hR:=h.VM hr;obtain⟨-,h2,h3⟩:=vZ h.leads p.lines.length 0 (L0,false) (by omega) hR.len hR.rows (by show(p.pass L0).2=false;rw[hp]);have e:L0=L:=by
  have:(p.pass L0).1=L0:=h2;rw[hp]at this;exact this.symm
 subst e;refine⟨hR,⟨fun i=>(hR.rows.fe i).len,?_,fun i hi hk x hx=>h3 i (by omega) (by omega) hk x hx⟩⟩;have hs:=hR.start (p.blocks.getD 0 0);have e:lw p.iA (p.blocks.getD 0 0)=j0:=by
  unfold RP.iA;rw[lj _ _ _ (by simpa using h.first.2),jb rfl]
 rw[e]at hs;exact⟨hs.1 rfl,hs.2⟩
end Sq
end Go.Proofs.YtmlgajhhnojdjaaGreatDoor

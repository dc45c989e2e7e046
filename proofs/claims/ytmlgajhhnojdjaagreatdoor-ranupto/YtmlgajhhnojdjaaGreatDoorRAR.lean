import Derived.Test.YtmlgajhhnojdjaaGreatDoorRAQ
namespace Go.Proofs.YtmlgajhhnojdjaaGreatDoor
namespace Sq
open Go Aux RefS RefT
def eV (s:B)(m:Bool):B->B×Bool
 |[]=>(s,m)
 |c::r=>eV (fT s c) (m|| !(fT s c==s)) r
def iV (o:WS)(i:Nat)(s:WS)(m:Bool):WS×Bool:=(WS.set s i (eV (s.at i) m (o.at i)).1,(eV (s.at i) m (o.at i)).2)
def eW (o:WS):Nat->Nat->WS->Bool->WS×Bool
 |0,_,s,m=>(s,m)
 |n+1,i,s,m=>eW o n (i+1) (iV o i s m).1 (iV o i s m).2
def WS.add (s o:WS):WS×Bool:=if s.known then eW o 24 0 s false else({o with known:=true},true)
theorem FP (o:WS)(i:Nat)(s:WS)(m:Bool)(hi:i<24):eW o (24-i) i s m=eW o (24-(i+1)) (i+1) (iV o i s m).1 (iV o i s m).2:=by
 rw[show 24-i=(24-(i+1))+1 by omega,eW]
theorem JA (s:B)(m:Bool)(o:B)(k:Nat)(hk:k<o.length):eV s m (o.drop k)=eV (fT s o[k]) (m|| !(fT s o[k]==s)) (o.drop (k+1)):=by
 rw[jE hk,eV]
theorem Fm (s:B)(c:UInt8):(fT s c).length<=s.length+1:=by
 unfold fT;split<;>simp
theorem D0:∀(o s:B) (m:Bool),(eV s m o).1.length<=s.length+o.length
 |[],s,m=>by simp[eV]
 |c::r,s,m=>by
  have h1:=D0 r (fT s c) (m|| !(fT s c==s));have h2:=Fm s c;rw[eV];simp;omega
theorem WS.D2 (s:WS)(k j:Nat)(c:B)(hk:k<s.ak.length):(WS.set s k c).at j=if j=k then c else s.at j:=by
 unfold WS.at WS.set;simp only[List.getD_eq_getElem?_getD,List.getElem?_set];by_cases h:k=j
 ·subst h;simp[hk]
 ·rw[ja h,ja (fun e=>h e.symm)]
theorem WS.set_set (s:WS)(k:Nat)(a b:B):WS.set (WS.set s k a) k b=WS.set s k b:=by
 simp[WS.set]
theorem WS.IY (s:WS)(k:Nat)(h:k<s.ak.length):WS.set s k (s.at k)=s:=by
 unfold WS.set WS.at;cases s with
 |mk kn sp=>
  simp only[WS.mk.injEq,true_and]at h⊢;apply List.ext_getElem?
  intro j;rw[jd];by_cases hj:k=j
  ·subst hj;simp[h]
  ·simp[hj]
def eE:B:=[45,110,119,104]
structure dT (s:B):Prop where
 once:s.Nodup
 qi:∀c∈s,c∈eE
theorem Sa:∀(l m:B),l.Nodup->(∀x∈l,x∈m)->l.length<=m.length
 |[],m,_,_=>by simp
 |a::l,m,hn,h=>by
  obtain⟨h1,h2⟩:=List.nodup_cons.mp hn;have h3:=Sa l (m.erase a) h2 (fun x hx=>(List.mem_erase_of_ne (by rintro rfl;exact h1 hx)).mpr (h x (by simp[hx])));have h4:=List.length_erase_of_mem (h a (by simp));have h5:=List.length_pos_of_mem (h a (by simp));simp;omega
theorem dT.length {s:B}(h:dT s):s.length<=4:=Sa s eE h.once h.qi
structure WS.dT (s:WS):Prop where
 len:s.ak.length=24
 fe:∀k,Sq.dT (s.at k)
theorem WS.dT.ok {s:WS}(h:s.dT):s.Ok:=⟨h.len,fun k=>by have:=(h.fe k).length;omega⟩
theorem Eh:dT []:=⟨List.nodup_nil,by simp⟩
theorem vu (c:UInt8)(h:c∈eE):dT [c]:=⟨by simp,by simpa using h⟩
theorem WS.dT.set {s:WS}(h:s.dT)(k:Nat){c:B}(hc:Sq.dT c):(WS.set s k c).dT:=by
 refine⟨by simp[WS.set,h.len],fun j=> ?_⟩;by_cases hk:k<s.ak.length
 ·rw[WS.D2 s k j c hk];split
  ·exact hc
  ·exact h.fe j
 ·have:WS.set s k c=s:=by
   unfold WS.set;rw[List.set_eq_of_length_le (by omega)]
  rw[this];exact h.fe j
theorem tL:aI.dT:=⟨rfl,fun k=>by
 have:aI.at k=[]:=by
  unfold WS.at aI;simp only[List.getD_eq_getElem?_getD,List.getElem?_replicate];split<;>simp
 rw[this];exact Eh⟩
theorem Du (c:B)(hc:dT c):∀(m k:Nat) (s:WS),s.dT->(oh c m k s).dT
 |0,_,_,h=>h
 |m+1,k,_,h=>Du c hc m (k+1) _ (h.set k hc)
theorem RP.kD (p:RP){s:WS}(hs:s.dT)(l:B){c:B}(hc:dT c):(p.now s l c).dT:=Du c hc _ _ _ hs
theorem Hx (l:B):dT (left l):=by
 unfold left;split
 ·exact vu _ (by simp[eE])
 ·exact vu _ (by simp[eE])
theorem MK:dT [119]:=vu _ (by simp[eE])
theorem QZ:dT [110]:=vu _ (by simp[eE])
theorem RP.yo (p:RP){s:WS}(hs:s.dT)(ws:List B):(RP.cK p ws s).1.dT:=by
 unfold RP.cK RP.taken;have h1:=p.kD (p.kD hs (word ws 2) (Hx (word ws 2))) (word ws 1) MK;split
 ·exact p.kD h1 _ (hs.fe _)
 ·exact h1
theorem RP.kV (p:RP){s:WS}(hs:s.dT)(ws:List B):(p.step ws s).1.dT:=by
 unfold RP.step;have hw:=p.kD hs (word ws 1) MK;have hn:=p.kD hs (word ws 1) QZ;have hl:=p.kD hs (word ws 1) (Hx (word ws 1));have ht:=p.yo hs ws
 repeat' split
 all_goals assumption
theorem DU {s:B}{c:UInt8}(hs:dT s)(hc:c∈eE):dT (fT s c):=by
 unfold fT;split
 ·exact hs
 ·rename_i hn;refine⟨List.nodup_append.mpr ⟨hs.once,by simp,fun a ha b hb=> ?_⟩,fun x hx=> ?_⟩
  ·rw[jI]at hb;rintro rfl;exact hn (hb▸ha)
  ·rcases List.mem_append.mp hx with hx|hx
   ·exact hs.qi x hx
   ·rw[jI]at hx;rw[hx];exact hc
theorem CO:∀(o s:B) (m:Bool),dT s->(∀c∈o,c∈eE)->dT (eV s m o).1
 |[],s,m,h,_=>h
 |c::r,s,m,h,ho=>by
  rw[eV];exact CO r _ _ (DU h (ho c (by simp))) (fun x hx=>ho x (by simp[hx]))
theorem Nt {s o:WS}(hs:s.dT)(ho:o.dT)(i:Nat)(m:Bool):(iV o i s m).1.dT:=hs.set i (CO _ _ _ (hs.fe i) (ho.fe i).qi)
theorem Ah {o:WS}(ho:o.dT):∀(n i:Nat) (s:WS) (m:Bool),s.dT->(eW o n i s m).1.dT
 |0,_,_,_,h=>h
 |n+1,i,_,m,h=>Ah ho n (i+1) _ _ (Nt h ho i m)
theorem WS.zA {s o:WS}(hs:s.dT)(ho:o.dT):(s.add o).1.dT:=by
 unfold WS.add;split
 ·exact Ah ho _ _ _ _ hs
 ·exact⟨ho.len,ho.fe⟩
def WS.count (s:WS):Nat:=(s.ak.map List.length).sum+if s.known then 1 else 0
theorem Nn:∀(l:List B) (k:Nat) (c:B),k<l.length->((l.set k c).map List.length).sum+(l.getD k []).length=(l.map List.length).sum+c.length
 |[],k,_,h=>by simp at h
 |x::l,0,c,_=>by simp;omega
 |x::l,k+1,c,h=>by
  have:=Nn l k c (by simpa using h);simp at this⊢;omega
theorem yB:∀(o s:B) (m:Bool),s.length<=(eV s m o).1.length/\((eV s m o).2=true->m=true\/s.length<(eV s m o).1.length)/\(m=true->(eV s m o).2=true)
 |[],s,m=>by simp[eV]
 |c::r,s,m=>by
  rw[eV];obtain⟨h1,h2,h3⟩:=yB r (fT s c) (m|| !(fT s c==s));have hw:fT s c=s\/(fT s c).length=s.length+1:=by unfold fT;split<;>simp
  refine⟨?_,fun h=> ?_,fun h=>h3 (by simp[h])⟩
  ·rcases hw with hw|hw
   ·rw[hw]at h1⊢;exact h1
   ·omega
  ·rcases hw with hw|hw
   ·rw[hw]at h2 h⊢;have:=h2 h;simpa using this
   ·right;omega
theorem FL {s:WS}(hs:s.ak.length=24)(o:WS)(i:Nat)(hi:i<24)(m:Bool):s.count<=(iV o i s m).1.count/\((iV o i s m).2=true->m=true\/s.count<(iV o i s m).1.count):=by
 obtain⟨h1,h2,-⟩:=yB (o.at i) (s.at i) m;have hc:=Nn s.ak i (eV (s.at i) m (o.at i)).1 (by omega);unfold WS.at at h1 h2 hc;unfold WS.count iV WS.set WS.at;simp only;refine⟨by omega,fun h=> ?_⟩;rcases h2 h with h|h
 ·exact .inl h
 ·right;omega
theorem tU (o:WS):∀(n i:Nat) (s:WS) (m:Bool),s.ak.length=24->i+n<=24->s.count<=(eW o n i s m).1.count/\((eW o n i s m).2=true->m=true\/s.count<(eW o n i s m).1.count)
 |0,_,s,m,_,_=>⟨jC _,fun h=> .inl h⟩
 |n+1,i,s,m,hs,hi=>by
  obtain⟨a1,a2⟩:=FL hs o i (by omega) m;obtain⟨b1,b2⟩:=tU o n (i+1) (iV o i s m).1 (iV o i s m).2 (by simp[iV,WS.set,hs]) (by omega);rw[eW];refine⟨by omega,fun h=> ?_⟩;rcases b2 h with h|h
  ·rcases a2 h with h|h
   ·exact .inl h
   ·right;omega
  ·right;omega
theorem WS.count_le {s:WS}(h:s.dT):s.count<=97:=by
 have:∀l:List B,(∀x∈l,x.length<=4)->(l.map List.length).sum<=4*l.length:=by
  intro l;induction l with
  |nil=>simp
  |cons x l ih=>intro hl;have h1:=ih (fun y hy=>hl y (by simp[hy]));have h2:=hl x (by simp);simp;omega
 have h4:=this s.ak (fun x hx=>by
  obtain⟨k,hk,rfl⟩:=List.getElem_of_mem hx;have:=(h.fe k).length;simpa [WS.at,hk]using this)
 unfold WS.count;rw[h.len]at h4;split<;>omega
end Sq
namespace Sq
open Go Aux RefS RefT
def RP.dr (p:RP)(w:B):Nat:=p.blocks.getD ((number w).getD 0).toNat 0
def bT:B:=[109,97,116,99,104]
def RP.eF (p:RP)(ws:List B)(s:WS)(k:Nat):WS:=
 if word ws 0=bT/\k=2 then p.now s (word ws 1) [119]else if word ws 0=bT/\k=1 then p.now s (word ws 1) [110]else s
def lw (L:List WS)(i:Nat):WS:=L.getD i aI
def ke (b:Nat)(o:WS)(x:List WS×Bool):List WS×Bool:=(x.1.set b ((lw x.1 b).add o).1,x.2||((lw x.1 b).add o).2)
def RP.eZ (p:RP)(ws:List B)(s:WS)(f:B):Nat->Nat->List WS×Bool->List WS×Bool
 |0,_,x=>x
 |m+1,k,x=>RP.eZ p ws s f m (k+1) (if f.getD k 0=78 then ke (p.dr (word ws (k+1))) (p.eF ws s k) x else x)
def RP.lead (p:RP)(ws:List B)(s:WS)(x:List WS×Bool):List WS×Bool:=p.eZ ws s (behind (word ws 0) p.raw).1 (behind (word ws 0) p.raw).1.length 0 x
def RP.through (p:RP)(i:Nat)(x:List WS×Bool):List WS×Bool:=
 if(lw x.1 i).known then
  if ends (word (p.line i) 0)then p.lead (p.line i) (p.step (p.line i) (lw x.1 i)).1 x else ke (i+1) (p.step (p.line i) (lw x.1 i)).1 x
 else x
def RP.iy (p:RP):Nat->Nat->List WS×Bool->List WS×Bool
 |0,_,x=>x
 |m+1,i,x=>RP.iy p m (i+1) (p.through i x)
def RP.pass (p:RP)(L:List WS):List WS×Bool:=p.iy p.lines.length 0 (L,false)
def j0:WS:=⟨true,List.replicate 24 [45]⟩
def RP.iA (p:RP):List WS:=(List.replicate p.lines.length aI).set (p.blocks.getD 0 0) j0
inductive RP.Reach (p:RP):List WS->Prop
 |start:RP.Reach p p.iA
 |pass (L:List WS):RP.Reach p L->(p.pass L).2=true->RP.Reach p (p.pass L).1
def RP.iT (p:RP)(L:List WS):Prop:=∃L0,p.Reach L0/\p.pass L0=(L,false)
def RP.cW (p:RP)(L:List WS):Nat->Nat->Int
 |0,_=> -1
 |m+1,i=>if((lw L i).known&& !(p.step (p.line i) (lw L i)).2)=true then i else RP.cW p L m (i+1)
theorem RP.IB (p:RP)(n i:Nat)(x:List WS×Bool)(hi:i<n):p.iy (n-i) i x=p.iy (n-(i+1)) (i+1) (p.through i x):=by
 rw[show n-i=(n-(i+1))+1 by omega,RP.iy]
theorem RP.Hw (p:RP)(ws:List B)(s:WS)(f:B)(n k:Nat)(x:List WS×Bool)(hk:k<n):p.eZ ws s f (n-k) k x=p.eZ ws s f (n-(k+1)) (k+1) (if f.getD k 0=78 then ke (p.dr (word ws (k+1))) (p.eF ws s k) x else x):=by
 rw[show n-k=(n-(k+1))+1 by omega,RP.eZ]
theorem RP.Ef (p:RP)(L:List WS)(n i:Nat)(hi:i<n):p.cW L (n-i) i=if((lw L i).known&& !(p.step (p.line i) (lw L i)).2)=true then(i:Int)else p.cW L (n-(i+1)) (i+1):=by
 rw[show n-i=(n-(i+1))+1 by omega,RP.cW]
theorem RP.lN (p:RP){s:WS}(hs:s.dT)(ws:List B)(k:Nat):(p.eF ws s k).dT:=by
 unfold RP.eF;split
 ·exact p.kD hs _ MK
 ·split
  ·exact p.kD hs _ QZ
  ·exact hs
structure cP (L:List WS):Prop where
 fe:∀i,(lw L i).dT
 zero:∀i,(lw L i).known=false->lw L i=aI
def total (L:List WS):Nat:=(L.map WS.count).sum
theorem lj (L:List WS)(b:Nat)(t:WS)(hb:b<L.length)(i:Nat):lw (L.set b t) i=if i=b then t else lw L i:=by
 unfold lw;simp only[List.getD_eq_getElem?_getD,List.getElem?_set];by_cases h:b=i
 ·subst h;simp[hb]
 ·rw[ja h,ja (fun e=>h e.symm)]
theorem sV:∀(l:List WS) (k:Nat) (t:WS),k<l.length->total (l.set k t)+(lw l k).count=total l+t.count
 |[],k,_,h=>by simp at h
 |x::l,0,t,_=>by simp[total,lw];omega
 |x::l,k+1,t,h=>by
  have:=sV l k t (by simpa using h);simp[total,lw]at this⊢;omega
theorem tV (o:WS):∀(n i:Nat) (s:WS) (m:Bool),(eW o n i s m).1.known=s.known
 |0,_,_,_=>rfl
 |n+1,i,s,m=>by rw[eW,tV o n];rfl
theorem WS.CQ (s o:WS):(s.add o).1.known=true:=by
 unfold WS.add;split
 ·rw[tV];assumption
 ·rfl
theorem Mp:aI.count=0:=by decide
theorem WS.Nu {s o:WS}(hs:s.dT)(hz:s.known=false->s=aI):s.count<=(s.add o).1.count/\((s.add o).2=true->s.count<(s.add o).1.count):=by
 unfold WS.add;by_cases hk:s.known=true
 ·rw[jb hk];obtain⟨h1,h2⟩:=tU o 24 0 s false hs.len (by omega);exact⟨h1,fun h=>by rcases h2 h with h|h;cases h;exact h⟩
 ·rw[ja hk];have:=hz (by simpa using hk);rw[this,Mp];have:1<=WS.count {o with known:=true}:=by unfold WS.count;simp
  exact⟨by omega,fun _=>this⟩
structure iP (x y:List WS×Bool):Prop where
 len:y.1.length=x.1.length
 rows:cP y.1
 more:total x.1<=total y.1
 told:y.2=true->x.2=true\/total x.1<total y.1
theorem iP.refl {x:List WS×Bool}(h:cP x.1):iP x x:=⟨rfl,h,jC _,.inl⟩
theorem iP.trans {x y z:List WS×Bool}(h:iP x y)(h':iP y z):iP x z:=
 ⟨h'.len.trans h.len,h'.rows,jS h.more h'.more,fun e=>by
  rcases h'.told e with e|e
  ·rcases h.told e with e|e
   ·exact .inl e
   ·right;have:=h'.more;omega
  ·right;have:=h.more;omega⟩
theorem fV {x:List WS×Bool}(h:cP x.1){b:Nat}(hb:b<x.1.length){o:WS}(ho:o.dT):iP x (ke b o x):=by
 have hc:=sV x.1 b ((lw x.1 b).add o).1 hb;obtain⟨h1,h2⟩:=WS.Nu (o:=o) (h.fe b) (h.zero b);unfold ke;refine⟨by simp,⟨fun i=> ?_,fun i hi=> ?_⟩,by simp only;omega,fun e=> ?_⟩
 ·simp only;rw[lj _ _ _ hb];split
  ·exact WS.zA (h.fe b) ho
  ·exact h.fe i
 ·simp only at hi⊢;rw[lj _ _ _ hb]at hi⊢;split at hi
  ·rw[WS.CQ]at hi;cases hi
  ·rename_i ec;rw[ja ec];exact h.zero i hi
 ·simp only[Bool.or_eq_true]at e;rcases e with e|e
  ·exact .inl e
  ·right;have:=h2 e;simp only;omega
theorem RP.pL (p:RP)(ws:List B)(s:WS)(hs:s.dT)(f:B)(hb:∀k,f.getD k 0=78->p.dr (word ws (k+1))<p.lines.length):∀(m k:Nat) (x:List WS×Bool),x.1.length=p.lines.length->cP x.1->iP x (p.eZ ws s f m k x)
 |0,_,x,_,h=>iP.refl h
 |m+1,k,x,hl,h=>by
  rw[RP.eZ];by_cases hc:f.getD k 0=78
  ·rw[jb hc];have h1:=fV h (b:=p.dr (word ws (k+1))) (by rw[hl];exact hb k hc) (p.lN hs ws k);exact h1.trans (RP.pL p ws s hs f hb m (k+1) _ (h1.len.trans hl) h1.rows)
  ·rw[ja hc];exact RP.pL p ws s hs f hb m (k+1) x hl h
structure sC (p:RP):Prop where
 next:∀i,i<p.lines.length->ends (word (p.line i) 0)=false->i+1<p.lines.length
 vI:∀i,i<p.lines.length->∀k,(behind (word (p.line i) 0) p.raw).1.getD k 0=78->p.dr (word (p.line i) (k+1))<p.lines.length
theorem RP.kG {p:RP}(hp:sC p)(i:Nat)(hi:i<p.lines.length)(x:List WS×Bool)(hl:x.1.length=p.lines.length)(h:cP x.1):iP x (p.through i x):=by
 unfold RP.through;split
 ·have hf:=p.kV (h.fe i) (p.line i);split
  ·exact p.pL _ _ hf _ (hp.vI i hi) _ _ x hl h
  ·rename_i he;exact fV h (by rw[hl];exact hp.next i hi (by simpa using he)) hf
 ·exact iP.refl h
theorem RP.vY {p:RP}(hp:sC p):∀(m i:Nat) (x:List WS×Bool),i+m<=p.lines.length->x.1.length=p.lines.length->cP x.1->iP x (p.iy m i x)
 |0,_,x,_,_,h=>iP.refl h
 |m+1,i,x,hi,hl,h=>by
  have h1:=RP.kG hp i (by omega) x hl h;rw[RP.iy];exact h1.trans (RP.vY hp m (i+1) _ (by omega) (h1.len.trans hl) h1.rows)
theorem RP.LL {p:RP}(hp:sC p)(L:List WS)(hl:L.length=p.lines.length)(h:cP L):iP (L,false) (p.pass L):=RP.vY hp _ 0 (L,false) (by omega) hl h
theorem zU (n i:Nat):lw (List.replicate n aI) i=aI:=by
 unfold lw;simp only[List.getD_eq_getElem?_getD,List.getElem?_replicate];split<;>rfl
theorem rB:j0.dT:=⟨rfl,fun k=>by
 unfold WS.at j0;simp only[List.getD_eq_getElem?_getD,List.getElem?_replicate];split
 ·exact vu 45 (by simp[eE])
 ·exact Eh⟩
theorem tD {p:RP}(hb:p.blocks.getD 0 0<p.lines.length):cP p.iA/\p.iA.length=p.lines.length:=by
 refine⟨⟨fun i=> ?_,fun i hi=> ?_⟩,by simp[RP.iA]⟩
 ·unfold RP.iA;rw[lj _ _ _ (by simpa using hb),zU];split
  ·exact rB
  ·exact tL
 ·unfold RP.iA at hi⊢;rw[lj _ _ _ (by simpa using hb),zU]at hi⊢;split at hi
  ·cases hi
  ·rename_i h;rw[ja h]
theorem TA {L:List WS}(h:cP L):total L<=97*L.length:=by
 have:∀l:List WS,(∀x∈l,x.count<=97)->total l<=97*l.length:=by
  intro l;induction l with
  |nil=>simp[total]
  |cons x l ih=>intro hl;have h1:=ih (fun y hy=>hl y (by simp[hy]));have h2:=hl x (by simp);simp[total]at h1⊢;omega
 refine this L fun x hx=> ?_
 obtain⟨k,hk,rfl⟩:=List.getElem_of_mem hx;have:=WS.count_le (h.fe k);simpa [lw,hk]using this
end Sq
namespace Sq
open Go Aux RefS RefT
theorem gE (p:RP)(i:Nat)(hi:i<p.lines.length):p.inside (i+1)=if word (p.line i) 0=aR then true else if ends (word (p.line i) 0)then false else p.inside i:=by
 unfold RP.inside;rw[List.take_add_one,jB hi];have:p.line i=p.lines[i]:=by simp[RP.line,hi]
 simp only[Option.toList_some,List.reverse_append,List.reverse_cons,List.reverse_nil,List.nil_append,List.cons_append,lK,this]
theorem aF.pos {text:B}{raw:Bool}{p:RP}(h:aF text raw p):0<p.lines.length:=by
 have:=fw 10 text;rw[h.lines,dz];omega
theorem aF.NH {text:B}{raw:Bool}{p:RP}(h:aF text raw p):∃b∈p.blocks,b<p.lines.length/\ao (p.line b)=true:=by
 cases hb:p.blocks with
 |nil=>exact absurd hb h.nonempty
 |cons b r=>
  have:b∈p.blocks:=by rw[hb];simp
  refine⟨b,by simp,?_⟩;rw[h.pre.blocks]at this;exact cI this
theorem aF.next {text:B}{raw:Bool}{p:RP}(h:aF text raw p)(i:Nat)(hi:i<p.lines.length)(he:ends (word (p.line i) 0)=false):i+1<p.lines.length:=by
 by_cases qR:i+1<p.lines.length
 ·exact qR
 ·exfalso;have hn:p.lines.length=i+1:=by omega
  have hs:=h.shut;rw[hn,gE p i hi]at hs;by_cases hb:word (p.line i) 0=aR
  ·rw[jb hb]at hs;cases hs
  ·rw[ja hb,he]at hs;rcases h.pre.MW i hi with hl|hl
   ·obtain⟨b,h1,h2,h3⟩:=h.NH;have:=h.pre.first i hi hl b h1;omega
   ·rw[show ao (p.line i)=false by simp[ao,hb]]at hl;simp[hl]at hs
theorem va (w:B)(r:Bool)(k:Nat)(h:(behind w r).1.getD k 0=78):k<(behind w r).1.length:=by
 by_cases hk:k<(behind w r).1.length
 ·exact hk
 ·rw[jA,jG (by omega)]at h;cases h
theorem RP.Im {p:RP}{i:Nat}(h:p.names i=true)(hl:¬word (p.line i) 0=cx)(k:Nat)(hc:(behind (word (p.line i) 0) p.raw).1.getD k 0=78):(number (word (p.line i) (k+1))).getD 0<p.blocks.length:=by
 have hk:=va _ _ _ hc;have:=p.Bo _ _ k hk (RP.Bp h hl);rw[bW]at this;have e:(behind (word (p.line i) 0) p.raw).1[k]=78:=by
  rw[jA,jB hk]at hc;simpa using hc
 rw[e,RP.rh,ja (by decide),jb rfl]at this;simpa using this
theorem N1:∀(f:B) (ws:List B) (k:Nat) (hk:k<f.length),jo f ws=true->iC f[k] (word ws k)=true:=by
 intro f;induction f with
 |nil=>intro ws k hk;simp at hk
 |cons c f ih=>
  intro ws k hk h;rw[jo,jH]at h;cases k with
  |zero=>exact h.1
  |succ k=>
   have:=ih (ws.drop 1) k (by simpa using hk) h.2;rw[bW]at this;simpa using this
theorem sN {raw:Bool}{ws:List B}(h:dJ raw ws=true)(hl:¬word ws 0=cx)(k:Nat)(hk:k<(behind (word ws 0) raw).1.length):iC (behind (word ws 0) raw).1[k] (word ws (k+1))=true:=by
 unfold dJ at h;rw[ja hl]at h;by_cases hb:word ws 0=aR
 ·exfalso;have:(behind (word ws 0) raw).1=[]:=by rw[hb];cases raw<;>rfl
  rw[this]at hk;simp at hk
 ·rw[ja hb]at h;simp only[Bool.and_eq_true]at h;have:=N1 _ _ k hk h.2
  rwa [bW]at this
theorem Be {raw:Bool}{ws:List B}(h:dJ raw ws=true)(hl:¬word ws 0=cx)(k:Nat)(hc:(behind (word ws 0) raw).1.getD k 0=78):∃n:Nat,number (word ws (k+1))=some (n:Int):=by
 have hk:=va _ _ _ hc;have:=sN h hl k hk;have e:(behind (word ws 0) raw).1[k]=78:=by
  rw[jA,jB hk]at hc;simpa using hc
 rw[e,iC,ja (by decide),ja (by decide),ja (by decide),jb rfl]at this;cases hn:number (word ws (k+1))with
 |none=>rw[hn]at this;cases this
 |some n=>
  rw[hn]at this;exact⟨n.toNat,by simp only[decide_eq_true_eq]at this;rw[Int.toNat_of_nonneg this]⟩
theorem JI (r:Bool):(behind cx r).1=[]:=by cases r<;>rfl
theorem aF.vI {text:B}{raw:Bool}{p:RP}(h:aF text raw p)(i:Nat)(hi:i<p.lines.length)(k:Nat)(hc:(behind (word (p.line i) 0) p.raw).1.getD k 0=78):∃n:Nat,number (word (p.line i) (k+1))=some (n:Int)/\n<p.blocks.length/\p.dr (word (p.line i) (k+1))=p.blocks.getD n 0/\p.blocks.getD n 0<p.lines.length:=by
 have hl:¬word (p.line i) 0=cx:=by
  intro e;rw[e,JI]at hc;cases hc
 obtain⟨n,hn⟩:=Be (h.pre.form i hi) hl k hc;have hb:=RP.Im (h.names i hi) hl k hc;rw[hn]at hb;have FA:n<p.blocks.length:=by simpa using hb
 refine⟨n,hn,FA,by unfold RP.dr;rw[hn];simp,?_⟩;have hm:p.blocks.getD n 0∈p.blocks:=by simp[FA]
 have hw:=h.pre.blocks;rw[hw]at hm⊢;exact(cI hm).1
theorem aF.leads {text:B}{raw:Bool}{p:RP}(h:aF text raw p):sC p:=
 ⟨h.next,fun i hi k hc=>by obtain⟨n,-,-,h1,h2⟩:=h.vI i hi k hc;rw[h1];exact h2⟩
theorem aF.first {text:B}{raw:Bool}{p:RP}(h:aF text raw p):0<p.blocks.length/\p.blocks.getD 0 0<p.lines.length:=by
 have h0:0<p.blocks.length:=List.length_pos_iff.mpr h.nonempty;refine⟨h0,?_⟩;have hm:p.blocks.getD 0 0∈p.blocks:=by simp[h0]
 have hw:=h.pre.blocks;rw[hw]at hm⊢;exact(cI hm).1
end Sq
namespace Sq
open Go Aux RefS RefT
inductive Src where
 |const (c:B)
 |copy (k:Nat)
def Src.of (x:Src)(f:Nat->B):B:=match x with| .const c=>c| .copy k=>f k
def RP.ju (p:RP)(l:B)(k:Nat):Bool:=decide ((p.ak l).1<=k)&&decide (k<(p.ak l).1+(p.ak l).2)
def RP.jx (p:RP)(l:B)(c:Src)(g:Nat->Src)(k:Nat):Src:=if p.ju l k then c else g k
def RP.BV (p:RP)(ws:List B):Nat->Src:=
 let g:=p.jx (word ws 1) (.const [119]) (p.jx (word ws 2) (.const (left (word ws 2))) .copy)
 if word ws 0=[109,111,118,101]/\p.typeOf (word ws 1)=eH then p.jx (word ws 1) (.copy (p.ak (word ws 2)).1) g else g
def RP.src (p:RP)(ws:List B):Nat->Src:=
 if word ws 0=[115,101,116]\/word ws 0=[105,110]then p.jx (word ws 1) (.const [119]) .copy
 else if word ws 0=[97,100,100]\/word ws 0=[115,117,98]\/word ws 0=[109,117,108]\/word ws 0=[100,105,118]then p.jx (word ws 1) (.const [119]) .copy
 else if word ws 0=[111,117,116]\/word ws 0=[105,102]\/word ws 0=[101,110,100]\/word ws 0=[109,97,116,99,104]then .copy
 else if word ws 0=[110,101,119]then p.jx (word ws 1) (.const [119]) .copy
 else if word ws 0=[108,111,97,100]then p.jx (word ws 1) (.const [119]) .copy
 else if word ws 0=[115,116,111,114,101]then .copy
 else if word ws 0=[110,111,110,101]then p.jx (word ws 1) (.const [110]) .copy
 else if word ws 0=[100,114,111,112]then p.jx (word ws 1) (.const (left (word ws 1))) .copy
 else if word ws 0=[109,111,118,101]\/word ws 0=[115,111,109,101]then p.BV ws
 else .copy
theorem JG {s:WS}(hs:s.ak.length=24){k:Nat}(hk:24<=k):s.at k=[]:=by
 unfold WS.at;rw[jA,jG (by omega)];rfl
theorem Dv (c:B):∀(m k:Nat) (s:WS),(oh c m k s).ak.length=s.ak.length
 |0,_,_=>rfl
 |m+1,k,s=>by rw[oh,Dv c m];simp[WS.set]
theorem Is (c:B):∀(m j:Nat) (s:WS),j+m<=s.ak.length->∀k,(oh c m j s).at k=if j<=k/\k<j+m then c else s.at k
 |0,j,s,_,k=>by rw[oh,ja (by omega)]
 |m+1,j,s,h,k=>by
  rw[oh,Is c m (j+1) _ (by simp[WS.set];omega) k,WS.D2 s j k c (by omega)];by_cases h1:j+1<=k/\k<j+1+m
  ·rw[jb h1,jb (by omega)]
  ·rw[ja h1];by_cases h2:k=j
   ·rw[jb h2,jb (by omega)]
   ·rw[ja h2,ja (by omega)]
def RP.fits (p:RP)(l:B):Prop:=(p.ak l).1+(p.ak l).2<=24
theorem RP.MP {p:RP}{l:B}(h:0<=p.find (aj l))(cg:p.lets.length<=12):p.fits l:=by
 obtain⟨j,hj,ou,_⟩:=RP.eA h;have:=(RP.gu hj).1;unfold RP.fits;omega
theorem RP.gR (p:RP){s:WS}(hs:s.ak.length=24){l:B}(hl:p.fits l)(c:B)(k:Nat):(p.now s l c).at k=if p.ju l k then c else s.at k:=by
 unfold RP.now RP.ju;rw[Is c _ _ s (by rw[hs];exact hl) k];simp only[Bool.and_eq_true,decide_eq_true_eq]
theorem RP.kE (p:RP)(s:WS)(l c:B):(p.now s l c).ak.length=s.ak.length:=Dv c _ _ s
def RP.dI (p:RP)(ws:List B):Prop:=(word ws 0∈([[115,101,116],[105,110],[97,100,100],[115,117,98],[109,117,108],[100,105,118],[110,101,119],[108,111,97,100],[110,111,110,101],[100,114,111,112],[109,111,118,101],[115,111,109,101],[109,97,116,99,104]]:List B)->p.fits (word ws 1))/\
 (word ws 0=[109,111,118,101]\/word ws 0=[115,111,109,101]->p.fits (word ws 2))
theorem Tw (p:RP){s:WS}(hs:s.ak.length=24)(ws:List B)(h1:p.fits (word ws 1))(h2:p.fits (word ws 2))(k:Nat):(RP.cK p ws s).1.at k=(p.BV ws k).of s.at:=by
 unfold RP.cK RP.taken RP.BV;have e1:∀k,(p.now (p.now s (word ws 2) (left (word ws 2))) (word ws 1) [119]).at k=(p.jx (word ws 1) (.const [119]) (p.jx (word ws 2) (.const (left (word ws 2))) .copy) k).of s.at:=fun k=>by
  rw[p.gR (by rw[p.kE,hs]) h1,p.gR hs h2];unfold RP.jx;split
  ·rfl
  ·split<;>rfl
 by_cases hc:word ws 0=[109,111,118,101]/\p.typeOf (word ws 1)=eH
 ·rw[jb hc];have tl:word ws 0=[109,111,118,101]/\p.typeOf (word ws 1)=[111,112,116]:=hc;simp only[tl,and_self,if_true];rw[p.gR (by rw[p.kE,p.kE,hs]) h1,e1];show _=(if p.ju (word ws 1) k then _ else _:Src).of s.at
  split<;>rfl
 ·rw[ja hc];have tl:¬(word ws 0=[109,111,118,101]/\p.typeOf (word ws 1)=[111,112,116]):=hc;simp only[tl,if_false];exact e1 k
theorem RP.Nk (p:RP){s:WS}(hs:s.ak.length=24){ws:List B}(h:p.dI ws)(k:Nat):(p.step ws s).1.at k=(p.src ws k).of s.at:=by
 have hn:∀c,p.fits (word ws 1)->(p.now s (word ws 1) c).at k=(p.jx (word ws 1) (.const c) .copy k).of s.at:=fun c hf=>by
  rw[p.gR hs hf];unfold RP.jx;split<;>rfl
 unfold RP.step RP.src
 repeat' split
 all_goals first
  |rfl
  |(refine hn _ (h.1 ?_);rename_i hw;(first|(rcases hw with hw|hw|hw|hw<;>simp[hw];done)|(rcases hw with hw|hw<;>simp[hw];done)|(simp[hw];done)))
  |(rename_i hw;exact Tw p hs ws (h.1 (by rcases hw with hw|hw<;>simp[hw])) (h.2 hw) k)
end Sq
namespace Sq
open Go Aux RefS RefT
def Sub (s t:WS):Prop:=∀k c,c∈s.at k->c∈t.at k
theorem Sub.refl (s:WS):Sub s s:=fun _ _ h=>h
theorem Sub.trans {s t u:WS}(h:Sub s t)(h':Sub t u):Sub s u:=fun k c hc=>h' k c (h k c hc)
theorem DV (s:B)(c x:UInt8):x∈fT s c↔x∈s\/x=c:=by
 unfold fT;split
 ·exact⟨.inl,fun h=>by rcases h with h|h;exact h;rw[h];assumption⟩
 ·simp
theorem CP:∀(o s:B) (m:Bool) (x:UInt8),x∈(eV s m o).1↔x∈s\/x∈o
 |[],s,m,x=>by simp[eV]
 |c::r,s,m,x=>by rw[eV,CP r,DV];simp[or_assoc]
theorem yC:∀(o s:B) (m:Bool),(eV s m o).2=false->m=false/\(eV s m o).1=s/\∀c∈o,c∈s
 |[],s,m,h=>⟨h,rfl,by simp⟩
 |c::r,s,m,h=>by
  rw[eV]at h⊢;obtain⟨h1,h2,h3⟩:=yC r _ _ h;simp only[Bool.or_eq_false_iff,Bool.not_eq_false',beq_iff_eq]at h1;rw[h1.2]at h2 h3⊢;refine⟨h1.1,h2,fun x hx=> ?_⟩;rcases jP.mp hx with rfl|hx
  ·have:=(DV s x x).mpr (.inr rfl)
   rwa [h1.2]at this
  ·exact h3 x hx
theorem Qs {s:WS}(hs:s.ak.length=24)(o:WS)(i:Nat)(hi:i<24)(m:Bool)(j:Nat):(iV o i s m).1.at j=if j=i then(eV (s.at i) m (o.at i)).1 else s.at j:=WS.D2 s i j _ (by omega)
theorem Ai (o:WS):∀(n i:Nat) (s:WS) (m:Bool),s.ak.length=24->i+n<=24->∀j x,x∈(eW o n i s m).1.at j↔x∈s.at j\/(i<=j/\j<i+n/\x∈o.at j)
 |0,i,s,m,_,_,j,x=>by rw[eW];exact⟨.inl,fun h=>by rcases h with h|⟨h1,h2,-⟩;exact h;omega⟩
 |n+1,i,s,m,hs,hi,j,x=>by
  rw[eW,Ai o n (i+1) _ _ (by simp[iV,WS.set,hs]) (by omega) j x,Qs hs o i (by omega)];by_cases hj:j=i
  ·subst hj;rw[jb rfl,CP];constructor
   ·rintro((h|h)|⟨h,-⟩)
    ·exact .inl h
    ·exact .inr ⟨jC _,by omega,h⟩
    ·omega
   ·rintro(h|⟨-,-,h⟩)
    ·exact .inl (.inl h)
    ·exact .inl (.inr h)
  ·rw[ja hj];constructor
   ·rintro(h|⟨h1,h2,h3⟩)
    ·exact .inl h
    ·exact .inr ⟨by omega,by omega,h3⟩
   ·rintro(h|⟨h1,h2,h3⟩)
    ·exact .inl h
    ·exact .inr ⟨by omega,by omega,h3⟩
theorem tW (o:WS):∀(n i:Nat) (s:WS) (m:Bool),s.ak.length=24->i+n<=24->(eW o n i s m).2=false->m=false/\(eW o n i s m).1=s/\∀j,i<=j->j<i+n->∀x∈o.at j,x∈s.at j
 |0,i,s,m,_,_,h=>⟨h,rfl,fun j h1 h2=>by omega⟩
 |n+1,i,s,m,hs,hi,h=>by
  rw[eW]at h⊢;obtain⟨h1,h2,h3⟩:=tW o n (i+1) _ _ (by simp[iV,WS.set,hs]) (by omega) h;obtain⟨g1,g2,g3⟩:=yC (o.at i) (s.at i) m h1;have e:(iV o i s m).1=s:=by
   unfold iV;simp only;rw[g2,WS.IY s i (by omega)]
  rw[e]at h2 h3⊢;refine⟨g1,h2,fun j hj1 XI x hx=> ?_⟩;by_cases hj:j=i
  ·subst hj;exact g3 x hx
  ·exact h3 j (by omega) (by omega) x hx
theorem WS.Mx {s o:WS}(hs:s.dT)(ho:o.dT)(hz:s.known=false->s=aI)(j:Nat)(x:UInt8):x∈(s.add o).1.at j↔x∈s.at j\/x∈o.at j:=by
 unfold WS.add;by_cases hk:s.known=true
 ·rw[jb hk,Ai o 24 0 s false hs.len (by omega)];by_cases hj:j<24
  ·exact⟨fun h=>h.imp id (·.2.2),fun h=>h.imp id (⟨by omega,by omega,·⟩)⟩
  ·rw[JG hs.len (by omega),JG ho.len (by omega)];simp
 ·rw[ja hk];have e:=hz (by simpa using hk);have:s.at j=[]:=by
   rw[e];unfold WS.at aI;simp only[List.getD_eq_getElem?_getD,List.getElem?_replicate];split<;>rfl
  rw[this];simp[WS.at]
theorem WS.Nv {s o:WS}(hs:s.dT)(ho:o.dT)(h:(s.add o).2=false):s.known=true/\(s.add o).1=s/\Sub o s:=by
 unfold WS.add at h⊢;by_cases hk:s.known=true
 ·rw[jb hk]at h⊢;obtain⟨-,h2,h3⟩:=tW o 24 0 s false hs.len (by omega) h;refine⟨hk,h2,fun j x hx=> ?_⟩;by_cases hj:j<24
  ·exact h3 j (by omega) (by omega) x hx
  ·rw[JG ho.len (by omega)]at hx;simp at hx
 ·rw[ja hk]at h;cases h
def RP.outs (p:RP)(i:Nat)(s:WS):List (Nat×WS):=
 if ends (word (p.line i) 0)then((List.range (behind (word (p.line i) 0) p.raw).1.length).filter fun k=>(behind (word (p.line i) 0) p.raw).1.getD k 0==78).map fun k=>(p.dr (word (p.line i) (k+1)),p.eF (p.line i) (p.step (p.line i) s).1 k)
 else [(i+1,(p.step (p.line i) s).1)]
structure s6 (p:RP)(C:Nat->WS):Prop where
 len:∀i,(C i).ak.length=24
 start:(C (p.blocks.getD 0 0)).known=true/\Sub j0 (C (p.blocks.getD 0 0))
 step:∀i,i<p.lines.length->(C i).known=true->∀x∈p.outs i (C i),(C x.1).known=true/\Sub x.2 (C x.1)
def pn (L:List WS)(C:Nat->WS):Prop:=∀i,((lw L i).known=true->(C i).known=true)/\Sub (lw L i) (C i)
section
variable {p:RP}
theorem tT {x:List WS×Bool}(h:cP x.1){b:Nat}(hb:b<x.1.length){o:WS}(ho:o.dT){C:Nat->WS}(hw:pn x.1 C)(hk:(C b).known=true)(hs:Sub o (C b)):pn (ke b o x).1 C:=by
 intro i;unfold ke;simp only;rw[lj _ _ _ hb];split
 ·rename_i e;subst e;refine⟨fun _=>hk,fun k c hc=> ?_⟩;rw[WS.Mx (h.fe i) ho (h.zero i)]at hc;rcases hc with hc|hc
  ·exact(hw i).2 k c hc
  ·exact hs k c hc
 ·exact hw i
theorem yE {x:List WS×Bool}(h:cP x.1){b:Nat}(hb:b<x.1.length){o:WS}(ho:o.dT)(hq:(ke b o x).2=false):x.2=false/\(ke b o x).1=x.1/\(lw x.1 b).known=true/\Sub o (lw x.1 b):=by
 unfold ke at hq⊢;simp only[Bool.or_eq_false_iff]at hq⊢;obtain⟨h1,h2,h3⟩:=WS.Nv (h.fe b) ho hq.2;refine⟨hq.1,?_,h1,h3⟩;rw[h2];apply List.ext_getElem?
 intro j;rw[jd];split
 ·rename_i e;subst e;simp[lw,hb]
 ·rfl
theorem pM (ws:List B){s:WS}(hs:s.dT)(f:B)(hb:∀k,f.getD k 0=78->p.dr (word ws (k+1))<p.lines.length):∀(m k:Nat) (x:List WS×Bool),x.1.length=p.lines.length->cP x.1->(p.eZ ws s f m k x).2=false->
  x.2=false/\(p.eZ ws s f m k x).1=x.1/\∀j,k<=j->j<k+m->f.getD j 0=78->(lw x.1 (p.dr (word ws (j+1)))).known=true/\Sub (p.eF ws s j) (lw x.1 (p.dr (word ws (j+1))))
 |0,k,x,_,_,h=>⟨h,rfl,fun j h1 h2=>by omega⟩
 |m+1,k,x,hl,hr,h=>by
  rw[RP.eZ]at h⊢;by_cases hc:f.getD k 0=78
  ·rw[jb hc]at h⊢;have hg:=fV hr (b:=p.dr (word ws (k+1))) (by rw[hl];exact hb k hc) (p.lN hs ws k);obtain⟨h1,h2,h3⟩:=pM ws hs f hb m (k+1) _ (hg.len.trans hl) hg.rows h;obtain⟨g1,g2,g3⟩:=yE hr (by rw[hl];exact hb k hc) (p.lN hs ws k) h1;rw[g2]at h2 h3;refine⟨g1,h2,fun j hj1 XI hj=> ?_⟩;by_cases e:j=k
   ·subst e;exact g3
   ·exact h3 j (by omega) (by omega) hj
  ·rw[ja hc]at h⊢;obtain⟨h1,h2,h3⟩:=pM ws hs f hb m (k+1) x hl hr h;refine⟨h1,h2,fun j hj1 XI hj=> ?_⟩;by_cases e:j=k
   ·subst e;exact absurd hj hc
   ·exact h3 j (by omega) (by omega) hj
theorem CH (hp:sC p){i:Nat}(hi:i<p.lines.length){x:List WS×Bool}(hl:x.1.length=p.lines.length)(hr:cP x.1)(h:(p.through i x).2=false):
  x.2=false/\(p.through i x).1=x.1/\((lw x.1 i).known=true->∀y∈p.outs i (lw x.1 i),(lw x.1 y.1).known=true/\Sub y.2 (lw x.1 y.1)):=by
 unfold RP.through at h⊢;by_cases hk:(lw x.1 i).known=true
 ·rw[jb hk]at h⊢;have hf:=p.kV (hr.fe i) (p.line i);unfold RP.outs;by_cases he:ends (word (p.line i) 0)=true
  ·rw[jb he]at h⊢;obtain⟨h1,h2,h3⟩:=pM (p:=p) (p.line i) hf _ (hp.vI i hi) _ 0 x hl hr h;refine⟨h1,h2,fun _ y hy=> ?_⟩;simp only[if_pos he,List.mem_map,List.mem_filter,List.mem_range,beq_iff_eq]at hy;obtain⟨k,⟨B8,GK⟩,rfl⟩:=hy;exact h3 k (by omega) (by omega) GK
  ·rw[ja he]at h⊢;obtain⟨h1,h2,h3⟩:=yE hr (by rw[hl];exact hp.next i hi (by simpa using he)) hf h;refine⟨h1,h2,fun _ y hy=> ?_⟩;rw[ja he,jI]at hy;subst hy;exact h3
 ·rw[ja hk]at h⊢;exact⟨h,rfl,fun h'=>absurd h' hk⟩
theorem vZ (hp:sC p):∀(m i:Nat) (x:List WS×Bool),i+m<=p.lines.length->x.1.length=p.lines.length->cP x.1->(p.iy m i x).2=false->
  x.2=false/\(p.iy m i x).1=x.1/\∀j,i<=j->j<i+m->(lw x.1 j).known=true->∀y∈p.outs j (lw x.1 j),(lw x.1 y.1).known=true/\Sub y.2 (lw x.1 y.1)
 |0,i,x,_,_,_,h=>⟨h,rfl,fun j h1 h2=>by omega⟩
 |m+1,i,x,hi,hl,hr,h=>by
  rw[RP.iy]at h⊢;have hg:=RP.kG hp i (by omega) x hl hr;obtain⟨h1,h2,h3⟩:=vZ hp m (i+1) _ (by omega) (hg.len.trans hl) hg.rows h;obtain⟨g1,g2,g3⟩:=CH hp (by omega) hl hr h1;rw[g2]at h2 h3;refine⟨g1,h2,fun j hj1 XI=> ?_⟩;by_cases e:j=i
  ·subst e;exact g3
  ·exact h3 j (by omega) (by omega)
theorem RP.pd (ws:List B)(h:p.dI ws){s t:WS}(hs:s.ak.length=24)(ht:t.ak.length=24)(ir:Sub s t):Sub (p.step ws s).1 (p.step ws t).1:=by
 intro k c hc;rw[p.Nk hs h]at hc;rw[p.Nk ht h];cases hx:p.src ws k with
 |const d=>rw[hx]at hc;exact hc
 |copy j=>rw[hx]at hc;exact ir j c hc
theorem RP.tA (ws:List B)(h:p.dI ws){s t:WS}(hs:s.ak.length=24)(ht:t.ak.length=24)(ir:Sub s t)(k:Nat):Sub (p.eF ws s k) (p.eF ws t k):=by
 intro j c hc;unfold RP.eF at hc⊢;have hf:word ws 0=bT->p.fits (word ws 1):=fun e=>h.1 (by rw[e];simp[bT])
 split at hc
 ·rename_i hm;rw[jb hm];rw[p.gR hs (hf hm.1)]at hc;rw[p.gR ht (hf hm.1)];split at hc
  ·rename_i e;rw[jb e];exact hc
  ·rename_i e;rw[ja e];exact ir j c hc
 ·rename_i hm;rw[ja hm];split at hc
  ·rename_i hm;rw[jb hm];rw[p.gR hs (hf hm.1)]at hc;rw[p.gR ht (hf hm.1)];split at hc
   ·rename_i e;rw[jb e];exact hc
   ·rename_i e;rw[ja e];exact ir j c hc
  ·rename_i hm;rw[ja hm];exact ir j c hc
theorem ox (ws:List B){s:WS}(hs:s.dT)(f:B)(hb:∀k,f.getD k 0=78->p.dr (word ws (k+1))<p.lines.length){C:Nat->WS}(hC:∀k,k<f.length->f.getD k 0=78->(C (p.dr (word ws (k+1)))).known=true/\Sub (p.eF ws s k) (C (p.dr (word ws (k+1))))):
  ∀(m k:Nat) (x:List WS×Bool),k+m<=f.length->x.1.length=p.lines.length->cP x.1->pn x.1 C->pn (p.eZ ws s f m k x).1 C
 |0,k,x,_,_,_,h=>h
 |m+1,k,x,hk,hl,hr,h=>by
  rw[RP.eZ];by_cases hc:f.getD k 0=78
  ·rw[jb hc];have hg:=fV hr (b:=p.dr (word ws (k+1))) (by rw[hl];exact hb k hc) (p.lN hs ws k);obtain⟨c1,c2⟩:=hC k (by omega) hc;exact ox ws hs f hb hC m (k+1) _ (by omega) (hg.len.trans hl) hg.rows (tT hr (by rw[hl];exact hb k hc) (p.lN hs ws k) h c1 c2)
  ·rw[ja hc];exact ox ws hs f hb hC m (k+1) x (by omega) hl hr h
theorem BW (hp:sC p)(mr:∀i,i<p.lines.length->p.dI (p.line i)){C:Nat->WS}(hC:s6 p C){i:Nat}(hi:i<p.lines.length){x:List WS×Bool}(hl:x.1.length=p.lines.length)(hr:cP x.1)(h:pn x.1 C):pn (p.through i x).1 C:=by
 unfold RP.through;by_cases hk:(lw x.1 i).known=true
 ·rw[jb hk];have hf:=p.kV (hr.fe i) (p.line i);have zK:=hC.step i hi ((h i).1 hk);have hm:=RP.pd (p.line i) (mr i hi) (hr.fe i).len (hC.len i) (h i).2;have AW:(p.step (p.line i) (C i)).1.ak.length=24:=by
   have e:∀l c,(p.now (C i) l c).ak.length=24:=fun l c=>by rw[p.kE,hC.len]
   have e2:(RP.cK p (p.line i) (C i)).1.ak.length=24:=by
    unfold RP.cK RP.taken;split<;>simp[p.kE,hC.len]
   unfold RP.step
   repeat' split
   all_goals first|exact hC.len i|exact e _ _|exact e2
  unfold RP.outs at zK;by_cases he:ends (word (p.line i) 0)=true
  ·rw[jb he];simp only[if_pos he,List.mem_map,List.mem_filter,List.mem_range,beq_iff_eq]at zK;refine ox (p.line i) hf _ (hp.vI i hi) (fun k B8 GK=> ?_) _ 0 x (by omega) hl hr h;obtain⟨c1,c2⟩:=zK _ ⟨k,⟨B8,GK⟩,rfl⟩;exact⟨c1,(RP.tA (p.line i) (mr i hi) hf.len AW hm k).trans c2⟩
  ·rw[ja he];rw[ja he]at zK;obtain⟨c1,c2⟩:=zK _ (jI.mpr rfl);exact tT hr (by rw[hl];exact hp.next i hi (by simpa using he)) hf h c1 (hm.trans c2)
 ·rw[ja hk];exact h
theorem sQ (hp:sC p)(mr:∀i,i<p.lines.length->p.dI (p.line i)){C:Nat->WS}(hC:s6 p C):∀(m i:Nat) (x:List WS×Bool),i+m<=p.lines.length->x.1.length=p.lines.length->cP x.1->pn x.1 C->pn (p.iy m i x).1 C
 |0,i,x,_,_,_,h=>h
 |m+1,i,x,hi,hl,hr,h=>by
  rw[RP.iy];have hg:=RP.kG hp i (by omega) x hl hr;exact sQ hp mr hC m (i+1) _ (by omega) (hg.len.trans hl) hg.rows (BW hp mr hC (by omega) hl hr h)
end
end Sq
end Go.Proofs.YtmlgajhhnojdjaaGreatDoor

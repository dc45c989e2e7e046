import Derived.Test.YtmlgajhhnojdjaaGreatDoorRAL
namespace Go.Proofs.YtmlgajhhnojdjaaGreatDoor
namespace Sq
open Go RefS RefT
def RP.step (p:RP)(ws:List B)(s:WS):WS×Bool:=
 if word ws 0=[115,101,116]\/word ws 0=[105,110]then(p.now s (word ws 1) [119],true)
 else if word ws 0=[97,100,100]\/word ws 0=[115,117,98]\/word ws 0=[109,117,108]\/word ws 0=[100,105,118]then(p.now s (word ws 1) [119],p.there s (word ws 2)&&p.there s (word ws 3))
 else if word ws 0=[111,117,116]\/word ws 0=[105,102]\/word ws 0=[101,110,100]\/word ws 0=[109,97,116,99,104]then(s,p.there s (word ws 1))
 else if word ws 0=[110,101,119]then(p.now s (word ws 1) [119],p.there s (word ws 2)&&cx p s (word ws 1))
 else if word ws 0=[108,111,97,100]then(p.now s (word ws 1) [119],p.there s (word ws 2))
 else if word ws 0=[115,116,111,114,101]then(s,p.there s (word ws 1)&&p.there s (word ws 2))
 else if word ws 0=[110,111,110,101]then(p.now s (word ws 1) [110],true)
 else if word ws 0=[100,114,111,112]then(p.now s (word ws 1) (left (word ws 1)),cx p s (word ws 1))
 else if word ws 0=[109,111,118,101]\/word ws 0=[115,111,109,101]then RP.cJ p ws s
 else(s,true)
end Sq
namespace Sq
open Go Aux RefS RefT
def eU (s:B)(m:Bool):B->B×Bool
 |[]=>(s,m)
 |c::r=>eU (fS s c) (m|| !(fS s c==s)) r
def iU (o:WS)(i:Nat)(s:WS)(m:Bool):WS×Bool:=(WS.set s i (eU (s.at i) m (o.at i)).1,(eU (s.at i) m (o.at i)).2)
def eV (o:WS):Nat->Nat->WS->Bool->WS×Bool
 |0,_,s,m=>(s,m)
 |n+1,i,s,m=>eV o n (i+1) (iU o i s m).1 (iU o i s m).2
def WS.add (s o:WS):WS×Bool:=if s.known then eV o 24 0 s false else({o with known:=true},true)
theorem FO (o:WS)(i:Nat)(s:WS)(m:Bool)(hi:i<24):eV o (24-i) i s m=eV o (24-(i+1)) (i+1) (iU o i s m).1 (iU o i s m).2:=by
 rw[show 24-i=(24-(i+1))+1 by omega,eV]
theorem Jz (s:B)(m:Bool)(o:B)(k:Nat)(hk:k<o.length):eU s m (o.drop k)=eU (fS s o[k]) (m|| !(fS s o[k]==s)) (o.drop (k+1)):=by
 rw[jE hk,eU]
theorem Fl (s:B)(c:UInt8):(fS s c).length<=s.length+1:=by
 unfold fS;split<;>simp
theorem DZ:∀(o s:B) (m:Bool),(eU s m o).1.length<=s.length+o.length
 |[],s,m=>by simp[eU]
 |c::r,s,m=>by
  have h1:=DZ r (fS s c) (m|| !(fS s c==s));have h2:=Fl s c;rw[eU];simp;omega
theorem WS.D1 (s:WS)(k j:Nat)(c:B)(hk:k<s.aj.length):(WS.set s k c).at j=if j=k then c else s.at j:=by
 unfold WS.at WS.set;simp only[List.getD_eq_getElem?_getD,List.getElem?_set];by_cases h:k=j
 ·subst h;simp[hk]
 ·rw[ja h,ja (fun e=>h e.symm)]
theorem WS.set_set (s:WS)(k:Nat)(a b:B):WS.set (WS.set s k a) k b=WS.set s k b:=by
 simp[WS.set]
theorem WS.IX (s:WS)(k:Nat)(h:k<s.aj.length):WS.set s k (s.at k)=s:=by
 unfold WS.set WS.at;cases s with
 |mk kn sp=>
  simp only[WS.mk.injEq,true_and]at h⊢;apply List.ext_getElem?
  intro j;rw[jd];by_cases hj:k=j
  ·subst hj;simp[h]
  ·simp[hj]
def eD:B:=[45,110,119,104]
structure dS (s:B):Prop where
 once:s.Nodup
 qh:∀c∈s,c∈eD
theorem R9:∀(l m:B),l.Nodup->(∀x∈l,x∈m)->l.length<=m.length
 |[],m,_,_=>by simp
 |a::l,m,hn,h=>by
  obtain⟨h1,h2⟩:=List.nodup_cons.mp hn;have h3:=R9 l (m.erase a) h2 (fun x hx=>(List.mem_erase_of_ne (by rintro rfl;exact h1 hx)).mpr (h x (by simp[hx])));have h4:=List.length_erase_of_mem (h a (by simp));have h5:=List.length_pos_of_mem (h a (by simp));simp;omega
theorem dS.length {s:B}(h:dS s):s.length<=4:=R9 s eD h.once h.qh
structure WS.dS (s:WS):Prop where
 len:s.aj.length=24
 fc:∀k,Sq.dS (s.at k)
theorem WS.dS.ok {s:WS}(h:s.dS):s.Ok:=⟨h.len,fun k=>by have:=(h.fc k).length;omega⟩
theorem Eg:dS []:=⟨List.nodup_nil,by simp⟩
theorem vr (c:UInt8)(h:c∈eD):dS [c]:=⟨by simp,by simpa using h⟩
theorem WS.dS.set {s:WS}(h:s.dS)(k:Nat){c:B}(hc:Sq.dS c):(WS.set s k c).dS:=by
 refine⟨by simp[WS.set,h.len],fun j=> ?_⟩;by_cases hk:k<s.aj.length
 ·rw[WS.D1 s k j c hk];split
  ·exact hc
  ·exact h.fc j
 ·have:WS.set s k c=s:=by
   unfold WS.set;rw[List.set_eq_of_length_le (by omega)]
  rw[this];exact h.fc j
theorem tK:aH.dS:=⟨rfl,fun k=>by
 have:aH.at k=[]:=by
  unfold WS.at aH;simp only[List.getD_eq_getElem?_getD,List.getElem?_replicate];split<;>simp
 rw[this];exact Eg⟩
theorem Dt (c:B)(hc:dS c):∀(m k:Nat) (s:WS),s.dS->(og c m k s).dS
 |0,_,_,h=>h
 |m+1,k,_,h=>Dt c hc m (k+1) _ (h.set k hc)
theorem RP.kC (p:RP){s:WS}(hs:s.dS)(l:B){c:B}(hc:dS c):(p.now s l c).dS:=Dt c hc _ _ _ hs
theorem Hw (l:B):dS (left l):=by
 unfold left;split
 ·exact vr _ (by simp[eD])
 ·exact vr _ (by simp[eD])
theorem MJ:dS [119]:=vr _ (by simp[eD])
theorem QY:dS [110]:=vr _ (by simp[eD])
theorem RP.yn (p:RP){s:WS}(hs:s.dS)(ws:List B):(RP.cJ p ws s).1.dS:=by
 unfold RP.cJ RP.taken;have h1:=p.kC (p.kC hs (word ws 2) (Hw (word ws 2))) (word ws 1) MJ;split
 ·exact p.kC h1 _ (hs.fc _)
 ·exact h1
theorem RP.kU (p:RP){s:WS}(hs:s.dS)(ws:List B):(p.step ws s).1.dS:=by
 unfold RP.step;have hw:=p.kC hs (word ws 1) MJ;have hn:=p.kC hs (word ws 1) QY;have hl:=p.kC hs (word ws 1) (Hw (word ws 1));have ht:=p.yn hs ws
 repeat' split
 all_goals assumption
theorem DT {s:B}{c:UInt8}(hs:dS s)(hc:c∈eD):dS (fS s c):=by
 unfold fS;split
 ·exact hs
 ·rename_i hn;refine⟨List.nodup_append.mpr ⟨hs.once,by simp,fun a ha b hb=> ?_⟩,fun x hx=> ?_⟩
  ·rw[jI]at hb;rintro rfl;exact hn (hb▸ha)
  ·rcases List.mem_append.mp hx with hx|hx
   ·exact hs.qh x hx
   ·rw[jI]at hx;rw[hx];exact hc
theorem CN:∀(o s:B) (m:Bool),dS s->(∀c∈o,c∈eD)->dS (eU s m o).1
 |[],s,m,h,_=>h
 |c::r,s,m,h,ho=>by
  rw[eU];exact CN r _ _ (DT h (ho c (by simp))) (fun x hx=>ho x (by simp[hx]))
theorem Ns {s o:WS}(hs:s.dS)(ho:o.dS)(i:Nat)(m:Bool):(iU o i s m).1.dS:=hs.set i (CN _ _ _ (hs.fc i) (ho.fc i).qh)
theorem Af {o:WS}(ho:o.dS):∀(n i:Nat) (s:WS) (m:Bool),s.dS->(eV o n i s m).1.dS
 |0,_,_,_,h=>h
 |n+1,i,_,m,h=>Af ho n (i+1) _ _ (Ns h ho i m)
theorem WS.zy {s o:WS}(hs:s.dS)(ho:o.dS):(s.add o).1.dS:=by
 unfold WS.add;split
 ·exact Af ho _ _ _ _ hs
 ·exact⟨ho.len,ho.fc⟩
def WS.count (s:WS):Nat:=(s.aj.map List.length).sum+if s.known then 1 else 0
theorem Nl:∀(l:List B) (k:Nat) (c:B),k<l.length->((l.set k c).map List.length).sum+(l.getD k []).length=(l.map List.length).sum+c.length
 |[],k,_,h=>by simp at h
 |x::l,0,c,_=>by simp;omega
 |x::l,k+1,c,h=>by
  have:=Nl l k c (by simpa using h);simp at this⊢;omega
theorem yA:∀(o s:B) (m:Bool),s.length<=(eU s m o).1.length/\((eU s m o).2=true->m=true\/s.length<(eU s m o).1.length)/\(m=true->(eU s m o).2=true)
 |[],s,m=>by simp[eU]
 |c::r,s,m=>by
  rw[eU];obtain⟨h1,h2,h3⟩:=yA r (fS s c) (m|| !(fS s c==s));have hw:fS s c=s\/(fS s c).length=s.length+1:=by unfold fS;split<;>simp
  refine⟨?_,fun h=> ?_,fun h=>h3 (by simp[h])⟩
  ·rcases hw with hw|hw
   ·rw[hw]at h1⊢;exact h1
   ·omega
  ·rcases hw with hw|hw
   ·rw[hw]at h2 h⊢;have:=h2 h;simpa using this
   ·right;omega
theorem FK {s:WS}(hs:s.aj.length=24)(o:WS)(i:Nat)(hi:i<24)(m:Bool):s.count<=(iU o i s m).1.count/\((iU o i s m).2=true->m=true\/s.count<(iU o i s m).1.count):=by
 obtain⟨h1,h2,-⟩:=yA (o.at i) (s.at i) m;have hc:=Nl s.aj i (eU (s.at i) m (o.at i)).1 (by omega);unfold WS.at at h1 h2 hc;unfold WS.count iU WS.set WS.at;simp only;refine⟨by omega,fun h=> ?_⟩;rcases h2 h with h|h
 ·exact .inl h
 ·right;omega
theorem tT (o:WS):∀(n i:Nat) (s:WS) (m:Bool),s.aj.length=24->i+n<=24->s.count<=(eV o n i s m).1.count/\((eV o n i s m).2=true->m=true\/s.count<(eV o n i s m).1.count)
 |0,_,s,m,_,_=>⟨jC _,fun h=> .inl h⟩
 |n+1,i,s,m,hs,hi=>by
  obtain⟨a1,a2⟩:=FK hs o i (by omega) m;obtain⟨b1,b2⟩:=tT o n (i+1) (iU o i s m).1 (iU o i s m).2 (by simp[iU,WS.set,hs]) (by omega);rw[eV];refine⟨by omega,fun h=> ?_⟩;rcases b2 h with h|h
  ·rcases a2 h with h|h
   ·exact .inl h
   ·right;omega
  ·right;omega
theorem WS.count_le {s:WS}(h:s.dS):s.count<=97:=by
 have:∀l:List B,(∀x∈l,x.length<=4)->(l.map List.length).sum<=4*l.length:=by
  intro l;induction l with
  |nil=>simp
  |cons x l ih=>intro hl;have h1:=ih (fun y hy=>hl y (by simp[hy]));have h2:=hl x (by simp);simp;omega
 have h4:=this s.aj (fun x hx=>by
  obtain⟨k,hk,rfl⟩:=List.getElem_of_mem hx;have:=(h.fc k).length;simpa [WS.at,hk]using this)
 unfold WS.count;rw[h.len]at h4;split<;>omega
end Sq
namespace Aux
open Go Go.RowKit Sq RefR
def lL (o:Oper):Operand:=match o.op with| .load _ x=>x|_=> .tmp 0
def iG (o:Oper):Bool:=match o.op with| .load t _=>t==155|_=>false
def lR (o:Oper):Operand:=match o.op with| .store _ x _=>x|_=> .tmp 0
def iI (o:Oper):Operand:=match o.op with| .store _ _ y=>y|_=> .tmp 0
def gv (o:Oper):Bool:=match o.op with| .store t _ _=>t==155|_=>false
section
variable (o:Oper) (a:Act) (w:World) (K:Act->World->Prop) (Q:Exit->Act->World->Prop)
theorem qd (hl:iG o=true)(h:rO w (a.eval (lL o))):Oper.wp Tryz.prog o a w K Q=K (a.put o.dst (.agg (B0 w (jx (a.eval (lL o)))))) w:=by
 obtain⟨d,op,t,ps,af,g⟩:=o;unfold iG at hl;split at hl
 ·rename_i t' x heq;simp only at heq;subst heq;obtain rfl:t'=155:=by simpa using hl
  exact dc d x t ps af g a w K Q h
 ·cases hl
theorem oz (hl:gv o=true)(h:rO w (a.eval (lR o)))(h':rJ (a.eval (iI o))):Oper.wp Tryz.prog o a w K Q=K (a.put o.dst undef) (w.setCells (jx (a.eval (lR o))) 0 (qB (a.eval (iI o))).toList):=by
 obtain⟨d,op,t,ps,af,g⟩:=o;unfold gv at hl;split at hl
 ·rename_i t' x y heq;simp only at heq;subst heq;obtain rfl:t'=155:=by simpa using hl
  exact cG d x y t ps af g a w K Q h h'
 ·cases hl
end
end Aux
namespace Sq
open Go Aux RefS RefT
def RP.dq (p:RP)(w:B):Nat:=p.blocks.getD ((number w).getD 0).toNat 0
def bS:B:=[109,97,116,99,104]
def RP.eE (p:RP)(ws:List B)(s:WS)(k:Nat):WS:=
 if word ws 0=bS/\k=2 then p.now s (word ws 1) [119]else if word ws 0=bS/\k=1 then p.now s (word ws 1) [110]else s
def lw (L:List WS)(i:Nat):WS:=L.getD i aH
def kd (b:Nat)(o:WS)(x:List WS×Bool):List WS×Bool:=(x.1.set b ((lw x.1 b).add o).1,x.2||((lw x.1 b).add o).2)
def RP.eY (p:RP)(ws:List B)(s:WS)(f:B):Nat->Nat->List WS×Bool->List WS×Bool
 |0,_,x=>x
 |m+1,k,x=>RP.eY p ws s f m (k+1) (if f.getD k 0=78 then kd (p.dq (word ws (k+1))) (p.eE ws s k) x else x)
def RP.lead (p:RP)(ws:List B)(s:WS)(x:List WS×Bool):List WS×Bool:=p.eY ws s (behind (word ws 0) p.raw).1 (behind (word ws 0) p.raw).1.length 0 x
def RP.through (p:RP)(i:Nat)(x:List WS×Bool):List WS×Bool:=
 if(lw x.1 i).known then
  if ends (word (p.line i) 0)then p.lead (p.line i) (p.step (p.line i) (lw x.1 i)).1 x else kd (i+1) (p.step (p.line i) (lw x.1 i)).1 x
 else x
def RP.ix (p:RP):Nat->Nat->List WS×Bool->List WS×Bool
 |0,_,x=>x
 |m+1,i,x=>RP.ix p m (i+1) (p.through i x)
def RP.pass (p:RP)(L:List WS):List WS×Bool:=p.ix p.lines.length 0 (L,false)
def jz:WS:=⟨true,List.replicate 24 [45]⟩
def RP.iz (p:RP):List WS:=(List.replicate p.lines.length aH).set (p.blocks.getD 0 0) jz
inductive RP.Reach (p:RP):List WS->Prop
 |start:RP.Reach p p.iz
 |pass (L:List WS):RP.Reach p L->(p.pass L).2=true->RP.Reach p (p.pass L).1
def RP.iS (p:RP)(L:List WS):Prop:=∃L0,p.Reach L0/\p.pass L0=(L,false)
def RP.cV (p:RP)(L:List WS):Nat->Nat->Int
 |0,_=> -1
 |m+1,i=>if((lw L i).known&& !(p.step (p.line i) (lw L i)).2)=true then i else RP.cV p L m (i+1)
theorem RP.IA (p:RP)(n i:Nat)(x:List WS×Bool)(hi:i<n):p.ix (n-i) i x=p.ix (n-(i+1)) (i+1) (p.through i x):=by
 rw[show n-i=(n-(i+1))+1 by omega,RP.ix]
theorem RP.Hv (p:RP)(ws:List B)(s:WS)(f:B)(n k:Nat)(x:List WS×Bool)(hk:k<n):p.eY ws s f (n-k) k x=p.eY ws s f (n-(k+1)) (k+1) (if f.getD k 0=78 then kd (p.dq (word ws (k+1))) (p.eE ws s k) x else x):=by
 rw[show n-k=(n-(k+1))+1 by omega,RP.eY]
theorem RP.Ee (p:RP)(L:List WS)(n i:Nat)(hi:i<n):p.cV L (n-i) i=if((lw L i).known&& !(p.step (p.line i) (lw L i)).2)=true then(i:Int)else p.cV L (n-(i+1)) (i+1):=by
 rw[show n-i=(n-(i+1))+1 by omega,RP.cV]
theorem RP.lM (p:RP){s:WS}(hs:s.dS)(ws:List B)(k:Nat):(p.eE ws s k).dS:=by
 unfold RP.eE;split
 ·exact p.kC hs _ MJ
 ·split
  ·exact p.kC hs _ QY
  ·exact hs
structure cO (L:List WS):Prop where
 fc:∀i,(lw L i).dS
 zero:∀i,(lw L i).known=false->lw L i=aH
def total (L:List WS):Nat:=(L.map WS.count).sum
theorem lh (L:List WS)(b:Nat)(t:WS)(hb:b<L.length)(i:Nat):lw (L.set b t) i=if i=b then t else lw L i:=by
 unfold lw;simp only[List.getD_eq_getElem?_getD,List.getElem?_set];by_cases h:b=i
 ·subst h;simp[hb]
 ·rw[ja h,ja (fun e=>h e.symm)]
theorem sU:∀(l:List WS) (k:Nat) (t:WS),k<l.length->total (l.set k t)+(lw l k).count=total l+t.count
 |[],k,_,h=>by simp at h
 |x::l,0,t,_=>by simp[total,lw];omega
 |x::l,k+1,t,h=>by
  have:=sU l k t (by simpa using h);simp[total,lw]at this⊢;omega
theorem tU (o:WS):∀(n i:Nat) (s:WS) (m:Bool),(eV o n i s m).1.known=s.known
 |0,_,_,_=>rfl
 |n+1,i,s,m=>by rw[eV,tU o n];rfl
theorem WS.CP (s o:WS):(s.add o).1.known=true:=by
 unfold WS.add;split
 ·rw[tU];assumption
 ·rfl
theorem Mo:aH.count=0:=by decide
theorem WS.Nt {s o:WS}(hs:s.dS)(hz:s.known=false->s=aH):s.count<=(s.add o).1.count/\((s.add o).2=true->s.count<(s.add o).1.count):=by
 unfold WS.add;by_cases hk:s.known=true
 ·rw[jb hk];obtain⟨h1,h2⟩:=tT o 24 0 s false hs.len (by omega);exact⟨h1,fun h=>by rcases h2 h with h|h;cases h;exact h⟩
 ·rw[ja hk];have:=hz (by simpa using hk);rw[this,Mo];have:1<=WS.count {o with known:=true}:=by unfold WS.count;simp
  exact⟨by omega,fun _=>this⟩
structure iO (x y:List WS×Bool):Prop where
 len:y.1.length=x.1.length
 rows:cO y.1
 more:total x.1<=total y.1
 told:y.2=true->x.2=true\/total x.1<total y.1
theorem iO.refl {x:List WS×Bool}(h:cO x.1):iO x x:=⟨rfl,h,jC _,.inl⟩
theorem iO.trans {x y z:List WS×Bool}(h:iO x y)(h':iO y z):iO x z:=
 ⟨h'.len.trans h.len,h'.rows,jS h.more h'.more,fun e=>by
  rcases h'.told e with e|e
  ·rcases h.told e with e|e
   ·exact .inl e
   ·right;have:=h'.more;omega
  ·right;have:=h.more;omega⟩
theorem fU {x:List WS×Bool}(h:cO x.1){b:Nat}(hb:b<x.1.length){o:WS}(ho:o.dS):iO x (kd b o x):=by
 have hc:=sU x.1 b ((lw x.1 b).add o).1 hb;obtain⟨h1,h2⟩:=WS.Nt (o:=o) (h.fc b) (h.zero b);unfold kd;refine⟨by simp,⟨fun i=> ?_,fun i hi=> ?_⟩,by simp only;omega,fun e=> ?_⟩
 ·simp only;rw[lh _ _ _ hb];split
  ·exact WS.zy (h.fc b) ho
  ·exact h.fc i
 ·simp only at hi⊢;rw[lh _ _ _ hb]at hi⊢;split at hi
  ·rw[WS.CP]at hi;cases hi
  ·rename_i ea;rw[ja ea];exact h.zero i hi
 ·simp only[Bool.or_eq_true]at e;rcases e with e|e
  ·exact .inl e
  ·right;have:=h2 e;simp only;omega
theorem RP.pK (p:RP)(ws:List B)(s:WS)(hs:s.dS)(f:B)(hb:∀k,f.getD k 0=78->p.dq (word ws (k+1))<p.lines.length):∀(m k:Nat) (x:List WS×Bool),x.1.length=p.lines.length->cO x.1->iO x (p.eY ws s f m k x)
 |0,_,x,_,h=>iO.refl h
 |m+1,k,x,hl,h=>by
  rw[RP.eY];by_cases hc:f.getD k 0=78
  ·rw[jb hc];have h1:=fU h (b:=p.dq (word ws (k+1))) (by rw[hl];exact hb k hc) (p.lM hs ws k);exact h1.trans (RP.pK p ws s hs f hb m (k+1) _ (h1.len.trans hl) h1.rows)
  ·rw[ja hc];exact RP.pK p ws s hs f hb m (k+1) x hl h
structure sB (p:RP):Prop where
 next:∀i,i<p.lines.length->ends (word (p.line i) 0)=false->i+1<p.lines.length
 vH:∀i,i<p.lines.length->∀k,(behind (word (p.line i) 0) p.raw).1.getD k 0=78->p.dq (word (p.line i) (k+1))<p.lines.length
theorem RP.kF {p:RP}(hp:sB p)(i:Nat)(hi:i<p.lines.length)(x:List WS×Bool)(hl:x.1.length=p.lines.length)(h:cO x.1):iO x (p.through i x):=by
 unfold RP.through;split
 ·have hf:=p.kU (h.fc i) (p.line i);split
  ·exact p.pK _ _ hf _ (hp.vH i hi) _ _ x hl h
  ·rename_i he;exact fU h (by rw[hl];exact hp.next i hi (by simpa using he)) hf
 ·exact iO.refl h
theorem RP.vX {p:RP}(hp:sB p):∀(m i:Nat) (x:List WS×Bool),i+m<=p.lines.length->x.1.length=p.lines.length->cO x.1->iO x (p.ix m i x)
 |0,_,x,_,_,h=>iO.refl h
 |m+1,i,x,hi,hl,h=>by
  have h1:=RP.kF hp i (by omega) x hl h;rw[RP.ix];exact h1.trans (RP.vX hp m (i+1) _ (by omega) (h1.len.trans hl) h1.rows)
theorem RP.LJ {p:RP}(hp:sB p)(L:List WS)(hl:L.length=p.lines.length)(h:cO L):iO (L,false) (p.pass L):=RP.vX hp _ 0 (L,false) (by omega) hl h
theorem zT (n i:Nat):lw (List.replicate n aH) i=aH:=by
 unfold lw;simp only[List.getD_eq_getElem?_getD,List.getElem?_replicate];split<;>rfl
theorem rA:jz.dS:=⟨rfl,fun k=>by
 unfold WS.at jz;simp only[List.getD_eq_getElem?_getD,List.getElem?_replicate];split
 ·exact vr 45 (by simp[eD])
 ·exact Eg⟩
theorem tC {p:RP}(hb:p.blocks.getD 0 0<p.lines.length):cO p.iz/\p.iz.length=p.lines.length:=by
 refine⟨⟨fun i=> ?_,fun i hi=> ?_⟩,by simp[RP.iz]⟩
 ·unfold RP.iz;rw[lh _ _ _ (by simpa using hb),zT];split
  ·exact rA
  ·exact tK
 ·unfold RP.iz at hi⊢;rw[lh _ _ _ (by simpa using hb),zT]at hi⊢;split at hi
  ·cases hi
  ·rename_i h;rw[ja h]
theorem Tz {L:List WS}(h:cO L):total L<=97*L.length:=by
 have:∀l:List WS,(∀x∈l,x.count<=97)->total l<=97*l.length:=by
  intro l;induction l with
  |nil=>simp[total]
  |cons x l ih=>intro hl;have h1:=ih (fun y hy=>hl y (by simp[hy]));have h2:=hl x (by simp);simp[total]at h1⊢;omega
 refine this L fun x hx=> ?_
 obtain⟨k,hk,rfl⟩:=List.getElem_of_mem hx;have:=WS.count_le (h.fc k);simpa [lw,hk]using this
end Sq
namespace Aux
open Go
def goTo (P:Program)(c:Code)(Q:Exit->Act->World->Prop):Exit->Act->World->Prop
 | .goto l,a,w=>∃r,findLabel c l=some r/\r.wp P (Exit.noGoto Q) a w
 |e,a,w=>Q e a w
section
variable {P:Program} {a:Act} {w:World} {Q:Exit->Act->World->Prop} {c:Code}
theorem Ji (h:c.wp P (goTo P c Q) a w):(Code.scope c).wp P Q a w:=by
 intro b k cs;obtain⟨e,a₁,w₁,hq,zk⟩:=h b (.inScope c::k) cs;cases e with
 |normal=>exact⟨.normal,a₁,w₁,hq,.head step_scope (Steps.trans zk (.one step_inScope))⟩
 |exit id=>exact⟨.exit id,a₁,w₁,hq,fun k' hk=> .head step_scope (zk k' (by simp[exitTo,hk]))⟩
 |goto l=>
  obtain⟨r,hf,hr⟩:=hq;have hg:gotoIn l (.inScope c::k)=some (.code r:: .inScope c::k):=by simp[gotoIn,hf]
  obtain⟨e₂,a₂,w₂,hq₂,zk₂⟩:=hr b (.inScope c::k) cs;have h1:=zk _ hg;cases e₂ with
  |normal=>exact⟨.normal,a₂,w₂,hq₂,.head step_scope (Steps.trans h1 (Steps.trans zk₂ (.one step_inScope)))⟩
  |exit id=>exact⟨.exit id,a₂,w₂,hq₂,fun k' hk=> .head step_scope (Steps.trans h1 (zk₂ k' (by simp[exitTo,hk])))⟩
  |goto l'=>exact hq₂.elim
  |ret=>exact⟨_,a₂,w₂,hq₂,.of_steps (.head step_scope h1) zk₂⟩
  |panic ch=>exact⟨_,a₂,w₂,hq₂,.of_steps (.head step_scope h1) zk₂⟩
  |outgrown=>exact⟨_,a₂,w₂,hq₂,.of_steps (.head step_scope h1) zk₂⟩
 |ret=>exact⟨_,a₁,w₁,hq,.of_steps (.one step_scope) zk⟩
 |panic ch=>exact⟨_,a₁,w₁,hq,.of_steps (.one step_scope) zk⟩
 |outgrown=>exact⟨_,a₁,w₁,hq,.of_steps (.one step_scope) zk⟩
def xY (J:Nat->Act->World->Prop)(Q:Exit->Act->World->Prop):Exit->Act->World->Prop
 | .goto l,a,w=>J l a w
 |e,a,w=>Q e a w
theorem Cu {J:Nat->Act->World->Prop}:xY J Q .normal a w=Q .normal a w:=rfl
theorem Ha {J:Nat->Act->World->Prop}(id:Nat):xY J Q (.exit id) a w=Q (.exit id) a w:=rfl
theorem Lc {J:Nat->Act->World->Prop}:xY J Q .ret a w=Q .ret a w:=rfl
theorem ED {J:Nat->Act->World->Prop}(ch:List PanicEntry):xY J Q (.panic ch) a w=Q (.panic ch) a w:=rfl
theorem Hc {J:Nat->Act->World->Prop}(l:Nat):xY J Q (.goto l) a w=J l a w:=rfl
theorem Jj (h:∀J:Nat->Act->World->Prop,(∀l r a w,findLabel c l=some r->r.wp P (Exit.noGoto Q) a w->J l a w)->c.wp P (xY J Q) a w):(Code.scope c).wp P Q a w:=by
 refine Ji ?_;have:=h (fun l a w=>∃r,findLabel c l=some r/\r.wp P (Exit.noGoto Q) a w) (fun l r a w h1 h2=>⟨r,h1,h2⟩);refine Code.wp_mono (fun e a w he=> ?_) this;cases e<;>exact he
end
end Aux
namespace Sq
open Go Aux RefS RefT
theorem gD (p:RP)(i:Nat)(hi:i<p.lines.length):p.inside (i+1)=if word (p.line i) 0=aQ then true else if ends (word (p.line i) 0)then false else p.inside i:=by
 unfold RP.inside;rw[List.take_add_one,jB hi];have:p.line i=p.lines[i]:=by simp[RP.line,hi]
 simp only[Option.toList_some,List.reverse_append,List.reverse_cons,List.reverse_nil,List.nil_append,List.cons_append,lJ,this]
theorem aE.pos {text:B}{raw:Bool}{p:RP}(h:aE text raw p):0<p.lines.length:=by
 have:=fv 10 text;rw[h.lines,dy];omega
theorem aE.NG {text:B}{raw:Bool}{p:RP}(h:aE text raw p):∃b∈p.blocks,b<p.lines.length/\al (p.line b)=true:=by
 cases hb:p.blocks with
 |nil=>exact absurd hb h.nonempty
 |cons b r=>
  have:b∈p.blocks:=by rw[hb];simp
  refine⟨b,by simp,?_⟩;rw[h.pre.blocks]at this;exact cH this
theorem aE.next {text:B}{raw:Bool}{p:RP}(h:aE text raw p)(i:Nat)(hi:i<p.lines.length)(he:ends (word (p.line i) 0)=false):i+1<p.lines.length:=by
 by_cases qQ:i+1<p.lines.length
 ·exact qQ
 ·exfalso;have hn:p.lines.length=i+1:=by omega
  have hs:=h.shut;rw[hn,gD p i hi]at hs;by_cases hb:word (p.line i) 0=aQ
  ·rw[jb hb]at hs;cases hs
  ·rw[ja hb,he]at hs;rcases h.pre.MV i hi with hl|hl
   ·obtain⟨b,h1,h2,h3⟩:=h.NG;have:=h.pre.first i hi hl b h1;omega
   ·rw[show al (p.line i)=false by simp[al,hb]]at hl;simp[hl]at hs
theorem tZ (w:B)(r:Bool)(k:Nat)(h:(behind w r).1.getD k 0=78):k<(behind w r).1.length:=by
 by_cases hk:k<(behind w r).1.length
 ·exact hk
 ·rw[jA,jG (by omega)]at h;cases h
theorem RP.Il {p:RP}{i:Nat}(h:p.names i=true)(hl:¬word (p.line i) 0=cv)(k:Nat)(hc:(behind (word (p.line i) 0) p.raw).1.getD k 0=78):(number (word (p.line i) (k+1))).getD 0<p.blocks.length:=by
 have hk:=tZ _ _ _ hc;have:=p.Bn _ _ k hk (RP.Bo h hl);rw[bV]at this;have e:(behind (word (p.line i) 0) p.raw).1[k]=78:=by
  rw[jA,jB hk]at hc;simpa using hc
 rw[e,RP.re,ja (by decide),jb rfl]at this;simpa using this
theorem N0:∀(f:B) (ws:List B) (k:Nat) (hk:k<f.length),jn f ws=true->iB f[k] (word ws k)=true:=by
 intro f;induction f with
 |nil=>intro ws k hk;simp at hk
 |cons c f ih=>
  intro ws k hk h;rw[jn,jH]at h;cases k with
  |zero=>exact h.1
  |succ k=>
   have:=ih (ws.drop 1) k (by simpa using hk) h.2;rw[bV]at this;simpa using this
theorem sM {raw:Bool}{ws:List B}(h:dI raw ws=true)(hl:¬word ws 0=cv)(k:Nat)(hk:k<(behind (word ws 0) raw).1.length):iB (behind (word ws 0) raw).1[k] (word ws (k+1))=true:=by
 unfold dI at h;rw[ja hl]at h;by_cases hb:word ws 0=aQ
 ·exfalso;have:(behind (word ws 0) raw).1=[]:=by rw[hb];cases raw<;>rfl
  rw[this]at hk;simp at hk
 ·rw[ja hb]at h;simp only[Bool.and_eq_true]at h;have:=N0 _ _ k hk h.2
  rwa [bV]at this
theorem Bd {raw:Bool}{ws:List B}(h:dI raw ws=true)(hl:¬word ws 0=cv)(k:Nat)(hc:(behind (word ws 0) raw).1.getD k 0=78):∃n:Nat,number (word ws (k+1))=some (n:Int):=by
 have hk:=tZ _ _ _ hc;have:=sM h hl k hk;have e:(behind (word ws 0) raw).1[k]=78:=by
  rw[jA,jB hk]at hc;simpa using hc
 rw[e,iB,ja (by decide),ja (by decide),ja (by decide),jb rfl]at this;cases hn:number (word ws (k+1))with
 |none=>rw[hn]at this;cases this
 |some n=>
  rw[hn]at this;exact⟨n.toNat,by simp only[decide_eq_true_eq]at this;rw[Int.toNat_of_nonneg this]⟩
theorem JH (r:Bool):(behind cv r).1=[]:=by cases r<;>rfl
theorem aE.vH {text:B}{raw:Bool}{p:RP}(h:aE text raw p)(i:Nat)(hi:i<p.lines.length)(k:Nat)(hc:(behind (word (p.line i) 0) p.raw).1.getD k 0=78):∃n:Nat,number (word (p.line i) (k+1))=some (n:Int)/\n<p.blocks.length/\p.dq (word (p.line i) (k+1))=p.blocks.getD n 0/\p.blocks.getD n 0<p.lines.length:=by
 have hl:¬word (p.line i) 0=cv:=by
  intro e;rw[e,JH]at hc;cases hc
 obtain⟨n,hn⟩:=Bd (h.pre.form i hi) hl k hc;have hb:=RP.Il (h.names i hi) hl k hc;rw[hn]at hb;have Fz:n<p.blocks.length:=by simpa using hb
 refine⟨n,hn,Fz,by unfold RP.dq;rw[hn];simp,?_⟩;have hm:p.blocks.getD n 0∈p.blocks:=by simp[Fz]
 have hw:=h.pre.blocks;rw[hw]at hm⊢;exact(cH hm).1
theorem aE.leads {text:B}{raw:Bool}{p:RP}(h:aE text raw p):sB p:=
 ⟨h.next,fun i hi k hc=>by obtain⟨n,-,-,h1,h2⟩:=h.vH i hi k hc;rw[h1];exact h2⟩
theorem aE.first {text:B}{raw:Bool}{p:RP}(h:aE text raw p):0<p.blocks.length/\p.blocks.getD 0 0<p.lines.length:=by
 have h0:0<p.blocks.length:=List.length_pos_iff.mpr h.nonempty;refine⟨h0,?_⟩;have hm:p.blocks.getD 0 0∈p.blocks:=by simp[h0]
 have hw:=h.pre.blocks;rw[hw]at hm⊢;exact(cH hm).1
end Sq
namespace Sq
open Go Aux RefS RefT
inductive Src where
 |const (c:B)
 |copy (k:Nat)
def Src.of (x:Src)(f:Nat->B):B:=match x with| .const c=>c| .copy k=>f k
def RP.jt (p:RP)(l:B)(k:Nat):Bool:=decide ((p.aj l).1<=k)&&decide (k<(p.aj l).1+(p.aj l).2)
def RP.jw (p:RP)(l:B)(c:Src)(g:Nat->Src)(k:Nat):Src:=if p.jt l k then c else g k
def RP.BU (p:RP)(ws:List B):Nat->Src:=
 let g:=p.jw (word ws 1) (.const [119]) (p.jw (word ws 2) (.const (left (word ws 2))) .copy)
 if word ws 0=[109,111,118,101]/\p.typeOf (word ws 1)=eG then p.jw (word ws 1) (.copy (p.aj (word ws 2)).1) g else g
def RP.src (p:RP)(ws:List B):Nat->Src:=
 if word ws 0=[115,101,116]\/word ws 0=[105,110]then p.jw (word ws 1) (.const [119]) .copy
 else if word ws 0=[97,100,100]\/word ws 0=[115,117,98]\/word ws 0=[109,117,108]\/word ws 0=[100,105,118]then p.jw (word ws 1) (.const [119]) .copy
 else if word ws 0=[111,117,116]\/word ws 0=[105,102]\/word ws 0=[101,110,100]\/word ws 0=[109,97,116,99,104]then .copy
 else if word ws 0=[110,101,119]then p.jw (word ws 1) (.const [119]) .copy
 else if word ws 0=[108,111,97,100]then p.jw (word ws 1) (.const [119]) .copy
 else if word ws 0=[115,116,111,114,101]then .copy
 else if word ws 0=[110,111,110,101]then p.jw (word ws 1) (.const [110]) .copy
 else if word ws 0=[100,114,111,112]then p.jw (word ws 1) (.const (left (word ws 1))) .copy
 else if word ws 0=[109,111,118,101]\/word ws 0=[115,111,109,101]then p.BU ws
 else .copy
theorem JF {s:WS}(hs:s.aj.length=24){k:Nat}(hk:24<=k):s.at k=[]:=by
 unfold WS.at;rw[jA,jG (by omega)];rfl
theorem Du (c:B):∀(m k:Nat) (s:WS),(og c m k s).aj.length=s.aj.length
 |0,_,_=>rfl
 |m+1,k,s=>by rw[og,Du c m];simp[WS.set]
theorem Ir (c:B):∀(m j:Nat) (s:WS),j+m<=s.aj.length->∀k,(og c m j s).at k=if j<=k/\k<j+m then c else s.at k
 |0,j,s,_,k=>by rw[og,ja (by omega)]
 |m+1,j,s,h,k=>by
  rw[og,Ir c m (j+1) _ (by simp[WS.set];omega) k,WS.D1 s j k c (by omega)];by_cases h1:j+1<=k/\k<j+1+m
  ·rw[jb h1,jb (by omega)]
  ·rw[ja h1];by_cases h2:k=j
   ·rw[jb h2,jb (by omega)]
   ·rw[ja h2,ja (by omega)]
def RP.fits (p:RP)(l:B):Prop:=(p.aj l).1+(p.aj l).2<=24
theorem RP.MO {p:RP}{l:B}(h:0<=p.find (ai l))(cf:p.lets.length<=12):p.fits l:=by
 obtain⟨j,hj,ot,_⟩:=RP.ez h;have:=(RP.gq hj).1;unfold RP.fits;omega
theorem RP.gQ (p:RP){s:WS}(hs:s.aj.length=24){l:B}(hl:p.fits l)(c:B)(k:Nat):(p.now s l c).at k=if p.jt l k then c else s.at k:=by
 unfold RP.now RP.jt;rw[Ir c _ _ s (by rw[hs];exact hl) k];simp only[Bool.and_eq_true,decide_eq_true_eq]
theorem RP.kD (p:RP)(s:WS)(l c:B):(p.now s l c).aj.length=s.aj.length:=Du c _ _ s
def RP.dH (p:RP)(ws:List B):Prop:=(word ws 0∈([[115,101,116],[105,110],[97,100,100],[115,117,98],[109,117,108],[100,105,118],[110,101,119],[108,111,97,100],[110,111,110,101],[100,114,111,112],[109,111,118,101],[115,111,109,101],[109,97,116,99,104]]:List B)->p.fits (word ws 1))/\
 (word ws 0=[109,111,118,101]\/word ws 0=[115,111,109,101]->p.fits (word ws 2))
theorem Tv (p:RP){s:WS}(hs:s.aj.length=24)(ws:List B)(h1:p.fits (word ws 1))(h2:p.fits (word ws 2))(k:Nat):(RP.cJ p ws s).1.at k=(p.BU ws k).of s.at:=by
 unfold RP.cJ RP.taken RP.BU;have e1:∀k,(p.now (p.now s (word ws 2) (left (word ws 2))) (word ws 1) [119]).at k=(p.jw (word ws 1) (.const [119]) (p.jw (word ws 2) (.const (left (word ws 2))) .copy) k).of s.at:=fun k=>by
  rw[p.gQ (by rw[p.kD,hs]) h1,p.gQ hs h2];unfold RP.jw;split
  ·rfl
  ·split<;>rfl
 by_cases hc:word ws 0=[109,111,118,101]/\p.typeOf (word ws 1)=eG
 ·rw[jb hc];have tj:word ws 0=[109,111,118,101]/\p.typeOf (word ws 1)=[111,112,116]:=hc;simp only[tj,and_self,if_true];rw[p.gQ (by rw[p.kD,p.kD,hs]) h1,e1];show _=(if p.jt (word ws 1) k then _ else _:Src).of s.at
  split<;>rfl
 ·rw[ja hc];have tj:¬(word ws 0=[109,111,118,101]/\p.typeOf (word ws 1)=[111,112,116]):=hc;simp only[tj,if_false];exact e1 k
theorem RP.Nj (p:RP){s:WS}(hs:s.aj.length=24){ws:List B}(h:p.dH ws)(k:Nat):(p.step ws s).1.at k=(p.src ws k).of s.at:=by
 have hn:∀c,p.fits (word ws 1)->(p.now s (word ws 1) c).at k=(p.jw (word ws 1) (.const c) .copy k).of s.at:=fun c hf=>by
  rw[p.gQ hs hf];unfold RP.jw;split<;>rfl
 unfold RP.step RP.src
 repeat' split
 all_goals first
  |rfl
  |(refine hn _ (h.1 ?_);rename_i hw;(first|(rcases hw with hw|hw|hw|hw<;>simp[hw];done)|(rcases hw with hw|hw<;>simp[hw];done)|(simp[hw];done)))
  |(rename_i hw;exact Tv p hs ws (h.1 (by rcases hw with hw|hw<;>simp[hw])) (h.2 hw) k)
end Sq
namespace Sq
open Go Aux RefS RefT
def Sub (s t:WS):Prop:=∀k c,c∈s.at k->c∈t.at k
theorem Sub.refl (s:WS):Sub s s:=fun _ _ h=>h
theorem Sub.trans {s t u:WS}(h:Sub s t)(h':Sub t u):Sub s u:=fun k c hc=>h' k c (h k c hc)
theorem DU (s:B)(c x:UInt8):x∈fS s c↔x∈s\/x=c:=by
 unfold fS;split
 ·exact⟨.inl,fun h=>by rcases h with h|h;exact h;rw[h];assumption⟩
 ·simp
theorem CO:∀(o s:B) (m:Bool) (x:UInt8),x∈(eU s m o).1↔x∈s\/x∈o
 |[],s,m,x=>by simp[eU]
 |c::r,s,m,x=>by rw[eU,CO r,DU];simp[or_assoc]
theorem yB:∀(o s:B) (m:Bool),(eU s m o).2=false->m=false/\(eU s m o).1=s/\∀c∈o,c∈s
 |[],s,m,h=>⟨h,rfl,by simp⟩
 |c::r,s,m,h=>by
  rw[eU]at h⊢;obtain⟨h1,h2,h3⟩:=yB r _ _ h;simp only[Bool.or_eq_false_iff,Bool.not_eq_false',beq_iff_eq]at h1;rw[h1.2]at h2 h3⊢;refine⟨h1.1,h2,fun x hx=> ?_⟩;rcases jP.mp hx with rfl|hx
  ·have:=(DU s x x).mpr (.inr rfl)
   rwa [h1.2]at this
  ·exact h3 x hx
theorem Qr {s:WS}(hs:s.aj.length=24)(o:WS)(i:Nat)(hi:i<24)(m:Bool)(j:Nat):(iU o i s m).1.at j=if j=i then(eU (s.at i) m (o.at i)).1 else s.at j:=WS.D1 s i j _ (by omega)
theorem Ah (o:WS):∀(n i:Nat) (s:WS) (m:Bool),s.aj.length=24->i+n<=24->∀j x,x∈(eV o n i s m).1.at j↔x∈s.at j\/(i<=j/\j<i+n/\x∈o.at j)
 |0,i,s,m,_,_,j,x=>by rw[eV];exact⟨.inl,fun h=>by rcases h with h|⟨h1,h2,-⟩;exact h;omega⟩
 |n+1,i,s,m,hs,hi,j,x=>by
  rw[eV,Ah o n (i+1) _ _ (by simp[iU,WS.set,hs]) (by omega) j x,Qr hs o i (by omega)];by_cases hj:j=i
  ·subst hj;rw[jb rfl,CO];constructor
   ·rintro((h|h)|⟨h,-⟩)
    ·exact .inl h
    ·exact .inr ⟨jC _,by omega,h⟩
    ·omega
   ·rintro(h|⟨-,-,h⟩)
    ·exact .inl (.inl h)
    ·exact .inl (.inr h)
  ·rw[ja hj];constructor
   ·rintro(h|⟨h1,h2,h3⟩)
    ·exact .inl h
    ·exact .inr ⟨by omega,by omega,h3⟩
   ·rintro(h|⟨h1,h2,h3⟩)
    ·exact .inl h
    ·exact .inr ⟨by omega,by omega,h3⟩
theorem tV (o:WS):∀(n i:Nat) (s:WS) (m:Bool),s.aj.length=24->i+n<=24->(eV o n i s m).2=false->m=false/\(eV o n i s m).1=s/\∀j,i<=j->j<i+n->∀x∈o.at j,x∈s.at j
 |0,i,s,m,_,_,h=>⟨h,rfl,fun j h1 h2=>by omega⟩
 |n+1,i,s,m,hs,hi,h=>by
  rw[eV]at h⊢;obtain⟨h1,h2,h3⟩:=tV o n (i+1) _ _ (by simp[iU,WS.set,hs]) (by omega) h;obtain⟨g1,g2,g3⟩:=yB (o.at i) (s.at i) m h1;have e:(iU o i s m).1=s:=by
   unfold iU;simp only;rw[g2,WS.IX s i (by omega)]
  rw[e]at h2 h3⊢;refine⟨g1,h2,fun j hj1 XH x hx=> ?_⟩;by_cases hj:j=i
  ·subst hj;exact g3 x hx
  ·exact h3 j (by omega) (by omega) x hx
theorem WS.Mw {s o:WS}(hs:s.dS)(ho:o.dS)(hz:s.known=false->s=aH)(j:Nat)(x:UInt8):x∈(s.add o).1.at j↔x∈s.at j\/x∈o.at j:=by
 unfold WS.add;by_cases hk:s.known=true
 ·rw[jb hk,Ah o 24 0 s false hs.len (by omega)];by_cases hj:j<24
  ·exact⟨fun h=>h.imp id (·.2.2),fun h=>h.imp id (⟨by omega,by omega,·⟩)⟩
  ·rw[JF hs.len (by omega),JF ho.len (by omega)];simp
 ·rw[ja hk];have e:=hz (by simpa using hk);have:s.at j=[]:=by
   rw[e];unfold WS.at aH;simp only[List.getD_eq_getElem?_getD,List.getElem?_replicate];split<;>rfl
  rw[this];simp[WS.at]
theorem WS.Nu {s o:WS}(hs:s.dS)(ho:o.dS)(h:(s.add o).2=false):s.known=true/\(s.add o).1=s/\Sub o s:=by
 unfold WS.add at h⊢;by_cases hk:s.known=true
 ·rw[jb hk]at h⊢;obtain⟨-,h2,h3⟩:=tV o 24 0 s false hs.len (by omega) h;refine⟨hk,h2,fun j x hx=> ?_⟩;by_cases hj:j<24
  ·exact h3 j (by omega) (by omega) x hx
  ·rw[JF ho.len (by omega)]at hx;simp at hx
 ·rw[ja hk]at h;cases h
def RP.outs (p:RP)(i:Nat)(s:WS):List (Nat×WS):=
 if ends (word (p.line i) 0)then((List.range (behind (word (p.line i) 0) p.raw).1.length).filter fun k=>(behind (word (p.line i) 0) p.raw).1.getD k 0==78).map fun k=>(p.dq (word (p.line i) (k+1)),p.eE (p.line i) (p.step (p.line i) s).1 k)
 else [(i+1,(p.step (p.line i) s).1)]
structure sZ (p:RP)(C:Nat->WS):Prop where
 len:∀i,(C i).aj.length=24
 start:(C (p.blocks.getD 0 0)).known=true/\Sub jz (C (p.blocks.getD 0 0))
 step:∀i,i<p.lines.length->(C i).known=true->∀x∈p.outs i (C i),(C x.1).known=true/\Sub x.2 (C x.1)
def pk (L:List WS)(C:Nat->WS):Prop:=∀i,((lw L i).known=true->(C i).known=true)/\Sub (lw L i) (C i)
section
variable {p:RP}
theorem tS {x:List WS×Bool}(h:cO x.1){b:Nat}(hb:b<x.1.length){o:WS}(ho:o.dS){C:Nat->WS}(hw:pk x.1 C)(hk:(C b).known=true)(hs:Sub o (C b)):pk (kd b o x).1 C:=by
 intro i;unfold kd;simp only;rw[lh _ _ _ hb];split
 ·rename_i e;subst e;refine⟨fun _=>hk,fun k c hc=> ?_⟩;rw[WS.Mw (h.fc i) ho (h.zero i)]at hc;rcases hc with hc|hc
  ·exact(hw i).2 k c hc
  ·exact hs k c hc
 ·exact hw i
theorem yD {x:List WS×Bool}(h:cO x.1){b:Nat}(hb:b<x.1.length){o:WS}(ho:o.dS)(hq:(kd b o x).2=false):x.2=false/\(kd b o x).1=x.1/\(lw x.1 b).known=true/\Sub o (lw x.1 b):=by
 unfold kd at hq⊢;simp only[Bool.or_eq_false_iff]at hq⊢;obtain⟨h1,h2,h3⟩:=WS.Nu (h.fc b) ho hq.2;refine⟨hq.1,?_,h1,h3⟩;rw[h2];apply List.ext_getElem?
 intro j;rw[jd];split
 ·rename_i e;subst e;simp[lw,hb]
 ·rfl
theorem pL (ws:List B){s:WS}(hs:s.dS)(f:B)(hb:∀k,f.getD k 0=78->p.dq (word ws (k+1))<p.lines.length):∀(m k:Nat) (x:List WS×Bool),x.1.length=p.lines.length->cO x.1->(p.eY ws s f m k x).2=false->
  x.2=false/\(p.eY ws s f m k x).1=x.1/\∀j,k<=j->j<k+m->f.getD j 0=78->(lw x.1 (p.dq (word ws (j+1)))).known=true/\Sub (p.eE ws s j) (lw x.1 (p.dq (word ws (j+1))))
 |0,k,x,_,_,h=>⟨h,rfl,fun j h1 h2=>by omega⟩
 |m+1,k,x,hl,hr,h=>by
  rw[RP.eY]at h⊢;by_cases hc:f.getD k 0=78
  ·rw[jb hc]at h⊢;have hg:=fU hr (b:=p.dq (word ws (k+1))) (by rw[hl];exact hb k hc) (p.lM hs ws k);obtain⟨h1,h2,h3⟩:=pL ws hs f hb m (k+1) _ (hg.len.trans hl) hg.rows h;obtain⟨g1,g2,g3⟩:=yD hr (by rw[hl];exact hb k hc) (p.lM hs ws k) h1;rw[g2]at h2 h3;refine⟨g1,h2,fun j hj1 XH hj=> ?_⟩;by_cases e:j=k
   ·subst e;exact g3
   ·exact h3 j (by omega) (by omega) hj
  ·rw[ja hc]at h⊢;obtain⟨h1,h2,h3⟩:=pL ws hs f hb m (k+1) x hl hr h;refine⟨h1,h2,fun j hj1 XH hj=> ?_⟩;by_cases e:j=k
   ·subst e;exact absurd hj hc
   ·exact h3 j (by omega) (by omega) hj
theorem CG (hp:sB p){i:Nat}(hi:i<p.lines.length){x:List WS×Bool}(hl:x.1.length=p.lines.length)(hr:cO x.1)(h:(p.through i x).2=false):
  x.2=false/\(p.through i x).1=x.1/\((lw x.1 i).known=true->∀y∈p.outs i (lw x.1 i),(lw x.1 y.1).known=true/\Sub y.2 (lw x.1 y.1)):=by
 unfold RP.through at h⊢;by_cases hk:(lw x.1 i).known=true
 ·rw[jb hk]at h⊢;have hf:=p.kU (hr.fc i) (p.line i);unfold RP.outs;by_cases he:ends (word (p.line i) 0)=true
  ·rw[jb he]at h⊢;obtain⟨h1,h2,h3⟩:=pL (p:=p) (p.line i) hf _ (hp.vH i hi) _ 0 x hl hr h;refine⟨h1,h2,fun _ y hy=> ?_⟩;simp only[if_pos he,List.mem_map,List.mem_filter,List.mem_range,beq_iff_eq]at hy;obtain⟨k,⟨B7,GJ⟩,rfl⟩:=hy;exact h3 k (by omega) (by omega) GJ
  ·rw[ja he]at h⊢;obtain⟨h1,h2,h3⟩:=yD hr (by rw[hl];exact hp.next i hi (by simpa using he)) hf h;refine⟨h1,h2,fun _ y hy=> ?_⟩;rw[ja he,jI]at hy;subst hy;exact h3
 ·rw[ja hk]at h⊢;exact⟨h,rfl,fun h'=>absurd h' hk⟩
theorem vY (hp:sB p):∀(m i:Nat) (x:List WS×Bool),i+m<=p.lines.length->x.1.length=p.lines.length->cO x.1->(p.ix m i x).2=false->
  x.2=false/\(p.ix m i x).1=x.1/\∀j,i<=j->j<i+m->(lw x.1 j).known=true->∀y∈p.outs j (lw x.1 j),(lw x.1 y.1).known=true/\Sub y.2 (lw x.1 y.1)
 |0,i,x,_,_,_,h=>⟨h,rfl,fun j h1 h2=>by omega⟩
 |m+1,i,x,hi,hl,hr,h=>by
  rw[RP.ix]at h⊢;have hg:=RP.kF hp i (by omega) x hl hr;obtain⟨h1,h2,h3⟩:=vY hp m (i+1) _ (by omega) (hg.len.trans hl) hg.rows h;obtain⟨g1,g2,g3⟩:=CG hp (by omega) hl hr h1;rw[g2]at h2 h3;refine⟨g1,h2,fun j hj1 XH=> ?_⟩;by_cases e:j=i
  ·subst e;exact g3
  ·exact h3 j (by omega) (by omega)
theorem RP.pb (ws:List B)(h:p.dH ws){s t:WS}(hs:s.aj.length=24)(ht:t.aj.length=24)(iq:Sub s t):Sub (p.step ws s).1 (p.step ws t).1:=by
 intro k c hc;rw[p.Nj hs h]at hc;rw[p.Nj ht h];cases hx:p.src ws k with
 |const d=>rw[hx]at hc;exact hc
 |copy j=>rw[hx]at hc;exact iq j c hc
theorem RP.tz (ws:List B)(h:p.dH ws){s t:WS}(hs:s.aj.length=24)(ht:t.aj.length=24)(iq:Sub s t)(k:Nat):Sub (p.eE ws s k) (p.eE ws t k):=by
 intro j c hc;unfold RP.eE at hc⊢;have hf:word ws 0=bS->p.fits (word ws 1):=fun e=>h.1 (by rw[e];simp[bS])
 split at hc
 ·rename_i hm;rw[jb hm];rw[p.gQ hs (hf hm.1)]at hc;rw[p.gQ ht (hf hm.1)];split at hc
  ·rename_i e;rw[jb e];exact hc
  ·rename_i e;rw[ja e];exact iq j c hc
 ·rename_i hm;rw[ja hm];split at hc
  ·rename_i hm;rw[jb hm];rw[p.gQ hs (hf hm.1)]at hc;rw[p.gQ ht (hf hm.1)];split at hc
   ·rename_i e;rw[jb e];exact hc
   ·rename_i e;rw[ja e];exact iq j c hc
  ·rename_i hm;rw[ja hm];exact iq j c hc
theorem ov (ws:List B){s:WS}(hs:s.dS)(f:B)(hb:∀k,f.getD k 0=78->p.dq (word ws (k+1))<p.lines.length){C:Nat->WS}(hC:∀k,k<f.length->f.getD k 0=78->(C (p.dq (word ws (k+1)))).known=true/\Sub (p.eE ws s k) (C (p.dq (word ws (k+1))))):
  ∀(m k:Nat) (x:List WS×Bool),k+m<=f.length->x.1.length=p.lines.length->cO x.1->pk x.1 C->pk (p.eY ws s f m k x).1 C
 |0,k,x,_,_,_,h=>h
 |m+1,k,x,hk,hl,hr,h=>by
  rw[RP.eY];by_cases hc:f.getD k 0=78
  ·rw[jb hc];have hg:=fU hr (b:=p.dq (word ws (k+1))) (by rw[hl];exact hb k hc) (p.lM hs ws k);obtain⟨c1,c2⟩:=hC k (by omega) hc;exact ov ws hs f hb hC m (k+1) _ (by omega) (hg.len.trans hl) hg.rows (tS hr (by rw[hl];exact hb k hc) (p.lM hs ws k) h c1 c2)
  ·rw[ja hc];exact ov ws hs f hb hC m (k+1) x (by omega) hl hr h
theorem BV (hp:sB p)(mq:∀i,i<p.lines.length->p.dH (p.line i)){C:Nat->WS}(hC:sZ p C){i:Nat}(hi:i<p.lines.length){x:List WS×Bool}(hl:x.1.length=p.lines.length)(hr:cO x.1)(h:pk x.1 C):pk (p.through i x).1 C:=by
 unfold RP.through;by_cases hk:(lw x.1 i).known=true
 ·rw[jb hk];have hf:=p.kU (hr.fc i) (p.line i);have zJ:=hC.step i hi ((h i).1 hk);have hm:=RP.pb (p.line i) (mq i hi) (hr.fc i).len (hC.len i) (h i).2;have AV:(p.step (p.line i) (C i)).1.aj.length=24:=by
   have e:∀l c,(p.now (C i) l c).aj.length=24:=fun l c=>by rw[p.kD,hC.len]
   have e2:(RP.cJ p (p.line i) (C i)).1.aj.length=24:=by
    unfold RP.cJ RP.taken;split<;>simp[p.kD,hC.len]
   unfold RP.step
   repeat' split
   all_goals first|exact hC.len i|exact e _ _|exact e2
  unfold RP.outs at zJ;by_cases he:ends (word (p.line i) 0)=true
  ·rw[jb he];simp only[if_pos he,List.mem_map,List.mem_filter,List.mem_range,beq_iff_eq]at zJ;refine ov (p.line i) hf _ (hp.vH i hi) (fun k B7 GJ=> ?_) _ 0 x (by omega) hl hr h;obtain⟨c1,c2⟩:=zJ _ ⟨k,⟨B7,GJ⟩,rfl⟩;exact⟨c1,(RP.tz (p.line i) (mq i hi) hf.len AV hm k).trans c2⟩
  ·rw[ja he];rw[ja he]at zJ;obtain⟨c1,c2⟩:=zJ _ (jI.mpr rfl);exact tS hr (by rw[hl];exact hp.next i hi (by simpa using he)) hf h c1 (hm.trans c2)
 ·rw[ja hk];exact h
theorem sP (hp:sB p)(mq:∀i,i<p.lines.length->p.dH (p.line i)){C:Nat->WS}(hC:sZ p C):∀(m i:Nat) (x:List WS×Bool),i+m<=p.lines.length->x.1.length=p.lines.length->cO x.1->pk x.1 C->pk (p.ix m i x).1 C
 |0,i,x,_,_,_,h=>h
 |m+1,i,x,hi,hl,hr,h=>by
  rw[RP.ix];have hg:=RP.kF hp i (by omega) x hl hr;exact sP hp mq hC m (i+1) _ (by omega) (hg.len.trans hl) hg.rows (BV hp mq hC (by omega) hl hr h)
end
end Sq
end Go.Proofs.YtmlgajhhnojdjaaGreatDoor

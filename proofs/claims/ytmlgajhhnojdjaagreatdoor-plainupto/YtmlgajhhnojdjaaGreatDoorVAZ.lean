import Derived.Test.YtmlgajhhnojdjaaGreatDoorVAY
namespace Go.Proofs.YtmlgajhhnojdjaaGreatDoor
namespace Sq
theorem Pg:True:=trivial
end Sq
namespace Sq
theorem Ph:True:=trivial
end Sq
namespace Sq
theorem Pj:True:=trivial
end Sq
namespace Sq
open Go Aux RefS RefT
def RP.pf (p:RP)(i:Nat):Nat:=((List.range i).filter fun j=>bm (p.line j)).length
theorem RP.zx (p:RP)(i:Nat):p.pf (i+1)=p.pf i+if bm (p.line i)then 1 else 0:=by
 unfold RP.pf;rw[List.range_succ,List.filter_append,jV];congr 1;cases h:bm (p.line i)<;>simp[h]
def RP.body (p:RP)(i:Nat):Prop:=i<p.lines.length/\isLet (p.line i)=false/\bm (p.line i)=false
theorem s9 (p:RP):∀i,i<=p.lines.length->p.inside i=true->1<=p.pf i
 |0,_,h=>by simp[RP.inside,iQ]at h
 |i+1,hi,h=>by
  rw[yy p i (by omega)]at h;rw[p.zx];by_cases hb:word (p.line i) 0=bX
  ·have:bm (p.line i)=true:=by simp[bm,hb]
   rw[this];simp
  ·rw[ja hb]at h;split at h
   ·cases h
   ·have:=s9 p i (by omega) h;omega
section
variable {text:B} {raw:Bool} {p:RP}
theorem om.zu (h:om text raw p){i:Nat}(hb:p.body i):p.inside i=true/\1<=p.pf i:=by
 have:p.inside i=true:=by
  rcases h.pre.Ir i hb.1 with hl|hl
  ·rw[hb.2.1]at hl;cases hl
  ·rw[hl,hb.2.2];rfl
 exact⟨this,s9 p i (Nat.le_of_lt hb.1) this⟩
end
section
variable {text:B} {raw:Bool} {p:RP}
end
end Sq
namespace Sq
open Go Aux RefS RefT
structure BQ where
 loc:Nat
 part:UInt8
instance:Inhabited BQ:=⟨⟨0,0⟩⟩
structure G3 where
 num:Nat
 op:B
 places:List BQ
 number:Int
 next:List Nat
def G3.w (l:G3)(j:Nat):BQ:=l.places.getD j default
structure Me where
 locals:List (B×B)
 blocks:List (List G3)
def Me.cF (q:Me)(n:Nat):B:=(q.locals.getD n ([],[])).2
section
variable {p:RP}
end
end Sq
namespace Sq
theorem Pk:True:=trivial
end Sq
namespace Sq
theorem Pl:True:=trivial
end Sq
namespace Sq
theorem Pm:True:=trivial
end Sq
namespace Sq
theorem Pn:True:=trivial
end Sq
namespace Sq
theorem Po:True:=trivial
end Sq
namespace Sq
theorem Pp:True:=trivial
end Sq
namespace FlwT
theorem Qw:True:=trivial
end FlwT
namespace FlwU
open Go Sq
def qH (c:Nat->Nat)(q:QP):Prop:=∀j,∀l∈q.blocks.getD j [],c l.num=j+1
theorem Al (c:Nat->Nat):qH c QP.empty:=fun j l hl=>by simp[QP.empty]at hl
theorem zh {c:Nat->Nat}{q:QP}(h:qH c q):qH c q.addBlock:=fun j l hl=>by
 by_cases hj:j<q.blocks.length
 ·have:q.addBlock.blocks.getD j []=q.blocks.getD j []:=by simp[QP.addBlock,List.getD_eq_getElem?_getD,List.getElem?_append,hj]
  rw[this]at hl;exact h j l hl
 ·have:q.addBlock.blocks.getD j []=[]:=by
   simp only[QP.addBlock,List.getD_eq_getElem?_getD,List.getElem?_append,if_neg hj];cases h2:j-q.blocks.length with
   |zero=>rfl
   |succ n=>rfl
  rw[this]at hl;cases hl
theorem BR {c:Nat->Nat}{q:QP}(h:qH c q){l:ab}{n:Nat}(hn:q.blocks.length=n+1)(hc:c l.num=n+1):qH c (q.addLine l)/\(q.addLine l).blocks.length=n+1:=by
 have c8:q.blocks≠[]:=by intro e;rw[e]at hn;simp at hn
 have hD:q.blocks.dropLast.length=n:=by simp[hn]
 have hg:q.blocks.getLastD []=q.blocks.getD n []:=by
  rw[List.getLastD_eq_getLast?,List.getLast?_eq_getElem?,hn,jA];rfl
 refine⟨fun j x hx=> ?_,by simp[QP.addLine,hD]⟩;by_cases hj:j<n
 ·have:(q.addLine l).blocks.getD j []=q.blocks.getD j []:=by
   simp only[QP.addLine,List.getD_eq_getElem?_getD];rw[jg (by omega),List.getElem?_dropLast,jb (by omega)]
  rw[this]at hx;exact h j x hx
 ·by_cases e:j=n
  ·subst e;have:(q.addLine l).blocks.getD j []=q.blocks.getD j []++[l]:=by
    simp only[QP.addLine,List.getD_eq_getElem?_getD];rw[jf (by omega),hD,Nat.sub_self];simp only[List.getElem?_cons_zero,Option.getD_some];rw[hg,jA]
   rw[this]at hx;rcases List.mem_append.mp hx with hx|hx
   ·exact h j x hx
   ·rw[jI.mp hx];exact hc
  ·have:(q.addLine l).blocks.getD j []=[]:=by
    rw[jA,jG (by simp[QP.addLine,hD];omega)];rfl
   rw[this]at hx;cases hx
theorem se (c:Nat->Nat)(nb:Nat):∀(S:List (Nat×List B)) (i:Nat) (q0 q:QP),aJ nb S i q0=(q,none)->
  (∀k x,S[k]?=some x->c (i+k+1)=c (i+k)+(if x.1=1 then 1 else 0))->(∀k x,S[k]?=some x->¬x.1=0->¬x.1=1->1<=c (i+k))->q0.blocks.length=c i->qH c q0->qH c q
 |[],i,q0,q,h,_,_,_,hI=>by simp only[aJ,Prod.mk.injEq,and_true]at h;rw[<-h];exact hI
 |x::S,i,q0,q,h,hc,hp,hl,hI=>by
  have h0:=hc 0 x rfl;have p6:∀k y,S[k]?=some y->c (i+1+k+1)=c (i+1+k)+(if y.1=1 then 1 else 0):=fun k y hy=>by
   have:=hc (k+1) y (by simpa using hy);rw[show i+1+k=i+(k+1) by omega];exact this
  have rY:∀k y,S[k]?=some y->¬y.1=0->¬y.1=1->1<=c (i+1+k):=fun k y hy=>by
   have:=hp (k+1) y (by simpa using hy);rw[show i+1+k=i+(k+1) by omega];exact this
  rw[aJ]at h;simp only[Nat.add_zero]at h0;by_cases e0:x.1=0
  ·rw[jb e0]at h;rw[ja (by omega)]at h0;split at h
   ·simp at h
   ·exact se c nb S (i+1) _ q h p6 rY (by simpa [QP.addLocal]using hl.trans (by omega)) hI
  ·rw[ja e0]at h;by_cases e1:x.1=1
   ·rw[jb e1]at h;rw[jb e1]at h0;exact se c nb S (i+1) _ q h p6 rY (by simp[QP.addBlock];omega) (zh hI)
   ·rw[ja e1]at h;rw[ja e1]at h0;have h1:=hp 0 x rfl e0 e1;simp only[Nat.add_zero]at h1;split at h
    ·simp at h
    ·rename_i l _;obtain⟨a1,a2⟩:=BR (l:={l with num:=i}) hI (n:=c i-1) (by omega) (by show c i=_;omega);exact se c nb S (i+1) _ q h p6 rY (by rw[a2];omega) a1
end FlwU
namespace FlwV
open Go Sq FlwU PrjS
theorem AR (nb:Nat):∀(S:List (Nat×List B)) (i:Nat) (q0 q:QP) (c:Nat->Nat),aJ nb S i q0=(q,none)->
  (∀k x,S[k]?=some x->c (i+k+1)=c (i+k)+(if x.1=1 then 1 else 0))->(∀k x,S[k]?=some x->¬x.1=0->¬x.1=1->1<=c (i+k))->q0.blocks.length=c i->q.blocks.length=c (i+S.length)
 |[],i,q0,q,c,h,_,_,hl=>by simp only[aJ,Prod.mk.injEq,and_true]at h;rw[<-h];exact hl
 |x::S,i,q0,q,c,h,hc,hp,hl=>by
  have h0:=hc 0 x rfl;have p6:∀k y,S[k]?=some y->c (i+1+k+1)=c (i+1+k)+(if y.1=1 then 1 else 0):=fun k y hy=>by
   have:=hc (k+1) y (by simpa using hy);rw[show i+1+k=i+(k+1) by omega];exact this
  have rY:∀k y,S[k]?=some y->¬y.1=0->¬y.1=1->1<=c (i+1+k):=fun k y hy=>by
   have:=hp (k+1) y (by simpa using hy);rw[show i+1+k=i+(k+1) by omega];exact this
  have key:∀q1:QP,aJ nb S (i+1) q1=(q,none)->q1.blocks.length=c (i+1)->q.blocks.length=c (i+(x::S).length):=fun q1 h1 h2=>by
   have:=AR nb S (i+1) q1 q c h1 p6 rY h2;rw[this,jY];congr 1;omega
  rw[aJ]at h;simp only[Nat.add_zero]at h0;by_cases e0:x.1=0
  ·rw[jb e0]at h;rw[ja (by omega)]at h0;split at h
   ·simp at h
   ·exact key _ h (by simpa [QP.addLocal]using hl.trans (by omega))
  ·rw[ja e0]at h;by_cases e1:x.1=1
   ·rw[jb e1]at h;rw[jb e1]at h0;exact key _ h (by simp[QP.addBlock];omega)
   ·rw[ja e1]at h;rw[ja e1]at h0;have h1:=hp 0 x rfl e0 e1;simp only[Nat.add_zero]at h1;split at h
    ·simp at h
    ·rename_i l _;exact key _ h (by simp[QP.addLine];omega)
structure vz (text:B)(raw:Bool)(p:RP)(q:QP):Prop where
 ref:(bP text raw).1=some p
 ok:om text raw p
 lr:LR p q p.lines.length
 Ir:qH p.pf q
 LZ:vZ q.blocks.length q
 len:q.blocks.length=p.blocks.length
theorem Gh {text:B}{raw:Bool}{q:QP}(h:(ax text raw).1=some q):∃p,vz text raw p q:=by
 obtain⟨p,hp,R⟩:=(qx text raw).2 q h;have iO:om text raw p:=by
  have e:bP text raw=(some p,(bP text raw).2.1,(bP text raw).2.2):=by rw[<-hp]
  exact(kO e).1
 have H:=iO.pre;by_cases hlong:(split 10 text).length>(if raw then 4000 else 120)
 ·rw[ax,jb hlong]at h;cases h
 ·rw[ax,ja hlong]at h;split at h
  ·cases h
  ·rename_i qm;split at h
   ·cases h
   ·split at h
    ·cases h
    ·rename_i ld;split at h
     ·cases h
     ·simp only[Option.some.injEq]at h;obtain⟨-,hn⟩:=oU raw (ba text) (Sq.start raw) ⟨0,0,0⟩ rfl (jh.start raw) (by simp) (fun ws hw=>by
       simp only[ba,List.mem_map]at hw;obtain⟨a,-,rfl⟩:=hw;exact fx _ _)
      have mW:(Sq.start raw).lines.length=0:=rfl;rw[mW]at hn;obtain⟨-,-,-,-,Cr⟩:=hn qm;have hS:(ar raw (ba text) ⟨0,0,0⟩ 0).1=(List.range p.lines.length).map p.du:=by
       rw[Cr,<-iO.lines];apply List.ext_getElem
       ·simp
       ·intro i h1 h2;simp only[List.length_map]at h1;rw[List.getElem_map,List.getElem_map,List.getElem_range,RP.du];have:p.line i=p.lines[i]:=by rw[RP.line,jA,jB h1];rfl
        rw[this]
      rw[hS]at ld h;have Ie:aJ (countB ((List.range p.lines.length).map p.du)) ((List.range p.lines.length).map p.du) 0 QP.empty=(q,none):=Prod.ext h ld;have km:∀k x,((List.range p.lines.length).map p.du)[k]?=some x->k<p.lines.length/\x=p.du k:=fun k x hx=>by
       rw[jJ]at hx;by_cases hk:k<p.lines.length
       ·rw[List.getElem?_range hk]at hx;simp only[Option.map_some,Option.some.injEq]at hx;exact⟨hk,hx.symm⟩
       ·rw[jG (by simp;omega)]at hx;cases hx
      have aH:∀k,k<p.lines.length->(p.du k).1<23/\((p.du k).1=1↔bm (p.line k)=true)/\((p.du k).1=0↔isLet (p.line k)=true):=fun k hk=>by
       obtain⟨op,ho,hl,-⟩:=pF H hk;have e:(p.du k).1=op:=by rw[RP.du,ho];rfl
       rw[e];refine⟨hl,?_,?_⟩
       ·rw[bm,beq_iff_eq];exact(jx ho).symm
       ·rw[isLet,beq_iff_eq];exact(tl ho).symm
      have hc:∀k x,((List.range p.lines.length).map p.du)[k]?=some x->p.pf (0+k+1)=p.pf (0+k)+(if x.1=1 then 1 else 0):=fun k x hx=>by
       obtain⟨hk,rfl⟩:=km k x hx;rw[Nat.zero_add,p.zx];congr 1;by_cases hb:bm (p.line k)=true
       ·rw[jb hb,jb ((aH k hk).2.1.mpr hb)]
       ·rw[ja hb,ja (fun e=>hb ((aH k hk).2.1.mp e))]
      have dL:∀k x,((List.range p.lines.length).map p.du)[k]?=some x->¬x.1=0->¬x.1=1->1<=p.pf (0+k):=fun k x hx h0 h1=>by
       obtain⟨hk,rfl⟩:=km k x hx;rw[Nat.zero_add];have hL:isLet (p.line k)=false:=by
        cases hL:isLet (p.line k)
        ·rfl
        ·exact absurd ((aH k hk).2.2.mpr hL) h0
       have hB:bm (p.line k)=false:=by
        cases hB:bm (p.line k)
        ·rfl
        ·exact absurd ((aH k hk).2.1.mpr hB) h1
       exact(iO.zu ⟨hk,hL,hB⟩).2
      have VP:QP.empty.blocks.length=p.pf 0:=rfl;have hlen:q.blocks.length=p.blocks.length:=by
       rw[R.blocks];congr 1;rw[List.filter_eq_self];intro b hb;rw[H.blocks]at hb;have:=(eA hb).1;simp[this]
      have Wf:=AR _ _ 0 _ _ p.pf Ie hc dL VP;have Cj:countB ((List.range p.lines.length).map p.du)=p.blocks.length:=by
       rw[countB,H.blocks,RP.cG,List.filter_map,jc];congr 1;apply List.filter_congr
       intro j hj;have rI:j<p.lines.length:=by simpa using hj
       rw[jX];simp only[Function.comp,beq_iff_eq];exact(aH j rI).2.1
      refine⟨p,hp,iO,R,se p.pf _ _ 0 _ _ Ie hc dL VP (Al _),?_,hlen⟩;have:=kb _ _ 0 _ _ Ie (fun x hx=>by
       obtain⟨k,hk,rfl⟩:=List.mem_map.mp hx;exact(aH k (by simpa using hk)).1) ⟨fun x hx=>by simp[QP.empty]at hx,fun b hb=>by simp[QP.empty]at hb⟩
      rw[Cj,<-hlen]at this;exact this
section
variable {text:B} {raw:Bool} {p:RP} {q:QP}
theorem vz.locals (h:vz text raw p q):q.locals=p.fO:=by
 rw[h.lr.locals,RP.fO,List.filter_eq_self.mpr];intro t ht;rw[h.ok.pre.lets]at ht;have:=(eA ht).1;simp[this]
theorem vz.oW (h:vz text raw p q):q.locals.length<=12:=by
 rw[h.locals,RP.fO,jc];exact h.ok.pre.oW
end
end FlwV
namespace FlwW
theorem Qx:True:=trivial
end FlwW
namespace FlwX
theorem Qy:True:=trivial
end FlwX
namespace FlwY
open Go Sq Aux PrjS FlwA FlwB FlwC FlwD FlwE FlwF FlwG FlwH FlwI FlwJ FlwK FlwM FlwO FlwP FlwQ FlwS FlwT FlwU FlwV FlwW FlwX
def Full (s:List Nat):Prop:=∀k,k<24->¬s.getD k 0=0
theorem zV {s:List Nat}(h:Full s)(i:Nat){v:Nat}(hv:¬v=0):Full (s.set i v):=fun k hk=>by
 rw[dK];split
 ·exact hv
 ·exact h k hk
theorem lQ {v:Nat}(hv:¬v=0):∀(ps:List (Nat×Nat)) {s:List Nat},Full s->Full (eO v ps s)
 |[],_,h=>h
 |x::ps,_,h=>lQ hv ps (zV h (ah x) hv)
theorem mA:∀(ps:List (Nat×Nat)) {s:List Nat},Full s->Full (dz ps s)
 |[],_,h=>h
 |x::ps,s,h=>mA ps (s:=s.set (ah x) (if x.2=3 then 8 else 1)) (zV h (ah x) (by split<;>decide))
theorem B7 (q:QP)(l:ab){s:List Nat}(h:Full s):Full (aR q l s):=by
 unfold aR;split
 ·exact mA _ h
 ·split
  ·exact mA _ h
  ·exact h
def J6 (l:ab):Prop:=∀x∈l.places,x.1<12
theorem xw (q:QP){l:ab}(hl:J6 l){s:List Nat}(h:Full s):Full (au q l s):=by
 have h1:=B7 q l h;unfold au;split
 ·exact lQ (by decide) _ h1
 ·split
  ·refine lQ ?_ _ h1;unfold da;split
   ·apply h
    have:(l.places.getD 1 (0,0)).1<12:=by
     by_cases hp:1<l.places.length
     ·exact hl _ (bU hp)
     ·rw[jA,jG (by omega)];decide
    unfold ah;split<;>omega
   ·decide
  ·split
   ·exact lQ (by decide) _ h1
   ·split
    ·exact mA _ h1
    ·exact h1
theorem mz (l:ab)(i:Nat){s:List Nat}(h:Full s):Full (cM l i s):=by
 unfold cM;split
 ·exact lQ (by split<;>decide) _ h
 ·exact h
theorem zW (l:ab):∀(ns:List Nat) (i:Nat) {s:List Nat},Full s->Full (M4 l ns i s)
 |[],_,_,h=>h
 |_::ns,i,_,h=>zW l ns (i+1) (mz l i h)
theorem sO (l:ab):∀(ns:List Nat) (i:Nat) {s:List Nat},Full s->∀x∈lg l ns i s,Full x.2
 |[],_,_,_,x,hx=>by cases hx
 |n::ns,i,s,h,x,hx=>by
  rcases jP.mp hx with rfl|hx
  ·exact mz l i h
  ·exact sO l ns (i+1) (mz l i h) x hx
theorem sN (q:QP):∀(ls:List ab) {s:List Nat},(∀l∈ls,J6 l)->Full s->∀x∈eN q ls s,Full x.2
 |[],_,_,_,x,hx=>by cases hx
 |l::ls,s,hl,h,x,hx=>by
  have hp:=xw q (hl l (jM ..)) h;rcases List.mem_append.mp hx with hx|hx
  ·exact sO l l.next 0 hp x hx
  ·exact sN q ls (fun m hm=>hl m (jN _ hm)) (zW l _ _ hp) x hx
def GV (N:Nat)(E:List (List Nat)):Prop:=∀b,b<N->E.getD b []=ak\/Full (E.getD b [])
theorem EJ {s t:List Nat}(hs:dn s)(ht:Full t):Full (dG s t):=fun k hk=>by
 rw[fN hs.len,jb hk];intro e;exact ht k hk (Nat.or_eq_zero_iff.mp e).2
theorem oz (N:Nat):∀(M:List (Nat×List Nat)) (E:List (List Nat)) (O:Nat->Bool),vB E->E.length=N->(∀x∈M,x.1<N/\dn x.2)->(∀x∈M,Full x.2)->GV N E->GV N (leads M (E,O)).1
 |[],_,_,_,_,_,_,h=>h
 |x::M,E,O,hE,hl,hM,hF,h=>by
  obtain⟨lf,Ip⟩:=hM x (jM ..);have Iq:x.1<E.length:=by omega
  have e:leads (x::M) (E,O)=leads M (cZ E x.1 x.2,eh E O x.1 x.2):=rfl;rw[e];refine oz N M _ _ (ti hE Iq Ip) (by rw[qq];exact hl) (fun y hy=>hM y (jN _ hy)) (fun y hy=>hF y (jN _ hy)) fun b hb=> ?_
  rw[j9 E x.1 x.2 Iq];split
  ·exact .inr (EJ (hE.at Iq) (hF x (jM ..)))
  ·exact h b hb
theorem pr:Full aA:=fun k hk=>by
 unfold aA;rw[jA,jO,jb hk];decide
theorem GH {k:Nat}:ak.getD k 0=0:=by
 unfold ak;rw[jA,jO];split<;>rfl
theorem DK {s:List Nat}(h:Full s):¬s=ak:=fun e=>h 0 (by decide) (by rw[e];exact GH)
structure zd (q:QP)(E:List (List Nat))(O:Nat->Bool):Prop where
 inv:Inv q E O
 full:GV q.blocks.length E
theorem ta (q:QP)(h0:0<q.blocks.length):zd q (cZ (List.replicate q.blocks.length ak) 0 aA) (eh (List.replicate q.blocks.length ak) (fun _=>false) 0 aA):=by
 refine⟨Fe q h0,?_⟩;have oF:vB (List.replicate q.blocks.length ak):=fun s hs=>by rw[List.eq_of_mem_replicate hs];exact⟨by decide,mL⟩
 exact oz q.blocks.length [(0,aA)] _ (fun _=>false) oF (by simp) (fun x hx=>by rw[jI.mp hx];exact⟨h0,kU⟩) (fun x hx=>by rw[jI.mp hx];exact pr)
  fun b hb=> .inl (by simp[List.getD_eq_getElem?_getD,hb])
theorem xD (q:QP)(hq:vZ q.blocks.length q)(dS:q.locals.length<=12)(E:List (List Nat))(O:Nat->Bool)(b:Nat)(hb:b<q.blocks.length)(hO:O b=true)(h:zd q E O):
  zd q (dx q E (bH O b false) b).2.1 (dx q E (bH O b false) b).2.2:=by
 have jw:=fun b (hb:b<q.blocks.length)=>zs hq hb
 refine⟨Iw q jw E O b hb hO h.inv,?_⟩;have hs:=h.inv.ok.at (i:=b) (by rw[h.inv.len];exact hb);have e:(dx q E (bH O b false) b).2=leads (eN q (q.blocks.getD b []) (E.getD b [])) (E,bH O b false):=oB q _ _;have hf:Full (E.getD b []):=by
  rcases h.full b hb with h1|h1
  ·exact absurd h1 (h.inv.live b hb hO)
  ·exact h1
 have dL:∀l∈q.blocks.getD b [],J6 l:=fun l hl x hx=>by
  have hm:q.blocks.getD b []∈q.blocks:=by rw[jA,jB hb];exact jL hb
  have:=((hq.lines _ hm l hl).places x hx).1;omega
 have:=oz q.blocks.length (eN q (q.blocks.getD b []) (E.getD b [])) E (bH O b false) h.inv.ok h.inv.len (pL q q.blocks.length _ (jw b hb) hs) (sN q _ dL hf) h.full;rw[<-e]at this;exact this
section
variable {text:B} {p:RP} {q:QP}
structure kq (text:B)(p:RP)(q:QP)(E:List (List Nat)):Prop where
 both:vz text false p q
 inv:zd q E (fun _=>false)
 pos:0<q.blocks.length
theorem kq.ok {E:List (List Nat)}(h:kq text p q E){b:Nat}(hb:b<q.blocks.length):dn (E.getD b []):=h.inv.inv.ok.at (by rw[h.inv.inv.len];exact hb)
end
end FlwY
namespace RunB
open Go Sq Aux Go.Proofs.YtmlgajhhnojdjaaGreatDoor.Own RunA PrjS FlwA FlwB FlwC FlwD FlwE FlwF FlwG FlwH FlwI FlwJ FlwK FlwM FlwO FlwP FlwQ FlwS FlwY
def jy (n v:Nat):Prop:=if n=0 then¬v&&&13=0 else¬v&&&2=0
theorem EF {n u v:Nat}(h:jy n u)(hl:p8 u v):jy n v:=by
 have key:∀m,¬u&&&m=0->¬v&&&m=0:=fun m hu hv=>hu (by
  rw[<-hl,Nat.and_or_distrib_right]at hv;apply Nat.eq_of_testBit_eq
  intro i;have:=congrArg (fun x=>x.testBit i) hv;simp only[Nat.testBit_or,Nat.testBit_and,Nat.zero_testBit]at this⊢
  revert this
  cases u.testBit i<;>cases m.testBit i<;>cases v.testBit i<;>simp)
 unfold jy at*;split at h
 ·rename_i e;rw[jb e];exact key _ h
 ·rename_i e;rw[ja e];exact key _ h
structure gG (q:QP)(X:List Nat)(b s:List Nat):Prop where
 lb:b.length=24
 ls:s.length=24
 at_:∀k,k<24->k∉X->¬q.cF (k/2)=0->jy (b.getD k 0) (s.getD k 0)
def gT (q:QP)(s:List Nat)(o:Own.Own):Prop:=gG q [] o.boxes s
section
variable {q:QP} {X b s:List Nat}
theorem gG.put (h:gG q X b s)(i:Nat){n v:Nat}(hf:jy n v\/q.cF (i/2)=0){Y:List Nat}(hY:∀k,k∈X->k=i\/k∈Y):gG q Y (b.set i n) (s.set i v):=by
 refine⟨by simpa using h.lb,by simpa using h.ls,fun k hk hn ht=> ?_⟩;rw[dK,dK,h.lb,h.ls];by_cases e:i=k
 ·subst e;rw[jb ⟨rfl,hk⟩,jb ⟨rfl,hk⟩];exact hf.resolve_right ht
 ·rw[ja (fun x=>e x.1),ja (fun x=>e x.1)];refine h.at_ k hk (fun hx=> ?_) ht;rcases hY k hx with h1|h1
  ·exact e h1.symm
  ·exact hn h1
theorem gG.clear (h:gG q X b s)(i:Nat){Y:List Nat}(hY:∀k,k∈X\/k=i->k∈Y):gG q Y (b.set i 0) s:=by
 refine⟨by simpa using h.lb,h.ls,fun k hk hn ht=> ?_⟩;rw[dK,ja (fun x=>hn (hY k (.inr x.1.symm)))];exact h.at_ k hk (fun hx=>hn (hY k (.inl hx))) ht
theorem gG.free (h:gG q X b s)(i:Nat)(v:Nat)(ht:q.cF (i/2)=0):gG q X b (s.set i v):=by
 refine⟨h.lb,by simpa using h.ls,fun k hk hn Pu=> ?_⟩;rw[dK,ja (fun x=>Pu (by rw[<-x.1];exact ht))];exact h.at_ k hk hn Pu
theorem gG.mono (h:gG q X b s){t:List Nat}(ht:t.length=24)(hl:ic s t):gG q X b t:=⟨h.lb,ht,fun k hk hn GP=>EF (h.at_ k hk hn GP) (hl k hk)⟩
theorem tY:∀(ps:List (Nat×Nat)) {o:Own.Own} {s:List Nat},gT q s o->gT q (dz ps s) (Own.take ps o).2
 |[],_,_,h=>h
 |p::ps,o,s,h=>by
  rw[Own.take];refine tY ps (o:=o.clear p) (s:=s.set (ah p) (if p.2=3 then 8 else 1)) ?_;exact gG.put h (ah p) (.inl (by unfold jy;rw[jb rfl];split<;>decide)) (fun k hk=>by cases hk)
theorem tW:∀(ps:List (Nat×Nat)) {o:Own.Own} {X:List Nat} {s:List Nat},gG q X o.boxes s->gG q (X++ps.map ah) (Own.take ps o).2.boxes s
 |[],_,X,_,h=>by simpa [Own.take]using h
 |p::ps,o,X,s,h=>by
  rw[Own.take];have:=tW ps (o:=o.clear p) (X:=X++[ah p]) (s:=s) (h.clear (ah p) (fun k hk=>by simpa using hk));simpa using this
theorem Bh {m:Nat}:∀(ps:List (Nat×Nat)) (ns:List Nat) {o:Own.Own} {s:List Nat},ps.length=ns.length->(∀n∈ns,jy n m)->gG q (ps.map ah) o.boxes s->gT q (eO m ps s) (Own.lu ps ns o)
 |[],_,_,_,_,_,h=>h
 |p::ps,[],_,_,hl,_,_=>by cases hl
 |p::ps,n::ns,o,s,hl,hn,h=>by
  rw[Own.lu];refine Bh ps ns (o:=o.Be p n) (s:=s.set (ah p) m) (by simpa using hl) (fun k hk=>hn k (jN _ hk)) ?_;exact gG.put h (ah p) (.inl (hn n (jM ..))) (fun k hk=>by simpa using hk)
theorem AU {m:Nat}{o:Own.Own}(h:gT q s o)(ts frm:List (Nat×Nat))(hl:ts.length=frm.length)(hv:∀n∈(Own.take frm o).1,jy n m):gT q (eO m ts (dz frm s)) (o.move ts frm):=by
 unfold Own.move;refine Bh ts _ (by rw[Go.Proofs.YtmlgajhhnojdjaaGreatDoor.Own.take_len];exact hl) hv ?_;rw[(eS ts _).2.2.2];have:=tW ts (o:=(Own.take frm o).2) (X:=[]) (tY frm h);simpa using this
theorem tg {n v:Nat}(h:pC 2 v=false)(hf:jy n v):¬n=0:=fun e=>by
 unfold jy at hf;rw[jb e]at hf;simp only[pC,Bool.not_eq_eq_eq_not,Bool.not_false,beq_iff_eq]at h;exact hf h
end
section
variable {q:QP}
theorem IA {x:Nat×Nat}(h:q.aZ x 105=true):q.cF x.1=0:=by
 unfold QP.aZ QP.kind at h;split at h
 ·cases h
 ·rename_i t ht;have h0:t=0:=by simpa [ez]using h
  subst h0;split at ht
  ·split at ht<;>cases ht
  ·split at ht
   ·split at ht<;>cases ht
   ·simpa using ht
theorem AD {x:Nat×Nat}(h:q.aZ x 111=true)(hx:x.2<=3):q.cF x.1=3/\x.2=0:=by
 unfold QP.aZ QP.kind at h;split at h
 ·cases h
 ·rename_i t ht;have h0:t=3:=by simpa [ez]using h
  subst h0;split at ht
  ·split at ht<;>cases ht
  ·split at ht
   ·split at ht<;>cases ht
   ·exact⟨by simpa using ht,by omega⟩
theorem tf {x:Nat×Nat}(h:q.aZ x 112=true):¬q.cF x.1=0/\¬(x.2=0/\q.cF x.1=2)/\q.aT x=1:=by
 unfold QP.aZ QP.kind at h;split at h
 ·cases h
 ·rename_i t ht;have h0:t=1:=by simpa [ez]using h
  subst h0;split at ht
  ·rename_i cV;split at ht
   ·rename_i h2;exact⟨by omega,by omega,by unfold QP.aT;rw[jb (by omega)]⟩
   ·cases ht
  ·split at ht
   ·rename_i h3;split at ht
    ·rename_i h4;exact⟨by omega,by omega,by unfold QP.aT;rw[jb (by omega)]⟩
    ·cases ht
   ·have:q.cF x.1=1:=by simpa using ht
    exact⟨by omega,by omega,by unfold QP.aT;rw[ja (by omega)];exact this⟩
theorem CD {x:Nat×Nat}(h:q.aZ x 109=true):¬q.cF x.1=0:=by
 unfold QP.aZ QP.kind at h;split at h
 ·cases h
 ·rename_i t ht;have h0:¬t=0:=by simpa [ez]using h
  split at ht
  ·split at ht
   ·omega
   ·cases ht
  ·split at ht
   ·split at ht
    ·omega
    ·cases ht
   ·have:q.cF x.1=t:=by simpa using ht
    omega
theorem kf (x:Nat×Nat):ah x/2=x.1:=by unfold ah;split<;>omega
theorem iW {x:Nat×Nat}(h:x.1<12):ah x<24:=by unfold ah;split<;>omega
structure lC (q:QP)(l:ab):Prop where
 ok:iB q.locals.length q.blocks.length l
 has:fK false l.op=true
 fits:q.fits l=true
theorem kA {l:ab}(h:q.fits l=true){j:Nat}(hj:j<l.places.length):q.aZ (aw l j) ((ae l.op).getD j 0)=true:=by
 unfold QP.fits at h;rw[jH]at h;have key:∀(f:B) (ps:List (Nat×Nat)) (k j:Nat),q.cQ f ps k=true->j<ps.length->q.aZ (ps.getD j (0,0)) (f.getD (k+j) 0)=true:=by
  intro f ps;induction ps with
  |nil=>intro k j _ hj;simp at hj
  |cons x r ih=>
   intro k j h hj;rw[QP.cQ,jH]at h;cases j with
   |zero=>simpa using h.1
   |succ j=>
    have:=ih (k+1) j h.2 (by simpa using hj);rw[show k+1+j=k+(j+1) by omega]at this;simpa using this
 have:=key _ _ 0 j h.1 hj;rw[Nat.zero_add]at this;exact this
theorem EH {l:ab}(h:q.fits l=true)(cV:l.op=12):q.aT (aw l 0)=q.aT (aw l 1):=by
 unfold QP.fits at h;rw[jH,cV]at h;simpa [aw]using h.2
end
end RunB
end Go.Proofs.YtmlgajhhnojdjaaGreatDoor

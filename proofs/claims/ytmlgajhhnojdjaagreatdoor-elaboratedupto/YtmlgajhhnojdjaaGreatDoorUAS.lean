import Derived.Test.YtmlgajhhnojdjaaGreatDoorUAR
namespace Go.Proofs.YtmlgajhhnojdjaaGreatDoor
namespace FlwU
open Go Sq
def vI (c:Nat->Nat)(q:QP):Prop:=∀j,∀l∈q.blocks.getD j [],c l.num=j+1
theorem Ff (c:Nat->Nat):vI c QP.empty:=fun j l hl=>by simp[QP.empty]at hl
theorem Ed {c:Nat->Nat}{q:QP}(h:vI c q):vI c q.addBlock:=fun j l hl=>by
 by_cases hj:j<q.blocks.length
 ·have:q.addBlock.blocks.getD j []=q.blocks.getD j []:=by simp[QP.addBlock,List.getD_eq_getElem?_getD,List.getElem?_append,hj]
  rw[this]at hl;exact h j l hl
 ·have:q.addBlock.blocks.getD j []=[]:=by
   simp only[QP.addBlock,List.getD_eq_getElem?_getD,List.getElem?_append,if_neg hj];cases h2:j-q.blocks.length with
   |zero=>rfl
   |succ n=>rfl
  rw[this]at hl;cases hl
theorem Hf {c:Nat->Nat}{q:QP}(h:vI c q){l:ab}{n:Nat}(hn:q.blocks.length=n+1)(hc:c l.num=n+1):vI c (q.addLine l)/\(q.addLine l).blocks.length=n+1:=by
 have dB:q.blocks≠[]:=by intro e;rw[e]at hn;simp at hn
 have hD:q.blocks.dropLast.length=n:=by simp[hn]
 have hg:q.blocks.getLastD []=q.blocks.getD n []:=by
  rw[List.getLastD_eq_getLast?,List.getLast?_eq_getElem?,hn,jA];rfl
 refine⟨fun j x hx=> ?_,by simp[QP.addLine,hD]⟩;by_cases hj:j<n
 ·have:(q.addLine l).blocks.getD j []=q.blocks.getD j []:=by
   simp only[QP.addLine,List.getD_eq_getElem?_getD];rw[jg (by omega),List.getElem?_dropLast,jb (by omega)]
  rw[this]at hx;exact h j x hx
 ·by_cases e:j=n
  ·subst e;have:(q.addLine l).blocks.getD j []=q.blocks.getD j []++[l]:=by
    simp only[QP.addLine,List.getD_eq_getElem?_getD];rw[jf (by omega),hD,Nat.sub_self];simp only[List.getElem?_cons_zero,Option.getD_some];rw[hg,jA]
   rw[this]at hx;rcases List.mem_append.mp hx with hx|hx
   ·exact h j x hx
   ·rw[jI.mp hx];exact hc
  ·have:(q.addLine l).blocks.getD j []=[]:=by
    rw[jA,jG (by simp[QP.addLine,hD];omega)];rfl
   rw[this]at hx;cases hx
theorem yn (c:Nat->Nat)(nb:Nat):∀(S:List (Nat×List B)) (i:Nat) (q0 q:QP),aR nb S i q0=(q,none)->
  (∀k x,S[k]?=some x->c (i+k+1)=c (i+k)+(if x.1=1 then 1 else 0))->(∀k x,S[k]?=some x->¬x.1=0->¬x.1=1->1<=c (i+k))->q0.blocks.length=c i->vI c q0->vI c q
 |[],i,q0,q,h,_,_,_,hI=>by simp only[aR,Prod.mk.injEq,and_true]at h;rw[<-h];exact hI
 |x::S,i,q0,q,h,hc,hp,hl,hI=>by
  have h0:=hc 0 x rfl;have pb:∀k y,S[k]?=some y->c (i+1+k+1)=c (i+1+k)+(if y.1=1 then 1 else 0):=fun k y hy=>by
   have:=hc (k+1) y (by simpa using hy);rw[show i+1+k=i+(k+1) by omega];exact this
  have vZ:∀k y,S[k]?=some y->¬y.1=0->¬y.1=1->1<=c (i+1+k):=fun k y hy=>by
   have:=hp (k+1) y (by simpa using hy);rw[show i+1+k=i+(k+1) by omega];exact this
  rw[aR]at h;simp only[Nat.add_zero]at h0;by_cases e0:x.1=0
  ·rw[jb e0]at h;rw[ja (by omega)]at h0;split at h
   ·simp at h
   ·exact yn c nb S (i+1) _ q h pb vZ (by simpa [QP.addLocal]using hl.trans (by omega)) hI
  ·rw[ja e0]at h;by_cases e1:x.1=1
   ·rw[jb e1]at h;rw[jb e1]at h0;exact yn c nb S (i+1) _ q h pb vZ (by simp[QP.addBlock];omega) (Ed hI)
   ·rw[ja e1]at h;rw[ja e1]at h0;have h1:=hp 0 x rfl e0 e1;simp only[Nat.add_zero]at h1;split at h
    ·simp at h
    ·rename_i l _;obtain⟨a1,a2⟩:=Hf (l:={l with num:=i}) hI (n:=c i-1) (by omega) (by show c i=_;omega);exact yn c nb S (i+1) _ q h pb vZ (by rw[a2];omega) a1
end FlwU
namespace FlwV
open Go Sq FlwU PrjS
theorem FL (nb:Nat):∀(S:List (Nat×List B)) (i:Nat) (q0 q:QP) (c:Nat->Nat),aR nb S i q0=(q,none)->
  (∀k x,S[k]?=some x->c (i+k+1)=c (i+k)+(if x.1=1 then 1 else 0))->(∀k x,S[k]?=some x->¬x.1=0->¬x.1=1->1<=c (i+k))->q0.blocks.length=c i->q.blocks.length=c (i+S.length)
 |[],i,q0,q,c,h,_,_,hl=>by simp only[aR,Prod.mk.injEq,and_true]at h;rw[<-h];exact hl
 |x::S,i,q0,q,c,h,hc,hp,hl=>by
  have h0:=hc 0 x rfl;have pb:∀k y,S[k]?=some y->c (i+1+k+1)=c (i+1+k)+(if y.1=1 then 1 else 0):=fun k y hy=>by
   have:=hc (k+1) y (by simpa using hy);rw[show i+1+k=i+(k+1) by omega];exact this
  have vZ:∀k y,S[k]?=some y->¬y.1=0->¬y.1=1->1<=c (i+1+k):=fun k y hy=>by
   have:=hp (k+1) y (by simpa using hy);rw[show i+1+k=i+(k+1) by omega];exact this
  have key:∀q1:QP,aR nb S (i+1) q1=(q,none)->q1.blocks.length=c (i+1)->q.blocks.length=c (i+(x::S).length):=fun q1 h1 h2=>by
   have:=FL nb S (i+1) q1 q c h1 pb vZ h2;rw[this,jY];congr 1;omega
  rw[aR]at h;simp only[Nat.add_zero]at h0;by_cases e0:x.1=0
  ·rw[jb e0]at h;rw[ja (by omega)]at h0;split at h
   ·simp at h
   ·exact key _ h (by simpa [QP.addLocal]using hl.trans (by omega))
  ·rw[ja e0]at h;by_cases e1:x.1=1
   ·rw[jb e1]at h;rw[jb e1]at h0;exact key _ h (by simp[QP.addBlock];omega)
   ·rw[ja e1]at h;rw[ja e1]at h0;have h1:=hp 0 x rfl e0 e1;simp only[Nat.add_zero]at h1;split at h
    ·simp at h
    ·rename_i l _;exact key _ h (by simp[QP.addLine];omega)
structure AN (text:B)(raw:Bool)(p:RP)(q:QP):Prop where
 ref:(bY text raw).1=some p
 ok:re text raw p
 lr:LR p q p.lines.length
 Pm:vI p.yf q
 Kt:AE q.blocks.length q
 len:q.blocks.length=p.blocks.length
theorem M9 {text:B}{raw:Bool}{q:QP}(h:(az text raw).1=some q):∃p,AN text raw p q:=by
 obtain⟨p,hp,R⟩:=(mO text raw).2 q h;have gv:re text raw p:=by
  have e:bY text raw=(some p,(bY text raw).2.1,(bY text raw).2.2):=by rw[<-hp]
  exact(oJ e).1
 have H:=gv.pre;by_cases hlong:(split 10 text).length>(if raw then 4000 else 120)
 ·rw[az,jb hlong]at h;cases h
 ·rw[az,ja hlong]at h;split at h
  ·cases h
  ·rename_i xX;split at h
   ·cases h
   ·split at h
    ·cases h
    ·rename_i mu;split at h
     ·cases h
     ·simp only[Option.some.injEq]at h;obtain⟨-,hn⟩:=rV raw (br text) (Sq.start raw) ⟨0,0,0⟩ rfl (lR.start raw) (by simp) (fun ws hw=>by
       simp only[br,List.mem_map]at hw;obtain⟨a,-,rfl⟩:=hw;exact iy _ _)
      have jy:(Sq.start raw).lines.length=0:=rfl;rw[jy]at hn;obtain⟨-,-,-,-,IB⟩:=hn xX;have hS:(ay raw (br text) ⟨0,0,0⟩ 0).1=(List.range p.lines.length).map p.eQ:=by
       rw[IB,<-gv.lines];apply List.ext_getElem
       ·simp
       ·intro i h1 h2;simp only[List.length_map]at h1;rw[List.getElem_map,List.getElem_map,List.getElem_range,RP.eQ];have:p.line i=p.lines[i]:=by rw[RP.line,jA,jB h1];rfl
        rw[this]
      rw[hS]at mu h;have OW:aR (countB ((List.range p.lines.length).map p.eQ)) ((List.range p.lines.length).map p.eQ) 0 QP.empty=(q,none):=Prod.ext h mu;have mX:∀k x,((List.range p.lines.length).map p.eQ)[k]?=some x->k<p.lines.length/\x=p.eQ k:=fun k x hx=>by
       rw[jJ]at hx;by_cases hk:k<p.lines.length
       ·rw[List.getElem?_range hk]at hx;simp only[Option.map_some,Option.some.injEq]at hx;exact⟨hk,hx.symm⟩
       ·rw[jG (by simp;omega)]at hx;cases hx
      have ak:∀k,k<p.lines.length->(p.eQ k).1<23/\((p.eQ k).1=1↔bV (p.line k)=true)/\((p.eQ k).1=0↔isLet (p.line k)=true):=fun k hk=>by
       obtain⟨op,ho,hl,-⟩:=sN H hk;have e:(p.eQ k).1=op:=by rw[RP.eQ,ho];rfl
       rw[e];refine⟨hl,?_,?_⟩
       ·rw[bV,beq_iff_eq];exact(mj ho).symm
       ·rw[isLet,beq_iff_eq];exact(zB ho).symm
      have hc:∀k x,((List.range p.lines.length).map p.eQ)[k]?=some x->p.yf (0+k+1)=p.yf (0+k)+(if x.1=1 then 1 else 0):=fun k x hx=>by
       obtain⟨hk,rfl⟩:=mX k x hx;rw[Nat.zero_add,p.Eu];congr 1;by_cases hb:bV (p.line k)=true
       ·rw[jb hb,jb ((ak k hk).2.1.mpr hb)]
       ·rw[ja hb,ja (fun e=>hb ((ak k hk).2.1.mp e))]
      have ee:∀k x,((List.range p.lines.length).map p.eQ)[k]?=some x->¬x.1=0->¬x.1=1->1<=p.yf (0+k):=fun k x hx h0 h1=>by
       obtain⟨hk,rfl⟩:=mX k x hx;rw[Nat.zero_add];have hL:isLet (p.line k)=false:=by
        cases hL:isLet (p.line k)
        ·rfl
        ·exact absurd ((ak k hk).2.2.mpr hL) h0
       have hB:bV (p.line k)=false:=by
        cases hB:bV (p.line k)
        ·rfl
        ·exact absurd ((ak k hk).2.1.mpr hB) h1
       exact(gv.En ⟨hk,hL,hB⟩).2
      have hcz:QP.empty.blocks.length=p.yf 0:=rfl;have hlen:q.blocks.length=p.blocks.length:=by
       rw[R.blocks];congr 1;rw[List.filter_eq_self];intro b hb;rw[H.blocks]at hb;have:=(gj hb).1;simp[this]
      have hqlen:=FL _ _ 0 _ _ p.yf OW hc ee hcz;have Iq:countB ((List.range p.lines.length).map p.eQ)=p.blocks.length:=by
       rw[countB,H.blocks,RP.dC,List.filter_map,jc];congr 1;apply List.filter_congr
       intro j hj;have xW:j<p.lines.length:=by simpa using hj
       rw[jX];simp only[Function.comp,beq_iff_eq];exact(ak j xW).2.1
      refine⟨p,hp,gv,R,yn p.yf _ _ 0 _ _ OW hc ee hcz (Ff _),?_,hlen⟩;have:=mF _ _ 0 _ _ OW (fun x hx=>by
       obtain⟨k,hk,rfl⟩:=List.mem_map.mp hx;exact(ak k (by simpa using hk)).1) ⟨fun x hx=>by simp[QP.empty]at hx,fun b hb=>by simp[QP.empty]at hb⟩
      rw[Iq,<-hlen]at this;exact this
section
variable {text:B} {raw:Bool} {p:RP} {q:QP}
theorem AN.locals (h:AN text raw p q):q.locals=p.iU:=by
 rw[h.lr.locals,RP.iU,List.filter_eq_self.mpr];intro t ht;rw[h.ok.pre.lets]at ht;have:=(gj ht).1;simp[this]
theorem AN.k8 (h:AN text raw p q):q.locals.length<=12:=by
 rw[h.locals,RP.iU,jc];exact h.ok.pre.k8
end
end FlwV
namespace FlwW
theorem WZ:True:=trivial
end FlwW
namespace FlwX
theorem W7:True:=trivial
end FlwX
namespace FlwY
open Go Sq Aux PrjS FlwA FlwB FlwC FlwD FlwE FlwF FlwG FlwH FlwI FlwJ FlwK FlwM FlwO FlwP FlwQ FlwS FlwT FlwU FlwV FlwW FlwX
def Full (s:List Nat):Prop:=∀k,k<24->¬s.getD k 0=0
theorem ET {s:List Nat}(h:Full s)(i:Nat){v:Nat}(hv:¬v=0):Full (s.set i v):=fun k hk=>by
 rw[dJ];split
 ·exact hv
 ·exact h k hk
theorem pG {v:Nat}(hv:¬v=0):∀(ps:List (Nat×Nat)) {s:List Nat},Full s->Full (gu v ps s)
 |[],_,h=>h
 |x::ps,_,h=>pG hv ps (ET h (ae x) hv)
theorem qq:∀(ps:List (Nat×Nat)) {s:List Nat},Full s->Full (dQ ps s)
 |[],_,h=>h
 |x::ps,s,h=>qq ps (s:=s.set (ae x) (if x.2=3 then 8 else 1)) (ET h (ae x) (by split<;>decide))
theorem Ib (q:QP)(l:ab){s:List Nat}(h:Full s):Full (aL q l s):=by
 unfold aL;split
 ·exact qq _ h
 ·split
  ·exact qq _ h
  ·exact h
def Q6 (l:ab):Prop:=∀x∈l.places,x.1<12
theorem tS (q:QP){l:ab}(hl:Q6 l){s:List Nat}(h:Full s):Full (aq q l s):=by
 have h1:=Ib q l h;unfold aq;split
 ·exact pG (by decide) _ h1
 ·split
  ·refine pG ?_ _ h1;unfold cJ;split
   ·apply h
    have:(l.places.getD 1 (0,0)).1<12:=by
     by_cases hp:1<l.places.length
     ·exact hl _ (c7 hp)
     ·rw[jA,jG (by omega)];decide
    unfold ae;split<;>omega
   ·decide
  ·split
   ·exact pG (by decide) _ h1
   ·split
    ·exact qq _ h1
    ·exact h1
theorem mq (l:ab)(i:Nat){s:List Nat}(h:Full s):Full (dm l i s):=by
 unfold dm;split
 ·exact pG (by split<;>decide) _ h
 ·exact h
theorem EU (l:ab):∀(ns:List Nat) (i:Nat) {s:List Nat},Full s->Full (SN l ns i s)
 |[],_,_,h=>h
 |_::ns,i,_,h=>EU l ns (i+1) (mq l i h)
theorem y6 (l:ab):∀(ns:List Nat) (i:Nat) {s:List Nat},Full s->∀x∈mJ l ns i s,Full x.2
 |[],_,_,_,x,hx=>by cases hx
 |n::ns,i,s,h,x,hx=>by
  rcases jP.mp hx with rfl|hx
  ·exact mq l i h
  ·exact y6 l ns (i+1) (mq l i h) x hx
theorem y5 (q:QP):∀(ls:List ab) {s:List Nat},(∀l∈ls,Q6 l)->Full s->∀x∈fT q ls s,Full x.2
 |[],_,_,_,x,hx=>by cases hx
 |l::ls,s,hl,h,x,hx=>by
  have hp:=tS q (hl l (jM ..)) h;rcases List.mem_append.mp hx with hx|hx
  ·exact y6 l l.next 0 hp x hx
  ·exact y5 q ls (fun m hm=>hl m (jN _ hm)) (EU l _ _ hp) x hx
def NY (N:Nat)(E:List (List Nat)):Prop:=∀b,b<N->E.getD b []=au\/Full (E.getD b [])
theorem LF {s t:List Nat}(hs:ey s)(ht:Full t):Full (fk s t):=fun k hk=>by
 rw[iT hs.len,jb hk];intro e;exact ht k hk (Nat.or_eq_zero_iff.mp e).2
theorem rq (N:Nat):∀(M:List (Nat×List Nat)) (E:List (List Nat)) (O:Nat->Bool),AP E->E.length=N->(∀x∈M,x.1<N/\ey x.2)->(∀x∈M,Full x.2)->NY N E->NY N (leads M (E,O)).1
 |[],_,_,_,_,_,_,h=>h
 |x::M,E,O,hE,hl,hM,hF,h=>by
  obtain⟨j6,Ha⟩:=hM x (jM ..);have Pl:x.1<E.length:=by omega
  have e:leads (x::M) (E,O)=leads M (dR E x.1 x.2,fR E O x.1 x.2):=rfl;rw[e];refine rq N M _ _ (zx hE Pl Ha) (by rw[vg];exact hl) (fun y hy=>hM y (jN _ hy)) (fun y hy=>hF y (jN _ hy)) fun b hb=> ?_
  rw[mD E x.1 x.2 Pl];split
  ·exact .inr (LF (hE.at Pl) (hF x (jM ..)))
  ·exact h b hb
theorem oq:Full aT:=fun k hk=>by
 unfold aT;rw[jA,jO,jb hk];decide
theorem NB {k:Nat}:au.getD k 0=0:=by
 unfold au;rw[jA,jO];split<;>rfl
theorem yg {s:List Nat}(h:Full s):¬s=au:=fun e=>h 0 (by decide) (by rw[e];exact NB)
structure D7 (q:QP)(E:List (List Nat))(O:Nat->Bool):Prop where
 inv:Inv q E O
 full:NY q.blocks.length E
theorem zm (q:QP)(h0:0<q.blocks.length):D7 q (dR (List.replicate q.blocks.length au) 0 aT) (fR (List.replicate q.blocks.length au) (fun _=>false) 0 aT):=by
 refine⟨Mf q h0,?_⟩;have qU:AP (List.replicate q.blocks.length au):=fun s hs=>by rw[List.eq_of_mem_replicate hs];exact⟨by decide,qI⟩
 exact rq q.blocks.length [(0,aT)] _ (fun _=>false) qU (by simp) (fun x hx=>by rw[jI.mp hx];exact⟨h0,oM⟩) (fun x hx=>by rw[jI.mp hx];exact oq)
  fun b hb=> .inl (by simp[List.getD_eq_getElem?_getD,hb])
theorem Cd (q:QP)(hq:AE q.blocks.length q)(bU:q.locals.length<=12)(E:List (List Nat))(O:Nat->Bool)(b:Nat)(hb:b<q.blocks.length)(hO:O b=true)(h:D7 q E O):
  D7 q (eW q E (cI O b false) b).2.1 (eW q E (cI O b false) b).2.2:=by
 have lg:=fun b (hb:b<q.blocks.length)=>Ej hq hb
 refine⟨Pr q lg E O b hb hO h.inv,?_⟩;have hs:=h.inv.ok.at (i:=b) (by rw[h.inv.len];exact hb);have e:(eW q E (cI O b false) b).2=leads (fT q (q.blocks.getD b []) (E.getD b [])) (E,cI O b false):=rv q _ _;have hf:Full (E.getD b []):=by
  rcases h.full b hb with h1|h1
  ·exact absurd h1 (h.inv.live b hb hO)
  ·exact h1
 have ee:∀l∈q.blocks.getD b [],Q6 l:=fun l hl x hx=>by
  have hm:q.blocks.getD b []∈q.blocks:=by rw[jA,jB hb];exact jL hb
  have:=((hq.lines _ hm l hl).places x hx).1;omega
 have:=rq q.blocks.length (fT q (q.blocks.getD b []) (E.getD b [])) E (cI O b false) h.inv.ok h.inv.len (sW q q.blocks.length _ (lg b hb) hs) (y5 q _ ee hf) h.full;rw[<-e]at this;exact this
section
variable {text:B} {p:RP} {q:QP}
structure oZ (text:B)(p:RP)(q:QP)(E:List (List Nat)):Prop where
 both:AN text false p q
 inv:D7 q E (fun _=>false)
 pos:0<q.blocks.length
theorem oZ.ok {E:List (List Nat)}(h:oZ text p q E){b:Nat}(hb:b<q.blocks.length):ey (E.getD b []):=h.inv.inv.ok.at (by rw[h.inv.inv.len];exact hb)
end
end FlwY
namespace RunB
open Go Sq Aux Go.Proofs.YtmlgajhhnojdjaaGreatDoor.Own RunA PrjS FlwA FlwB FlwC FlwD FlwE FlwF FlwG FlwH FlwI FlwJ FlwK FlwM FlwO FlwP FlwQ FlwS FlwY
def mn (n v:Nat):Prop:=if n=0 then¬v&&&13=0 else¬v&&&2=0
theorem LA {n u v:Nat}(h:mn n u)(hl:mC u v):mn n v:=by
 have key:∀m,¬u&&&m=0->¬v&&&m=0:=fun m hu hv=>hu (by
  rw[<-hl,Nat.and_or_distrib_right]at hv;apply Nat.eq_of_testBit_eq
  intro i;have:=congrArg (fun x=>x.testBit i) hv;simp only[Nat.testBit_or,Nat.testBit_and,Nat.zero_testBit]at this⊢
  revert this
  cases u.testBit i<;>cases m.testBit i<;>cases v.testBit i<;>simp)
 unfold mn at*;split at h
 ·rename_i e;rw[jb e];exact key _ h
 ·rename_i e;rw[ja e];exact key _ h
structure j7 (q:QP)(X:List Nat)(b s:List Nat):Prop where
 lb:b.length=24
 ls:s.length=24
 at_:∀k,k<24->k∉X->¬q.bN (k/2)=0->mn (b.getD k 0) (s.getD k 0)
def gG (q:QP)(s:List Nat)(o:Own.Own):Prop:=j7 q [] o.boxes s
section
variable {q:QP} {X b s:List Nat}
theorem j7.put (h:j7 q X b s)(i:Nat){n v:Nat}(hf:mn n v\/q.bN (i/2)=0){Y:List Nat}(hY:∀k,k∈X->k=i\/k∈Y):j7 q Y (b.set i n) (s.set i v):=by
 refine⟨by simpa using h.lb,by simpa using h.ls,fun k hk hn ht=> ?_⟩;rw[dJ,dJ,h.lb,h.ls];by_cases e:i=k
 ·subst e;rw[jb ⟨rfl,hk⟩,jb ⟨rfl,hk⟩];exact hf.resolve_right ht
 ·rw[ja (fun x=>e x.1),ja (fun x=>e x.1)];refine h.at_ k hk (fun hx=> ?_) ht;rcases hY k hx with h1|h1
  ·exact e h1.symm
  ·exact hn h1
theorem j7.clear (h:j7 q X b s)(i:Nat){Y:List Nat}(hY:∀k,k∈X\/k=i->k∈Y):j7 q Y (b.set i 0) s:=by
 refine⟨by simpa using h.lb,h.ls,fun k hk hn ht=> ?_⟩;rw[dJ,ja (fun x=>hn (hY k (.inr x.1.symm)))];exact h.at_ k hk (fun hx=>hn (hY k (.inl hx))) ht
theorem j7.free (h:j7 q X b s)(i:Nat)(v:Nat)(ht:q.bN (i/2)=0):j7 q X b (s.set i v):=by
 refine⟨h.lb,by simpa using h.ls,fun k hk hn Ty=> ?_⟩;rw[dJ,ja (fun x=>Ty (by rw[<-x.1];exact ht))];exact h.at_ k hk hn Ty
theorem j7.mono (h:j7 q X b s){t:List Nat}(ht:t.length=24)(hl:jv s t):j7 q X b t:=⟨h.lb,ht,fun k hk hn D5=>LA (h.at_ k hk hn D5) (hl k hk)⟩
theorem At:∀(ps:List (Nat×Nat)) {o:Own.Own} {s:List Nat},gG q s o->gG q (dQ ps s) (Own.take ps o).2
 |[],_,_,h=>h
 |p::ps,o,s,h=>by
  rw[Own.take];refine At ps (o:=o.clear p) (s:=s.set (ae p) (if p.2=3 then 8 else 1)) ?_;exact j7.put h (ae p) (.inl (by unfold mn;rw[jb rfl];split<;>decide)) (fun k hk=>by cases hk)
theorem As:∀(ps:List (Nat×Nat)) {o:Own.Own} {X:List Nat} {s:List Nat},j7 q X o.boxes s->j7 q (X++ps.map ae) (Own.take ps o).2.boxes s
 |[],_,X,_,h=>by simpa [Own.take]using h
 |p::ps,o,X,s,h=>by
  rw[Own.take];have:=As ps (o:=o.clear p) (X:=X++[ae p]) (s:=s) (h.clear (ae p) (fun k hk=>by simpa using hk));simpa using this
theorem Gi {m:Nat}:∀(ps:List (Nat×Nat)) (ns:List Nat) {o:Own.Own} {s:List Nat},ps.length=ns.length->(∀n∈ns,mn n m)->j7 q (ps.map ae) o.boxes s->gG q (gu m ps s) (Own.mN ps ns o)
 |[],_,_,_,_,_,h=>h
 |p::ps,[],_,_,hl,_,_=>by cases hl
 |p::ps,n::ns,o,s,hl,hn,h=>by
  rw[Own.mN];refine Gi ps ns (o:=o.z8 p n) (s:=s.set (ae p) m) (by simpa using hl) (fun k hk=>hn k (jN _ hk)) ?_;exact j7.put h (ae p) (.inl (hn n (jM ..))) (fun k hk=>by simpa using hk)
theorem FP {m:Nat}{o:Own.Own}(h:gG q s o)(ts frm:List (Nat×Nat))(hl:ts.length=frm.length)(hv:∀n∈(Own.take frm o).1,mn n m):gG q (gu m ts (dQ frm s)) (o.move ts frm):=by
 unfold Own.move;refine Gi ts _ (by rw[Go.Proofs.YtmlgajhhnojdjaaGreatDoor.Own.take_len];exact hl) hv ?_;rw[(cL ts _).2.2.2];have:=As ts (o:=(Own.take frm o).2) (X:=[]) (At frm h);simpa using this
theorem zu {n v:Nat}(h:dv 2 v=false)(hf:mn n v):¬n=0:=fun e=>by
 unfold mn at hf;rw[jb e]at hf;simp only[dv,Bool.not_eq_eq_eq_not,Bool.not_false,beq_iff_eq]at h;exact hf h
end
section
variable {q:QP}
theorem sI {x:Nat×Nat}(h:q.aB x 105=true):q.bN x.1=0:=by
 unfold QP.aB QP.kind at h;split at h
 ·cases h
 ·rename_i t ht;have h0:t=0:=by simpa [gi]using h
  subst h0;split at ht
  ·split at ht<;>cases ht
  ·split at ht
   ·split at ht<;>cases ht
   ·simpa using ht
theorem jn {x:Nat×Nat}(h:q.aB x 111=true)(hx:x.2<=3):q.bN x.1=3/\x.2=0:=by
 unfold QP.aB QP.kind at h;split at h
 ·cases h
 ·rename_i t ht;have h0:t=3:=by simpa [gi]using h
  subst h0;split at ht
  ·split at ht<;>cases ht
  ·split at ht
   ·split at ht<;>cases ht
   ·exact⟨by simpa using ht,by omega⟩
theorem ei {x:Nat×Nat}(h:q.aB x 112=true):¬q.bN x.1=0/\¬(x.2=0/\q.bN x.1=2)/\q.aJ x=1:=by
 unfold QP.aB QP.kind at h;split at h
 ·cases h
 ·rename_i t ht;have h0:t=1:=by simpa [gi]using h
  subst h0;split at ht
  ·rename_i bR;split at ht
   ·rename_i h2;exact⟨by omega,by omega,by unfold QP.aJ;rw[jb (by omega)]⟩
   ·cases ht
  ·split at ht
   ·rename_i h3;split at ht
    ·rename_i h4;exact⟨by omega,by omega,by unfold QP.aJ;rw[jb (by omega)]⟩
    ·cases ht
   ·have:q.bN x.1=1:=by simpa using ht
    exact⟨by omega,by omega,by unfold QP.aJ;rw[ja (by omega)];exact this⟩
theorem fQ {x:Nat×Nat}(h:q.aB x 109=true):¬q.bN x.1=0:=by
 unfold QP.aB QP.kind at h;split at h
 ·cases h
 ·rename_i t ht;have h0:¬t=0:=by simpa [gi]using h
  split at ht
  ·split at ht
   ·omega
   ·cases ht
  ·split at ht
   ·split at ht
    ·omega
    ·cases ht
   ·have:q.bN x.1=t:=by simpa using ht
    omega
theorem bu (x:Nat×Nat):ae x/2=x.1:=by unfold ae;split<;>omega
theorem iB {x:Nat×Nat}(h:x.1<12):ae x<24:=by unfold ae;split<;>omega
structure eU (q:QP)(l:ab):Prop where
 ok:fY q.locals.length q.blocks.length l
 has:iq false l.op=true
 fits:q.fits l=true
theorem bj {l:ab}(h:q.fits l=true){j:Nat}(hj:j<l.places.length):q.aB (ag l j) ((ah l.op).getD j 0)=true:=by
 unfold QP.fits at h;rw[jH]at h;have key:∀(f:B) (ps:List (Nat×Nat)) (k j:Nat),q.dN f ps k=true->j<ps.length->q.aB (ps.getD j (0,0)) (f.getD (k+j) 0)=true:=by
  intro f ps;induction ps with
  |nil=>intro k j _ hj;simp at hj
  |cons x r ih=>
   intro k j h hj;rw[QP.dN,jH]at h;cases j with
   |zero=>simpa using h.1
   |succ j=>
    have:=ih (k+1) j h.2 (by simpa using hj);rw[show k+1+j=k+(j+1) by omega]at this;simpa using this
 have:=key _ _ 0 j h.1 hj;rw[Nat.zero_add]at this;exact this
theorem qo {l:ab}(h:q.fits l=true)(bR:l.op=12):q.aJ (ag l 0)=q.aJ (ag l 1):=by
 unfold QP.fits at h;rw[jH,bR]at h;simpa [ag]using h.2
end
end RunB
namespace RunB
open Go Sq Aux Go.Proofs.YtmlgajhhnojdjaaGreatDoor.Own RunA PrjS FlwA FlwB FlwC FlwD FlwE FlwF FlwG FlwH FlwI FlwJ FlwK FlwM FlwO FlwP FlwQ FlwS FlwY
section
variable {q:QP} {l:ab} {s:List Nat} {o:Own.Own}
theorem ba (hl:eU q l){j:Nat}(hj:j<l.places.length):(ag l j).1<q.locals.length/\(ag l j).2<=3:=
 hl.ok.places _ (by unfold ag;rw[jA,jB hj];exact jL _)
theorem iF (l:ab)(j:Nat):ab.at l j=ag l j:=rfl
theorem ql (bU:q.locals.length<=12)(h:gG q s o){p:Nat×Nat}(hp:p.1<q.locals.length)(ht:¬q.bN p.1=0)(hn:bI 2 [p] s=false):1<=o.box p:=by
 have hk:=j7.at_ h (ae p) (iB (by omega)) (by simp) (by rw[bu];exact ht);simp only[bI,List.any_cons,List.any_nil,Bool.or_false]at hn;have:=zu hn hk;show 1<=o.boxes.getD (ae p) 0
 omega
theorem bo (q:QP)(x:Nat×Nat):QP.ai q x=[x]/\¬(x.2=0/\q.bN x.1=2)\/QP.ai q x=[(x.1,1),(x.1,2)]/\x.2=0/\q.bN x.1=2:=by
 unfold QP.ai;by_cases h:x.2=0/\q.bN x.1=2
 ·exact .inr ⟨by rw[jb h],h⟩
 ·exact .inl ⟨by rw[ja h],h⟩
theorem p6 (hl:eU q l)(bR:l.op=12):(QP.ai q (ag l 0)).length=(QP.ai q (ag l 1)).length:=by
 have hk:=qo hl.fits bR;have hlen:l.places.length=2:=by rw[hl.ok.bt,bR];rfl
 have h0:=(ba hl (j:=0) (by omega)).2;have h1:=(ba hl (j:=1) (by omega)).2;unfold QP.aJ at hk;rcases bo q (ag l 0)with⟨e,h⟩|⟨e,h,h'⟩<;>rcases bo q (ag l 1)with⟨e2,h2⟩|⟨e2,h2,LL⟩<;>rw[e,e2]
 ·rfl
 ·exfalso;rw[ja (show¬((ag l 1).2=1\/(ag l 1).2=2\/(ag l 1).2=3) by omega)]at hk;by_cases hp:(ag l 0).2=1\/(ag l 0).2=2\/(ag l 0).2=3
  ·rw[jb hp]at hk;omega
  ·rw[ja hp]at hk;exact h ⟨by omega,by omega⟩
 ·exfalso;rw[ja (show¬((ag l 0).2=1\/(ag l 0).2=2\/(ag l 0).2=3) by omega)]at hk;by_cases hp:(ag l 1).2=1\/(ag l 1).2=2\/(ag l 1).2=3
  ·rw[jb hp]at hk;omega
  ·rw[ja hp]at hk;exact h2 ⟨by omega,by omega⟩
 ·rfl
theorem p8 (hl:eU q l)(AV:l.op=14):QP.ai q (ag l 0)=[ag l 0]/\QP.ai q (ag l 1)=[ag l 1]/\q.bN (ag l 0).1=3/\¬q.bN (ag l 1).1=0:=by
 have hlen:l.places.length=2:=by rw[hl.ok.bt,AV];rfl
 have k0:=bj hl.fits (j:=0) (by omega);have k1:=bj hl.fits (j:=1) (by omega);rw[AV]at k0 k1;have o0:=jn (x:=ag l 0) k0 (ba hl (j:=0) (by omega)).2;have o1:=ei (x:=ag l 1) k1;refine⟨?_,?_,o0.1,o1.1⟩
 ·rcases bo q (ag l 0)with⟨e,-⟩|⟨-,-,e⟩
  ·exact e
  ·omega
 ·rcases bo q (ag l 1)with⟨e,-⟩|⟨-,e1,e2⟩
  ·exact e
  ·exact absurd ⟨e1,e2⟩ o1.2.1
theorem QC (bU:q.locals.length<=12)(h:gG q s o){x:Nat×Nat}(hx:x.1<q.locals.length/\x.2<=3)(ht:¬q.bN x.1=0)(fy:fW q x s=false):∀n∈(Own.take (QP.ai q x) o).1,mn n (cJ q x s):=by
 have hf:=fun k hk ht=>j7.at_ h k hk (by simp) ht
 rcases bo q x with⟨e,hn⟩|⟨e,h0,h2⟩
 ·rw[e];have hk:=hf (ae x) (iB (by omega)) (by rw[bu];exact ht);intro n hm;simp only[Own.take,List.mem_singleton]at hm;subst hm;unfold cJ;by_cases h3:q.aJ x=3
  ·rw[jb h3];exact hk
  ·rw[ja h3];unfold fW at fy;rw[ja h3,e]at fy;have:=ql bU h hx.1 ht fy;unfold mn;rw[ja (by omega)];decide
 ·have h3:¬q.aJ x=3:=by unfold QP.aJ;rw[ja (by omega)];omega
  unfold fW at fy;rw[ja h3,e]at fy;unfold cJ;rw[ja h3,e];simp only[bI,List.any_cons,List.any_nil,Bool.or_false,Bool.or_eq_false_iff]at fy;have s1:ae (x.1,1)=2*x.1:=rfl;have s2:ae (x.1,2)=2*x.1+1:=rfl;have k1:=zu fy.1 (hf _ (iB (x:=(x.1,1)) (by show x.1<12;omega)) (by rw[bu];exact ht));have k2:=zu fy.2 (hf _ (iB (x:=(x.1,2)) (by show x.1<12;omega)) (by rw[bu];exact ht));intro n hm;simp only[Own.take,List.mem_cons,List.not_mem_nil,or_false]at hm;unfold mn;rcases hm with rfl|rfl
  ·rw[ja (show¬o.box (x.1,1)=0 from k1)];decide
  ·have:(o.clear (x.1,1)).box (x.1,2)=o.boxes.getD (ae (x.1,2)) 0:=by
    unfold Own.clear Own.box;rw[dJ,ja (by rw[s1,s2];omega)]
   rw[this,ja k2];decide
theorem oH (h:gG q s o){p:Nat×Nat}(ht:q.bN p.1=0){o':Own.Own}(hb:o'.boxes=o.boxes):gG q (s.set (ae p) 2) o':=by
 unfold gG;rw[hb];exact j7.free h _ _ (by rw[bu];exact ht)
theorem eP (hp:qW l.op=true)(AV:¬l.op=14):aq q l s=s.set (ae (ag l 0)) 2:=by
 have bR:¬l.op=12:=fun e=>by rw[e]at hp;cases hp
 rw[aq,jb hp,aL,ja bR,ja AV];rfl
theorem kV (hp:qW l.op=false)(bR:¬l.op=12)(C7:¬l.op=13)(lT:¬l.op=15):aq q l s=s:=by
 have AV:¬l.op=14:=fun e=>by rw[e]at hp;cases hp
 rw[aq,ja (by rw[hp];decide),ja bR,ja C7,ja lT,aL,ja bR,ja AV]
theorem iR (hl:eU q l)(ak:l.op=2\/l.op=3\/l.op=4\/l.op=5\/l.op=6\/l.op=7\/l.op=10):q.bN (ag l 0).1=0:=by
 have key:∀op:Fin 23,(op.val=2\/op.val=3\/op.val=4\/op.val=5\/op.val=6\/op.val=7\/op.val=10)->0<((ah op.val).filter dk).length/\(ah op.val).getD 0 0=105:=by decide
 obtain⟨k1,k2⟩:=key ⟨l.op,hl.ok.op⟩ ak;have:=bj hl.fits (j:=0) (by rw[hl.ok.bt];exact k1);have k3:(ah l.op).getD 0 0=105:=k2;rw[k3]at this;exact sI this
theorem PJ (hl:eU q l)(bU:q.locals.length<=12)(hf:aE q l s=false)(h:gG q s o)(A9:ik l.op):o.rO l=true/\gG q (aq q l s) (o.cz q l):=by
 have easy:¬l.op=10->¬l.op=11->o.rO l=true:=fun h1 h2=>by unfold Own.rO;rw[ja h1,ja h2]
 rcases A9 with e|e|e|e|e|e|e|e|e|e|e|e
 ·refine⟨easy (by omega) (by omega),?_⟩;rw[eP (by rw[e];rfl) (by omega),Own.cz,jb e];exact oH h (iR hl (by omega)) rfl
 ·refine⟨easy (by omega) (by omega),?_⟩;rw[eP (by rw[e];rfl) (by omega),Own.cz,ja (by omega),jb (by omega)];exact oH h (iR hl (by omega)) rfl
 ·refine⟨easy (by omega) (by omega),?_⟩;rw[eP (by rw[e];rfl) (by omega),Own.cz,ja (by omega),jb (by omega)];exact oH h (iR hl (by omega)) rfl
 ·refine⟨easy (by omega) (by omega),?_⟩;rw[eP (by rw[e];rfl) (by omega),Own.cz,ja (by omega),jb (by omega)];exact oH h (iR hl (by omega)) rfl
 ·refine⟨easy (by omega) (by omega),?_⟩;rw[eP (by rw[e];rfl) (by omega),Own.cz,ja (by omega),ja (by omega),jb (by omega)];exact oH h (iR hl (by omega)) rfl
 ·refine⟨easy (by omega) (by omega),?_⟩;rw[kV (by rw[e];rfl) (by omega) (by omega) (by omega),Own.cz,ja (by omega),ja (by omega),ja (by omega),jb (by omega)];exact h
 ·have hlen:l.places.length=2:=by rw[hl.ok.bt,e];rfl
  have k1:=bj hl.fits (j:=1) (by omega);rw[e]at k1;rw[aE,ja (by omega),ja (by omega),ja (by omega),jb (by omega),iF]at hf;refine⟨?_,?_⟩
  ·unfold Own.rO;rw[jb e];exact decide_eq_true (ql bU h (ba hl (j:=1) (by omega)).1 (ei (x:=ag l 1) k1).1 hf)
  ·rw[eP (by rw[e];rfl) (by omega),Own.cz,ja (by omega),ja (by omega),ja (by omega),ja (by omega),jb (by omega)];exact oH h (iR hl (by omega)) rfl
 ·have hlen:l.places.length=2:=by rw[hl.ok.bt,e];rfl
  have k0:=bj hl.fits (j:=0) (by omega);rw[e]at k0;rw[aE,ja (by omega),ja (by omega),ja (by omega),ja (by omega),jb (by omega),iF,iF]at hf;have NK:bI 2 [ag l 0] s=false:=by
   simp only[bI,List.any_cons,List.any_nil,Bool.or_false,Bool.or_eq_false_iff]at hf⊢;exact hf.1
  refine⟨?_,?_⟩
  ·unfold Own.rO;rw[ja (by omega),jb e];exact decide_eq_true (ql bU h (ba hl (j:=0) (by omega)).1 (ei (x:=ag l 0) k0).1 NK)
  ·rw[kV (by rw[e];rfl) (by omega) (by omega) (by omega),Own.cz,ja (by omega),ja (by omega),ja (by omega),ja (by omega),ja (by omega),jb (by omega)];exact h
 ·refine⟨easy (by omega) (by omega),?_⟩;have hlen:l.places.length=2:=by rw[hl.ok.bt,e];rfl
  have k1:=bj hl.fits (j:=1) (by omega);rw[e]at k1;rw[aE,ja (by omega),ja (by omega),ja (by omega),ja (by omega),ja (by omega),jb (by omega),iF,iF,Bool.or_eq_false_iff]at hf;rw[aq,ja (by rw[e];decide),jb e,aL,jb e,Own.cz,ja (by omega),ja (by omega),ja (by omega),ja (by omega),ja (by omega),ja (by omega),jb (by omega)];exact FP h _ _ (p6 hl e) (QC bU h (ba hl (j:=1) (by omega)) (fQ (x:=ag l 1) k1) hf.1)
 ·refine⟨easy (by omega) (by omega),?_⟩;have hlen:l.places.length=1:=by rw[hl.ok.bt,e];rfl
  have k0:=bj hl.fits (j:=0) (by omega);rw[e]at k0;have o0:=jn (x:=ag l 0) k0 (ba hl (j:=0) (by omega)).2;have hh:QP.ai q (ag l 0)=[ag l 0]:=by
   rcases bo q (ag l 0)with⟨e,-⟩|⟨-,-,e⟩
   ·exact e
   ·omega
  rw[aq,ja (by rw[e];decide),ja (by omega),jb e,aL,ja (by omega),ja (by omega),Own.cz,ja (by omega),ja (by omega),ja (by omega),ja (by omega),ja (by omega),ja (by omega),ja (by omega),jb (by omega),hh];unfold gG;rw[(cL _ _).2.2.2];exact j7.put h (ae (ag l 0)) (.inl (by unfold mn;rw[jb rfl];decide)) (fun k hk=>by cases hk)
 ·refine⟨easy (by omega) (by omega),?_⟩;have hlen:l.places.length=2:=by rw[hl.ok.bt,e];rfl
  obtain⟨h0,h1,h2,h3⟩:=p8 hl e;rw[aE,ja (by omega),ja (by omega),ja (by omega),jb (by omega),iF]at hf;rw[aq,jb (by rw[e];rfl),aL,ja (by omega),jb e,Own.cz,ja (by omega),ja (by omega),ja (by omega),ja (by omega),ja (by omega),ja (by omega),jb (by omega),h0,h1];refine FP h [ag l 0] [ag l 1] rfl (fun n hn=> ?_);simp only[Own.take,List.mem_singleton]at hn;subst hn;have:=ql bU h (ba hl (j:=1) (by omega)).1 h3 hf;unfold mn;rw[ja (by omega)];decide
 ·refine⟨easy (by omega) (by omega),?_⟩;rw[aq,ja (by rw[e];decide),ja (by omega),ja (by omega),jb e,aL,ja (by omega),ja (by omega),Own.cz,ja (by omega),ja (by omega),ja (by omega),ja (by omega),ja (by omega),ja (by omega),ja (by omega),jb (by omega)];unfold gG;rw[(cL _ _).2.2.2];exact At _ h
theorem Ob (hl:eU q l)(h:gG q s o)(ak:l.op=6):gG q (aq q l s) (o.calc l):=by
 rw[eP (by rw[ak];rfl) (by omega)];exact oH h (iR hl (by omega)) rfl
theorem Sp (h:gG q s o)(ak:l.op=9)(v:Int):gG q (aq q l s) ((o.drop [ag l 0]).new (ag l 0) v):=by
 rw[eP (by rw[ak];rfl) (by omega)];have e:((o.drop [ag l 0]).new (ag l 0) v).boxes=o.boxes.set (ae (ag l 0)) ((o.drop [ag l 0]).yd.made.length+1):=by
  show(o.drop [ag l 0]).boxes.set _ _=_
  rw[(cL _ _).2.2.2];show(o.boxes.set (ae (ag l 0)) 0).set _ _=_
  rw[List.set_set]
 unfold gG;rw[e];exact j7.put h _ (.inl (by unfold mn;rw[ja (by omega)];decide)) (fun k hk=>by cases hk)
theorem Qr (_hls:q.locals.length<=12)(h:gG q s o):gG q (dm l (if o.other l then 1 else 0) s) o:=by
 unfold dm;by_cases e:l.op=20
 ·rw[jb e];refine⟨h.lb,by simpa [gu]using h.ls,fun k hk hn ht=> ?_⟩;show mn _ ((s.set (ae (l.places.getD 0 (0,0))) _).getD k 0)
  rw[dJ,h.ls];by_cases ek:ae (l.places.getD 0 (0,0))=k
  ·rw[jb ⟨ek,hk⟩];have ho:o.other l= !(o.boxes.getD k 0==0):=by
    unfold Own.other;rw[ja (by omega),jb e];unfold Own.box;rw[ek]
   rw[ho];by_cases hz:o.boxes.getD k 0=0
   ·rw[hz];unfold mn;decide
   ·have hb:(o.boxes.getD k 0==0)=false:=by rw[jZ];exact hz
    rw[hb];unfold mn;rw[ja hz];decide
  ·rw[ja (fun x=>ek x.1)];exact h.at_ k hk hn ht
 ·rw[ja e];exact h
theorem CB (q:QP)(aO:List Int):gG q aT (Own.start aO):=
 ⟨by simp[Own.start],by decide,fun k hk _ _=>by
  have h1:(Own.start aO).boxes.getD k 0=0:=by show(List.replicate 24 0).getD k 0=0;rw[jA,jO,jb hk];rfl
  have h2:aT.getD k 0=1:=by show(List.replicate 24 1).getD k 0=1;rw[jA,jO,jb hk];rfl
  rw[h1,h2];unfold mn;decide⟩
end
end RunB
end Go.Proofs.YtmlgajhhnojdjaaGreatDoor

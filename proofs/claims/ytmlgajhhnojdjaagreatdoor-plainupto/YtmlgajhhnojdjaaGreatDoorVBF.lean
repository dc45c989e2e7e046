import Derived.Test.YtmlgajhhnojdjaaGreatDoorVBC
namespace Go.Proofs.YtmlgajhhnojdjaaGreatDoor
namespace El
open Go Go.RowKit Sq Aux PrjF PrjG PrjJ PrjK PrjL PrjM PrjS FlwA FlwE
def eB (a:Nat)(ve:Value)(un:List Bool)(vb:Value)(k:Nat):List Value:=.pointer (some ⟨a,0,none⟩)::ve::(un.map Value.bool++[vb,.int .i64 (k:Nat)])
structure Fr (O:Nat->Prop)(w:World)(O':Nat->Prop)(w':World):Prop where
 os:w'.os=w.os
 tape:w'.tape=w.tape
 output:w'.output=w.output
 size:w.heap.size<=w'.heap.size
 block:∀k,k<w.heap.size->¬O k->w'.heap[k]?=w.heap[k]?
 new:∀k,O' k->O k\/w.heap.size<=k
structure dM (z:Nat)(w0:World)(x a:Nat)(ve:Value)(w:World)(un:List Bool)(m:Mk)(O:Nat->Prop)(vb:Value)(us:List Value)(vss:List (List (Value×Value))):Prop where
 Em:z<=w0.heap.size
 aD:w.heap[x]?=some (.cells (eB a ve un vb m.at_).toArray 142 (0,0))
 ul:un.length=24
 bz:Below w0.heap.size w0 w
 blocks:w.ownsRow z 106 1 vb m.blocks.length us
 vl:vss.length=m.blocks.length
 each:∀j,j<m.blocks.length->cH z w (us.getD j undef) (m.blocks.getD j []) (vss.getD j [])
 apart:∀i j,i<j->j<m.blocks.length->(us.getD i undef).ownBlock=none\/(us.getD i undef).ownBlock≠(us.getD j undef).ownBlock
 ox:O x
 ob:∀k,vb.ownBlock=some k->O k
 ou:∀j,j<m.blocks.length->∀k,(us.getD j undef).ownBlock=some k->O k
 hi:∀k,O k->w0.heap.size<=k/\k<w.heap.size
def bG (z:Nat)(w0:World)(x a:Nat)(ve:Value)(w:World)(un:List Bool)(m:Mk)(O:Nat->Prop):Prop:=∃vb us vss,dM z w0 x a ve w un m O vb us vss
section
variable {z x a:Nat} {w0 w w1 w2 w3 w':World} {ve vb v':Value} {un:List Bool} {m:Mk} {O O1 O2:Nat->Prop} {us:List Value} {vss:List (List (Value×Value))}
theorem Fr.refl (O:Nat->Prop)(w:World):Fr O w O w:=⟨rfl,rfl,rfl,jC _,fun _ _ _=>rfl,fun _ h=> .inl h⟩
theorem Fr.trans (h:Fr O w O1 w1)(h':Fr O1 w1 O2 w2):Fr O w O2 w2:=by
 refine⟨h'.os.trans h.os,h'.tape.trans h.tape,h'.output.trans h.output,jS h.size h'.size,fun k hk hn=> ?_,fun k hk=> ?_⟩
 ·rw[h'.block k (jK hk h.size) (fun e=> ?_)]
  ·exact h.block k hk hn
  ·rcases h.new k e with e|e
   ·exact hn e
   ·omega
 ·rcases h'.new k hk with e|e
  ·exact h.new k e
  ·exact .inr (jS h.size e)
theorem Fr.of (h:Below w.heap.size w w1):Fr O w O w1:=⟨h.os,h.tape,h.output,h.size,fun k hk _=>h.block k hk,fun _ h=> .inl h⟩
theorem Fr.below (h:Fr O w O1 w1){b:Nat}(hb:b<=w.heap.size)(hO:∀k,O k->b<=k):Below b w w1:=
 ⟨h.os,h.tape,h.output,h.size,fun k hk=>h.block k (by omega) (fun e=>by have:=hO k e;omega)⟩
theorem dM.lt (h:dM z w0 x a ve w un m O vb us vss):x<w.heap.size:=lt_of_heap h.aD
theorem dM.L9 (h:dM z w0 x a ve w un m O vb us vss):us.length=m.blocks.length:=by have:=h.blocks.1;omega
theorem dM.below (h:dM z w0 x a ve w un m O vb us vss)(hb:Below w.heap.size w w1):dM z w0 x a ve w1 un m O vb us vss:=
 ⟨h.Em,by rw[hb.block x h.lt];exact h.aD,h.ul,h.bz.trans (hb.mono h.bz.size),al h.blocks hb,h.vl,fun j hj=>(h.each j hj).below hb,h.apart,h.ox,h.ob,h.ou,fun k hk=>⟨(h.hi k hk).1,jK (h.hi k hk).2 hb.size⟩⟩
theorem bG.below (h:bG z w0 x a ve w un m O)(hb:Below w.heap.size w w1):bG z w0 x a ve w1 un m O:=by
 obtain⟨vb,us,vss,h⟩:=h;exact⟨vb,us,vss,h.below hb⟩
theorem MU (a:Nat)(ve:Value)(vb:Value)(k:Nat)(h:un.length=24):(eB a ve un vb k)[0]?=some (.pointer (some ⟨a,0,none⟩))/\(eB a ve un vb k)[1]?=some ve/\(∀j,j<24->(eB a ve un vb k)[2+j]?=some (.bool (un.getD j false)))/\(eB a ve un vb k)[26]?=some vb/\(eB a ve un vb k)[27]?=some (.int .i64 (k:Nat)):=by
 refine⟨rfl,rfl,fun j hj=> ?_,?_,?_⟩
 ·rw[Nat.add_comm];show(un.map Value.bool++[vb,.int .i64 (k:Nat)])[j]?=_
  rw[jg (by simp[h];exact hj),jJ,jB (by omega),jA,jB (by omega)];rfl
 ·show(un.map Value.bool++[vb,.int .i64 (k:Nat)])[24]?=_
  rw[jf (by simp[h])];simp[h]
 ·show(un.map Value.bool++[vb,.int .i64 (k:Nat)])[25]?=_
  rw[jf (by simp[h])];simp[h]
theorem dM.facts (h:dM z w0 x a ve w un m O vb us vss):w.cell? ⟨x,0,none⟩=some (.pointer (some ⟨a,0,none⟩))/\w.cell? ⟨x,1,none⟩=some ve/\w.cell? ⟨x,26,none⟩=some vb/\w.cell? ⟨x,27,none⟩=some (.int .i64 (m.at_:Nat))/\w.frozen? ⟨x,26,none⟩=false/\w.frozen? ⟨x,27,none⟩=false:=by
 obtain⟨h0,h1,-,h3,h4⟩:=MU a ve vb m.at_ h.ul;exact⟨by rw[cell_of_heap h.aD];simpa using h0,by rw[cell_of_heap h.aD];simpa using h1,by rw[cell_of_heap h.aD];simpa using h3,by rw[cell_of_heap h.aD];simpa using h4,frozen_of_heap h.aD 26,frozen_of_heap h.aD 27⟩
theorem dM.OE (h:dM z w0 x a ve w un m O vb us vss){j:Nat}(hj:j<24):w.cell? ⟨x,2+j,none⟩=some (.bool (un.getD j false))/\w.frozen? ⟨x,2+j,none⟩=false:=
 ⟨by rw[cell_of_heap h.aD];simpa using(MU a ve vb m.at_ h.ul).2.2.1 j hj,frozen_of_heap h.aD _⟩
structure mo (z:Nat)(w:World)(ad:Addr)(ls:List ab)(vs:List (Value×Value)):Prop where
 len:vs.length=ls.length
 cells:∀j u,(aK ls vs)[j]?=some u->w.cell? (ad.add j)=some u
 each:∀j,j<ls.length->aE z w (ls.getD j ab.nil) (vs.getD j (undef,undef)).1 (vs.getD j (undef,undef)).2
theorem oa:∀(ls:List ab) (vs:List (Value×Value)),vs.length=ls.length->(aK ls vs).length=ls.length*6
 |[],vs,_=>by simp[aK]
 |l::ls,[],h=>by simp at h
 |l::ls,v::vs,h=>by
  have ih:=oa ls vs (by simpa using h);have e:aK (l::ls) (v::vs)=cT (l,v)++aK ls vs:=rfl;rw[e,jV,ih];show 6+_=_
  simp only[List.length_cons];omega
theorem dM.put (h:dM z w0 x a ve w un m O vb us vss)(km:m.at_<m.blocks.length){ls:List ab}{vs:List (Value×Value)}{ad:Addr}(hL:mo z w ad ls vs)(h2:Below w.heap.size w w2)
  {gb cb:Nat} (vy:vb=.slice (some ⟨gb,0,none⟩) m.blocks.length cb) (hat':∀g,v'.ownBlock=some g->(us.getD m.at_ undef).ownBlock=some g\/w2.heap.size<=g)
  (h3:w3.ownsRow z 115 6 v' ((m.blocks.getD m.at_ []).length+ls.length) (aK (m.blocks.getD m.at_ []) (vss.getD m.at_ [])++aK ls vs)) (hg:w2.grownBy w3 (us.getD m.at_ undef).ownBlock):
  dM z w0 x a ve (w3.setCell ⟨gb,m.at_,none⟩ v') un (m.put ls) (fun k=>O k\/(w.heap.size<=k/\k<w3.heap.size)) vb (us.set m.at_ v') (vss.set m.at_ (vss.getD m.at_ []++vs))/\Fr O w (fun k=>O k\/(w.heap.size<=k/\k<w3.heap.size)) (w3.setCell ⟨gb,m.at_,none⟩ v'):=by
 have H:=h.below h2;have hu:=h.L9;obtain⟨n,E5⟩:∃n,n=m.at_:=⟨_,rfl⟩;rw[<-E5]at km h3 hg hat';have HN:=H.each n km;have jw:some x≠(us.getD n undef).ownBlock:=aF HN.row H.aD (by decide);have cW:w3.heap[x]?=some (.cells (eB a ve un vb m.at_).toArray 142 (0,0)):=by rw[hg.block x H.lt jw];exact H.aD
 have S2:w3.ownsRow z 106 1 vb m.blocks.length us:=H.blocks.kept hg (cJ H.blocks HN.row (by decide));obtain⟨g',cap,cur,e,UT,yn,gK,Ii,gP,Pu⟩:∃g' cap cur,vb=.slice (some ⟨g',0,none⟩) m.blocks.length cap/\z<=g'/\w3.heap[g']?=some (.cells cur 106 (0,0))/\m.blocks.length<=cap/\cap<=maxLen/\cur.size=cap*1/\cur.toList.take (m.blocks.length*1)=us:=by
  rcases S2.2 with⟨e,-⟩|⟨g',cap,cur,e,r⟩
  ·rw[vy]at e;cases e
  ·exact⟨g',cap,cur,e,r⟩
 have:g'=gb:=by rw[vy]at e;simp only[Value.slice.injEq,Option.some.injEq,Addr.mk.injEq]at e;exact e.1.1.symm
 subst this;have XH:O g':=h.ob g' (by rw[e];rfl);have Ls:¬x=g':=fun ex=>by rw[ex,yn]at cW;simp only[Option.some.injEq,Obj.cells.injEq]at cW;exact absurd cW.2.1 (by decide)
 have bE:∀{e:TypeId} {s:Nat} {v:Value} {n':Nat} {xs:List Value},w2.ownsRow z e s v n' xs->(v.ownBlock=none\/v.ownBlock≠(us.getD n undef).ownBlock)->e≠106->(w3.setCell ⟨g',n,none⟩ v').ownsRow z e s v n' xs:=by
  intro e s v n' xs hv c8 he';have hk:=hv.kept hg c8;exact aC hk _ (az hk yn he')
 have eu:∀j,¬j=n->(us.set n v').getD j undef=us.getD j undef:=fun j hj=>by simp[List.getD_eq_getElem?_getD,List.getElem?_set_ne (Ne.symm hj)]
 have eun:(us.set n v').getD n undef=v':=by simp[List.getD_eq_getElem?_getD,hu,km]
 have ebn:(m.put ls).blocks.getD n []=m.blocks.getD n []++ls:=by rw[jq _ _ (by rw[<-E5];exact km),jb E5]
 have eb:∀j,¬j=n->(m.put ls).blocks.getD j []=m.blocks.getD j []:=fun j hj=>by rw[jq _ _ (by rw[<-E5];exact km),ja (by rw[<-E5];exact hj)]
 have elen:=dV m ls;have ev:∀j,¬j=n->(vss.set n (vss.getD n []++vs)).getD j []=vss.getD j []:=fun j hj=>by simp[List.getD_eq_getElem?_getD,List.getElem?_set_ne (Ne.symm hj)]
 have evn:(vss.set n (vss.getD n []++vs)).getD n []=vss.getD n []++vs:=by simp[List.getD_eq_getElem?_getD,h.vl,km]
 have ne2:∀{e:TypeId} {s:Nat} {v:Value} {n':Nat} {xs:List Value},e=119\/e=3->w2.ownsRow z e s v n' xs->(w3.setCell ⟨g',n,none⟩ v').ownsRow z e s v n' xs:=fun he hv=>
  bE hv (cJ hv HN.row (by rcases he with rfl|rfl<;>decide)) (by rcases he with rfl|rfl<;>decide)
 have Il:w3.heap.size<=(w3.setCell ⟨g',n,none⟩ v').heap.size:=by simp
 have UF:(w3.setCell ⟨g',n,none⟩ v').heap.size=w3.heap.size:=by simp
 have J1:w.heap.size<=w3.heap.size:=jS h2.size hg.size;have DO:Fr O w (fun k=>O k\/(w.heap.size<=k/\k<w3.heap.size)) (w3.setCell ⟨g',n,none⟩ v'):=by
  refine⟨hg.os.trans h2.os,hg.tape.trans h2.tape,hg.output.trans h2.output,by simpa using J1,fun k hk hO=> ?_,fun k hk=> ?_⟩
  ·rw[Below.heap_setCell _ _ _ _ (by show k≠g';intro ek;rw[ek]at hO;exact hO XH),hg.block k (jK hk h2.size) (fun ek=>hO (h.ou n km k ek.symm))];exact h2.block k hk
  ·rcases hk with hk|hk
   ·exact .inl hk
   ·exact .inr hk.1
 have NQ:∀k,v'.ownBlock=some k->O k\/(w.heap.size<=k/\k<w3.heap.size):=fun k hk=>by
  rcases hat' k hk with e2|e2
  ·exact .inl (h.ou n km k e2)
  ·exact .inr ⟨jS h2.size e2,(h3.lt k hk).2⟩
 rw[<-E5];refine⟨⟨h.Em,?_,h.ul,h.bz.trans (DO.below h.bz.size (fun k hk=>(h.hi k hk).1)),?_,by rw[elen];simpa using h.vl,fun j hj=> ?_,fun i j hij hj=> ?_,.inl h.ox,fun k hk=> .inl (h.ob k hk),fun j hj k hk=> ?_,fun k hk=> ?_⟩,DO⟩
 ·rw[Below.heap_setCell _ _ _ _ (by show x≠g';exact Ls)];exact cW
 ·rw[elen];refine⟨by simp[hu],.inr ⟨g',cap,cur.setIfInBounds n v',e,UT,Go.Proofs.YtmlgajhhnojdjaaGreatDoor.Aux.heap_setCell_same yn n v',gK,Ii,by simpa using gP,?_⟩⟩;rw[Array.toList_setIfInBounds,<-Pu,List.take_set]
 ·rw[elen]at hj;by_cases hjn:j=n
  ·subst hjn;rw[eun,ebn,evn];refine⟨by rw[jV,jV,HN.len,hL.len],?_,fun i hi=> ?_⟩
   ·have:=aC h3 (a:=⟨g',j,none⟩) v' (az h3 yn (by decide));have e2:aK (m.blocks.getD j []++ls) (vss.getD j []++vs)=aK (m.blocks.getD j []) (vss.getD j [])++aK ls vs:=by
     unfold aK;rw[List.zip_append HN.len.symm];simp
    rw[e2,jV];exact this
   ·rw[jV]at hi;by_cases aP:i<(m.blocks.getD j []).length
    ·have e1:(m.blocks.getD j []++ls).getD i ab.nil=(m.blocks.getD j []).getD i ab.nil:=by rw[jA,jg aP,<-jA]
     have e2:(vss.getD j []++vs).getD i (undef,undef)=(vss.getD j []).getD i (undef,undef):=by rw[jA,jg (by rw[HN.len];exact aP),<-jA]
     rw[e1,e2];exact(HN.each i aP).bE ne2
    ·have e1:(m.blocks.getD j []++ls).getD i ab.nil=ls.getD (i-(m.blocks.getD j []).length) ab.nil:=by rw[jA,jf (by omega),<-jA]
     have e2:(vss.getD j []++vs).getD i (undef,undef)=vs.getD (i-(m.blocks.getD j []).length) (undef,undef):=by rw[jA,jf (by rw[HN.len];omega),HN.len,<-jA]
     rw[e1,e2];exact((hL.each _ (by omega)).below h2).bE ne2
  ·rw[eu j hjn,eb j hjn,ev j hjn];refine(H.each j hj).bE (bE (H.each j hj).row ?_ (by decide)) ne2;rcases Nat.lt_or_gt_of_ne hjn with aP|aP
   ·exact h.apart j n aP km
   ·rcases h.apart n j aP hj with e2|e2
    ·cases ho:(us.getD j undef).ownBlock with
     |none=>exact .inl rfl
     |some g=>right;rw[e2];simp
    ·exact .inr (Ne.symm e2)
 ·rw[elen]at hj;have zE:∀i,i<m.blocks.length->¬i=n->(us.getD i undef).ownBlock=none\/(us.getD i undef).ownBlock≠v'.ownBlock:=fun i hi lA=>by
   cases hx:(us.getD i undef).ownBlock with
   |none=>exact .inl rfl
   |some g0=>
    refine .inr fun hc=> ?_
    rcases hat' g0 hc.symm with e2|e2
    ·rcases Nat.lt_or_gt_of_ne lA with aP|aP
     ·rcases h.apart i n aP km with e3|e3
      ·rw[hx]at e3;cases e3
      ·rw[hx,e2]at e3;exact e3 rfl
     ·rcases h.apart n i aP hi with e3|e3
      ·rw[e2]at e3;cases e3
      ·rw[hx,e2]at e3;exact e3 rfl
    ·have:=I3 (H.each i hi).row g0 hx;omega
  by_cases hjn:j=n
  ·subst hjn;rw[eu i (by omega),eun];exact zE i (by omega) (by omega)
  ·by_cases lA:i=n
   ·subst lA;rw[eun,eu j hjn];rcases zE j hj hjn with e2|e2
    ·cases hv:v'.ownBlock with
     |none=>exact .inl rfl
     |some g=>right;rw[e2];simp
    ·exact .inr (Ne.symm e2)
   ·rw[eu i lA,eu j hjn];exact h.apart i j hij hj
 ·rw[elen]at hj;by_cases hjn:j=n
  ·subst hjn;rw[eun]at hk;exact NQ k hk
  ·rw[eu j hjn]at hk;exact .inl (h.ou j hj k hk)
 ·rw[UF];rcases hk with hk|hk
  ·exact⟨(h.hi k hk).1,jK (h.hi k hk).2 J1⟩
  ·exact⟨jS h.bz.size hk.1,hk.2⟩
end
end El
namespace Aux
open Go
section
variable {P:Program} (w:World)
theorem x5 (t tx ty e e':TypeId)(i:TypeInfo)(ht:P.underlying t=some (.slice e))(hx:P.underlying tx=some (.slice e'))(hi:P.info? e=some i)(ao:Option Addr)(n c:Nat)(x:Value):(Builtin.append_ #[t,tx] ty #[.slice ao n c,x]).run P w=(Builtin.append_ #[t,t] ty #[.slice ao n c,x]).run P w:=by
 simp[Builtin.append_,run_underlying ht,run_underlying hx,sizeOf,typeInfo,hi]
theorem Dc {ops:Array Oper}{o:Oper}{a:Act}{K:Act->World->Prop}{Q:Exit->Act->World->Prop}{E:Prop}(DU:o.guard=none)(s x:Operand)(t tx:TypeId)
  (ho:o.op=.call {callee:=.builtin .append,args:= #[s,x],argTypes:= #[t,tx]})
  (base:Nat) (e:TypeId) (i:TypeInfo) (z:Value) (size bytes:Nat) (ht:P.underlying t=some (.slice e)) {e':TypeId} (htx:P.underlying tx=some (.slice e')) (hi:P.info? e=some i) (hz:i.zero=some z)
  (hsize:i.size=size) (ES:i.bytes=bytes) (hzs:z.cells.size=size) (gP:0<size)
  (v:Value) (n:Nat) (xs:List Value) (hs:a.eval s=v) (eG:w.ownsRow base e size v n xs)
  (ad:Addr) (m c:Nat) (news:List Value) (hx:a.eval x=.slice (some ad) m c) (hl:news.length=m*size) (hnews:∀j u,news[j]?=some u->w.cell? (ad.add j)=some u) (h1:∀u∈news,u.oneCell'=true)
  (hm:0<m) (h63:n+m<=maxLen) (hbytes:(n+m)*bytes<=140737488355328) (hbase:base<=w.heap.size) (H:Nat) (hH:w.heap.size=H)
  (h:∀g cap w',w'.ownsRow base e size (.slice (some ⟨g,0,none⟩) (n+m) cap) (n+m) (xs++news)->w.grownBy w' v.ownBlock->(v.ownBlock=some g\/g=H)->g<w'.heap.size->K (a.put o.dst (.slice (some ⟨g,0,none⟩) (n+m) cap)) w'):
  if Region.wanted o (yielded ops a.tmps)=true then Oper.wp P o a w K Q else E:=by
 have hw:Region.wanted o (yielded ops a.tmps)=true:=by simp[Region.wanted,DU]
 rw[jb hw];obtain⟨g,cap,w',hr,h2,h3,h4,h5⟩:=run_append_lies (P:=P) w t o.type base e i z size bytes ht hi hz hsize ES hzs gP v n xs eG ad m c news hl hnews h1 hm h63 hbytes hbase H hH;obtain⟨ao,c0,hv⟩:∃ao c0,v=.slice ao n c0:=by
  rcases eG.2 with⟨e1,e2⟩|⟨g,cap,cur,e1,-⟩
  ·exact⟨none,0,by rw[e1,e2]⟩
  ·exact⟨_,cap,e1⟩
 rw[hv,<-x5 w t tx o.type e e' i ht htx hi,<-hv]at hr;unfold Oper.wp execOp;simp only[ho,resolve,invoke,builtin,Sem.run_bind,Sem.run_pure,Result.andThen_ok,List.map_toArray,List.map_cons,List.map_nil,hs,hx,hr];exact h g cap w' h2 h3 h4 h5
end
end Aux
namespace El
open Go Go.RowKit Sq Aux PrjF PrjG PrjJ PrjK PrjL PrjM PrjP PrjQ PrjS FlwA FlwE
section
variable {z x a:Nat} {w0 w:World} {ve:Value} {un:List Bool} {m:Mk} {O:Nat->Prop}
theorem Fv {z:Nat}{w:World}{ad:Addr}{ls:List ab}{vs:List (Value×Value)}(h:mo z w ad ls vs):∀u∈aK ls vs,u.oneCell'=true:=by
 intro u hu;unfold aK at hu;obtain⟨⟨l,vp,vn⟩,hx,hu⟩:=List.mem_flatMap.1 hu;obtain⟨j,hj⟩:=List.mem_iff_getElem?.1 hx;rw[List.getElem?_zip_eq_some]at hj;obtain⟨h1,h2⟩:=hj;have aP:j<ls.length:=by
  rcases Nat.lt_or_ge j ls.length with e|e
  ·exact e
  ·rw[jG e]at h1;cases h1
 have hE:=h.each j aP;have e2:vs.getD j (undef,undef)=(vp,vn):=by rw[jA,h2];rfl
 rw[e2]at hE;obtain⟨ap,cp,e3⟩:=a8 hE.places;obtain⟨an,cn,e4⟩:=a8 hE.next;simp only at e3 e4;subst e3 e4;simp only[cT,List.mem_cons,List.not_mem_nil,or_false]at hu;rcases hu with rfl|rfl|rfl|rfl|rfl|rfl<;>rfl
set_option maxRecDepth 20000 in
set_option maxHeartbeats 4000000 in
theorem fz (h:bG z w0 x a ve w un m O)(km:m.at_<m.blocks.length){g o c:Nat}{ls:List ab}{vs:List (Value×Value)}(hL:mo z w ⟨g,o,none⟩ ls vs)(hn:0<ls.length)(hbig:(m.blocks.getD m.at_ []).length+ls.length<=1000000):
  Calls Tryz.prog 130 #[.pointer (some ⟨x,0,none⟩),.slice (some ⟨g,o,none⟩) ls.length c] w fun e w'=>e=.returned (.tuple #[])/\∃O',bG z w0 x a ve w' un (m.put ls) O'/\Fr O w O' w':=by
 obtain⟨vb,us,vss,h⟩:=h;obtain⟨in_,lA,Up,Lf,Uq⟩:=info_parts oH;obtain⟨c0,c1,c26,c27,f26,f27⟩:=h.facts;obtain⟨gb,cb,vy,NJ,sX,qk⟩:=bL h.blocks (by omega);have dY:=(h.each _ km).row;have Xx:=oa ls vs hL.len;have Lj:=Fv hL;have SW:=h.L9;have DR:w.cell? ⟨gb,m.at_,none⟩=some (us.getD m.at_ undef):=by
  rw[qk _ (by omega),jA,jB (by omega)];rfl
 have Pa:w.frozen? ⟨gb,m.at_,none⟩=false:=by
  rcases h.blocks.2 with⟨e,-⟩|⟨g',cap',cur',e,-,Ck,-⟩
  ·rw[vy]at e;cases e
  ·rw[vy]at e;simp only[Value.slice.injEq,Option.some.injEq,Addr.mk.injEq,and_true]at e;obtain⟨rfl,-⟩:=e;exact frozen_of_heap Ck _
 have hid:(m.at_:Int)<(m.blocks.length:Nat):=by omega
 have hz:z<=w.heap.size:=jS h.Em h.bz.size;have H:Hid (dM z w0 x a ve w un m O vb us vss):=h;have HV:Hid (vb=.slice (some ⟨gb,0,none⟩) m.blocks.length cb):=vy;have xC:=h.lt;have HB:Hid (∀w4,w.grownBy w4 (us.getD m.at_ undef).ownBlock->w4.cell? ⟨x,26,none⟩=some vb/\w4.cell? ⟨x,27,none⟩=some (.int .i64 (m.at_:Nat))/\w4.cell? ⟨gb,m.at_,none⟩=some (us.getD m.at_ undef)/\w4.frozen? ⟨gb,m.at_,none⟩=false):=fun w4 hg=>by
  have jw:some x≠(us.getD m.at_ undef).ownBlock:=aF dY h.aD (by decide);have Mz:some gb≠(us.getD m.at_ undef).ownBlock:=by
   rcases cJ h.blocks dY (by decide)with e|e
   ·rw[vy]at e;cases e
   ·rw[vy]at e;exact e
  exact⟨(hg.cell_far ⟨x,26,none⟩ xC jw).trans c26,(hg.cell_far ⟨x,27,none⟩ xC jw).trans c27,(hg.cell_far ⟨gb,m.at_,none⟩ sX Mz).trans DR,(hg.frozen_far ⟨gb,m.at_,none⟩ sX Mz).trans Pa⟩
 generalize DV:m.at_=n at*;generalize hN:m.blocks.length=N at*;generalize hK:(m.blocks.getD n []).length=K at*;have DS:=hL.cells;subst vy;clear h qk dY;have dY:=(H.out.each n (by rw[hN];exact km)).row;rw[hK]at dY;obtain⟨u,hu⟩:∃u,us.getD n undef=u:=⟨_,rfl⟩;rw[hu]at dY DR HB;have HE:Hid (us.getD n undef=u):=hu;clear hu;go_enter Tryz.func130,Tryz.ntmps130
 go_region_law (refine Dc _ (by rfl) _ _ _ _ (by rfl) z 115 in_ (.agg #[.int .i64 0,.int .i64 0,.slice none 0 0,.int .i64 0,.int .i64 0,.slice none 0 0]) 6 80 Tryz.underlying106 Tryz.underlying105 lA Up Lf Uq (by rfl) (by decide) u _ _ (by rfl) dY ⟨g,o,none⟩ ls.length c (aK ls vs) (by rfl) Xx DS Lj hn (by unfold maxLen;omega) (by omega) hz w.heap.size (by rfl) ?_;intro g4 c4 w4 hown4 hgrow4 hat4 hlt4;have jn:w.grownBy w4 u.ownBlock:=⟨hgrow4.os,hgrow4.tape,hgrow4.output,hgrow4.size,hgrow4.block⟩;obtain⟨r1,r2,r3,r4⟩:=HB.out w4 jn)
 all_goals go_wp2_with fail
 all_goals
  go_end0
  have lS:=H.out.put (v':=.slice (some ⟨g4,0,none⟩) (K+ls.length) c4) (w2:=w) (w3:=w4) (by rw[DV,hN];exact km) hL (Below.refl _ _) (by rw[hN]) (by
   intro k hk;rw[DV,HE.out];simp only[Value.ownBlock,Option.some.injEq]at hk;subst hk;exact hat4.imp id fun e=>Nat.le_of_eq e.symm) (by rw[DV,hK];exact hown4) (by rw[DV,HE.out];exact jn)
  rw[DV]at lS;exact⟨rfl,_,⟨_,_,_,lS.1⟩,lS.2⟩
end
end El
namespace El
open Go Go.RowKit Sq Aux PrjF PrjG PrjJ PrjK PrjL PrjM PrjP PrjQ PrjS FlwA FlwE
section
variable {z x a:Nat} {w0 w w1 w2 w3:World} {ve vb v':Value} {un:List Bool} {m:Mk} {O:Nat->Prop} {us:List Value} {vss:List (List (Value×Value))}
theorem dM.iF (h:dM z w0 x a ve w un m O vb us vss){j:Nat}{u:Value}{un':List Bool}{k':Nat}(hl:un'.length=24)(he:(eB a ve un vb m.at_).set j u=eB a ve un' vb k'):
  dM z w0 x a ve (w.setCell ⟨x,j,none⟩ u) un' ⟨m.blocks,k'⟩ O vb us vss/\Fr O w O (w.setCell ⟨x,j,none⟩ u):=by
 have bE:∀{e:TypeId} {s:Nat} {v:Value} {n:Nat} {xs:List Value},w.ownsRow z e s v n xs->e≠142->(w.setCell ⟨x,j,none⟩ u).ownsRow z e s v n xs:=fun hv he=>aC hv _ (az hv h.aD he)
 have hF:Fr O w O (w.setCell ⟨x,j,none⟩ u):=⟨rfl,rfl,rfl,by simp,fun k _ hO=>Below.heap_setCell _ _ _ _ (by show k≠x;intro e;rw[e]at hO;exact hO h.ox),fun _ h=> .inl h⟩;refine⟨⟨h.Em,?_,hl,h.bz.trans (hF.below h.bz.size (fun k hk=>(h.hi k hk).1)),bE h.blocks (by decide),h.vl,fun i hi=>(h.each i hi).bE (bE (h.each i hi).row (by decide)) (fun he hv=>bE hv (by rcases he with rfl|rfl<;>decide)),h.apart,h.ox,h.ob,h.ou,fun k hk=>by simpa using h.hi k hk⟩,hF⟩;rw[Aux.heap_setCell_same h.aD];congr 2;rw[List.setIfInBounds_toArray,he]
theorem dM.setAt (h:dM z w0 x a ve w un m O vb us vss)(k:Nat):dM z w0 x a ve (w.setCell ⟨x,27,none⟩ (.int .i64 (k:Nat))) un ⟨m.blocks,k⟩ O vb us vss/\Fr O w O (w.setCell ⟨x,27,none⟩ (.int .i64 (k:Nat))):=by
 refine h.iF h.ul ?_;show _::_::(un.map Value.bool++[vb,.int .i64 (m.at_:Nat)]).set 25 _=_
 rw[List.set_append_right _ _ (by simp[h.ul])];simp[h.ul,eB]
theorem dM.Ef (h:dM z w0 x a ve w un m O vb us vss){j:Nat}(hj:j<24)(v:Bool):dM z w0 x a ve (w.setCell ⟨x,2+j,none⟩ (.bool v)) (un.set j v) m O vb us vss/\Fr O w O (w.setCell ⟨x,2+j,none⟩ (.bool v)):=by
 refine h.iF (un':=un.set j v) (k':=m.at_) (by simpa using h.ul) ?_;rw[Nat.add_comm];show _::_::(un.map Value.bool++[vb,.int .i64 (m.at_:Nat)]).set j _=_
 rw[List.set_append_left _ _ (by simp[h.ul];exact hj)];simp[eB,List.map_set]
theorem bG.setAt (h:bG z w0 x a ve w un m O)(k:Nat):bG z w0 x a ve (w.setCell ⟨x,27,none⟩ (.int .i64 (k:Nat))) un ⟨m.blocks,k⟩ O/\Fr O w O (w.setCell ⟨x,27,none⟩ (.int .i64 (k:Nat))):=by
 obtain⟨vb,us,vss,h⟩:=h;obtain⟨h1,h2⟩:=h.setAt k;exact⟨⟨vb,us,vss,h1⟩,h2⟩
theorem dM.Nf (h:dM z w0 x a ve w un m O vb us vss)(h2:Below w.heap.size w w2)(hat':∀g,v'.ownBlock=some g->vb.ownBlock=some g\/w2.heap.size<=g)
  (h3:w3.ownsRow z 106 1 v' (m.blocks.length+2) (us++[.slice none 0 0,.slice none 0 0])) (hg:w2.grownBy w3 vb.ownBlock):
  dM z w0 x a ve (w3.setCell ⟨x,26,none⟩ v') un ⟨m.blocks++[[],[]],m.at_⟩ (fun k=>O k\/(w.heap.size<=k/\k<w3.heap.size)) v' (us++[.slice none 0 0,.slice none 0 0]) (vss++[[],[]])/\Fr O w (fun k=>O k\/(w.heap.size<=k/\k<w3.heap.size)) (w3.setCell ⟨x,26,none⟩ v'):=by
 have H:=h.below h2;have hu:=h.L9;have jw:some x≠vb.ownBlock:=aF H.blocks H.aD (by decide);have cW:w3.heap[x]?=some (.cells (eB a ve un vb m.at_).toArray 142 (0,0)):=by rw[hg.block x H.lt jw];exact H.aD
 have bE:∀{e:TypeId} {s:Nat} {v:Value} {n:Nat} {xs:List Value},w2.ownsRow z e s v n xs->e≠106->e≠142->(w3.setCell ⟨x,26,none⟩ v').ownsRow z e s v n xs:=by
  intro e s v n xs hv he he';have hk:=hv.kept hg (cJ hv H.blocks he);exact aC hk _ (az hk cW he')
 have J1:w.heap.size<=w3.heap.size:=jS h2.size hg.size;have hF:Fr O w (fun k=>O k\/(w.heap.size<=k/\k<w3.heap.size)) (w3.setCell ⟨x,26,none⟩ v'):=by
  refine⟨hg.os.trans h2.os,hg.tape.trans h2.tape,hg.output.trans h2.output,by simpa using J1,fun k hk hO=> ?_,fun k hk=> ?_⟩
  ·rw[Below.heap_setCell _ _ _ _ (by show k≠x;intro e;rw[e]at hO;exact hO h.ox),hg.block k (jK hk h2.size) (fun ek=>hO (h.ob k ek.symm))];exact h2.block k hk
  ·rcases hk with hk|hk
   ·exact .inl hk
   ·exact .inr hk.1
 have eu:∀j,j<m.blocks.length->(us++[Value.slice none 0 0,.slice none 0 0]).getD j undef=us.getD j undef:=fun j hj=>by simp[List.getD_eq_getElem?_getD,List.getElem?_append,hu,hj]
 have el:∀j,m.blocks.length<=j->j<m.blocks.length+2->(us++[Value.slice none 0 0,.slice none 0 0]).getD j undef=.slice none 0 0:=fun j h1 h2=>by
  rw[jA,jf (by omega),hu];rcases(show j-m.blocks.length=0\/j-m.blocks.length=1 by omega)with e|e<;>rw[e]<;>rfl
 have hlen:(m.blocks++[[],[]]:List (List ab)).length=m.blocks.length+2:=by simp
 refine⟨⟨h.Em,?_,h.ul,h.bz.trans (hF.below h.bz.size (fun k hk=>(h.hi k hk).1)),?_,by simp[h.vl],fun j hj=> ?_,fun i j hij hj=> ?_,.inl h.ox,fun k hk=> ?_,fun j hj k hk=> ?_,fun k hk=> ?_⟩,hF⟩
 ·rw[Aux.heap_setCell_same cW];congr 2;rw[List.setIfInBounds_toArray];congr 1;show _::_::(un.map Value.bool++[vb,.int .i64 (m.at_:Nat)]).set 24 _=_
  rw[List.set_append_right _ _ (by simp[h.ul])];simp[h.ul,eB]
 ·rw[hlen];exact aC h3 (a:=⟨x,26,none⟩) v' (az h3 cW (by decide))
 ·rw[hlen]at hj;by_cases aP:j<m.blocks.length
  ·have e2:(m.blocks++[[],[]]).getD j []=m.blocks.getD j []:=sh _ _;have e3:(vss++[[],[]]).getD j []=vss.getD j []:=by simp[List.getD_eq_getElem?_getD,List.getElem?_append,h.vl,aP]
   rw[eu j aP,e2,e3];exact(H.each j aP).bE (bE (H.each j aP).row (by decide) (by decide)) (fun he hv=>bE hv (by rcases he with rfl|rfl<;>decide) (by rcases he with rfl|rfl<;>decide))
  ·have e2:(m.blocks++[[],[]]).getD j []=[]:=by rw[sh,jA,jG (by omega)];rfl
   have e3:(vss++[[],[]]).getD j []=[]:=by
    rw[jA,jf (by rw[h.vl];omega),h.vl];rcases(show j-m.blocks.length=0\/j-m.blocks.length=1 by omega)with e|e<;>rw[e]<;>rfl
   rw[el j (by omega) hj,e2,e3];exact⟨rfl,World.ownsRow_nil _ _ _ _,fun i hi=>by simp at hi⟩
 ·rw[hlen]at hj;by_cases aP:j<m.blocks.length
  ·rw[eu j aP,eu i (by omega)];exact h.apart i j hij aP
  ·rw[el j (by omega) hj];cases hx:((us++[Value.slice none 0 0,.slice none 0 0]).getD i undef).ownBlock with
   |none=>exact .inl rfl
   |some g=>exact .inr (by simp[Value.ownBlock])
 ·rcases hat' k hk with e|e
  ·exact .inl (h.ob k e)
  ·exact .inr ⟨jS h2.size e,(h3.lt k hk).2⟩
 ·rw[hlen]at hj;by_cases aP:j<m.blocks.length
  ·rw[eu j aP]at hk;exact .inl (h.ou j aP k hk)
  ·rw[el j (by omega) hj]at hk;cases hk
 ·have e:(w3.setCell ⟨x,26,none⟩ v').heap.size=w3.heap.size:=by simp
  rw[e];rcases hk with hk|hk
  ·exact⟨(h.hi k hk).1,jK (h.hi k hk).2 J1⟩
  ·exact⟨jS h.bz.size hk.1,hk.2⟩
end
theorem DY:(Tryz.prog.info? 115).map (·.size)=some 6:=by kernel_rfl
set_option maxRecDepth 20000 in
theorem lL (k v:Int)(w:World):Calls Tryz.prog 211 #[.int .i64 k,.int .i64 v] w fun e w'=>e=.returned (.agg #[.int .i64 0,.int .i64 17,.slice none 0 0,.int .i64 v,.int .i64 k,.slice none 0 0])/\Below w.heap.size w w':=by
 go_enter Tryz.func211,Tryz.ntmps211
 go_wp2
 refine bodyPost_ret (cK Tryz.results211 _ _ _ w.heap.size [.int .i64 0,.int .i64 17,.slice none 0 0,.int .i64 v,.int .i64 k,.slice none 0 0] _ rfl (fun j u hu=>by rw[Nat.zero_add,cell_of_heap jD];simpa using hu) Tryz.underlying115 rfl DY) rfl ?_;exact⟨rfl,(Below.refl _ _).alloc (jC _) _⟩
set_option maxRecDepth 20000 in
theorem rh (b:Nat)(w:World):Calls Tryz.prog 131 #[.int .i64 (b:Nat)] w fun e w'=>∃g,e=.returned (.agg #[.int .i64 0,.int .i64 18,.slice none 0 0,.int .i64 0,.int .i64 0,.slice (some ⟨g,0,none⟩) 1 1])/\Below w.heap.size w w'/\w.heap.size<=g/\w'.heap[g]?=some (.cells #[.int .i64 (b:Nat)] 3 (0,0)):=by
 go_enter Tryz.func131,Tryz.ntmps131
 go_wp2
 obtain⟨wA,hA⟩:∃wA,w.alloc (.cells #[.int .i64 0,.int .i64 18,.slice none 0 0,.int .i64 0,.int .i64 0,.slice (some ⟨w.heap.size+1,0,none⟩) 1 1] 115)=wA:=⟨_,rfl⟩;have aB:Below w.heap.size w wA:=by rw[<-hA];exact(Below.refl _ _).alloc (jC _) _
 have mZ:wA.heap.size=w.heap.size+1:=by rw[<-hA];simp
 have mB:wA.heap[w.heap.size]?=some (.cells #[.int .i64 0,.int .i64 18,.slice none 0 0,.int .i64 0,.int .i64 0,.slice (some ⟨w.heap.size+1,0,none⟩) 1 1] 115 (0,0)):=by rw[<-hA];exact jD
 rw[hA];clear hA;have bu:Below wA.heap.size wA (wA.alloc (.cells #[.int .i64 (b:Nat)] 3)):=(Below.refl _ _).alloc (jC _) _;have mQ:=(bu.block w.heap.size (by omega)).trans mB;refine bodyPost_ret (cK Tryz.results131 _ _ _ w.heap.size [.int .i64 0,.int .i64 18,.slice none 0 0,.int .i64 0,.int .i64 0,.slice (some ⟨w.heap.size+1,0,none⟩) 1 1] _ rfl (fun j u hu=>by rw[Nat.zero_add,cell_of_heap mQ];simpa using hu) Tryz.underlying115 rfl DY) rfl ?_;refine⟨w.heap.size+1,rfl,aB.trans (bu.mono aB.size),by omega,?_⟩;rw[<-mZ];exact jD
end El
end Go.Proofs.YtmlgajhhnojdjaaGreatDoor

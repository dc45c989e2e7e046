import Derived.Test.YtmlgajhhnojdjaaGreatDoorRAG
namespace Go.Proofs.YtmlgajhhnojdjaaGreatDoor
namespace PrjM
open Go Go.RowKit Sq Aux PrjF PrjG PrjH PrjI PrjJ PrjK PrjL
def zS (x:B×Nat):List Value:=[.string (bs x.1),.int .i64 (x.2:Nat)]
def ra (ls:List (B×Nat)):List Value:=ls.flatMap zS
def BE (x:Nat×Nat):List Value:=[.int .i64 (x.1:Nat),.int .i64 (x.2:Nat)]
def bL (ls:List (Nat×Nat)):List Value:=ls.flatMap BE
def mD (x:ab×Value×Value):List Value:=[.int .i64 (x.1.num:Nat),.int .i64 (x.1.op:Nat),x.2.1,.int .i64 x.1.number,.int .i64 x.1.flag,x.2.2]
def iG (ls:List ab)(vs:List (Value×Value)):List Value:=(ls.zip vs).flatMap mD
def ab.nil:ab:=⟨0,0,[],0,0,[]⟩
structure bq (z:Nat)(w:World)(l:ab)(vp vn:Value):Prop where
 places:w.ownsRow z 119 2 vp l.places.length (bL l.places)
 next:w.ownsRow z 3 1 vn l.next.length (dH l.next)
structure fi (z:Nat)(w:World)(v:Value)(ls:List ab)(vs:List (Value×Value)):Prop where
 len:vs.length=ls.length
 row:w.ownsRow z 115 6 v ls.length (iG ls vs)
 each:∀j,j<ls.length->bq z w (ls.getD j ab.nil) (vs.getD j (undef,undef)).1 (vs.getD j (undef,undef)).2
structure lE (z a:Nat)(w:World)(q:QP)(vl vb:Value)(us:List Value)(vss:List (List (Value×Value))):Prop where
 base:z<=a
 aJ:w.heap[a]?=some (.cells #[vl,vb] 110 (0,0))
 locals:w.ownsRow z 146 2 vl q.locals.length (ra q.locals)
 blocks:w.ownsRow z 106 1 vb q.blocks.length us
 each:∀j,j<q.blocks.length->fi z w (us.getD j undef) (q.blocks.getD j []) (vss.getD j [])
 apart:∀i j,i<j->j<q.blocks.length->(us.getD i undef).ownBlock=none\/(us.getD i undef).ownBlock≠(us.getD j undef).ownBlock
section
variable {z a:Nat} {w w' w2 w3:World} {q:QP} {vl vb v':Value} {us:List Value} {vss:List (List (Value×Value))}
theorem lE.WM (h:lE z a w q vl vb us vss):us.length=q.blocks.length:=by have:=h.blocks.1;omega
theorem lE.lt (h:lE z a w q vl vb us vss):a<w.heap.size:=lt_of_heap h.aJ
theorem bq.df {l:ab}{vp vn:Value}(h:bq z w l vp vn)(k:∀{e:TypeId} {s:Nat} {v:Value} {n:Nat} {xs:List Value},e=119\/e=3->w.ownsRow z e s v n xs->w'.ownsRow z e s v n xs):bq z w' l vp vn:=
 ⟨k (.inl rfl) h.places,k (.inr rfl) h.next⟩
theorem fi.df {v:Value}{ls:List ab}{vs:List (Value×Value)}(h:fi z w v ls vs)(hr:w'.ownsRow z 115 6 v ls.length (iG ls vs))
  (k:∀{e:TypeId} {s:Nat} {v:Value} {n:Nat} {xs:List Value},e=119\/e=3->w.ownsRow z e s v n xs->w'.ownsRow z e s v n xs):fi z w' v ls vs:=
 ⟨h.len,hr,fun j hj=>(h.each j hj).df k⟩
theorem bq.below {l:ab}{vp vn:Value}(h:bq z w l vp vn)(hb:Below w.heap.size w w'):bq z w' l vp vn:=h.df fun _ h=>ay h hb
theorem fi.below {v:Value}{ls:List ab}{vs:List (Value×Value)}(h:fi z w v ls vs)(hb:Below w.heap.size w w'):fi z w' v ls vs:=h.df (ay h.row hb) fun _ h=>ay h hb
theorem lE.below (h:lE z a w q vl vb us vss)(hb:Below w.heap.size w w'):lE z a w' q vl vb us vss:=
 ⟨h.base,by rw[hb.block a h.lt];exact h.aJ,ay h.locals hb,ay h.blocks hb,fun j hj=>(h.each j hj).below hb,h.apart⟩
theorem lE.start (z:Nat)(w:World)(hz:z<=w.heap.size):lE z w.heap.size (w.alloc (.cells #[.slice none 0 0,.slice none 0 0] 110)) QP.empty (.slice none 0 0) (.slice none 0 0) [] []:=
 ⟨hz,by show(w.heap.push _)[w.heap.size]?=_;simp,World.ownsRow_nil _ _ _ _,World.ownsRow_nil _ _ _ _,fun j hj=>by simp[QP.empty]at hj,fun i j _ hj=>by simp[QP.empty]at hj⟩
theorem lE.addLocal (h:lE z a w q vl vb us vss)(x:B×Nat)(h2:Below w.heap.size w w2)
  (h3:w3.ownsRow z 146 2 v' (q.locals.length+1) (ra q.locals++zS x)) (hg:w2.grownBy w3 vl.ownBlock):
  lE z a (w3.setCell ⟨a,0,none⟩ v') (q.addLocal x) v' vb us vss:=by
 have H:=h.below h2;have ec:some a≠vl.ownBlock:=bj H.locals H.aJ (by decide);have bV:w3.heap[a]?=some (.cells #[vl,vb] 110 (0,0)):=by rw[hg.block a H.lt ec];exact H.aJ
 have df:∀{e:TypeId} {s:Nat} {v:Value} {n:Nat} {xs:List Value},w2.ownsRow z e s v n xs->e≠146->e≠110->(w3.setCell ⟨a,0,none⟩ v').ownsRow z e s v n xs:=by
  intro e s v n xs hv he Jq;have hk:=hv.kept hg (da hv H.locals he);exact av hk _ (au hk bV Jq)
 refine⟨h.base,?_,?_,df H.blocks (by decide) (by decide),fun j hj=>(H.each j hj).df (df (H.each j hj).row (by decide) (by decide)) (fun he hv=>df hv ?_ ?_),h.apart⟩
 ·rw[Go.Proofs.YtmlgajhhnojdjaaGreatDoor.Aux.heap_setCell_same bV];rfl
 ·have:=av h3 (a:=⟨a,0,none⟩) v' (au h3 bV (by decide));simpa [QP.addLocal,ra]using this
 ·rcases he with rfl|rfl<;>decide
 ·rcases he with rfl|rfl<;>decide
theorem lE.addBlock (h:lE z a w q vl vb us vss)(hl:vss.length=q.blocks.length)(h2:Below w.heap.size w w2)
  (h3:w3.ownsRow z 106 1 v' (q.blocks.length+1) (us++[.slice none 0 0])) (hg:w2.grownBy w3 vb.ownBlock):
  lE z a (w3.setCell ⟨a,1,none⟩ v') q.addBlock vl v' (us++[.slice none 0 0]) (vss++[[]]):=by
 have H:=h.below h2;have hu:=h.WM;have ec:some a≠vb.ownBlock:=bj H.blocks H.aJ (by decide);have bV:w3.heap[a]?=some (.cells #[vl,vb] 110 (0,0)):=by rw[hg.block a H.lt ec];exact H.aJ
 have df:∀{e:TypeId} {s:Nat} {v:Value} {n:Nat} {xs:List Value},w2.ownsRow z e s v n xs->e≠106->e≠110->(w3.setCell ⟨a,1,none⟩ v').ownsRow z e s v n xs:=by
  intro e s v n xs hv he Jq;have hk:=hv.kept hg (da hv H.blocks he);exact av hk _ (au hk bV Jq)
 have eu:∀j,j<q.blocks.length->(us++[Value.slice none 0 0]).getD j undef=us.getD j undef:=fun j hj=>by simp[List.getD_eq_getElem?_getD,List.getElem?_append,hu,hj]
 have el:(us++[Value.slice none 0 0]).getD q.blocks.length undef=.slice none 0 0:=by simp[List.getD_eq_getElem?_getD,<-hu]
 refine⟨h.base,?_,df H.locals (by decide) (by decide),?_,fun j hj=> ?_,fun i j hij hj=> ?_⟩
 ·rw[Go.Proofs.YtmlgajhhnojdjaaGreatDoor.Aux.heap_setCell_same bV];rfl
 ·have:=av h3 (a:=⟨a,1,none⟩) v' (au h3 bV (by decide));simpa [QP.addBlock]using this
 ·simp only[QP.addBlock,List.length_append,List.length_singleton]at hj;by_cases aL:j<q.blocks.length
  ·have e2:q.addBlock.blocks.getD j []=q.blocks.getD j []:=by simp[QP.addBlock,List.getD_eq_getElem?_getD,List.getElem?_append,aL]
   have e3:(vss++[[]]).getD j []=vss.getD j []:=by simp[List.getD_eq_getElem?_getD,List.getElem?_append,hl,aL]
   rw[eu j aL,e2,e3];refine(H.each j aL).df (df (H.each j aL).row (by decide) (by decide)) (fun he hv=>df hv ?_ ?_)
   ·rcases he with rfl|rfl<;>decide
   ·rcases he with rfl|rfl<;>decide
  ·obtain rfl:j=q.blocks.length:=by omega
   have e2:q.addBlock.blocks.getD q.blocks.length []=[]:=by simp[QP.addBlock,List.getD_eq_getElem?_getD]
   have e3:(vss++[[]]).getD q.blocks.length []=[]:=by simp[List.getD_eq_getElem?_getD,<-hl]
   rw[el,e2,e3];exact⟨rfl,World.ownsRow_nil _ _ _ _,fun j hj=>by simp at hj⟩
 ·simp only[QP.addBlock,List.length_append,List.length_singleton]at hj;by_cases aL:j<q.blocks.length
  ·rw[eu j aL,eu i (by omega)];exact h.apart i j hij aL
  ·obtain rfl:j=q.blocks.length:=by omega
   rw[eu i (by omega),el];cases hx:(us.getD i undef).ownBlock with
   |none=>exact .inl rfl
   |some g=>exact .inr (by simp[Value.ownBlock])
theorem lE.addLine (h:lE z a w q vl vb us vss)(hl:vss.length=q.blocks.length)(n:Nat)(hn:q.blocks.length=n+1)(l:ab)(vp vn:Value)(hL:bq z w l vp vn)(h2:Below w.heap.size w w2)
  {gb cb:Nat} (X8:vb=.slice (some ⟨gb,0,none⟩) (n+1) cb) {g:Nat} (hv':v'.ownBlock=some g) (Er:(us.getD n undef).ownBlock=some g\/w2.heap.size<=g)
  (h3:w3.ownsRow z 115 6 v' ((q.blocks.getD n []).length+1) (iG (q.blocks.getD n []) (vss.getD n [])++mD (l,vp,vn))) (hg:w2.grownBy w3 (us.getD n undef).ownBlock):
  lE z a (w3.setCell ⟨gb,n,none⟩ v') (q.addLine l) vl vb (us.set n v') (vss.set n (vss.getD n []++[(vp,vn)])):=by
 have H:=h.below h2;have HL:=hL.below h2;have hu:=h.WM;have qR:n<q.blocks.length:=by omega
 have HN:=H.each n qR;have ec:some a≠(us.getD n undef).ownBlock:=bj HN.row H.aJ (by decide);have bV:w3.heap[a]?=some (.cells #[vl,vb] 110 (0,0)):=by rw[hg.block a H.lt ec];exact H.aJ
 have HB3:w3.ownsRow z 106 1 vb q.blocks.length us:=H.blocks.kept hg (da H.blocks HN.row (by decide));obtain⟨g',cap,cur,e,hzg,UQ,kM,XL,ly,htk⟩:∃g' cap cur,vb=.slice (some ⟨g',0,none⟩) q.blocks.length cap/\z<=g'/\w3.heap[g']?=some (.cells cur 106 (0,0))/\q.blocks.length<=cap/\cap<=maxLen/\cur.size=cap*1/\cur.toList.take (q.blocks.length*1)=us:=by
  rcases HB3.2 with⟨e,-⟩|⟨g',cap,cur,e,r⟩
  ·rw[X8]at e;cases e
  ·exact⟨g',cap,cur,e,r⟩
 have:g'=gb:=by rw[X8]at e;simp only[Value.slice.injEq,Option.some.injEq,Addr.mk.injEq]at e;exact e.1.1.symm
 subst this;have df:∀{e:TypeId} {s:Nat} {v:Value} {n':Nat} {xs:List Value},w2.ownsRow z e s v n' xs->(v.ownBlock=none\/v.ownBlock≠(us.getD n undef).ownBlock)->e≠106->(w3.setCell ⟨g',n,none⟩ v').ownsRow z e s v n' xs:=by
  intro e s v n' xs hv hnn Jq;have hk:=hv.kept hg hnn;exact av hk _ (au hk UQ Jq)
 have eu:∀j,¬j=n->(us.set n v').getD j undef=us.getD j undef:=fun j hj=>by simp[List.getD_eq_getElem?_getD,List.getElem?_set_ne (Ne.symm hj)]
 have eun:(us.set n v').getD n undef=v':=by simp[List.getD_eq_getElem?_getD,hu,qR]
 have hB:q.blocks=q.blocks.dropLast++[q.blocks.getD n []]:=by
  have ec:q.blocks≠[]:=by intro e;rw[e]at qR;simp at qR
  conv=>lhs;rw[<-List.dropLast_concat_getLast ec]
  congr 2;rw[List.getLast_eq_getElem];simp[List.getD_eq_getElem?_getD,hn]
 have hD:q.blocks.dropLast.length=n:=by simp[hn]
 have hlB:(q.addLine l).blocks=q.blocks.dropLast++[q.blocks.getD n []++[l]]:=by
  have:q.blocks.getLastD []=q.blocks.getD n []:=by rw[hB];simp[List.getD_eq_getElem?_getD,hD]
  simp only[QP.addLine,this]
 have ebn:(q.addLine l).blocks.getD n []=q.blocks.getD n []++[l]:=by rw[hlB];simp[List.getD_eq_getElem?_getD,hD]
 have eb:∀j,j<n->(q.addLine l).blocks.getD j []=q.blocks.getD j []:=fun j hj=>by
  rw[hlB,hB];simp[List.getD_eq_getElem?_getD,List.getElem?_append,hD,hj]
 have elen:(q.addLine l).blocks.length=n+1:=by rw[hlB];simp[hD]
 have ev:∀j,¬j=n->(vss.set n (vss.getD n []++[(vp,vn)])).getD j []=vss.getD j []:=fun j hj=>by simp[List.getD_eq_getElem?_getD,List.getElem?_set_ne (Ne.symm hj)]
 have evn:(vss.set n (vss.getD n []++[(vp,vn)])).getD n []=vss.getD n []++[(vp,vn)]:=by simp[List.getD_eq_getElem?_getD,hl,qR]
 have ne2:∀{e:TypeId} {s:Nat} {v:Value} {n':Nat} {xs:List Value},e=119\/e=3->w2.ownsRow z e s v n' xs->(w3.setCell ⟨g',n,none⟩ v').ownsRow z e s v n' xs:=fun he hv=>
  df hv (da hv HN.row (by rcases he with rfl|rfl<;>decide)) (by rcases he with rfl|rfl<;>decide)
 refine⟨h.base,?_,df H.locals (da H.locals HN.row (by decide)) (by decide),?_,fun j hj=> ?_,fun i j hij hj=> ?_⟩
 ·rw[Below.heap_setCell _ _ _ _ (by show a≠g';intro e;rw[e,UQ]at bV;simp only[Option.some.injEq,Obj.cells.injEq]at bV;exact absurd bV.2.1 (by decide))];exact bV
 ·rw[elen];refine⟨by simp[hu,hn],.inr ⟨g',cap,cur.setIfInBounds n v',by rw[e,hn],hzg,Go.Proofs.YtmlgajhhnojdjaaGreatDoor.Aux.heap_setCell_same UQ n v',by omega,XL,by simpa using ly,?_⟩⟩;rw[Array.toList_setIfInBounds,<-htk,hn,List.take_set]
 ·rw[elen]at hj;by_cases P9:j=n
  ·subst P9;rw[eun,ebn,evn];refine⟨by rw[jV,jV,HN.len];rfl,?_,fun i hi=> ?_⟩
   ·have:=av h3 (a:=⟨g',j,none⟩) v' (au h3 UQ (by decide));have e2:iG (q.blocks.getD j []++[l]) (vss.getD j []++[(vp,vn)])=iG (q.blocks.getD j []) (vss.getD j [])++mD (l,vp,vn):=by
     unfold iG;rw[List.zip_append HN.len.symm];simp
    rw[e2];simpa using this
   ·simp at hi;by_cases aL:i<(q.blocks.getD j []).length
    ·have e1:(q.blocks.getD j []++[l]).getD i ab.nil=(q.blocks.getD j []).getD i ab.nil:=by rw[jA,jg aL,<-jA]
     have e2:(vss.getD j []++[(vp,vn)]).getD i (undef,undef)=(vss.getD j []).getD i (undef,undef):=by rw[jA,jg (by rw[HN.len];exact aL),<-jA]
     rw[e1,e2];exact(HN.each i aL).df ne2
    ·have Z2:i=(q.blocks.getD j []).length:=by simp only[List.getD_eq_getElem?_getD]at aL hi⊢;omega
     have e1:(q.blocks.getD j []++[l]).getD i ab.nil=l:=by rw[Z2,jA,jf (jC _)];simp
     have e2:(vss.getD j []++[(vp,vn)]).getD i (undef,undef)=(vp,vn):=by rw[Z2,<-HN.len,jA,jf (jC _)];simp
     rw[e1,e2];exact HL.df ne2
  ·have ou:j<n:=by omega
   rw[eu j P9,eb j ou,ev j P9];refine(H.each j (by omega)).df (df (H.each j (by omega)).row (h.apart j n ou qR) (by decide)) ne2
 ·rw[elen]at hj;by_cases P9:j=n
  ·subst P9;rw[eu i (by omega),eun,hv'];cases hx:(us.getD i undef).ownBlock with
   |none=>exact .inl rfl
   |some g0=>
    refine .inr fun hc=> ?_
    simp only[Option.some.injEq]at hc;subst hc;rcases Er with Er|Er
    ·rcases h.apart i j hij qR with h0|h0
     ·rw[hx]at h0;cases h0
     ·rw[hx,Er]at h0;exact h0 rfl
    ·have:=LG (H.each i (by omega)).row g0 hx;omega
  ·rw[eu i (by omega),eu j P9];exact h.apart i j hij (by omega)
end
end PrjM
namespace PrjO
open Go Go.RowKit Sq Aux PrjF PrjG PrjH PrjI PrjJ PrjK PrjL PrjM PrjN
theorem LZ {z:Nat}{w:World}{v:Value}{S:List (Nat×List B)}{vs:List Value}(h:cS z w v S vs)(hn:0<S.length):∃g cap,v=.slice (some ⟨g,0,none⟩) S.length cap/\S.length<=cap/\g<w.heap.size:=by
 obtain⟨g,cap,hv,hc,hg,-⟩:=dK h.row hn;exact⟨g,cap,hv,hc,hg⟩
theorem zb {z:Nat}{w:World}{g cap:Nat}{S:List (Nat×List B)}{vs:List Value}(h:cS z w (.slice (some ⟨g,0,none⟩) S.length cap) S vs)(j:Nat)(hj:j<S.length):
  w.cell? ⟨g,j*2,none⟩=some (.int .i64 ((S.getD j (0,[])).1:Nat))/\∃gw ow cw,w.cell? ⟨g,j*2+1,none⟩=some (.slice (some ⟨gw,ow,none⟩) (S.getD j (0,[])).2.length cw)/\fO w (.slice (some ⟨gw,ow,none⟩) (S.getD j (0,[])).2.length cw) (S.getD j (0,[])).2:=by
 obtain⟨g',cap',hv,-,-,h1,h2⟩:=h.at j hj;simp only[Value.slice.injEq,Option.some.injEq,Addr.mk.injEq,and_true,true_and]at hv;obtain⟨rfl,rfl⟩:=hv;have h3:=h.each j hj;have Zm:=h3;obtain⟨gw,ow,cw,e,-⟩:=Zm;rw[e]at h2 h3;exact⟨h1,gw,ow,cw,h2,h3⟩
theorem mW (S:List (Nat×List B))(k:Nat)(hk:k<S.length):countB (S.take (k+1))=countB (S.take k)+if(S.getD k (0,[])).1=1 then 1 else 0:=by
 unfold countB;rw[List.take_add_one,jB hk,Option.toList_some,List.filter_append,jV];congr 1;have:S.getD k (0,[])=S[k]:=by simp[List.getD_eq_getElem?_getD,hk]
 rw[this];by_cases h:S[k].1=1
 ·rw[jb h];simp[h]
 ·rw[ja h];simp[h]
theorem countB_le (S:List (Nat×List B)):countB S<=S.length:=List.length_filter_le ..
set_option maxRecDepth 20000 in
theorem zh {z g cap:Nat}{S:List (Nat×List B)}{vs:List Value}(w:World)(h:cS z w (.slice (some ⟨g,0,none⟩) S.length cap) S vs)(hS:S.length<=4000)(_hcap:S.length<=cap):
  Calls Tryz.prog 167 #[.slice (some ⟨g,0,none⟩) S.length cap] w fun e w'=>e=.returned (.int .i64 (countB S:Nat))/\Below w.heap.size w w':=by
 go_enter Tryz.func167,Tryz.ntmps167
 go_wp2
 go_loopw [3,8] (fun n i wr=>∃(k c:Nat),k<=S.length/\c<=k/\i=.int .i64 k/\n=.int .i64 c/\Below w.heap.size w wr/\Hid (c=countB (S.take k))) (fun _ i _=>S.length-(intOf i).toNat)
 case atStart=>exact⟨0,0,jQ _,jC _,rfl,rfl,Below.refl _ _,rfl⟩
 case round=>
  obtain⟨k,c,hk,hc,rfl,rfl,hB,HC⟩:=hrel;by_cases aL:k<S.length
  ·obtain⟨h1,gw,ow,cw,h2,-⟩:=zb (h.below hB) k aL;have HS:Hid (_=_):=mW S k aL;by_cases h1b:(S.getD k (0,[])).1=1
   ·have aw:(((S.getD k (0,[])).1:Int)==1)=true:=by rw[h1b];rfl
    have HQ:Hid ((S.getD k (0,[])).1=1):=h1b;clear h1b;generalize (S.getD k (0,[])).1=op at*;go_wp2
    go_roundw
    case rel=>exact⟨k+1,c+1,by omega,by omega,by go_num,by go_num,hB.alloc hB.size _,by unfold Hid;rw[HS.out,jb HQ.out,HC.out]⟩
    case measure=>simp[intOf];omega
   ·have aw:(((S.getD k (0,[])).1:Int)==1)=false:=by rw[jZ];omega
    have HQ:Hid (¬(S.getD k (0,[])).1=1):=h1b;clear h1b;generalize (S.getD k (0,[])).1=op at*;go_wp2
    go_roundw
    case rel=>exact⟨k+1,c,by omega,by omega,by go_num,by go_num,hB.alloc hB.size _,by unfold Hid;rw[HS.out,ja HQ.out,HC.out];rfl⟩
    case measure=>simp[intOf];omega
  ·go_wp2
   go_ret
   have e:=HC.out;rw[List.take_of_length_le (by omega)]at e;exact⟨by rw[e];rfl,hB⟩
def mc (w:World)(v:Value)(ls:List (B×Nat)):Prop:=∃z,w.ownsRow z 146 2 v ls.length (ra ls)
theorem mc.below {w w':World}{v:Value}{ls:List (B×Nat)}(h:mc w v ls)(hb:Below w.heap.size w w'):mc w' v ls:=by
 obtain⟨z,h⟩:=h;exact⟨z,ay h hb⟩
theorem Dm {w:World}{v:Value}{ls:List (B×Nat)}(h:mc w v ls):(ls=[]/\v=.slice none 0 0)\/∃g cap,v=.slice (some ⟨g,0,none⟩) ls.length cap/\ls.length<=cap/\g<w.heap.size/\∀j,j<ls.length->w.cell? ⟨g,j*2,none⟩=some (.string (bs (ls.getD j ([],0)).1))/\w.cell? ⟨g,j*2+1,none⟩=some (.int .i64 ((ls.getD j ([],0)).2:Nat)):=by
 obtain⟨z,h⟩:=h;rcases h.2 with⟨hv,hn⟩|⟨g,cap,cur,hv,hz,hg,hc,hm,hs,ht⟩
 ·exact .inl ⟨List.eq_nil_of_length_eq_zero hn,hv⟩
 ·refine .inr ⟨g,cap,hv,hc,lt_of_heap hg,fun j hj=> ?_⟩;have key:∀c,c<2->w.cell? ⟨g,j*2+c,none⟩=(zS (ls.getD j ([],0)))[c]?:=fun c oa=>by
   rw[cell_of_heap hg];have:(cur.toList.take (ls.length*2))[j*2+c]?=cur[j*2+c]?:=by
    rw[List.getElem?_take,jb (by omega)];simp
   rw[<-this,ht,ra,jn zS 2 (fun _=>rfl) ls j c oa];simp[hj]
  exact⟨key 0 (by decide),key 1 (by decide)⟩
theorem J1 (ls:List (B×Nat))(n:B)(k:Nat)(hk:k<ls.length):bR (ls.drop k) n k=if(ls.getD k ([],0)).1=n then(k:Int)else bR (ls.drop (k+1)) n (k+1):=by
 rw[jE hk,bR];have:ls.getD k ([],0)=ls[k]:=by simp[List.getD_eq_getElem?_getD,hk]
 rw[this]
theorem G5 (a n:B)(t:Int)(b:Nat)(w:World)(hn:w.cell? ⟨b,0,none⟩=some (.string (bs n)))(hb:b<w.heap.size):
  Calls Tryz.prog 202 #[.agg #[.string (bs a),.int .i64 t],.pointer (some ⟨b,0,none⟩)] w fun e w'=>e=.returned (.bool (a==n))/\Below w.heap.size w w':=by
 have ht:=aE a;have X3:=aE n;have ec:b≠w.heap.size:=by omega
 go_enter Tryz.func202,Tryz.ntmps202
 go_wp2
 go_ret
 exact⟨rfl,(Below.refl _ _).alloc (jC _) _⟩
set_option maxRecDepth 20000 in
theorem Ct (ls:List (B×Nat))(v:Value)(n:B)(b:Nat)(w:World)(hv:mc w v ls)(ie:ls.length<=4000)(hn:w.cell? ⟨b,0,none⟩=some (.string (bs n)))(hb:b<w.heap.size):
  Calls Tryz.prog 201 #[v,.func (.func 202) #[] #[.pointer (some ⟨b,0,none⟩)]] w fun e w'=>e=.returned (.int .i64 (dF ls n))/\Below w.heap.size w w':=by
 rcases Dm hv with⟨rfl,rfl⟩|⟨g,cap,rfl,kM,hg,aD⟩
 ·go_enter Tryz.func201,Tryz.ntmps201
  go_wp2
  go_loopw [8] (fun i wr=>i=.int .i64 0/\wr=w) (fun _ _=>0)
  case atStart=>exact⟨rfl,rfl⟩
  case round=>
   obtain⟨rfl,rfl⟩:=hrel;go_wp2
   go_ret
   exact⟨rfl,Below.refl _ _⟩
 ·have HF:Hid (dF ls n=bR (ls.drop 0) n 0):=rfl;go_enter Tryz.func201,Tryz.ntmps201
  go_wp2
  go_loopw [8] (fun i wr=>∃k:Nat,k<=ls.length/\i=.int .i64 k/\Below w.heap.size w wr/\Hid (dF ls n=bR (ls.drop k) n k)) (fun i _=>ls.length-(intOf i).toNat)
  case atStart=>exact⟨0,jQ _,rfl,Below.refl _ _,HF⟩
  case round=>
   obtain⟨k,hk,rfl,hB,HI⟩:=hrel;by_cases aL:k<ls.length
   ·obtain⟨h1,h2⟩:=aD k aL;have c1:=(hB.cell (p:=⟨g,k*2,none⟩) hg).trans h1;have c2:=(hB.cell (p:=⟨g,k*2+1,none⟩) hg).trans h2;have cn:=(hB.cell (p:=⟨b,0,none⟩) hb).trans hn;have HS:Hid (_=_):=J1 ls n k aL;have KL:=G5 (ls.getD k ([],0)).1 n ((ls.getD k ([],0)).2:Nat) b wr cn (jK hb hB.size);clear h1 h2 aD;generalize (ls.getD k ([],0)).1=a at*;generalize (ls.getD k ([],0)).2=t at*;by_cases hq:a=n
    ·have RN:(a==n)=true:=by simp[hq]
     have HQ:Hid (a=n):=hq;rw[RN]at KL;clear hq RN;go_wp2_with (go_at_call 202;refine KL.mono ?_;rintro e w1 ⟨rfl,aw⟩)
     go_ret
     exact⟨by rw[HI.out,HS.out,jb HQ.out];rfl,hB.trans (aw.mono hB.size)⟩
    ·have RN:(a==n)=false:=by simp[hq]
     have HQ:Hid (¬a=n):=hq;rw[RN]at KL;clear hq RN;go_wp2_with (go_at_call 202;refine KL.mono ?_;rintro e w1 ⟨rfl,aw⟩)
     go_roundw
     case rel=>exact⟨k+1,by omega,by go_num,hB.trans (aw.mono hB.size),by unfold Hid;rw[HI.out,HS.out,ja HQ.out]⟩
     case measure=>simp[intOf];omega
   ·have e:dF ls n= -1:=by rw[HI.out,jT (by omega)];rfl
    go_wp2
    go_ret
    exact⟨by rw[e];rfl,hB⟩
set_option maxRecDepth 20000 in
theorem mi (ls:List (B×Nat))(v u:Value)(n:B)(a:Nat)(w:World)(hp:w.heap[a]?=some (.cells #[v,u] 110 (0,0)))(hv:mc w v ls)(ie:ls.length<=4000):
  Calls Tryz.prog 168 #[.pointer (some ⟨a,0,none⟩),.string (bs n)] w fun e w'=>e=.returned (.int .i64 (dF ls n))/\Below w.heap.size w w':=by
 have lI:Below w.heap.size w (w.alloc (.cells #[.string (bs n)] 9)):=(Below.refl _ _).alloc (jC _) _;have KI:=Ct ls v n w.heap.size (w.alloc (.cells #[.string (bs n)] 9)) (hv.below lI) ie (by simp) (by simp);have aL:=lt_of_heap hp;have hc:w.cell? ⟨a,0,none⟩=some v:=by rw[cell_of_heap hp];rfl
 have ec:a≠w.heap.size:=by omega
 have hmf:∀(fn:Fn) (first cap:Array Value) (w:World),(Instr.makeFunc fn first cap).run Tryz.prog w=.ok (.func fn first cap) w:=fun _ _ _ _=>rfl
 go_enter Tryz.func168,Tryz.ntmps168
 go_wp2_with (go_at_call 201;refine KI.mono ?_;rintro e w1 ⟨rfl,aw⟩)
 go_ret
 exact⟨rfl,lI.trans (aw.mono lI.size)⟩
end PrjO
end Go.Proofs.YtmlgajhhnojdjaaGreatDoor

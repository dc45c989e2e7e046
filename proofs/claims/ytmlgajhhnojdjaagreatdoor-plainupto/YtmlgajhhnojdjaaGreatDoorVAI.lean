import Derived.Test.YtmlgajhhnojdjaaGreatDoorVAH
namespace Go.Proofs.YtmlgajhhnojdjaaGreatDoor
namespace Aux
open Go Go.RowKit Sq
section
variable {P:Program} {w:World} {ops:Array Oper} {rest:List Oper} {o:Oper} {a:Act} {Q:Exit->Act->World->Prop}
theorem fF (DU:o.guard=none)(s x:Operand)(t:TypeId)
  (ho:o.op=.call {callee:=.builtin .append,args:= #[s,x],argTypes:= #[t,t]})
  (base:Nat) (e:TypeId) (i:TypeInfo) (z:Value) (size bytes:Nat) (ht:P.underlying t=some (.slice e)) (hi:P.info? e=some i) (hz:i.zero=some z)
  (hsize:i.size=size) (ES:i.bytes=bytes) (hzs:z.cells.size=size) (gP:0<size)
  (v:Value) (n:Nat) (xs:List Value) (hs:a.eval s=v) (eG:w.ownsRow base e size v n xs)
  (g0:Nat) (us:List Value) (hx:a.eval x=.slice (some ⟨g0,0,none⟩) 1 1) {e':TypeId} {fr:Nat×Nat} (cW:w.heap[g0]?=some (.cells us.toArray e' fr)) (SW:us.length=size) (h1:∀u∈us,u.oneCell'=true)
  (aB:1<=bytes) (hbytes:(n+1)*bytes<=140737488355328) (hbase:base<=w.heap.size)
  (h:∀g cap w',w'.ownsRow base e size (.slice (some ⟨g,0,none⟩) (n+1) cap) (n+1) (xs++us)->w.grownBy w' v.ownBlock->(v.ownBlock=some g\/g=w.heap.size)->g<w'.heap.size->wpList P ops Q rest (a.put o.dst (.slice (some ⟨g,0,none⟩) (n+1) cap)) w'):wpList P ops Q (o::rest) a w:=by
 refine wpList_append_lies _ DU s x t ho base e i z size bytes ht hi hz hsize ES hzs gP v n xs hs eG ⟨g0,0,none⟩ 1 1 us hx (by omega) ?_ h1 (by decide) ?_ hbytes hbase w.heap.size rfl h
 ·exact World.news_of_block cW
 ·have:n+1<=(n+1)*bytes:=Nat.le_mul_of_pos_right _ aB;unfold maxLen;omega
theorem tT {K:Act->World->Prop}{E:Prop}(DU:o.guard=none)(s x:Operand)(t:TypeId)
  (ho:o.op=.call {callee:=.builtin .append,args:= #[s,x],argTypes:= #[t,t]})
  (base:Nat) (e:TypeId) (i:TypeInfo) (z:Value) (size bytes:Nat) (ht:P.underlying t=some (.slice e)) (hi:P.info? e=some i) (hz:i.zero=some z)
  (hsize:i.size=size) (ES:i.bytes=bytes) (hzs:z.cells.size=size) (gP:0<size)
  (v:Value) (n:Nat) (xs:List Value) (hs:a.eval s=v) (eG:w.ownsRow base e size v n xs)
  (g0:Nat) (us:List Value) (hx:a.eval x=.slice (some ⟨g0,0,none⟩) 1 1) {e':TypeId} {fr:Nat×Nat} (cW:w.heap[g0]?=some (.cells us.toArray e' fr)) (SW:us.length=size) (h1:∀u∈us,u.oneCell'=true)
  (aB:1<=bytes) (hbytes:(n+1)*bytes<=140737488355328) (hbase:base<=w.heap.size)
  (h:∀g cap w',w'.ownsRow base e size (.slice (some ⟨g,0,none⟩) (n+1) cap) (n+1) (xs++us)->w.grownBy w' v.ownBlock->(v.ownBlock=some g\/g=w.heap.size)->g<w'.heap.size->K (a.put o.dst (.slice (some ⟨g,0,none⟩) (n+1) cap)) w'):
  if Region.wanted o (yielded ops a.tmps)=true then Oper.wp P o a w K Q else E:=by
 refine step_append_lies _ DU s x t ho base e i z size bytes ht hi hz hsize ES hzs gP v n xs hs eG ⟨g0,0,none⟩ 1 1 us hx (by omega) ?_ h1 (by decide) ?_ hbytes hbase w.heap.size rfl h
 ·exact World.news_of_block cW
 ·have:n+1<=(n+1)*bytes:=Nat.le_mul_of_pos_right _ aB;unfold maxLen;omega
end
theorem fk {α:Type}(f:α->List Value)(m:Nat)(hf:∀x,(f x).length=m):∀(l:List α) (j c:Nat),c<m->(l.flatMap f)[j*m+c]?=(l[j]?).bind fun x=>(f x)[c]?
 |[],j,c,_=>by simp
 |x::l,0,c,hc=>by
  rw[List.flatMap_cons,Nat.zero_mul,Nat.zero_add,jg (by rw[hf];exact hc)];rfl
 |x::l,j+1,c,hc=>by
  have e:(j+1)*m+c=m+(j*m+c):=by rw[Nat.add_mul];omega
  rw[List.flatMap_cons,e,jf (by rw[hf];omega),hf,Nat.add_sub_cancel_left,fk f m hf l j c hc];rfl
theorem lM {α:Type}(f:α->List Value)(m:Nat)(hf:∀x,(f x).length=m):∀(l:List α),(l.flatMap f).length=l.length*m
 |[]=>by simp
 |x::l=>by rw[List.flatMap_cons,jV,hf,lM f m hf l,jY,Nat.add_mul];omega
theorem bL {w:World}{base:Nat}{e:TypeId}{size:Nat}{v:Value}{n:Nat}{xs:List Value}(h:w.ownsRow base e size v n xs)(hn:0<n):
  ∃g cap,v=.slice (some ⟨g,0,none⟩) n cap/\n<=cap/\g<w.heap.size/\∀j,j<n*size->w.cell? ⟨g,j,none⟩=xs[j]?:=by
 have hl:=h.lt;obtain⟨h0,h⟩:=h;rcases h with⟨-,h⟩|⟨g,cap,cur,rfl,hb,hg,hc,hm,hs,ht⟩
 ·omega
 ·refine⟨g,cap,rfl,hc,(hl g rfl).2,fun j hj=> ?_⟩;rw[cell_of_heap hg];have:(cur.toList.take (n*size))[j]?=cur[j]?:=by
   rw[List.getElem?_take,jb hj];simp
  rw[<-this,ht]
end Aux
namespace PrjL
open Go Go.RowKit Sq Aux PrjF PrjG PrjH PrjI PrjJ PrjK
theorem zj (raw:Bool)(o:di)(op:Nat):(aq raw o op).1.locals<=o.locals+1/\(aq raw o op).1.blocks<=o.blocks+1:=by
 unfold aq
 repeat (first|(split;(first|exact⟨by simp,by simp⟩|skip))|exact⟨by simp,by simp⟩)
structure iG (raw:Bool)(LS:List (List B))(k:Nat)(done:List (Nat×List B))(o:di):Prop where
 same:ar raw LS ⟨0,0,0⟩ 0=(done++(ar raw (LS.drop k) o k).1,(ar raw (LS.drop k) o k).2)
 len:done.length=k
 sec:o.sec<=2
 jt:o.locals<=k/\o.blocks<=k
theorem iG.start (raw:Bool)(LS:List (List B)):iG raw LS 0 [] ⟨0,0,0⟩:=⟨rfl,rfl,by simp,by simp⟩
theorem iG.bad {raw:Bool}{LS:List (List B)}{k:Nat}{done:List (Nat×List B)}{o:di}(h:iG raw LS k done o)(hk:k<LS.length)(hs:bW LS[k]=none):(ar raw LS ⟨0,0,0⟩ 0).2.2=some k:=by
 rw[h.same,jE hk,ar,hs]
theorem iG.out {raw:Bool}{LS:List (List B)}{k:Nat}{done:List (Nat×List B)}{o:di}(h:iG raw LS k done o)(hk:k<LS.length){x:Nat×List B}(hs:bW LS[k]=some x)(ha:(aq raw o x.1).2=false):(ar raw LS ⟨0,0,0⟩ 0).2.2=some k:=by
 rw[h.same,jE hk,ar,hs];simp only;rw[ja (by rw[ha];simp)]
theorem iG.on {raw:Bool}{LS:List (List B)}{k:Nat}{done:List (Nat×List B)}{o:di}(h:iG raw LS k done o)(hk:k<LS.length){x:Nat×List B}(hs:bW LS[k]=some x)(ha:(aq raw o x.1).2=true):iG raw LS (k+1) (done++[x]) (aq raw o x.1).1:=by
 refine⟨?_,by simp[h.len],lE raw o x.1 h.sec,?_⟩
 ·rw[h.same,jE hk,ar,hs];simp only;rw[jb ha];simp
 ·have:=zj raw o x.1;have:=h.jt;omega
theorem iG.whole {raw:Bool}{LS:List (List B)}{k:Nat}{done:List (Nat×List B)}{o:di}(h:iG raw LS k done o)(hk:¬k<LS.length):ar raw LS ⟨0,0,0⟩ 0=(done,o,none):=by
 rw[h.same,jT (by omega),ar];simp
def ke (S:List (Nat×List B))(vs:List Value):List Value:=(S.zip vs).flatMap fun x=>[.int .i64 (x.1.1:Nat),x.2]
structure bT (z:Nat)(w:World)(v:Value)(S:List (Nat×List B))(vs:List Value):Prop where
 len:vs.length=S.length
 row:w.ownsRow z 240 2 v S.length (ke S vs)
 each:∀j,j<S.length->dO w (vs.getD j undef) (S.getD j (0,[])).2
theorem bT.nil (z:Nat)(w:World):bT z w (.slice none 0 0) [] []:=⟨rfl,World.ownsRow_nil _ _ _ _,fun j hj=>by simp at hj⟩
theorem bT.below {z:Nat}{w w':World}{v:Value}{S:List (Nat×List B)}{vs:List Value}(h:bT z w v S vs)(hb:Below w.heap.size w w'):bT z w' v S vs:=
 ⟨h.len,al h.row hb,fun j hj=>(h.each j hj).below hb⟩
theorem kX {w w':World}{v:Value}{L:List B}(h:dO w v L)(hb:∀(g:Nat) (cs:Array Value) (f:Nat×Nat),w.heap[g]?=some (.cells cs 9 f)->w'.heap[g]?=w.heap[g]?):dO w' v L:=by
 obtain⟨g,o,cap,rfl,hc,⟨cs,f,hg⟩,aQ⟩:=h;have e:=hb g cs f hg;refine⟨g,o,cap,rfl,hc,⟨cs,f,e.trans hg⟩,fun j hj=> ?_⟩;have:=aQ j hj;simp only[World.cell?]at this⊢;rw[e];exact this
theorem aF {w:World}{z:Nat}{e e':TypeId}{size:Nat}{v:Value}{n:Nat}{xs:List Value}(h:w.ownsRow z e size v n xs){g:Nat}{cs:Array Value}{f:Nat×Nat}(hg:w.heap[g]?=some (.cells cs e' f))(he:e≠e'):some g≠v.ownBlock:=
 fun x=>az h hg he x.symm
theorem bT.iF {z b:Nat}{w w':World}{v:Value}{S:List (Nat×List B)}{vs:List Value}(h:bT z w v S vs)(hb:aW b w w'){cs:Array Value}{f:Nat×Nat}(ho:w.heap[b]?=some (.cells cs 238 f)):bT z w' v S vs:=by
 have key:∀(g:Nat) (cs':Array Value) (e':TypeId) (f':Nat×Nat),w.heap[g]?=some (.cells cs' e' f')->e'≠238->w'.heap[g]?=w.heap[g]?:=fun g cs' e' f' hg he=>hb.block g (lt_of_heap hg) (fun x=>by
  subst x;rw[ho]at hg;simp only[Option.some.injEq,Obj.cells.injEq]at hg;exact he hg.2.1.symm)
 refine⟨h.len,dH h.row (fun g hg=> ?_),fun j hj=>kX (h.each j hj) fun g cs' f' hg=>key g cs' _ f' hg (by decide)⟩;rcases h.row.2 with⟨rfl,-⟩|⟨g',cap,cur,rfl,-,Ck,-⟩
 ·cases hg
 ·simp only[Value.ownBlock,Option.some.injEq]at hg;subst hg;exact key _ _ _ _ Ck (by decide)
theorem bT.more {z:Nat}{w w2 w3:World}{v v' u:Value}{S:List (Nat×List B)}{vs:List Value}(h:bT z w v S vs)(x:Nat×List B)(hu:dO w u x.2)(h2:Below w.heap.size w w2)
  (h3:w3.ownsRow z 240 2 v' (S.length+1) (ke S vs++[.int .i64 (x.1:Nat),u])) (hg:w2.grownBy w3 v.ownBlock):bT z w3 v' (S++[x]) (vs++[u]):=by
 have H:=h.below h2;have UJ:=hu.below h2;have bE:∀(g:Nat) (cs:Array Value) (f:Nat×Nat),w2.heap[g]?=some (.cells cs 9 f)->w3.heap[g]?=w2.heap[g]?:=fun g cs f qS=>hg.block g (lt_of_heap qS) (aF H.row qS (by decide))
 refine⟨by simp[h.len],?_,fun j hj=> ?_⟩
 ·have:ke (S++[x]) (vs++[u])=ke S vs++[.int .i64 (x.1:Nat),u]:=by
   unfold ke;rw[List.zip_append h.len.symm];simp
  rw[this];simpa using h3
 ·simp at hj;by_cases aP:j<S.length
  ·have e1:(vs++[u]).getD j undef=vs.getD j undef:=by simp[List.getD_eq_getElem?_getD,List.getElem?_append,h.len,aP]
   have e2:(S++[x]).getD j (0,[])=S.getD j (0,[]):=by simp[List.getD_eq_getElem?_getD,List.getElem?_append,aP]
   rw[e1,e2];exact kX (H.each j aP) bE
  ·obtain rfl:j=S.length:=by omega
   have e1:(vs++[u]).getD S.length undef=u:=by simp[List.getD_eq_getElem?_getD,<-h.len]
   have e2:(S++[x]).getD S.length (0,[])=x:=by simp[List.getD_eq_getElem?_getD]
   rw[e1,e2];exact kX UJ bE
theorem bT.at {z:Nat}{w:World}{v:Value}{S:List (Nat×List B)}{vs:List Value}(h:bT z w v S vs)(j:Nat)(hj:j<S.length):
  ∃g cap,v=.slice (some ⟨g,0,none⟩) S.length cap/\S.length<=cap/\g<w.heap.size/\w.cell? ⟨g,j*2,none⟩=some (.int .i64 ((S.getD j (0,[])).1:Nat))/\w.cell? ⟨g,j*2+1,none⟩=some (vs.getD j undef):=by
 obtain⟨g,cap,hv,hc,aP,aQ⟩:=bL h.row (by omega);have hz:(S.zip vs)[j]?=some (S.getD j (0,[]),vs.getD j undef):=by
  have:j<vs.length:=by rw[h.len];exact hj
  simp[List.getElem?_zip_eq_some,hj,this]
 have f0:=fk (fun x:(Nat×List B)×Value=>[.int .i64 (x.1.1:Nat),x.2]) 2 (fun _=>rfl) (S.zip vs) j 0 (by decide);have f1:=fk (fun x:(Nat×List B)×Value=>[.int .i64 (x.1.1:Nat),x.2]) 2 (fun _=>rfl) (S.zip vs) j 1 (by decide);rw[hz]at f0 f1;exact⟨g,cap,hv,hc,aP,(aQ (j*2) (by omega)).trans f0,(aQ (j*2+1) (by omega)).trans f1⟩
end PrjL
namespace PrjM
open Go Go.RowKit Sq Aux PrjF PrjG PrjH PrjI PrjJ PrjK PrjL
def sc (x:B×Nat):List Value:=[.string (bs x.1),.int .i64 (x.2:Nat)]
def lZ (ls:List (B×Nat)):List Value:=ls.flatMap sc
def qw (x:Nat×Nat):List Value:=[.int .i64 (x.1:Nat),.int .i64 (x.2:Nat)]
def aM (ls:List (Nat×Nat)):List Value:=ls.flatMap qw
def cT (x:ab×Value×Value):List Value:=[.int .i64 (x.1.num:Nat),.int .i64 (x.1.op:Nat),x.2.1,.int .i64 x.1.number,.int .i64 x.1.flag,x.2.2]
def aK (ls:List ab)(vs:List (Value×Value)):List Value:=(ls.zip vs).flatMap cT
def ab.nil:ab:=⟨0,0,[],0,0,[]⟩
structure aE (z:Nat)(w:World)(l:ab)(vp vn:Value):Prop where
 places:w.ownsRow z 119 2 vp l.places.length (aM l.places)
 next:w.ownsRow z 3 1 vn l.next.length (df l.next)
structure cH (z:Nat)(w:World)(v:Value)(ls:List ab)(vs:List (Value×Value)):Prop where
 len:vs.length=ls.length
 row:w.ownsRow z 115 6 v ls.length (aK ls vs)
 each:∀j,j<ls.length->aE z w (ls.getD j ab.nil) (vs.getD j (undef,undef)).1 (vs.getD j (undef,undef)).2
structure fe (z a:Nat)(w:World)(q:QP)(vl vb:Value)(us:List Value)(vss:List (List (Value×Value))):Prop where
 base:z<=a
 aD:w.heap[a]?=some (.cells #[vl,vb] 110 (0,0))
 locals:w.ownsRow z 146 2 vl q.locals.length (lZ q.locals)
 blocks:w.ownsRow z 106 1 vb q.blocks.length us
 each:∀j,j<q.blocks.length->cH z w (us.getD j undef) (q.blocks.getD j []) (vss.getD j [])
 apart:∀i j,i<j->j<q.blocks.length->(us.getD i undef).ownBlock=none\/(us.getD i undef).ownBlock≠(us.getD j undef).ownBlock
section
variable {z a:Nat} {w w' w2 w3:World} {q:QP} {vl vb v':Value} {us:List Value} {vss:List (List (Value×Value))}
theorem fe.L9 (h:fe z a w q vl vb us vss):us.length=q.blocks.length:=by have:=h.blocks.1;omega
theorem fe.lt (h:fe z a w q vl vb us vss):a<w.heap.size:=lt_of_heap h.aD
theorem aE.bE {l:ab}{vp vn:Value}(h:aE z w l vp vn)(k:∀{e:TypeId} {s:Nat} {v:Value} {n:Nat} {xs:List Value},e=119\/e=3->w.ownsRow z e s v n xs->w'.ownsRow z e s v n xs):aE z w' l vp vn:=
 ⟨k (.inl rfl) h.places,k (.inr rfl) h.next⟩
theorem cH.bE {v:Value}{ls:List ab}{vs:List (Value×Value)}(h:cH z w v ls vs)(hr:w'.ownsRow z 115 6 v ls.length (aK ls vs))
  (k:∀{e:TypeId} {s:Nat} {v:Value} {n:Nat} {xs:List Value},e=119\/e=3->w.ownsRow z e s v n xs->w'.ownsRow z e s v n xs):cH z w' v ls vs:=
 ⟨h.len,hr,fun j hj=>(h.each j hj).bE k⟩
theorem aE.below {l:ab}{vp vn:Value}(h:aE z w l vp vn)(hb:Below w.heap.size w w'):aE z w' l vp vn:=h.bE fun _ h=>al h hb
theorem cH.below {v:Value}{ls:List ab}{vs:List (Value×Value)}(h:cH z w v ls vs)(hb:Below w.heap.size w w'):cH z w' v ls vs:=h.bE (al h.row hb) fun _ h=>al h hb
theorem fe.below (h:fe z a w q vl vb us vss)(hb:Below w.heap.size w w'):fe z a w' q vl vb us vss:=
 ⟨h.base,by rw[hb.block a h.lt];exact h.aD,al h.locals hb,al h.blocks hb,fun j hj=>(h.each j hj).below hb,h.apart⟩
theorem fe.start (z:Nat)(w:World)(hz:z<=w.heap.size):fe z w.heap.size (w.alloc (.cells #[.slice none 0 0,.slice none 0 0] 110)) QP.empty (.slice none 0 0) (.slice none 0 0) [] []:=
 ⟨hz,by show(w.heap.push _)[w.heap.size]?=_;simp,World.ownsRow_nil _ _ _ _,World.ownsRow_nil _ _ _ _,fun j hj=>by simp[QP.empty]at hj,fun i j _ hj=>by simp[QP.empty]at hj⟩
theorem fe.addLocal (h:fe z a w q vl vb us vss)(x:B×Nat)(h2:Below w.heap.size w w2)
  (h3:w3.ownsRow z 146 2 v' (q.locals.length+1) (lZ q.locals++sc x)) (hg:w2.grownBy w3 vl.ownBlock):
  fe z a (w3.setCell ⟨a,0,none⟩ v') (q.addLocal x) v' vb us vss:=by
 have H:=h.below h2;have c8:some a≠vl.ownBlock:=aF H.locals H.aD (by decide);have cW:w3.heap[a]?=some (.cells #[vl,vb] 110 (0,0)):=by rw[hg.block a H.lt c8];exact H.aD
 have bE:∀{e:TypeId} {s:Nat} {v:Value} {n:Nat} {xs:List Value},w2.ownsRow z e s v n xs->e≠146->e≠110->(w3.setCell ⟨a,0,none⟩ v').ownsRow z e s v n xs:=by
  intro e s v n xs hv he he';have hk:=hv.kept hg (cJ hv H.locals he);exact aC hk _ (az hk cW he')
 refine⟨h.base,?_,?_,bE H.blocks (by decide) (by decide),fun j hj=>(H.each j hj).bE (bE (H.each j hj).row (by decide) (by decide)) (fun he hv=>bE hv ?_ ?_),h.apart⟩
 ·rw[Go.Proofs.YtmlgajhhnojdjaaGreatDoor.Aux.heap_setCell_same cW];rfl
 ·have:=aC h3 (a:=⟨a,0,none⟩) v' (az h3 cW (by decide));simpa [QP.addLocal,lZ]using this
 ·rcases he with rfl|rfl<;>decide
 ·rcases he with rfl|rfl<;>decide
theorem fe.addBlock (h:fe z a w q vl vb us vss)(hl:vss.length=q.blocks.length)(h2:Below w.heap.size w w2)
  (h3:w3.ownsRow z 106 1 v' (q.blocks.length+1) (us++[.slice none 0 0])) (hg:w2.grownBy w3 vb.ownBlock):
  fe z a (w3.setCell ⟨a,1,none⟩ v') q.addBlock vl v' (us++[.slice none 0 0]) (vss++[[]]):=by
 have H:=h.below h2;have hu:=h.L9;have c8:some a≠vb.ownBlock:=aF H.blocks H.aD (by decide);have cW:w3.heap[a]?=some (.cells #[vl,vb] 110 (0,0)):=by rw[hg.block a H.lt c8];exact H.aD
 have bE:∀{e:TypeId} {s:Nat} {v:Value} {n:Nat} {xs:List Value},w2.ownsRow z e s v n xs->e≠106->e≠110->(w3.setCell ⟨a,1,none⟩ v').ownsRow z e s v n xs:=by
  intro e s v n xs hv he he';have hk:=hv.kept hg (cJ hv H.blocks he);exact aC hk _ (az hk cW he')
 have eu:∀j,j<q.blocks.length->(us++[Value.slice none 0 0]).getD j undef=us.getD j undef:=fun j hj=>by simp[List.getD_eq_getElem?_getD,List.getElem?_append,hu,hj]
 have el:(us++[Value.slice none 0 0]).getD q.blocks.length undef=.slice none 0 0:=by simp[List.getD_eq_getElem?_getD,<-hu]
 refine⟨h.base,?_,bE H.locals (by decide) (by decide),?_,fun j hj=> ?_,fun i j hij hj=> ?_⟩
 ·rw[Go.Proofs.YtmlgajhhnojdjaaGreatDoor.Aux.heap_setCell_same cW];rfl
 ·have:=aC h3 (a:=⟨a,1,none⟩) v' (az h3 cW (by decide));simpa [QP.addBlock]using this
 ·simp only[QP.addBlock,List.length_append,List.length_singleton]at hj;by_cases aP:j<q.blocks.length
  ·have e2:q.addBlock.blocks.getD j []=q.blocks.getD j []:=by simp[QP.addBlock,List.getD_eq_getElem?_getD,List.getElem?_append,aP]
   have e3:(vss++[[]]).getD j []=vss.getD j []:=by simp[List.getD_eq_getElem?_getD,List.getElem?_append,hl,aP]
   rw[eu j aP,e2,e3];refine(H.each j aP).bE (bE (H.each j aP).row (by decide) (by decide)) (fun he hv=>bE hv ?_ ?_)
   ·rcases he with rfl|rfl<;>decide
   ·rcases he with rfl|rfl<;>decide
  ·obtain rfl:j=q.blocks.length:=by omega
   have e2:q.addBlock.blocks.getD q.blocks.length []=[]:=by simp[QP.addBlock,List.getD_eq_getElem?_getD]
   have e3:(vss++[[]]).getD q.blocks.length []=[]:=by simp[List.getD_eq_getElem?_getD,<-hl]
   rw[el,e2,e3];exact⟨rfl,World.ownsRow_nil _ _ _ _,fun j hj=>by simp at hj⟩
 ·simp only[QP.addBlock,List.length_append,List.length_singleton]at hj;by_cases aP:j<q.blocks.length
  ·rw[eu j aP,eu i (by omega)];exact h.apart i j hij aP
  ·obtain rfl:j=q.blocks.length:=by omega
   rw[eu i (by omega),el];cases hx:(us.getD i undef).ownBlock with
   |none=>exact .inl rfl
   |some g=>exact .inr (by simp[Value.ownBlock])
theorem fe.addLine (h:fe z a w q vl vb us vss)(hl:vss.length=q.blocks.length)(n:Nat)(hn:q.blocks.length=n+1)(l:ab)(vp vn:Value)(hL:aE z w l vp vn)(h2:Below w.heap.size w w2)
  {gb cb:Nat} (vy:vb=.slice (some ⟨gb,0,none⟩) (n+1) cb) {g:Nat} (hv':v'.ownBlock=some g) (km:(us.getD n undef).ownBlock=some g\/w2.heap.size<=g)
  (h3:w3.ownsRow z 115 6 v' ((q.blocks.getD n []).length+1) (aK (q.blocks.getD n []) (vss.getD n [])++cT (l,vp,vn))) (hg:w2.grownBy w3 (us.getD n undef).ownBlock):
  fe z a (w3.setCell ⟨gb,n,none⟩ v') (q.addLine l) vl vb (us.set n v') (vss.set n (vss.getD n []++[(vp,vn)])):=by
 have H:=h.below h2;have HL:=hL.below h2;have hu:=h.L9;have gj:n<q.blocks.length:=by omega
 have HN:=H.each n gj;have c8:some a≠(us.getD n undef).ownBlock:=aF HN.row H.aD (by decide);have cW:w3.heap[a]?=some (.cells #[vl,vb] 110 (0,0)):=by rw[hg.block a H.lt c8];exact H.aD
 have S2:w3.ownsRow z 106 1 vb q.blocks.length us:=H.blocks.kept hg (cJ H.blocks HN.row (by decide));obtain⟨g',cap,cur,e,UT,yn,gK,Ii,gP,Pu⟩:∃g' cap cur,vb=.slice (some ⟨g',0,none⟩) q.blocks.length cap/\z<=g'/\w3.heap[g']?=some (.cells cur 106 (0,0))/\q.blocks.length<=cap/\cap<=maxLen/\cur.size=cap*1/\cur.toList.take (q.blocks.length*1)=us:=by
  rcases S2.2 with⟨e,-⟩|⟨g',cap,cur,e,r⟩
  ·rw[vy]at e;cases e
  ·exact⟨g',cap,cur,e,r⟩
 have:g'=gb:=by rw[vy]at e;simp only[Value.slice.injEq,Option.some.injEq,Addr.mk.injEq]at e;exact e.1.1.symm
 subst this;have bE:∀{e:TypeId} {s:Nat} {v:Value} {n':Nat} {xs:List Value},w2.ownsRow z e s v n' xs->(v.ownBlock=none\/v.ownBlock≠(us.getD n undef).ownBlock)->e≠106->(w3.setCell ⟨g',n,none⟩ v').ownsRow z e s v n' xs:=by
  intro e s v n' xs hv E5 he';have hk:=hv.kept hg E5;exact aC hk _ (az hk yn he')
 have eu:∀j,¬j=n->(us.set n v').getD j undef=us.getD j undef:=fun j hj=>by simp[List.getD_eq_getElem?_getD,List.getElem?_set_ne (Ne.symm hj)]
 have eun:(us.set n v').getD n undef=v':=by simp[List.getD_eq_getElem?_getD,hu,gj]
 have hB:q.blocks=q.blocks.dropLast++[q.blocks.getD n []]:=by
  have c8:q.blocks≠[]:=by intro e;rw[e]at gj;simp at gj
  conv=>lhs;rw[<-List.dropLast_concat_getLast c8]
  congr 2;rw[List.getLast_eq_getElem];simp[List.getD_eq_getElem?_getD,hn]
 have hD:q.blocks.dropLast.length=n:=by simp[hn]
 have Uk:(q.addLine l).blocks=q.blocks.dropLast++[q.blocks.getD n []++[l]]:=by
  have:q.blocks.getLastD []=q.blocks.getD n []:=by rw[hB];simp[List.getD_eq_getElem?_getD,hD]
  simp only[QP.addLine,this]
 have ebn:(q.addLine l).blocks.getD n []=q.blocks.getD n []++[l]:=by rw[Uk];simp[List.getD_eq_getElem?_getD,hD]
 have eb:∀j,j<n->(q.addLine l).blocks.getD j []=q.blocks.getD j []:=fun j hj=>by
  rw[Uk,hB];simp[List.getD_eq_getElem?_getD,List.getElem?_append,hD,hj]
 have elen:(q.addLine l).blocks.length=n+1:=by rw[Uk];simp[hD]
 have ev:∀j,¬j=n->(vss.set n (vss.getD n []++[(vp,vn)])).getD j []=vss.getD j []:=fun j hj=>by simp[List.getD_eq_getElem?_getD,List.getElem?_set_ne (Ne.symm hj)]
 have evn:(vss.set n (vss.getD n []++[(vp,vn)])).getD n []=vss.getD n []++[(vp,vn)]:=by simp[List.getD_eq_getElem?_getD,hl,gj]
 have ne2:∀{e:TypeId} {s:Nat} {v:Value} {n':Nat} {xs:List Value},e=119\/e=3->w2.ownsRow z e s v n' xs->(w3.setCell ⟨g',n,none⟩ v').ownsRow z e s v n' xs:=fun he hv=>
  bE hv (cJ hv HN.row (by rcases he with rfl|rfl<;>decide)) (by rcases he with rfl|rfl<;>decide)
 refine⟨h.base,?_,bE H.locals (cJ H.locals HN.row (by decide)) (by decide),?_,fun j hj=> ?_,fun i j hij hj=> ?_⟩
 ·rw[Below.heap_setCell _ _ _ _ (by show a≠g';intro e;rw[e,yn]at cW;simp only[Option.some.injEq,Obj.cells.injEq]at cW;exact absurd cW.2.1 (by decide))];exact cW
 ·rw[elen];refine⟨by simp[hu,hn],.inr ⟨g',cap,cur.setIfInBounds n v',by rw[e,hn],UT,Go.Proofs.YtmlgajhhnojdjaaGreatDoor.Aux.heap_setCell_same yn n v',by omega,Ii,by simpa using gP,?_⟩⟩;rw[Array.toList_setIfInBounds,<-Pu,hn,List.take_set]
 ·rw[elen]at hj;by_cases hjn:j=n
  ·subst hjn;rw[eun,ebn,evn];refine⟨by rw[jV,jV,HN.len];rfl,?_,fun i hi=> ?_⟩
   ·have:=aC h3 (a:=⟨g',j,none⟩) v' (az h3 yn (by decide));have e2:aK (q.blocks.getD j []++[l]) (vss.getD j []++[(vp,vn)])=aK (q.blocks.getD j []) (vss.getD j [])++cT (l,vp,vn):=by
     unfold aK;rw[List.zip_append HN.len.symm];simp
    rw[e2];simpa using this
   ·simp at hi;by_cases aP:i<(q.blocks.getD j []).length
    ·have e1:(q.blocks.getD j []++[l]).getD i ab.nil=(q.blocks.getD j []).getD i ab.nil:=by rw[jA,jg aP,<-jA]
     have e2:(vss.getD j []++[(vp,vn)]).getD i (undef,undef)=(vss.getD j []).getD i (undef,undef):=by rw[jA,jg (by rw[HN.len];exact aP),<-jA]
     rw[e1,e2];exact(HN.each i aP).bE ne2
    ·have NU:i=(q.blocks.getD j []).length:=by simp only[List.getD_eq_getElem?_getD]at aP hi⊢;omega
     have e1:(q.blocks.getD j []++[l]).getD i ab.nil=l:=by rw[NU,jA,jf (jC _)];simp
     have e2:(vss.getD j []++[(vp,vn)]).getD i (undef,undef)=(vp,vn):=by rw[NU,<-HN.len,jA,jf (jC _)];simp
     rw[e1,e2];exact HL.bE ne2
  ·have zb:j<n:=by omega
   rw[eu j hjn,eb j zb,ev j hjn];refine(H.each j (by omega)).bE (bE (H.each j (by omega)).row (h.apart j n zb gj) (by decide)) ne2
 ·rw[elen]at hj;by_cases hjn:j=n
  ·subst hjn;rw[eu i (by omega),eun,hv'];cases hx:(us.getD i undef).ownBlock with
   |none=>exact .inl rfl
   |some g0=>
    refine .inr fun hc=> ?_
    simp only[Option.some.injEq]at hc;subst hc;rcases km with km|km
    ·rcases h.apart i j hij gj with h0|h0
     ·rw[hx]at h0;cases h0
     ·rw[hx,km]at h0;exact h0 rfl
    ·have:=I3 (H.each i (by omega)).row g0 hx;omega
  ·rw[eu i (by omega),eu j hjn];exact h.apart i j hij (by omega)
end
end PrjM
end Go.Proofs.YtmlgajhhnojdjaaGreatDoor

import Derived.Test.YtmlgajhhnojdjaaGreatDoorRAQ
import Derived.Test.YtmlgajhhnojdjaaGreatDoorRAN
namespace Go.Proofs.YtmlgajhhnojdjaaGreatDoor
namespace Mac
open Go Go.RowKit Sq Aux PrjJ PrjK PrjL PrjM Go.Proofs.YtmlgajhhnojdjaaGreatDoor.Own
structure RM where
 ints:List Int
 has:List Bool
 held:List Nat
 aZ:List UInt8
 flags:List Bool
 boxes:List (Int×Bool)
 count:Int
 trace:B
 used:Nat
 out:Nat
 value:Int
structure Fx where
 a:Nat
 owns:Bool
 room:Int
 vi:Value
 kept:List (Nat×List Value×Fin 3)
def Cv (b:Fin 3):TypeId:=if b=0 then 89 else if b=1 then 90 else 73
def KQ (l:List Int):List Value:=l.map fun v=> .int .i64 v
def qi (l:List Bool):List Value:=l.map Value.bool
def mE (l:List Nat):List Value:=l.map fun v=> .int .i64 (v:Nat)
def ew (l:List UInt8):List Value:=l.map fun v=> .int .u8 (v.toNat:Nat)
def Rr (f:Fx):List Value:=[.pointer (some ⟨f.a,0,none⟩),.bool f.owns]
def Tu (f:Fx)(m:RM)(vb vt:Value):List Value:=[vb,.int .i64 m.count,.int .i64 f.room,vt,f.vi,.int .i64 (m.used:Nat),.int .i64 (m.out:Nat),.int .i64 m.value]
def RM.cells (f:Fx)(m:RM)(vb vt:Value):List Value:=
 Rr f++(KQ m.ints++(qi m.has++(mE m.held++(ew m.aZ++(qi m.flags++Tu f m vb vt)))))
structure RM.rM (m:RM):Prop where
 ints:m.ints.length=24
 has:m.has.length=24
 held:m.held.length=24
 aZ:m.aZ.length=24
 flags:m.flags.length=50
structure bN (w0:World)(x:Nat)(f:Fx)(w:World)(m:RM)(vb vt:Value):Prop where
 base:w0.heap.size<=x
 aI:w.heap[x]?=some (.cells (m.cells f vb vt).toArray 95 (0,0))
 boxes:w.ownsRow w0.heap.size 264 2 vb m.boxes.length (bG m.boxes)
 trace:w.ownsRow w0.heap.size 5 1 vt m.trace.length (ew m.trace)
 bq:Below w0.heap.size w0 w
 len:m.rM
 loc:∀e∈f.kept,w.heap[e.1]?=some (.cells e.2.1.toArray (Cv e.2.2) (0,0))
def ca (w0:World)(x:Nat)(f:Fx)(w:World)(m:RM):Prop:=∃vb vt,bN w0 x f w m vb vt
theorem dF {A C:List Value}{n:Nat}(h:A.length=n)(k:Nat):(A++C)[n+k]?=C[k]?:=by
 rw[jf (by omega)];congr 1;omega
theorem dK {A C:List Value}{n:Nat}(h:A.length=n)(k:Nat)(v:Value):(A++C).set (n+k) v=A++C.set k v:=by
 rw[List.set_append_right _ _ (by omega)];congr 2;omega
theorem El {A C:List Value}{n k:Nat}(h:A.length=n)(hk:k<n):(A++C)[k]?=A[k]?:=by
 rw[jg (by omega)]
theorem E8 {A C:List Value}{n k:Nat}(h:A.length=n)(hk:k<n)(v:Value):(A++C).set k v=A.set k v++C:=by
 rw[List.set_append_left _ _ (by omega)]
theorem gV (f:Fx):(Rr f).length=2:=rfl
section
variable {f:Fx} {m:RM} {vb vt:Value}
theorem RM.rM.l1 (h:m.rM):(KQ m.ints).length=24:=by rw[KQ,jc,h.ints]
theorem RM.rM.l2 (h:m.rM):(qi m.has).length=24:=by rw[qi,jc,h.has]
theorem RM.rM.l3 (h:m.rM):(mE m.held).length=24:=by rw[mE,jc,h.held]
theorem RM.rM.l4 (h:m.rM):(ew m.aZ).length=24:=by rw[ew,jc,h.aZ]
theorem RM.rM.l5 (h:m.rM):(qi m.flags).length=50:=by rw[qi,jc,h.flags]
theorem RM.rM.getInt (h:m.rM){j:Nat}(hj:j<24):(m.cells f vb vt)[2+j]?=some (.int .i64 (m.ints.getD j 0)):=by
 rw[RM.cells,dF (gV f),El h.l1 hj,KQ,jJ,jB (by rw[h.ints];exact hj),jA,jB (by rw[h.ints];exact hj)];rfl
theorem RM.rM.Xb (h:m.rM){j:Nat}(hj:j<24):(m.cells f vb vt)[26+j]?=some (.bool (m.has.getD j false)):=by
 rw[RM.cells,show 26+j=2+(24+j) by omega,dF (gV f),dF h.l1,El h.l2 hj,qi,jJ,jB (by rw[h.has];exact hj),jA,jB (by rw[h.has];exact hj)];rfl
theorem RM.rM.Ux (h:m.rM){j:Nat}(hj:j<24):(m.cells f vb vt)[50+j]?=some (.int .i64 (m.held.getD j 0:Nat)):=by
 rw[RM.cells,show 50+j=2+(24+(24+j)) by omega,dF (gV f),dF h.l1,dF h.l2,El h.l3 hj,mE,jJ,jB (by rw[h.held];exact hj),jA,jB (by rw[h.held];exact hj)];rfl
theorem RM.rM.Xc (h:m.rM){j:Nat}(hj:j<24):(m.cells f vb vt)[74+j]?=some (.int .u8 ((m.aZ.getD j 0).toNat:Nat)):=by
 rw[RM.cells,show 74+j=2+(24+(24+(24+j))) by omega,dF (gV f),dF h.l1,dF h.l2,dF h.l3,El h.l4 hj,ew,jJ,jB (by rw[h.aZ];exact hj),jA,jB (by rw[h.aZ];exact hj)];rfl
theorem RM.rM.jq (h:m.rM)(j:Nat):(m.cells f vb vt)[148+j]?=(Tu f m vb vt)[j]?:=by
 rw[RM.cells,show 148+j=2+(24+(24+(24+(24+(50+j))))) by omega,dF (gV f),dF h.l1,dF h.l2,dF h.l3,dF h.l4,dF h.l5]
theorem RM.rM.setInt (h:m.rM){j:Nat}(hj:j<24)(v:Int):(m.cells f vb vt).set (2+j) (.int .i64 v)=RM.cells f {m with ints:=m.ints.set j v} vb vt:=by
 rw[RM.cells,dK (gV f),E8 h.l1 hj];unfold RM.cells;simp[KQ,List.map_set];rfl
theorem RM.rM.LZ (h:m.rM){j:Nat}(hj:j<24)(v:Bool):(m.cells f vb vt).set (26+j) (.bool v)=RM.cells f {m with has:=m.has.set j v} vb vt:=by
 rw[RM.cells,show 26+j=2+(24+j) by omega,dK (gV f),dK h.l1,E8 h.l2 hj];unfold RM.cells;simp[qi,List.map_set];rfl
theorem RM.rM.zY (h:m.rM){j:Nat}(hj:j<24)(v:Nat):(m.cells f vb vt).set (50+j) (.int .i64 (v:Nat))=RM.cells f {m with held:=m.held.set j v} vb vt:=by
 rw[RM.cells,show 50+j=2+(24+(24+j)) by omega,dK (gV f),dK h.l1,dK h.l2,E8 h.l3 hj];unfold RM.cells;simp[mE,List.map_set];rfl
theorem RM.rM.pW (h:m.rM){j:Nat}(hj:j<24)(v:UInt8):(m.cells f vb vt).set (74+j) (.int .u8 (v.toNat:Nat))=RM.cells f {m with aZ:=m.aZ.set j v} vb vt:=by
 rw[RM.cells,show 74+j=2+(24+(24+(24+j))) by omega,dK (gV f),dK h.l1,dK h.l2,dK h.l3,E8 h.l4 hj];unfold RM.cells;simp[ew,List.map_set];rfl
theorem RM.rM.sg (h:m.rM)(j:Nat)(v:Value):(m.cells f vb vt).set (148+j) v=Rr f++(KQ m.ints++(qi m.has++(mE m.held++(ew m.aZ++(qi m.flags++(Tu f m vb vt).set j v))))):=by
 rw[RM.cells,show 148+j=2+(24+(24+(24+(24+(50+j))))) by omega,dK (gV f),dK h.l1,dK h.l2,dK h.l3,dK h.l4,dK h.l5]
end
theorem oE {w0 w:World}(h:Below w0.heap.size w0 w){x:Nat}(hx:w0.heap.size<=x)(j:Nat)(v:Value):Below w0.heap.size w0 (w.setCell ⟨x,j,none⟩ v):=
 ⟨h.os,h.tape,h.output,by simpa using h.size,fun k hk=>(Below.heap_setCell _ _ _ _ (by show k≠x;omega)).trans (h.block k hk)⟩
section
variable {w0 w w1 w2 w3:World} {x:Nat} {f:Fx} {m:RM} {vb vt v':Value}
theorem bN.lt (h:bN w0 x f w m vb vt):x<w.heap.size:=lt_of_heap h.aI
theorem bN.below (h:bN w0 x f w m vb vt)(hb:Below w.heap.size w w1):bN w0 x f w1 m vb vt:=
 ⟨h.base,by rw[hb.block x h.lt];exact h.aI,ax h.boxes hb,ax h.trace hb,h.bq.trans (hb.mono h.bq.size),h.len,fun e he=>by rw[hb.block _ (lt_of_heap (h.loc e he))];exact h.loc e he⟩
theorem ca.below (h:ca w0 x f w m)(hb:Below w.heap.size w w1):ca w0 x f w1 m:=by
 obtain⟨vb,vt,h⟩:=h;exact⟨vb,vt,h.below hb⟩
theorem bN.cell (h:bN w0 x f w m vb vt)(j:Nat):w.cell? ⟨x,j,none⟩=(m.cells f vb vt)[j]?:=by
 rw[cell_of_heap h.aI];simp
theorem bN.Ch (h:bN w0 x f w m vb vt)(j:Nat):w.frozen? ⟨x,j,none⟩=false:=frozen_of_heap h.aI j
theorem bN.facts (h:bN w0 x f w m vb vt):w.cell? ⟨x,0,none⟩=some (.pointer (some ⟨f.a,0,none⟩))/\w.cell? ⟨x,1,none⟩=some (.bool f.owns)/\w.cell? ⟨x,148,none⟩=some vb/\w.cell? ⟨x,149,none⟩=some (.int .i64 m.count)/\w.cell? ⟨x,150,none⟩=some (.int .i64 f.room)/\
  w.cell? ⟨x,151,none⟩=some vt/\w.cell? ⟨x,152,none⟩=some f.vi/\w.cell? ⟨x,153,none⟩=some (.int .i64 (m.used:Nat))/\w.cell? ⟨x,154,none⟩=some (.int .i64 (m.out:Nat))/\w.cell? ⟨x,155,none⟩=some (.int .i64 m.value):=
 ⟨by rw[h.cell];rfl,by rw[h.cell];rfl,by rw[h.cell,h.len.jq 0];rfl,by rw[h.cell,h.len.jq 1];rfl,by rw[h.cell,h.len.jq 2];rfl,by rw[h.cell,h.len.jq 3];rfl,by rw[h.cell,h.len.jq 4];rfl,by rw[h.cell,h.len.jq 5];rfl,by rw[h.cell,h.len.jq 6];rfl,by rw[h.cell,h.len.jq 7];rfl⟩
theorem bN.eA (h:bN w0 x f w m vb vt):w.frozen? ⟨x,148,none⟩=false/\w.frozen? ⟨x,149,none⟩=false/\w.frozen? ⟨x,151,none⟩=false/\w.frozen? ⟨x,153,none⟩=false/\w.frozen? ⟨x,154,none⟩=false/\w.frozen? ⟨x,155,none⟩=false:=
 ⟨h.Ch _,h.Ch _,h.Ch _,h.Ch _,h.Ch _,h.Ch _⟩
theorem bN.MW (h:bN w0 x f w m vb vt){j:Nat}(hj:j<24):w.cell? ⟨x,2+j,none⟩=some (.int .i64 (m.ints.getD j 0))/\w.frozen? ⟨x,2+j,none⟩=false:=⟨by rw[h.cell,h.len.getInt hj],h.Ch _⟩
theorem bN.eB (h:bN w0 x f w m vb vt){j:Nat}(hj:j<24):w.cell? ⟨x,26+j,none⟩=some (.bool (m.has.getD j false))/\w.frozen? ⟨x,26+j,none⟩=false:=⟨by rw[h.cell,h.len.Xb hj],h.Ch _⟩
theorem bN.Es (h:bN w0 x f w m vb vt){j:Nat}(hj:j<24):w.cell? ⟨x,50+j,none⟩=some (.int .i64 (m.held.getD j 0:Nat))/\w.frozen? ⟨x,50+j,none⟩=false:=⟨by rw[h.cell,h.len.Ux hj],h.Ch _⟩
theorem bN.qm (h:bN w0 x f w m vb vt){j:Nat}(hj:j<24):w.cell? ⟨x,74+j,none⟩=some (.int .u8 ((m.aZ.getD j 0).toNat:Nat))/\w.frozen? ⟨x,74+j,none⟩=false:=⟨by rw[h.cell,h.len.Xc hj],h.Ch _⟩
theorem I9:264≠95:=by decide
theorem Fh:5≠95:=by decide
theorem EE:∀b:Fin 3,95≠Cv b/\264≠Cv b/\5≠Cv b:=by decide
theorem bN.apart (h:bN w0 x f w m vb vt){e:Nat×List Value×Fin 3}(he:e∈f.kept):e.1≠x:=fun e1=>by
 have h1:=h.loc e he;rw[e1,h.aI]at h1;injection h1 with h1
 injection h1 with _ h2 _
 exact(EE e.2.2).1 h2
theorem bN.put (h:bN w0 x f w m vb vt){j:Nat}{v:Value}{m':RM}(hc:(m.cells f vb vt).set j v=m'.cells f vb vt)(h1:m'.boxes=m.boxes)(h2:m'.trace=m.trace)(h3:m'.rM):bN w0 x f (w.setCell ⟨x,j,none⟩ v) m' vb vt:=by
 refine⟨h.base,?_,?_,?_,oE h.bq h.base _ _,h3,fun e he=>(Below.heap_setCell _ _ _ _ (h.apart he)).trans (h.loc e he)⟩
 ·rw[Aux.heap_setCell_same h.aI,<-hc];simp
 ·rw[h1];exact au h.boxes _ (ar h.boxes h.aI I9)
 ·rw[h2];exact au h.trace _ (ar h.trace h.aI Fh)
end
end Mac
namespace Mac
open Go Go.RowKit Sq Aux PrjJ PrjK PrjL PrjM Go.Proofs.YtmlgajhhnojdjaaGreatDoor.Own RefRa
theorem vT {w:World}{base:Nat}{e:TypeId}{size:Nat}{v:Value}{n:Nat}{xs:List Value}(h:w.ownsRow base e size v n xs):∃b cap,v=.slice b n cap:=by
 obtain⟨-,h⟩:=h;rcases h with⟨rfl,rfl⟩|⟨g,cap,cur,rfl,-⟩
 ·exact⟨_,_,rfl⟩
 ·exact⟨_,_,rfl⟩
section
variable {w0 w w1 w2 w3:World} {x:Nat} {f:Fx} {m:RM} {vb vt v':Value}
theorem bN.setInt (h:bN w0 x f w m vb vt){j:Nat}(hj:j<24)(v:Int):bN w0 x f (w.setCell ⟨x,2+j,none⟩ (.int .i64 v)) {m with ints:=m.ints.set j v} vb vt:=
 h.put (h.len.setInt hj v) rfl rfl ⟨by simpa using h.len.ints,h.len.has,h.len.held,h.len.aZ,h.len.flags⟩
theorem bN.LZ (h:bN w0 x f w m vb vt){j:Nat}(hj:j<24)(v:Bool):bN w0 x f (w.setCell ⟨x,26+j,none⟩ (.bool v)) {m with has:=m.has.set j v} vb vt:=
 h.put (h.len.LZ hj v) rfl rfl ⟨h.len.ints,by simpa using h.len.has,h.len.held,h.len.aZ,h.len.flags⟩
theorem bN.zY (h:bN w0 x f w m vb vt){j:Nat}(hj:j<24)(v:Nat):bN w0 x f (w.setCell ⟨x,50+j,none⟩ (.int .i64 (v:Nat))) {m with held:=m.held.set j v} vb vt:=
 h.put (h.len.zY hj v) rfl rfl ⟨h.len.ints,h.len.has,by simpa using h.len.held,h.len.aZ,h.len.flags⟩
theorem bN.pW (h:bN w0 x f w m vb vt){j:Nat}(hj:j<24)(v:UInt8):bN w0 x f (w.setCell ⟨x,74+j,none⟩ (.int .u8 (v.toNat:Nat))) {m with aZ:=m.aZ.set j v} vb vt:=
 h.put (h.len.pW hj v) rfl rfl ⟨h.len.ints,h.len.has,h.len.held,by simpa using h.len.aZ,h.len.flags⟩
theorem bN.IV (h:bN w0 x f w m vb vt)(v:Int):bN w0 x f (w.setCell ⟨x,149,none⟩ (.int .i64 v)) {m with count:=v} vb vt:=
 h.put (h.len.sg 1 _) rfl rfl ⟨h.len.ints,h.len.has,h.len.held,h.len.aZ,h.len.flags⟩
theorem bN.Nh (h:bN w0 x f w m vb vt)(v:Nat):bN w0 x f (w.setCell ⟨x,153,none⟩ (.int .i64 (v:Nat))) {m with used:=v} vb vt:=
 h.put (h.len.sg 5 _) rfl rfl ⟨h.len.ints,h.len.has,h.len.held,h.len.aZ,h.len.flags⟩
theorem bN.tF (h:bN w0 x f w m vb vt)(v:Nat):bN w0 x f (w.setCell ⟨x,154,none⟩ (.int .i64 (v:Nat))) {m with out:=v} vb vt:=
 h.put (h.len.sg 6 _) rfl rfl ⟨h.len.ints,h.len.has,h.len.held,h.len.aZ,h.len.flags⟩
theorem bN.setValue (h:bN w0 x f w m vb vt)(v:Int):bN w0 x f (w.setCell ⟨x,155,none⟩ (.int .i64 v)) {m with value:=v} vb vt:=
 h.put (h.len.sg 7 _) rfl rfl ⟨h.len.ints,h.len.has,h.len.held,h.len.aZ,h.len.flags⟩
theorem mT {w0 w w1:World}(h:Below w0.heap.size w0 w){ob:Option Nat}(hg:w.grownBy w1 ob)(ea:∀k,k<w0.heap.size->some k≠ob):Below w0.heap.size w0 w1:=
 ⟨hg.os.trans h.os,hg.tape.trans h.tape,hg.output.trans h.output,jS h.size hg.size,fun k hk=>(hg.block k (jK hk h.size) (ea k hk)).trans (h.block k hk)⟩
theorem bN.Mv (h:bN w0 x f w m vb vt){c:UInt8}(h3:w3.ownsRow w0.heap.size 5 1 v' (m.trace.length+1) (ew m.trace++[.int .u8 (c.toNat:Nat)]))(hg:w.grownBy w3 vt.ownBlock):
  w3.heap[x]?=some (.cells (m.cells f vb vt).toArray 95 (0,0))/\bN w0 x f (w3.setCell ⟨x,151,none⟩ v') {m with trace:=m.trace++[c]} vb v':=by
 have ea:some x≠vt.ownBlock:=bh h.trace h.aI Fh;have bU:w3.heap[x]?=some (.cells (m.cells f vb vt).toArray 95 (0,0)):=by rw[hg.block x h.lt ea];exact h.aI
 have hm:=h.boxes.kept hg (cZ h.boxes h.trace (by decide));have hold:Below w0.heap.size w0 w3:=mT h.bq hg (fun k hk e=>by have:=(h.trace.lt k e.symm).1;omega);refine⟨bU,⟨h.base,?_,au hm _ (ar hm bU I9),?_,oE hold h.base _ _,⟨h.len.ints,h.len.has,h.len.held,h.len.aZ,h.len.flags⟩,fun e he=>(Below.heap_setCell _ _ _ _ (h.apart he)).trans ((hg.block _ (lt_of_heap (h.loc e he)) (bh h.trace (h.loc e he) (EE e.2.2).2.2)).trans (h.loc e he))⟩⟩
 ·rw[Aux.heap_setCell_same bU];have:=h.len.sg (f:=f) (vb:=vb) (vt:=vt) 3 v';simp only[List.setIfInBounds_toArray];rw[this];rfl
 ·have:=au h3 (a:=⟨x,151,none⟩) v' (ar h3 bU Fh);simpa [ew]using this
theorem bN.Jy (h:bN w0 x f w m vb vt){b:Int×Bool}(h3:w3.ownsRow w0.heap.size 264 2 v' (m.boxes.length+1) (bG m.boxes++px b))(hg:w.grownBy w3 vb.ownBlock):
  w3.heap[x]?=some (.cells (m.cells f vb vt).toArray 95 (0,0))/\bN w0 x f (w3.setCell ⟨x,148,none⟩ v') {m with boxes:=m.boxes++[b]} v' vt:=by
 have ea:some x≠vb.ownBlock:=bh h.boxes h.aI I9;have bU:w3.heap[x]?=some (.cells (m.cells f vb vt).toArray 95 (0,0)):=by rw[hg.block x h.lt ea];exact h.aI
 have hm:=h.trace.kept hg (cZ h.trace h.boxes (by decide));have hold:Below w0.heap.size w0 w3:=mT h.bq hg (fun k hk e=>by have:=(h.boxes.lt k e.symm).1;omega);refine⟨bU,⟨h.base,?_,?_,au hm _ (ar hm bU Fh),oE hold h.base _ _,⟨h.len.ints,h.len.has,h.len.held,h.len.aZ,h.len.flags⟩,fun e he=>(Below.heap_setCell _ _ _ _ (h.apart he)).trans ((hg.block _ (lt_of_heap (h.loc e he)) (bh h.boxes (h.loc e he) (EE e.2.2).2.1)).trans (h.loc e he))⟩⟩
 ·rw[Aux.heap_setCell_same bU];have:=h.len.sg (f:=f) (vb:=vb) (vt:=vt) 0 v';simp only[List.setIfInBounds_toArray];rw[this];rfl
 ·have:=au h3 (a:=⟨x,148,none⟩) v' (ar h3 bU I9);simpa [bG]using this
def RM.box (m:RM)(n:Nat):Int×Bool:=m.boxes.getD (n-1) (0,false)
theorem bN.box (h:bN w0 x f w m vb vt){n:Nat}(h1:1<=n)(hn:n<=m.boxes.length):∃g cap,vb=.slice (some ⟨g,0,none⟩) m.boxes.length cap/\m.boxes.length<=cap/\g<w.heap.size/\w.cell? ⟨g,(n-1)*2,none⟩=some (.int .i64 (m.box n).1)/\w.cell? ⟨g,(n-1)*2+1,none⟩=some (.bool (m.box n).2)/\
  w.frozen? ⟨g,(n-1)*2,none⟩=false/\w.frozen? ⟨g,(n-1)*2+1,none⟩=false:=by
 obtain⟨g,cap,rfl,hc,hg,aC⟩:=dJ h.boxes (by omega);obtain⟨b0,b1⟩:=zE m.boxes (n-1) (by omega);exact⟨g,cap,rfl,hc,hg,by rw[aC _ (by omega)];exact b0,by rw[aC _ (by omega)];exact b1,h.boxes.frozenAt _,h.boxes.frozenAt _⟩
theorem bN.tE {g cap:Nat}(h:bN w0 x f w m (.slice (some ⟨g,0,none⟩) m.boxes.length cap) vt){n:Nat}(h1:1<=n)(hn:n<=m.boxes.length):
  (∀v:Int,bN w0 x f (w.setCell ⟨g,(n-1)*2,none⟩ (.int .i64 v)) {m with boxes:=m.boxes.set (n-1) (v,(m.box n).2)} (.slice (some ⟨g,0,none⟩) m.boxes.length cap) vt)/\
  (∀v:Bool,bN w0 x f (w.setCell ⟨g,(n-1)*2+1,none⟩ (.bool v)) {m with boxes:=m.boxes.set (n-1) ((m.box n).1,v)} (.slice (some ⟨g,0,none⟩) m.boxes.length cap) vt):=by
 obtain⟨b0,b1⟩:=zE m.boxes (n-1) (by omega);have YZ:x≠g:=fun e=>ar h.boxes h.aI I9 (by rw[e];rfl)
 have hzg:w0.heap.size<=g:=(h.boxes.lt g rfl).1;have htg:vt.ownBlock≠some g:=fun e=>by
  rcases cZ h.trace h.boxes (by decide)with h0|h0
  ·rw[e]at h0;cases h0
  ·exact h0 e
 have aI:∀(o:Nat) (u:Value),(w.setCell ⟨g,o,none⟩ u).heap[x]?=w.heap[x]?:=fun o u=>Below.heap_setCell _ _ _ _ (by show x≠g;exact YZ)
 have hk:∀(o:Nat) (u:Value),∀e∈f.kept,(w.setCell ⟨g,o,none⟩ u).heap[e.1]?=some (.cells e.2.1.toArray (Cv e.2.2) (0,0)):=fun o u e he=>(Below.heap_setCell _ _ _ _ (by show e.1≠g;exact fun e1=>bh h.boxes (h.loc e he) (EE e.2.2).2.1 (by rw[e1];rfl))).trans (h.loc e he)
 have hl:∀L,({m with boxes:=L}:RM).rM:=fun L=>⟨h.len.ints,h.len.has,h.len.held,h.len.aZ,h.len.flags⟩
 constructor
 ·intro v;refine⟨h.base,by rw[aI];exact h.aI,?_,au h.trace _ htg,oE h.bq hzg _ _,hl _,hk _ _⟩;have:=(h.boxes.stored ((n-1)*2) (.int .i64 v)).1;have e:bG (m.boxes.set (n-1) (v,(m.box n).2))=(bG m.boxes).set ((n-1)*2) (.int .i64 v):=by
   rw[vd,jb (by omega)];refine xh ?_;rw[List.getElem?_set_ne (by omega)];exact b1
  simp only[List.length_set];rw[e];exact this
 ·intro v;refine⟨h.base,by rw[aI];exact h.aI,?_,au h.trace _ htg,oE h.bq hzg _ _,hl _,hk _ _⟩;have:=(h.boxes.stored ((n-1)*2+1) (.bool v)).1;have e:bG (m.boxes.set (n-1) ((m.box n).1,v))=(bG m.boxes).set ((n-1)*2+1) (.bool v):=by
   rw[vd,jb (by omega)];have:(bG m.boxes).set ((n-1)*2) (.int .i64 (m.box n).1)=bG m.boxes:=xh b0;rw[this]
  simp only[List.length_set];rw[e];exact this
end
end Mac
namespace Mac
open Go Go.RowKit Sq Aux PrjJ PrjK PrjL PrjM Go.Proofs.YtmlgajhhnojdjaaGreatDoor.Own RefRa
def pg (m:RM)(c:UInt8)(n:Int):B:=if m.trace=[]then c::ss n else 32::c::ss n
def RM.note (m:RM)(c:UInt8)(n:Int):RM:={m with trace:=m.trace++pg m c n}
theorem F5 (n:Int)(hn:aN n):(ss n).length<=20:=by
 unfold aN at hn;unfold ss;have h:(pz n.natAbs).length<=19:=Ax 18 _ (by omega);split
 ·simp only[List.length_cons];omega
 ·omega
theorem Vc:(Tryz.prog.info? 5).map (fun i=>(i.zero,i.size,i.bytes))=some (some (.int .u8 0),1,1):=by kernel_rfl
theorem Nn {s:ByteArray}{j:Nat}(h:j<s.size):s.toList.take (j+1)=s.toList.take j++[s[j]]:=by
 have hl:j<s.toList.length:=by rw[length_toList];exact h
 rw[List.take_add_one,jB hl,getElem_toList s j h];rfl
section
variable {w0 w w1 w2 w3:World} {x:Nat} {f:Fx} {m:RM}
set_option maxRecDepth 20000 in
set_option maxHeartbeats 2000000 in
theorem ga (h:ca w0 x f w m)(c:UInt8)(n:Int)(hn:aN n)(hl:m.trace.length<=100000000):
  Calls Tryz.prog 152 #[.pointer (some ⟨x,0,none⟩),.string (bs [c]),.int .i64 n] w fun e w'=>e=.returned (.tuple #[])/\ca w0 x f w' (m.note c n):=by
 obtain⟨i,hi,A0,Ey,xW⟩:=info_parts Vc;have KD:=fun w'=>F7 n w' hn.1 hn.2
 have hd:=F5 n hn;obtain⟨s,hs⟩:∃s,s=bs (pg m c n):=⟨_,rfl⟩;have lx:s.size<=22:=by rw[hs,dQ];unfold pg;split<;>simp<;>omega
 have HS:Hid (s.toList=pg m c n):=by rw[hs,Hid,aD]
 have hD:(ss n).length<=20:=hd;by_cases ht:m.trace=[]
 ·have lv:bs [c]++bs (ss n)=s:=by rw[hs,pg,jb ht];exact AE (by rw[eI,aD,aD];rfl)
  have h0:¬(0:Int)<m.trace.length:=by rw[ht];simp
  clear hs hd;go_enter Tryz.func152,Tryz.ntmps152
  go_wp2_with (go_at_call 191;refine(KD _).mono ?_;rintro e w1 ⟨rfl,av⟩;obtain⟨vb,vt,hV⟩:=h.below av;obtain⟨b,cap,rfl⟩:=vT hV.trace;obtain⟨c0,c1,c2,c3,c4,c5,c6,c7,c8,c9⟩:=hV.facts)
  have HV:Hid (ca w0 x f w1 m):=⟨_,_,hV⟩;clear hV c0 c1 c2 c3 c4 c5 c6 c7 c8 c9 av h;go_loopw [7] (fun v4 wr=>∃(j:Nat),j<=s.size/\v4=.int .i64 j/\Hid (ca w0 x f wr {m with trace:=m.trace++s.toList.take j})) (fun i _=>s.size-(intOf i).toNat)
  case atStart=>exact⟨0,jQ _,rfl,by simpa [Hid]using HV.out⟩
  case round=>
   obtain⟨j,hj,rfl,HM⟩:=hrel;clear HV;by_cases aK:j<s.size
   ·obtain⟨vb,vt,hV⟩:=HM.out;have hlt0:=hV.lt;have qO:=hV.base;have hlen:({m with trace:=m.trace++s.toList.take j}:RM).trace.length<=100000022:=by simp only[List.length_append,List.length_take];omega
    generalize hm:({m with trace:=m.trace++s.toList.take j}:RM)=m' at*;have HE:Hid (_=_):=hm;clear hm HM;have ld:bN w0 x f wr.drew m' vb vt:=hV.below ((Below.refl _ _).drew);obtain⟨c0,c1,c2,c3,c4,c5,c6,c7,c8,c9⟩:=hV.facts;have aX:Below wr.drew.heap.size wr.drew (wr.drew.alloc (.cells #[.int .u8 (s[j].toNat:Nat)] 5)):=(Below.refl _ _).alloc (jC _) _;have HA:=ld.below aX;obtain⟨a0,a1,a2,a3,a4,a5,a6,a7,a8,a9⟩:=HA.facts;have qt:w0.heap.size<=(wr.drew.alloc (.cells #[.int .u8 (s[j].toNat:Nat)] 5)).heap.size:=by have:=HA.lt;omega
    go_upto_region 6 with fail
    go_region_law (refine rB (by rfl) _ _ _ (by rfl) w0.heap.size 5 i (.int .u8 0) 1 1 Tryz.underlying93 hi A0 Ey xW (by rfl) (by decide) vt _ _ (by rfl) HA.trace wr.heap.size [.int .u8 (s[j].toNat:Nat)] (by rfl) jD (by rfl) (by intro u' hu;simp at hu;subst hu;rfl) (by decide) (by omega) qt ?_;intro g4 c4' w4 hown4 hgrow4 hat4 hlt4;obtain⟨gJ,N8⟩:=HA.Mv hown4 hgrow4;have rf:w4.frozen? ⟨x,151,none⟩=false:=frozen_of_heap gJ 151;have r5:w4.cell? ⟨x,151,none⟩=some vt:=(by rw[cell_of_heap gJ,List.getElem?_toArray];exact HA.len.jq (f:=f) (vb:=vb) (vt:=vt) 3))
    all_goals go_wp2_with fail
    all_goals
     go_roundw
     case rel=>
      have hm:=HE.out;subst hm;have e:m.trace++s.toList.take (j+1)=m.trace++s.toList.take j++[s[j]]:=by rw[Nn aK,List.append_assoc]
      refine⟨j+1,by omega,by go_num,?_⟩;rw[e];exact⟨_,_,N8⟩
     case measure=>simp[intOf];omega
   ·go_wp2
    go_end0
    have e:s.toList.take j=pg m c n:=by rw[List.take_of_length_le (by rw[length_toList];omega),HS.out]
    have hM:=HM.out;rw[e]at hM;exact⟨rfl,hM⟩
 ·have lv:(⟨#[32]⟩:ByteArray)++(bs [c]++bs (ss n))=s:=by rw[hs,pg,ja ht];exact AE (by rw[eI,eI,aD,aD,show(⟨#[32]⟩:ByteArray).toList=[32]from aD [32]];rfl)
  have h0:(0:Int)<m.trace.length:=by have:=List.length_pos_iff.2 ht;omega
  clear hs hd;go_enter Tryz.func152,Tryz.ntmps152
  go_wp2_with (go_at_call 191;refine(KD _).mono ?_;rintro e w1 ⟨rfl,av⟩;obtain⟨vb,vt,hV⟩:=h.below av;obtain⟨b,cap,rfl⟩:=vT hV.trace;obtain⟨c0,c1,c2,c3,c4,c5,c6,c7,c8,c9⟩:=hV.facts)
  have HV:Hid (ca w0 x f w1 m):=⟨_,_,hV⟩;rename_i hx;clear hV c0 c1 c2 c3 c4 c5 c6 c7 c8 c9 av h h0 hx;go_loopw [7] (fun v4 wr=>∃(j:Nat),j<=s.size/\v4=.int .i64 j/\Hid (ca w0 x f wr {m with trace:=m.trace++s.toList.take j})) (fun i _=>s.size-(intOf i).toNat)
  case atStart=>exact⟨0,jQ _,rfl,by simpa [Hid]using HV.out⟩
  case round=>
   obtain⟨j,hj,rfl,HM⟩:=hrel;clear HV;by_cases aK:j<s.size
   ·obtain⟨vb,vt,hV⟩:=HM.out;have hlt0:=hV.lt;have qO:=hV.base;have hlen:({m with trace:=m.trace++s.toList.take j}:RM).trace.length<=100000022:=by simp only[List.length_append,List.length_take];omega
    generalize hm:({m with trace:=m.trace++s.toList.take j}:RM)=m' at*;have HE:Hid (_=_):=hm;clear hm HM;have ld:bN w0 x f wr.drew m' vb vt:=hV.below ((Below.refl _ _).drew);obtain⟨c0,c1,c2,c3,c4,c5,c6,c7,c8,c9⟩:=hV.facts;have aX:Below wr.drew.heap.size wr.drew (wr.drew.alloc (.cells #[.int .u8 (s[j].toNat:Nat)] 5)):=(Below.refl _ _).alloc (jC _) _;have HA:=ld.below aX;obtain⟨a0,a1,a2,a3,a4,a5,a6,a7,a8,a9⟩:=HA.facts;have qt:w0.heap.size<=(wr.drew.alloc (.cells #[.int .u8 (s[j].toNat:Nat)] 5)).heap.size:=by have:=HA.lt;omega
    go_upto_region 6 with fail
    go_region_law (refine rB (by rfl) _ _ _ (by rfl) w0.heap.size 5 i (.int .u8 0) 1 1 Tryz.underlying93 hi A0 Ey xW (by rfl) (by decide) vt _ _ (by rfl) HA.trace wr.heap.size [.int .u8 (s[j].toNat:Nat)] (by rfl) jD (by rfl) (by intro u' hu;simp at hu;subst hu;rfl) (by decide) (by omega) qt ?_;intro g4 c4' w4 hown4 hgrow4 hat4 hlt4;obtain⟨gJ,N8⟩:=HA.Mv hown4 hgrow4;have rf:w4.frozen? ⟨x,151,none⟩=false:=frozen_of_heap gJ 151;have r5:w4.cell? ⟨x,151,none⟩=some vt:=(by rw[cell_of_heap gJ,List.getElem?_toArray];exact HA.len.jq (f:=f) (vb:=vb) (vt:=vt) 3))
    all_goals go_wp2_with fail
    all_goals
     go_roundw
     case rel=>
      have hm:=HE.out;subst hm;have e:m.trace++s.toList.take (j+1)=m.trace++s.toList.take j++[s[j]]:=by rw[Nn aK,List.append_assoc]
      refine⟨j+1,by omega,by go_num,?_⟩;rw[e];exact⟨_,_,N8⟩
     case measure=>simp[intOf];omega
   ·go_wp2
    go_end0
    have e:s.toList.take j=pg m c n:=by rw[List.take_of_length_le (by rw[length_toList];omega),HS.out]
    have hM:=HM.out;rw[e]at hM;exact⟨rfl,hM⟩
end
end Mac
namespace Mac
open Go Go.RowKit Sq Aux PrjJ PrjK PrjL PrjM Go.Proofs.YtmlgajhhnojdjaaGreatDoor.Own RefRa RefP
structure Ctx (w0:World)(p:RP)(f:Fx):Prop where
 prog:bd w0 f.a p
 ok:p.Ok
 aV:p.lets.length<=12
structure Wd (p:RP)(l:B):Prop where
 len:l.length<=maxLen
 find:0<=p.find (ai l)
structure RM.Ok (m:RM)(t:Nat):Prop where
 ints:∀j,aN (m.ints.getD j 0)
 held:∀j,m.held.getD j 0<=m.boxes.length
 zq:∀j,aN (m.boxes.getD j (0,false)).1
 boxes:m.boxes.length<=t
 trace:m.trace.length<=30*t
 count: -(t:Int)<=m.count/\m.count<=t
 used:m.used<=t
def sp (p:RP)(l:B):Nat:=(p.aj l).1
def RM.bD (m:RM)(i:Nat):RM:=if m.has.getD i false=true then m else{m with out:=5}
def RM.int (m:RM)(i:Nat):Int:=m.ints.getD i 0
def RM.be (m:RM)(i:Nat)(v:Int):RM:={m with ints:=m.ints.set i v,has:=m.has.set i true}
def RM.named (m:RM)(i:Nat):Nat:=if m.held.getD i 0=0\/(m.box (m.held.getD i 0)).2=false then 0 else m.held.getD i 0
def RM.boxed (m:RM)(i:Nat):RM:=if m.named i=0 then{m with out:=5}else m
def RM.free (m:RM)(i:Nat):RM:=if m.named i=0 then{m with out:=5}else RM.note {m with boxes:=m.boxes.set (m.named i-1) ((m.box (m.named i)).1,false),count:=m.count-1} 45 ((m.named i:Nat):Int)
def RM.made (f:Fx)(m:RM)(i:Nat)(v:Int):RM:=
 if f.room<=m.count then{m with out:=3}else
  let m1:=RM.note {m with boxes:=m.boxes++[(v,true)],count:=m.count+1} 43 ((m.boxes.length+1:Nat):Int)
  let m2:RM:={m1 with held:=m1.held.set i (m.boxes.length+1)}
  if f.owns=true then{m2 with aZ:=m2.aZ.set i 119}else m2
section
variable {w0 w w1 w2 w3:World} {x:Nat} {f:Fx} {m:RM} {p:RP} {l:B} {t:Nat}
theorem Wd.lt (h:Wd p l)(cf:p.lets.length<=12):sp p l<24/\sp p l+(p.aj l).2<=24/\1<=(p.aj l).2/\(p.aj l).2<=2:=by
 obtain⟨j,hj,ot,_⟩:=RP.ez h.find;unfold sp RP.aj;rw[hj];split
 ·simp only[Int.toNat_natCast];omega
 ·split<;>(simp only[Int.toNat_natCast];omega)
theorem fb (hC:Ctx w0 p f)(h:ca w0 x f w m)(hl:Wd p l):
  Calls Tryz.prog 149 #[.pointer (some ⟨x,0,none⟩),.string (bs l)] w fun e w'=>e=.returned (.int .i64 (sp p l:Nat))/\ca w0 x f w' m:=by
 obtain⟨vb,vt,hV⟩:=h;have KS:=fun w' (hp:bd w' f.a p)=>ku p f.a l w' hp hC.ok hl.len hl.find
 obtain⟨c0,c1,c2,c3,c4,c5,c6,c7,c8,c9⟩:=hV.facts;have HP:=hC.prog.below hV.bq;go_enter Tryz.func149,Tryz.ntmps149
 go_wp2_with (go_at_call 143;refine(KS _ HP).mono ?_;rintro e w1 ⟨rfl,n1,rfl⟩)
 go_ret
 exact⟨rfl,⟨vb,vt,hV.below (below_drewN (Below.refl _ _) _)⟩⟩
set_option maxRecDepth 20000 in
set_option maxHeartbeats 1000000 in
theorem cM (hC:Ctx w0 p f)(h:ca w0 x f w m)(hl:Wd p l):
  Calls Tryz.prog 147 #[.pointer (some ⟨x,0,none⟩),.string (bs l)] w fun e w'=>e=.returned (.int .i64 (m.int (sp p l)))/\ca w0 x f w' (m.bD (sp p l)):=by
 have KS:=fb hC h hl;obtain⟨hi,-⟩:=hl.lt hC.aV;unfold RM.int;generalize sp p l=i at*;have i1:(i:Int)<24:=by omega
 cases hh:m.has.getD i false
 ·have HG:Hid (m.bD i={m with out:=5}):=by unfold Hid RM.bD;rw[ja (by rw[hh];decide)]
  go_enter Tryz.func147,Tryz.ntmps147
  go_wp2_with (go_at_call 149;refine KS.mono ?_;rintro e w1 ⟨rfl,vb,vt,hV⟩;obtain⟨a1,a2⟩:=hV.eB hi;rw[hh]at a1;obtain⟨b1,b2⟩:=hV.MW hi;obtain⟨f1,f2,f3,f4,f5,f6⟩:=hV.eA;obtain⟨c0,c1,c2,c3,c4,c5,c6,c7,c8,c9⟩:=hV.facts;have eQ:bN w0 x f (w1.setCell ⟨x,154,none⟩ (.int .i64 5)) {m with out:=5} vb vt:=hV.tF 5;obtain⟨d1,d2⟩:=eQ.MW hi)
  go_ret
  exact⟨rfl,by rw[HG.out];exact⟨vb,vt,eQ⟩⟩
 ·have HG:Hid (m.bD i=m):=by unfold Hid RM.bD;rw[jb hh]
  go_enter Tryz.func147,Tryz.ntmps147
  go_wp2_with (go_at_call 149;refine KS.mono ?_;rintro e w1 ⟨rfl,vb,vt,hV⟩;obtain⟨a1,a2⟩:=hV.eB hi;rw[hh]at a1;obtain⟨b1,b2⟩:=hV.MW hi)
  go_ret
  exact⟨rfl,by rw[HG.out];exact⟨vb,vt,hV⟩⟩
set_option maxRecDepth 20000 in
set_option maxHeartbeats 1000000 in
theorem qD (hC:Ctx w0 p f)(h:ca w0 x f w m)(hl:Wd p l)(v:Int):
  Calls Tryz.prog 150 #[.pointer (some ⟨x,0,none⟩),.string (bs l),.int .i64 v] w fun e w'=>e=.returned (.tuple #[])/\ca w0 x f w' (m.be (sp p l) v):=by
 have KS:=fb hC h hl;obtain⟨hi,-⟩:=hl.lt hC.aV;unfold RM.be;generalize sp p l=i at*;have i1:(i:Int)<24:=by omega
 go_enter Tryz.func150,Tryz.ntmps150
 go_wp2_with (go_at_call 149;refine KS.mono ?_;rintro e w1 ⟨rfl,vb,vt,hV⟩;obtain⟨b1,b2⟩:=hV.MW hi;have eQ:=hV.setInt hi v;obtain⟨d1,d2⟩:=eQ.eB hi;have qs:=eQ.LZ hi true)
 go_end0
 exact⟨rfl,⟨vb,vt,qs⟩⟩
set_option maxRecDepth 20000 in
set_option maxHeartbeats 1000000 in
theorem iX (h:ca w0 x f w m){i:Nat}(hi:i<24)(hO:m.Ok t)(ht:t<=10000000):
  Calls Tryz.prog 193 #[.pointer (some ⟨x,0,none⟩),.int .i64 (i:Nat)] w fun e w'=>e=.returned (.int .i64 (m.named i:Nat))/\ca w0 x f w' (m.boxed i):=by
 have hh:=hO.held i;have hb:=hO.boxes;obtain⟨vb,vt,hV⟩:=h;obtain⟨a1,a2⟩:=hV.Es hi;have eQ:bN w0 x f (w.setCell ⟨x,154,none⟩ (.int .i64 5)) {m with out:=5} vb vt:=hV.tF 5;obtain⟨f1,f2,f3,f4,f5,f6⟩:=hV.eA;obtain⟨c0,c1,c2,c3,c4,c5,c6,c7,c8,c9⟩:=hV.facts;have i1:(i:Int)<24:=by omega
 by_cases h0:m.held.getD i 0=0
 ·have e0:m.named i=0:=by unfold RM.named;rw[jb (.inl h0)]
  have HG:Hid (m.boxed i={m with out:=5}):=by unfold Hid RM.boxed;rw[jb e0]
  rw[e0];rw[h0]at a1;go_enter Tryz.func193,Tryz.ntmps193
  go_wp2
  go_ret
  exact⟨rfl,by rw[HG.out];exact⟨vb,vt,eQ⟩⟩
 ·have HN:Hid (m.named i=if m.held.getD i 0=0\/(m.box (m.held.getD i 0)).2=false then 0 else m.held.getD i 0):=rfl;generalize hn:m.held.getD i 0=n at*;obtain⟨g,cap,rfl,kL,hg,q0,q1,q2,q3⟩:=hV.box (n:=n) (by omega) hh;have i2:((n:Int)==0)=false:=by rw[jZ];omega
  have i3:(1:Int)<=n:=by omega
  have i4:(n:Int)<=m.boxes.length:=by omega
  have e1:((n:Int)-1).toNat=n-1:=by omega
  cases hl:(m.box n).2
  ·have e0:m.named i=0:=by rw[HN.out,jb (.inr hl)]
   have HG:Hid (m.boxed i={m with out:=5}):=by unfold Hid RM.boxed;rw[jb e0]
   rw[e0];rw[hl]at q1;go_enter Tryz.func193,Tryz.ntmps193
   go_wp2
   go_ret
   exact⟨rfl,by rw[HG.out];exact⟨_,vt,eQ⟩⟩
  ·have e0:m.named i=n:=by rw[HN.out,ja (by rw[hl];simp[h0])]
   have HG:Hid (m.boxed i=m):=by unfold Hid RM.boxed;rw[ja (by rw[e0];exact h0)]
   rw[e0];rw[hl]at q1;go_enter Tryz.func193,Tryz.ntmps193
   go_wp2
   go_ret
   exact⟨rfl,by rw[HG.out];exact⟨_,vt,hV⟩⟩
end
end Mac
namespace Mac
open Go Go.RowKit Sq Aux PrjJ PrjK PrjL PrjM Go.Proofs.YtmlgajhhnojdjaaGreatDoor.Own RefRa RefP
theorem yv (m:RM)(c:UInt8){n:Int}(hn:aN n):(pg m c n).length<=22:=by
 have:=F5 n hn;unfold pg;split<;>simp<;>omega
theorem Ek {l:List Int}(h:∀j,aN (l.getD j 0))(i:Nat){v:Int}(hv:aN v)(j:Nat):aN ((l.set i v).getD j 0):=by
 rw[jA,jd];split
 ·split
  ·exact hv
  ·unfold aN;simp
 ·rw[<-jA];exact h j
section
variable {w0 w w1 w2 w3:World} {x:Nat} {f:Fx} {m:RM} {p:RP} {l:B} {t:Nat}
theorem RM.Ok.mono {t':Nat}(h:m.Ok t)(ht:t<=t'):m.Ok t':=⟨h.ints,h.held,h.zq,by have:=h.boxes;omega,by have:=h.trace;omega,by have:=h.count;omega,by have:=h.used;omega⟩
theorem RM.Ok.outs (h:m.Ok t)(k:Nat):RM.Ok {m with out:=k} t:=⟨h.ints,h.held,h.zq,h.boxes,h.trace,h.count,h.used⟩
theorem RM.Ok.bD (h:m.Ok t)(i:Nat):(m.bD i).Ok t:=by unfold RM.bD;split;exact h;exact h.outs 5
theorem RM.Ok.boxed (h:m.Ok t)(i:Nat):(m.boxed i).Ok t:=by unfold RM.boxed;split;exact h.outs 5;exact h
theorem RM.Ok.be (h:m.Ok t)(i:Nat){v:Int}(hv:aN v):(m.be i v).Ok t:=⟨Ek h.ints i hv,h.held,h.zq,h.boxes,h.trace,h.count,h.used⟩
theorem RM.Ok.note (h:m.Ok t)(c:UInt8){n:Int}(hn:aN n):(m.note c n).Ok (t+1):=
 ⟨h.ints,h.held,h.zq,by have:=h.boxes;show m.boxes.length<=_;omega,by
  have:=h.trace;have:=yv m c hn;show(m.trace++pg m c n).length<=_
  rw[jV];omega,by have:=h.count;show _<=m.count/\m.count<=_;omega,by have:=h.used;show m.used<=_;omega⟩
theorem oU (h:m.Ok t)(i:Nat):m.named i<=m.boxes.length:=by
 unfold RM.named;split
 ·omega
 ·exact h.held i
theorem zM {n t:Nat}(h:n<=t)(ht:t<=10000001):aN ((n:Nat):Int):=by unfold aN;omega
theorem MB (h:m.Ok t)(n:Nat):aN (m.box n).1:=h.zq _
theorem RM.Ok.tE (h:m.Ok t)(k:Nat){v:Int×Bool}(hv:aN v.1)(c:Int)(hc: -((t+1:Nat):Int)<=c/\c<=((t+1:Nat):Int))(L:B)(hL:L.length<=30*(t+1)):RM.Ok {m with boxes:=m.boxes.set k v,count:=c,trace:=L} (t+1):=
 ⟨h.ints,fun j=>by rw[List.length_set];exact h.held j,fun j=>by
  show aN ((m.boxes.set k v).getD j (0,false)).1
  rw[jA,jd];split
  ·split
   ·exact hv
   ·unfold aN;simp
  ·rw[<-jA];exact h.zq j,by rw[List.length_set];have:=h.boxes;omega,hL,hc,by have:=h.used;show m.used<=_;omega⟩
theorem RM.Ok.free (h:m.Ok t)(ht:t<=10000000)(i:Nat):(m.free i).Ok (t+1):=by
 unfold RM.free;split
 ·exact(h.outs 5).mono (by omega)
 ·have h1:=h.trace;have h2:=h.count;have h3:=oU h i;have h4:=h.boxes;have h5:=yv {m with boxes:=m.boxes.set (m.named i-1) ((m.box (m.named i)).1,false),count:=m.count-1} 45 (n:=((m.named i:Nat):Int)) (zM (t:=t) (by omega) (by omega));exact h.tE _ (v:=((m.box (m.named i)).1,false)) (MB h _) (m.count-1) (by omega) _ (by rw[jV];exact jS (Nat.add_le_add h1 h5) (by omega))
theorem RM.Ok.aZ (h:m.Ok t)(L:List UInt8):RM.Ok {m with aZ:=L} t:=⟨h.ints,h.held,h.zq,h.boxes,h.trace,h.count,h.used⟩
theorem RM.Ok.made (h:m.Ok t)(ht:t<=10000000)(i:Nat){v:Int}(hv:aN v):(m.made f i v).Ok (t+1):=by
 unfold RM.made;split
 ·exact(h.outs 3).mono (by omega)
 ·have h1:=h.trace;have h2:=h.count;have h4:=h.boxes;have h5:=yv {m with boxes:=m.boxes++[(v,true)],count:=m.count+1} 43 (n:=((m.boxes.length+1:Nat):Int)) (zM (t:=t+1) (by omega) (by omega));have h6:RM.Ok {(RM.note {m with boxes:=m.boxes++[(v,true)],count:=m.count+1} 43 ((m.boxes.length+1:Nat):Int))with held:=m.held.set i (m.boxes.length+1)} (t+1):=by
   refine⟨h.ints,fun j=> ?_,fun j=> ?_,?_,?_,?_,?_⟩
   ·show(m.held.set i (m.boxes.length+1)).getD j 0<=(m.boxes++[(v,true)]).length
    rw[jV,jA,jd];split
    ·split
     ·simp
     ·simp
    ·rw[<-jA];have:=h.held j;simp only[List.length_cons,List.length_nil];omega
   ·show aN ((m.boxes++[(v,true)]).getD j (0,false)).1
    by_cases hj:j<m.boxes.length
    ·rw[jA,jg hj,<-jA];exact h.zq j
    ·rw[jA,jf (by omega)];cases j-m.boxes.length with
     |zero=>exact hv
     |succ k=>unfold aN;simp
   ·show(m.boxes++[(v,true)]).length<=_
    simp only[List.length_append,List.length_cons,List.length_nil];omega
   ·show(m.trace++_).length<=_
    rw[jV];exact jS (Nat.add_le_add h1 h5) (by omega)
   ·show _<=m.count+1/\m.count+1<=_;omega
   ·have:=h.used;show m.used<=_;omega
  simp only;split
  ·exact h6.aZ _
  ·exact h6
set_option maxRecDepth 20000 in
set_option maxHeartbeats 1000000 in
theorem AK (h:ca w0 x f w m){i:Nat}(hi:i<24)(hO:m.Ok t)(ht:t<=3000000):
  Calls Tryz.prog 156 #[.pointer (some ⟨x,0,none⟩),.int .i64 (i:Nat)] w fun e w'=>e=.returned (.tuple #[])/\ca w0 x f w' (m.free i):=by
 have KB:=iX h hi hO (by omega);have hb:=hO.boxes;have hn:=oU hO i;have hc:=hO.count;have htr:=hO.trace;by_cases h0:m.named i=0
 ·have HG:Hid (m.free i=m.boxed i):=by unfold Hid RM.free RM.boxed;rw[jb h0,jb h0]
  rw[h0]at KB;go_enter Tryz.func156,Tryz.ntmps156
  go_wp2_with (go_at_call 193;refine KB.mono ?_;rintro e w1 ⟨rfl,hM⟩)
  go_end0
  exact⟨rfl,by rw[HG.out];exact hM⟩
 ·have e:m.boxed i=m:=by unfold RM.boxed;rw[ja h0]
  have HG:Hid (m.free i=RM.note {m with boxes:=m.boxes.set (m.named i-1) ((m.box (m.named i)).1,false),count:=m.count-1} 45 ((m.named i:Nat):Int)):=by unfold Hid RM.free;rw[ja h0]
  rw[e]at KB;generalize m.named i=n at*;have i3:(1:Int)<=n:=by omega
  have i4:(n:Int)<=m.boxes.length:=by omega
  have e1:((n:Int)-1).toNat=n-1:=by omega
  have i5:(0:Int)<n:=by omega
  go_enter Tryz.func156,Tryz.ntmps156
  go_wp2_with (first
   |(go_at_call 193;refine KB.mono ?_;rintro e w1 ⟨rfl,vb,vt,hV⟩;obtain⟨g,cap,rfl,kL,hg,q0,q1,q2,q3⟩:=hV.box (n:=n) (by omega) hn;obtain⟨c0,c1,c2,c3,c4,c5,c6,c7,c8,c9⟩:=hV.facts;have eQ:=(hV.tE (n:=n) (by omega) hn).2 false;obtain⟨a0,a1,a2,a3,a4,a5,a6,a7,a8,a9⟩:=eQ.facts;obtain⟨f1,f2,f3,f4,f5,f6⟩:=eQ.eA;have qs:=eQ.IV (m.count-1);have KN:Calls Tryz.prog 152 #[.pointer (some ⟨x,0,none⟩),.string ⟨#[45]⟩,.int .i64 ((n:Nat):Int)] _ _:=ga ⟨_,_,qs⟩ 45 ((n:Nat):Int) (by unfold aN;omega) (by show m.trace.length<=_;omega))
   |(go_at_call 152;refine KN.mono ?_;rintro e w9 ⟨rfl,hM⟩))
  go_end0
  exact⟨rfl,by rw[HG.out];exact hM⟩
end
end Mac
namespace Mac
open Go Go.RowKit Sq Aux PrjJ PrjK PrjL PrjM Go.Proofs.YtmlgajhhnojdjaaGreatDoor.Own RefRa RefP RefO
def dj (l:B):UInt8:=if partOf l=115 then 104 else 45
theorem MZ (l:B):left l=[dj l]:=by unfold left dj;split<;>rfl
def RM.ed (m:RM)(c:UInt8)(k:Nat):RM:=let m1:=if m.aZ.getD k 0=119 then m.free k else m;{m1 with aZ:=m1.aZ.set k c}
def RM.mg (m:RM)(c:UInt8)(k:Nat):Nat->RM
 |0=>m
 |n+1=>(RM.mg m c k n).ed c (k+n)
def RM.drop (p:RP)(m:RM)(l:B):RM:=m.mg (dj l) (sp p l) (p.aj l).2
section
variable {w0 w w1 w2 w3:World} {x:Nat} {f:Fx} {m:RM} {p:RP} {l:B} {t:Nat}
theorem RM.Ok.ed (h:m.Ok t)(ht:t<=10000000)(c:UInt8)(k:Nat):(m.ed c k).Ok (t+1):=by
 unfold RM.ed;simp only;split
 ·exact(h.free ht k).aZ _
 ·exact(h.mono (by omega)).aZ _
theorem RM.Ok.mg (h:m.Ok t)(c:UInt8)(k:Nat):∀n,t+n<=10000000->(m.mg c k n).Ok (t+n)
 |0,_=>h
 |n+1,hn=>(RM.Ok.mg h c k n (by omega)).ed (by omega) c (k+n)
theorem RM.Ok.drop (h:m.Ok t)(ht:t+2<=10000000)(hl:Wd p l)(cf:p.lets.length<=12):(m.drop p l).Ok (t+2):=by
 obtain⟨-,-,-,h2⟩:=hl.lt cf;exact(h.mg _ _ _ (by omega)).mono (by omega)
end
end Mac
end Go.Proofs.YtmlgajhhnojdjaaGreatDoor

import Derived.Test.YtmlgajhhnojdjaaGreatDoorRAE
namespace Go.Proofs.YtmlgajhhnojdjaaGreatDoor
namespace Aux
open Go Go.RowKit Sq
structure lD (L:List B)(w:World)(a:Nat)(v0:Value)(wr:World)(p:RP):Prop where
 inv:∃vl vt vb us,j9 w.heap.size a wr p vl vt vb us
 br:Below w.heap.size w wr
 row:wr.ownsRow w.heap.size 9 1 v0 L.length (cellsOf L)
theorem JK {B:Nat}{w w':World}(h:Below B w.drew w'):Below B w w':=⟨h.os,h.tape,h.output,h.size,h.block⟩
theorem bG (w:World)(o:Obj):Below w.heap.size w (w.alloc o):=(Below.refl _ _).alloc (jC _) o
section
variable {L:List B} {w:World} {a:Nat} {v0:Value} {wr:World} {p:RP}
theorem lD.below {w':World}(h:lD L w a v0 wr p)(hb:Below wr.heap.size wr w'):lD L w a v0 w' p:=by
 obtain⟨⟨vl,vt,vb,us,hi⟩,ho,hr⟩:=h;exact⟨⟨vl,vt,vb,us,hi.below hb⟩,ho.trans (hb.mono ho.size),ay hr hb⟩
theorem lD.drewN (h:lD L w a v0 wr p)(n:Nat):lD L w a v0 (wr.drewN n) p:=h.below (below_drewN (Below.refl _ _) n)
theorem lD.base (h:lD L w a v0 wr p):w.heap.size<=a:=by obtain⟨⟨vl,vt,vb,us,hi⟩,-,-⟩:=h;exact hi.base
theorem lD.yc (h:lD L w a v0 wr p)(cf:p.Ok):bf wr a p:=by obtain⟨⟨vl,vt,vb,us,hi⟩,-,-⟩:=h;exact hi.yc cf.words
theorem lD.line {w1 w2:World}{vl vt vb u v2:Value}{us:List Value}{ws:List B}{o:Obj}(h:lD L w a v0 wr p)(hinv:j9 w.heap.size a wr p vl vt vb us)(aw:Below wr.heap.size wr w1)
  (YU:w1.ownsRow wr.heap.size 9 1 u ws.length (cellsOf ws)) (hown2:w2.ownsRow w.heap.size 34 1 v2 (p.lines.length+1) (us++[u])) (hgrow2:(w1.alloc o).grownBy w2 vl.ownBlock):
  lD L w a v0 (w2.setCell ⟨a,0,none⟩ v2) (p.addLine ws):=by
 have h1:=h.below aw;have xT:=hinv.below aw;have ha:=h.base;refine⟨⟨v2,vt,vb,us++[u],j9.addLine xT (oY YU h.br.size) rfl hown2 hgrow2⟩,?_,?_⟩
 ·refine((h1.br.alloc h1.br.size o).grown hgrow2 (by have:=h1.br.size;simp;omega) fun k hk=>(xT.lines.lt k hk).1).setCell ha v2
 ·have lI:=bG w1 o;have Qc:=ay h1.row lI;have hk:=Qc.kept hgrow2 (da Qc (xT.below lI).lines (by decide));have bV:w2.heap[a]?=some (.cells #[vl,vt,vb,.bool p.raw] 128 (0,0)):=by
   rw[hgrow2.block a (xT.below lI).lt (au (xT.below lI).lines (xT.below lI).aJ (by decide)).symm];exact(xT.below lI).aJ
  exact av hk _ (au hk bV (by decide))
theorem lD.dD {w2:World}{vl vt vb v2:Value}{us:List Value}{o:Obj}{k:Nat}(h:lD L w a v0 wr p)(hinv:j9 w.heap.size a wr p vl vt vb us)
  (hown2:w2.ownsRow w.heap.size 3 1 v2 (p.lets.length+1) (dH p.lets++[.int .i64 (k:Int)])) (hgrow2:(wr.alloc o).grownBy w2 vt.ownBlock)
  (Er:∀g,v2.ownBlock=some g->vt.ownBlock=some g\/g=wr.heap.size+1):lD L w a v0 (w2.setCell ⟨a,1,none⟩ v2) (p.dD k):=by
 have ha:=h.base;refine⟨⟨vl,v2,vb,us,j9.dD hinv k hown2 hgrow2 Er⟩,?_,?_⟩
 ·refine((h.br.alloc h.br.size o).grown hgrow2 (by have:=h.br.size;simp;omega) fun k hk=>(hinv.lets.lt k hk).1).setCell ha v2
 ·have lI:=bG wr o;have Qc:=ay h.row lI;have hk:=Qc.kept hgrow2 (da Qc (hinv.below lI).lets (by decide));have bV:w2.heap[a]?=some (.cells #[vl,vt,vb,.bool p.raw] 128 (0,0)):=by
   rw[hgrow2.block a (hinv.below lI).lt (au (hinv.below lI).lets (hinv.below lI).aJ (by decide)).symm];exact(hinv.below lI).aJ
  exact av hk _ (au hk bV (by decide))
theorem lD.addBlock {w2:World}{vl vt vb v2:Value}{us:List Value}{o:Obj}{k:Nat}(h:lD L w a v0 wr p)(hinv:j9 w.heap.size a wr p vl vt vb us)
  (hown2:w2.ownsRow w.heap.size 3 1 v2 (p.blocks.length+1) (dH p.blocks++[.int .i64 (k:Int)])) (hgrow2:(wr.alloc o).grownBy w2 vb.ownBlock)
  (Er:∀g,v2.ownBlock=some g->vb.ownBlock=some g\/g=wr.heap.size+1):lD L w a v0 (w2.setCell ⟨a,2,none⟩ v2) (p.addBlock k):=by
 have ha:=h.base;refine⟨⟨vl,vt,v2,us,j9.addBlock hinv k hown2 hgrow2 Er⟩,?_,?_⟩
 ·refine((h.br.alloc h.br.size o).grown hgrow2 (by have:=h.br.size;simp;omega) fun k hk=>(hinv.blocks.lt k hk).1).setCell ha v2
 ·have lI:=bG wr o;have Qc:=ay h.row lI;have hk:=Qc.kept hgrow2 (da Qc (hinv.below lI).blocks (by decide));have bV:w2.heap[a]?=some (.cells #[vl,vt,vb,.bool p.raw] 128 (0,0)):=by
   rw[hgrow2.block a (hinv.below lI).lt (au (hinv.below lI).blocks (hinv.below lI).aJ (by decide)).symm];exact(hinv.below lI).aJ
  exact av hk _ (au hk bV (by decide))
end
end Aux
namespace Sq
open Go
theorem eJ (a b:ByteArray):(a++b).toList=a.toList++b.toList:=by
 simp only[ByteArray.toList_eq];simp
def fT (s:B)(c:UInt8):B:=if c∈s then s else s++[c]
def has (s:B)(c:UInt8):Bool:=s.contains c
def only (s some:B):Bool:=s.all fun c=>has some c
def left (w:B):B:=if partOf w=115 then [104]else [45]
def RP.ak (p:RP)(w:B):Nat×Nat:=
 if partOf w=98 then(2*(p.find (aj w)).toNat+1,1)
 else if p.typeOf w=cm then(2*(p.find (aj w)).toNat,2)else(2*(p.find (aj w)).toNat,1)
end Sq
namespace Sq
open Go
structure WS where
 known:Bool
 ak:List B
def WS.at (s:WS)(k:Nat):B:=s.ak.getD k []
def WS.cells (s:WS):List Value:=.bool s.known::s.ak.map fun b=> .string (bs b)
def WS.val (s:WS):Value:=.agg s.cells.toArray
structure WS.Ok (s:WS):Prop where
 len:s.ak.length=24
 fe:∀k,(s.at k).length<=1000
theorem WS.cT {s:WS}(h:s.Ok):s.cells.length=25:=by simp[WS.cells,h.len]
theorem WS.FW {s:WS}(h:s.Ok)(k:Nat)(hk:k<24):s.cells[1+k]?=some (.string (bs (s.at k))):=by
 rw[Nat.add_comm,WS.cells,List.getElem?_cons_succ,jJ];simp[WS.at,h.len,hk]
theorem WS.xE (s:WS):∀v∈s.cells,v.oneCell'=true:=by
 intro v hv;simp only[WS.cells,List.mem_cons,List.mem_map]at hv;rcases hv with rfl|⟨b,-,rfl⟩<;>rfl
def RP.some (p:RP)(w:B):B:=if p.typeOf w=eH then [110,119]else [119]
def dS (s:WS)(some:B):Nat->Nat->Bool
 |0,_=>true
 |m+1,k=>if only (s.at k) some then dS s some m (k+1)else false
def RP.there (p:RP)(s:WS)(w:B):Bool:=dS s (p.some w) (p.ak w).2 (p.ak w).1
theorem Fg (s:WS)(t:B)(i n k:Nat)(hk:k<i+n):dS s t (i+n-k) k=if only (s.at k) t then dS s t (i+n-(k+1)) (k+1)else false:=by
 rw[show i+n-k=(i+n-(k+1))+1 by omega,dS]
theorem RP.gu {p:RP}{w:B}{j:Nat}(hj:p.find (aj w)=(j:Int)):(p.ak w).1+(p.ak w).2<=2*j+2/\1<=(p.ak w).2:=by
 unfold RP.ak;rw[hj];split
 ·simp
 ·split<;>simp
end Sq
namespace Aux
open Go Go.RowKit Sq
theorem de (b:Nat):∀(vs:List Value) (o:Nat) (w:World) (k:Nat),k≠b->(w.setCells b o vs).heap[k]?=w.heap[k]?
 |[],_,_,_,_=>rfl
 |v::r,o,w,k,h=>by
  rw[World.setCells,de b r (o+1) _ k h,Below.heap_setCell _ _ _ _ h]
theorem eL (b:Nat):∀(vs:List Value) (o:Nat) (w:World) (cs:Array Value) (e:TypeId) (f:Nat×Nat),w.heap[b]?=some (.cells cs e f)->
  ∃cs',(w.setCells b o vs).heap[b]?=some (.cells cs' e f)/\cs'.size=cs.size/\∀j,cs'[j]?=if o<=j/\j<o+vs.length/\j<cs.size then vs[j-o]? else cs[j]?
 |[],o,w,cs,e,f,h=>⟨cs,h,rfl,fun j=>by rw[ja (by simp;omega)]⟩
 |v::r,o,w,cs,e,f,h=>by
  obtain⟨cs',h1,h2,h3⟩:=eL b r (o+1) (w.setCell ⟨b,o,none⟩ v) (cs.setIfInBounds o v) e f (heap_setCell_same h o v);refine⟨cs',by rw[World.setCells];exact h1,by rw[h2];simp,fun j=> ?_⟩;rw[h3,Array.getElem?_setIfInBounds];by_cases hj:j=o
  ·subst hj;rw[ja (by omega),jb rfl];by_cases hs:j<cs.size
   ·rw[jb hs,jb (by simp;omega)];simp
   ·rw[ja hs,ja (by omega)];simp;omega
  ·by_cases hc:o+1<=j/\j<o+1+r.length/\j<cs.size
   ·rw[jb (by simpa using hc),jb (by simp;omega)];rw[show j-o=(j-(o+1))+1 by omega,List.getElem?_cons_succ]
   ·rw[ja (by simpa using hc),ja (by omega),ja (by simp;omega)]
def aB (w:World)(b:Nat)(s:WS):Prop:=w.heap[b]?=some (.cells s.cells.toArray 155 (0,0))
section
variable {w w':World} {b:Nat} {s t:WS}
theorem aB.lt (h:aB w b s):b<w.heap.size:=by
 unfold aB at h;rw[Array.getElem?_eq_some_iff]at h;exact h.1
theorem aB.below (h:aB w b s)(hb:Below w.heap.size w w'):aB w' b s:=by
 unfold aB;rw[hb.block b h.lt];exact h
theorem aB.drewN (h:aB w b s)(n:Nat):aB (w.drewN n) b s:=h
theorem aB.drew (h:aB w b s):aB w.drew b s:=h
theorem aB.range (h:aB w b s):w.rangeAt b 0 s.cells:=fun j v hv=>by
 rw[Nat.zero_add,cell_of_heap h];simpa using hv
theorem aB.there (h:aB w b s)(hs:s.Ok):w.there b 0 25:=fun j hj=>by
 rw[Nat.zero_add,cell_of_heap h,frozen_of_heap h];have:=WS.cT hs;simp[this,hj]
theorem aB.cell (h:aB w b s)(hs:s.Ok)(k:Nat)(hk:k<24):w.cell? ⟨b,1+k,none⟩=some (.string (bs (s.at k))):=by
 rw[cell_of_heap h];simpa using WS.FW hs k hk
theorem aB.known (h:aB w b s):w.cell? ⟨b,0,none⟩=some (.bool s.known):=by
 rw[cell_of_heap h];rfl
theorem aB.frozen (h:aB w b s)(o:Nat):w.frozen? ⟨b,o,none⟩=false:=frozen_of_heap h o
theorem aB.store (h:aB w b s)(hs:s.Ok)(ht:t.Ok):aB (w.setCells b 0 t.cells) b t:=by
 obtain⟨cs',h1,h2,h3⟩:=eL b t.cells 0 w _ _ _ h;unfold aB;rw[h1];congr 2;apply Array.ext_getElem?
 intro j;rw[h3];have l1:=WS.cT hs;have l2:=WS.cT ht;by_cases hj:j<25
 ·rw[jb (by simp[l1,l2,hj])];simp
 ·rw[ja (by simp[l2];omega)];simp[l1,l2,Nat.le_of_not_lt hj]
theorem aB.other {b':Nat}(h:aB w b s)(ec:b≠b')(o:Nat)(vs:List Value):aB (w.setCells b' o vs) b s:=by
 unfold aB;rw[de b' vs o w b ec];exact h
theorem aB.setOther {a:Addr}(h:aB w b s)(ec:b≠a.block)(v:Value):aB (w.setCell a v) b s:=by
 unfold aB;rw[Below.heap_setCell _ _ _ _ ec];exact h
theorem aB.new (w:World)(s:WS):aB (w.alloc (.cells s.cells.toArray 155)) w.heap.size s:=by
 unfold aB;show(w.heap.push _)[w.heap.size]?=_;simp
theorem az {B:Nat}{w0:World}(h:Below B w0 w)(hB:B<=b)(o:Nat)(vs:List Value):Below B w0 (w.setCells b o vs):=by
 have hos:∀(vs:List Value) (o:Nat) (w:World),(w.setCells b o vs).os=w.os/\(w.setCells b o vs).tape=w.tape/\(w.setCells b o vs).output=w.output/\(w.setCells b o vs).heap.size=w.heap.size:=by
  intro vs;induction vs with
  |nil=>intro o w;exact⟨rfl,rfl,rfl,rfl⟩
  |cons v r ih=>intro o w;rw[World.setCells];have:=ih (o+1) (w.setCell ⟨b,o,none⟩ v);simpa [World.setCell]using this
 obtain⟨h1,h2,h3,h4⟩:=hos vs o w;exact h.trans ⟨h1,h2,h3,by omega,fun k hk=>de b vs o w k (by omega)⟩
end
def WS.set (s:WS)(k:Nat)(c:B):WS:={s with ak:=s.ak.set k c}
theorem WS.Tj {s:WS}(hs:s.Ok)(k:Nat){c:B}(hc:c.length<=1000):(WS.set s k c).Ok:=by
 refine⟨by simp[WS.set,hs.len],fun j=> ?_⟩;unfold WS.at WS.set;simp only[List.getD_eq_getElem?_getD,List.getElem?_set];split
 ·split
  ·simpa using hc
  ·simp
 ·exact hs.fe j
theorem aB.set {w:World}{b:Nat}{s:WS}(h:aB w b s)(k:Nat)(c:B):aB (w.setCell ⟨b,1+k,none⟩ (.string (bs c))) b (WS.set s k c):=by
 unfold aB;rw[heap_setCell_same h];congr 2;have:(WS.set s k c).cells=s.cells.set (1+k) (.string (bs c)):=by
  simp[WS.set,WS.cells,Nat.add_comm 1 k,List.map_set]
 rw[this];simp
theorem dQ {fn:Func}{p:Tmp}{ty:TypeId}(h:fn.results= #[.cell p ty])(tmps:Array Value)(P:Program)(w:World)(b:Nat)(cs:List Value)(d:TypeDesc)(hp:tmps.getD p undef=.pointer (some ⟨b,0,none⟩))
  (hc:w.rangeAt b 0 cs) (hu:P.underlying ty=some d) (hd:d.isRow=true) (hi:(P.info? ty).map (·.size)=some cs.length):(results fn tmps).run P w=.ok (.agg cs.toArray) w:=by
 have:=run_loadVar_mid (P:=P) w b 0 ty cs d hc hu hd hi;rw[Array.getD_eq_getD_getElem?]at hp;unfold results;simp[h,hp,asAddr,this]
theorem eG {fn:Func}{p u:Tmp}{ty:TypeId}(h:fn.results= #[.cell p ty,.tmp u])(tmps:Array Value)(P:Program)(w:World)(b:Nat)(cs:List Value)(d:TypeDesc)(hp:tmps.getD p undef=.pointer (some ⟨b,0,none⟩))
  (hc:w.rangeAt b 0 cs) (hu:P.underlying ty=some d) (hd:d.isRow=true) (hi:(P.info? ty).map (·.size)=some cs.length):(results fn tmps).run P w=.ok (.tuple #[.agg cs.toArray,tmps.getD u undef]) w:=by
 have:=run_loadVar_mid (P:=P) w b 0 ty cs d hc hu hd hi;rw[Array.getD_eq_getD_getElem?]at hp;unfold results;simp[h,hp,asAddr,this]
end Aux
namespace PrjJ
open Go Go.RowKit Sq Aux PrjF PrjG PrjH PrjI
theorem xk (c:UInt8):∀(a:B),¬c∈a->split c a=[a]
 |[],_=>rfl
 |x::a,h=>by
  simp only[List.mem_cons,not_or]at h;rw[split,ja (fun e=>h.1 e.symm),xk c a h.2];rfl
theorem yj (c:UInt8):∀(a t:B),¬c∈a->split c (a++c::t)=a::split c t
 |[],t,_=>by simp[split]
 |x::a,t,h=>by
  simp only[List.mem_cons,not_or]at h;rw[jW,split,ja (fun e=>h.1 e.symm),yj c a t h.2];rfl
theorem oj (c:UInt8):∀(l:B),(split c l).length=l.count c+1
 |[]=>rfl
 |x::l=>by
  rw[split];split
  ·rename_i h;subst h;simp[oj x l]
  ·rename_i h;have:=oj c l;rw[List.count_cons_of_ne (fun e=>h e)];cases hs:split c l with
   |nil=>rw[hs]at this;simp at this
   |cons a b=>rw[hs]at this;simpa [eT]using this
theorem Df {c:UInt8}{l:B}{i:Nat}:((bs l).extract 0 (i+0))=bs (l.take i)/\((bs l).extract (i+(⟨#[c]⟩:ByteArray).size) (bs l).size)=bs (l.drop (i+1)):=by
 constructor
 ·rw[extract_eq,aE];simp
 ·rw[extract_eq,aE];have:(⟨#[c]⟩:ByteArray).size=1:=rfl;rw[this,dR,List.take_of_length_le (by simp)]
theorem pZ (c:UInt8):∀(k:Nat) (l:B),(Lib.splitB ⟨#[c]⟩ 0 k (bs l)).length=min (k+1) (split c l).length/\
  (∀j,j<k->j<(split c l).length->(Lib.splitB ⟨#[c]⟩ 0 k (bs l))[j]?=some (bs (word (split c l) j)))/\((split c l).length<=k+1->Lib.splitB ⟨#[c]⟩ 0 k (bs l)=(split c l).map bs)
 |0,l=>by
  have h1:=oj c l;refine⟨by simp[Lib.splitB];omega,fun j hj=>absurd hj (by omega),fun h=> ?_⟩;have:¬c∈l:=fun e=>by have:=List.count_pos_iff.mpr e;omega
  rw[xk c l this];rfl
 |k+1,l=>by
  have hx:Lib.indexB (bs l) ⟨#[c]⟩=Lib.index l [c]:=by simp[Lib.indexB,bs]
  rcases pI c l with⟨h1,h2⟩|⟨i,h1,h2,h3,h4⟩
  ·rw[Lib.splitB_miss _ _ _ _ (by rw[hx,h1]),xk c l h2];refine⟨by simp,fun j hj hl=> ?_,fun _=>rfl⟩;have:j=0:=by simpa using hl
   subst this;rfl
  ·obtain⟨e1,e2⟩:=Df (c:=c) (l:=l) (i:=i);rw[Lib.splitB_hit _ _ _ _ i (by rw[hx,h1]),e1,e2];have hs:split c l=l.take i::split c (l.drop (i+1)):=(congrArg (split c) h3).trans (yj c _ _ h4);obtain⟨a1,a2,a3⟩:=pZ c k (l.drop (i+1));rw[hs];refine⟨?_,fun j hj hl=> ?_,fun h=> ?_⟩
   ·simp only[List.length_cons,a1];omega
   ·cases j with
    |zero=>rfl
    |succ j=>
     rw[List.getElem?_cons_succ,a2 j (by omega) (by simpa using hl)];rfl
   ·rw[a3 (by simp at h;omega)];rfl
theorem Eb (c:UInt8):∀(n:Nat) (l:B),l.length<=n->Lib.countB (bs l) ⟨#[c]⟩+1=(split c l).length:=by
 intro n;induction n with
 |zero=>
  intro l hl;have:l=[]:=List.eq_nil_of_length_eq_zero (by omega);subst this;rw[Lib.countB_miss (bs []) ⟨#[c]⟩ (by rfl)];rfl
 |succ n ih=>
  intro l hl;have hx:Lib.indexB (bs l) ⟨#[c]⟩=Lib.index l [c]:=by simp[Lib.indexB,bs]
  rcases pI c l with⟨h1,h2⟩|⟨i,h1,h2,h3,h4⟩
  ·rw[Lib.countB_miss _ _ (by rw[hx,h1]),xk c l h2];rfl
  ·obtain⟨e1,e2⟩:=Df (c:=c) (l:=l) (i:=i);rw[Lib.countB_hit (bs l) ⟨#[c]⟩ i (jC 1) (by rw[hx,h1]),e2];have hs:split c l=l.take i::split c (l.drop (i+1)):=(congrArg (split c) h3).trans (yj c _ _ h4);have:=ih (l.drop (i+1)) (by simp;omega);rw[hs,jY];omega
def fO (w:World)(v:Value)(L:List B):Prop:=
 ∃g o cap,v=.slice (some ⟨g,o,none⟩) L.length cap/\L.length<=cap/\(∃cs f,w.heap[g]?=some (.cells cs 9 f))/\∀j,j<L.length->w.cell? ⟨g,o+j,none⟩=some (.string (bs (word L j)))
theorem lt_of_heap {w:World}{g:Nat}{x:Obj}(h:w.heap[g]?=some x):g<w.heap.size:=by
 rw[Array.getElem?_eq_some_iff]at h;exact h.1
theorem fO.below {w w':World}{v:Value}{L:List B}(h:fO w v L)(hb:Below w.heap.size w w'):fO w' v L:=by
 obtain⟨g,o,cap,rfl,hc,⟨cs,f,hg⟩,aD⟩:=h;have aL:=lt_of_heap hg;exact⟨g,o,cap,rfl,hc,⟨cs,f,(hb.block g aL).trans hg⟩,fun j hj=>(hb.cell (p:=⟨g,o+j,none⟩) aL).trans (aD j hj)⟩
theorem yu (op:Nat)(h:op<23):(ag op).length<=3:=by
 have:∀op:Fin 23,(ag op.val).length<=3:=by decide
 exact this ⟨op,h⟩
theorem L3 (l:B)(w:World)(h:l.length<=1048576)(E:Env w):
  Calls Tryz.prog 195 #[.string (bs l),.string ⟨#[32]⟩,.int .i64 5] w fun e w'=>∃g cap,e=.returned (.slice (some ⟨g,0,none⟩) (min 5 (split 32 l).length) cap)/\min 5 (split 32 l).length<=cap/\(cap<=5/\(l≠[]->2<=cap))/\g<w'.heap.size/\w.heap.size<=g/\Below w.heap.size w w'/\
   w'.cell? ⟨g,0,none⟩=some (.string (bs (word (split 32 l) 0)))/\((split 32 l).length<=4->∀j,j<(split 32 l).length->w'.cell? ⟨g,j,none⟩=some (.string (bs (word (split 32 l) j))))/\(∃cs f,w'.heap[g]?=some (.cells cs 9 f)):=by
 obtain⟨m,hm⟩:=E.OZ;have K:=Tryz.strings_SplitN (bs l) ⟨#[32]⟩ 5 m w (by rw[dR];omega) hm (by decide) (by decide) (by decide);refine K.mono ?_;rintro e w' ⟨rfl,rfl⟩;rw[dR];have yV:=lQ 32 l;have h1:=fw 32 l;have hk:min 5 (l.length+1)-1+1=min 5 (l.length+1):=by omega
 obtain⟨a1,a2,a3⟩:=pZ 32 (min 5 (l.length+1)-1) l;have hlen:(Lib.splitB ⟨#[32]⟩ 0 (min 5 (l.length+1)-1) (bs l)).length=min 5 (split 32 l).length:=by rw[a1];omega
 have aD:∀j,j<min 5 (split 32 l).length->(w.alloc (.cells (Lib.cellsOf (Lib.splitB ⟨#[32]⟩ 0 (min 5 (l.length+1)-1) (bs l)) (min 5 (l.length+1))) 9)).cell? ⟨w.heap.size,j,none⟩=(Lib.splitB ⟨#[32]⟩ 0 (min 5 (l.length+1)-1) (bs l))[j]?.map Value.string:=by
  intro j hj;have:(w.alloc (.cells (Lib.cellsOf (Lib.splitB ⟨#[32]⟩ 0 (min 5 (l.length+1)-1) (bs l)) (min 5 (l.length+1))) 9)).heap[w.heap.size]?=some (.cells (Lib.cellsOf (Lib.splitB ⟨#[32]⟩ 0 (min 5 (l.length+1)-1) (bs l)) (min 5 (l.length+1))) 9 (0,0)):=by show(w.heap.push _)[w.heap.size]?=_;simp
  simp only[World.cell?,this];unfold Lib.cellsOf;simp only[List.getElem?_toArray];rw[jg (by simp;omega),jJ];rfl
 refine⟨w.heap.size,min 5 (l.length+1),by rw[hlen],by omega,⟨by omega,fun hl=>by have:l.length≠0:=fun e=>hl (List.eq_nil_of_length_eq_zero e);omega⟩,by simp,jC _,(Below.refl _ _).alloc (jC _) _,?_,fun h4 j hj=> ?_,⟨_,_,(show(w.heap.push _)[w.heap.size]?=_ from jD)⟩⟩
 ·rw[aD 0 (by omega)];by_cases hk0:0<min 5 (l.length+1)-1
  ·rw[a2 0 hk0 (by omega)];rfl
  ·have zM:l=[]:=List.eq_nil_of_length_eq_zero (by omega);subst zM;rfl
 ·rw[aD j (by omega),a3 (by omega),jJ];simp[word,hj]
def iS (w:World)(b:Nat):Prop:=w.heap[b]?=some (.cells #[.int .i64 0,.slice none 0 0] 240 (0,0))
theorem iS.new (w:World):iS (w.alloc (.cells #[.int .i64 0,.slice none 0 0] 240)) w.heap.size:=by
 unfold iS;show(w.heap.push _)[w.heap.size]?=_;simp
theorem iS.lt {w:World}{b:Nat}(h:iS w b):b<w.heap.size:=by
 unfold iS at h;rw[Array.getElem?_eq_some_iff]at h;exact h.1
theorem iS.below {w w':World}{b:Nat}(h:iS w b)(hb:Below w.heap.size w w'):iS w' b:=by
 unfold iS;rw[hb.block b h.lt];exact h
theorem iS.facts {w:World}{b:Nat}(h:iS w b):w.cell? ⟨b,0,none⟩=some (.int .i64 0)/\w.cell? ⟨b,1,none⟩=some (.slice none 0 0)/\w.frozen? ⟨b,0,none⟩=false/\w.frozen? ⟨b,1,none⟩=false:=by
 unfold iS at h;exact⟨by rw[cell_of_heap h];rfl,by rw[cell_of_heap h];rfl,frozen_of_heap h 0,frozen_of_heap h 1⟩
def me (l:B)(w:World)(e:Ending)(w':World):Prop:=
 Below w.heap.size w w'/\match eQ (split 32 l)with
  |none=>e=.returned (.tuple #[.agg #[.int .i64 0,.slice none 0 0],.bool false])
  |some x=>∃v,e=.returned (.tuple #[.agg #[.int .i64 (x.1:Nat),v],.bool true])/\fO w' v x.2
theorem PY {w:World}{b:Nat}(r:iS w b)(x y:Value):((w.setCell ⟨b,0,none⟩ x).setCell ⟨b,1,none⟩ y).rangeAt b 0 [x,y]:=by
 unfold iS at r;have h1:=Go.Proofs.YtmlgajhhnojdjaaGreatDoor.Aux.heap_setCell_same r 0 x;have h2:=Go.Proofs.YtmlgajhhnojdjaaGreatDoor.Aux.heap_setCell_same h1 1 y;intro j v hv;rw[cell_of_heap h2]
 match j,hv with
 |0,hv=>simpa using hv
 |1,hv=>simpa using hv
theorem NG {w w2:World}{b:Nat}(hb:Below w.heap.size w w2)(h:w.heap.size<=b)(x y:Value):Below w.heap.size w ((w2.setCell ⟨b,0,none⟩ x).setCell ⟨b,1,none⟩ y):=by
 refine⟨hb.os,hb.tape,hb.output,by simpa using hb.size,fun k hk=> ?_⟩;rw[Below.heap_setCell _ _ _ _ (by show k≠b;omega),Below.heap_setCell _ _ _ _ (by show k≠b;omega)];exact hb.block k hk
theorem Cu:(Tryz.prog.info? 240).map (·.size)=some 2:=by kernel_rfl
theorem xh {l:B}{w w2:World}{tmps:Array Value}{x y:Value}{bl:Bool}(h2:tmps.getD 2 undef=.pointer (some ⟨w.heap.size,0,none⟩))(h3:tmps.getD 3 undef=.bool bl)(r:iS w2 w.heap.size)(hb:Below w.heap.size w w2)
  (P:∀w3,Below w.heap.size w w3->(∀k,k≠w.heap.size->w3.heap[k]?=w2.heap[k]?)->w3.heap.size=w2.heap.size->me l w (.returned (.tuple #[.agg #[x,y],.bool bl])) w3):
  bodyPost Tryz.prog Tryz.f163 (me l w) Exit.ret {tmps:=tmps,defers:=[]} ((w2.setCell ⟨w.heap.size,0,none⟩ x).setCell ⟨w.heap.size,1,none⟩ y):=by
 refine bodyPost_ret (eG Tryz.results163 tmps _ _ w.heap.size [x,y] _ h2 (PY r x y) Tryz.underlying240 rfl Cu) rfl ?_;rw[h3];refine P _ (NG hb (jC _) x y) (fun k hk=> ?_) (by simp);rw[Below.heap_setCell _ _ _ _ (by show k≠_;exact hk),Below.heap_setCell _ _ _ _ (by show k≠_;exact hk)]
theorem Tk (op:Nat)(h:op<23):gq[op*2+1]?=some (.string (bs (ag op))):=by
 have h:op=0\/op=1\/op=2\/op=3\/op=4\/op=5\/op=6\/op=7\/op=8\/op=9\/op=10\/op=11\/op=12\/op=13\/op=14\/op=15\/op=16\/op=17\/op=18\/op=19\/op=20\/op=21\/op=22:=by omega
 rcases h with rfl|rfl|rfl|rfl|rfl|rfl|rfl|rfl|rfl|rfl|rfl|rfl|rfl|rfl|rfl|rfl|rfl|rfl|rfl|rfl|rfl|rfl|rfl<;>rfl
theorem pY {w:World}(E:Env w)(op:Nat)(h:op<23):w.cell? ⟨0,op*2+1,none⟩=some (.string (bs (ag op))):=by
 have:=E.Tl (op*2+1) (.string (bs (ag op))) (Tk op h);simpa using this
set_option maxRecDepth 20000 in
theorem BK (l:B)(w:World)(h:l.length<=1048576)(E:Env w):
  Calls Tryz.prog 163 #[.string (bs l)] w (me l w):=by
 have KS:=fun w' (E':Env w')=>L3 l w' h E'
 have E1:=E.on ((Below.refl _ _).alloc (jC _) (.cells #[.int .i64 0,.slice none 0 0] 240));have aw:Below w.heap.size w (w.alloc (.cells #[.int .i64 0,.slice none 0 0] 240)):=(Below.refl _ _).alloc (jC _) _;have lx:(w.alloc (.cells #[.int .i64 0,.slice none 0 0] 240)).heap.size=w.heap.size+1:=by simp
 have KO:=fun w' (E':Env w')=>SL (word (split 32 l) 0) w' E'.Tl
 have h1:=fw 32 l;cases ho:fE (word (split 32 l) 0)with
 |none=>
  have hx:eQ (split 32 l)=none:=by rw[eQ,ho]
  have P:∀w',Below w.heap.size w w'->me l w (.returned (.tuple #[.agg #[.int .i64 0,.slice none 0 0],.bool false])) w':=fun w' hb=>⟨hb,by rw[hx]⟩
  rw[ho]at KO;go_enter Tryz.func163,Tryz.ntmps163
  go_wp2_with (first|(go_at_call 195;refine(KS _ E1).mono ?_;rintro e w1 ⟨g,cap,rfl,kq,oa,hg,T0,hb,mZ,zK,csg,fg,X4⟩;have r1:=(iS.new w).below hb)|(go_at_call 196;refine(KO _ (E1.on hb)).mono ?_;rintro e w2 ⟨rfl,bU⟩;obtain⟨rc0,rc1,rf0,rf1⟩:=(r1.below bU).facts))
  refine xh rfl rfl (r1.below bU) ((aw.trans (hb.mono (by omega))).trans (bU.mono ?_)) (fun w3 h3 _ _=>P w3 h3);have:=hb.size;omega
 |some op=>
  have ax:=oX ho;have Vb:=yu op ax;rw[ho]at KO;have zM:l≠[]:=by rintro rfl;have:fE (word (split 32 []) 0)=none:=rfl;rw[this]at ho;cases ho
  have GS:∀j,(word (split 32 l) j).length<=1048576:=fun j=>jS (eN 32 l j) h
  by_cases hlen:(split 32 l).length-1=(ag op).length
  ·have hmin:min 5 (split 32 l).length=(ag op).length+1:=by omega
   have hl4:(split 32 l).length<=4:=by omega
   have UY:(split 32 l).length=(ag op).length+1:=by omega
   rw[hmin]at KS;have hx:Hid (eQ (split 32 l)=if bh (ag op) ((split 32 l).drop 1)=true then some (op,(split 32 l).drop 1)else none):=by
    unfold Hid;rw[eQ,ho];simp only[hlen,true_and]
   have HF:Hid (bh (ag op) ((split 32 l).drop 1)=bh ((ag op).drop 0) ((split 32 l).drop (0+1))):=rfl;clear hmin hlen;go_enter Tryz.func163,Tryz.ntmps163
   go_wp2_with (first|(go_at_call 195;refine(KS _ E1).mono ?_;rintro e w1 ⟨g,cap,rfl,kq,oa,hg,T0,hb,mZ,zK,csg,fg,X4⟩;have r1:=(iS.new w).below hb;have kM:¬cap=1:=(by have:=oa.2 zM;omega))|(go_at_call 196;refine(KO _ (E1.on hb)).mono ?_;rintro e w2 ⟨rfl,bU⟩;obtain⟨rc0,rc1,rf0,rf1⟩:=(r1.below bU).facts;have Cs:=pY ((E1.on hb).on bU) op ax))
   have hB:Below w.heap.size w w2:=(aw.trans (hb.mono (by omega))).trans (bU.mono (by have:=hb.size;omega));have r2:=r1.below bU;have E2:=(E1.on hb).on bU;have Rq:∀j,j<(split 32 l).length->w2.cell? ⟨g,j,none⟩=some (.string (bs (word (split 32 l) j))):=fun j hj=>(bU.cell (p:=⟨g,j,none⟩) hg).trans (zK hl4 j hj)
   have Kj:g<w2.heap.size:=jK hg bU.size;have htag2:w2.heap[g]?=some (.cells csg 9 fg):=(bU.block g hg).trans X4;clear KS KO zK mZ rc0 rc1 rf0 rf1 Cs;go_loopw [36] (fun i wr=>∃k:Nat,k<=(ag op).length/\i=.int .i64 k/\Hid (bh (ag op) ((split 32 l).drop 1)=bh ((ag op).drop k) ((split 32 l).drop (k+1)))/\Below w2.heap.size w2 wr) (fun i _=>(ag op).length-(intOf i).toNat)
   case atStart=>exact⟨0,jQ _,rfl,HF,Below.refl _ _⟩
   case round=>
    obtain⟨k,hk,rfl,HI,FB⟩:=hrel;have rr:=r2.below FB;obtain⟨rc0,rc1,rf0,rf1⟩:=rr.facts;have Jn:Below w.heap.size w wr:=hB.trans (FB.mono (by have:=hB.size;omega));by_cases aL:k<(ag op).length
    ·have TX:wr.cell? ⟨g,1+k,none⟩=some (.string (bs (word (split 32 l) (k+1)))):=by
      rw[FB.cell (p:=⟨g,1+k,none⟩) Kj,Nat.add_comm 1 k];exact Rq (k+1) (by omega)
     have KF:=EC (word (split 32 l) (k+1)) ((ag op)[k]) wr (GS _) (E2.on FB);have HS:Hid (bh ((ag op).drop k) ((split 32 l).drop (k+1))=(jq (word (split 32 l) (k+1)) (ag op)[k]&&bh ((ag op).drop (k+1)) ((split 32 l).drop (k+2)))):=by
      unfold Hid;rw[jE aL,bh,List.drop_drop];simp[word]
     cases hf:jq (word (split 32 l) (k+1)) (ag op)[k]
     ·rw[hf]at KF;have hn:eQ (split 32 l)=none:=by
       rw[hx.out,ja];rw[HI.out,HS.out,hf];simp
      clear hf;go_wp2_with (go_at_call 197;refine KF.mono ?_;rintro e w3 ⟨rfl,lJ⟩;obtain⟨sc0,sc1,sf0,sf1⟩:=(rr.below lJ).facts)
      refine xh rfl rfl (rr.below lJ) (Jn.trans (lJ.mono (by have:=Jn.size;omega))) (fun w4 h4 _ _=>⟨h4,by rw[hn]⟩)
     ·rw[hf]at KF;have Oj:Hid (bh ((ag op).drop k) ((split 32 l).drop (k+1))=bh ((ag op).drop (k+1)) ((split 32 l).drop (k+2))):=by
       unfold Hid;rw[HS.out,hf,Bool.true_and]
      clear hf;go_wp2_with (go_at_call 197;refine KF.mono ?_;rintro e w3 ⟨rfl,lJ⟩)
      go_roundw
      case rel=>exact⟨k+1,by omega,by go_num,by unfold Hid;rw[HI.out,Oj.out],FB.trans (lJ.mono FB.size)⟩
      case measure=>simp[intOf];omega
    ·have Oj:eQ (split 32 l)=some (op,(split 32 l).drop 1):=by
      rw[hx.out,jb];rw[HI.out,show k=(ag op).length by omega,List.drop_length];rfl
     go_wp2
     have ZY:g≠w.heap.size:=by omega
     refine xh rfl rfl rr Jn (fun w4 h4 hk4 hz4=>⟨h4,?_⟩);rw[Oj];refine⟨_,rfl,g,1,cap-1,?_,?_,?_,fun j hj=> ?_⟩
     ·simp only[List.length_drop,UY,Nat.add_sub_cancel]
     ·simp only[List.length_drop,UY,Nat.add_sub_cancel];omega
     ·exact⟨csg,fg,by rw[hk4 g ZY,FB.block g Kj];exact htag2⟩
     ·simp only[List.length_drop]at hj;have:w4.cell? ⟨g,1+j,none⟩=wr.cell? ⟨g,1+j,none⟩:=by
       simp only[World.cell?,hk4 g ZY]
      rw[this,FB.cell (p:=⟨g,1+j,none⟩) Kj,Rq (1+j) (by omega)];simp[word,Nat.add_comm 1 j]
  ·have hx:eQ (split 32 l)=none:=by
    rw[eQ,ho];simp only[hlen,false_and,if_false]
   have P:∀w',Below w.heap.size w w'->me l w (.returned (.tuple #[.agg #[.int .i64 0,.slice none 0 0],.bool false])) w':=fun w' hb=>⟨hb,by rw[hx]⟩
   obtain⟨n,hn⟩:∃n,min 5 (split 32 l).length=n+1:=⟨min 5 (split 32 l).length-1,by omega⟩;have ec:¬n=(ag op).length:=by omega
   rw[hn]at KS;have Kn:((n:Int)==((ag op).length:Int))=false:=by rw[jZ];omega
   clear hlen hx hn;go_enter Tryz.func163,Tryz.ntmps163
   go_wp2_with (first|(go_at_call 195;refine(KS _ E1).mono ?_;rintro e w1 ⟨g,cap,rfl,kq,oa,hg,T0,hb,mZ,zK,csg,fg,X4⟩;have r1:=(iS.new w).below hb;have kM:¬cap=1:=(by have:=oa.2 zM;omega))|(go_at_call 196;refine(KO _ (E1.on hb)).mono ?_;rintro e w2 ⟨rfl,bU⟩;obtain⟨rc0,rc1,rf0,rf1⟩:=(r1.below bU).facts;have Cs:=pY ((E1.on hb).on bU) op ax))
   refine xh rfl rfl (r1.below bU) ((aw.trans (hb.mono (by omega))).trans (bU.mono ?_)) (fun w3 h3 _ _=>P w3 h3);have:=hb.size;omega
end PrjJ
end Go.Proofs.YtmlgajhhnojdjaaGreatDoor

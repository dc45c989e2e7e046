import Derived.Test.YtmlgajhhnojdjaaGreatDoorRAD
import Derived.Deep.MidRow
namespace Go.Proofs.YtmlgajhhnojdjaaGreatDoor
namespace Sq
open Go
structure WS where
 known:Bool
 aj:List B
def WS.at (s:WS)(k:Nat):B:=s.aj.getD k []
def WS.cells (s:WS):List Value:=.bool s.known::s.aj.map fun b=> .string (bs b)
def WS.val (s:WS):Value:=.agg s.cells.toArray
structure WS.Ok (s:WS):Prop where
 len:s.aj.length=24
 fc:∀k,(s.at k).length<=1000
theorem WS.cS {s:WS}(h:s.Ok):s.cells.length=25:=by simp[WS.cells,h.len]
theorem WS.FV {s:WS}(h:s.Ok)(k:Nat)(hk:k<24):s.cells[1+k]?=some (.string (bs (s.at k))):=by
 rw[Nat.add_comm,WS.cells,List.getElem?_cons_succ,jJ];simp[WS.at,h.len,hk]
theorem WS.xD (s:WS):∀v∈s.cells,v.oneCell'=true:=by
 intro v hv;simp only[WS.cells,List.mem_cons,List.mem_map]at hv;rcases hv with rfl|⟨b,-,rfl⟩<;>rfl
def RP.some (p:RP)(w:B):B:=if p.typeOf w=eG then [110,119]else [119]
def dR (s:WS)(some:B):Nat->Nat->Bool
 |0,_=>true
 |m+1,k=>if only (s.at k) some then dR s some m (k+1)else false
def RP.there (p:RP)(s:WS)(w:B):Bool:=dR s (p.some w) (p.aj w).2 (p.aj w).1
theorem Ff (s:WS)(t:B)(i n k:Nat)(hk:k<i+n):dR s t (i+n-k) k=if only (s.at k) t then dR s t (i+n-(k+1)) (k+1)else false:=by
 rw[show i+n-k=(i+n-(k+1))+1 by omega,dR]
theorem RP.gq {p:RP}{w:B}{j:Nat}(hj:p.find (ai w)=(j:Int)):(p.aj w).1+(p.aj w).2<=2*j+2/\1<=(p.aj w).2:=by
 unfold RP.aj;rw[hj];split
 ·simp
 ·split<;>simp
end Sq
namespace Aux
open Go Go.RowKit Sq
theorem dd (b:Nat):∀(vs:List Value) (o:Nat) (w:World) (k:Nat),k≠b->(w.setCells b o vs).heap[k]?=w.heap[k]?
 |[],_,_,_,_=>rfl
 |v::r,o,w,k,h=>by
  rw[World.setCells,dd b r (o+1) _ k h,Below.heap_setCell _ _ _ _ h]
theorem eK (b:Nat):∀(vs:List Value) (o:Nat) (w:World) (cs:Array Value) (e:TypeId) (f:Nat×Nat),w.heap[b]?=some (.cells cs e f)->
  ∃cs',(w.setCells b o vs).heap[b]?=some (.cells cs' e f)/\cs'.size=cs.size/\∀j,cs'[j]?=if o<=j/\j<o+vs.length/\j<cs.size then vs[j-o]? else cs[j]?
 |[],o,w,cs,e,f,h=>⟨cs,h,rfl,fun j=>by rw[ja (by simp;omega)]⟩
 |v::r,o,w,cs,e,f,h=>by
  obtain⟨cs',h1,h2,h3⟩:=eK b r (o+1) (w.setCell ⟨b,o,none⟩ v) (cs.setIfInBounds o v) e f (heap_setCell_same h o v);refine⟨cs',by rw[World.setCells];exact h1,by rw[h2];simp,fun j=> ?_⟩;rw[h3,Array.getElem?_setIfInBounds];by_cases hj:j=o
  ·subst hj;rw[ja (by omega),jb rfl];by_cases hs:j<cs.size
   ·rw[jb hs,jb (by simp;omega)];simp
   ·rw[ja hs,ja (by omega)];simp;omega
  ·by_cases hc:o+1<=j/\j<o+1+r.length/\j<cs.size
   ·rw[jb (by simpa using hc),jb (by simp;omega)];rw[show j-o=(j-(o+1))+1 by omega,List.getElem?_cons_succ]
   ·rw[ja (by simpa using hc),ja (by omega),ja (by simp;omega)]
def aA (w:World)(b:Nat)(s:WS):Prop:=w.heap[b]?=some (.cells s.cells.toArray 155 (0,0))
section
variable {w w':World} {b:Nat} {s t:WS}
theorem aA.lt (h:aA w b s):b<w.heap.size:=by
 unfold aA at h;rw[Array.getElem?_eq_some_iff]at h;exact h.1
theorem aA.below (h:aA w b s)(hb:Below w.heap.size w w'):aA w' b s:=by
 unfold aA;rw[hb.block b h.lt];exact h
theorem aA.drewN (h:aA w b s)(n:Nat):aA (w.drewN n) b s:=h
theorem aA.drew (h:aA w b s):aA w.drew b s:=h
theorem aA.range (h:aA w b s):w.rangeAt b 0 s.cells:=fun j v hv=>by
 rw[Nat.zero_add,cell_of_heap h];simpa using hv
theorem aA.there (h:aA w b s)(hs:s.Ok):w.there b 0 25:=fun j hj=>by
 rw[Nat.zero_add,cell_of_heap h,frozen_of_heap h];have:=WS.cS hs;simp[this,hj]
theorem aA.cell (h:aA w b s)(hs:s.Ok)(k:Nat)(hk:k<24):w.cell? ⟨b,1+k,none⟩=some (.string (bs (s.at k))):=by
 rw[cell_of_heap h];simpa using WS.FV hs k hk
theorem aA.known (h:aA w b s):w.cell? ⟨b,0,none⟩=some (.bool s.known):=by
 rw[cell_of_heap h];rfl
theorem aA.frozen (h:aA w b s)(o:Nat):w.frozen? ⟨b,o,none⟩=false:=frozen_of_heap h o
theorem aA.store (h:aA w b s)(hs:s.Ok)(ht:t.Ok):aA (w.setCells b 0 t.cells) b t:=by
 obtain⟨cs',h1,h2,h3⟩:=eK b t.cells 0 w _ _ _ h;unfold aA;rw[h1];congr 2;apply Array.ext_getElem?
 intro j;rw[h3];have l1:=WS.cS hs;have l2:=WS.cS ht;by_cases hj:j<25
 ·rw[jb (by simp[l1,l2,hj])];simp
 ·rw[ja (by simp[l2];omega)];simp[l1,l2,Nat.le_of_not_lt hj]
theorem aA.other {b':Nat}(h:aA w b s)(ea:b≠b')(o:Nat)(vs:List Value):aA (w.setCells b' o vs) b s:=by
 unfold aA;rw[dd b' vs o w b ea];exact h
theorem aA.setOther {a:Addr}(h:aA w b s)(ea:b≠a.block)(v:Value):aA (w.setCell a v) b s:=by
 unfold aA;rw[Below.heap_setCell _ _ _ _ ea];exact h
theorem aA.new (w:World)(s:WS):aA (w.alloc (.cells s.cells.toArray 155)) w.heap.size s:=by
 unfold aA;show(w.heap.push _)[w.heap.size]?=_;simp
theorem ay {B:Nat}{w0:World}(h:Below B w0 w)(hB:B<=b)(o:Nat)(vs:List Value):Below B w0 (w.setCells b o vs):=by
 have hos:∀(vs:List Value) (o:Nat) (w:World),(w.setCells b o vs).os=w.os/\(w.setCells b o vs).tape=w.tape/\(w.setCells b o vs).output=w.output/\(w.setCells b o vs).heap.size=w.heap.size:=by
  intro vs;induction vs with
  |nil=>intro o w;exact⟨rfl,rfl,rfl,rfl⟩
  |cons v r ih=>intro o w;rw[World.setCells];have:=ih (o+1) (w.setCell ⟨b,o,none⟩ v);simpa [World.setCell]using this
 obtain⟨h1,h2,h3,h4⟩:=hos vs o w;exact h.trans ⟨h1,h2,h3,by omega,fun k hk=>dd b vs o w k (by omega)⟩
end
def WS.set (s:WS)(k:Nat)(c:B):WS:={s with aj:=s.aj.set k c}
theorem WS.Ti {s:WS}(hs:s.Ok)(k:Nat){c:B}(hc:c.length<=1000):(WS.set s k c).Ok:=by
 refine⟨by simp[WS.set,hs.len],fun j=> ?_⟩;unfold WS.at WS.set;simp only[List.getD_eq_getElem?_getD,List.getElem?_set];split
 ·split
  ·simpa using hc
  ·simp
 ·exact hs.fc j
theorem aA.set {w:World}{b:Nat}{s:WS}(h:aA w b s)(k:Nat)(c:B):aA (w.setCell ⟨b,1+k,none⟩ (.string (bs c))) b (WS.set s k c):=by
 unfold aA;rw[heap_setCell_same h];congr 2;have:(WS.set s k c).cells=s.cells.set (1+k) (.string (bs c)):=by
  simp[WS.set,WS.cells,Nat.add_comm 1 k,List.map_set]
 rw[this];simp
theorem dP {fn:Func}{p:Tmp}{ty:TypeId}(h:fn.results= #[.cell p ty])(tmps:Array Value)(P:Program)(w:World)(b:Nat)(cs:List Value)(d:TypeDesc)(hp:tmps.getD p undef=.pointer (some ⟨b,0,none⟩))
  (hc:w.rangeAt b 0 cs) (hu:P.underlying ty=some d) (hd:d.isRow=true) (hi:(P.info? ty).map (·.size)=some cs.length):(results fn tmps).run P w=.ok (.agg cs.toArray) w:=by
 have:=run_loadVar_mid (P:=P) w b 0 ty cs d hc hu hd hi;rw[Array.getD_eq_getD_getElem?]at hp;unfold results;simp[h,hp,asAddr,this]
theorem eF {fn:Func}{p u:Tmp}{ty:TypeId}(h:fn.results= #[.cell p ty,.tmp u])(tmps:Array Value)(P:Program)(w:World)(b:Nat)(cs:List Value)(d:TypeDesc)(hp:tmps.getD p undef=.pointer (some ⟨b,0,none⟩))
  (hc:w.rangeAt b 0 cs) (hu:P.underlying ty=some d) (hd:d.isRow=true) (hi:(P.info? ty).map (·.size)=some cs.length):(results fn tmps).run P w=.ok (.tuple #[.agg cs.toArray,tmps.getD u undef]) w:=by
 have:=run_loadVar_mid (P:=P) w b 0 ty cs d hc hu hd hi;rw[Array.getD_eq_getD_getElem?]at hp;unfold results;simp[h,hp,asAddr,this]
end Aux
namespace Aux
open Go Go.RowKit Sq
section
variable {P:Program} {w:World} {ops:Array Oper} {rest:List Oper} {o:Oper} {a:Act} {Q:Exit->Act->World->Prop}
theorem kg (Kj:o.guard=none)(s x:Operand)(t:TypeId)
  (ho:o.op=.call {callee:=.builtin .append,args:= #[s,x],argTypes:= #[t,t]})
  (base:Nat) (e:TypeId) (i:TypeInfo) (z:Value) (size bytes:Nat) (ht:P.underlying t=some (.slice e)) (hi:P.info? e=some i) (hz:i.zero=some z)
  (hsize:i.size=size) (hby:i.bytes=bytes) (hzs:z.cells.size=size) (lx:0<size)
  (v:Value) (n:Nat) (xs:List Value) (hs:a.eval s=v) (jr:w.ownsRow base e size v n xs)
  (g0:Nat) (us:List Value) (hx:a.eval x=.slice (some ⟨g0,0,none⟩) 1 1) {e':TypeId} {fr:Nat×Nat} (bU:w.heap[g0]?=some (.cells us.toArray e' fr)) (hul:us.length=size) (h1:∀u∈us,u.oneCell'=true)
  (av:1<=bytes) (hbytes:(n+1)*bytes<=140737488355328) (qO:base<=w.heap.size)
  (h:∀g cap w',w'.ownsRow base e size (.slice (some ⟨g,0,none⟩) (n+1) cap) (n+1) (xs++us)->w.grownBy w' v.ownBlock->(v.ownBlock=some g\/g=w.heap.size)->g<w'.heap.size->wpList P ops Q rest (a.put o.dst (.slice (some ⟨g,0,none⟩) (n+1) cap)) w'):wpList P ops Q (o::rest) a w:=by
 refine wpList_append_lies _ Kj s x t ho base e i z size bytes ht hi hz hsize hby hzs lx v n xs hs jr ⟨g0,0,none⟩ 1 1 us hx (by omega) ?_ h1 (by decide) ?_ hbytes qO w.heap.size rfl h
 ·exact World.news_of_block bU
 ·have:n+1<=(n+1)*bytes:=Nat.le_mul_of_pos_right _ av;unfold maxLen;omega
theorem rB {K:Act->World->Prop}{E:Prop}(Kj:o.guard=none)(s x:Operand)(t:TypeId)
  (ho:o.op=.call {callee:=.builtin .append,args:= #[s,x],argTypes:= #[t,t]})
  (base:Nat) (e:TypeId) (i:TypeInfo) (z:Value) (size bytes:Nat) (ht:P.underlying t=some (.slice e)) (hi:P.info? e=some i) (hz:i.zero=some z)
  (hsize:i.size=size) (hby:i.bytes=bytes) (hzs:z.cells.size=size) (lx:0<size)
  (v:Value) (n:Nat) (xs:List Value) (hs:a.eval s=v) (jr:w.ownsRow base e size v n xs)
  (g0:Nat) (us:List Value) (hx:a.eval x=.slice (some ⟨g0,0,none⟩) 1 1) {e':TypeId} {fr:Nat×Nat} (bU:w.heap[g0]?=some (.cells us.toArray e' fr)) (hul:us.length=size) (h1:∀u∈us,u.oneCell'=true)
  (av:1<=bytes) (hbytes:(n+1)*bytes<=140737488355328) (qO:base<=w.heap.size)
  (h:∀g cap w',w'.ownsRow base e size (.slice (some ⟨g,0,none⟩) (n+1) cap) (n+1) (xs++us)->w.grownBy w' v.ownBlock->(v.ownBlock=some g\/g=w.heap.size)->g<w'.heap.size->K (a.put o.dst (.slice (some ⟨g,0,none⟩) (n+1) cap)) w'):
  if Region.wanted o (yielded ops a.tmps)=true then Oper.wp P o a w K Q else E:=by
 refine step_append_lies _ Kj s x t ho base e i z size bytes ht hi hz hsize hby hzs lx v n xs hs jr ⟨g0,0,none⟩ 1 1 us hx (by omega) ?_ h1 (by decide) ?_ hbytes qO w.heap.size rfl h
 ·exact World.news_of_block bU
 ·have:n+1<=(n+1)*bytes:=Nat.le_mul_of_pos_right _ av;unfold maxLen;omega
end
theorem jm {α:Type}(f:α->List Value)(m:Nat)(hf:∀x,(f x).length=m):∀(l:List α) (j c:Nat),c<m->(l.flatMap f)[j*m+c]?=(l[j]?).bind fun x=>(f x)[c]?
 |[],j,c,_=>by simp
 |x::l,0,c,hc=>by
  rw[List.flatMap_cons,Nat.zero_mul,Nat.zero_add,jg (by rw[hf];exact hc)];rfl
 |x::l,j+1,c,hc=>by
  have e:(j+1)*m+c=m+(j*m+c):=by rw[Nat.add_mul];omega
  rw[List.flatMap_cons,e,jf (by rw[hf];omega),hf,Nat.add_sub_cancel_left,jm f m hf l j c hc];rfl
theorem Gl {α:Type}(f:α->List Value)(m:Nat)(hf:∀x,(f x).length=m):∀(l:List α),(l.flatMap f).length=l.length*m
 |[]=>by simp
 |x::l=>by rw[List.flatMap_cons,jV,hf,Gl f m hf l,jY,Nat.add_mul];omega
theorem dJ {w:World}{base:Nat}{e:TypeId}{size:Nat}{v:Value}{n:Nat}{xs:List Value}(h:w.ownsRow base e size v n xs)(hn:0<n):
  ∃g cap,v=.slice (some ⟨g,0,none⟩) n cap/\n<=cap/\g<w.heap.size/\∀j,j<n*size->w.cell? ⟨g,j,none⟩=xs[j]?:=by
 have hl:=h.lt;obtain⟨h0,h⟩:=h;rcases h with⟨-,h⟩|⟨g,cap,cur,rfl,hb,hg,hc,hm,hs,ht⟩
 ·omega
 ·refine⟨g,cap,rfl,hc,(hl g rfl).2,fun j hj=> ?_⟩;rw[cell_of_heap hg];have:(cur.toList.take (n*size))[j]?=cur[j]?:=by
   rw[List.getElem?_take,jb hj];simp
  rw[<-this,ht]
end Aux
namespace Sq
open Go Aux
def og (c:B):Nat->Nat->WS->WS
 |0,_,s=>s
 |m+1,k,s=>og c m (k+1) (WS.set s k c)
def RP.now (p:RP)(s:WS)(l c:B):WS:=og c (p.aj l).2 (p.aj l).1 s
def aH:WS:=⟨false,List.replicate 24 []⟩
theorem bE:aH.Ok:=⟨rfl,fun k=>by
 unfold WS.at aH;simp only[List.getD_eq_getElem?_getD,List.getElem?_replicate];split<;>simp⟩
theorem LA (c:B)(i n k:Nat)(s:WS)(hk:k<i+n):og c (i+n-k) k s=og c (i+n-(k+1)) (k+1) (WS.set s k c):=by
 rw[show i+n-k=(i+n-(k+1))+1 by omega,og]
theorem Is (c:B)(hc:c.length<=1000):∀(m k:Nat) (s:WS),s.Ok->(og c m k s).Ok
 |0,_,_,h=>h
 |m+1,k,_,h=>Is c hc m (k+1) _ (WS.Ti h k hc)
theorem RP.ox (p:RP){s:WS}(hs:s.Ok)(l:B){c:B}(hc:c.length<=1000):(p.now s l c).Ok:=Is c hc _ _ _ hs
end Sq
end Go.Proofs.YtmlgajhhnojdjaaGreatDoor

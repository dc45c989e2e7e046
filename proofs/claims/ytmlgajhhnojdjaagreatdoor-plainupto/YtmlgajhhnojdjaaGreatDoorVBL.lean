import Derived.Test.YtmlgajhhnojdjaaGreatDoorVBK
namespace Go.Proofs.YtmlgajhhnojdjaaGreatDoor
namespace El
open Go Go.RowKit Sq Aux Go.Proofs.YtmlgajhhnojdjaaGreatDoor.Own PrjF PrjG PrjJ PrjK PrjL PrjM FlwA FlwB FlwF FlwJ FlwR
def ig (u v s:Value):List Value:=[u,v]++(List.replicate 24 (.bool false)++[s,.int .i64 0])
theorem yU (w:World):(Instr.alloc 142 true (.tuple #[])).run Tryz.prog w=.ok (.pointer (some ⟨w.heap.size,0,none⟩)) (w.alloc (.cells (ig (.pointer none) (.slice none 0 0) (.slice none 0 0)).toArray 142)):=by
 kernel_rfl
theorem Lt:(Tryz.prog.info? 142).map (·.size)=some 28:=by kernel_rfl
def Oh (v:Value):Prop:=∃p ad l c ad' l' c',v=.agg (ig (.pointer p) (.slice ad l c) (.slice ad' l' c')).toArray
@[simp] theorem SY (p ad ad' : Option Addr) (l c l' c' : Nat) : Oh (.agg (ig (.pointer p) (.slice ad l c) (.slice ad' l' c')).toArray) = True := eq_true ⟨p, ad, l, c, ad', l', c', rfl⟩
@[simp] theorem R9 (u v s : Value) : G5 (.agg (ig u v s).toArray) = ig u v s := rfl
def oo (w:World)(v:Value):Prop:=∃b,v=.pointer (some ⟨b,0,none⟩)/\w.there b 0 28
theorem mk_one (p ad ad':Option Addr)(l c l' c':Nat):∀u∈ig (.pointer p) (.slice ad l c) (.slice ad' l' c'),u.oneCell'=true:=by
 intro u hu;simp only[ig,List.cons_append,List.nil_append,List.mem_cons,List.mem_append,List.mem_replicate,List.not_mem_nil,or_false]at hu;rcases hu with rfl|rfl|⟨-,rfl⟩|rfl|rfl<;>rfl
section
variable (d:Option Tmp) (x y s:Operand) (t:TypeId) (ps:String) (af:Array Edge) (g:Option (Nat×Bool)) (a:Act) (w:World) (K:Act->World->Prop) (Q:Exit->Act->World->Prop)
theorem rm:Oper.wp Tryz.prog {dst:=d,op:=Op.alloc 142,type:=t,pos:=ps,after:=af,guard:=g} a w K Q=K (a.put d (.pointer (some ⟨w.heap.size,0,none⟩))) (w.alloc (.cells (ig (.pointer none) (.slice none 0 0) (.slice none 0 0)).toArray 142)):=by
 have:=yU w;unfold Oper.wp execOp;simp only[Sem.run_bind,Sem.run_pure,Result.andThen_ok,this];rfl
theorem rn (h:oo w (a.eval x))(h':Oh (a.eval y)):Oper.wp Tryz.prog {dst:=d,op:=Op.store 142 x y,type:=t,pos:=ps,after:=af,guard:=g} a w K Q=K (a.put d undef) (w.setCells (G8 (a.eval x)) 0 (G5 (a.eval y))):=by
 obtain⟨b,hb,hh⟩:=h;obtain⟨p,ad,l,c,ad',l',c',hy⟩:=h';have:=run_storeAt_mid (P:=Tryz.prog) w b 0 142 (ig (.pointer p) (.slice ad l c) (.slice ad' l' c')).toArray hh Lt (all_oneCell_toArray (mk_one p ad ad' l c l' c'));unfold Oper.wp execOp;simp only[hb,hy,Sem.run_bind,Sem.run_pure,Result.andThen_ok,this];rfl
end
theorem An:(Tryz.prog.info? 106).map (fun i=>(i.zero,i.size,i.bytes))=some (some (.slice none 0 0),1,24):=by kernel_rfl
theorem rO (n:Nat)(hn:n<=4000)(w:World):(Instr.makeSlice 108 (.int .i64 (n:Int)) (.int .i64 (n:Int))).run Tryz.prog w=.ok (.slice (some ⟨w.heap.size,0,none⟩) n n) (w.alloc (.cells (madeCells #[.slice none 0 0] n) 106)):=by
 obtain⟨i,hi,hx⟩:=Option.map_eq_some_iff.1 An;simp only[Prod.mk.injEq]at hx;obtain⟨hz,hs,hb⟩:=hx;have:=run_make (P:=Tryz.prog) w 108 106 i (.slice none 0 0) Tryz.underlying108 hi hz .i64 .i64 n n (by omega) (Int.le_refl _) (by rw[hb];omega) (by omega);have hc:(Value.slice none 0 0).cells= #[.slice none 0 0]:=rfl;rw[hs,hc]at this;simpa using this
theorem Fy (n:Nat):(madeCells #[.slice none 0 0] n).toList.take (n*1)=List.replicate n (.slice none 0 0):=by
 rw[Nat.mul_one,List.take_of_length_le (by rw[Array.length_toList,size_madeCells];exact jC _)];apply List.ext_getElem?
 intro j;by_cases hj:j<n
 ·rw[jO,jb hj];unfold madeCells;rw[Array.getElem?_toList,Array.getElem?_map,Array.getElem?_range,jb hj,Option.map_some];have:j%(#[Value.slice none 0 0]:Array Value).size=0:=Nat.mod_one j;rw[this];rfl
 ·rw[jO,ja hj,jG (by rw[Array.length_toList,size_madeCells];omega)]
theorem IS {z x sb a nb:Nat}{w F:World}{ve:Value}(hz:z<=w.heap.size)(hB:Below w.heap.size w F)(hx:F.heap[x]?=some (.cells (ig (.pointer (some ⟨a,0,none⟩)) ve (.slice (some ⟨sb,0,none⟩) nb nb)).toArray 142 (0,0)))(hs:F.heap[sb]?=some (.cells (madeCells #[.slice none 0 0] nb) 106 (0,0)))
  (gx:w.heap.size<=x) (gs:w.heap.size<=sb) (hn:nb<=4000):bG z w x a ve F (List.replicate 24 false) ⟨List.replicate nb [],0⟩ (fun k=>k=x\/k=sb):=by
 have hu:∀j,j<nb->(List.replicate nb (Value.slice none 0 0)).getD j undef=.slice none 0 0:=fun j hj=>by simp[List.getD_eq_getElem?_getD,hj]
 refine⟨.slice (some ⟨sb,0,none⟩) nb nb,List.replicate nb (.slice none 0 0),List.replicate nb [],hz,hx,by simp,hB,?_,by simp,fun j hj=> ?_,fun i j hij hj=> ?_,.inl rfl,fun k hk=> ?_,fun j hj k hk=> ?_,fun k hk=> ?_⟩
 ·show F.ownsRow z 106 1 _ (List.replicate nb []).length _
  rw[List.length_replicate];exact⟨by simp,.inr ⟨sb,nb,_,rfl,jS hz gs,hs,jC _,by unfold maxLen;omega,by rw[size_madeCells,Nat.mul_one],Fy nb⟩⟩
 ·have rI:j<nb:=by simpa using hj
  rw[hu j rI];have e1:(⟨List.replicate nb [],0⟩:Mk).blocks.getD j []=[]:=by simp[List.getD_eq_getElem?_getD,rI]
  have e2:(List.replicate nb ([]:List (Value×Value))).getD j []=[]:=by simp[List.getD_eq_getElem?_getD,rI]
  rw[e1,e2];exact⟨rfl,World.ownsRow_nil _ _ _ _,fun i hi=>(by cases hi)⟩
 ·have NU:i<nb:=Nat.lt_trans hij (by simpa using hj)
  rw[hu i NU];exact .inl rfl
 ·simp only[Value.ownBlock,Option.some.injEq]at hk;exact .inr hk.symm
 ·rw[hu j (by simpa using hj)]at hk;cases hk
 ·rcases hk with rfl|rfl
  ·exact⟨gx,lt_of_heap hx⟩
  ·exact⟨gs,lt_of_heap hs⟩
structure xa (z a:Nat)(w:World)(nb:Nat)(I:List (List Nat)->Prop)(x ap:Nat)(E:List (List Nat))(O:Nat->Prop)(wc:World):Prop where
 made:bG z w x a (.slice (some ⟨ap,0,none⟩) nb nb) wc (List.replicate 24 false) ⟨List.replicate nb [],0⟩ O
 row:cL wc ap E
 len:E.length=nb
 Ix:I E
 zE:¬O ap
 below:Below w.heap.size w wc
theorem FC {G:World}{x:Nat}{u v s u' v' s':Value}(h:G.heap[x]?=some (.cells (ig u v s).toArray 142 (0,0))):(G.setCells x 0 (ig u' v' s')).heap[x]?=some (.cells (ig u' v' s').toArray 142 (0,0)):=by
 obtain⟨cs',h1,h2,h3⟩:=eK x (ig u' v' s') 0 G _ _ _ h;have l1:(ig u v s).length=28:=by simp[ig]
 have l2:(ig u' v' s').length=28:=by simp[ig]
 generalize ig u v s=c1 at*;generalize ig u' v' s'=c2 at*;have e:cs'=c2.toArray:=by
  apply Array.ext_getElem?
  intro j;rw[h3];by_cases hj:j<28
  ·rw[jb (by simp[l1,l2,hj])];simp
  ·rw[ja (by simp[l2];omega)];simp[l1,l2,Nat.le_of_not_lt hj]
 rw[h1,e]
theorem L4 {G:World}{x:Nat}{u v s:Value}(h:G.heap[x]?=some (.cells (ig u v s).toArray 142 (0,0))):oo G (.pointer (some ⟨x,0,none⟩)):=by
 refine⟨_,rfl,fun j hj=>⟨?_,frozen_of_heap h _⟩⟩;rw[Nat.zero_add,cell_of_heap h];have l1:(ig u v s).length=28:=by simp[ig]
 simp[l1,hj]
theorem xR {z a nb x sb ap:Nat}{w G:World}{I:List (List Nat)->Prop}{E:List (List Nat)}(hz:z<=w.heap.size)(hn:nb<=4000)(hB:Below w.heap.size w G)(hx:G.heap[x]?=some (.cells (ig (.pointer none) (.slice none 0 0) (.slice none 0 0)).toArray 142 (0,0)))(hs:G.heap[sb]?=some (.cells (madeCells #[.slice none 0 0] nb) 106 (0,0)))
  (gx:w.heap.size<=x) (gs:w.heap.size<=sb) (hR:cL G ap E) (hl:E.length=nb) (hI:I E):
  oo G (.pointer (some ⟨x,0,none⟩))/\Hid (∃x' ap' E' O,x'=x/\xa z a w nb I x' ap' E' O (G.setCells x 0 (ig (.pointer (some ⟨a,0,none⟩)) (.slice (some ⟨ap,0,none⟩) nb nb) (.slice (some ⟨sb,0,none⟩) nb nb)))):=by
 have YK:sb≠x:=fun e=>by rw[e,hx]at hs;simp only[Option.some.injEq,Obj.cells.injEq]at hs;exact absurd hs.2.1 (by decide)
 have VO:ap≠x:=fun e=>by obtain⟨-,cs,h,-⟩:=hR;rw[e,hx]at h;simp only[Option.some.injEq,Obj.cells.injEq]at h;exact absurd h.2.1 (by decide)
 have has:ap≠sb:=fun e=>by obtain⟨-,cs,h,-⟩:=hR;rw[e,hs]at h;simp only[Option.some.injEq,Obj.cells.injEq]at h;exact absurd h.2.1 (by decide)
 have Vk:=aU hB gx 0 (ig (.pointer (some ⟨a,0,none⟩)) (.slice (some ⟨ap,0,none⟩) nb nb) (.slice (some ⟨sb,0,none⟩) nb nb));refine⟨L4 hx,x,ap,E,_,rfl,IS hz Vk (FC hx) ((aX _ _ _ _ _ YK).trans hs) gx gs hn,hR.heap (aX _ _ _ _ _ VO),hl,hI,fun e=>e.elim VO has,Vk⟩
end El
namespace El
open Go Go.RowKit Sq Aux Go.Proofs.YtmlgajhhnojdjaaGreatDoor.Own PrjF PrjG PrjJ PrjK PrjL PrjM PrjO PrjP PrjQ PrjS PrjT PrjU FlwA FlwB FlwE FlwF FlwG FlwI FlwJ FlwK FlwL FlwM FlwN FlwO FlwP FlwQ FlwR
attribute [local go_sem ↓] rm rn
theorem Ff (m:Mk)(i:Item):m.blocks.length<=(m.item i).blocks.length:=by
 cases i with
 |line l=>show _<=(m.put [l]).blocks.length;rw[dV];exact jC _
 |fork t sd=>show _<=(m.fork t sd).blocks.length;rw[lN];omega
theorem tb:∀(is:List Item) (m:Mk),m.blocks.length<=(m.items is).blocks.length
 |[],_=>jC _
 |i::is,m=>jS (Ff m i) (tb is (m.item i))
theorem oN (q:QP)(E:List (List Nat))(un:List Bool):∀b,q.blocks.length<=(bA q E un b).blocks.length
 |0=>by show _<=(List.replicate q.blocks.length ([]:List ab)).length;rw[List.length_replicate];exact jC _
 |b+1=>by
  refine jS (oN q E un b) ?_;show _<=(iS q E un b (bA q E un b)).blocks.length
  unfold iS;split
  ·rw[dV];exact jC _
  ·exact tb _ ⟨(bA q E un b).blocks,b⟩
def kh (q:QP):Nat->Nat
 |0=>0
 |b+1=>kh q b+(q.blocks.getD b []).length
theorem Jq (q:QP){b n:Nat}(h:b<=n):kh q b<=kh q n:=by
 induction h with
 |refl=>exact jC _
 |step _ ih=>exact jS ih (Nat.le_add_right _ _)
theorem pG {q:QP}(hq:vZ q.blocks.length q)(cV:q.locals.length<=12)(h0:0<q.blocks.length)(hn:q.blocks.length<=4000)(E:List (List Nat))(un:List Bool):∀b,b<=q.blocks.length->(bA q E un b).Small (4000+254*kh q b+2*b)
 |0,_=>⟨by show 0<(List.replicate q.blocks.length ([]:List ab)).length;rw[List.length_replicate];exact h0,by show(List.replicate q.blocks.length ([]:List ab)).length<=_;rw[List.length_replicate];omega,fun j=>by
   show((List.replicate q.blocks.length ([]:List ab)).getD j []).length<=_
   have:(List.replicate q.blocks.length ([]:List ab)).getD j []=[]:=by
    rw[jA,jO];split<;>rfl
   rw[this];simp⟩
 |b+1,hb=>by
  have ih:=pG hq cV h0 hn E un b (by omega);have hlen:=oN q E un b;have hS:(⟨(bA q E un b).blocks,b⟩:Mk).Small (4000+254*kh q b+2*b):=⟨by show b<(bA q E un b).blocks.length;omega,ih.many,ih.lines⟩;show(iS q E un b (bA q E un b)).Small _
  unfold iS;split
  ·exact(hS.line _).mono (by show _<=4000+254*(kh q b+_)+_;omega)
  ·have oF:∀l∈q.blocks.getD b [],iB q.locals.length q.blocks.length l:=hq.lines _ (by simp[show b<q.blocks.length by omega]);have gO:=ku cV un (q.blocks.getD b []) (E.getD b []) oF;exact(hS.items _ gO.1).mono (by have:=gO.2;show _<=4000+254*(kh q b+(q.blocks.getD b []).length)+_;omega)
section
variable {z a ap:Nat} {w w2:World} {q:QP} {I:List (List Nat)->Prop} {E:List (List Nat)}
theorem Ox (hz:z<=w.heap.size)(hn:q.blocks.length<=4000)(hB:Below w.heap.size w w2)(hR:cL w2 ap E)(hl:E.length=q.blocks.length)(hI:I E):
  (oo ((w2.alloc (.cells (madeCells #[.slice none 0 0] q.blocks.length) 106)).alloc (.cells (ig (.pointer none) (.slice none 0 0) (.slice none 0 0)).toArray 142)) (.pointer (some ⟨w2.heap.size+1,0,none⟩))/\Hid (∃x' ap' E' O,x'=w2.heap.size+1/\xa z a w q.blocks.length I x' ap' E' O (((w2.alloc (.cells (madeCells #[.slice none 0 0] q.blocks.length) 106)).alloc (.cells (ig (.pointer none) (.slice none 0 0) (.slice none 0 0)).toArray 142)).setCells (w2.heap.size+1) 0 (ig (.pointer (some ⟨a,0,none⟩)) (.slice (some ⟨ap,0,none⟩) q.blocks.length q.blocks.length) (.slice (some ⟨w2.heap.size,0,none⟩) q.blocks.length q.blocks.length)))))/\
  (oo ((w2.alloc (.cells (ig (.pointer none) (.slice none 0 0) (.slice none 0 0)).toArray 142)).alloc (.cells (madeCells #[.slice none 0 0] q.blocks.length) 106)) (.pointer (some ⟨w2.heap.size,0,none⟩))/\Hid (∃x' ap' E' O,x'=w2.heap.size/\xa z a w q.blocks.length I x' ap' E' O (((w2.alloc (.cells (ig (.pointer none) (.slice none 0 0) (.slice none 0 0)).toArray 142)).alloc (.cells (madeCells #[.slice none 0 0] q.blocks.length) 106)).setCells w2.heap.size 0 (ig (.pointer (some ⟨a,0,none⟩)) (.slice (some ⟨ap,0,none⟩) q.blocks.length q.blocks.length) (.slice (some ⟨w2.heap.size+1,0,none⟩) q.blocks.length q.blocks.length))))):=by
 have two:∀o1 o2:Obj,Below w2.heap.size w2 ((w2.alloc o1).alloc o2)/\((w2.alloc o1).alloc o2).heap[w2.heap.size]?=some o1/\((w2.alloc o1).alloc o2).heap[w2.heap.size+1]?=some o2:=fun o1 o2=>by
  have b1:Below w2.heap.size w2 (w2.alloc o1):=(Below.refl _ _).alloc (jC _) _;have s1:(w2.alloc o1).heap.size=w2.heap.size+1:=by simp
  have b2:Below (w2.alloc o1).heap.size (w2.alloc o1) ((w2.alloc o1).alloc o2):=(Below.refl _ _).alloc (jC _) _;refine⟨b1.trans (b2.mono (by omega)),(b2.block _ (by omega)).trans jD,?_⟩;rw[<-s1];exact jD
 have hs:=hB.size;obtain⟨p1,p2,p3⟩:=two (.cells (madeCells #[.slice none 0 0] q.blocks.length) 106) (.cells (ig (.pointer none) (.slice none 0 0) (.slice none 0 0)).toArray 142);obtain⟨r1,r2,r3⟩:=two (.cells (ig (.pointer none) (.slice none 0 0) (.slice none 0 0)).toArray 142) (.cells (madeCells #[.slice none 0 0] q.blocks.length) 106);exact⟨xR hz hn (hB.trans (p1.mono hs)) p3 p2 (by omega) (by omega) (hR.heap (p1.block _ hR.lt)) hl hI,xR hz hn (hB.trans (r1.mono hs)) r2 r3 (by omega) (by omega) (hR.heap (r1.block _ hR.lt)) hl hI⟩
theorem Oy (hz:z<=w.heap.size)(hn:q.blocks.length<=4000)(hB:Below w.heap.size w w2)(hR:cL w2 ap E)(hl:E.length=q.blocks.length)(hI:I E){sb:Nat}(gs:w.heap.size<=sb)(hs:w2.heap[sb]?=some (.cells (madeCells #[.slice none 0 0] q.blocks.length) 106 (0,0))):
  oo (w2.alloc (.cells (ig (.pointer none) (.slice none 0 0) (.slice none 0 0)).toArray 142)) (.pointer (some ⟨w2.heap.size,0,none⟩))/\Hid (∃x' ap' E' O,x'=w2.heap.size/\xa z a w q.blocks.length I x' ap' E' O ((w2.alloc (.cells (ig (.pointer none) (.slice none 0 0) (.slice none 0 0)).toArray 142)).setCells w2.heap.size 0 (ig (.pointer (some ⟨a,0,none⟩)) (.slice (some ⟨ap,0,none⟩) q.blocks.length q.blocks.length) (.slice (some ⟨sb,0,none⟩) q.blocks.length q.blocks.length)))):=by
 have b1:Below w2.heap.size w2 (w2.alloc (.cells (ig (.pointer none) (.slice none 0 0) (.slice none 0 0)).toArray 142)):=(Below.refl _ _).alloc (jC _) _;exact xR hz hn (hB.trans (b1.mono hB.size)) jD ((b1.block _ (lt_of_heap hs)).trans hs) hB.size gs (hR.heap (b1.block _ hR.lt)) hl hI
theorem Oz (hz:z<=w.heap.size)(hn:q.blocks.length<=4000)(hB:Below w.heap.size w w2)(hR:cL w2 ap E)(hl:E.length=q.blocks.length)(hI:I E){x:Nat}(gx:w.heap.size<=x)(hx:w2.heap[x]?=some (.cells (ig (.pointer none) (.slice none 0 0) (.slice none 0 0)).toArray 142 (0,0))):
  oo (w2.alloc (.cells (madeCells #[.slice none 0 0] q.blocks.length) 106)) (.pointer (some ⟨x,0,none⟩))/\Hid (∃x' ap' E' O,x'=x/\xa z a w q.blocks.length I x' ap' E' O ((w2.alloc (.cells (madeCells #[.slice none 0 0] q.blocks.length) 106)).setCells x 0 (ig (.pointer (some ⟨a,0,none⟩)) (.slice (some ⟨ap,0,none⟩) q.blocks.length q.blocks.length) (.slice (some ⟨w2.heap.size,0,none⟩) q.blocks.length q.blocks.length)))):=by
 have b1:Below w2.heap.size w2 (w2.alloc (.cells (madeCells #[.slice none 0 0] q.blocks.length) 106)):=(Below.refl _ _).alloc (jC _) _;exact xR hz hn (hB.trans (b1.mono hB.size)) ((b1.block _ (lt_of_heap hx)).trans hx) jD gx hB.size (hR.heap (b1.block _ hR.lt)) hl hI
end
end El
namespace El
open Go Go.RowKit Sq Aux Go.Proofs.YtmlgajhhnojdjaaGreatDoor.Own PrjF PrjG PrjJ PrjK PrjL PrjM PrjO PrjP PrjQ PrjS PrjT PrjU FlwA FlwB FlwE FlwF FlwG FlwI FlwJ FlwK FlwL FlwM FlwN FlwO FlwP FlwQ FlwR
attribute [local go_sem ↓] rm rn
@[simp] theorem RM (p ad ad' : Option Addr) (l c l' c' : Nat) : Oh (.agg #[.pointer p, .slice ad l c, .bool false, .bool false, .bool false, .bool false, .bool false, .bool false, .bool false, .bool false, .bool false, .bool false, .bool false, .bool false, .bool false, .bool false, .bool false, .bool false, .bool false, .bool false, .bool false, .bool false, .bool false, .bool false, .bool false, .bool false, .slice ad' l' c', .int .i64 0]) = True := eq_true ⟨p, ad, l, c, ad', l', c', rfl⟩
@[simp] theorem PL (u v s : Value) : G5 (.agg #[u, v, .bool false, .bool false, .bool false, .bool false, .bool false, .bool false, .bool false, .bool false, .bool false, .bool false, .bool false, .bool false, .bool false, .bool false, .bool false, .bool false, .bool false, .bool false, .bool false, .bool false, .bool false, .bool false, .bool false, .bool false, s, .int .i64 0]) = ig u v s := rfl
section
variable {z a:Nat} {w:World} {q:QP} {vl vb:Value} {us:List Value} {vss:List (List (Value×Value))}
set_option maxRecDepth 20000 in
set_option maxHeartbeats 4000000 in
theorem L0 (h:fe z a w q vl vb us vss)(h0:0<q.blocks.length)(hn:q.blocks.length<=4000)(mW:0<q.locals.length)(dS:q.locals.length<=12)(hq:vZ q.blocks.length q)(cD:∀j,(q.blocks.getD j []).length<=4000)(Oa:kh q q.blocks.length<=200)
  (I:List (List Nat)->(Nat->Bool)->Prop) (BH:I (cZ (List.replicate q.blocks.length ak) 0 aA) (eh (List.replicate q.blocks.length ak) (fun _=>false) 0 aA))
  (hI:∀E O b,vB E->E.length=q.blocks.length->b<q.blocks.length->O b=true->I E O->I (dx q E (bH O b false) b).2.1 (dx q E (bH O b false) b).2.2):
  Calls Tryz.prog 50 #[.pointer (some ⟨a,0,none⟩)] w fun e w'=>∃a' vb' us' vss' E,e=.returned (.pointer (some ⟨a',0,none⟩))/\fe z a' w' (lv q E) vl vb' us' vss'/\E.length=q.blocks.length/\vB E/\I E (fun _=>false)/\Below w.heap.size w w':=by
 have hz:z<=w.heap.size:=jS h.base (Nat.le_of_lt h.lt);obtain⟨p0,p1,-,-⟩:=fe.facts h;obtain⟨adb,cb,rfl⟩:=a8 h.blocks;have halt:=h.lt;have KE:=fun(X:World) (hX:Below w.heap.size w X)=>zD (h.below hX) h0 hn dS hq cD I BH hI
 have Mc:Hid (∀{X:World},Below w.heap.size w X->X.cell? ⟨a,1,none⟩=some (.slice adb q.blocks.length cb)/\X.cell? ⟨a,0,none⟩=some vl):=fun hX=>⟨(hX.cell (p:=⟨a,1,none⟩) halt).trans p1,(hX.cell (p:=⟨a,0,none⟩) halt).trans p0⟩
 have Rg:=rO q.blocks.length hn;obtain⟨D0,JL⟩:∃D0,w.drew=D0:=⟨_,rfl⟩;have b0:Below w.heap.size w D0:=by rw[<-JL];exact⟨rfl,rfl,rfl,jC _,fun _ _=>rfl⟩
 have s0:D0.heap.size=w.heap.size:=by rw[<-JL];rfl
 obtain⟨S1,gC⟩:∃S1,D0.alloc (.cells (madeCells #[.slice none 0 0] q.blocks.length) 106)=S1:=⟨_,rfl⟩;obtain⟨M1,DQ⟩:∃M1,D0.alloc (.cells (ig (.pointer none) (.slice none 0 0) (.slice none 0 0)).toArray 142)=M1:=⟨_,rfl⟩;obtain⟨SM,P8⟩:∃SM,S1.alloc (.cells (ig (.pointer none) (.slice none 0 0) (.slice none 0 0)).toArray 142)=SM:=⟨_,rfl⟩;obtain⟨MS,PY⟩:∃MS,M1.alloc (.cells (madeCells #[.slice none 0 0] q.blocks.length) 106)=MS:=⟨_,rfl⟩;have bS:Below w.heap.size w S1:=by rw[<-gC];exact b0.alloc (by omega) _
 have bM:Below w.heap.size w M1:=by rw[<-DQ];exact b0.alloc (by omega) _
 have sS:S1.heap.size=w.heap.size+1:=by rw[<-gC];simp[s0]
 have sM:M1.heap.size=w.heap.size+1:=by rw[<-DQ];simp[s0]
 have bSM:Below w.heap.size w SM:=by rw[<-P8];exact bS.alloc (by omega) _
 have bMS:Below w.heap.size w MS:=by rw[<-PY];exact bM.alloc (by omega) _
 have rS:S1.heap[w.heap.size]?=some (.cells (madeCells #[.slice none 0 0] q.blocks.length) 106 (0,0)):=by rw[<-gC,<-s0];exact jD
 have rM:M1.heap[w.heap.size]?=some (.cells (ig (.pointer none) (.slice none 0 0) (.slice none 0 0)).toArray 142 (0,0)):=by rw[<-DQ,<-s0];exact jD
 have rSM:SM.heap[w.heap.size+1]?=some (.cells (ig (.pointer none) (.slice none 0 0) (.slice none 0 0)).toArray 142 (0,0)):=by rw[<-P8,<-sS];exact jD
 have rMS:MS.heap[w.heap.size+1]?=some (.cells (madeCells #[.slice none 0 0] q.blocks.length) 106 (0,0)):=by rw[<-PY,<-sM];exact jD
 have rSM0:SM.heap[w.heap.size]?=some (.cells (madeCells #[.slice none 0 0] q.blocks.length) 106 (0,0)):=by rw[<-P8];exact(((Below.refl S1.heap.size S1).alloc (jC _) _).block _ (by omega)).trans rS
 have rMS0:MS.heap[w.heap.size]?=some (.cells (ig (.pointer none) (.slice none 0 0) (.slice none 0 0)).toArray 142 (0,0)):=by rw[<-PY];exact(((Below.refl M1.heap.size M1).alloc (jC _) _).block _ (by omega)).trans rM
 have sSM:SM.heap.size=w.heap.size+2:=by rw[<-P8];simp[sS]
 have sMS:MS.heap.size=w.heap.size+2:=by rw[<-PY];simp[sM]
 obtain⟨d0,-⟩:=Mc.out b0;obtain⟨d1,-⟩:=Mc.out bM;have K0:=KE D0 b0;have K1:=KE S1 bS;have K2:=KE M1 bM;have K3:=KE SM bSM;have K4:=KE MS bMS;clear KE p0 p1;go_enter Tryz.func50,Tryz.ntmps50
 go_upto_region 1 with fail
 go_cut [3] (fun v3 wc=>∃x ap E O,v3=.pointer (some ⟨x,0,none⟩)/\xa z a w q.blocks.length (fun E=>I E (fun _=>false)) x ap E O wc)
 case first=>
  go_region_law (first
   |(go_simp;go_at_call 79;go_fit K0;rintro e w2 ⟨ap,E',rfl,hR,hl,GL,GM,bu⟩;have dp:=b0.trans (bu.mono (by omega));obtain⟨⟨rm1,J2⟩,rm2,PF⟩:=Ox (a:=a) (I:=fun E=>I E (fun _=>false)) hz hn dp hR hl GL;obtain⟨d2,-⟩:=Mc.out dp;obtain⟨d3,-⟩:=Mc.out (dp.alloc dp.size (.cells (ig (.pointer none) (.slice none 0 0) (.slice none 0 0)).toArray 142)))
   |(go_simp;go_at_call 79;go_fit K1;rintro e w2 ⟨ap,E',rfl,hR,hl,GL,GM,bu⟩;have dp:=bS.trans (bu.mono (by omega));obtain⟨rm1,J2⟩:=Oy (a:=a) (I:=fun E=>I E (fun _=>false)) hz hn dp hR hl GL (jC _) ((bu.block _ (by omega)).trans rS);have PF:=J2)
   |(go_simp;go_at_call 79;go_fit K2;rintro e w2 ⟨ap,E',rfl,hR,hl,GL,GM,bu⟩;have dp:=bM.trans (bu.mono (by omega));obtain⟨rm1,J2⟩:=Oz (a:=a) (I:=fun E=>I E (fun _=>false)) hz hn dp hR hl GL (jC _) ((bu.block _ (by omega)).trans rM);obtain⟨d2,-⟩:=Mc.out dp;have PF:=J2)
   |(go_simp;go_at_call 79;go_fit K3;rintro e w2 ⟨ap,E',rfl,hR,hl,GL,GM,bu⟩;have dp:=bSM.trans (bu.mono (by omega));obtain⟨rm1,J2⟩:=xR (a:=a) (I:=fun E=>I E (fun _=>false)) hz hn dp ((bu.block _ (by omega)).trans rSM) ((bu.block _ (by omega)).trans rSM0) (by omega) (jC _) hR hl GL;have PF:=J2)
   |(go_simp;go_at_call 79;go_fit K4;rintro e w2 ⟨ap,E',rfl,hR,hl,GL,GM,bu⟩;have dp:=bMS.trans (bu.mono (by omega));obtain⟨rm1,J2⟩:=xR (a:=a) (I:=fun E=>I E (fun _=>false)) hz hn dp ((bu.block _ (by omega)).trans rMS0) ((bu.block _ (by omega)).trans rMS) (jC _) (by omega) hR hl GL;have PF:=J2))
  all_goals go_wp2_with fail
  all_goals
   go_meet
   case rel=>
    first
     |(obtain⟨x',ap',E',O',rfl,hf⟩:=J2.out;exact⟨_,ap',E',O',rfl,hf⟩)
     |(obtain⟨x',ap',E',O',rfl,hf⟩:=PF.out;exact⟨_,ap',E',O',rfl,hf⟩)
 case rest=>
  obtain⟨x,ap,E,O,rfl,hA⟩:=hcut;clear Rg JL b0 s0 gC DQ P8 PY bS bM sS sM bSM bMS rS rM rSM rMS rSM0 rMS0 sSM sMS d0 d1 K0 K1 K2 K3 K4 BH hI;obtain⟨adl,cl,rfl⟩:=a8 h.locals;have hS:Src z a w q (.slice adl q.locals.length cl) (.slice adb q.blocks.length cb) us vss E:=⟨h,hA.len,hq,mW,dS,hn,cD⟩;obtain⟨p1,-⟩:=Mc.out hA.below;go_wp2
  go_loopg [21] (q.blocks.length) (fun g v21 wr=>∃(k:Nat),k<=q.blocks.length/\g+k=q.blocks.length/\v21=.int .i64 k/\bG z w x a (.slice (some ⟨ap,0,none⟩) q.blocks.length q.blocks.length) wr (pb q E k) ⟨List.replicate q.blocks.length [],0⟩ O/\Fr O wc O wr)
  case atStart=>exact⟨0,jQ _,rfl,rfl,hA.made,Fr.refl _ _⟩
  case round=>
   obtain⟨k,hk,yp,rfl,iC,DO⟩:=hrel;have BJ:=hA.row.heap (DO.block ap hA.row.lt hA.zE);by_cases aP:k<q.blocks.length
   ·have EX:(k:Int)<q.blocks.length:=by omega
    have KA:=x6 hS iC BJ k aP;go_wp2_with (go_at_call 80;refine KA.mono ?_;rintro e w2 ⟨rfl,h2,F2⟩)
    go_roundg (q.blocks.length-(k+1))
    case measure=>omega
    case rel=>exact⟨k+1,by omega,by omega,by go_num,h2,DO.trans F2⟩
   ·have la:k=q.blocks.length:=by omega
    subst la;have hOr:=hA.zE;obtain⟨un,HU⟩:∃un,Hid (pb q E q.blocks.length=un):=⟨_,rfl⟩;rw[HU.out]at iC;clear p1;obtain⟨p1,-⟩:=Mc.out iC.from;obtain⟨wo,UO⟩:∃wo:World,wo=wr:=⟨_,rfl⟩;subst UO;go_wp2
    go_loopg [32] (q.blocks.length) (fun g v32 wr=>∃(k:Nat) (O':Nat->Prop),k<=q.blocks.length/\g+k=q.blocks.length/\v32=.int .i64 k/\bG z w x a (.slice (some ⟨ap,0,none⟩) q.blocks.length q.blocks.length) wr un (bA q E un k) O'/\cL wr ap E/\¬O' ap)
    case atStart=>exact⟨0,O,jQ _,rfl,rfl,iC,BJ,hOr⟩
    case round=>
     clear iC BJ hOr DO p1;obtain⟨k,O',hk,yp,rfl,iC,BJ,hOr⟩:=hrel;by_cases aP:k<q.blocks.length
     ·have EX:(k:Int)<q.blocks.length:=by omega
      have gO:=Jq q (show k+1<=q.blocks.length by omega);have e1:kh q (k+1)=kh q k+(q.blocks.getD k []).length:=rfl;have KM:=vR hS iC BJ hOr (pG hq dS h0 hn E un k (by omega)) k aP (jK aP (oN q E un k)) (by omega);go_wp2_with (go_at_call 81;refine KM.mono ?_;rintro e w2 ⟨rfl,O2,h2,F2⟩)
      go_roundg (q.blocks.length-(k+1))
      case measure=>omega
      case rel=>exact⟨k+1,O2,by omega,by omega,by go_num,h2,BJ.heap (F2.block ap BJ.lt hOr),fun e=>(F2.new _ e).elim hOr (fun e=>by have:=BJ.lt;omega)⟩
     ·have la:k=q.blocks.length:=by omega
      subst la;obtain⟨vb',us',vss',hm⟩:=iC;obtain⟨adm,cm,rfl⟩:=a8 hm.blocks;obtain⟨-,p2⟩:=Mc.out hm.bz;obtain⟨-,-,c26,-⟩:=hm.facts;have kD:∀W:World,Below wr.heap.size wr W->∀a',z<=a'->W.heap[a']?=some (.cells #[.slice adl q.locals.length cl,.slice adm (bA q E un q.blocks.length).blocks.length cm] 110 (0,0))->fe z a' W (lv q E) (.slice adl q.locals.length cl) (.slice adm (bA q E un q.blocks.length).blocks.length cm) us' vss'/\Below w.heap.size w W:=fun W hW a' ha hb=>by
       have er:lv q E=⟨q.locals,(bA q E un q.blocks.length).blocks⟩:=by unfold lv;rw[HU.out]
       rw[er];exact⟨⟨ha,hb,al (h.below hm.bz).locals hW,al hm.blocks hW,fun j hj=>(hm.each j hj).below hW,hm.apart⟩,hm.bz.trans (hW.mono hm.bz.size)⟩
      have J3:Hid _:=kD;have Y1:z<=wr.heap.size:=jS hz hm.bz.size;clear kD hm;generalize (bA q E un q.blocks.length).blocks.length=nm at*;go_upto_region 12 with fail
      go_region
      all_goals go_wp2_with fail
      all_goals
       go_ret
       obtain⟨f1,f2⟩:=J3.out (wr.drew.alloc (.cells #[.slice adl q.locals.length cl,.slice adm nm cm] 110)) ⟨rfl,rfl,rfl,by simp,fun k hk=>by show(wr.heap.push _)[k]?=_;rw[Array.getElem?_push_lt hk];simp[hk]⟩ wr.heap.size Y1 jD;exact⟨_,_,us',vss',E,rfl,f1,hA.len,hA.row.1,hA.Ix,f2⟩
end
end El
namespace Aux
theorem Qv:True:=trivial
end Aux
namespace RefZc
theorem Pc:True:=trivial
end RefZc
namespace RefRa
open Go.RowKit Sq RefA RefO Aux
def Sa (k:Nat):UInt8:=UInt8.ofNat (48+k)
def sA (n:Nat):B:=if _h:n<=9 then [Sa n]else sA (n/10)++[Sa (n%10)]
termination_by n
decreasing_by omega
theorem EC (n:Nat)(h:9<n):sA n=sA (n/10)++[Sa (n%10)]:=by
 rw[sA,dif_neg (by omega)]
theorem He (n:Nat)(h:n<=9):sA n=[Sa n]:=by
 rw[sA,dif_pos h]
def Kg (z:Int):B:=if z<0 then 45::sA z.natAbs else sA z.natAbs
end RefRa
namespace El
open Go Sq Aux RefRa PrjS
def fU (k:Nat):B:=if k=1 then [46,97]else if k=2 then [46,98]else if k=3 then [46,115]else []
def S0 (ls:List (B×Nat))(x:Nat×Nat):B:=(ls.getD x.1 ([],0)).1++fU x.2
theorem xp:∀(n r:B),(∀c∈n,¬c=46)->bC (n++r)=(n++(bC r).1,(bC r).2)
 |[],r,_=>rfl
 |c::n,r,h=>by
  rw[jW,bC,ja (h c (jM ..)),xp n r (fun x hx=>h x (jN _ hx))];rfl
theorem Gq {n:B}(hn:∀c∈n,¬c=46){k:Nat}(hk:k<=3):bd (n++fU k)=some (n,k):=by
 unfold bd;rw[xp n _ hn];have:k=0\/k=1\/k=2\/k=3:=by omega
 rcases this with rfl|rfl|rfl|rfl<;>simp[fU,bC]
def bN (ls:List (B×Nat))(num fl:Int):B->List (Nat×Nat)->List Nat->List B
 |[],_,_=>[]
 |c::f,ps,nx=>
  if c=35\/c=118 then Kg num::bN ls num fl f ps nx
  else if c=102 then Kg fl::bN ls num fl f ps nx
  else if c=98 then sA (nx.headD 0)::bN ls num fl f ps nx.tail
  else S0 ls (ps.headD (0,0))::bN ls num fl f ps.tail nx
end El
namespace El
open Go Sq Aux RefRa PrjS
theorem LU (op:Fin 23):cz (bD op.val)=some op.val:=by revert op;decide
theorem kk (ls:List (B×Nat))(num fl:Int):∀(f:B) (ps:List (Nat×Nat)) (nx:List Nat),(bN ls num fl f ps nx).length=f.length
 |[],_,_=>rfl
 |c::f,ps,nx=>by
  rw[bN];split
  ·rw[jY,kk,jY]
  split
  ·rw[jY,kk,jY]
  split
  ·rw[jY,kk,jY]
  ·rw[jY,kk,jY]
theorem fQ {n:B}(h:isName n=true):∀c∈n,¬c=46:=fun c hc e=>by
 unfold isName at h;simp only[Bool.and_eq_true,List.all_eq_true]at h;have:=h.1.1 c hc;rw[e]at this;exact absurd this (by decide)
def fA:B->List (Nat×Nat)->Prop
 |[],_=>True
 |c::f,ps=>if eg c=true then((c=105\/c=111->(ps.headD (0,0)).2=0)/\fA f ps.tail)else fA f ps
end El
end Go.Proofs.YtmlgajhhnojdjaaGreatDoor

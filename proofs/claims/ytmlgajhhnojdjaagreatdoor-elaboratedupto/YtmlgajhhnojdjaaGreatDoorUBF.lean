import Derived.Test.YtmlgajhhnojdjaaGreatDoorUBE
namespace Go.Proofs.YtmlgajhhnojdjaaGreatDoor
namespace Own
open Go Go.RowKit Sq Aux PrjJ PrjK PrjL PrjM FlwA FlwB
def bW (u v:Value):List Value:=[.slice none 0 0,.int .i64 0,.slice none 0 0,u,v]++List.replicate 36 (.int .i64 0)
def Pt (v:Value):Prop:=∃p,v=.pointer p
def UR (v:Value):Prop:=∃ad l c,v=.slice ad l c
@[simp] theorem VV (p : Option Addr) : Pt (.pointer p) = True := eq_true ⟨p, rfl⟩
@[simp] theorem Y8 (ad : Option Addr) (l c : Nat) : UR (.slice ad l c) = True := eq_true ⟨ad, l, c, rfl⟩
theorem Bk (p ad:Option Addr)(l c:Nat)(w:World):(Instr.build 104 #[(1,.pointer p),(2,.slice ad l c)]).run Tryz.prog w=.ok (.agg (bW (.pointer p) (.slice ad l c)).toArray) w:=by
 kernel_rfl
theorem Bj (w:World):(Instr.alloc 104 true (.tuple #[])).run Tryz.prog w=.ok (.pointer (some ⟨w.heap.size,0,none⟩)) (w.alloc (.cells (bW (.pointer none) (.slice none 0 0)).toArray 104)):=by
 kernel_rfl
theorem sX (u v:Value):(bW u v).length=41:=rfl
theorem IF:(Tryz.prog.info? 104).map (·.size)=some 41:=by kernel_rfl
def TA (v:Value):Prop:=∃p ad l c,v=.agg (bW (.pointer p) (.slice ad l c)).toArray
@[simp] theorem VU (p ad : Option Addr) (l c : Nat) : TA (.agg (bW (.pointer p) (.slice ad l c)).toArray) = True := eq_true ⟨p, ad, l, c, rfl⟩
def Hi:Value->List Value
 | .agg xs=>xs.toList
 |_=>[]
@[simp] theorem Wa (u v : Value) : Hi (.agg (bW u v).toArray) = bW u v := rfl
def JO (w:World)(v:Value):Prop:=∃b,v=.pointer (some ⟨b,0,none⟩)/\w.there b 0 41
def JT:Value->Nat
 | .pointer (some ad)=>ad.block
 |_=>0
@[simp] theorem Vh (ad : Addr) : JT (.pointer (some ad)) = ad.block := rfl
theorem SA (p ad:Option Addr)(l c:Nat):∀u∈bW (.pointer p) (.slice ad l c),u.oneCell'=true:=by
 intro u hu;simp only[bW,List.cons_append,List.nil_append,List.mem_cons,List.mem_replicate]at hu;rcases hu with rfl|rfl|rfl|rfl|rfl|⟨-,rfl⟩<;>rfl
section
variable (d:Option Tmp) (x y:Operand) (t:TypeId) (ps:String) (af:Array Edge) (g:Option (Nat×Bool)) (a:Act) (w:World) (K:Act->World->Prop) (Q:Exit->Act->World->Prop)
theorem DX (h:Pt (a.eval x))(h':UR (a.eval y)):Oper.wp Tryz.prog {dst:=d,op:=Op.build 104 #[(1,x),(2,y)],type:=t,pos:=ps,after:=af,guard:=g} a w K Q=K (a.put d (.agg (bW (a.eval x) (a.eval y)).toArray)) w:=by
 obtain⟨p,hp⟩:=h;obtain⟨ad,l,c,hs⟩:=h';have:=Bk p ad l c w;unfold Oper.wp execOp;simp only[List.map_toArray,List.map_cons,List.map_nil,hp,hs,Sem.run_bind,Sem.run_pure,Result.andThen_ok,this];rfl
theorem DW:Oper.wp Tryz.prog {dst:=d,op:=Op.alloc 104,type:=t,pos:=ps,after:=af,guard:=g} a w K Q=K (a.put d (.pointer (some ⟨w.heap.size,0,none⟩))) (w.alloc (.cells (bW (.pointer none) (.slice none 0 0)).toArray 104)):=by
 have:=Bj w;unfold Oper.wp execOp;simp only[Sem.run_bind,Sem.run_pure,Result.andThen_ok,this];rfl
theorem DY (h:JO w (a.eval x))(h':TA (a.eval y)):Oper.wp Tryz.prog {dst:=d,op:=Op.store 104 x y,type:=t,pos:=ps,after:=af,guard:=g} a w K Q=K (a.put d undef) (w.setCells (JT (a.eval x)) 0 (Hi (a.eval y))):=by
 obtain⟨b,hb,hh⟩:=h;obtain⟨p,ad,l,c,hy⟩:=h';have:=run_storeAt_mid (P:=Tryz.prog) w b 0 104 (bW (.pointer p) (.slice ad l c)).toArray hh IF (all_oneCell_toArray (SA p ad l c));unfold Oper.wp execOp;simp only[hb,hy,Sem.run_bind,Sem.run_pure,Result.andThen_ok,this];rfl
theorem Gp (w:World)(u v:Value):JO (w.alloc (.cells (bW u v).toArray 104)) (.pointer (some ⟨w.heap.size,0,none⟩)):=by
 refine⟨_,rfl,fun j hj=> ?_⟩;have h:(w.alloc (.cells (bW u v).toArray 104)).heap[w.heap.size]?=some (.cells (bW u v).toArray 104 (0,0)):=jD;refine⟨?_,frozen_of_heap h _⟩;rw[cell_of_heap h,Nat.zero_add];simp only[List.getElem?_toArray];rw[jB (by rw[sX];exact hj)];rfl
end
theorem Sy (w:World)(u v u' v':Value):((w.alloc (.cells (bW u v).toArray 104)).setCells w.heap.size 0 (bW u' v')).heap[w.heap.size]?=some (.cells (bW u' v').toArray 104 (0,0))/\Below w.heap.size w ((w.alloc (.cells (bW u v).toArray 104)).setCells w.heap.size 0 (bW u' v')):=by
 have h:(w.alloc (.cells (bW u v).toArray 104)).heap[w.heap.size]?=some (.cells (bW u v).toArray 104 (0,0)):=jD;refine⟨?_,bp ((Below.refl _ _).alloc (jC _) _) (jC _) _ _⟩;obtain⟨cs',h1,h2,h3⟩:=fv w.heap.size (bW u' v') 0 _ _ _ _ h;have e:cs'=(bW u' v').toArray:=by
  apply Array.ext_getElem?
  intro j;rw[h3];by_cases hj:j<41
  ·rw[jb (by simp[sX];exact hj)];simp
  ·rw[ja (by simp[sX];omega),Array.getElem?_eq_none (by simp[sX];omega),Array.getElem?_eq_none (by simp[sX];omega)]
 rw[h1,e]
end Own
namespace El
open Go Go.RowKit Sq Aux Go.Proofs.YtmlgajhhnojdjaaGreatDoor.Own PrjF PrjG PrjJ PrjK PrjL PrjM FlwA FlwB FlwF FlwJ FlwR
def kS (u v s:Value):List Value:=[u,v]++(List.replicate 24 (.bool false)++[s,.int .i64 0])
theorem DM (w:World):(Instr.alloc 142 true (.tuple #[])).run Tryz.prog w=.ok (.pointer (some ⟨w.heap.size,0,none⟩)) (w.alloc (.cells (kS (.pointer none) (.slice none 0 0) (.slice none 0 0)).toArray 142)):=by
 kernel_rfl
theorem R7:(Tryz.prog.info? 142).map (·.size)=some 28:=by kernel_rfl
def UQ (v:Value):Prop:=∃p ad l c ad' l' c',v=.agg (kS (.pointer p) (.slice ad l c) (.slice ad' l' c')).toArray
@[simp] theorem Y7 (p ad ad' : Option Addr) (l c l' c' : Nat) : UQ (.agg (kS (.pointer p) (.slice ad l c) (.slice ad' l' c')).toArray) = True := eq_true ⟨p, ad, l, c, ad', l', c', rfl⟩
@[simp] theorem YF (u v s : Value) : Hi (.agg (kS u v s).toArray) = kS u v s := rfl
def rh (w:World)(v:Value):Prop:=∃b,v=.pointer (some ⟨b,0,none⟩)/\w.there b 0 28
theorem mk_one (p ad ad':Option Addr)(l c l' c':Nat):∀u∈kS (.pointer p) (.slice ad l c) (.slice ad' l' c'),u.oneCell'=true:=by
 intro u hu;simp only[kS,List.cons_append,List.nil_append,List.mem_cons,List.mem_append,List.mem_replicate,List.not_mem_nil,or_false]at hu;rcases hu with rfl|rfl|⟨-,rfl⟩|rfl|rfl<;>rfl
section
variable (d:Option Tmp) (x y s:Operand) (t:TypeId) (ps:String) (af:Array Edge) (g:Option (Nat×Bool)) (a:Act) (w:World) (K:Act->World->Prop) (Q:Exit->Act->World->Prop)
theorem xF:Oper.wp Tryz.prog {dst:=d,op:=Op.alloc 142,type:=t,pos:=ps,after:=af,guard:=g} a w K Q=K (a.put d (.pointer (some ⟨w.heap.size,0,none⟩))) (w.alloc (.cells (kS (.pointer none) (.slice none 0 0) (.slice none 0 0)).toArray 142)):=by
 have:=DM w;unfold Oper.wp execOp;simp only[Sem.run_bind,Sem.run_pure,Result.andThen_ok,this];rfl
theorem xH (h:rh w (a.eval x))(h':UQ (a.eval y)):Oper.wp Tryz.prog {dst:=d,op:=Op.store 142 x y,type:=t,pos:=ps,after:=af,guard:=g} a w K Q=K (a.put d undef) (w.setCells (JT (a.eval x)) 0 (Hi (a.eval y))):=by
 obtain⟨b,hb,hh⟩:=h;obtain⟨p,ad,l,c,ad',l',c',hy⟩:=h';have:=run_storeAt_mid (P:=Tryz.prog) w b 0 142 (kS (.pointer p) (.slice ad l c) (.slice ad' l' c')).toArray hh R7 (all_oneCell_toArray (mk_one p ad ad' l c l' c'));unfold Oper.wp execOp;simp only[hb,hy,Sem.run_bind,Sem.run_pure,Result.andThen_ok,this];rfl
end
theorem Fh:(Tryz.prog.info? 106).map (fun i=>(i.zero,i.size,i.bytes))=some (some (.slice none 0 0),1,24):=by kernel_rfl
theorem x5 (n:Nat)(hn:n<=4000)(w:World):(Instr.makeSlice 108 (.int .i64 (n:Int)) (.int .i64 (n:Int))).run Tryz.prog w=.ok (.slice (some ⟨w.heap.size,0,none⟩) n n) (w.alloc (.cells (madeCells #[.slice none 0 0] n) 106)):=by
 obtain⟨i,hi,hx⟩:=Option.map_eq_some_iff.1 Fh;simp only[Prod.mk.injEq]at hx;obtain⟨hz,hs,hb⟩:=hx;have:=run_make (P:=Tryz.prog) w 108 106 i (.slice none 0 0) Tryz.underlying108 hi hz .i64 .i64 n n (by omega) (Int.le_refl _) (by rw[hb];omega) (by omega);have hc:(Value.slice none 0 0).cells= #[.slice none 0 0]:=rfl;rw[hs,hc]at this;simpa using this
theorem My (n:Nat):(madeCells #[.slice none 0 0] n).toList.take (n*1)=List.replicate n (.slice none 0 0):=by
 rw[Nat.mul_one,List.take_of_length_le (by rw[Array.length_toList,size_madeCells];exact jC _)];apply List.ext_getElem?
 intro j;by_cases hj:j<n
 ·rw[jO,jb hj];unfold madeCells;rw[Array.getElem?_toList,Array.getElem?_map,Array.getElem?_range,jb hj,Option.map_some];have:j%(#[Value.slice none 0 0]:Array Value).size=0:=Nat.mod_one j;rw[this];rfl
 ·rw[jO,ja hj,jG (by rw[Array.length_toList,size_madeCells];omega)]
theorem PO {z x sb a nb:Nat}{w F:World}{ve:Value}(hz:z<=w.heap.size)(hB:Below w.heap.size w F)(hx:F.heap[x]?=some (.cells (kS (.pointer (some ⟨a,0,none⟩)) ve (.slice (some ⟨sb,0,none⟩) nb nb)).toArray 142 (0,0)))(hs:F.heap[sb]?=some (.cells (madeCells #[.slice none 0 0] nb) 106 (0,0)))
  (gx:w.heap.size<=x) (gs:w.heap.size<=sb) (hn:nb<=4000):cH z w x a ve F (List.replicate 24 false) ⟨List.replicate nb [],0⟩ (fun k=>k=x\/k=sb):=by
 have hu:∀j,j<nb->(List.replicate nb (Value.slice none 0 0)).getD j undef=.slice none 0 0:=fun j hj=>by simp[List.getD_eq_getElem?_getD,hj]
 refine⟨.slice (some ⟨sb,0,none⟩) nb nb,List.replicate nb (.slice none 0 0),List.replicate nb [],hz,hx,by simp,hB,?_,by simp,fun j hj=> ?_,fun i j hij hj=> ?_,.inl rfl,fun k hk=> ?_,fun j hj k hk=> ?_,fun k hk=> ?_⟩
 ·show F.ownsRow z 106 1 _ (List.replicate nb []).length _
  rw[List.length_replicate];exact⟨by simp,.inr ⟨sb,nb,_,rfl,jS hz gs,hs,jC _,by unfold maxLen;omega,by rw[size_madeCells,Nat.mul_one],My nb⟩⟩
 ·have xW:j<nb:=by simpa using hj
  rw[hu j xW];have e1:(⟨List.replicate nb [],0⟩:Mk).blocks.getD j []=[]:=by simp[List.getD_eq_getElem?_getD,xW]
  have e2:(List.replicate nb ([]:List (Value×Value))).getD j []=[]:=by simp[List.getD_eq_getElem?_getD,xW]
  rw[e1,e2];exact⟨rfl,World.ownsRow_nil _ _ _ _,fun i hi=>(by cases hi)⟩
 ·have NM:i<nb:=Nat.lt_trans hij (by simpa using hj)
  rw[hu i NM];exact .inl rfl
 ·simp only[Value.ownBlock,Option.some.injEq]at hk;exact .inr hk.symm
 ·rw[hu j (by simpa using hj)]at hk;cases hk
 ·rcases hk with rfl|rfl
  ·exact⟨gx,lt_of_heap hx⟩
  ·exact⟨gs,lt_of_heap hs⟩
structure Bv (z a:Nat)(w:World)(nb:Nat)(I:List (List Nat)->Prop)(x ap:Nat)(E:List (List Nat))(O:Nat->Prop)(wc:World):Prop where
 made:cH z w x a (.slice (some ⟨ap,0,none⟩) nb nb) wc (List.replicate 24 false) ⟨List.replicate nb [],0⟩ O
 row:dG wc ap E
 len:E.length=nb
 Kg:I E
 EA:¬O ap
 below:Below w.heap.size w wc
theorem MD {G:World}{x:Nat}{u v s u' v' s':Value}(h:G.heap[x]?=some (.cells (kS u v s).toArray 142 (0,0))):(G.setCells x 0 (kS u' v' s')).heap[x]?=some (.cells (kS u' v' s').toArray 142 (0,0)):=by
 obtain⟨cs',h1,h2,h3⟩:=fv x (kS u' v' s') 0 G _ _ _ h;have l1:(kS u v s).length=28:=by simp[kS]
 have l2:(kS u' v' s').length=28:=by simp[kS]
 generalize kS u v s=c1 at*;generalize kS u' v' s'=c2 at*;have e:cs'=c2.toArray:=by
  apply Array.ext_getElem?
  intro j;rw[h3];by_cases hj:j<28
  ·rw[jb (by simp[l1,l2,hj])];simp
  ·rw[ja (by simp[l2];omega)];simp[l1,l2,Nat.le_of_not_lt hj]
 rw[h1,e]
theorem SF {G:World}{x:Nat}{u v s:Value}(h:G.heap[x]?=some (.cells (kS u v s).toArray 142 (0,0))):rh G (.pointer (some ⟨x,0,none⟩)):=by
 refine⟨_,rfl,fun j hj=>⟨?_,frozen_of_heap h _⟩⟩;rw[Nat.zero_add,cell_of_heap h];have l1:(kS u v s).length=28:=by simp[kS]
 simp[l1,hj]
theorem Cx {z a nb x sb ap:Nat}{w G:World}{I:List (List Nat)->Prop}{E:List (List Nat)}(hz:z<=w.heap.size)(hn:nb<=4000)(hB:Below w.heap.size w G)(hx:G.heap[x]?=some (.cells (kS (.pointer none) (.slice none 0 0) (.slice none 0 0)).toArray 142 (0,0)))(hs:G.heap[sb]?=some (.cells (madeCells #[.slice none 0 0] nb) 106 (0,0)))
  (gx:w.heap.size<=x) (gs:w.heap.size<=sb) (hR:dG G ap E) (hl:E.length=nb) (hI:I E):
  rh G (.pointer (some ⟨x,0,none⟩))/\Hid (∃x' ap' E' O,x'=x/\Bv z a w nb I x' ap' E' O (G.setCells x 0 (kS (.pointer (some ⟨a,0,none⟩)) (.slice (some ⟨ap,0,none⟩) nb nb) (.slice (some ⟨sb,0,none⟩) nb nb)))):=by
 have hsx:sb≠x:=fun e=>by rw[e,hx]at hs;simp only[Option.some.injEq,Obj.cells.injEq]at hs;exact absurd hs.2.1 (by decide)
 have hax:ap≠x:=fun e=>by obtain⟨-,cs,h,-⟩:=hR;rw[e,hx]at h;simp only[Option.some.injEq,Obj.cells.injEq]at h;exact absurd h.2.1 (by decide)
 have has:ap≠sb:=fun e=>by obtain⟨-,cs,h,-⟩:=hR;rw[e,hs]at h;simp only[Option.some.injEq,Obj.cells.injEq]at h;exact absurd h.2.1 (by decide)
 have hBF:=bp hB gx 0 (kS (.pointer (some ⟨a,0,none⟩)) (.slice (some ⟨ap,0,none⟩) nb nb) (.slice (some ⟨sb,0,none⟩) nb nb));refine⟨SF hx,x,ap,E,_,rfl,PO hz hBF (MD hx) ((bE _ _ _ _ _ hsx).trans hs) gx gs hn,hR.heap (bE _ _ _ _ _ hax),hl,hI,fun e=>e.elim hax has,hBF⟩
end El
namespace El
open Go Go.RowKit Sq Aux Go.Proofs.YtmlgajhhnojdjaaGreatDoor.Own PrjF PrjG PrjJ PrjK PrjL PrjM PrjO PrjP PrjQ PrjS PrjT PrjU FlwA FlwB FlwE FlwF FlwG FlwI FlwJ FlwK FlwL FlwM FlwN FlwO FlwP FlwQ FlwR
attribute [local go_sem ↓] xF xH
theorem Mg (m:Mk)(i:Item):m.blocks.length<=(m.item i).blocks.length:=by
 cases i with
 |line l=>show _<=(m.put [l]).blocks.length;rw[fH];exact jC _
 |fork t sd=>show _<=(m.fork t sd).blocks.length;rw[pB];omega
theorem zn:∀(is:List Item) (m:Mk),m.blocks.length<=(m.items is).blocks.length
 |[],_=>jC _
 |i::is,m=>jS (Mg m i) (zn is (m.item i))
theorem rK (q:QP)(E:List (List Nat))(un:List Bool):∀b,q.blocks.length<=(cD q E un b).blocks.length
 |0=>by show _<=(List.replicate q.blocks.length ([]:List ab)).length;rw[List.length_replicate];exact jC _
 |b+1=>by
  refine jS (rK q E un b) ?_;show _<=(mG q E un b (cD q E un b)).blocks.length
  unfold mG;split
  ·rw[fH];exact jC _
  ·exact zn _ ⟨(cD q E un b).blocks,b⟩
def mR (q:QP):Nat->Nat
 |0=>0
 |b+1=>mR q b+(q.blocks.getD b []).length
theorem Qp (q:QP){b n:Nat}(h:b<=n):mR q b<=mR q n:=by
 induction h with
 |refl=>exact jC _
 |step _ ih=>exact jS ih (Nat.le_add_right _ _)
theorem sO {q:QP}(hq:AE q.blocks.length q)(bR:q.locals.length<=12)(h0:0<q.blocks.length)(hn:q.blocks.length<=4000)(E:List (List Nat))(un:List Bool):∀b,b<=q.blocks.length->(cD q E un b).Small (4000+254*mR q b+2*b)
 |0,_=>⟨by show 0<(List.replicate q.blocks.length ([]:List ab)).length;rw[List.length_replicate];exact h0,by show(List.replicate q.blocks.length ([]:List ab)).length<=_;rw[List.length_replicate];omega,fun j=>by
   show((List.replicate q.blocks.length ([]:List ab)).getD j []).length<=_
   have:(List.replicate q.blocks.length ([]:List ab)).getD j []=[]:=by
    rw[jA,jO];split<;>rfl
   rw[this];simp⟩
 |b+1,hb=>by
  have ih:=sO hq bR h0 hn E un b (by omega);have hlen:=rK q E un b;have hS:(⟨(cD q E un b).blocks,b⟩:Mk).Small (4000+254*mR q b+2*b):=⟨by show b<(cD q E un b).blocks.length;omega,ih.many,ih.lines⟩;show(mG q E un b (cD q E un b)).Small _
  unfold mG;split
  ·exact(hS.line _).mono (by show _<=4000+254*(mR q b+_)+_;omega)
  ·have qU:∀l∈q.blocks.getD b [],fY q.locals.length q.blocks.length l:=hq.lines _ (by simp[show b<q.blocks.length by omega]);have lH:=oj bR un (q.blocks.getD b []) (E.getD b []) qU;exact(hS.items _ lH.1).mono (by have:=lH.2;show _<=4000+254*(mR q b+(q.blocks.getD b []).length)+_;omega)
section
variable {z a ap:Nat} {w w2:World} {q:QP} {I:List (List Nat)->Prop} {E:List (List Nat)}
theorem U0 (hz:z<=w.heap.size)(hn:q.blocks.length<=4000)(hB:Below w.heap.size w w2)(hR:dG w2 ap E)(hl:E.length=q.blocks.length)(hI:I E):
  (rh ((w2.alloc (.cells (madeCells #[.slice none 0 0] q.blocks.length) 106)).alloc (.cells (kS (.pointer none) (.slice none 0 0) (.slice none 0 0)).toArray 142)) (.pointer (some ⟨w2.heap.size+1,0,none⟩))/\Hid (∃x' ap' E' O,x'=w2.heap.size+1/\Bv z a w q.blocks.length I x' ap' E' O (((w2.alloc (.cells (madeCells #[.slice none 0 0] q.blocks.length) 106)).alloc (.cells (kS (.pointer none) (.slice none 0 0) (.slice none 0 0)).toArray 142)).setCells (w2.heap.size+1) 0 (kS (.pointer (some ⟨a,0,none⟩)) (.slice (some ⟨ap,0,none⟩) q.blocks.length q.blocks.length) (.slice (some ⟨w2.heap.size,0,none⟩) q.blocks.length q.blocks.length)))))/\
  (rh ((w2.alloc (.cells (kS (.pointer none) (.slice none 0 0) (.slice none 0 0)).toArray 142)).alloc (.cells (madeCells #[.slice none 0 0] q.blocks.length) 106)) (.pointer (some ⟨w2.heap.size,0,none⟩))/\Hid (∃x' ap' E' O,x'=w2.heap.size/\Bv z a w q.blocks.length I x' ap' E' O (((w2.alloc (.cells (kS (.pointer none) (.slice none 0 0) (.slice none 0 0)).toArray 142)).alloc (.cells (madeCells #[.slice none 0 0] q.blocks.length) 106)).setCells w2.heap.size 0 (kS (.pointer (some ⟨a,0,none⟩)) (.slice (some ⟨ap,0,none⟩) q.blocks.length q.blocks.length) (.slice (some ⟨w2.heap.size+1,0,none⟩) q.blocks.length q.blocks.length))))):=by
 have two:∀o1 o2:Obj,Below w2.heap.size w2 ((w2.alloc o1).alloc o2)/\((w2.alloc o1).alloc o2).heap[w2.heap.size]?=some o1/\((w2.alloc o1).alloc o2).heap[w2.heap.size+1]?=some o2:=fun o1 o2=>by
  have b1:Below w2.heap.size w2 (w2.alloc o1):=(Below.refl _ _).alloc (jC _) _;have s1:(w2.alloc o1).heap.size=w2.heap.size+1:=by simp
  have b2:Below (w2.alloc o1).heap.size (w2.alloc o1) ((w2.alloc o1).alloc o2):=(Below.refl _ _).alloc (jC _) _;refine⟨b1.trans (b2.mono (by omega)),(b2.block _ (by omega)).trans jD,?_⟩;rw[<-s1];exact jD
 have hs:=hB.size;obtain⟨p1,p2,p3⟩:=two (.cells (madeCells #[.slice none 0 0] q.blocks.length) 106) (.cells (kS (.pointer none) (.slice none 0 0) (.slice none 0 0)).toArray 142);obtain⟨r1,r2,r3⟩:=two (.cells (kS (.pointer none) (.slice none 0 0) (.slice none 0 0)).toArray 142) (.cells (madeCells #[.slice none 0 0] q.blocks.length) 106);exact⟨Cx hz hn (hB.trans (p1.mono hs)) p3 p2 (by omega) (by omega) (hR.heap (p1.block _ hR.lt)) hl hI,Cx hz hn (hB.trans (r1.mono hs)) r2 r3 (by omega) (by omega) (hR.heap (r1.block _ hR.lt)) hl hI⟩
theorem U1 (hz:z<=w.heap.size)(hn:q.blocks.length<=4000)(hB:Below w.heap.size w w2)(hR:dG w2 ap E)(hl:E.length=q.blocks.length)(hI:I E){sb:Nat}(gs:w.heap.size<=sb)(hs:w2.heap[sb]?=some (.cells (madeCells #[.slice none 0 0] q.blocks.length) 106 (0,0))):
  rh (w2.alloc (.cells (kS (.pointer none) (.slice none 0 0) (.slice none 0 0)).toArray 142)) (.pointer (some ⟨w2.heap.size,0,none⟩))/\Hid (∃x' ap' E' O,x'=w2.heap.size/\Bv z a w q.blocks.length I x' ap' E' O ((w2.alloc (.cells (kS (.pointer none) (.slice none 0 0) (.slice none 0 0)).toArray 142)).setCells w2.heap.size 0 (kS (.pointer (some ⟨a,0,none⟩)) (.slice (some ⟨ap,0,none⟩) q.blocks.length q.blocks.length) (.slice (some ⟨sb,0,none⟩) q.blocks.length q.blocks.length)))):=by
 have b1:Below w2.heap.size w2 (w2.alloc (.cells (kS (.pointer none) (.slice none 0 0) (.slice none 0 0)).toArray 142)):=(Below.refl _ _).alloc (jC _) _;exact Cx hz hn (hB.trans (b1.mono hB.size)) jD ((b1.block _ (lt_of_heap hs)).trans hs) hB.size gs (hR.heap (b1.block _ hR.lt)) hl hI
theorem U2 (hz:z<=w.heap.size)(hn:q.blocks.length<=4000)(hB:Below w.heap.size w w2)(hR:dG w2 ap E)(hl:E.length=q.blocks.length)(hI:I E){x:Nat}(gx:w.heap.size<=x)(hx:w2.heap[x]?=some (.cells (kS (.pointer none) (.slice none 0 0) (.slice none 0 0)).toArray 142 (0,0))):
  rh (w2.alloc (.cells (madeCells #[.slice none 0 0] q.blocks.length) 106)) (.pointer (some ⟨x,0,none⟩))/\Hid (∃x' ap' E' O,x'=x/\Bv z a w q.blocks.length I x' ap' E' O ((w2.alloc (.cells (madeCells #[.slice none 0 0] q.blocks.length) 106)).setCells x 0 (kS (.pointer (some ⟨a,0,none⟩)) (.slice (some ⟨ap,0,none⟩) q.blocks.length q.blocks.length) (.slice (some ⟨w2.heap.size,0,none⟩) q.blocks.length q.blocks.length)))):=by
 have b1:Below w2.heap.size w2 (w2.alloc (.cells (madeCells #[.slice none 0 0] q.blocks.length) 106)):=(Below.refl _ _).alloc (jC _) _;exact Cx hz hn (hB.trans (b1.mono hB.size)) ((b1.block _ (lt_of_heap hx)).trans hx) jD gx hB.size (hR.heap (b1.block _ hR.lt)) hl hI
end
end El
namespace El
open Go Go.RowKit Sq Aux Go.Proofs.YtmlgajhhnojdjaaGreatDoor.Own PrjF PrjG PrjJ PrjK PrjL PrjM PrjO PrjP PrjQ PrjS PrjT PrjU FlwA FlwB FlwE FlwF FlwG FlwI FlwJ FlwK FlwL FlwM FlwN FlwO FlwP FlwQ FlwR
attribute [local go_sem ↓] xF xH
@[simp] theorem Yp (p ad ad' : Option Addr) (l c l' c' : Nat) : UQ (.agg #[.pointer p, .slice ad l c, .bool false, .bool false, .bool false, .bool false, .bool false, .bool false, .bool false, .bool false, .bool false, .bool false, .bool false, .bool false, .bool false, .bool false, .bool false, .bool false, .bool false, .bool false, .bool false, .bool false, .bool false, .bool false, .bool false, .bool false, .slice ad' l' c', .int .i64 0]) = True := eq_true ⟨p, ad, l, c, ad', l', c', rfl⟩
@[simp] theorem V9 (u v s : Value) : Hi (.agg #[u, v, .bool false, .bool false, .bool false, .bool false, .bool false, .bool false, .bool false, .bool false, .bool false, .bool false, .bool false, .bool false, .bool false, .bool false, .bool false, .bool false, .bool false, .bool false, .bool false, .bool false, .bool false, .bool false, .bool false, .bool false, s, .int .i64 0]) = kS u v s := rfl
section
variable {z a:Nat} {w:World} {q:QP} {vl vb:Value} {us:List Value} {vss:List (List (Value×Value))}
set_option maxRecDepth 20000 in
set_option maxHeartbeats 4000000 in
theorem SC (h:gS z a w q vl vb us vss)(h0:0<q.blocks.length)(hn:q.blocks.length<=4000)(jy:0<q.locals.length)(bU:q.locals.length<=12)(hq:AE q.blocks.length q)(dp:∀j,(q.blocks.getD j []).length<=4000)(UK:mR q q.blocks.length<=200)
  (I:List (List Nat)->(Nat->Bool)->Prop) (C9:I (dR (List.replicate q.blocks.length au) 0 aT) (fR (List.replicate q.blocks.length au) (fun _=>false) 0 aT))
  (hI:∀E O b,AP E->E.length=q.blocks.length->b<q.blocks.length->O b=true->I E O->I (eW q E (cI O b false) b).2.1 (eW q E (cI O b false) b).2.2):
  Calls Tryz.prog 50 #[.pointer (some ⟨a,0,none⟩)] w fun e w'=>∃a' vb' us' vss' E,e=.returned (.pointer (some ⟨a',0,none⟩))/\gS z a' w' (ki q E) vl vb' us' vss'/\E.length=q.blocks.length/\AP E/\I E (fun _=>false)/\Below w.heap.size w w':=by
 have hz:z<=w.heap.size:=jS h.base (Nat.le_of_lt h.lt);obtain⟨p0,p1,-,-⟩:=gS.facts h;obtain⟨adb,cb,rfl⟩:=bG h.blocks;have halt:=h.lt;have KE:=fun(X:World) (hX:Below w.heap.size w X)=>Ez (h.below hX) h0 hn bU hq dp I C9 hI
 have SU:Hid (∀{X:World},Below w.heap.size w X->X.cell? ⟨a,1,none⟩=some (.slice adb q.blocks.length cb)/\X.cell? ⟨a,0,none⟩=some vl):=fun hX=>⟨(hX.cell (p:=⟨a,1,none⟩) halt).trans p1,(hX.cell (p:=⟨a,0,none⟩) halt).trans p0⟩
 have XN:=x5 q.blocks.length hn;obtain⟨D0,QK⟩:∃D0,w.drew=D0:=⟨_,rfl⟩;have b0:Below w.heap.size w D0:=by rw[<-QK];exact⟨rfl,rfl,rfl,jC _,fun _ _=>rfl⟩
 have s0:D0.heap.size=w.heap.size:=by rw[<-QK];rfl
 obtain⟨S1,ju⟩:∃S1,D0.alloc (.cells (madeCells #[.slice none 0 0] q.blocks.length) 106)=S1:=⟨_,rfl⟩;obtain⟨M1,J6⟩:∃M1,D0.alloc (.cells (kS (.pointer none) (.slice none 0 0) (.slice none 0 0)).toArray 142)=M1:=⟨_,rfl⟩;obtain⟨SM,Wu⟩:∃SM,S1.alloc (.cells (kS (.pointer none) (.slice none 0 0) (.slice none 0 0)).toArray 142)=SM:=⟨_,rfl⟩;obtain⟨MS,Wk⟩:∃MS,M1.alloc (.cells (madeCells #[.slice none 0 0] q.blocks.length) 106)=MS:=⟨_,rfl⟩;have bS:Below w.heap.size w S1:=by rw[<-ju];exact b0.alloc (by omega) _
 have bM:Below w.heap.size w M1:=by rw[<-J6];exact b0.alloc (by omega) _
 have sS:S1.heap.size=w.heap.size+1:=by rw[<-ju];simp[s0]
 have sM:M1.heap.size=w.heap.size+1:=by rw[<-J6];simp[s0]
 have bSM:Below w.heap.size w SM:=by rw[<-Wu];exact bS.alloc (by omega) _
 have bMS:Below w.heap.size w MS:=by rw[<-Wk];exact bM.alloc (by omega) _
 have rS:S1.heap[w.heap.size]?=some (.cells (madeCells #[.slice none 0 0] q.blocks.length) 106 (0,0)):=by rw[<-ju,<-s0];exact jD
 have rM:M1.heap[w.heap.size]?=some (.cells (kS (.pointer none) (.slice none 0 0) (.slice none 0 0)).toArray 142 (0,0)):=by rw[<-J6,<-s0];exact jD
 have rSM:SM.heap[w.heap.size+1]?=some (.cells (kS (.pointer none) (.slice none 0 0) (.slice none 0 0)).toArray 142 (0,0)):=by rw[<-Wu,<-sS];exact jD
 have rMS:MS.heap[w.heap.size+1]?=some (.cells (madeCells #[.slice none 0 0] q.blocks.length) 106 (0,0)):=by rw[<-Wk,<-sM];exact jD
 have rSM0:SM.heap[w.heap.size]?=some (.cells (madeCells #[.slice none 0 0] q.blocks.length) 106 (0,0)):=by rw[<-Wu];exact(((Below.refl S1.heap.size S1).alloc (jC _) _).block _ (by omega)).trans rS
 have rMS0:MS.heap[w.heap.size]?=some (.cells (kS (.pointer none) (.slice none 0 0) (.slice none 0 0)).toArray 142 (0,0)):=by rw[<-Wk];exact(((Below.refl M1.heap.size M1).alloc (jC _) _).block _ (by omega)).trans rM
 have sSM:SM.heap.size=w.heap.size+2:=by rw[<-Wu];simp[sS]
 have sMS:MS.heap.size=w.heap.size+2:=by rw[<-Wk];simp[sM]
 obtain⟨d0,-⟩:=SU.out b0;obtain⟨d1,-⟩:=SU.out bM;have K0:=KE D0 b0;have K1:=KE S1 bS;have K2:=KE M1 bM;have K3:=KE SM bSM;have K4:=KE MS bMS;clear KE p0 p1;go_enter Tryz.func50,Tryz.ntmps50
 go_upto_region 1 with fail
 go_cut [3] (fun v3 wc=>∃x ap E O,v3=.pointer (some ⟨x,0,none⟩)/\Bv z a w q.blocks.length (fun E=>I E (fun _=>false)) x ap E O wc)
 case first=>
  go_region_law (first
   |(go_simp;go_at_call 79;go_fit K0;rintro e w2 ⟨ap,E',rfl,hR,hl,NG,NI,bH⟩;have dT:=b0.trans (bH.mono (by omega));obtain⟨⟨rm1,QY⟩,rm2,V3⟩:=U0 (a:=a) (I:=fun E=>I E (fun _=>false)) hz hn dT hR hl NG;obtain⟨d2,-⟩:=SU.out dT;obtain⟨d3,-⟩:=SU.out (dT.alloc dT.size (.cells (kS (.pointer none) (.slice none 0 0) (.slice none 0 0)).toArray 142)))
   |(go_simp;go_at_call 79;go_fit K1;rintro e w2 ⟨ap,E',rfl,hR,hl,NG,NI,bH⟩;have dT:=bS.trans (bH.mono (by omega));obtain⟨rm1,QY⟩:=U1 (a:=a) (I:=fun E=>I E (fun _=>false)) hz hn dT hR hl NG (jC _) ((bH.block _ (by omega)).trans rS);have V3:=QY)
   |(go_simp;go_at_call 79;go_fit K2;rintro e w2 ⟨ap,E',rfl,hR,hl,NG,NI,bH⟩;have dT:=bM.trans (bH.mono (by omega));obtain⟨rm1,QY⟩:=U2 (a:=a) (I:=fun E=>I E (fun _=>false)) hz hn dT hR hl NG (jC _) ((bH.block _ (by omega)).trans rM);obtain⟨d2,-⟩:=SU.out dT;have V3:=QY)
   |(go_simp;go_at_call 79;go_fit K3;rintro e w2 ⟨ap,E',rfl,hR,hl,NG,NI,bH⟩;have dT:=bSM.trans (bH.mono (by omega));obtain⟨rm1,QY⟩:=Cx (a:=a) (I:=fun E=>I E (fun _=>false)) hz hn dT ((bH.block _ (by omega)).trans rSM) ((bH.block _ (by omega)).trans rSM0) (by omega) (jC _) hR hl NG;have V3:=QY)
   |(go_simp;go_at_call 79;go_fit K4;rintro e w2 ⟨ap,E',rfl,hR,hl,NG,NI,bH⟩;have dT:=bMS.trans (bH.mono (by omega));obtain⟨rm1,QY⟩:=Cx (a:=a) (I:=fun E=>I E (fun _=>false)) hz hn dT ((bH.block _ (by omega)).trans rMS0) ((bH.block _ (by omega)).trans rMS) (jC _) (by omega) hR hl NG;have V3:=QY))
  all_goals go_wp2_with fail
  all_goals
   go_meet
   case rel=>
    first
     |(obtain⟨x',ap',E',O',rfl,hf⟩:=QY.out;exact⟨_,ap',E',O',rfl,hf⟩)
     |(obtain⟨x',ap',E',O',rfl,hf⟩:=V3.out;exact⟨_,ap',E',O',rfl,hf⟩)
 case rest=>
  obtain⟨x,ap,E,O,rfl,hA⟩:=hcut;clear XN QK b0 s0 ju J6 Wu Wk bS bM sS sM bSM bMS rS rM rSM rMS rSM0 rMS0 sSM sMS d0 d1 K0 K1 K2 K3 K4 C9 hI;obtain⟨adl,cl,rfl⟩:=bG h.locals;have hS:Src z a w q (.slice adl q.locals.length cl) (.slice adb q.blocks.length cb) us vss E:=⟨h,hA.len,hq,jy,bU,hn,dp⟩;obtain⟨p1,-⟩:=SU.out hA.below;go_wp2
  go_loopg [21] (q.blocks.length) (fun g v21 wr=>∃(k:Nat),k<=q.blocks.length/\g+k=q.blocks.length/\v21=.int .i64 k/\cH z w x a (.slice (some ⟨ap,0,none⟩) q.blocks.length q.blocks.length) wr (j5 q E k) ⟨List.replicate q.blocks.length [],0⟩ O/\Fr O wc O wr)
  case atStart=>exact⟨0,jQ _,rfl,rfl,hA.made,Fr.refl _ _⟩
  case round=>
   obtain⟨k,hk,Ca,rfl,ll,J4⟩:=hrel;have GY:=hA.row.heap (J4.block ap hA.row.lt hA.EA);by_cases bg:k<q.blocks.length
   ·have NO:(k:Int)<q.blocks.length:=by omega
    have KA:=CM hS ll GY k bg;go_wp2_with (go_at_call 80;refine KA.mono ?_;rintro e w2 ⟨rfl,h2,F2⟩)
    go_roundg (q.blocks.length-(k+1))
    case measure=>omega
    case rel=>exact⟨k+1,by omega,by omega,by go_num,h2,J4.trans F2⟩
   ·have mY:k=q.blocks.length:=by omega
    subst mY;have hOr:=hA.EA;obtain⟨un,HU⟩:∃un,Hid (j5 q E q.blocks.length=un):=⟨_,rfl⟩;rw[HU.out]at ll;clear p1;obtain⟨p1,-⟩:=SU.out ll.from;obtain⟨wo,hwo⟩:∃wo:World,wo=wr:=⟨_,rfl⟩;subst hwo;go_wp2
    go_loopg [32] (q.blocks.length) (fun g v32 wr=>∃(k:Nat) (O':Nat->Prop),k<=q.blocks.length/\g+k=q.blocks.length/\v32=.int .i64 k/\cH z w x a (.slice (some ⟨ap,0,none⟩) q.blocks.length q.blocks.length) wr un (cD q E un k) O'/\dG wr ap E/\¬O' ap)
    case atStart=>exact⟨0,O,jQ _,rfl,rfl,ll,GY,hOr⟩
    case round=>
     clear ll GY hOr J4 p1;obtain⟨k,O',hk,Ca,rfl,ll,GY,hOr⟩:=hrel;by_cases bg:k<q.blocks.length
     ·have NO:(k:Int)<q.blocks.length:=by omega
      have lH:=Qp q (show k+1<=q.blocks.length by omega);have e1:mR q (k+1)=mR q k+(q.blocks.getD k []).length:=rfl;have KM:=Bg hS ll GY hOr (sO hq bU h0 hn E un k (by omega)) k bg (jK bg (rK q E un k)) (by omega);go_wp2_with (go_at_call 81;refine KM.mono ?_;rintro e w2 ⟨rfl,O2,h2,F2⟩)
      go_roundg (q.blocks.length-(k+1))
      case measure=>omega
      case rel=>exact⟨k+1,O2,by omega,by omega,by go_num,h2,GY.heap (F2.block ap GY.lt hOr),fun e=>(F2.new _ e).elim hOr (fun e=>by have:=GY.lt;omega)⟩
     ·have mY:k=q.blocks.length:=by omega
      subst mY;obtain⟨vb',us',vss',hm⟩:=ll;obtain⟨adm,cm,rfl⟩:=bG hm.blocks;obtain⟨-,p2⟩:=SU.out hm.aZ;obtain⟨-,-,c26,-⟩:=hm.facts;have lq:∀W:World,Below wr.heap.size wr W->∀a',z<=a'->W.heap[a']?=some (.cells #[.slice adl q.locals.length cl,.slice adm (cD q E un q.blocks.length).blocks.length cm] 110 (0,0))->gS z a' W (ki q E) (.slice adl q.locals.length cl) (.slice adm (cD q E un q.blocks.length).blocks.length cm) us' vss'/\Below w.heap.size w W:=fun W hW a' ha hb=>by
       have er:ki q E=⟨q.locals,(cD q E un q.blocks.length).blocks⟩:=by unfold ki;rw[HU.out]
       rw[er];exact⟨⟨ha,hb,aw (h.below hm.aZ).locals hW,aw hm.blocks hW,fun j hj=>(hm.each j hj).below hW,hm.apart⟩,hm.aZ.trans (hW.mono hm.aZ.size)⟩
      have QZ:Hid _:=lq;have hzr:z<=wr.heap.size:=jS hz hm.aZ.size;clear lq hm;generalize (cD q E un q.blocks.length).blocks.length=nm at*;go_upto_region 12 with fail
      go_region
      all_goals go_wp2_with fail
      all_goals
       go_ret
       obtain⟨f1,f2⟩:=QZ.out (wr.drew.alloc (.cells #[.slice adl q.locals.length cl,.slice adm nm cm] 110)) ⟨rfl,rfl,rfl,by simp,fun k hk=>by show(wr.heap.push _)[k]?=_;rw[Array.getElem?_push_lt hk];simp[hk]⟩ wr.heap.size hzr jD;exact⟨_,_,us',vss',E,rfl,f1,hA.len,hA.row.1,hA.Kg,f2⟩
end
end El
namespace Aux
theorem WX:True:=trivial
end Aux
namespace RefZc
theorem VB:True:=trivial
end RefZc
namespace RefRa
open Go.RowKit Sq RefA RefO Aux
def Rf (k:Nat):UInt8:=UInt8.ofNat (48+k)
theorem ss {k:Nat}(h:k<=9):(Rf k).toNat=48+k:=by
 unfold Rf;rw[UInt8.toNat_ofNat_of_lt' (by show _<256;omega)]
def mm (n:Nat):B:=if _h:n<=9 then [Rf n]else mm (n/10)++[Rf (n%10)]
termination_by n
decreasing_by omega
theorem tL (n:Nat)(h:9<n):mm n=mm (n/10)++[Rf (n%10)]:=by
 rw[mm,dif_neg (by omega)]
theorem po (n:Nat)(h:n<=9):mm n=[Rf n]:=by
 rw[mm,dif_pos h]
def j9 (z:Int):B:=if z<0 then 45::mm z.natAbs else mm z.natAbs
end RefRa
end Go.Proofs.YtmlgajhhnojdjaaGreatDoor

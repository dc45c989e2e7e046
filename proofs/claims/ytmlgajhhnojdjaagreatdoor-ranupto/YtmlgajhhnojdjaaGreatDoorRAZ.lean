import Derived.Test.YtmlgajhhnojdjaaGreatDoorRAY
import Derived.Maps.RangeWalk
namespace Go.Proofs.YtmlgajhhnojdjaaGreatDoor
namespace FlwJ
open Go Go.RowKit Sq Aux PrjF PrjG PrjJ PrjK PrjL PrjM PrjO FlwB FlwE FlwF
structure cm (x y:Nat)(w w':World):Prop where
 os:w'.os=w.os
 tape:w'.tape=w.tape
 output:w'.output=w.output
 size:w.heap.size<=w'.heap.size
 block:∀k,k<w.heap.size->k≠x->k≠y->w'.heap[k]?=w.heap[k]?
section
variable {x y b B:Nat} {w w1 w2:World}
theorem cm.refl (x y:Nat)(w:World):cm x y w w:=⟨rfl,rfl,rfl,jC _,fun _ _ _ _=>rfl⟩
theorem cm.trans (h:cm x y w w1)(h':cm x y w1 w2):cm x y w w2:=
 ⟨h'.os.trans h.os,h'.tape.trans h.tape,h'.output.trans h.output,jS h.size h'.size,fun k hk h1 h2=>(h'.block k (jK hk h.size) h1 h2).trans (h.block k hk h1 h2)⟩
theorem cm.sf (h:Below w.heap.size w w1):cm x y w w1:=⟨h.os,h.tape,h.output,h.size,fun k hk _ _=>h.block k hk⟩
theorem cm.on (h:cm x y w w1)(h':Below w1.heap.size w1 w2):cm x y w w2:=h.trans (.sf h')
theorem cm.left (h:bu x w w1):cm x y w w1:=⟨h.os,h.tape,h.output,h.size,fun k hk h1 _=>h.block k hk h1⟩
theorem cm.right (h:w.grownBy w1 (some y)):cm x y w w1:=⟨h.os,h.tape,h.output,h.size,fun k hk _ h2=>h.block k hk (by simpa using h2)⟩
theorem cm.since (h:cm x y w w1)(h':bu b w1 w2)(hb:w.heap.size<=b):cm x y w w2:=
 ⟨h'.os.trans h.os,h'.tape.trans h.tape,h'.output.trans h.output,jS h.size h'.size,fun k hk h1 h2=>(h'.block k (jK hk h.size) (by omega)).trans (h.block k hk h1 h2)⟩
theorem cm.below (h:cm x y w w1)(hx:B<=x)(hy:B<=y)(hB:B<=w.heap.size):Below B w w1:=⟨h.os,h.tape,h.output,h.size,fun k hk=>h.block k (by omega) (by omega) (by omega)⟩
end
def cz (O:Nat->Bool)(b:Nat)(v:Bool):Nat->Bool:=fun c=>if c=b then v else O c
def gU (O:Nat->Bool):Nat->Nat
 |0=>0
 |n+1=>gU O n+(if O n=true then 1 else 0)
theorem MF (O:Nat->Bool):∀n,gU O n<=n
 |0=>jC _
 |n+1=>by have:=MF O n;unfold gU;split<;>omega
theorem As {O O':Nat->Bool}:∀n,(∀b,b<n->O b=O' b)->gU O n=gU O' n
 |0,_=>rfl
 |n+1,h=>by unfold gU;rw[As n (fun b hb=>h b (by omega)),h n (by omega)]
theorem xE {O:Nat->Bool}:∀n,gU O n=0->∀b,b<n->O b=false
 |0,_,b,hb=>by omega
 |n+1,h,b,hb=>by
  unfold gU at h;by_cases hn:O n=true
  ·rw[jb hn]at h;omega
  ·rw[ja hn]at h;by_cases e:b=n
   ·subst e;simpa using hn
   ·exact xE n (by omega) b (by omega)
theorem kj {O:Nat->Bool}:∀n,(∀b,b<n->O b=false)->gU O n=0
 |0,_=>rfl
 |n+1,h=>by unfold gU;rw[kj n (fun b hb=>h b (by omega)),h n (by omega)];rfl
theorem vg {O:Nat->Bool}{b:Nat}(h0:O b=false):∀n,b<n->gU (cz O b true) n=gU O n+1
 |0,h=>by omega
 |n+1,h=>by
  unfold gU;by_cases e:b=n
  ·subst e;rw[As b (O':=O) (fun c hc=>by unfold cz;rw[ja (by omega)]),h0];simp[cz]
  ·rw[vg h0 n (by omega)];have:cz O b true n=O n:=by unfold cz;rw[ja (by omega)]
   rw[this];omega
theorem yf {O:Nat->Bool}{b:Nat}{v:Bool}(h:O b=v):cz O b v=O:=by
 funext c;unfold cz;split
 ·rename_i e;rw[e,h]
 ·rfl
theorem Au {O:Nat->Bool}{b:Nat}(h1:O b=true)(n:Nat)(hb:b<n):gU (cz O b false) n+1=gU O n:=by
 have e:cz (cz O b false) b true=O:=by
  funext c;unfold cz;split
  ·rename_i e;rw[e,h1]
  ·rfl
 rw[<-vg (O:=cz O b false) (by simp[cz]) n hb,e]
def iL (b:Nat):Lit:=.int .i64 (b:Nat)
theorem vI {a b:Nat}(h:iL a=iL b):a=b:=by simp only[iL,Lit.int.injEq,true_and]at h;omega
theorem Ve {b:Nat}(h:b<=100000):(iL b).wf=true:=WalkArith.wf_i64 (by omega)
theorem OC:Maps.Keyed Tryz.prog 3:=Maps.int_keyed Tryz.underlying3
theorem MX {b:Nat}(h:b<=100000):keyOf Tryz.prog 3 (.int .i64 (b:Nat))=some (iL b):=Maps.keyOf_int_mk Tryz.underlying3 (Ve h)
def cN (w:World)(mb N:Nat)(O:Nat->Bool):Prop:=
 ∃D:DataW Unit,w.ownsMap Tryz.prog 3 unitElem mb N D/\(∀b,O b=true->b<N)/\(∀kl,Maps.has D kl=true↔∃b,kl=iL b/\O b=true)/\Maps.size D=gU O N
section
variable {w w':World} {mb N:Nat} {O:Nat->Bool}
theorem Pf {P:Program}{k:TypeId}{R:Value->Option (DataW Unit×List MemPlace)}{n m:Nat}{D:DataW Unit}(h:w.ownsMap P k R mb n D)(hm:Maps.size D<=m):w.ownsMap P k R mb m D:=by
 obtain⟨es,clock,h1,h2,h3,rfl⟩:=h;refine⟨es,clock,h1,h2,?_,rfl⟩;rw[Maps.size_eq,length_read]at hm;exact hm
theorem cN.lt (h:cN w mb N O):mb<w.heap.size:=by obtain⟨D,h,-⟩:=h;exact h.lt
theorem cN.isMap (h:cN w mb N O):∃es clock,w.heap[mb]?=some (.map es clock):=by obtain⟨D,⟨es,clock,h,-⟩,-⟩:=h;exact⟨es,clock,h⟩
theorem cN.heap (h:cN w mb N O)(he:w'.heap[mb]?=w.heap[mb]?):cN w' mb N O:=by
 obtain⟨D,⟨es,clock,hb,r⟩,h'⟩:=h;exact⟨D,⟨es,clock,he.trans hb,r⟩,h'⟩
theorem cN.below (h:cN w mb N O)(hb:Below w.heap.size w w'):cN w' mb N O:=h.heap (hb.block mb h.lt)
theorem cN.bound (h:cN w mb N O){b:Nat}(hb:O b=true):b<N:=by obtain⟨D,-,h,-⟩:=h;exact h b hb
theorem cN.made (w:World)(N:Nat):cN (w.alloc (.map #[] 0)) w.heap.size N (fun _=>false):=
 ⟨.map [],(World.ownsMap_made w _ _ _).mono (jQ _),fun _ h=>(by cases h),fun kl=>⟨fun h=>(by cases h),fun⟨_,_,h⟩=>(by cases h)⟩,(kj N fun _ _=>rfl).symm⟩
theorem SM {D:DataW Unit}{b:Nat}(hO:∀b,O b=true->b<N)(hD:w.ownsMap Tryz.prog 3 unitElem mb N D)(hh:∀kl,Maps.has D kl=true↔∃b,kl=iL b/\O b=true)(hs:Maps.size D=gU O N)
  (hb:b<N) (h:w'.ownsMap Tryz.prog 3 unitElem mb (N+1) (D.put (iL b) (.agg []))):cN w' mb N (cz O b true):=by
 have Of:WideAt.IsKeyLit (iL b):=trivial;have hh':∀kl,Maps.has (D.put (iL b) (.agg [])) kl=true↔∃c,kl=iL c/\cz O b true c=true:=by
  intro kl;by_cases e:kl=iL b
  ·subst e;rw[Maps.has_put_same hD.isMap Of];exact⟨fun _=>⟨b,rfl,by simp[cz]⟩,fun _=>rfl⟩
  ·rw[Maps.has_put_other e,hh];constructor
   ·rintro⟨c,rfl,hc⟩;exact⟨c,rfl,by unfold cz;split<;>simp[hc]⟩
   ·rintro⟨c,rfl,hc⟩;refine⟨c,rfl,?_⟩;unfold cz at hc;rw[ja (fun x=>e (by rw[x]))]at hc;exact hc
 have lx:Maps.size (D.put (iL b) (.agg []))=gU (cz O b true) N:=by
  rw[Maps.size_put (hD.tidy OC)];cases fB:O b with
  |true=>
   rw[jb ((hh _).2 ⟨b,rfl,fB⟩),yf fB,hs]
  |false=>
   rw[ja (fun x=>by obtain⟨c,hc,tj⟩:=(hh _).1 x;rw[<-vI hc,fB]at tj;cases tj),vg fB N hb,hs]
 refine⟨_,Pf h (by rw[lx];exact MF _ _),fun c hc=> ?_,hh',lx⟩;unfold cz at hc;split at hc
 ·omega
 ·exact hO c hc
theorem SL {D:DataW Unit}{b:Nat}(hO:∀b,O b=true->b<N)(hD:w.ownsMap Tryz.prog 3 unitElem mb N D)(hh:∀kl,Maps.has D kl=true↔∃b,kl=iL b/\O b=true)(hs:Maps.size D=gU O N)
  (h:w'.ownsMap Tryz.prog 3 unitElem mb N (D.del (iL b))):cN w' mb N (cz O b false):=by
 have hh':∀kl,Maps.has (D.del (iL b)) kl=true↔∃c,kl=iL c/\cz O b false c=true:=by
  intro kl;by_cases e:kl=iL b
  ·subst e;rw[Maps.has_del_same];refine⟨fun h=>(by cases h),fun⟨c,hc,tj⟩=> ?_⟩;rw[<-vI hc]at tj;simp[cz]at tj
  ·rw[Maps.has_del_other e,hh];constructor
   ·rintro⟨c,rfl,hc⟩;exact⟨c,rfl,by unfold cz;rw[ja (fun x=>e (by rw[x]))];exact hc⟩
   ·rintro⟨c,rfl,hc⟩;refine⟨c,rfl,?_⟩;unfold cz at hc;rw[ja (fun x=>e (by rw[x]))]at hc;exact hc
 refine⟨_,h,fun c hc=> ?_,hh',?_⟩
 ·unfold cz at hc;split at hc
  ·cases hc
  ·exact hO c hc
 ·have:=Maps.size_del (k:=iL b) (hD.tidy OC);cases fB:O b with
  |true=>
   rw[jb ((hh _).2 ⟨b,rfl,fB⟩),hs]at this;have:=Au fB N (hO b fB);omega
  |false=>
   rw[ja (fun x=>by obtain⟨c,hc,tj⟩:=(hh _).1 x;rw[<-vI hc,fB]at tj;cases tj),hs]at this;rw[yf fB];exact this
end
section
variable (w:World) {ops:Array Oper} {rest:List Oper} {o:Oper} {a:Act} {Q:Exit->Act->World->Prop} {mb N:Nat} {O:Nat->Bool}
theorem qo (hg:o.guard=none)(m x v:Operand)(aw:o.op=Op.mapUpdate 163 m x v)(b:Nat)(hm:a.eval m=.map (some mb))(hx:a.eval x=.int .i64 (b:Nat))(hv:a.eval v=.agg #[])
  (h:cN w mb N O) (hb:b<N) (hN:N<=4000) (hK:∀w',cN w' mb N (cz O b true)->w.grownBy w' (some mb)->wpList Tryz.prog ops Q rest (a.put o.dst undef) w'):wpList Tryz.prog ops Q (o::rest) a w:=by
 obtain⟨D,hD,hO,hh,hs⟩:=h;exact wpList_mapUpdate_own w hg m x v _ aw _ _ OC Tryz.underlying163 unitElem mb N D hm hD (by unfold maxLen;omega) _ _ (iL b) hx hv (MX (by omega)) (.agg []) [] unitElem_mk
  fun w' h1 h2=>hK w' (SM hO hD hh hs hb h1) h2
theorem zr (hg:o.guard=none)(m x:Operand)(aw:o.op=Op.call {callee:=Callee.builtin Builtin.delete,args:= #[m,x],argTypes:= #[163,3]})(b:Nat)(hm:a.eval m=.map (some mb))(hx:a.eval x=.int .i64 (b:Nat))
  (h:cN w mb N O) (hb:b<=100000) (hK:∀w',cN w' mb N (cz O b false)->w.grownBy w' (some mb)->wpList Tryz.prog ops Q rest (a.put o.dst (.tuple #[])) w'):wpList Tryz.prog ops Q (o::rest) a w:=by
 obtain⟨D,hD,hO,hh,hs⟩:=h;exact wpList_delete_own w hg m x _ _ aw _ OC Tryz.underlying163 unitElem mb N D hm hD _ (iL b) hx (MX hb) fun w' h1 h2=>hK w' (SL hO hD hh hs h1) h2.grown
theorem ig (hg:o.guard=none)(m:Operand)(aw:o.op=Op.call {callee:=Callee.builtin Builtin.len,args:= #[m],argTypes:= #[163]})(hm:a.eval m=.map (some mb))(h:cN w mb N O)
  (hK:wpList Tryz.prog ops Q rest (a.put o.dst (.int .i64 (gU O N:Nat))) w):wpList Tryz.prog ops Q (o::rest) a w:=by
 obtain⟨D,hD,hO,hh,hs⟩:=h;refine wpList_len_own w hg m _ aw _ _ Tryz.underlying163 unitElem mb N D hm hD ?_;rw[hs];exact hK
end
theorem PG {w:World}{mb N:Nat}{O:Nat->Bool}(h:cN w mb N O):∃w',(∀ty,(Builtin.clear_ #[163] ty #[.map (some mb)]).run Tryz.prog w=.ok (.tuple #[]) w')/\cN w' mb N (fun _=>false)/\w.grownBy w' (some mb):=by
 obtain⟨es,clock,hb⟩:=h.isMap;have U6:∀ty,(Builtin.clear_ #[163] ty #[.map (some mb)]).run Tryz.prog w=.ok (.tuple #[]) (ChangeMaps.setBlock w mb (.map #[] clock)):=fun ty=>by
  simp[Builtin.clear_,run_underlying Tryz.underlying163,MapKept.run_getObj_map hb,MapKept.run_setObj_map _ hb,Result.andThen,ChangeMaps.setBlock]
 refine⟨_,U6,⟨.map [],⟨#[],clock,ChangeMaps.heap_setBlock_same hb _,⟨by simp,MapKept.stamped_empty clock,by simp⟩,jQ _,rfl⟩,fun _ h=>(by cases h),fun kl=>⟨fun h=>(by cases h),fun⟨_,_,h⟩=>(by cases h)⟩,(kj N fun _ _=>rfl).symm⟩,⟨rfl,rfl,rfl,by simp[ChangeMaps.setBlock],fun i _ hi=>ChangeMaps.heap_setBlock_other hb _ (fun e=>hi (by rw[e]))⟩⟩
structure eH (s:List Nat):Prop where
 len:s.length=24
 lt:∀k,s.getD k 0<16
def aS (w:World)(g:Nat)(E:List (List Nat)):Prop:=
 (∀s∈E,eH s)/\∃cs,w.heap[g]?=some (.cells cs 209 (0,0))/\cs.size=24*E.length/\∀i j,i<E.length->j<24->cs[i*24+j]?=some (.int .u8 ((E.getD i []).getD j 0:Nat))
theorem MQ {E:List (List Nat)}{i:Nat}(h:i<E.length):E.getD i []∈E:=by
 rw[jA,jB h];exact jL h
theorem Gv (E:List (List Nat))(i:Nat)(t:List Nat)(hi:i<E.length)(a:Nat):(E.set i t).getD a []=if a=i then t else E.getD a []:=by
 simp only[List.getD_eq_getElem?_getD,List.getElem?_set];by_cases h:a=i
 ·subst h;simp[hi]
 ·rw[ja (fun e=>h e.symm),ja h]
section
variable {w w':World} {g:Nat} {E:List (List Nat)}
theorem aS.lt (h:aS w g E):g<w.heap.size:=by obtain⟨-,cs,h,-⟩:=h;exact lt_of_heap h
theorem aS.ok (h:aS w g E){i:Nat}(hi:i<E.length):eH (E.getD i []):=h.1 _ (MQ hi)
theorem aS.heap (h:aS w g E)(he:w'.heap[g]?=w.heap[g]?):aS w' g E:=by
 obtain⟨h0,cs,h,r⟩:=h;exact⟨h0,cs,he.trans h,r⟩
theorem aS.range (h:aS w g E)(i:Nat)(hi:i<E.length):w.rangeAt g (i*24) (ao (E.getD i [])):=fun j v hv=>by
 have hl:=(h.ok hi).len;obtain⟨-,cs,h,-,h'⟩:=h;have hj:j<24:=by have:=(List.getElem?_eq_some_iff.mp hv).1;rw[dx,hl]at this;exact this
 rw[cell_of_heap h,h' i j hi hj,<-hv];have:j<(E.getD i []).length:=by rw[hl];exact hj
 generalize E.getD i []=s at*;simp[ao,this]
theorem aS.has (h:aS w g E)(i:Nat)(hi:i<E.length):yy w g (i*24):=⟨_,(h.ok hi).len,h.range i hi⟩
theorem aS.of (h:aS w g E)(i:Nat)(hi:i<E.length):Fc w g (i*24)=(ao (E.getD i [])).toArray:=Fe (h.ok hi).len (h.range i hi)
theorem aS.room (h:aS w g E)(i:Nat)(hi:i<E.length):s6 w g (i*24):=fun j hj=>by
 obtain⟨-,cs,h,hs,h'⟩:=h;rw[cell_of_heap h,frozen_of_heap h,h' i j hi hj];exact⟨rfl,rfl⟩
theorem aS.store (h:aS w g E)(i:Nat)(hi:i<E.length){t:List Nat}(ht:eH t):aS (w.setCells g (i*24) (ao t)) g (E.set i t):=by
 obtain⟨h0,cs,h,hs,h'⟩:=h;obtain⟨cs',h1,h2,h3⟩:=eK g (ao t) (i*24) w _ _ _ h;have hl:(ao t).length=24:=by rw[dx];exact ht.len
 refine⟨fun s hs=> ?_,cs',h1,by rw[h2,hs];simp,fun a j ha hj=> ?_⟩
 ·rcases List.mem_or_eq_of_mem_set hs with h|h
  ·exact h0 s h
  ·rw[h];exact ht
 rw[List.length_set]at ha;rw[h3,Gv E i t hi,hl];by_cases hai:a=i
 ·subst hai;have:j<t.length:=by rw[ht.len];exact hj
  rw[jb (by omega),jb rfl,show a*24+j-a*24=j by omega];simp[ao,this]
 ·rw[ja (by omega),ja hai];exact h' a j ha hj
end
theorem Hd {z a:Nat}{w w':World}{q:QP}{vl vb:Value}{us:List Value}{vss:List (List (Value×Value))}(h:lD z a w q vl vb us vss)
  (key:∀(g:Nat) (cs:Array Value) (e:TypeId) (f:Nat×Nat),w.heap[g]?=some (.cells cs e f)->e≠209->w'.heap[g]?=w.heap[g]?):lD z a w' q vl vb us vss:=by
 have kr:∀{e:TypeId} {s:Nat} {v:Value} {n:Nat} {xs:List Value},e≠209->w.ownsRow z e s v n xs->w'.ownsRow z e s v n xs:=fun{e s v n xs} he hv=>
  gh hv fun g hg=>by
   rcases hv.2 with⟨e',-⟩|⟨g',cap,cur,e',-,Rv,-⟩
   ·rw[e']at hg;cases hg
   ·rw[e']at hg;simp only[Value.ownBlock,Option.some.injEq]at hg;subst hg;exact key _ _ _ _ Rv he
 exact⟨h.base,(key _ _ _ _ h.aI (by decide)).trans h.aI,kr (by decide) h.locals,kr (by decide) h.blocks,
  fun j hj=>(h.each j hj).de (kr (by decide) (h.each j hj).row) (fun he hv=>kr (by rcases he with rfl|rfl<;>decide) hv),h.apart⟩
structure kK (z x a ap mb:Nat)(w:World)(q:QP)(vl vb:Value)(us:List Value)(vss:List (List (Value×Value)))(E:List (List Nat))(O:Nat->Bool):Prop where
 aI:w.heap[x]?=some (.cells #[.pointer (some ⟨a,0,none⟩),.slice (some ⟨ap,0,none⟩) q.blocks.length q.blocks.length,.map (some mb)] 165 (0,0))
 prog:lD z a w q vl vb us vss
 len:E.length=q.blocks.length
 row:aS w ap E
 sx:cN w mb q.blocks.length O
section
variable {z x a ap mb:Nat} {w w':World} {q:QP} {vl vb:Value} {us:List Value} {vss:List (List (Value×Value))} {E E':List (List Nat)} {O O':Nat->Bool}
theorem kK.lt (h:kK z x a ap mb w q vl vb us vss E O):x<w.heap.size:=lt_of_heap h.aI
theorem kK.facts (h:kK z x a ap mb w q vl vb us vss E O):w.cell? ⟨x,0,none⟩=some (.pointer (some ⟨a,0,none⟩))/\w.cell? ⟨x,1,none⟩=some (.slice (some ⟨ap,0,none⟩) q.blocks.length q.blocks.length)/\w.cell? ⟨x,2,none⟩=some (.map (some mb)):=
 ⟨(cell_of_heap h.aI 0).trans rfl,(cell_of_heap h.aI 1).trans rfl,(cell_of_heap h.aI 2).trans rfl⟩
theorem kK.qa (h:kK z x a ap mb w q vl vb us vss E O)(hT:cm ap mb w w')(hl:E'.length=E.length)(hr:aS w' ap E')(ho:cN w' mb q.blocks.length O'):kK z x a ap mb w' q vl vb us vss E' O':=by
 have key:∀(g:Nat) (cs:Array Value) (e:TypeId) (f:Nat×Nat),w.heap[g]?=some (.cells cs e f)->e≠209->w'.heap[g]?=w.heap[g]?:=fun g cs e f hg he=>by
  refine hT.block g (lt_of_heap hg) (fun e1=> ?_) (fun e1=> ?_)
  ·obtain⟨-,cs',h',-⟩:=h.row;rw[e1,h']at hg;simp only[Option.some.injEq,Obj.cells.injEq]at hg;exact he hg.2.1.symm
  ·obtain⟨es,clock,h'⟩:=h.sx.isMap;rw[e1,h']at hg;cases hg
 exact⟨(key _ _ _ _ h.aI (by decide)).trans h.aI,Hd h.prog key,by rw[hl];exact h.len,hr,ho⟩
theorem kK.below (h:kK z x a ap mb w q vl vb us vss E O)(hb:Below w.heap.size w w'):kK z x a ap mb w' q vl vb us vss E O:=
 h.qa (.sf hb) rfl (h.row.heap (hb.block ap h.row.lt)) (h.sx.below hb)
theorem kK.other {b:Nat}(h:kK z x a ap mb w q vl vb us vss E O)(hT:bu b w w'){s:List Nat}(hs:aW w b s)(hba:b≠ap):kK z x a ap mb w' q vl vb us vss E O:=by
 have hbm:b≠mb:=fun e=>by
  obtain⟨es,clock,h'⟩:=h.sx.isMap;have:=hs.2;rw[e,h']at this;cases this
 have key:∀(g:Nat) (cs:Array Value) (e:TypeId) (f:Nat×Nat),w.heap[g]?=some (.cells cs e f)->e≠209->w'.heap[g]?=w.heap[g]?:=fun g cs e f hg he=>hT.block g (lt_of_heap hg) (fun e1=>by
  rw[e1,hs.2]at hg;simp only[Option.some.injEq,Obj.cells.injEq]at hg;exact he hg.2.1.symm)
 exact⟨(key _ _ _ _ h.aI (by decide)).trans h.aI,Hd h.prog key,h.len,h.row.heap (hT.block ap h.row.lt (fun e=>hba e.symm)),h.sx.heap (hT.block mb h.sx.lt (fun e=>hbm e.symm))⟩
end
end FlwJ
namespace FlwK
open Go Go.RowKit Sq Aux PrjF PrjG PrjJ PrjK PrjL PrjM PrjO FlwB FlwE FlwF FlwI FlwJ
attribute [local go_sem ↓] kA iK
theorem M6:∀u:Fin 16,∀v:Fin 16,bits .or .u8 ((u.val:Nat):Int) ((v.val:Nat):Int)=((u.val|||v.val:Nat):Int)/\(u.val|||v.val)<16:=by decide
theorem or_of {u v:Nat}(hu:u<16)(hv:v<16):bits .or .u8 (u:Int) (v:Int)=((u|||v:Nat):Int):=(M6 ⟨u,hu⟩ ⟨v,hv⟩).1
theorem WE {u v:Nat}(hu:u<16)(hv:v<16):u|||v<16:=(M6 ⟨u,hu⟩ ⟨v,hv⟩).2
def fL (s t:List Nat)(k:Nat):List Nat:=(List.range s.length).map fun i=>if i<k then s.getD i 0|||t.getD i 0 else s.getD i 0
def fC (s t:List Nat):List Nat:=fL s t 24
theorem tq (s t:List Nat)(k:Nat):(fL s t k).length=s.length:=by simp[fL]
theorem G7 (s t:List Nat):fL s t 0=s:=by
 unfold fL;rw[<-tg s];simp only[List.length_map,List.length_range];apply List.map_congr_left
 intro i hi;rw[ja (Nat.not_lt_zero _),tg]
theorem qU (s t:List Nat)(k i:Nat):(fL s t k).getD i 0=if i<s.length then(if i<k then s.getD i 0|||t.getD i 0 else s.getD i 0)else 0:=by
 unfold fL;rw[jA,jJ];by_cases hi:i<s.length
 ·rw[List.getElem?_range hi,jb hi];rfl
 ·rw[jG (by simp;omega),ja hi];rfl
theorem Lb (s t:List Nat)(k:Nat):(fL s t k).set k (s.getD k 0|||t.getD k 0)=fL s t (k+1):=by
 apply List.ext_getElem?
 intro i;rw[jd,tq];unfold fL;rw[jJ,jJ];by_cases hi:i<s.length
 ·rw[List.getElem?_range hi];by_cases e:k=i
  ·subst e;rw[jb rfl,jb hi];simp
  ·rw[ja e];simp only[Option.map_some,Option.some.injEq];by_cases h:i<k
   ·rw[jb h,jb (by omega)]
   ·rw[ja h,ja (by omega)]
 ·rw[jG (l:=List.range s.length) (by simp;omega)];split
  ·rw[ja (by omega)];rfl
  ·rfl
theorem Dk {s t:List Nat}(hs:eH s)(ht:eH t)(k:Nat):eH (fL s t k):=
 ⟨by rw[tq];exact hs.len,fun i=>by
  rw[qU];split
  ·split
   ·exact WE (hs.lt i) (ht.lt i)
   ·exact hs.lt i
  ·decide⟩
def eO (E:List (List Nat))(to:Nat)(s:List Nat):List (List Nat):=if fC (E.getD to []) s=E.getD to []then E else E.set to (fC (E.getD to []) s)
def gX (E:List (List Nat))(O:Nat->Bool)(to:Nat)(s:List Nat):Nat->Bool:=if fC (E.getD to []) s=E.getD to []then O else cz O to true
def Qg (w:World)(n:Nat):Prop:=w.heap.size=n
section
variable {z x a ap mb:Nat} {w w':World} {q:QP} {vl vb:Value} {us:List Value} {vss:List (List (Value×Value))} {E:List (List Nat)} {O:Nat->Bool}
set_option maxRecDepth 20000 in
set_option maxHeartbeats 2000000 in
theorem A9 (h:kK z x a ap mb w q vl vb us vss E O)(to:Nat)(U9:to<q.blocks.length)(hn:q.blocks.length<=4000)(s:List Nat)(hs:eH s):
  Calls Tryz.prog 187 #[.pointer (some ⟨x,0,none⟩),.int .i64 (to:Nat),.agg (ao s).toArray] w fun e w'=>e=.returned (.tuple #[])/\kK z x a ap mb w' q vl vb us vss (eO E to s) (gX E O to s)/\cm ap mb w w':=by
 have Jt:to<E.length:=by rw[h.len];exact U9
 have hE:=h.row.ok Jt;have aX:Below w.heap.size w (w.alloc (.cells (ao s).toArray 209)):=(Below.refl _ _).alloc (jC _) _;have hA:=h.below aX;have hSA:aW (w.alloc (.cells (ao s).toArray 209)) w.heap.size s:=aW.new w hs.len;have lx:(w.alloc (.cells (ao s).toArray 209)).heap.size=w.heap.size+1:=by simp
 have ZE:=h.row.lt;have hti:(to:Int)<(q.blocks.length:Nat):=by omega
 have UN:Qg (w.alloc (.cells (ao s).toArray 209)) (w.heap.size+1):=lx;go_enter Tryz.func187,Tryz.ntmps187
 go_upto_region 1 with fail
 clear lx;generalize (w.alloc (.cells (ao s).toArray 209))=V at*;have lx:V.heap.size=w.heap.size+1:=UN;have Xn:=hA.row.has to Jt;have U2:=hA.row.of to Jt;obtain⟨e0,HE⟩:∃e0,Hid (E.getD to []=e0):=⟨_,rfl⟩;rw[HE.out]at U2 hE;obtain⟨c0,c1,c2⟩:=hA.facts;have hZ:aW (V.alloc (.cells #[.int .u8 0,.int .u8 0,.int .u8 0,.int .u8 0,.int .u8 0,.int .u8 0,.int .u8 0,.int .u8 0,.int .u8 0,.int .u8 0,.int .u8 0,.int .u8 0,.int .u8 0,.int .u8 0,.int .u8 0,.int .u8 0,.int .u8 0,.int .u8 0,.int .u8 0,.int .u8 0,.int .u8 0,.int .u8 0,.int .u8 0,.int .u8 0] 209)) V.heap.size aq:=aW.new V (s:=aq) (by decide);have Rk:Below V.heap.size V (V.alloc (.cells #[.int .u8 0,.int .u8 0,.int .u8 0,.int .u8 0,.int .u8 0,.int .u8 0,.int .u8 0,.int .u8 0,.int .u8 0,.int .u8 0,.int .u8 0,.int .u8 0,.int .u8 0,.int .u8 0,.int .u8 0,.int .u8 0,.int .u8 0,.int .u8 0,.int .u8 0,.int .u8 0,.int .u8 0,.int .u8 0,.int .u8 0,.int .u8 0] 209)):=(Below.refl _ _).alloc (jC _) _;have oO:=aW.room hZ;have GI:=pI hE.len;have hJ:=aW.store hZ hE.len;have xO:Below V.heap.size V ((V.alloc (.cells #[.int .u8 0,.int .u8 0,.int .u8 0,.int .u8 0,.int .u8 0,.int .u8 0,.int .u8 0,.int .u8 0,.int .u8 0,.int .u8 0,.int .u8 0,.int .u8 0,.int .u8 0,.int .u8 0,.int .u8 0,.int .u8 0,.int .u8 0,.int .u8 0,.int .u8 0,.int .u8 0,.int .u8 0,.int .u8 0,.int .u8 0,.int .u8 0] 209)).setCells V.heap.size 0 (ao e0)):=ay Rk (jC _) _ _;have hW:=hA.below xO;have hSW:=hSA.below xO hSA.lt;have Kb:=(Below.refl w.heap.size w).trans (aX.trans (xO.mono (by omega)));rw[lx]at oO hJ hW hSW Kb;clear Rk hZ xO hSA hA;go_upto_region 2 with fail
 generalize ((V.alloc (.cells #[.int .u8 0,.int .u8 0,.int .u8 0,.int .u8 0,.int .u8 0,.int .u8 0,.int .u8 0,.int .u8 0,.int .u8 0,.int .u8 0,.int .u8 0,.int .u8 0,.int .u8 0,.int .u8 0,.int .u8 0,.int .u8 0,.int .u8 0,.int .u8 0,.int .u8 0,.int .u8 0,.int .u8 0,.int .u8 0,.int .u8 0,.int .u8 0] 209)).setCells (w.heap.size+1) 0 (ao e0))=W at*;clear oO Xn U2 c0 c1 c2 aX UN lx;have HJ0:aW W (w.heap.size+1) (fL e0 s 0):=by rw[G7];exact hJ
 go_wp2
 go_loopg [15] (24) (fun g v15 wr=>∃k:Nat,k<=24/\g+k=24/\v15=.int .i64 k/\aW wr (w.heap.size+1) (fL e0 s k)/\bu (w.heap.size+1) W wr)
 case atStart=>exact⟨0,by omega,rfl,rfl,HJ0,bu.refl _ _⟩
 case round=>
  obtain⟨k,hk,GH,rfl,Xf,AR⟩:=hrel;have Re:aW wr w.heap.size s:=⟨hSW.1,(AR.block _ hSW.lt (by omega)).trans hSW.2⟩;by_cases aK:k<24
  ·have d1:=Xf.cell k aK;have d2:=Re.cell k aK;have d3:=Xf.frozen k;have hki:(k:Int)<24:=by omega
   have zm:=Xf.set k (e0.getD k 0|||s.getD k 0);rw[Lb]at zm;have TY:(fL e0 s k).getD k 0=e0.getD k 0:=by rw[qU,jb (by rw[hE.len];exact aK),ja (by omega)]
   rw[TY]at d1;have hor:=or_of (hE.lt k) (hs.lt k);clear TY;generalize e0.getD k 0=u1 at*;generalize s.getD k 0=u2 at*;have qq:=AR.setCell k (.int .u8 ((u1|||u2:Nat):Int));have hset':aW (wr.setCell ⟨w.heap.size+1,k,none⟩ (.int .u8 ((u1|||u2:Nat):Int))).drew (w.heap.size+1) (fL e0 s (k+1)):=zm;have Ka:bu (w.heap.size+1) W (wr.setCell ⟨w.heap.size+1,k,none⟩ (.int .u8 ((u1|||u2:Nat):Int))).drew:=⟨qq.os,qq.tape,qq.output,qq.size,qq.block⟩;clear zm qq;go_wp2
   go_region
   all_goals
    go_wp2
    go_roundg (24-(k+1))
    case measure=>omega
    case rel=>exact⟨k+1,by omega,by omega,by go_num,hset',Ka⟩
  ·obtain rfl:k=24:=by omega
   have oB:=hW.other AR hJ (by omega);have j1:=aW.has Xf;have j2:=aW.of Xf;have fZ:=oB.row;have r1:=fZ.has to Jt;have r2:=fZ.of to Jt;have r3:=fZ.room to Jt;rw[HE.out]at r2;obtain⟨c0,c1,c2⟩:=oB.facts;have UW:=Dk hE hs 24;have he:=fun w'=>I2 (fL e0 s 24) e0 w' UW.len hE.len UW.lt hE.lt
   have hist':=pI UW.len;have HJS:Hid (fC (E.getD to []) s=fL e0 s 24):=by unfold Hid;rw[fC,HE.out]
   have Zx:cm ap mb w wr:=(cm.sf Kb).since AR (by omega);generalize fL e0 s 24=j at*;have j1d:yy wr.drew (w.heap.size+1) 0:=j1;have j2d:Fc wr.drew (w.heap.size+1) 0=(ao j).toArray:=j2;have r1d:yy wr.drew ap (to*24):=r1;have r2d:Fc wr.drew ap (to*24)=(ao e0).toArray:=r2;cases hb:(j==e0)with
   |true=>
    rw[hb]at he;have hje:Hid (j=e0):=eq_of_beq hb;clear hb;go_wp2
    go_region
    all_goals
     go_wp2
     go_end0
     have Z4:fC (E.getD to []) s=E.getD to []:=by rw[HJS.out,HE.out];exact hje.out
     refine⟨rfl,?_,Zx.on (below_drewN (Below.refl _ _) 1)⟩;rw[eO,gX,jb Z4,jb Z4];exact oB.below (below_drewN (Below.refl _ _) 1)
   |false=>
    rw[hb]at he;have hje:Hid (¬j=e0):=fun e=>by rw[e]at hb;simp at hb
    clear hb;go_wp2
    go_region
    have hWd:kK z x a ap mb wr.drew q vl vb us vss E O:=oB.below (below_drewN (Below.refl _ _) 1);have ZB:cm ap mb w wr.drew:=Zx.on (below_drewN (Below.refl _ _) 1);have hJd:aW wr.drew (w.heap.size+1) j:=Xf;generalize wr.drew=wd at*;clear oB Zx Xf AR j1 j2 r1 r2 r3 c0 c1 c2 fZ Re he;obtain⟨c0,c1,c2⟩:=hWd.facts;have j1:yy wd.drew (w.heap.size+1) 0:=j1d;have j2:Fc wd.drew (w.heap.size+1) 0=(ao j).toArray:=j2d;have r3:s6 wd.drew ap (to*24):=hWd.row.room to Jt;have YK:kK z x a ap mb wd.drew q vl vb us vss E O:=hWd.below (below_drewN (Below.refl _ _) 1);have hTe:cm ap mb w wd.drew:=ZB.on (below_drewN (Below.refl _ _) 1);have xR:=YK.row.store to Jt UW;have Wn:cN (wd.drew.setCells ap (to*24) (ao j)) mb q.blocks.length O:=YK.sx.heap (dd _ _ _ _ _ (fun e=>by
     obtain⟨es,clock,h1⟩:=YK.sx.isMap;obtain⟨-,cs,h2,-⟩:=YK.row;rw[e,h2]at h1;cases h1))
    have hTs:cm ap mb wd.drew (wd.drew.setCells ap (to*24) (ao j)):=.left (sX (bu.refl ap wd.drew) 0 (ao j) (to*24) wd.drew (bu.refl _ _));have Xm:=YK.qa hTs (by simp) xR Wn;have hTf:=hTe.trans hTs;clear Wn xR j1d j2d r1d r2d YK hTe hTs;go_wp2
    go_region
    generalize wd.drew.setCells ap (to*24) (ao j)=wf at*;clear c0 c1 c2 j1 j2 r3 hWd ZB hJd;obtain⟨c0,c1,c2⟩:=Xm.facts;go_wp2_with (at_mapUpdate;refine qo _ rfl _ _ _ rfl to rfl rfl rfl Xm.sx U9 hn ?_;intro wg hog yS)
    go_end0
    have Z4:¬fC (E.getD to []) s=E.getD to []:=by rw[HJS.out,HE.out];exact hje.out
    have hTg:cm ap mb wf wg:=.right yS;refine⟨rfl,?_,hTf.trans hTg⟩;rw[eO,gX,ja Z4,ja Z4,HJS.out];exact Xm.qa hTg rfl (Xm.row.heap (yS.block ap Xm.row.lt (fun e=>by
     simp only[Option.some.injEq]at e;obtain⟨es,clock,h1⟩:=Xm.sx.isMap;obtain⟨-,cs,h2,-⟩:=Xm.row;rw[<-e,h2]at h1;cases h1))) hog
end
end FlwK
namespace FlwL
open Go Go.RowKit Sq Aux PrjF PrjG PrjJ PrjK PrjL PrjM PrjO FlwB FlwE FlwF FlwI FlwJ FlwK
section
variable (w:World) {ops:Array Oper} {rest:List Oper} {o:Oper} {a:Act} {Q:Exit->Act->World->Prop} {O:Nat->Bool}
theorem yw (hg:o.guard=none)(it:Operand)(aw:o.op=Op.next it false)(b r n:Nat)(D:DataW Unit)(left:Lit->Bool)(ec:Nat)(hit:a.eval it=.pointer (some ⟨r,0,none⟩))
  (h:w.ranges Tryz.prog 3 unitElem b r n D left ec) (hL:∀kl,left kl=true->∃c,kl=iL c/\O c=true)
  (hDone:(∀kl,left kl=false)->wpList Tryz.prog ops Q rest (a.put o.dst (.tuple #[.bool false])) w)
  (hMore:∀(c:Nat) (w':World) (cnt':Nat),O c=true->w'.ranges Tryz.prog 3 unitElem b r n D (fun z=>left z&& !z.sameKey (iL c)) cnt'->cnt'<ec->w.grownBy w' (some r)->
   (Instr.entry (.pointer (some ⟨r,0,none⟩))).run Tryz.prog w'=.ok (.tuple #[.int .i64 (c:Nat),.agg #[]]) w'->wpList Tryz.prog ops Q rest (a.put o.dst (.tuple #[.bool true,.int .i64 (c:Nat),.agg #[]])) w'):
  wpList Tryz.prog ops Q (o::rest) a w:=
 wpList_next_ranges w hg it aw 3 OC unitElem (Value.int .i64) (fun _:Unit=> .agg #[]) (fun key kl Of=>by obtain⟨x,rfl,_⟩:=Maps.keyOf_int_inv Tryz.underlying3 Of;exact⟨x,rfl⟩) (fun v y hv=>⟨(),(unitElem_inv hv).1⟩)
  b r n D left ec hit h (fun _=>hDone) (fun x c kl y w' cnt' Of xr hv Ep hrg aK T0 lx hen=>by
   obtain⟨x',ex,rfl,hwx⟩:=Maps.keyOf_int_inv Tryz.underlying3 Of;cases ex
   obtain⟨c',hc,tj⟩:=hL _ xr;simp only[iL,Lit.int.injEq,true_and]at hc;subst hc;exact hMore c' w' cnt' tj hrg aK T0 hen)
end
theorem mT {w w' w0:World}{r:Nat}(hb:Below w.heap.size w w0)(h:w0.grownBy w' (some r))(hr:w.heap.size<=r):Below w.heap.size w w':=
 hb.trans ⟨h.os,h.tape,h.output,h.size,fun k hk=>h.block k (jK hk hb.size) (by simp;omega)⟩
theorem JL {w w':World}(h:w.grownBy w' none):Below w.heap.size w w':=⟨h.os,h.tape,h.output,h.size,fun k hk=>h.block k hk (by simp)⟩
section
variable {z x a ap mb:Nat} {w w':World} {q:QP} {vl vb:Value} {us:List Value} {vss:List (List (Value×Value))} {E:List (List Nat)} {O:Nat->Bool}
structure Ms (O:Nat->Bool)(N b:Nat):Prop where
 le:b<=N
 sx:b<N->O b=true
 none:∀c,c<b->O c=false
set_option maxRecDepth 20000 in
set_option maxHeartbeats 2000000 in
theorem sV (h:kK z x a ap mb w q vl vb us vss E O)(hn:q.blocks.length<=4000):
  Calls Tryz.prog 146 #[.pointer (some ⟨x,0,none⟩)] w fun e w'=>∃b,e=.returned (.int .i64 (b:Nat))/\Ms O q.blocks.length b/\kK z x a ap mb w' q vl vb us vss E (cz O b false)/\cm ap mb w w':=by
 obtain⟨c0,c1,c2⟩:=h.facts;obtain⟨D,hD,hO,hh,hs⟩:=h.sx;go_enter Tryz.func146,Tryz.ntmps146
 go_wp2_with (at_range;refine wpList_range_own _ rfl _ _ rfl 3 _ OC Tryz.underlying163 unitElem mb q.blocks.length D rfl hD ?_;intro w0 hrg0 TY Oj)
 go_frame
 clear Oj;have fB:=JL TY;go_loopw [3] (fun v3 wr=>∃(left:Lit->Bool) (ec l:Nat),wr.ranges Tryz.prog 3 unitElem mb w.heap.size q.blocks.length D left ec/\v3=.int .i64 (l:Nat)/\l<=q.blocks.length/\(l<q.blocks.length->O l=true)/\(∀kl,left kl=true->∃c,kl=iL c/\O c=true)/\(∀c,O c=true->left (iL c)=true\/l<=c)/\Below w.heap.size w wr) (fun _ wr=>wr.rangeLeft mb w.heap.size)
 case atStart=>exact⟨_,_,q.blocks.length,hrg0,rfl,jC _,fun h=>absurd h (Nat.lt_irrefl _),fun kl=>(hh kl).1,fun c hc=> .inl ((hh _).2 ⟨c,rfl,hc⟩),fB⟩
 case round=>
  obtain⟨left,ec,l,hrg,rfl,tm,Dg,hL,Kk,FA⟩:=hrel;go_wp2_with (at_next;refine yw (O:=O) _ rfl _ rfl mb w.heap.size q.blocks.length D left ec rfl hrg hL ?_ ?_)
  ·intro zL;have oB:=h.below FA;obtain⟨d0,d1,d2⟩:=oB.facts;have hle:l<=100000:=by omega
   go_wp2_with (at_delete;refine zr _ rfl _ _ rfl l rfl rfl oB.sx hle ?_;intro w2 Jr Ki)
   go_ret
   have qq:cm ap mb wr w2:=.right Ki;refine⟨l,rfl,⟨tm,Dg,fun c hc=> ?_⟩,?_,(cm.sf FA).trans qq⟩
   ·cases hOc:O c with
    |false=>rfl
    |true=>
     rcases Kk c hOc with h1|h1
     ·rw[zL]at h1;cases h1
     ·omega
   ·exact oB.qa qq rfl (oB.row.heap (Ki.block ap oB.row.lt (fun e=>by
     simp only[Option.some.injEq]at e;obtain⟨es,clock,h1⟩:=oB.sx.isMap;obtain⟨-,cs,h2,-⟩:=oB.row;rw[<-e,h2]at h1;cases h1))) Jr
  ·intro c w1 cnt1 hOc hrg1 aK TZ hen;have av:=mT FA TZ (jC _);have FB:=hO c hOc;have sI:∀c',O c'=true->c'≠c->left (iL c')=true->(left (iL c')&& !(iL c').sameKey (iL c))=true:=fun c' _ ea YP=>by
    rw[YP,Maps.sameKey_ne (fun e=>ea (vI e))];rfl
   by_cases AV:c<l
   ·have ZK:(c:Int)<(l:Int):=by omega
    go_wp2
    go_roundw
    case measure=>rw[hrg1.left_eq,hrg.left_eq];exact aK
    case rel=>
     refine⟨_,cnt1,c,hrg1,congrArg (Value.int .i64) (by omega),by omega,fun _=>hOc,fun kl tM=>hL kl (by simp at tM;exact tM.1),fun c' tj=> ?_,av⟩;by_cases e:c'=c
     ·right;omega
     ·rcases Kk c' tj with h1|h1
      ·left;exact sI c' tj e h1
      ·right;omega
   ·have ZK:¬(c:Int)<(l:Int):=by omega
    go_wp2
    go_roundw
    case measure=>rw[hrg1.left_eq,hrg.left_eq];exact aK
    case rel=>
     refine⟨_,cnt1,l,hrg1,congrArg (Value.int .i64) (by omega),tm,Dg,fun kl tM=>hL kl (by simp at tM;exact tM.1),fun c' tj=> ?_,av⟩;by_cases e:c'=c
     ·right;omega
     ·rcases Kk c' tj with h1|h1
      ·left;exact sI c' tj e h1
      ·right;omega
end
end FlwL
namespace FlwM
open Go Go.RowKit Sq Aux PrjF PrjG PrjJ PrjK PrjL PrjM PrjO PrjP PrjS PrjU FlwA FlwB FlwC FlwD FlwE FlwF FlwG FlwH FlwI FlwJ FlwK FlwL
theorem Ni {s:List Nat}(h:eH s)(k:Nat){v:Nat}(hv:v<16):eH (s.set k v):=
 ⟨by simpa using h.len,fun i=>by
  rw[jA,jd];split
  ·split
   ·exact hv
   ·decide
  ·have:=h.lt i;rwa [jA]at this⟩
theorem xc {m:Nat}(hm:m<16):∀(ps:List (Nat×Nat)) {s:List Nat},eH s->eH (gR m ps s)
 |[],_,h=>h
 |x::ps,s,h=>xc hm ps (s:=s.set (ag x) m) (Ni h _ hm)
theorem xm:∀(ps:List (Nat×Nat)) {s:List Nat},eH s->eH (dB ps s)
 |[],_,h=>h
 |x::ps,s,h=>xm ps (s:=s.set (ag x) (if x.2=3 then 8 else 1)) (Ni h _ (by split<;>decide))
theorem OZ (q:QP)(x:Nat×Nat){s:List Nat}(h:eH s):dm q x s<16:=by
 unfold dm;split
 ·exact h.lt _
 ·decide
theorem BP (q:QP)(l:aa){s:List Nat}(h:eH s):eH (cF q l s):=by
 unfold cF;split
 ·exact xm _ h
 ·split
  ·exact xm _ h
  ·exact h
theorem gi (q:QP)(l:aa){s:List Nat}(h:eH s):eH (bj q l s):=by
 have ht:=BP q l h;unfold bj
 repeat' split
 ·exact xc (by decide) _ ht
 ·exact xc (OZ q _ h) _ ht
 ·exact xc (by decide) _ ht
 ·exact xm _ ht
 ·exact ht
def cu (l:aa)(i:Nat)(s:List Nat):List Nat:=if l.op=20 then gR (if i=0 then 4 else 2) [l.places.getD 0 (0,0)] s else s
theorem gu (l:aa)(i:Nat){s:List Nat}(h:eH s):eH (cu l i s):=by
 unfold cu;split
 ·exact xc (by split<;>decide) _ h
 ·exact h
abbrev St:=List Nat×List (List Nat)×(Nat->Bool)
def gO (l:aa):List Nat->Nat->St->St
 |[],_,t=>t
 |n::ns,i,t=>gO l ns (i+1) (cu l i t.1,eO t.2.1 n (cu l i t.1),gX t.2.1 t.2.2 n (cu l i t.1))
def fP (q:QP):List aa->St->St
 |[],t=>t
 |l::ls,t=>fP q ls (gO l l.next 0 (bj q l t.1,t.2))
def gI (q:QP)(E:List (List Nat))(O:Nat->Bool)(b:Nat):St:=fP q (q.blocks.getD b []) (E.getD b [],E,O)
theorem Em (q:QP)(ls:List aa)(i:Nat)(hi:i<ls.length)(t:St):fP q (ls.drop i) t=fP q (ls.drop (i+1)) (gO (ls.getD i aa.nil) (ls.getD i aa.nil).next 0 (bj q (ls.getD i aa.nil) t.1,t.2)):=by
 rw[jE hi];have:ls.getD i aa.nil=ls[i]:=by simp[hi]
 rw[this];rfl
theorem Gw (l:aa)(ns:List Nat)(i:Nat)(hi:i<ns.length)(t:St):gO l (ns.drop i) i t=gO l (ns.drop (i+1)) (i+1) (cu l i t.1,eO t.2.1 (ns.getD i 0) (cu l i t.1),gX t.2.1 t.2.2 (ns.getD i 0) (cu l i t.1)):=by
 rw[jE hi];have:ns.getD i 0=ns[i]:=by simp[hi]
 rw[this];rfl
theorem pq {z:Nat}{w:World}{ad:Option Addr}{n c:Nat}{ls:List aa}{vs:List (Value×Value)}(h:fh z w (.slice ad n c) ls vs)(j:Nat)(hj:j<ls.length):
  ∃g ap cp an cn,ad=some ⟨g,0,none⟩/\n=ls.length/\ls.length<=c/\g<w.heap.size/\w.cell? ⟨g,j*6,none⟩=some (.int .i64 ((ls.getD j aa.nil).num:Nat))/\w.cell? ⟨g,j*6+1,none⟩=some (.int .i64 ((ls.getD j aa.nil).op:Nat))/\w.cell? ⟨g,j*6+2,none⟩=some (.slice ap (ls.getD j aa.nil).places.length cp)/\
   w.cell? ⟨g,j*6+3,none⟩=some (.int .i64 (ls.getD j aa.nil).number)/\w.cell? ⟨g,j*6+4,none⟩=some (.int .i64 (ls.getD j aa.nil).flag)/\w.cell? ⟨g,j*6+5,none⟩=some (.slice an (ls.getD j aa.nil).next.length cn)/\
   vs.getD j (undef,undef)=(.slice ap (ls.getD j aa.nil).places.length cp,.slice an (ls.getD j aa.nil).next.length cn):=by
 obtain⟨g,cap,hv,hc,hg,aC⟩:=dJ h.row (by omega);simp only[Value.slice.injEq]at hv;obtain⟨rfl,rfl,rfl⟩:=hv;have hE:=h.each j hj;obtain⟨ap,cp,h1⟩:=bZ hE.places;obtain⟨an,cn,h2⟩:=bZ hE.next;have hjv:j<vs.length:=by rw[h.len];exact hj
 have hz:(ls.zip vs)[j]?=some (ls.getD j aa.nil,vs.getD j (undef,undef)):=by
  simp[List.getElem?_zip_eq_some,hj,hjv]
 have key:∀i,i<6->w.cell? ⟨g,j*6+i,none⟩=(mC (ls.getD j aa.nil,vs.getD j (undef,undef)))[i]?:=fun i hi=>by
  rw[aC _ (by omega),iF,jm mC 6 (fun _=>rfl) _ j i hi,hz];rfl
 have k0:=key 0 (by decide);have k1:=key 1 (by decide);have k2:=key 2 (by decide);have k3:=key 3 (by decide);have k4:=key 4 (by decide);have k5:=key 5 (by decide);refine⟨g,ap,cp,an,cn,rfl,rfl,hc,hg,k0,k1,?_,k3,k4,?_,Prod.ext h1 h2⟩
 ·rw[k2];show some (vs.getD j (undef,undef)).1=_;rw[h1]
 ·rw[k5];show some (vs.getD j (undef,undef)).2=_;rw[h2]
theorem pr {z a:Nat}{w:World}{q:QP}{vl vb:Value}{us:List Value}{vss:List (List (Value×Value))}(h:lD z a w q vl vb us vss)(j:Nat)(hj:j<q.blocks.length):
  ∃gb cb ad c,vb=.slice (some ⟨gb,0,none⟩) q.blocks.length cb/\q.blocks.length<=cb/\gb<w.heap.size/\w.cell? ⟨gb,j,none⟩=some (.slice ad (q.blocks.getD j []).length c)/\us.getD j undef=.slice ad (q.blocks.getD j []).length c:=by
 obtain⟨g,cap,hv,hc,hg,aC⟩:=dJ h.blocks (by omega);obtain⟨ad,c,e⟩:=yG (h.each j hj);refine⟨g,cap,ad,c,hv,hc,hg,?_,e⟩;rw[aC j (by omega),<-e,jA,jB (by rw[h.WK];exact hj)];rfl
theorem Vr {z:Nat}{w:World}{an:Option Addr}{cn:Nat}{l:aa}{vp:Value}(h:bp z w l vp (.slice an l.next.length cn))(j:Nat)(hj:j<l.next.length):
  ∃g,an=some ⟨g,0,none⟩/\l.next.length<=cn/\g<w.heap.size/\w.cell? ⟨g,j,none⟩=some (.int .i64 ((l.next.getD j 0:Nat):Int)):=by
 obtain⟨g,cap,hv,hc,hg,aC⟩:=dJ h.next (by omega);simp only[Value.slice.injEq]at hv;obtain⟨rfl,-,rfl⟩:=hv;refine⟨g,rfl,hc,hg,?_⟩;rw[aC j (by omega)];simp[dG,hj]
end FlwM
end Go.Proofs.YtmlgajhhnojdjaaGreatDoor

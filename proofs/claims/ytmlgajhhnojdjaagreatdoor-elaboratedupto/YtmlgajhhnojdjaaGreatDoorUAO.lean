import Derived.Test.YtmlgajhhnojdjaaGreatDoorUAN
import Derived.Maps.RangeWalk
set_option maxHeartbeats 8000000
namespace Go.Proofs.YtmlgajhhnojdjaaGreatDoor
namespace FlwJ
open Go Go.RowKit Sq Aux PrjF PrjG PrjJ PrjK PrjL PrjM PrjO FlwB FlwE FlwF
structure cK (x y:Nat)(w w':World):Prop where
 os:w'.os=w.os
 tape:w'.tape=w.tape
 output:w'.output=w.output
 size:w.heap.size<=w'.heap.size
 block:∀k,k<w.heap.size->k≠x->k≠y->w'.heap[k]?=w.heap[k]?
section
variable {x y b B:Nat} {w w1 w2:World}
theorem cK.refl (x y:Nat)(w:World):cK x y w w:=⟨rfl,rfl,rfl,jC _,fun _ _ _ _=>rfl⟩
theorem cK.trans (h:cK x y w w1)(h':cK x y w1 w2):cK x y w w2:=
 ⟨h'.os.trans h.os,h'.tape.trans h.tape,h'.output.trans h.output,jS h.size h'.size,fun k hk h1 h2=>(h'.block k (jK hk h.size) h1 h2).trans (h.block k hk h1 h2)⟩
theorem cK.qy (h:Below w.heap.size w w1):cK x y w w1:=⟨h.os,h.tape,h.output,h.size,fun k hk _ _=>h.block k hk⟩
theorem cK.on (h:cK x y w w1)(h':Below w1.heap.size w1 w2):cK x y w w2:=h.trans (.qy h')
theorem cK.left (h:bD x w w1):cK x y w w1:=⟨h.os,h.tape,h.output,h.size,fun k hk h1 _=>h.block k hk h1⟩
theorem cK.right (h:w.grownBy w1 (some y)):cK x y w w1:=⟨h.os,h.tape,h.output,h.size,fun k hk _ h2=>h.block k hk (by simpa using h2)⟩
theorem cK.since (h:cK x y w w1)(h':bD b w1 w2)(hb:w.heap.size<=b):cK x y w w2:=
 ⟨h'.os.trans h.os,h'.tape.trans h.tape,h'.output.trans h.output,jS h.size h'.size,fun k hk h1 h2=>(h'.block k (jK hk h.size) (by omega)).trans (h.block k hk h1 h2)⟩
theorem cK.below (h:cK x y w w1)(hx:B<=x)(hy:B<=y)(hB:B<=w.heap.size):Below B w w1:=⟨h.os,h.tape,h.output,h.size,fun k hk=>h.block k (by omega) (by omega) (by omega)⟩
end
def cI (O:Nat->Bool)(b:Nat)(v:Bool):Nat->Bool:=fun c=>if c=b then v else O c
def gI (O:Nat->Bool):Nat->Nat
 |0=>0
 |n+1=>gI O n+(if O n=true then 1 else 0)
theorem JX (O:Nat->Bool):∀n,gI O n<=n
 |0=>jC _
 |n+1=>by have:=JX O n;unfold gI;split<;>omega
theorem yF {O O':Nat->Bool}:∀n,(∀b,b<n->O b=O' b)->gI O n=gI O' n
 |0,_=>rfl
 |n+1,h=>by unfold gI;rw[yF n (fun b hb=>h b (by omega)),h n (by omega)]
theorem tJ {O:Nat->Bool}:∀n,gI O n=0->∀b,b<n->O b=false
 |0,_,b,hb=>by omega
 |n+1,h,b,hb=>by
  unfold gI at h;by_cases hn:O n=true
  ·rw[jb hn]at h;omega
  ·rw[ja hn]at h;by_cases e:b=n
   ·subst e;simpa using hn
   ·exact tJ n (by omega) b (by omega)
theorem iK {O:Nat->Bool}:∀n,(∀b,b<n->O b=false)->gI O n=0
 |0,_=>rfl
 |n+1,h=>by unfold gI;rw[iK n (fun b hb=>h b (by omega)),h n (by omega)];rfl
theorem sq {O:Nat->Bool}{b:Nat}(h0:O b=false):∀n,b<n->gI (cI O b true) n=gI O n+1
 |0,h=>by omega
 |n+1,h=>by
  unfold gI;by_cases e:b=n
  ·subst e;rw[yF b (O':=O) (fun c hc=>by unfold cI;rw[ja (by omega)]),h0];simp[cI]
  ·rw[sq h0 n (by omega)];have:cI O b true n=O n:=by unfold cI;rw[ja (by omega)]
   rw[this];omega
theorem vz {O:Nat->Bool}{b:Nat}{v:Bool}(h:O b=v):cI O b v=O:=by
 funext c;unfold cI;split
 ·rename_i e;rw[e,h]
 ·rfl
theorem yG {O:Nat->Bool}{b:Nat}(h1:O b=true)(n:Nat)(hb:b<n):gI (cI O b false) n+1=gI O n:=by
 have e:cI (cI O b false) b true=O:=by
  funext c;unfold cI;split
  ·rename_i e;rw[e,h1]
  ·rfl
 rw[<-sq (O:=cI O b false) (by simp[cI]) n hb,e]
def gU (b:Nat):Lit:=.int .i64 (b:Nat)
theorem sG {a b:Nat}(h:gU a=gU b):a=b:=by simp only[gU,Lit.int.injEq,true_and]at h;omega
theorem Sa {b:Nat}(h:b<=100000):(gU b).wf=true:=WalkArith.wf_i64 (by omega)
theorem Ml:Maps.Keyed Tryz.prog 3:=Maps.int_keyed Tryz.underlying3
theorem Kh {b:Nat}(h:b<=100000):keyOf Tryz.prog 3 (.int .i64 (b:Nat))=some (gU b):=Maps.keyOf_int_mk Tryz.underlying3 (Sa h)
def cY (w:World)(mb N:Nat)(O:Nat->Bool):Prop:=
 ∃D:DataW Unit,w.ownsMap Tryz.prog 3 unitElem mb N D/\(∀b,O b=true->b<N)/\(∀kl,Maps.has D kl=true↔∃b,kl=gU b/\O b=true)/\Maps.size D=gI O N
section
variable {w w':World} {mb N:Nat} {O:Nat->Bool}
theorem MV {P:Program}{k:TypeId}{R:Value->Option (DataW Unit×List MemPlace)}{n m:Nat}{D:DataW Unit}(h:w.ownsMap P k R mb n D)(hm:Maps.size D<=m):w.ownsMap P k R mb m D:=by
 obtain⟨es,clock,h1,h2,h3,rfl⟩:=h;refine⟨es,clock,h1,h2,?_,rfl⟩;rw[Maps.size_eq,length_read]at hm;exact hm
theorem cY.lt (h:cY w mb N O):mb<w.heap.size:=by obtain⟨D,h,-⟩:=h;exact h.lt
theorem cY.isMap (h:cY w mb N O):∃es clock,w.heap[mb]?=some (.map es clock):=by obtain⟨D,⟨es,clock,h,-⟩,-⟩:=h;exact⟨es,clock,h⟩
theorem cY.heap (h:cY w mb N O)(he:w'.heap[mb]?=w.heap[mb]?):cY w' mb N O:=by
 obtain⟨D,⟨es,clock,hb,r⟩,h'⟩:=h;exact⟨D,⟨es,clock,he.trans hb,r⟩,h'⟩
theorem cY.below (h:cY w mb N O)(hb:Below w.heap.size w w'):cY w' mb N O:=h.heap (hb.block mb h.lt)
theorem cY.bound (h:cY w mb N O){b:Nat}(hb:O b=true):b<N:=by obtain⟨D,-,h,-⟩:=h;exact h b hb
theorem cY.made (w:World)(N:Nat):cY (w.alloc (.map #[] 0)) w.heap.size N (fun _=>false):=
 ⟨.map [],(World.ownsMap_made w _ _ _).mono (jQ _),fun _ h=>(by cases h),fun kl=>⟨fun h=>(by cases h),fun⟨_,_,h⟩=>(by cases h)⟩,(iK N fun _ _=>rfl).symm⟩
theorem PZ {D:DataW Unit}{b:Nat}(hO:∀b,O b=true->b<N)(hD:w.ownsMap Tryz.prog 3 unitElem mb N D)(hh:∀kl,Maps.has D kl=true↔∃b,kl=gU b/\O b=true)(hs:Maps.size D=gI O N)
  (hb:b<N) (h:w'.ownsMap Tryz.prog 3 unitElem mb (N+1) (D.put (gU b) (.agg []))):cY w' mb N (cI O b true):=by
 have LX:WideAt.IsKeyLit (gU b):=trivial;have hh':∀kl,Maps.has (D.put (gU b) (.agg [])) kl=true↔∃c,kl=gU c/\cI O b true c=true:=by
  intro kl;by_cases e:kl=gU b
  ·subst e;rw[Maps.has_put_same hD.isMap LX];exact⟨fun _=>⟨b,rfl,by simp[cI]⟩,fun _=>rfl⟩
  ·rw[Maps.has_put_other e,hh];constructor
   ·rintro⟨c,rfl,hc⟩;exact⟨c,rfl,by unfold cI;split<;>simp[hc]⟩
   ·rintro⟨c,rfl,hc⟩;refine⟨c,rfl,?_⟩;unfold cI at hc;rw[ja (fun x=>e (by rw[x]))]at hc;exact hc
 have lj:Maps.size (D.put (gU b) (.agg []))=gI (cI O b true) N:=by
  rw[Maps.size_put (hD.tidy Ml)];cases lo:O b with
  |true=>
   rw[jb ((hh _).2 ⟨b,rfl,lo⟩),vz lo,hs]
  |false=>
   rw[ja (fun x=>by obtain⟨c,hc,pb⟩:=(hh _).1 x;rw[<-sG hc,lo]at pb;cases pb),sq lo N hb,hs]
 refine⟨_,MV h (by rw[lj];exact JX _ _),fun c hc=> ?_,hh',lj⟩;unfold cI at hc;split at hc
 ·omega
 ·exact hO c hc
theorem PY {D:DataW Unit}{b:Nat}(hO:∀b,O b=true->b<N)(hD:w.ownsMap Tryz.prog 3 unitElem mb N D)(hh:∀kl,Maps.has D kl=true↔∃b,kl=gU b/\O b=true)(hs:Maps.size D=gI O N)
  (h:w'.ownsMap Tryz.prog 3 unitElem mb N (D.del (gU b))):cY w' mb N (cI O b false):=by
 have hh':∀kl,Maps.has (D.del (gU b)) kl=true↔∃c,kl=gU c/\cI O b false c=true:=by
  intro kl;by_cases e:kl=gU b
  ·subst e;rw[Maps.has_del_same];refine⟨fun h=>(by cases h),fun⟨c,hc,pb⟩=> ?_⟩;rw[<-sG hc]at pb;simp[cI]at pb
  ·rw[Maps.has_del_other e,hh];constructor
   ·rintro⟨c,rfl,hc⟩;exact⟨c,rfl,by unfold cI;rw[ja (fun x=>e (by rw[x]))];exact hc⟩
   ·rintro⟨c,rfl,hc⟩;refine⟨c,rfl,?_⟩;unfold cI at hc;rw[ja (fun x=>e (by rw[x]))]at hc;exact hc
 refine⟨_,h,fun c hc=> ?_,hh',?_⟩
 ·unfold cI at hc;split at hc
  ·cases hc
  ·exact hO c hc
 ·have:=Maps.size_del (k:=gU b) (hD.tidy Ml);cases lo:O b with
  |true=>
   rw[jb ((hh _).2 ⟨b,rfl,lo⟩),hs]at this;have:=yG lo N (hO b lo);omega
  |false=>
   rw[ja (fun x=>by obtain⟨c,hc,pb⟩:=(hh _).1 x;rw[<-sG hc,lo]at pb;cases pb),hs]at this;rw[vz lo];exact this
end
section
variable (w:World) {ops:Array Oper} {rest:List Oper} {o:Oper} {a:Act} {Q:Exit->Act->World->Prop} {mb N:Nat} {O:Nat->Bool}
theorem oY (hg:o.guard=none)(m x v:Operand)(ak:o.op=Op.mapUpdate 163 m x v)(b:Nat)(hm:a.eval m=.map (some mb))(hx:a.eval x=.int .i64 (b:Nat))(hv:a.eval v=.agg #[])
  (h:cY w mb N O) (hb:b<N) (hN:N<=4000) (hK:∀w',cY w' mb N (cI O b true)->w.grownBy w' (some mb)->wpList Tryz.prog ops Q rest (a.put o.dst undef) w'):wpList Tryz.prog ops Q (o::rest) a w:=by
 obtain⟨D,hD,hO,hh,hs⟩:=h;exact wpList_mapUpdate_own w hg m x v _ ak _ _ Ml Tryz.underlying163 unitElem mb N D hm hD (by unfold maxLen;omega) _ _ (gU b) hx hv (Kh (by omega)) (.agg []) [] unitElem_mk
  fun w' h1 h2=>hK w' (PZ hO hD hh hs hb h1) h2
theorem x8 (hg:o.guard=none)(m x:Operand)(ak:o.op=Op.call {callee:=Callee.builtin Builtin.delete,args:= #[m,x],argTypes:= #[163,3]})(b:Nat)(hm:a.eval m=.map (some mb))(hx:a.eval x=.int .i64 (b:Nat))
  (h:cY w mb N O) (hb:b<=100000) (hK:∀w',cY w' mb N (cI O b false)->w.grownBy w' (some mb)->wpList Tryz.prog ops Q rest (a.put o.dst (.tuple #[])) w'):wpList Tryz.prog ops Q (o::rest) a w:=by
 obtain⟨D,hD,hO,hh,hs⟩:=h;exact wpList_delete_own w hg m x _ _ ak _ Ml Tryz.underlying163 unitElem mb N D hm hD _ (gU b) hx (Kh hb) fun w' h1 h2=>hK w' (PY hO hD hh hs h1) h2.grown
theorem gJ (hg:o.guard=none)(m:Operand)(ak:o.op=Op.call {callee:=Callee.builtin Builtin.len,args:= #[m],argTypes:= #[163]})(hm:a.eval m=.map (some mb))(h:cY w mb N O)
  (hK:wpList Tryz.prog ops Q rest (a.put o.dst (.int .i64 (gI O N:Nat))) w):wpList Tryz.prog ops Q (o::rest) a w:=by
 obtain⟨D,hD,hO,hh,hs⟩:=h;refine wpList_len_own w hg m _ ak _ _ Tryz.underlying163 unitElem mb N D hm hD ?_;rw[hs];exact hK
end
theorem Nf {w:World}{mb N:Nat}{O:Nat->Bool}(h:cY w mb N O):∃w',(∀ty,(Builtin.clear_ #[163] ty #[.map (some mb)]).run Tryz.prog w=.ok (.tuple #[]) w')/\cY w' mb N (fun _=>false)/\w.grownBy w' (some mb):=by
 obtain⟨es,clock,hb⟩:=h.isMap;have Ba:∀ty,(Builtin.clear_ #[163] ty #[.map (some mb)]).run Tryz.prog w=.ok (.tuple #[]) (ChangeMaps.setBlock w mb (.map #[] clock)):=fun ty=>by
  simp[Builtin.clear_,run_underlying Tryz.underlying163,MapKept.run_getObj_map hb,MapKept.run_setObj_map _ hb,Result.andThen,ChangeMaps.setBlock]
 refine⟨_,Ba,⟨.map [],⟨#[],clock,ChangeMaps.heap_setBlock_same hb _,⟨by simp,MapKept.stamped_empty clock,by simp⟩,jQ _,rfl⟩,fun _ h=>(by cases h),fun kl=>⟨fun h=>(by cases h),fun⟨_,_,h⟩=>(by cases h)⟩,(iK N fun _ _=>rfl).symm⟩,⟨rfl,rfl,rfl,by simp[ChangeMaps.setBlock],fun i _ hi=>ChangeMaps.heap_setBlock_other hb _ (fun e=>hi (by rw[e]))⟩⟩
structure ey (s:List Nat):Prop where
 len:s.length=24
 lt:∀k,s.getD k 0<16
def dG (w:World)(g:Nat)(E:List (List Nat)):Prop:=
 (∀s∈E,ey s)/\∃cs,w.heap[g]?=some (.cells cs 209 (0,0))/\cs.size=24*E.length/\∀i j,i<E.length->j<24->cs[i*24+j]?=some (.int .u8 ((E.getD i []).getD j 0:Nat))
theorem J1 {E:List (List Nat)}{i:Nat}(h:i<E.length):E.getD i []∈E:=by
 rw[jA,jB h];exact jL h
theorem EV (E:List (List Nat))(i:Nat)(t:List Nat)(hi:i<E.length)(a:Nat):(E.set i t).getD a []=if a=i then t else E.getD a []:=by
 simp only[List.getD_eq_getElem?_getD,List.getElem?_set];by_cases h:a=i
 ·subst h;simp[hi]
 ·rw[ja (fun e=>h e.symm),ja h]
section
variable {w w':World} {g:Nat} {E:List (List Nat)}
theorem dG.lt (h:dG w g E):g<w.heap.size:=by obtain⟨-,cs,h,-⟩:=h;exact lt_of_heap h
theorem dG.ok (h:dG w g E){i:Nat}(hi:i<E.length):ey (E.getD i []):=h.1 _ (J1 hi)
theorem dG.heap (h:dG w g E)(he:w'.heap[g]?=w.heap[g]?):dG w' g E:=by
 obtain⟨h0,cs,h,r⟩:=h;exact⟨h0,cs,he.trans h,r⟩
theorem dG.range (h:dG w g E)(i:Nat)(hi:i<E.length):w.rangeAt g (i*24) (aj (E.getD i [])):=fun j v hv=>by
 have hl:=(h.ok hi).len;obtain⟨-,cs,h,-,h'⟩:=h;have hj:j<24:=by have:=(List.getElem?_eq_some_iff.mp hv).1;rw[dx,hl]at this;exact this
 rw[cell_of_heap h,h' i j hi hj,<-hv];have:j<(E.getD i []).length:=by rw[hl];exact hj
 generalize E.getD i []=s at*;simp[aj,this]
theorem dG.has (h:dG w g E)(i:Nat)(hi:i<E.length):gV w g (i*24):=⟨_,(h.ok hi).len,h.range i hi⟩
theorem dG.of (h:dG w g E)(i:Nat)(hi:i<E.length):mQ w g (i*24)=(aj (E.getD i [])).toArray:=DT (h.ok hi).len (h.range i hi)
theorem dG.room (h:dG w g E)(i:Nat)(hi:i<E.length):iH w g (i*24):=fun j hj=>by
 obtain⟨-,cs,h,hs,h'⟩:=h;rw[cell_of_heap h,frozen_of_heap h,h' i j hi hj];exact⟨rfl,rfl⟩
theorem dG.store (h:dG w g E)(i:Nat)(hi:i<E.length){t:List Nat}(ht:ey t):dG (w.setCells g (i*24) (aj t)) g (E.set i t):=by
 obtain⟨h0,cs,h,hs,h'⟩:=h;obtain⟨cs',h1,h2,h3⟩:=fv g (aj t) (i*24) w _ _ _ h;have hl:(aj t).length=24:=by rw[dx];exact ht.len
 refine⟨fun s hs=> ?_,cs',h1,by rw[h2,hs];simp,fun a j ha hj=> ?_⟩
 ·rcases List.mem_or_eq_of_mem_set hs with h|h
  ·exact h0 s h
  ·rw[h];exact ht
 rw[List.length_set]at ha;rw[h3,EV E i t hi,hl];by_cases hai:a=i
 ·subst hai;have:j<t.length:=by rw[ht.len];exact hj
  rw[jb (by omega),jb rfl,show a*24+j-a*24=j by omega];simp[aj,this]
 ·rw[ja (by omega),ja hai];exact h' a j ha hj
end
theorem Fw {z a:Nat}{w w':World}{q:QP}{vl vb:Value}{us:List Value}{vss:List (List (Value×Value))}(h:gS z a w q vl vb us vss)
  (key:∀(g:Nat) (cs:Array Value) (e:TypeId) (f:Nat×Nat),w.heap[g]?=some (.cells cs e f)->e≠209->w'.heap[g]?=w.heap[g]?):gS z a w' q vl vb us vss:=by
 have kr:∀{e:TypeId} {s:Nat} {v:Value} {n:Nat} {xs:List Value},e≠209->w.ownsRow z e s v n xs->w'.ownsRow z e s v n xs:=fun{e s v n xs} he hv=>
  eO hv fun g hg=>by
   rcases hv.2 with⟨e',-⟩|⟨g',cap,cur,e',-,G2,-⟩
   ·rw[e']at hg;cases hg
   ·rw[e']at hg;simp only[Value.ownBlock,Option.some.injEq]at hg;subst hg;exact key _ _ _ _ G2 he
 exact⟨h.base,(key _ _ _ _ h.aM (by decide)).trans h.aM,kr (by decide) h.locals,kr (by decide) h.blocks,
  fun j hj=>(h.each j hj).cj (kr (by decide) (h.each j hj).row) (fun he hv=>kr (by rcases he with rfl|rfl<;>decide) hv),h.apart⟩
structure jk (z x a ap mb:Nat)(w:World)(q:QP)(vl vb:Value)(us:List Value)(vss:List (List (Value×Value)))(E:List (List Nat))(O:Nat->Bool):Prop where
 aM:w.heap[x]?=some (.cells #[.pointer (some ⟨a,0,none⟩),.slice (some ⟨ap,0,none⟩) q.blocks.length q.blocks.length,.map (some mb)] 165 (0,0))
 prog:gS z a w q vl vb us vss
 len:E.length=q.blocks.length
 row:dG w ap E
 mZ:cY w mb q.blocks.length O
section
variable {z x a ap mb:Nat} {w w':World} {q:QP} {vl vb:Value} {us:List Value} {vss:List (List (Value×Value))} {E E':List (List Nat)} {O O':Nat->Bool}
theorem jk.lt (h:jk z x a ap mb w q vl vb us vss E O):x<w.heap.size:=lt_of_heap h.aM
theorem jk.facts (h:jk z x a ap mb w q vl vb us vss E O):w.cell? ⟨x,0,none⟩=some (.pointer (some ⟨a,0,none⟩))/\w.cell? ⟨x,1,none⟩=some (.slice (some ⟨ap,0,none⟩) q.blocks.length q.blocks.length)/\w.cell? ⟨x,2,none⟩=some (.map (some mb)):=
 ⟨(cell_of_heap h.aM 0).trans rfl,(cell_of_heap h.aM 1).trans rfl,(cell_of_heap h.aM 2).trans rfl⟩
theorem jk.lx (h:jk z x a ap mb w q vl vb us vss E O)(hT:cK ap mb w w')(hl:E'.length=E.length)(hr:dG w' ap E')(ho:cY w' mb q.blocks.length O'):jk z x a ap mb w' q vl vb us vss E' O':=by
 have key:∀(g:Nat) (cs:Array Value) (e:TypeId) (f:Nat×Nat),w.heap[g]?=some (.cells cs e f)->e≠209->w'.heap[g]?=w.heap[g]?:=fun g cs e f hg he=>by
  refine hT.block g (lt_of_heap hg) (fun e1=> ?_) (fun e1=> ?_)
  ·obtain⟨-,cs',h',-⟩:=h.row;rw[e1,h']at hg;simp only[Option.some.injEq,Obj.cells.injEq]at hg;exact he hg.2.1.symm
  ·obtain⟨es,clock,h'⟩:=h.mZ.isMap;rw[e1,h']at hg;cases hg
 exact⟨(key _ _ _ _ h.aM (by decide)).trans h.aM,Fw h.prog key,by rw[hl];exact h.len,hr,ho⟩
theorem jk.below (h:jk z x a ap mb w q vl vb us vss E O)(hb:Below w.heap.size w w'):jk z x a ap mb w' q vl vb us vss E O:=
 h.lx (.qy hb) rfl (h.row.heap (hb.block ap h.row.lt)) (h.mZ.below hb)
theorem jk.other {b:Nat}(h:jk z x a ap mb w q vl vb us vss E O)(hT:bD b w w'){s:List Nat}(hs:av w b s)(hba:b≠ap):jk z x a ap mb w' q vl vb us vss E O:=by
 have YV:b≠mb:=fun e=>by
  obtain⟨es,clock,h'⟩:=h.mZ.isMap;have:=hs.2;rw[e,h']at this;cases this
 have key:∀(g:Nat) (cs:Array Value) (e:TypeId) (f:Nat×Nat),w.heap[g]?=some (.cells cs e f)->e≠209->w'.heap[g]?=w.heap[g]?:=fun g cs e f hg he=>hT.block g (lt_of_heap hg) (fun e1=>by
  rw[e1,hs.2]at hg;simp only[Option.some.injEq,Obj.cells.injEq]at hg;exact he hg.2.1.symm)
 exact⟨(key _ _ _ _ h.aM (by decide)).trans h.aM,Fw h.prog key,h.len,h.row.heap (hT.block ap h.row.lt (fun e=>hba e.symm)),h.mZ.heap (hT.block mb h.mZ.lt (fun e=>YV e.symm))⟩
end
end FlwJ
namespace FlwK
open Go Go.RowKit Sq Aux PrjF PrjG PrjJ PrjK PrjL PrjM PrjO FlwB FlwE FlwF FlwI FlwJ
attribute [local go_sem ↓] dd cO
theorem Kq:∀u:Fin 16,∀v:Fin 16,bits .or .u8 ((u.val:Nat):Int) ((v.val:Nat):Int)=((u.val|||v.val:Nat):Int)/\(u.val|||v.val)<16:=by decide
theorem Yt {u v:Nat}(hu:u<16)(hv:v<16):bits .or .u8 (u:Int) (v:Int)=((u|||v:Nat):Int):=(Kq ⟨u,hu⟩ ⟨v,hv⟩).1
theorem TH {u v:Nat}(hu:u<16)(hv:v<16):u|||v<16:=(Kq ⟨u,hu⟩ ⟨v,hv⟩).2
def fz (s t:List Nat)(k:Nat):List Nat:=(List.range s.length).map fun i=>if i<k then s.getD i 0|||t.getD i 0 else s.getD i 0
def fk (s t:List Nat):List Nat:=fz s t 24
theorem rJ (s t:List Nat)(k:Nat):(fz s t k).length=s.length:=by simp[fz]
theorem Ft (s t:List Nat):fz s t 0=s:=by
 unfold fz;rw[<-ru s];simp only[List.length_map,List.length_range];apply List.map_congr_left
 intro i hi;rw[ja (Nat.not_lt_zero _),ru]
theorem pO (s t:List Nat)(k i:Nat):(fz s t k).getD i 0=if i<s.length then(if i<k then s.getD i 0|||t.getD i 0 else s.getD i 0)else 0:=by
 unfold fz;rw[jA,jJ];by_cases hi:i<s.length
 ·rw[List.getElem?_range hi,jb hi];rfl
 ·rw[jG (by simp;omega),ja hi];rfl
theorem IL (s t:List Nat)(k:Nat):(fz s t k).set k (s.getD k 0|||t.getD k 0)=fz s t (k+1):=by
 apply List.ext_getElem?
 intro i;rw[jd,rJ];unfold fz;rw[jJ,jJ];by_cases hi:i<s.length
 ·rw[List.getElem?_range hi];by_cases e:k=i
  ·subst e;rw[jb rfl,jb hi];simp
  ·rw[ja e];simp only[Option.map_some,Option.some.injEq];by_cases h:i<k
   ·rw[jb h,jb (by omega)]
   ·rw[ja h,ja (by omega)]
 ·rw[jG (l:=List.range s.length) (by simp;omega)];split
  ·rw[ja (by omega)];rfl
  ·rfl
theorem Cf {s t:List Nat}(hs:ey s)(ht:ey t)(k:Nat):ey (fz s t k):=
 ⟨by rw[rJ];exact hs.len,fun i=>by
  rw[pO];split
  ·split
   ·exact TH (hs.lt i) (ht.lt i)
   ·exact hs.lt i
  ·decide⟩
def dR (E:List (List Nat))(aa:Nat)(s:List Nat):List (List Nat):=if fk (E.getD aa []) s=E.getD aa []then E else E.set aa (fk (E.getD aa []) s)
def fR (E:List (List Nat))(O:Nat->Bool)(aa:Nat)(s:List Nat):Nat->Bool:=if fk (E.getD aa []) s=E.getD aa []then O else cI O aa true
def N1 (w:World)(n:Nat):Prop:=w.heap.size=n
section
variable {z x a ap mb:Nat} {w w':World} {q:QP} {vl vb:Value} {us:List Value} {vss:List (List (Value×Value))} {E:List (List Nat)} {O:Nat->Bool}
set_option maxRecDepth 20000 in
theorem zy (h:jk z x a ap mb w q vl vb us vss E O)(aa:Nat)(VQ:aa<q.blocks.length)(hn:q.blocks.length<=4000)(s:List Nat)(hs:ey s):
  Calls Tryz.prog 187 #[.pointer (some ⟨x,0,none⟩),.int .i64 (aa:Nat),.agg (aj s).toArray] w fun e w'=>e=.returned (.tuple #[])/\jk z x a ap mb w' q vl vb us vss (dR E aa s) (fR E O aa s)/\cK ap mb w w':=by
 have G9:aa<E.length:=by rw[h.len];exact VQ
 have hE:=h.row.ok G9;have aF:Below w.heap.size w (w.alloc (.cells (aj s).toArray 209)):=(Below.refl _ _).alloc (jC _) _;have hA:=h.below aF;have ZS:av (w.alloc (.cells (aj s).toArray 209)) w.heap.size s:=av.new w hs.len;have lj:(w.alloc (.cells (aj s).toArray 209)).heap.size=w.heap.size+1:=by simp
 have WC:=h.row.lt;have hti:(aa:Int)<(q.blocks.length:Nat):=by omega
 have WM:N1 (w.alloc (.cells (aj s).toArray 209)) (w.heap.size+1):=lj;go_enter Tryz.func187,Tryz.ntmps187
 go_upto_region 1 with fail
 clear lj;generalize (w.alloc (.cells (aj s).toArray 209))=V at*;have lj:V.heap.size=w.heap.size+1:=WM;have Ud:=hA.row.has aa G9;have RT:=hA.row.of aa G9;obtain⟨e0,HE⟩:∃e0,Hid (E.getD aa []=e0):=⟨_,rfl⟩;rw[HE.out]at RT hE;obtain⟨c0,c1,c2⟩:=hA.facts;have hZ:av (V.alloc (.cells #[.int .u8 0,.int .u8 0,.int .u8 0,.int .u8 0,.int .u8 0,.int .u8 0,.int .u8 0,.int .u8 0,.int .u8 0,.int .u8 0,.int .u8 0,.int .u8 0,.int .u8 0,.int .u8 0,.int .u8 0,.int .u8 0,.int .u8 0,.int .u8 0,.int .u8 0,.int .u8 0,.int .u8 0,.int .u8 0,.int .u8 0,.int .u8 0] 209)) V.heap.size au:=av.new V (s:=au) (by decide);have OK:Below V.heap.size V (V.alloc (.cells #[.int .u8 0,.int .u8 0,.int .u8 0,.int .u8 0,.int .u8 0,.int .u8 0,.int .u8 0,.int .u8 0,.int .u8 0,.int .u8 0,.int .u8 0,.int .u8 0,.int .u8 0,.int .u8 0,.int .u8 0,.int .u8 0,.int .u8 0,.int .u8 0,.int .u8 0,.int .u8 0,.int .u8 0,.int .u8 0,.int .u8 0,.int .u8 0] 209)):=(Below.refl _ _).alloc (jC _) _;have gy:=av.room hZ;have qL:=iu hE.len;have hJ:=av.store hZ hE.len;have rA:Below V.heap.size V ((V.alloc (.cells #[.int .u8 0,.int .u8 0,.int .u8 0,.int .u8 0,.int .u8 0,.int .u8 0,.int .u8 0,.int .u8 0,.int .u8 0,.int .u8 0,.int .u8 0,.int .u8 0,.int .u8 0,.int .u8 0,.int .u8 0,.int .u8 0,.int .u8 0,.int .u8 0,.int .u8 0,.int .u8 0,.int .u8 0,.int .u8 0,.int .u8 0,.int .u8 0] 209)).setCells V.heap.size 0 (aj e0)):=bp OK (jC _) _ _;have hW:=hA.below rA;have Vr:=ZS.below rA ZS.lt;have Ik:=(Below.refl w.heap.size w).trans (aF.trans (rA.mono (by omega)));rw[lj]at gy hJ hW Vr Ik;clear OK hZ rA ZS hA;go_upto_region 2 with fail
 generalize ((V.alloc (.cells #[.int .u8 0,.int .u8 0,.int .u8 0,.int .u8 0,.int .u8 0,.int .u8 0,.int .u8 0,.int .u8 0,.int .u8 0,.int .u8 0,.int .u8 0,.int .u8 0,.int .u8 0,.int .u8 0,.int .u8 0,.int .u8 0,.int .u8 0,.int .u8 0,.int .u8 0,.int .u8 0,.int .u8 0,.int .u8 0,.int .u8 0,.int .u8 0] 209)).setCells (w.heap.size+1) 0 (aj e0))=W at*;clear gy Ud RT c0 c1 c2 aF WM lj;have HJ0:av W (w.heap.size+1) (fz e0 s 0):=by rw[Ft];exact hJ
 go_wp2
 go_loopg [15] (24) (fun g v15 wr=>∃k:Nat,k<=24/\g+k=24/\v15=.int .i64 k/\av wr (w.heap.size+1) (fz e0 s k)/\bD (w.heap.size+1) W wr)
 case atStart=>exact⟨0,by omega,rfl,rfl,HJ0,bD.refl _ _⟩
 case round=>
  obtain⟨k,hk,Ca,rfl,T0,xS⟩:=hrel;have xR:av wr w.heap.size s:=⟨Vr.1,(xS.block _ Vr.lt (by omega)).trans Vr.2⟩;by_cases bg:k<24
  ·have d1:=T0.cell k bg;have d2:=xR.cell k bg;have d3:=T0.frozen k;have NO:(k:Int)<24:=by omega
   have Mb:=T0.set k (e0.getD k 0|||s.getD k 0);rw[IL]at Mb;have YY:(fz e0 s k).getD k 0=e0.getD k 0:=by rw[pO,jb (by rw[hE.len];exact bg),ja (by omega)]
   rw[YY]at d1;have hor:=Yt (hE.lt k) (hs.lt k);clear YY;generalize e0.getD k 0=u1 at*;generalize s.getD k 0=u2 at*;have lV:=xS.setCell k (.int .u8 ((u1|||u2:Nat):Int));have X8:av (wr.setCell ⟨w.heap.size+1,k,none⟩ (.int .u8 ((u1|||u2:Nat):Int))).drew (w.heap.size+1) (fz e0 s (k+1)):=Mb;have A0:bD (w.heap.size+1) W (wr.setCell ⟨w.heap.size+1,k,none⟩ (.int .u8 ((u1|||u2:Nat):Int))).drew:=⟨lV.os,lV.tape,lV.output,lV.size,lV.block⟩;clear Mb lV;go_wp2
   go_region
   all_goals
    go_wp2
    go_roundg (24-(k+1))
    case measure=>omega
    case rel=>exact⟨k+1,by omega,by omega,by go_num,X8,A0⟩
  ·obtain rfl:k=24:=by omega
   have mh:=hW.other xS hJ (by omega);have j1:=av.has T0;have j2:=av.of T0;have fL:=mh.row;have r1:=fL.has aa G9;have r2:=fL.of aa G9;have r3:=fL.room aa G9;rw[HE.out]at r2;obtain⟨c0,c1,c2⟩:=mh.facts;have RM:=Cf hE hs 24;have he:=fun w'=>GA (fz e0 s 24) e0 w' RM.len hE.len RM.lt hE.lt
   have hist':=iu RM.len;have Ze:Hid (fk (E.getD aa []) s=fz e0 s 24):=by unfold Hid;rw[fk,HE.out]
   have Ua:cK ap mb w wr:=(cK.qy Ik).since xS (by omega);generalize fz e0 s 24=j at*;have j1d:gV wr.drew (w.heap.size+1) 0:=j1;have j2d:mQ wr.drew (w.heap.size+1) 0=(aj j).toArray:=j2;have r1d:gV wr.drew ap (aa*24):=r1;have r2d:mQ wr.drew ap (aa*24)=(aj e0).toArray:=r2;cases hb:(j==e0)with
   |true=>
    rw[hb]at he;have hje:Hid (j=e0):=eq_of_beq hb;clear hb;go_wp2
    go_region
    all_goals
     go_wp2
     go_end0
     have XC:fk (E.getD aa []) s=E.getD aa []:=by rw[Ze.out,HE.out];exact hje.out
     refine⟨rfl,?_,Ua.on (below_drewN (Below.refl _ _) 1)⟩;rw[dR,fR,jb XC,jb XC];exact mh.below (below_drewN (Below.refl _ _) 1)
   |false=>
    rw[hb]at he;have hje:Hid (¬j=e0):=fun e=>by rw[e]at hb;simp at hb
    clear hb;go_wp2
    go_region
    have YR:jk z x a ap mb wr.drew q vl vb us vss E O:=mh.below (below_drewN (Below.refl _ _) 1);have hTd:cK ap mb w wr.drew:=Ua.on (below_drewN (Below.refl _ _) 1);have hJd:av wr.drew (w.heap.size+1) j:=T0;generalize wr.drew=wd at*;clear mh Ua T0 xS j1 j2 r1 r2 r3 c0 c1 c2 fL xR he;obtain⟨c0,c1,c2⟩:=YR.facts;have j1:gV wd.drew (w.heap.size+1) 0:=j1d;have j2:mQ wd.drew (w.heap.size+1) 0=(aj j).toArray:=j2d;have r3:iH wd.drew ap (aa*24):=YR.row.room aa G9;have Vt:jk z x a ap mb wd.drew q vl vb us vss E O:=YR.below (below_drewN (Below.refl _ _) 1);have hTe:cK ap mb w wd.drew:=hTd.on (below_drewN (Below.refl _ _) 1);have lq:=Vt.row.store aa G9 RM;have Tr:cY (wd.drew.setCells ap (aa*24) (aj j)) mb q.blocks.length O:=Vt.mZ.heap (bE _ _ _ _ _ (fun e=>by
     obtain⟨es,clock,h1⟩:=Vt.mZ.isMap;obtain⟨-,cs,h2,-⟩:=Vt.row;rw[e,h2]at h1;cases h1))
    have ZV:cK ap mb wd.drew (wd.drew.setCells ap (aa*24) (aj j)):=.left (q9 (bD.refl ap wd.drew) 0 (aj j) (aa*24) wd.drew (bD.refl _ _));have Uc:=Vt.lx ZV (by simp) lq Tr;have hTf:=hTe.trans ZV;clear Tr lq j1d j2d r1d r2d Vt hTe ZV;go_wp2
    go_region
    generalize wd.drew.setCells ap (aa*24) (aj j)=wf at*;clear c0 c1 c2 j1 j2 r3 YR hTd hJd;obtain⟨c0,c1,c2⟩:=Uc.facts;go_wp2_with (at_mapUpdate;refine oY _ rfl _ _ _ rfl aa rfl rfl rfl Uc.mZ VQ hn ?_;intro wg hog vX)
    go_end0
    have XC:¬fk (E.getD aa []) s=E.getD aa []:=by rw[Ze.out,HE.out];exact hje.out
    have hTg:cK ap mb wf wg:=.right vX;refine⟨rfl,?_,hTf.trans hTg⟩;rw[dR,fR,ja XC,ja XC,Ze.out];exact Uc.lx hTg rfl (Uc.row.heap (vX.block ap Uc.row.lt (fun e=>by
     simp only[Option.some.injEq]at e;obtain⟨es,clock,h1⟩:=Uc.mZ.isMap;obtain⟨-,cs,h2,-⟩:=Uc.row;rw[<-e,h2]at h1;cases h1))) hog
end
end FlwK
namespace FlwL
open Go Go.RowKit Sq Aux PrjF PrjG PrjJ PrjK PrjL PrjM PrjO FlwB FlwE FlwF FlwI FlwJ FlwK
section
variable (w:World) {ops:Array Oper} {rest:List Oper} {o:Oper} {a:Act} {Q:Exit->Act->World->Prop} {O:Nat->Bool}
theorem vH (hg:o.guard=none)(it:Operand)(ak:o.op=Op.next it false)(b r n:Nat)(D:DataW Unit)(left:Lit->Bool)(yf:Nat)(hit:a.eval it=.pointer (some ⟨r,0,none⟩))
  (h:w.ranges Tryz.prog 3 unitElem b r n D left yf) (hL:∀kl,left kl=true->∃c,kl=gU c/\O c=true)
  (hDone:(∀kl,left kl=false)->wpList Tryz.prog ops Q rest (a.put o.dst (.tuple #[.bool false])) w)
  (hMore:∀(c:Nat) (w':World) (cnt':Nat),O c=true->w'.ranges Tryz.prog 3 unitElem b r n D (fun z=>left z&& !z.sameKey (gU c)) cnt'->cnt'<yf->w.grownBy w' (some r)->
   (Instr.entry (.pointer (some ⟨r,0,none⟩))).run Tryz.prog w'=.ok (.tuple #[.int .i64 (c:Nat),.agg #[]]) w'->wpList Tryz.prog ops Q rest (a.put o.dst (.tuple #[.bool true,.int .i64 (c:Nat),.agg #[]])) w'):
  wpList Tryz.prog ops Q (o::rest) a w:=
 wpList_next_ranges w hg it ak 3 Ml unitElem (Value.int .i64) (fun _:Unit=> .agg #[]) (fun key kl LX=>by obtain⟨x,rfl,_⟩:=Maps.keyOf_int_inv Tryz.underlying3 LX;exact⟨x,rfl⟩) (fun v y hv=>⟨(),(unitElem_inv hv).1⟩)
  b r n D left yf hit h (fun _=>hDone) (fun x c kl y w' cnt' LX OW hv mX X3 bg oy lj hen=>by
   obtain⟨x',ex,rfl,hwx⟩:=Maps.keyOf_int_inv Tryz.underlying3 LX;cases ex
   obtain⟨c',hc,pb⟩:=hL _ OW;simp only[gU,Lit.int.injEq,true_and]at hc;subst hc;exact hMore c' w' cnt' pb X3 bg oy hen)
end
theorem Ei {w w' w0:World}{r:Nat}(hb:Below w.heap.size w w0)(h:w0.grownBy w' (some r))(hr:w.heap.size<=r):Below w.heap.size w w':=
 hb.trans ⟨h.os,h.tape,h.output,h.size,fun k hk=>h.block k (jK hk hb.size) (by simp;omega)⟩
theorem Hl {w w':World}(h:w.grownBy w' none):Below w.heap.size w w':=⟨h.os,h.tape,h.output,h.size,fun k hk=>h.block k hk (by simp)⟩
section
variable {z x a ap mb:Nat} {w w':World} {q:QP} {vl vb:Value} {us:List Value} {vss:List (List (Value×Value))} {E:List (List Nat)} {O:Nat->Bool}
structure JM (O:Nat->Bool)(N b:Nat):Prop where
 le:b<=N
 mZ:b<N->O b=true
 none:∀c,c<b->O c=false
set_option maxRecDepth 20000 in
theorem q8 (h:jk z x a ap mb w q vl vb us vss E O)(hn:q.blocks.length<=4000):
  Calls Tryz.prog 146 #[.pointer (some ⟨x,0,none⟩)] w fun e w'=>∃b,e=.returned (.int .i64 (b:Nat))/\JM O q.blocks.length b/\jk z x a ap mb w' q vl vb us vss E (cI O b false)/\cK ap mb w w':=by
 obtain⟨c0,c1,c2⟩:=h.facts;obtain⟨D,hD,hO,hh,hs⟩:=h.mZ;go_enter Tryz.func146,Tryz.ntmps146
 go_wp2_with (at_range;refine wpList_range_own _ rfl _ _ rfl 3 _ Ml Tryz.underlying163 unitElem mb q.blocks.length D rfl hD ?_;intro w0 hrg0 YY yj)
 go_frame
 clear yj;have lo:=Hl YY;go_loopw [3] (fun v3 wr=>∃(left:Lit->Bool) (yf l:Nat),wr.ranges Tryz.prog 3 unitElem mb w.heap.size q.blocks.length D left yf/\v3=.int .i64 (l:Nat)/\l<=q.blocks.length/\(l<q.blocks.length->O l=true)/\(∀kl,left kl=true->∃c,kl=gU c/\O c=true)/\(∀c,O c=true->left (gU c)=true\/l<=c)/\Below w.heap.size w wr) (fun _ wr=>wr.rangeLeft mb w.heap.size)
 case atStart=>exact⟨_,_,q.blocks.length,hrg0,rfl,jC _,fun h=>absurd h (Nat.lt_irrefl _),fun kl=>(hh kl).1,fun c hc=> .inl ((hh _).2 ⟨c,rfl,hc⟩),lo⟩
 case round=>
  obtain⟨left,yf,l,X3,rfl,AI,QR,hL,OV,mi⟩:=hrel;go_wp2_with (at_next;refine vH (O:=O) _ rfl _ rfl mb w.heap.size q.blocks.length D left yf rfl X3 hL ?_ ?_)
  ·intro jy;have mh:=h.below mi;obtain⟨d0,d1,d2⟩:=mh.facts;have hle:l<=100000:=by omega
   go_wp2_with (at_delete;refine x8 _ rfl _ _ rfl l rfl rfl mh.mZ hle ?_;intro w2 NQ OQ)
   go_ret
   have lV:cK ap mb wr w2:=.right OQ;refine⟨l,rfl,⟨AI,QR,fun c hc=> ?_⟩,?_,(cK.qy mi).trans lV⟩
   ·cases hOc:O c with
    |false=>rfl
    |true=>
     rcases OV c hOc with h1|h1
     ·rw[jy]at h1;cases h1
     ·omega
   ·exact mh.lx lV rfl (mh.row.heap (OQ.block ap mh.row.lt (fun e=>by
     simp only[Option.some.injEq]at e;obtain⟨es,clock,h1⟩:=mh.mZ.isMap;obtain⟨-,cs,h2,-⟩:=mh.row;rw[<-e,h2]at h1;cases h1))) NQ
  ·intro c w1 cnt1 hOc hrg1 bg G3 hen;have aG:=Ei mi G3 (jC _);have B8:=hO c hOc;have Tk:∀c',O c'=true->c'≠c->left (gU c')=true->(left (gU c')&& !(gU c').sameKey (gU c))=true:=fun c' _ dB NP=>by
    rw[NP,Maps.sameKey_ne (fun e=>dB (sG e))];rfl
   by_cases AH:c<l
   ·have WQ:(c:Int)<(l:Int):=by omega
    go_wp2
    go_roundw
    case measure=>rw[hrg1.left_eq,X3.left_eq];exact bg
    case rel=>
     refine⟨_,cnt1,c,hrg1,congrArg (Value.int .i64) (by omega),by omega,fun _=>hOc,fun kl Iv=>hL kl (by simp at Iv;exact Iv.1),fun c' pb=> ?_,aG⟩;by_cases e:c'=c
     ·right;omega
     ·rcases OV c' pb with h1|h1
      ·left;exact Tk c' pb e h1
      ·right;omega
   ·have WQ:¬(c:Int)<(l:Int):=by omega
    go_wp2
    go_roundw
    case measure=>rw[hrg1.left_eq,X3.left_eq];exact bg
    case rel=>
     refine⟨_,cnt1,l,hrg1,congrArg (Value.int .i64) (by omega),AI,QR,fun kl Iv=>hL kl (by simp at Iv;exact Iv.1),fun c' pb=> ?_,aG⟩;by_cases e:c'=c
     ·right;omega
     ·rcases OV c' pb with h1|h1
      ·left;exact Tk c' pb e h1
      ·right;omega
end
end FlwL
end Go.Proofs.YtmlgajhhnojdjaaGreatDoor

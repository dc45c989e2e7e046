import Derived.Test.YtmlgajhhnojdjaaGreatDoorRBF
import Derived.Test.YtmlgajhhnojdjaaGreatDoorRows
import Derived.Test.YtmlgajhhnojdjaaGreatDoorRAQ
import Derived.Deep.Slices
import Derived.OpenShut
import Derived.ProofKit
namespace Go.Proofs.YtmlgajhhnojdjaaGreatDoor
namespace PrjV
open Go Go.RowKit Sq Aux PrjF PrjG PrjH PrjI PrjJ PrjK PrjL PrjM PrjN PrjO PrjP PrjQ PrjR PrjS PrjT PrjU
theorem rq {ws:List B}{x:Nat×List B}(h:eP ws=some x):x.1<23/\x.2.length=(ae x.1).length/\x.2=ws.drop 1:=by
 obtain⟨h1,h2⟩:=tD h;rw[eP,h2]at h;simp only at h;split at h
 ·rename_i hc;refine⟨oW h2,?_,by rw[h1]⟩;rw[h1];simp only[List.length_drop];rw[h2];exact hc.1
 ·cases h
theorem zb (raw:Bool):∀(LS:List (List B)) (o:fj) (i:Nat) (S:List (Nat×List B)) (o':fj),aF raw LS o i=(S,o',none)->S.length=LS.length/\∀j,j<LS.length->∃ws x,LS[j]?=some ws/\S[j]?=some x/\eP ws=some x
 |[],o,i,S,o',h=>by
  simp only[aF,Prod.mk.injEq]at h;obtain⟨rfl,-⟩:=h;exact⟨rfl,fun j hj=>by simp at hj⟩
 |ws::r,o,i,S,o',h=>by
  rw[aF]at h;cases hs:eP ws with
  |none=>rw[hs]at h;simp at h
  |some x=>
   rw[hs]at h;simp only at h;by_cases ha:(aP raw o x.1).2=true
   ·rw[jb ha]at h;simp only[Prod.mk.injEq]at h;obtain⟨rfl,h2⟩:=h;obtain⟨i1,i2⟩:=zb raw r _ (i+1) _ o' (Prod.ext rfl h2);refine⟨by simp[i1],fun j hj=> ?_⟩;cases j with
    |zero=>exact⟨ws,x,rfl,rfl,hs⟩
    |succ j=>simpa using i2 j (by simpa using hj)
   ·rw[ja ha]at h;simp at h
theorem sR (raw:Bool):∀(LS:List (List B)) (o:fj) (i:Nat) (S:List (Nat×List B)) (o':fj),aF raw LS o i=(S,o',none)->∀j,j<S.length->2<=(S.getD j (0,[])).1->o.sec=1\/1<=countB (S.take j)
 |[],o,i,S,o',h,j,hj,_=>by
  simp only[aF,Prod.mk.injEq]at h;obtain⟨rfl,-⟩:=h;simp at hj
 |ws::r,o,i,S,o',h,j,hj,h2=>by
  rw[aF]at h;cases hs:eP ws with
  |none=>rw[hs]at h;simp at h
  |some x=>
   rw[hs]at h;simp only at h;by_cases ha:(aP raw o x.1).2=true
   ·rw[jb ha]at h;simp only[Prod.mk.injEq]at h;obtain⟨rfl,hr⟩:=h;have aw:∀(h2:2<=x.1),o.sec=1:=fun h2=>by
     rw[aP]at ha;split at ha
     ·simp at ha
     ·rw[ja (by omega),ja (by omega)]at ha;split at ha
      ·simp at ha
      ·rename_i h1;simpa using h1
    cases j with
    |zero=>exact .inl (aw (by simpa using h2))
    |succ j=>
     have ih:=sR raw r _ (i+1) _ o' (Prod.ext rfl hr) j (by simpa using hj) (by simpa using h2);by_cases h1:x.1=1
     ·right;unfold countB;rw[List.take_succ_cons,List.filter_cons,jb (by simp[h1])];simp
     ·rcases ih with ih|ih
      ·left;by_cases h0:x.1=0
       ·rw[aP]at ih;split at ih
        ·exact ih
        ·exact ih
       ·exact aw (by omega)
      ·right;unfold countB at ih⊢;rw[List.take_succ_cons,List.filter_cons];split
       ·simp
       ·exact ih
   ·rw[ja ha]at h;simp at h
theorem Tf {raw:Bool}{L:List B}{S:List (Nat×List B)}{o:fj}(h:aF raw (L.map (split 32)) ⟨0,0,0⟩ 0=(S,o,none))(hL:L.length<=4000)(hlen:∀j,(word L j).length<=1048576):zx S/\S.length=L.length:=by
 obtain⟨h1,h2⟩:=zb raw _ _ _ _ _ h;rw[jc]at h1;have key:∀j,j<S.length->∃ws,ws=split 32 (word L j)/\eP ws=some (S.getD j (0,[])):=fun j hj=>by
  obtain⟨ws,x,e1,e2,e3⟩:=h2 j (by simp;omega);refine⟨ws,?_,by rw[jA,e2];exact e3⟩;have ot:j<L.length:=by omega
  rw[jJ,jB ot]at e1;simp only[Option.map_some,Option.some.injEq]at e1;rw[<-e1];simp[word,ot]
 refine⟨⟨by omega,fun j hj=> ?_,fun j hj=> ?_,fun j i=> ?_,fun j hj h2=> ?_⟩,h1⟩
 ·obtain⟨ws,-,hs⟩:=key j hj;exact(rq hs).1
 ·obtain⟨ws,-,hs⟩:=key j hj;exact(rq hs).2.1
 ·by_cases hj:j<S.length
  ·obtain⟨ws,e,hs⟩:=key j hj;rw[(rq hs).2.2,e];have:word ((split 32 (word L j)).drop 1) i=word (split 32 (word L j)) (i+1):=by simp[word]
   rw[this];exact jS (eM 32 _ _) (hlen j)
  ·rw[jA,jG (by omega)];simp[word]
 ·have:=sR raw _ _ _ _ _ h j hj h2;rcases this with h|h
  ·simp at h
  ·exact h
theorem oe (nb:Nat):∀(S:List (Nat×List B)) (i m:Nat) (q0 q:QP),ba nb S i q0=(q,none)->(∀b∈q0.blocks,b.length<=m)->q.locals.length<=q0.locals.length+S.length/\q.blocks.length<=q0.blocks.length+S.length/\∀b∈q.blocks,b.length<=m+S.length
 |[],i,m,q0,q,h,hm=>by
  simp only[ba,Prod.mk.injEq,and_true]at h;subst h;exact⟨jC _,jC _,hm⟩
 |x::r,i,m,q0,q,h,hm=>by
  rw[ba]at h;by_cases e0:x.1=0
  ·rw[jb e0]at h;split at h
   ·cases h
   ·obtain⟨i1,i2,i3⟩:=oe nb r (i+1) m _ q h hm;simp only[QP.addLocal,List.length_append,List.length_singleton]at i1 i2;exact⟨by simp;omega,by simp;omega,fun b hb=>by have:=i3 b hb;simp;omega⟩
  ·rw[ja e0]at h;by_cases e1:x.1=1
   ·rw[jb e1]at h;obtain⟨i1,i2,i3⟩:=oe nb r (i+1) m _ q h (fun b hb=>by
     simp only[QP.addBlock,List.mem_append,List.mem_singleton]at hb;rcases hb with hb|rfl
     ·exact hm b hb
     ·simp)
    simp only[QP.addBlock,List.length_append,List.length_singleton]at i1 i2;exact⟨by simp;omega,by simp;omega,fun b hb=>by have:=i3 b hb;simp;omega⟩
   ·rw[ja e1]at h;cases hl:ey q0.locals nb x with
    |none=>rw[hl]at h;cases h
    |some l=>
     rw[hl]at h;obtain⟨i1,i2,i3⟩:=oe nb r (i+1) (m+1) _ q h (fun b hb=>by
      simp only[QP.addLine,List.mem_append,List.mem_singleton]at hb;rcases hb with hb|rfl
      ·exact Nat.le_succ_of_le (hm b (List.dropLast_subset _ hb))
      ·rw[jV,List.length_singleton,List.getLastD_eq_getLast?];cases hq:q0.blocks.getLast? with
       |none=>simp
       |some b'=>have:=hm b' (List.mem_of_getLast? hq);simp;omega)
     simp only[QP.addLine,List.length_append,List.length_singleton,List.length_dropLast]at i1 i2;exact⟨by simp;omega,by simp;omega,fun b hb=>by have:=i3 b hb;simp;omega⟩
theorem OM (l:B)(w:World)(h:l.length<=1048576)(E:Env w):
  Calls Tryz.prog 116 #[.string (bs l),.string ⟨#[10]⟩] w fun e w'=>e=.returned (.slice (some ⟨w.heap.size,0,none⟩) (split 10 l).length (split 10 l).length)/\Below w.heap.size w w'/\w.heap.size<w'.heap.size/\∀j,j<(split 10 l).length->w'.cell? ⟨w.heap.size,j,none⟩=some (.string (bs (word (split 10 l) j))):=by
 obtain⟨m,hm⟩:=E.OY;have hc:=Ea 10 l.length l (jC _);refine(Tryz.strings_Split (bs l) ⟨#[10]⟩ m w (by rw[dQ];omega) hm (by decide)).mono ?_;rintro e w' ⟨rfl,rfl⟩;rw[hc];refine⟨rfl,(Below.refl _ _).alloc (jC _) _,by simp,fun j hj=> ?_⟩;rw[((pY 10 (Lib.countB (bs l) ⟨#[10]⟩) l).2.2 (by omega))];have:(w.alloc (.cells (((split 10 l).map bs).map Value.string).toArray 9)).heap[w.heap.size]?=some (.cells (((split 10 l).map bs).map Value.string).toArray 9 (0,0)):=jD;rw[cell_of_heap this];simp[word,hj]
theorem F4 (l:B)(w:World):Calls Tryz.prog 114 #[.string (bs l),.string ⟨#[10]⟩] w fun e w'=>e=.returned (.int .i64 (((split 10 l).length-1:Nat):Int))/\w'=w:=by
 have:=Tryz.strings_Count_one (bs l) 10 w;have e:(Lib.countByte (bs l).data.toList 10:Nat)=(split 10 l).length-1:=by
  rw[oi];simp[Lib.countByte,bs]
 rw[e]at this;exact this
end PrjV
namespace PrjW
open Go Go.RowKit Sq Aux PrjF PrjG PrjH PrjI PrjJ PrjK PrjL PrjM PrjN PrjO PrjP PrjQ PrjR PrjS PrjT PrjU PrjV
structure Fy (z a:Nat)(w:World)(q:QP):Prop where
 at_:∃vl vb us vss,lD z a w q vl vb us vss
 ok:∃nb,nb<=4000/\Jw nb q
 locals:q.locals.length<=4000
 blocks:q.blocks.length<=4000
 lines:∀j,(q.blocks.getD j []).length<=4000
def dV (text:B)(raw:Bool)(w:World)(e:Ending)(w':World):Prop:=
 Below w.heap.size w w'/\∃v,e=.returned (.tuple #[v,.int .i64 ((bc text raw).2.1:Nat),.int .i64 ((bc text raw).2.2:Nat)])/\
  (((bc text raw).1=none/\v=.pointer none)\/∃q a z,(bc text raw).1=some q/\v=.pointer (some ⟨a,0,none⟩)/\w.heap.size<=z/\Fy z a w' q)
theorem dV.bad {text:B}{raw:Bool}{w w':World}{c k:Nat}(hb:Below w.heap.size w w')(h:bc text raw=(none,c,k)):dV text raw w (.returned (.tuple #[.pointer none,.int .i64 (c:Nat),.int .i64 (k:Nat)])) w':=
 ⟨hb,.pointer none,by rw[h],.inl ⟨by rw[h],rfl⟩⟩
theorem dV.mi {text:B}{raw:Bool}{w w':World}{q:QP}{a z:Nat}(hb:Below w.heap.size w w')(h:bc text raw=(some q,0,0))(hz:w.heap.size<=z)(hg:Fy z a w' q):dV text raw w (.returned (.tuple #[.pointer (some ⟨a,0,none⟩),.int .i64 0,.int .i64 0])) w':=
 ⟨hb,.pointer (some ⟨a,0,none⟩),by rw[h];rfl,.inr ⟨q,a,z,by rw[h],rfl,hz,hg⟩⟩
section
variable {text:B} {raw:Bool}
theorem yc (h:(split 10 text).length>(if raw then 4000 else 120)):bc text raw=(none,1,0):=by rw[bc,jb h]
theorem Pu (h:¬(split 10 text).length>(if raw then 4000 else 120)){k:Nat}(hs:(aF raw (aY text) ⟨0,0,0⟩ 0).2.2=some k):bc text raw=(none,2,k):=by
 rw[bc,ja h,hs]
theorem LO (h:¬(split 10 text).length>(if raw then 4000 else 120)){S:List (Nat×List B)}{o:fj}(hs:aF raw (aY text) ⟨0,0,0⟩ 0=(S,o,none))(ho:¬o.sec=2):bc text raw=(none,2,(split 10 text).length):=by
 rw[bc,ja h,hs];simp only;rw[jb ho]
theorem Px (h:¬(split 10 text).length>(if raw then 4000 else 120)){S:List (Nat×List B)}{o:fj}(hs:aF raw (aY text) ⟨0,0,0⟩ 0=(S,o,none))(ho:o.sec=2){k:Nat}(hl:(ba (countB S) S 0 QP.empty).2=some k):bc text raw=(none,3,k):=by
 rw[bc,ja h,hs];simp only;rw[ja (by simp[ho]),hl]
theorem Py (h:¬(split 10 text).length>(if raw then 4000 else 120)){S:List (Nat×List B)}{o:fj}(hs:aF raw (aY text) ⟨0,0,0⟩ 0=(S,o,none))(ho:o.sec=2){q:QP}(hl:ba (countB S) S 0 QP.empty=(q,none)){k:Nat}(hm:q.misfit=some k):bc text raw=(none,4,k):=by
 rw[bc,ja h,hs];simp only;rw[ja (by simp[ho]),hl];simp only;rw[hm]
theorem Pv (h:¬(split 10 text).length>(if raw then 4000 else 120)){S:List (Nat×List B)}{o:fj}(hs:aF raw (aY text) ⟨0,0,0⟩ 0=(S,o,none))(ho:o.sec=2){q:QP}(hl:ba (countB S) S 0 QP.empty=(q,none))(hm:q.misfit=none):bc text raw=(some q,0,0):=by
 rw[bc,ja h,hs];simp only;rw[ja (by simp[ho]),hl];simp only;rw[hm]
end
theorem Fy.make {z a nb:Nat}{w:World}{S:List (Nat×List B)}{q:QP}(hn:nb=countB S)(hS:zx S)(hl:ba nb S 0 QP.empty=(q,none)){vl vb:Value}{us:List Value}{vss:List (List (Value×Value))}(hp:lD z a w q vl vb us vss):Fy z a w q:=by
 have h1:=oe nb S 0 0 QP.empty q hl (fun b hb=>by simp[QP.empty]at hb);have h2:=oT nb S 0 QP.empty q hl (fun x hx=>by
  obtain⟨j,hj,rfl⟩:=List.getElem_of_mem hx;have:=hS.op j hj;simpa [List.getD_eq_getElem?_getD,hj]using this) ⟨fun x hx=>by simp[QP.empty]at hx,fun b hb=>by simp[QP.empty]at hb⟩
 have xQ:=hS.fc;simp only[QP.empty,List.length_nil,Nat.zero_add]at h1;refine⟨⟨vl,vb,us,vss,hp⟩,⟨nb,by have:=countB_le S;omega,h2⟩,by omega,by omega,fun j=> ?_⟩;by_cases hj:j<q.blocks.length
 ·have:=h1.2.2 (q.blocks.getD j []) (by simp[hj]);omega
 ·rw[jA,jG (by omega)];simp
theorem L3 {raw:Bool}{L:List B}{w w':World}{e:Ending}(h:dW raw L w e w'):∃v7 v8 v9,e=.returned (.tuple #[v7,v8,v9])/\dW raw L w (.returned (.tuple #[v7,v8,v9])) w':=by
 have h':=h;unfold dW at h;obtain⟨-,h⟩:=h;split at h
 ·subst h;exact⟨_,_,_,rfl,h'⟩
 ·obtain⟨v,vs,rfl,-⟩:=h;exact⟨_,_,_,rfl,h'⟩
theorem IZ {raw:Bool}{L:List B}{w w':World}{v7 v8 v9:Value}(h:dW raw L w (.returned (.tuple #[v7,v8,v9])) w'):Below w.heap.size w w'/\((∃k:Nat,(aF raw (L.map (split 32)) ⟨0,0,0⟩ 0).2.2=some k/\v7=.slice none 0 0/\v8=.int .i64 (k:Nat)/\v9=.bool false)\/
  ∃S o vs,aF raw (L.map (split 32)) ⟨0,0,0⟩ 0=(S,o,none)/\v8=.int .i64 (L.length:Nat)/\v9=.bool (decide (o.sec=2))/\cR w.heap.size w' v7 S vs):=by
 obtain⟨hb,h⟩:=h;refine⟨hb,?_⟩;generalize aF raw (L.map (split 32)) ⟨0,0,0⟩ 0=R at h⊢;obtain⟨S,o,x⟩:=R;cases x with
 |some k=>
  simp only[Ending.returned.injEq,Value.tuple.injEq,Array.mk.injEq,List.cons.injEq,and_true]at h;exact .inl ⟨k,rfl,h.1,h.2.1,h.2.2⟩
 |none=>
  obtain⟨v,vs,e,hs⟩:=h;simp only[Ending.returned.injEq,Value.tuple.injEq,Array.mk.injEq,List.cons.injEq,and_true]at e;obtain⟨rfl,h2,h3⟩:=e;exact .inr ⟨S,o,vs,rfl,h2,h3,hs⟩
theorem OR {nb:Nat}{S:List (Nat×List B)}{w w':World}{e:Ending}(h:iP nb S w e w'):Below w.heap.size w w'/\((∃k:Nat,(ba nb S 0 QP.empty).2=some k/\e=.returned (.tuple #[.pointer none,.int .i64 (k:Nat),.bool false]))\/∃q a vl vb us vss,ba nb S 0 QP.empty=(q,none)/\e=.returned (.tuple #[.pointer (some ⟨a,0,none⟩),.int .i64 0,.bool true])/\lD w.heap.size a w' q vl vb us vss):=by
 obtain⟨hb,h⟩:=h;refine⟨hb,?_⟩;generalize ba nb S 0 QP.empty=R at h⊢;obtain⟨q,x⟩:=R;cases x with
 |some k=>exact .inl ⟨k,rfl,h⟩
 |none=>
  obtain⟨a,vl,vb,us,vss,h1,h2⟩:=h;exact .inr ⟨q,a,vl,vb,us,vss,rfl,h1,h2⟩
theorem OV {q:QP}{w w':World}{e:Ending}(h:kI q w e w'):Below w.heap.size w w'/\((∃k:Nat,q.misfit=some k/\e=.returned (.tuple #[.int .i64 (k:Nat),.bool true]))\/(q.misfit=none/\e=.returned (.tuple #[.int .i64 0,.bool false]))):=by
 obtain⟨hb,h⟩:=h;refine⟨hb,?_⟩;cases hm:q.misfit with
 |some k=>rw[hm]at h;exact .inl ⟨k,rfl,h⟩
 |none=>rw[hm]at h;exact .inr ⟨rfl,h⟩
theorem H5 {z g cap:Nat}{S:List (Nat×List B)}{vs:List Value}(w:World)(h:cR z w (.slice (some ⟨g,0,none⟩) S.length cap) S vs)(hS:zx S)(hg:g<w.heap.size)(kL:S.length<=cap)(E:Env w):
  Calls Tryz.prog 117 #[.slice (some ⟨g,0,none⟩) S.length cap] w fun e w'=>Below w.heap.size w w'/\((∃k:Nat,(ba (countB S) S 0 QP.empty).2=some k/\e=.returned (.tuple #[.pointer none,.int .i64 (k:Nat),.bool false]))\/∃q a,ba (countB S) S 0 QP.empty=(q,none)/\e=.returned (.tuple #[.pointer (some ⟨a,0,none⟩),.int .i64 0,.bool true])/\Fy w.heap.size a w' q):=
 (Lo w h hS hg kL E).mono fun e w' hl=>by
  obtain⟨h1,h2|⟨q,a,vl,vb,us,vss,h3,h4,h5⟩⟩:=OR hl
  ·exact⟨h1,.inl h2⟩
  ·exact⟨h1,.inr ⟨q,a,h3,h4,Fy.make rfl hS h3 h5⟩⟩
theorem Ia {z a:Nat}{q:QP}(w:World)(h:Fy z a w q)(E:Env w):
  Calls Tryz.prog 118 #[.pointer (some ⟨a,0,none⟩)] w fun e w'=>Below w.heap.size w w'/\((∃k:Nat,q.misfit=some k/\e=.returned (.tuple #[.int .i64 (k:Nat),.bool true]))\/(q.misfit=none/\e=.returned (.tuple #[.int .i64 0,.bool false]))):=by
 obtain⟨⟨vl,vb,us,vss,hP⟩,⟨nb,-,hq⟩,h1,h2,h3⟩:=h;exact(Ls q nb z a vl vb us vss w hP h1 hq h2 h3 E).mono fun e w' hm=>OV hm
theorem Fy.below {z a:Nat}{w w':World}{q:QP}(h:Fy z a w q)(hb:Below w.heap.size w w'):Fy z a w' q:=by
 obtain⟨⟨vl,vb,us,vss,hP⟩,h0,h1,h2,h3⟩:=h;exact⟨⟨vl,vb,us,vss,hP.below hb⟩,h0,h1,h2,h3⟩
set_option maxRecDepth 20000 in
set_option maxHeartbeats 2000000 in
theorem Po (text:B)(raw:Bool)(w:World)(h:text.length<=1048576)(E:Env w):
  Calls Tryz.prog 72 #[.agg #[.bool raw,.int .i64 (if raw then 4000 else 120:Nat),.int .i64 (if raw then 2000 else 20:Nat)],.string (bs text)] w (dV text raw w):=by
 have KSp:=fun w' (hL:(split 10 text).length<=4000) (g cap:Nat) (hc:(split 10 text).length<=cap) (hg:g<w'.heap.size) (aC:∀j,j<(split 10 text).length->w'.cell? ⟨g,j,none⟩=some (.string (bs (word (split 10 text) j)))) (E':Env w')=>
  yh raw (if raw then 4000 else 120) g cap (split 10 text) w' hL hc hg aC (fun j=>jS (eM 10 text j) h) E'
 have hone:=fv 10 text;have KC:=fun w'=>F4 text w'
 by_cases di:(split 10 text).length>(if raw then 4000 else 120)
 ·have hx:=yc di;generalize (if raw then 4000 else 120:Nat)=ln at*;generalize (if raw then 2000 else 20:Nat)=mb at*;have Xv:(ln:Int)<=(((split 10 text).length-1:Nat):Int):=by omega
  generalize (split 10 text).length-1=ec at*;have aX:Below w.heap.size w (w.alloc (.cells #[.bool raw,.int .i64 (ln:Nat),.int .i64 (mb:Nat)] 130)):=(Below.refl _ _).alloc (jC _) _;go_enter Tryz.func72,Tryz.ntmps72
  go_wp2
  go_quiet ((go_at_call 114;exact Calls.quiet_of_same (KC _)))
  go_wp2
  go_ret3
  exact dV.bad (below_drewN aX _) hx
 ·have hL:(split 10 text).length<=4000:=by cases raw<;>simp at di<;>omega
  have R1:=fun k=>Pu (raw:=raw) (text:=text) di (k:=k)
  have R2:=fun S o hs ho=>LO (raw:=raw) (text:=text) di (S:=S) (o:=o) hs ho
  have R3:=fun S o hs ho k hl=>Px (raw:=raw) (text:=text) di (S:=S) (o:=o) hs ho (k:=k) hl
  have R4:=fun S o hs ho q hl k hm=>Py (raw:=raw) (text:=text) di (S:=S) (o:=o) hs ho (q:=q) hl (k:=k) hm
  have R5:=fun S o hs ho q hl hm=>Pv (raw:=raw) (text:=text) di (S:=S) (o:=o) hs ho (q:=q) hl hm
  have HR:Hid (_/\_/\_/\_/\_):=⟨R1,R2,R3,R4,R5⟩;clear R1 R2 R3 R4 R5;generalize (if raw then 4000 else 120:Nat)=ln at*;generalize (if raw then 2000 else 20:Nat)=mb at*;have Xv:¬(ln:Int)<=(((split 10 text).length-1:Nat):Int):=by omega
  have aX:Below w.heap.size w (w.alloc (.cells #[.bool raw,.int .i64 (ln:Nat),.int .i64 (mb:Nat)] 130)):=(Below.refl _ _).alloc (jC _) _;have HL1:Hid (_):=hone;obtain⟨ec,Xx⟩:∃ec,ec=(split 10 text).length-1:=⟨_,rfl⟩;rw[<-Xx]at KC Xv;clear Xx di;go_enter Tryz.func72,Tryz.ntmps72
  go_wp2
  go_quiet ((go_at_call 114;exact Calls.quiet_of_same (KC _)))
  go_wp2
  have xO:=below_drewN aX nq;have d0:((w.alloc (.cells #[.bool raw,.int .i64 (ln:Nat),.int .i64 (mb:Nat)] 130)).drewN nq).heap[w.heap.size]?=some (.cells #[.bool raw,.int .i64 (ln:Nat),.int .i64 (mb:Nat)] 130 (0,0)):=jD;generalize ((w.alloc (.cells #[.bool raw,.int .i64 (ln:Nat),.int .i64 (mb:Nat)] 130)).drewN nq)=W at*;have Xr:Below w.heap.size w W.drew:=⟨xO.os,xO.tape,xO.output,xO.size,xO.block⟩;have KL:=OM text W.drew h (E.on Xr);have e0:W.cell? ⟨w.heap.size,0,none⟩=some (.bool raw):=by rw[cell_of_heap d0];rfl
  have e1:W.cell? ⟨w.heap.size,1,none⟩=some (.int .i64 (ln:Nat)):=by rw[cell_of_heap d0];rfl
  have e2:W.cell? ⟨w.heap.size,2,none⟩=some (.int .i64 (mb:Nat)):=by rw[cell_of_heap d0];rfl
  have hltW:=lt_of_heap d0;go_cut [7,8,9] (fun v7 v8 v9 wc=>∃w1,Below w.heap.size w w1/\dW raw (split 10 text) w1 (.returned (.tuple #[v7,v8,v9])) wc)
  case first=>
   go_region_with (first
    |(go_at_call 115;refine K1.mono ?_;rintro e w2 tN;obtain⟨v7,v8,v9,rfl,tN⟩:=L3 tN)
    |(go_at_call 116;refine KL.mono ?_;rintro e w1 ⟨rfl,av,TZ,ko⟩;have hd1:w1.heap[w.heap.size]?=_:=(av.block w.heap.size hltW).trans d0;have c0:=(cell_of_heap hd1 0).trans (by rfl:_=some (Value.bool raw));have c1:=(cell_of_heap hd1 1).trans (by rfl:_=some (Value.int .i64 (ln:Nat)));have c2:=(cell_of_heap hd1 2).trans (by rfl:_=some (Value.int .i64 (mb:Nat)));have lu:Below w.heap.size w w1:=Xr.trans (av.mono Xr.size);have K1:=KSp w1 hL W.heap.size (split 10 text).length (jC _) TZ ko (E.on lu)))
   all_goals go_wp2_with fail
   all_goals
    go_meet
    case rel=>exact⟨w1,lu,tN⟩
  case rest=>
   obtain⟨w1,lu,tN⟩:=hcut;obtain⟨bT,Rn⟩:=IZ tN;have ml:=lu.trans (bT.mono lu.size);obtain⟨R1,R2,R3,R4,R5⟩:=HR.out;clear HR KSp KC KL tN;rcases Rn with⟨k,hk,rfl,rfl,rfl⟩|⟨SS,o,vs,hs,rfl,rfl,J9⟩
   ·have hx:=R1 k hk;clear R1 R2 R3 R4 R5 hk;go_wp2
    go_ret3
    exact dV.bad ml hx
   ·obtain⟨cd,hlen⟩:=Tf hs hL (fun j=>jS (eM 10 text j) h);by_cases ho:o.sec=2
    ·have hod:decide (o.sec=2)=true:=by simp[ho]
     rw[hod];obtain⟨g,cap,rfl,kL,hg⟩:=LY J9 (by have:=HL1.out;omega);have KU:=H5 wc J9 cd hg kL (E.on ml);have Q3:=fun k hl=>R3 SS o hs ho k hl
     have Q4:=fun q hl k hm=>R4 SS o hs ho q hl k hm
     have Q5:=fun q hl hm=>R5 SS o hs ho q hl hm
     have HQ:Hid (_/\_/\_):=⟨Q3,Q4,Q5⟩;clear R1 R2 R3 R4 R5 Q3 Q4 Q5 hs;have KM:=fun(q:QP) (a:Nat) (w3:World) (lI:Below wc.heap.size wc w3) (hG:Fy wc.heap.size a w3 q)=>Ia w3 hG ((E.on ml).on lI)
     generalize (ba (countB SS) SS 0 QP.empty)=LK at*;clear J9 cd hone hL hlen ho hod e0 e1 e2 d0 Xv;go_wp2_with (first
      |(go_at_call 117;refine KU.mono ?_;rintro e w3 ⟨lI,⟨k,hk,rfl⟩|⟨q,a,hq,rfl,hG⟩⟩)
      |(go_at_call 118;refine(KM q a w3 lI hG).mono ?_;rintro e w4 ⟨N9,⟨k,hk,rfl⟩|⟨hm,rfl⟩⟩))
     ·go_ret3
      exact dV.bad (ml.trans (lI.mono ml.size)) (HQ.out.1 k hk)
     ·go_ret3
      have Jk:=ml.trans (lI.mono ml.size);exact dV.bad (Jk.trans (N9.mono Jk.size)) (HQ.out.2.1 q hq k hk)
     ·go_ret3
      have Jk:=ml.trans (lI.mono ml.size);exact dV.mi (Jk.trans (N9.mono Jk.size)) (HQ.out.2.2 q hq hm) ml.size (hG.below N9)
    ·have hx:=R2 SS o hs ho;have hod:decide (o.sec=2)=false:=by simp[ho]
     rw[hod];clear R1 R2 R3 R4 R5 hs ho hod;go_wp2
     go_ret3
     exact dV.bad ml hx
end PrjW
namespace PrjX
open Go Go.RowKit Sq Aux PrjF PrjG PrjJ PrjK PrjW RefM
set_option maxRecDepth 20000 in
theorem Ps (text:B)(w:World)(h:text.length<=1048576)(E:Env w):Calls Tryz.prog 53 #[.string (bs text)] w (dV text false w):=by
 have K:=Po text false w h E
 replace K:=K.mono (R':=fun e w'=>∃v,e=.returned (.tuple #[v,.int .i64 ((bc text false).2.1:Nat),.int .i64 ((bc text false).2.2:Nat)])/\dV text false w (.returned (.tuple #[v,.int .i64 ((bc text false).2.1:Nat),.int .i64 ((bc text false).2.2:Nat)])) w') fun e w' hp=>by
  have Cq:=hp;obtain⟨-,v,rfl,-⟩:=Cq;exact⟨v,rfl,hp⟩
 generalize (bc text false).2.1=c1 at K;generalize (bc text false).2.2=c2 at K;have K2:Calls Tryz.prog 72 #[.agg #[.bool false,.int .i64 120,.int .i64 20],.string (bs text)] w _:=K;go_enter Tryz.func53,Tryz.ntmps53
 go_wp2_with (go_at_call 72;refine K2.mono ?_;rintro e w1 ⟨v,rfl,hp⟩)
 go_ret3
 exact hp
theorem M5 (n:Int)(w:World):Calls Tryz.prog 35 #[.int .i64 n] w fun e w'=>e=.returned (.int .i64 n)/\w'=w:=by
 go_enter Tryz.func35,Tryz.ntmps35
 go_wp2
 go_ret
 exact⟨rfl,rfl⟩
end PrjX
namespace PrjY
open Go Go.RowKit Sq PrjF PrjG
section
variable {H:Type} {enc:TypeId×Value->H} {P:Program} {w:World} {base:Nat} {sp:Nat->Bool} {held:Bool} {fuel:Nat} {t:TypeId} {cs:List Value} {p:List MemPlace}
theorem BW {l:B}(ht:P.underlying t=some .string)(h:DataW.trod enc P w base sp held fuel t cs=some (.lit (.string l),p)):cs=[.string (bs l)]:=by
 cases fuel with
 |zero=>simp[DataW.trod]at h
 |succ fuel=>
  match cs with
  |[]=>simp[DataW.trod,ht]at h
  |_::_::_=>simp[DataW.trod,ht]at h
  |[c]=>
   cases c<;>simp[DataW.trod,ht]at h
   obtain⟨-,h,-⟩:=h;rename_i s;rw[<-h];simp[bs]
theorem I8 {n:Nat}{e:TypeId}{ds:List (DataW H)}(ht:P.underlying t=some (.array n e))(h:DataW.trod enc P w base sp held fuel t cs=some (.agg ds,p)):
  ∃fuel',cs.length=P.cellsOf t/\ds.length=n/\∀i d,ds[i]?=some d->∃p',DataW.trod enc P w base sp held fuel' e ((cs.drop (i*P.cellsOf e)).take (P.cellsOf e))=some (d,p'):=by
 cases fuel with
 |zero=>simp[DataW.trod]at h
 |succ fuel=>
  simp only[DataW.trod,ht]at h;split at h
  ·rename_i hl;obtain⟨xs,hm,hx⟩:=Option.map_eq_some_iff.1 h;simp only[Prod.mk.injEq,DataW.agg.injEq]at hx;have Ya:xs.length=n:=by simpa using Lib.mapM_length hm
   refine⟨fuel,hl,by rw[<-hx.1];simpa using Ya,fun i d hd=> ?_⟩;rw[<-hx.1,jJ,Option.map_eq_some_iff]at hd;obtain⟨y,hy,rfl⟩:=hd;have hi:i<n:=by
    rcases Nat.lt_or_ge i n with hi|hi
    ·exact hi
    ·rw[jG (by omega)]at hy;cases hy
   obtain⟨b,hb,hf⟩:=Lib.mapM_at hm i i (by simp[hi]);rw[hy]at hb;cases hb
   exact⟨y.2,hf⟩
  ·cases h
theorem TA {f0 f1:Field}{a b:B}(ht:P.underlying t=some (.struct #[f0,f1]))(h0:f0.offset=0)(h1:f1.offset=1)(u0:P.underlying f0.type=some .string)(u1:P.underlying f1.type=some .string)(c0:P.cellsOf f0.type=1)(c1:P.cellsOf f1.type=1)(ct:P.cellsOf t=2)
  (h:DataW.trod enc P w base sp held fuel t cs=some (.agg [.lit (.string a),.lit (.string b)],p)):cs=[.string (bs a),.string (bs b)]:=by
 cases fuel with
 |zero=>simp[DataW.trod]at h
 |succ fuel=>
  simp only[DataW.trod,ht]at h;split at h
  ·rename_i hl;rw[ct]at hl;obtain⟨xs,hm,hx⟩:=Option.map_eq_some_iff.1 h;simp only[Prod.mk.injEq,DataW.agg.injEq]at hx;obtain⟨b0,fB,Oc⟩:=Lib.mapM_at hm 0 f0 (by simp);obtain⟨b1,av,pF⟩:=Lib.mapM_at hm 1 f1 (by simp);have e0:=congrArg (·[0]?) hx.1;have e1:=congrArg (·[1]?) hx.1;simp only[List.getElem?_map,fB,av,Option.map_some,List.getElem?_cons_zero,List.getElem?_cons_succ,Option.some.injEq]at e0 e1;rw[h0,c0]at Oc;rw[h1,c1]at pF;have g0:=BW (l:=a) (p:=b0.2) u0 (by rw[Oc,<-e0]);have g1:=BW (l:=b) (p:=b1.2) u1 (by rw[pF,<-e1])
   match cs,hl with
   |[x,y],_=>
    simp only[List.drop_zero,List.take_succ_cons,List.take_zero,List.cons.injEq,and_true]at g0;simp only[List.drop_succ_cons,List.drop_zero,List.take_succ_cons,List.take_zero,List.cons.injEq,and_true]at g1;rw[g0,g1]
  ·cases h
end
theorem qJ {α:Type}(f:α->List Value)(m:Nat)(hf:∀x,(f x).length=m):∀(l:List α) (cs:List Value),cs.length=l.length*m->(∀i x,l[i]?=some x->(cs.drop (i*m)).take m=f x)->cs=l.flatMap f
 |[],cs,hl,_=>by simpa using hl
 |x::l,cs,hl,h=>by
  have h0:=h 0 x rfl;rw[Nat.zero_mul,List.drop_zero]at h0;have ih:=qJ f m hf l (cs.drop m) (by rw[List.length_drop,hl,jY,Nat.add_mul];omega) (fun i y hy=>by
   have:=h (i+1) y (by simpa using hy);rw[List.drop_drop,show m+i*m=(i+1)*m by rw[Nat.add_mul];omega];exact this)
  rw[List.flatMap_cons,<-h0,<-ih,List.take_append_drop]
theorem iY {P:Program}{w:World}{n:String}{g:Nat}{cs:Array Value}(hg:P.globalNamed n=some g)(h:w.var? P n=some cs):(∀j,w.cell? ⟨g,j,none⟩=cs[j]?)/\g<w.heap.size:=by
 unfold World.var? at h;rw[hg]at h;simp only[Option.bind_some]at h;split at h
 ·rename_i cs' t f hh;cases h
  exact⟨fun j=>by simp[World.cell?,hh],by rw[Array.getElem?_eq_some_iff]at hh;exact hh.1⟩
 ·cases h
theorem IY {H:Type}:(Rows.laid_stow_prog_shapes:DataW H)=.agg (eZ.map fun x=> .agg [.lit (.string x.1),.lit (.string x.2)]):=rfl
theorem Mi {H:Type}:(Rows.laid_stow_prog_typeWords:DataW H)=.agg (j0.map fun x=> .lit (.string x)):=rfl
theorem EA {P:Program}{w:World}{g:Nat}{t:TypeId}{zero:Array Value}(h:w.ShapedOpen P)(hg:g<P.globals.size)(h0:((begin P (fun _ _=>0) default).world.heap[g]?).bind Obj.row?=some (zero,t))(hz:zero.size=1)
  (hb:P.buildable t=true) (hc:P.cellTypes P.depth t=some [t]) (hu:P.underlying t=some (.int .i64)):∃m:Int,w.cell? ⟨g,0,none⟩=some (.int .i64 m):=by
 obtain⟨cs,hh,hs,hr⟩:=h.1 g zero t hg h0;obtain⟨ts,hts,-,Cl⟩:=hr hb;rw[hc]at hts;cases hts
 have h1:0<cs.size:=by omega
 obtain⟨u,hu',cd⟩:=Cl 0 cs[0] (by simp[h1]);have:u=t:=by simpa using hu'.symm
 subst this;have aC:w.cell? ⟨g,0,none⟩=some cs[0]:=by simp[World.cell?,hh,h1]
 rw[aC];unfold Cell.ok at cd;rw[hu]at cd;cases hv:cs[0]<;>rw[hv]at cd<;>simp at cd
 rename_i k n;obtain⟨rfl,-⟩:=cd;exact⟨n,rfl⟩
theorem Yg {P:Program}{laid:List (String×DataW Unit)}{W:World}(hf:(laid.filter fun x=>x.2.handleName?.isSome)=[])(h:laidMetH P laid W):laidMet P laid W:=by
 unfold laidMetH at h;rw[hf]at h;exact h
theorem mz {P:Program}{w:World}{n:String}{d:DataW Unit}:∀{laid:List (String×DataW Unit)} {ps:List MemPlace},DataW.LaidVars P w laid ps->(n,d)∈laid->∃g t cs fuel p,P.globalNamed n=some g/\(P.globals[g]?).map (·.type)=some t/\w.var? P n=some cs/\DataW.trod (fun _=>()) P w 0 (fun _=>true) false fuel t cs.toList=some (d,p)
 |[],_,_,hm=>by cases hm
 |(n',d')::r,ps,h,hm=>by
  obtain⟨g,t,cs,fuel,p,q,h1,h2,h3,h4,h5,-⟩:=h;rcases jP.1 hm with e|hm
  ·cases e;exact⟨g,t,cs,fuel,p,h1,h2,h3,h4⟩
  ·exact mz h5 hm
theorem y4:Tryz.prog.globalNamed "stow/prog.shapes" =some 0:=by kernel_rfl
theorem Bm:Tryz.prog.globalNamed "stow/prog.typeWords" =some 1:=by kernel_rfl
theorem Ij:Tryz.prog.globalNamed "strconv.ErrSyntax" =some 9:=by kernel_rfl
theorem Bl:Tryz.prog.globalNamed "strconv.ErrRange" =some 10:=by kernel_rfl
theorem Jb:(Tryz.prog.globals[0]?).map (·.type)=some 148:=by kernel_rfl
theorem Mg:(Tryz.prog.globals[1]?).map (·.type)=some 149:=by kernel_rfl
theorem TE:(Tryz.prog.globals[9]?).map (·.type)=some 221:=by kernel_rfl
theorem TD:(Tryz.prog.globals[10]?).map (·.type)=some 221:=by kernel_rfl
theorem D9:Tryz.prog.cellsOf 148=46:=by kernel_rfl
theorem yH:Tryz.prog.cellsOf 147=2:=by kernel_rfl
theorem FW:Tryz.prog.cellsOf 149=4:=by kernel_rfl
theorem py:Tryz.prog.cellsOf 9=1:=by kernel_rfl
theorem many:Tryz.prog.globals.size=11:=by kernel_rfl
theorem Xa {laid:List (String×DataW Unit)}{W:World}(hL:laidMet Tryz.prog laid W)(Cr:W.ShapedOpen Tryz.prog)(m1:("stow/prog.shapes",Rows.laid_stow_prog_shapes)∈laid)(m2:("stow/prog.typeWords",Rows.laid_stow_prog_typeWords)∈laid)
  (m3:("strconv.ErrSyntax",Rows.laid_strconv_ErrSyntax)∈laid) (m4:("strconv.ErrRange",Rows.laid_strconv_ErrRange)∈laid):Env W:=by
 obtain⟨ps,hV,-⟩:=hL;refine⟨?_,?_,?_,?_,?_,?_⟩
 ·obtain⟨g,t,cs,fuel,p,h1,h2,h3,h4⟩:=mz hV m1;rw[y4]at h1;cases h1
  rw[Jb]at h2;cases h2
  rw[IY]at h4;obtain⟨fuel',hl,hn,hi⟩:=I8 Tryz.underlying148 h4;rw[D9]at hl;have zJ:cs.toList=gm:=by
   refine qJ (fun x:B×B=>[.string (bs x.1),.string (bs x.2)]) 2 (fun _=>rfl) eZ cs.toList hl fun i x hx=> ?_
   obtain⟨p',Cq⟩:=hi i (.agg [.lit (.string x.1),.lit (.string x.2)]) (by rw[jJ,hx];rfl);rw[yH]at Cq;exact TA Tryz.underlying147 rfl rfl Tryz.underlying9 Tryz.underlying9 py py yH Cq
  obtain⟨hc,-⟩:=iY y4 h3;intro j v hv;rw[Nat.zero_add,hc,<-Array.getElem?_toList,zJ];exact hv
 ·obtain⟨g,t,cs,fuel,p,h1,h2,h3,h4⟩:=mz hV m2;rw[Bm]at h1;cases h1
  rw[Mg]at h2;cases h2
  rw[Mi]at h4;obtain⟨fuel',hl,hn,hi⟩:=I8 Tryz.underlying149 h4;rw[FW]at hl;have zJ:cs.toList=j0.flatMap (fun x:B=>[.string (bs x)]):=by
   refine qJ (fun x:B=>[.string (bs x)]) 1 (fun _=>rfl) j0 cs.toList hl fun i x hx=> ?_
   obtain⟨p',Cq⟩:=hi i (.lit (.string x)) (by rw[jJ,hx];rfl);rw[py]at Cq;exact BW Tryz.underlying9 Cq
  obtain⟨hc,-⟩:=iY Bm h3;intro j v hv;rw[Nat.zero_add,hc,<-Array.getElem?_toList,zJ];exact hv
 ·exact EA Cr (by rw[many];decide) (g:=3) (t:=3) (zero:= #[.int .i64 0]) (by kernel_rfl) rfl (by kernel_rfl) (by kernel_rfl) Tryz.underlying3
 ·obtain⟨g,t,cs,fuel,p,h1,h2,h3,h4⟩:=mz hV m3;rw[Ij]at h1;cases h1
  rw[TE]at h2;cases h2
  obtain⟨fuel',u,v,zJ,-⟩:=iface_of_trod Tryz.underlying221 h4;obtain⟨hc,-⟩:=iY Ij h3;exact⟨u,v,by rw[hc,<-Array.getElem?_toList,zJ];rfl⟩
 ·obtain⟨g,t,cs,fuel,p,h1,h2,h3,h4⟩:=mz hV m4;rw[Bl]at h1;cases h1
  rw[TD]at h2;cases h2
  obtain⟨fuel',u,v,zJ,-⟩:=iface_of_trod Tryz.underlying221 h4;obtain⟨hc,-⟩:=iY Bl h3;exact⟨u,v,by rw[hc,<-Array.getElem?_toList,zJ];rfl⟩
 ·obtain⟨g,t,cs,fuel,p,h1,h2,h3,h4⟩:=mz hV m4;have:=(iY Bl h3).2;omega
end PrjY
namespace PrjY
open Go Go.RowKit Sq Go.Proofs.YtmlgajhhnojdjaaGreatDoor.Own
theorem TC:(Tryz.prog.globals[4]?).map (·.type)=some 299:=by kernel_rfl
theorem S3 {H:Type}:(Rows.laid_internal_strconv_uint64pow10:DataW H)=Lib.tabData .u64 Lib.pow10Tab:=rfl
theorem NL:Tryz.prog.cellsOf 281=1:=by kernel_rfl
theorem NK:Tryz.prog.cellsOf 299=20:=by kernel_rfl
theorem CZ:Tryz.prog.cellsOf 2=1:=by kernel_rfl
theorem Yl {laid:List (String×DataW Unit)}{W:World}(hL:laidMet Tryz.prog laid W)(m:("internal/strconv.uint64pow10",Rows.laid_internal_strconv_uint64pow10)∈laid):Own.Pow W:=by
 obtain⟨ps,hV,-⟩:=hL;obtain⟨g,t,cs,fuel,p,h1,h2,h3,h4⟩:=mz hV m;rw[S2]at h1;cases h1
 rw[TC]at h2;cases h2
 rw[S3]at h4;have:=Lib.cells_of_tab Tryz.underlying299 Tryz.underlying281 NL NK h4;unfold Own.Pow Lib.TabIs;rw[h3,<-this]
theorem lt_of_cell {W:World}{g o:Nat}{v:Value}(h:W.cell? ⟨g,o,none⟩=some v):g<W.heap.size:=by
 by_cases hg:g<W.heap.size
 ·exact hg
 ·rw[World.cell?]at h;simp only[Array.getElem?_eq_none (Nat.le_of_not_lt hg)]at h;cases h
theorem RY {n:Int}(h:(Lit.int .i64 n).wf=true):aN n:=by
 have e1:IntKind.i64.min= -9223372036854775808:=rfl;have e2:IntKind.i64.max=9223372036854775807:=rfl;unfold aN;simpa [Lit.wf,e1,e2]using h
theorem C6 {H:Type}{enc:TypeId×Value->H}{W:World}{a0:Option Addr}{len cap fuel:Nat}{x:DataW H×List MemPlace}(h:DataW.trod enc Tryz.prog W 0 (fun _=>true) true fuel 42 [.slice a0 len cap]=some x):∃ak,bX W (.slice a0 len cap) ak/\∀n∈ak,aN n:=by
 rcases Go.ChangeShapes.open_ints Tryz.underlying42 Tryz.underlying2 CZ h with⟨h0,-⟩|⟨a,len',cap',zs,h0,-,hl,hm,hzl,-,hx,hwf⟩
 ·simp only[List.cons.injEq,Value.slice.injEq,and_true]at h0;obtain⟨rfl,rfl,rfl⟩:=h0;exact⟨[],⟨none,0,rfl,jC _,jQ _,fun j hj=>absurd hj (Nat.not_lt_zero _)⟩,fun n hn=>by cases hn⟩
 ·simp only[List.cons.injEq,Value.slice.injEq,and_true]at h0;obtain⟨rfl,rfl,rfl⟩:=h0;simp only[if_true]at hzl;have htl:(zs.take len).length=len:=by rw[List.length_take];omega
  refine⟨zs.take len,⟨some a,cap,by rw[htl],by rw[htl];exact hl,hm,fun j hj=> ?_⟩,fun n hn=>RY (hwf n (List.mem_of_mem_take hn))⟩;rw[htl]at hj;obtain⟨b,off,spot⟩:=a;have hc:=hx j (by omega);have hspot:spot=none:=by simpa [Addr.add]using World.cell?_spot (hx 0 (by omega))
  subst hspot;have tj:W.cell? ⟨b,off+j,none⟩=some (.int .i64 (zs.getD j 0)):=by
   by_cases e:j=0
   ·subst e;simpa [Addr.add]using hc
   ·simpa [Addr.add,e]using hc
  refine⟨b,off,rfl,lt_of_cell tj,?_⟩;rw[tj,jA,jA,List.getElem?_take_of_lt hj]
end PrjY
namespace PrjY
open Go Go.RowKit Sq Go.Proofs.YtmlgajhhnojdjaaGreatDoor.Own
theorem CY {H:Type}:∀zs:List Int,Rows.uptoBulkAll (Go.ChangeShapes.lits (H:=H) .i64 zs)=zs.length
 |[]=>by simp[Go.ChangeShapes.lits,Rows.uptoBulkAll]
 |z::zs=>by
  have:=CY (H:=H) zs;simp only[Go.ChangeShapes.lits,List.map_cons,Rows.uptoBulkAll,Rows.uptoBulk,List.length_cons]at this⊢;omega
theorem C5 {H:Type}{enc:TypeId×Value->H}{W:World}{a0:Option Addr}{len cap fuel:Nat}{x:DataW H×List MemPlace}(h:DataW.trod enc Tryz.prog W 0 (fun _=>true) true fuel 42 [.slice a0 len cap]=some x):len<=Rows.uptoBulk x.1:=by
 rcases Go.ChangeShapes.open_ints Tryz.underlying42 Tryz.underlying2 CZ h with⟨h0,-⟩|⟨a,len',cap',zs,h0,-,hl,hm,hzl,rfl,hx,hwf⟩
 ·simp only[List.cons.injEq,Value.slice.injEq,and_true]at h0;omega
 ·simp only[List.cons.injEq,Value.slice.injEq,and_true]at h0;obtain⟨rfl,rfl,rfl⟩:=h0;simp only[if_true]at hzl;have htl:(zs.take len).length=len:=by rw[List.length_take];omega
  simp only[Rows.uptoBulk,CY];omega
end PrjY
namespace PrjZ
open Go Go.RowKit Sq
def vu {H:Type}:Nat->DataW H->List Value
 |0,_=>[]
 |_+1,.lit (.int k n)=>[.int k n]
 |_+1,.lit (.string l)=>[.string (bs l)]
 |n+1,.agg ds=>ds.flatMap (vu n)
 |_+1,_=>[]
def put (g:Nat)(cs:List Value)(h:Array Obj):Array Obj:=h.modify g fun
 | .cells _ t frozen=> .cells cs.toArray t frozen
 |o=>o
noncomputable def low:Nat:=(World.holding Tryz.prog default ⟨#[],#[],[]⟩).heap.size
noncomputable def xZ (os:Os):World:=
 let w0:=World.holding Tryz.prog os ⟨#[.cells #[.string (bs [118,97,108,117,101,32,111,117,116,32,111,102,32,114,97,110,103,101])] 327,.cells #[.string (bs [105,110,118,97,108,105,100,32,115,121,110,116,97,120])] 327],#[],[]⟩
 {w0 with heap:=put 0 (vu 8 (Rows.laid_stow_prog_shapes (H:=Unit))) (put 1 (vu 8 (Rows.laid_stow_prog_typeWords (H:=Unit))) (put 2 (vu 8 (Rows.laid_stow_prog_suffixes (H:=Unit)))
   (put 4 (vu 8 (Rows.laid_internal_strconv_uint64pow10 (H:=Unit))) (put 5 (vu 8 Rows.laid_unicode_utf8_first) (put 6 (vu 8 (Rows.laid_unicode_utf8_acceptRanges (H:=Unit)))
   (put 7 (vu 8 (Rows.laid_math_bits_deBruijn32tab (H:=Unit))) (put 8 (vu 8 (Rows.laid_math_bits_deBruijn64tab (H:=Unit)))
   (put 10 [.iface 325 (.pointer (some ⟨low,0,none⟩))] (put 9 [.iface 325 (.pointer (some ⟨low+1,0,none⟩))] w0.heap)))))))))}
theorem R6 (os:Os)(args:Array Value):laidMet Tryz.prog Rows.lookedUptoRow.laid ((xZ os).forCall (fun _ _=>0) ⟨#[],args,[]⟩).memory:=
 laidMet_of_run' 8 (by kernel_rfl) (by kernel_rfl)
end PrjZ
end Go.Proofs.YtmlgajhhnojdjaaGreatDoor

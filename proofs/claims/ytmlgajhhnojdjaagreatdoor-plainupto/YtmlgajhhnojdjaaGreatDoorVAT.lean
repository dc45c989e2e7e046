import Derived.Test.YtmlgajhhnojdjaaGreatDoorVAS
import Derived.Maps.RangeWalk
namespace Go.Proofs.YtmlgajhhnojdjaaGreatDoor
namespace FlwI
open Go Go.RowKit Sq Aux PrjJ PrjK FlwB FlwF
theorem mapM_some {α β:Type}(f:α->Option β)(g:α->β):∀l:List α,(∀a∈l,f a=some (g a))->l.mapM f=some (l.map g)
 |[],_=>rfl
 |a::l,h=>by
  rw[List.mapM_cons,h a (jM ..),mapM_some f g l (fun x hx=>h x (jN _ hx))];rfl
theorem qO:Tryz.prog.cellsOf 209=24:=by kernel_rfl
theorem Ey:Tryz.prog.cellsOf 207=1:=by kernel_rfl
theorem Fh:Tryz.prog.keyTypeAt 3 209=true:=by kernel_rfl
theorem oA (s:List Nat):(List.range s.length).map (fun i=>s.getD i 0)=s:=by
 apply List.ext_getElem?
 intro i;rw[jJ];by_cases hi:i<s.length
 ·rw[List.getElem?_range hi];simp[hi]
 ·rw[jG (by simp;omega),jG (by omega)];rfl
theorem td (s:List Nat)(hl:s.length=24)(hv:∀k,s.getD k 0<16):Tryz.prog.keyLits 2 209 (ag s)=some (s.map fun n=>Lit.int .u8 (n:Nat)):=by
 have hf:∀i∈List.range 24,Tryz.prog.keyLits 1 207 (((ag s).drop (i*1)).take 1)=some [Lit.int .u8 ((s.getD i 0:Nat):Int)]:=by
  intro i hi;have NU:i<s.length:=by rw[hl];simpa using hi
  have hc:((ag s).drop (i*1)).take 1=[.int .u8 ((s.getD i 0:Nat):Int)]:=by
   rw[Nat.mul_one,jE (by rw[cv];exact NU)];simp[ag,NU]
  have hw:(Lit.int .u8 ((s.getD i 0:Nat):Int)).wf=true:=by
   have:=hv i;generalize s.getD i 0=n at*;have:∀n:Nat,n<16->(Lit.int .u8 (n:Int)).wf=true:=by decide
   exact this n (by assumption)
  rw[hc];simp only[Program.keyLits,Tryz.underlying207];rw[jb ⟨trivial,hw⟩]
 unfold Program.keyLits;simp only[Tryz.underlying209,qO,Ey];rw[jb (by rw[cv];exact hl),mapM_some _ _ _ hf];simp only[Option.map_some,Option.some.injEq];have e:((List.range 24).map fun i=>[Lit.int .u8 ((s.getD i 0:Nat):Int)]).flatten=((List.range s.length).map fun i=>s.getD i 0).map fun n=>Lit.int .u8 ((n:Nat):Int):=by
  rw[hl,List.map_map];induction List.range 24 with
  |nil=>rfl
  |cons a r ih=>simpa using ih
 rw[e,oA]
set_option maxRecDepth 20000 in
theorem Bv (s t:List Nat)(w:World)(hs:s.length=24)(ht:t.length=24)(hv:∀k,s.getD k 0<16)(hu:∀k,t.getD k 0<16):
  (Op.equalIn 10000 209 (.agg (ag s).toArray) (.agg (ag t).toArray)).run Tryz.prog w=.ok (s==t) w:=by
 have My:∀s:List Nat,s.length=24->(Value.agg (ag s).toArray).formed Tryz.prog 209=true:=fun s hs=>by
  simp only[Value.formed,Tryz.underlying209,qO];simp[cv,hs]
 obtain⟨r,hr,Ue⟩:=run_equalIn_deep 9997 3 209 Fh w 2 2 (.agg (ag s).toArray) (.agg (ag t).toArray) _ _ (My s hs) (My t ht) (by simpa [Value.cells]using td s hs hv) (by simpa [Value.cells]using td t ht hu);rw[hr];congr 1;rw[jX,Ue,beq_iff_eq];constructor
 ·intro h;refine(List.map_inj_right (fun a b e=> ?_)).1 h;simp only[Lit.int.injEq,true_and]at e;omega
 ·intro h;rw[h]
attribute [local go_sem ↓] bY bJ
theorem vU (k:Nat)(hk:k<24):(List.replicate k 1++List.replicate (24-k) 0).set k 1=(List.replicate (k+1) 1++List.replicate (24-(k+1)) 0:List Nat):=by
 rw[List.set_append_right _ _ (by simp),List.length_replicate,Nat.sub_self,show 24-k=(24-(k+1))+1 by omega,List.replicate_succ,List.set_cons_zero,List.replicate_succ',List.append_assoc];rfl
def aA:List Nat:=List.replicate 24 1
set_option maxRecDepth 20000 in
set_option maxHeartbeats 1000000 in
theorem Gr (w:World):Calls Tryz.prog 188 #[] w fun e w'=>e=.returned (.agg (ag aA).toArray)/\Below w.heap.size w w':=by
 have aB:Below w.heap.size w (w.alloc (.cells (ag ak).toArray 209)):=(Below.refl _ _).alloc (jC _) _;have bu:=aB.alloc aB.size (.cells (ag ak).toArray 209);have hA:aj ((w.alloc (.cells (ag ak).toArray 209)).alloc (.cells (ag ak).toArray 209)) w.heap.size ak:=(aj.new w (s:=ak) (by decide)).below ((Below.refl _ _).alloc (jC _) _) (by simp);have hB:aj ((w.alloc (.cells (ag ak).toArray 209)).alloc (.cells (ag ak).toArray 209)) (w.heap.size+1) (List.replicate 0 1++List.replicate (24-0) 0):=by
  rw[show w.heap.size+1=(w.alloc (.cells (ag ak).toArray 209)).heap.size by simp];exact aj.new _ (s:=ak) (by decide)
 have hz:(ag ak).toArray= #[.int .u8 0,.int .u8 0,.int .u8 0,.int .u8 0,.int .u8 0,.int .u8 0,.int .u8 0,.int .u8 0,.int .u8 0,.int .u8 0,.int .u8 0,.int .u8 0,.int .u8 0,.int .u8 0,.int .u8 0,.int .u8 0,.int .u8 0,.int .u8 0,.int .u8 0,.int .u8 0,.int .u8 0,.int .u8 0,.int .u8 0,.int .u8 0]:=rfl;rw[hz]at hA hB bu;clear aB hz;go_enter Tryz.func188,Tryz.ntmps188
 go_wp2
 go_loopg [3] (24) (fun g v3 wr=>∃k:Nat,k<=24/\g+k=24/\v3=.int .i64 k/\aj wr w.heap.size ak/\aj wr (w.heap.size+1) (List.replicate k 1++List.replicate (24-k) 0)/\Below w.heap.size w wr)
 case atStart=>exact⟨0,by omega,rfl,rfl,hA,hB,bu⟩
 case round=>
  obtain⟨k,hk,yp,rfl,Sd,Se,yl⟩:=hrel;clear hA hB bu;by_cases aP:k<24
  ·have c1:=Se.cell k aP;have c2:=Se.frozen k;have EX:(k:Int)<24:=by omega
   have Fa:=Se.set k 1;rw[vU k aP]at Fa;have sQ:aj (wr.setCell ⟨w.heap.size+1,k,none⟩ (.int .u8 (1:Nat))) w.heap.size ak:=⟨Sd.1,by rw[Below.heap_setCell _ _ _ _ (by show w.heap.size≠w.heap.size+1;omega)];exact Sd.2⟩;have dp:Below w.heap.size w (wr.setCell ⟨w.heap.size+1,k,none⟩ (.int .u8 (1:Nat))):=yl.trans (((aW.refl (w.heap.size+1) wr).setCell k _).below (by omega) yl.size);go_wp2
   go_roundg (24-(k+1))
   case measure=>omega
   case rel=>exact⟨k+1,by omega,by omega,by go_num,sQ,Fa,dp⟩
  ·obtain rfl:k=24:=by omega
   have iA:aj wr (w.heap.size+1) aA:=Se;have h1:=aj.has iA;have h2:=aj.of iA;have h3:=aj.room Sd;have h4:=fu (s:=aA) (by decide);have kD:=aj.store Sd (t:=aA) (by decide);have Pa:Below w.heap.size w (wr.setCells w.heap.size 0 (ag aA)):=aU yl (jC _) _ _;go_wp2
   refine bodyPost_ret (cK Tryz.results188 _ _ _ w.heap.size (ag aA) _ rfl (aj.range kD) Tryz.underlying209 rfl (oI (by decide))) rfl ?_;exact⟨rfl,Pa⟩
theorem mL (k:Nat):ak.getD k 0<16:=by
 unfold ak;rw[jA,jO];split<;>simp
set_option maxRecDepth 20000 in
theorem q5 (b:Nat)(s:List Nat)(w:World)(hs:aj w b s)(hv:∀k,s.getD k 0<16):Calls Tryz.prog 129 #[.pointer (some ⟨b,0,none⟩)] w fun e w'=>e=.returned (.bool (!(s==ak)))/\w'=w:=by
 have h1:=aj.has hs;have h2:=aj.of hs;have he:=fun w'=>Bv s ak w' hs.1 (by decide) hv mL
 have hz:(ag ak).toArray= #[.int .u8 0,.int .u8 0,.int .u8 0,.int .u8 0,.int .u8 0,.int .u8 0,.int .u8 0,.int .u8 0,.int .u8 0,.int .u8 0,.int .u8 0,.int .u8 0,.int .u8 0,.int .u8 0,.int .u8 0,.int .u8 0,.int .u8 0,.int .u8 0,.int .u8 0,.int .u8 0,.int .u8 0,.int .u8 0,.int .u8 0,.int .u8 0]:=rfl;rw[hz]at he;generalize (s==ak)=r at*;go_enter Tryz.func129,Tryz.ntmps129
 go_wp2
 go_ret
 exact⟨rfl,rfl⟩
end FlwI
namespace FlwJ
open Go Go.RowKit Sq Aux PrjF PrjG PrjJ PrjK PrjL PrjM PrjO FlwB FlwE FlwF
structure bI (x y:Nat)(w w':World):Prop where
 os:w'.os=w.os
 tape:w'.tape=w.tape
 output:w'.output=w.output
 size:w.heap.size<=w'.heap.size
 block:∀k,k<w.heap.size->k≠x->k≠y->w'.heap[k]?=w.heap[k]?
section
variable {x y b B:Nat} {w w1 w2:World}
theorem bI.refl (x y:Nat)(w:World):bI x y w w:=⟨rfl,rfl,rfl,jC _,fun _ _ _ _=>rfl⟩
theorem bI.trans (h:bI x y w w1)(h':bI x y w1 w2):bI x y w w2:=
 ⟨h'.os.trans h.os,h'.tape.trans h.tape,h'.output.trans h.output,jS h.size h'.size,fun k hk h1 h2=>(h'.block k (jK hk h.size) h1 h2).trans (h.block k hk h1 h2)⟩
theorem bI.mH (h:Below w.heap.size w w1):bI x y w w1:=⟨h.os,h.tape,h.output,h.size,fun k hk _ _=>h.block k hk⟩
theorem bI.on (h:bI x y w w1)(h':Below w1.heap.size w1 w2):bI x y w w2:=h.trans (.mH h')
theorem bI.left (h:aW x w w1):bI x y w w1:=⟨h.os,h.tape,h.output,h.size,fun k hk h1 _=>h.block k hk h1⟩
theorem bI.right (h:w.grownBy w1 (some y)):bI x y w w1:=⟨h.os,h.tape,h.output,h.size,fun k hk _ h2=>h.block k hk (by simpa using h2)⟩
theorem bI.since (h:bI x y w w1)(h':aW b w1 w2)(hb:w.heap.size<=b):bI x y w w2:=
 ⟨h'.os.trans h.os,h'.tape.trans h.tape,h'.output.trans h.output,jS h.size h'.size,fun k hk h1 h2=>(h'.block k (jK hk h.size) (by omega)).trans (h.block k hk h1 h2)⟩
theorem bI.below (h:bI x y w w1)(hx:B<=x)(hy:B<=y)(hB:B<=w.heap.size):Below B w w1:=⟨h.os,h.tape,h.output,h.size,fun k hk=>h.block k (by omega) (by omega) (by omega)⟩
end
def bH (O:Nat->Bool)(b:Nat)(v:Bool):Nat->Bool:=fun c=>if c=b then v else O c
def eJ (O:Nat->Bool):Nat->Nat
 |0=>0
 |n+1=>eJ O n+(if O n=true then 1 else 0)
theorem DG (O:Nat->Bool):∀n,eJ O n<=n
 |0=>jC _
 |n+1=>by have:=DG O n;unfold eJ;split<;>omega
theorem sv {O O':Nat->Bool}:∀n,(∀b,b<n->O b=O' b)->eJ O n=eJ O' n
 |0,_=>rfl
 |n+1,h=>by unfold eJ;rw[sv n (fun b hb=>h b (by omega)),h n (by omega)]
theorem qb {O:Nat->Bool}:∀n,eJ O n=0->∀b,b<n->O b=false
 |0,_,b,hb=>by omega
 |n+1,h,b,hb=>by
  unfold eJ at h;by_cases hn:O n=true
  ·rw[jb hn]at h;omega
  ·rw[ja hn]at h;by_cases e:b=n
   ·subst e;simpa using hn
   ·exact qb n (by omega) b (by omega)
theorem fH {O:Nat->Bool}:∀n,(∀b,b<n->O b=false)->eJ O n=0
 |0,_=>rfl
 |n+1,h=>by unfold eJ;rw[fH n (fun b hb=>h b (by omega)),h n (by omega)];rfl
theorem pg {O:Nat->Bool}{b:Nat}(h0:O b=false):∀n,b<n->eJ (bH O b true) n=eJ O n+1
 |0,h=>by omega
 |n+1,h=>by
  unfold eJ;by_cases e:b=n
  ·subst e;rw[sv b (O':=O) (fun c hc=>by unfold bH;rw[ja (by omega)]),h0];simp[bH]
  ·rw[pg h0 n (by omega)];have:bH O b true n=O n:=by unfold bH;rw[ja (by omega)]
   rw[this];omega
theorem qz {O:Nat->Bool}{b:Nat}{v:Bool}(h:O b=v):bH O b v=O:=by
 funext c;unfold bH;split
 ·rename_i e;rw[e,h]
 ·rfl
theorem sw {O:Nat->Bool}{b:Nat}(h1:O b=true)(n:Nat)(hb:b<n):eJ (bH O b false) n+1=eJ O n:=by
 have e:bH (bH O b false) b true=O:=by
  funext c;unfold bH;split
  ·rename_i e;rw[e,h1]
  ·rfl
 rw[<-pg (O:=bH O b false) (by simp[bH]) n hb,e]
def eZ (b:Nat):Lit:=.int .i64 (b:Nat)
theorem pA {a b:Nat}(h:eZ a=eZ b):a=b:=by simp only[eZ,Lit.int.injEq,true_and]at h;omega
theorem Lw {b:Nat}(h:b<=100000):(eZ b).wf=true:=WalkArith.wf_i64 (by omega)
theorem Fj:Maps.Keyed Tryz.prog 3:=Maps.int_keyed Tryz.underlying3
theorem D4 {b:Nat}(h:b<=100000):keyOf Tryz.prog 3 (.int .i64 (b:Nat))=some (eZ b):=Maps.keyOf_int_mk Tryz.underlying3 (Lw h)
def bQ (w:World)(mb N:Nat)(O:Nat->Bool):Prop:=
 ∃D:DataW Unit,w.ownsMap Tryz.prog 3 unitElem mb N D/\(∀b,O b=true->b<N)/\(∀kl,Maps.has D kl=true↔∃b,kl=eZ b/\O b=true)/\Maps.size D=eJ O N
section
variable {w w':World} {mb N:Nat} {O:Nat->Bool}
theorem FR {P:Program}{k:TypeId}{R:Value->Option (DataW Unit×List MemPlace)}{n m:Nat}{D:DataW Unit}(h:w.ownsMap P k R mb n D)(hm:Maps.size D<=m):w.ownsMap P k R mb m D:=by
 obtain⟨es,clock,h1,h2,h3,rfl⟩:=h;refine⟨es,clock,h1,h2,?_,rfl⟩;rw[Maps.size_eq,length_read]at hm;exact hm
theorem bQ.lt (h:bQ w mb N O):mb<w.heap.size:=by obtain⟨D,h,-⟩:=h;exact h.lt
theorem bQ.isMap (h:bQ w mb N O):∃es clock,w.heap[mb]?=some (.map es clock):=by obtain⟨D,⟨es,clock,h,-⟩,-⟩:=h;exact⟨es,clock,h⟩
theorem bQ.heap (h:bQ w mb N O)(he:w'.heap[mb]?=w.heap[mb]?):bQ w' mb N O:=by
 obtain⟨D,⟨es,clock,hb,r⟩,h'⟩:=h;exact⟨D,⟨es,clock,he.trans hb,r⟩,h'⟩
theorem bQ.below (h:bQ w mb N O)(hb:Below w.heap.size w w'):bQ w' mb N O:=h.heap (hb.block mb h.lt)
theorem bQ.bound (h:bQ w mb N O){b:Nat}(hb:O b=true):b<N:=by obtain⟨D,-,h,-⟩:=h;exact h b hb
theorem bQ.made (w:World)(N:Nat):bQ (w.alloc (.map #[] 0)) w.heap.size N (fun _=>false):=
 ⟨.map [],(World.ownsMap_made w _ _ _).mono (jQ _),fun _ h=>(by cases h),fun kl=>⟨fun h=>(by cases h),fun⟨_,_,h⟩=>(by cases h)⟩,(fH N fun _ _=>rfl).symm⟩
theorem IZ {D:DataW Unit}{b:Nat}(hO:∀b,O b=true->b<N)(hD:w.ownsMap Tryz.prog 3 unitElem mb N D)(hh:∀kl,Maps.has D kl=true↔∃b,kl=eZ b/\O b=true)(hs:Maps.size D=eJ O N)
  (hb:b<N) (h:w'.ownsMap Tryz.prog 3 unitElem mb (N+1) (D.put (eZ b) (.agg []))):bQ w' mb N (bH O b true):=by
 have EW:WideAt.IsKeyLit (eZ b):=trivial;have Ub:∀kl,Maps.has (D.put (eZ b) (.agg [])) kl=true↔∃c,kl=eZ c/\bH O b true c=true:=by
  intro kl;by_cases e:kl=eZ b
  ·subst e;rw[Maps.has_put_same hD.isMap EW];exact⟨fun _=>⟨b,rfl,by simp[bH]⟩,fun _=>rfl⟩
  ·rw[Maps.has_put_other e,hh];constructor
   ·rintro⟨c,rfl,hc⟩;exact⟨c,rfl,by unfold bH;split<;>simp[hc]⟩
   ·rintro⟨c,rfl,hc⟩;refine⟨c,rfl,?_⟩;unfold bH at hc;rw[ja (fun x=>e (by rw[x]))]at hc;exact hc
 have gP:Maps.size (D.put (eZ b) (.agg []))=eJ (bH O b true) N:=by
  rw[Maps.size_put (hD.tidy Fj)];cases mV:O b with
  |true=>
   rw[jb ((hh _).2 ⟨b,rfl,mV⟩),qz mV,hs]
  |false=>
   rw[ja (fun x=>by obtain⟨c,hc,p6⟩:=(hh _).1 x;rw[<-pA hc,mV]at p6;cases p6),pg mV N hb,hs]
 refine⟨_,FR h (by rw[gP];exact DG _ _),fun c hc=> ?_,Ub,gP⟩;unfold bH at hc;split at hc
 ·omega
 ·exact hO c hc
theorem IY {D:DataW Unit}{b:Nat}(hO:∀b,O b=true->b<N)(hD:w.ownsMap Tryz.prog 3 unitElem mb N D)(hh:∀kl,Maps.has D kl=true↔∃b,kl=eZ b/\O b=true)(hs:Maps.size D=eJ O N)
  (h:w'.ownsMap Tryz.prog 3 unitElem mb N (D.del (eZ b))):bQ w' mb N (bH O b false):=by
 have Ub:∀kl,Maps.has (D.del (eZ b)) kl=true↔∃c,kl=eZ c/\bH O b false c=true:=by
  intro kl;by_cases e:kl=eZ b
  ·subst e;rw[Maps.has_del_same];refine⟨fun h=>(by cases h),fun⟨c,hc,p6⟩=> ?_⟩;rw[<-pA hc]at p6;simp[bH]at p6
  ·rw[Maps.has_del_other e,hh];constructor
   ·rintro⟨c,rfl,hc⟩;exact⟨c,rfl,by unfold bH;rw[ja (fun x=>e (by rw[x]))];exact hc⟩
   ·rintro⟨c,rfl,hc⟩;refine⟨c,rfl,?_⟩;unfold bH at hc;rw[ja (fun x=>e (by rw[x]))]at hc;exact hc
 refine⟨_,h,fun c hc=> ?_,Ub,?_⟩
 ·unfold bH at hc;split at hc
  ·cases hc
  ·exact hO c hc
 ·have:=Maps.size_del (k:=eZ b) (hD.tidy Fj);cases mV:O b with
  |true=>
   rw[jb ((hh _).2 ⟨b,rfl,mV⟩),hs]at this;have:=sw mV N (hO b mV);omega
  |false=>
   rw[ja (fun x=>by obtain⟨c,hc,p6⟩:=(hh _).1 x;rw[<-pA hc,mV]at p6;cases p6),hs]at this;rw[qz mV];exact this
end
section
variable (w:World) {ops:Array Oper} {rest:List Oper} {o:Oper} {a:Act} {Q:Exit->Act->World->Prop} {mb N:Nat} {O:Nat->Bool}
theorem ll (hg:o.guard=none)(m x v:Operand)(aH:o.op=Op.mapUpdate 163 m x v)(b:Nat)(hm:a.eval m=.map (some mb))(hx:a.eval x=.int .i64 (b:Nat))(hv:a.eval v=.agg #[])
  (h:bQ w mb N O) (hb:b<N) (hN:N<=4000) (hK:∀w',bQ w' mb N (bH O b true)->w.grownBy w' (some mb)->wpList Tryz.prog ops Q rest (a.put o.dst undef) w'):wpList Tryz.prog ops Q (o::rest) a w:=by
 obtain⟨D,hD,hO,hh,hs⟩:=h;exact wpList_mapUpdate_own w hg m x v _ aH _ _ Fj Tryz.underlying163 unitElem mb N D hm hD (by unfold maxLen;omega) _ _ (eZ b) hx hv (D4 (by omega)) (.agg []) [] unitElem_mk
  fun w' h1 h2=>hK w' (IZ hO hD hh hs hb h1) h2
theorem rR (hg:o.guard=none)(m x:Operand)(aH:o.op=Op.call {callee:=Callee.builtin Builtin.delete,args:= #[m,x],argTypes:= #[163,3]})(b:Nat)(hm:a.eval m=.map (some mb))(hx:a.eval x=.int .i64 (b:Nat))
  (h:bQ w mb N O) (hb:b<=100000) (hK:∀w',bQ w' mb N (bH O b false)->w.grownBy w' (some mb)->wpList Tryz.prog ops Q rest (a.put o.dst (.tuple #[])) w'):wpList Tryz.prog ops Q (o::rest) a w:=by
 obtain⟨D,hD,hO,hh,hs⟩:=h;exact wpList_delete_own w hg m x _ _ aH _ Fj Tryz.underlying163 unitElem mb N D hm hD _ (eZ b) hx (D4 hb) fun w' h1 h2=>hK w' (IY hO hD hh hs h1) h2.grown
theorem eR (hg:o.guard=none)(m:Operand)(aH:o.op=Op.call {callee:=Callee.builtin Builtin.len,args:= #[m],argTypes:= #[163]})(hm:a.eval m=.map (some mb))(h:bQ w mb N O)
  (hK:wpList Tryz.prog ops Q rest (a.put o.dst (.int .i64 (eJ O N:Nat))) w):wpList Tryz.prog ops Q (o::rest) a w:=by
 obtain⟨D,hD,hO,hh,hs⟩:=h;refine wpList_len_own w hg m _ aH _ _ Tryz.underlying163 unitElem mb N D hm hD ?_;rw[hs];exact hK
end
theorem Gl {w:World}{mb N:Nat}{O:Nat->Bool}(h:bQ w mb N O):∃w',(∀ty,(Builtin.clear_ #[163] ty #[.map (some mb)]).run Tryz.prog w=.ok (.tuple #[]) w')/\bQ w' mb N (fun _=>false)/\w.grownBy w' (some mb):=by
 obtain⟨es,clock,hb⟩:=h.isMap;have Ag:∀ty,(Builtin.clear_ #[163] ty #[.map (some mb)]).run Tryz.prog w=.ok (.tuple #[]) (ChangeMaps.setBlock w mb (.map #[] clock)):=fun ty=>by
  simp[Builtin.clear_,run_underlying Tryz.underlying163,MapKept.run_getObj_map hb,MapKept.run_setObj_map _ hb,Result.andThen,ChangeMaps.setBlock]
 refine⟨_,Ag,⟨.map [],⟨#[],clock,ChangeMaps.heap_setBlock_same hb _,⟨by simp,MapKept.stamped_empty clock,by simp⟩,jQ _,rfl⟩,fun _ h=>(by cases h),fun kl=>⟨fun h=>(by cases h),fun⟨_,_,h⟩=>(by cases h)⟩,(fH N fun _ _=>rfl).symm⟩,⟨rfl,rfl,rfl,by simp[ChangeMaps.setBlock],fun i _ hi=>ChangeMaps.heap_setBlock_other hb _ (fun e=>hi (by rw[e]))⟩⟩
structure dn (s:List Nat):Prop where
 len:s.length=24
 lt:∀k,s.getD k 0<16
def cL (w:World)(g:Nat)(E:List (List Nat)):Prop:=
 (∀s∈E,dn s)/\∃cs,w.heap[g]?=some (.cells cs 209 (0,0))/\cs.size=24*E.length/\∀i j,i<E.length->j<24->cs[i*24+j]?=some (.int .u8 ((E.getD i []).getD j 0:Nat))
theorem DL {E:List (List Nat)}{i:Nat}(h:i<E.length):E.getD i []∈E:=by
 rw[jA,jB h];exact jL h
theorem zX (E:List (List Nat))(i:Nat)(t:List Nat)(hi:i<E.length)(a:Nat):(E.set i t).getD a []=if a=i then t else E.getD a []:=by
 simp only[List.getD_eq_getElem?_getD,List.getElem?_set];by_cases h:a=i
 ·subst h;simp[hi]
 ·rw[ja (fun e=>h e.symm),ja h]
section
variable {w w':World} {g:Nat} {E:List (List Nat)}
theorem cL.lt (h:cL w g E):g<w.heap.size:=by obtain⟨-,cs,h,-⟩:=h;exact lt_of_heap h
theorem cL.ok (h:cL w g E){i:Nat}(hi:i<E.length):dn (E.getD i []):=h.1 _ (DL hi)
theorem cL.heap (h:cL w g E)(he:w'.heap[g]?=w.heap[g]?):cL w' g E:=by
 obtain⟨h0,cs,h,r⟩:=h;exact⟨h0,cs,he.trans h,r⟩
theorem cL.range (h:cL w g E)(i:Nat)(hi:i<E.length):w.rangeAt g (i*24) (ag (E.getD i [])):=fun j v hv=>by
 have hl:=(h.ok hi).len;obtain⟨-,cs,h,-,h'⟩:=h;have hj:j<24:=by have:=(List.getElem?_eq_some_iff.mp hv).1;rw[cv,hl]at this;exact this
 rw[cell_of_heap h,h' i j hi hj,<-hv];have:j<(E.getD i []).length:=by rw[hl];exact hj
 generalize E.getD i []=s at*;simp[ag,this]
theorem cL.has (h:cL w g E)(i:Nat)(hi:i<E.length):fa w g (i*24):=⟨_,(h.ok hi).len,h.range i hi⟩
theorem cL.of (h:cL w g E)(i:Nat)(hi:i<E.length):kg w g (i*24)=(ag (E.getD i [])).toArray:=y4 (h.ok hi).len (h.range i hi)
theorem cL.room (h:cL w g E)(i:Nat)(hi:i<E.length):fE w g (i*24):=fun j hj=>by
 obtain⟨-,cs,h,hs,h'⟩:=h;rw[cell_of_heap h,frozen_of_heap h,h' i j hi hj];exact⟨rfl,rfl⟩
theorem cL.store (h:cL w g E)(i:Nat)(hi:i<E.length){t:List Nat}(ht:dn t):cL (w.setCells g (i*24) (ag t)) g (E.set i t):=by
 obtain⟨h0,cs,h,hs,h'⟩:=h;obtain⟨cs',h1,h2,h3⟩:=eK g (ag t) (i*24) w _ _ _ h;have hl:(ag t).length=24:=by rw[cv];exact ht.len
 refine⟨fun s hs=> ?_,cs',h1,by rw[h2,hs];simp,fun a j ha hj=> ?_⟩
 ·rcases List.mem_or_eq_of_mem_set hs with h|h
  ·exact h0 s h
  ·rw[h];exact ht
 rw[List.length_set]at ha;rw[h3,zX E i t hi,hl];by_cases hai:a=i
 ·subst hai;have:j<t.length:=by rw[ht.len];exact hj
  rw[jb (by omega),jb rfl,show a*24+j-a*24=j by omega];simp[ag,this]
 ·rw[ja (by omega),ja hai];exact h' a j ha hj
end
theorem AB {z a:Nat}{w w':World}{q:QP}{vl vb:Value}{us:List Value}{vss:List (List (Value×Value))}(h:fe z a w q vl vb us vss)
  (key:∀(g:Nat) (cs:Array Value) (e:TypeId) (f:Nat×Nat),w.heap[g]?=some (.cells cs e f)->e≠209->w'.heap[g]?=w.heap[g]?):fe z a w' q vl vb us vss:=by
 have kr:∀{e:TypeId} {s:Nat} {v:Value} {n:Nat} {xs:List Value},e≠209->w.ownsRow z e s v n xs->w'.ownsRow z e s v n xs:=fun{e s v n xs} he hv=>
  dH hv fun g hg=>by
   rcases hv.2 with⟨e',-⟩|⟨g',cap,cur,e',-,Ck,-⟩
   ·rw[e']at hg;cases hg
   ·rw[e']at hg;simp only[Value.ownBlock,Option.some.injEq]at hg;subst hg;exact key _ _ _ _ Ck he
 exact⟨h.base,(key _ _ _ _ h.aD (by decide)).trans h.aD,kr (by decide) h.locals,kr (by decide) h.blocks,
  fun j hj=>(h.each j hj).bE (kr (by decide) (h.each j hj).row) (fun he hv=>kr (by rcases he with rfl|rfl<;>decide) hv),h.apart⟩
structure fZ (z x a ap mb:Nat)(w:World)(q:QP)(vl vb:Value)(us:List Value)(vss:List (List (Value×Value)))(E:List (List Nat))(O:Nat->Bool):Prop where
 aD:w.heap[x]?=some (.cells #[.pointer (some ⟨a,0,none⟩),.slice (some ⟨ap,0,none⟩) q.blocks.length q.blocks.length,.map (some mb)] 165 (0,0))
 prog:fe z a w q vl vb us vss
 len:E.length=q.blocks.length
 row:cL w ap E
 kp:bQ w mb q.blocks.length O
section
variable {z x a ap mb:Nat} {w w':World} {q:QP} {vl vb:Value} {us:List Value} {vss:List (List (Value×Value))} {E E':List (List Nat)} {O O':Nat->Bool}
theorem fZ.lt (h:fZ z x a ap mb w q vl vb us vss E O):x<w.heap.size:=lt_of_heap h.aD
theorem fZ.facts (h:fZ z x a ap mb w q vl vb us vss E O):w.cell? ⟨x,0,none⟩=some (.pointer (some ⟨a,0,none⟩))/\w.cell? ⟨x,1,none⟩=some (.slice (some ⟨ap,0,none⟩) q.blocks.length q.blocks.length)/\w.cell? ⟨x,2,none⟩=some (.map (some mb)):=
 ⟨(cell_of_heap h.aD 0).trans rfl,(cell_of_heap h.aD 1).trans rfl,(cell_of_heap h.aD 2).trans rfl⟩
theorem fZ.iF (h:fZ z x a ap mb w q vl vb us vss E O)(hT:bI ap mb w w')(hl:E'.length=E.length)(hr:cL w' ap E')(ho:bQ w' mb q.blocks.length O'):fZ z x a ap mb w' q vl vb us vss E' O':=by
 have key:∀(g:Nat) (cs:Array Value) (e:TypeId) (f:Nat×Nat),w.heap[g]?=some (.cells cs e f)->e≠209->w'.heap[g]?=w.heap[g]?:=fun g cs e f hg he=>by
  refine hT.block g (lt_of_heap hg) (fun e1=> ?_) (fun e1=> ?_)
  ·obtain⟨-,cs',h',-⟩:=h.row;rw[e1,h']at hg;simp only[Option.some.injEq,Obj.cells.injEq]at hg;exact he hg.2.1.symm
  ·obtain⟨es,clock,h'⟩:=h.kp.isMap;rw[e1,h']at hg;cases hg
 exact⟨(key _ _ _ _ h.aD (by decide)).trans h.aD,AB h.prog key,by rw[hl];exact h.len,hr,ho⟩
theorem fZ.below (h:fZ z x a ap mb w q vl vb us vss E O)(hb:Below w.heap.size w w'):fZ z x a ap mb w' q vl vb us vss E O:=
 h.iF (.mH hb) rfl (h.row.heap (hb.block ap h.row.lt)) (h.kp.below hb)
theorem fZ.other {b:Nat}(h:fZ z x a ap mb w q vl vb us vss E O)(hT:aW b w w'){s:List Nat}(hs:aj w b s)(hba:b≠ap):fZ z x a ap mb w' q vl vb us vss E O:=by
 have Sr:b≠mb:=fun e=>by
  obtain⟨es,clock,h'⟩:=h.kp.isMap;have:=hs.2;rw[e,h']at this;cases this
 have key:∀(g:Nat) (cs:Array Value) (e:TypeId) (f:Nat×Nat),w.heap[g]?=some (.cells cs e f)->e≠209->w'.heap[g]?=w.heap[g]?:=fun g cs e f hg he=>hT.block g (lt_of_heap hg) (fun e1=>by
  rw[e1,hs.2]at hg;simp only[Option.some.injEq,Obj.cells.injEq]at hg;exact he hg.2.1.symm)
 exact⟨(key _ _ _ _ h.aD (by decide)).trans h.aD,AB h.prog key,h.len,h.row.heap (hT.block ap h.row.lt (fun e=>hba e.symm)),h.kp.heap (hT.block mb h.kp.lt (fun e=>Sr e.symm))⟩
end
end FlwJ
end Go.Proofs.YtmlgajhhnojdjaaGreatDoor

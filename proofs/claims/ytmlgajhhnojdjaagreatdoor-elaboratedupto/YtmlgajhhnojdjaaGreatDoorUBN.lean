import Derived.Test.YtmlgajhhnojdjaaGreatDoorUBF
namespace Go.Proofs.YtmlgajhhnojdjaaGreatDoor
namespace Ex
open Go Go.RowKit Sq Aux PrjJ PrjK PrjL PrjM FlwA FlwB Go.Proofs.YtmlgajhhnojdjaaGreatDoor.Own
def bF (u v:Value):List Value:=[.slice none 0 0,.int .i64 0,.slice none 0 0,u,v]++(dh (List.replicate 36 (false,0))++kI (List.replicate 50 false))
theorem Af (p ad:Option Addr)(l c:Nat)(w:World):(Instr.build 136 #[(1,.pointer p),(2,.slice ad l c)]).run Tryz.prog w=.ok (.agg (bF (.pointer p) (.slice ad l c)).toArray) w:=by
 kernel_rfl
theorem Ae (w:World):(Instr.alloc 136 true (.tuple #[])).run Tryz.prog w=.ok (.pointer (some ⟨w.heap.size,0,none⟩)) (w.alloc (.cells (bF (.pointer none) (.slice none 0 0)).toArray 136)):=by
 kernel_rfl
set_option maxRecDepth 20000 in
theorem ph (u v:Value):(bF u v).length=127:=rfl
theorem Mc:(Tryz.prog.info? 136).map (·.size)=some 127:=by kernel_rfl
def Ps (v:Value):Prop:=∃p ad l c,v=.agg (bF (.pointer p) (.slice ad l c)).toArray
@[simp] theorem Tz (p ad : Option Addr) (l c : Nat) : Ps (.agg (bF (.pointer p) (.slice ad l c)).toArray) = True := eq_true ⟨p, ad, l, c, rfl⟩
@[simp] theorem Vg (u v : Value) : Hi (.agg (bF u v).toArray) = bF u v := rfl
def D9 (w:World)(v:Value):Prop:=∃b,v=.pointer (some ⟨b,0,none⟩)/\w.there b 0 127
theorem N9 (p ad:Option Addr)(l c:Nat):∀u∈bF (.pointer p) (.slice ad l c),u.oneCell'=true:=by
 intro u hu;simp only[bF,List.cons_append,List.nil_append,List.mem_cons,List.mem_append,dh,CT,kI,List.mem_flatMap,List.mem_map,List.mem_replicate,List.not_mem_nil,or_false]at hu;rcases hu with rfl|rfl|rfl|rfl|rfl|⟨y,⟨-,rfl⟩,rfl|rfl⟩|⟨y,-,rfl⟩<;>rfl
section
variable (d:Option Tmp) (x y:Operand) (t:TypeId) (ps:String) (af:Array Edge) (g:Option (Nat×Bool)) (a:Act) (w:World) (K:Act->World->Prop) (Q:Exit->Act->World->Prop)
theorem Bo (h:Pt (a.eval x))(h':UR (a.eval y)):Oper.wp Tryz.prog {dst:=d,op:=Op.build 136 #[(1,x),(2,y)],type:=t,pos:=ps,after:=af,guard:=g} a w K Q=K (a.put d (.agg (bF (a.eval x) (a.eval y)).toArray)) w:=by
 obtain⟨p,hp⟩:=h;obtain⟨ad,l,c,hs⟩:=h';have:=Af p ad l c w;unfold Oper.wp execOp;simp only[List.map_toArray,List.map_cons,List.map_nil,hp,hs,Sem.run_bind,Sem.run_pure,Result.andThen_ok,this];rfl
theorem Bn:Oper.wp Tryz.prog {dst:=d,op:=Op.alloc 136,type:=t,pos:=ps,after:=af,guard:=g} a w K Q=K (a.put d (.pointer (some ⟨w.heap.size,0,none⟩))) (w.alloc (.cells (bF (.pointer none) (.slice none 0 0)).toArray 136)):=by
 have:=Ae w;unfold Oper.wp execOp;simp only[Sem.run_bind,Sem.run_pure,Result.andThen_ok,this];rfl
theorem Bq (h:D9 w (a.eval x))(h':Ps (a.eval y)):Oper.wp Tryz.prog {dst:=d,op:=Op.store 136 x y,type:=t,pos:=ps,after:=af,guard:=g} a w K Q=K (a.put d undef) (w.setCells (JT (a.eval x)) 0 (Hi (a.eval y))):=by
 obtain⟨b,hb,hh⟩:=h;obtain⟨p,ad,l,c,hy⟩:=h';have:=run_storeAt_mid (P:=Tryz.prog) w b 0 136 (bF (.pointer p) (.slice ad l c)).toArray hh Mc (all_oneCell_toArray (N9 p ad l c));unfold Oper.wp execOp;simp only[hb,hy,Sem.run_bind,Sem.run_pure,Result.andThen_ok,this];rfl
theorem DK (w:World)(u v:Value):D9 (w.alloc (.cells (bF u v).toArray 136)) (.pointer (some ⟨w.heap.size,0,none⟩)):=by
 refine⟨_,rfl,fun j hj=> ?_⟩;have h:(w.alloc (.cells (bF u v).toArray 136)).heap[w.heap.size]?=some (.cells (bF u v).toArray 136 (0,0)):=jD;refine⟨?_,frozen_of_heap h _⟩;rw[cell_of_heap h,Nat.zero_add];simp only[List.getElem?_toArray];rw[jB (by rw[ph];exact hj)];rfl
end
theorem N8 (w:World)(u v u' v':Value):((w.alloc (.cells (bF u v).toArray 136)).setCells w.heap.size 0 (bF u' v')).heap[w.heap.size]?=some (.cells (bF u' v').toArray 136 (0,0))/\Below w.heap.size w ((w.alloc (.cells (bF u v).toArray 136)).setCells w.heap.size 0 (bF u' v')):=by
 have h:(w.alloc (.cells (bF u v).toArray 136)).heap[w.heap.size]?=some (.cells (bF u v).toArray 136 (0,0)):=jD;refine⟨?_,bp ((Below.refl _ _).alloc (jC _) _) (jC _) _ _⟩;obtain⟨cs',h1,h2,h3⟩:=fv w.heap.size (bF u' v') 0 _ _ _ _ h;have e:cs'=(bF u' v').toArray:=by
  apply Array.ext_getElem?
  intro j;rw[h3];by_cases hj:j<127
  ·rw[jb (by simp[ph];exact hj)];simp
  ·rw[ja (by simp[ph];omega),Array.getElem?_eq_none (by simp[ph];omega),Array.getElem?_eq_none (by simp[ph];omega)]
 rw[h1,e]
end Ex
namespace Ex
open Go Sq Aux Go.Proofs.YtmlgajhhnojdjaaGreatDoor.Own RunA RunB PrjS FlwA
structure Br.In (b:Br)(t:Nat):Prop where
 many:b.yd.made.length<=t
 trace:b.yd.trace.length<=t
 live: -(t:Int)<=b.yd.live/\b.yd.live<=t
 words:∀x∈b.yd.trace,x.length<=30
 jr:∀c∈b.cs,bC c.2
 aO:∀n∈b.aO,bC n
 made:∀m∈b.yd.made,bC m.1
section
variable {q:QP} {b:Br} {t u:Nat}
theorem Br.In.mono (h:b.In t)(ht:t<=u):b.In u:=⟨by have:=h.many;omega,by have:=h.trace;omega,by have:=h.live;omega,h.words,h.jr,h.aO,h.made⟩
theorem Br.In.ok (h:b.In t)(ht:t<=1000000):b.yd.Ok:=⟨by have:=h.many;omega,by have:=h.trace;omega,by have:=h.live;omega,h.words⟩
theorem Br.In.val (h:b.In t)(q:QP)(p:Nat×Nat):bC (b.val q p):=by
 unfold Br.val Br.cell;rw[jA];cases hx:b.cs[cellOf q p]? with
 |none=>exact iC
 |some c=>exact h.jr c (List.mem_of_getElem? hx)
theorem Br.In.write (h:b.In t)(q:QP)(p:Nat×Nat){v:Int}(hv:bC v):(b.write q p v).In t:=
 ⟨h.many,h.trace,h.live,h.words,fun c hc=>by
  rcases List.mem_or_eq_of_mem_set hc with hc|rfl
  ·exact h.jr c hc
  ·exact hv,h.aO,h.made⟩
theorem Br.In.note (h:b.In t)(c:UInt8){n:Int}(hn:bC n):({b with yd:=b.yd.note c n}:Br).In (t+1):=
 ⟨by have:=h.many;show b.yd.made.length<=_;omega,by have:=h.trace;show(b.yd.trace++[_]).length<=_;simp;omega,by have:=h.live;show-((t+1:Nat):Int)<=b.yd.live/\b.yd.live<=_;omega,kT hn h.words,h.jr,h.aO,h.made⟩
theorem Br.In.at (h:b.In t)(n:Nat):bC (b.yd.at n).1:=by
 unfold Yd.at;rw[jA];cases hx:b.yd.made[n-1]? with
 |none=>exact iC
 |some c=>exact h.made c (List.mem_of_getElem? hx)
theorem sR {n:Nat}(h:n<=1000000):bC ((n:Nat):Int):=by unfold bC;omega
theorem Br.In.PN (h:b.In t)(n:Nat){m:Int×Bool}(hm:bC m.1)(k:Int)(hk: -(t:Int)<=k/\k<=t):({b with yd:={b.yd with made:=b.yd.made.set n m,live:=k}}:Br).In t:=
 ⟨by simpa using h.many,h.trace,hk,h.words,h.jr,h.aO,fun c hc=>by
  rcases List.mem_or_eq_of_mem_set hc with hc|rfl
  ·exact h.made c hc
  ·exact hm⟩
theorem Br.In.free (h:b.In t){n:Nat}(hn:n<=1000000):({b with yd:=b.yd.free n}:Br).In (t+1):=by
 have h1:=(h.mono (Nat.le_succ t)).PN (n-1) (m:=((b.yd.at n).1,false)) (h.at n) (b.yd.live-1) (by have:=h.live;omega);have h2:=h1.note 45 (sR hn);exact⟨by have:=h.many;show(b.yd.made.set _ _).length<=_;simp;omega,by have:=h.trace;show(b.yd.trace++[_]).length<=_;simp;omega,by have:=h.live;show-((t+1:Nat):Int)<=b.yd.live-1/\b.yd.live-1<=_;omega,h2.words,h2.jr,h2.aO,h2.made⟩
theorem Br.In.store (h:b.In t){n:Nat}(hn:n<=1000000){v:Int}(hv:bC v):({b with yd:=b.yd.store n v}:Br).In (t+1):=by
 have h2:=h.note 62 (sR hn);exact⟨by have:=h.many;show(b.yd.made.set _ _).length<=_;simp;omega,h2.trace,h2.live,h2.words,h2.jr,h2.aO,fun c hc=>by
  rcases List.mem_or_eq_of_mem_set hc with hc|rfl
  ·exact h.made c hc
  ·exact hv⟩
theorem Br.In.new (h:b.In t)(ht:t<=999999)(q:QP)(p:Nat×Nat){v:Int}(hv:bC v):(b.new q p v).In (t+1):=by
 have hm:=h.many;have h1:({b with yd:=b.yd.build v}:Br).In (t+1):=by
  refine⟨by show(b.yd.made++[_]).length<=_;simp;omega,by have:=h.trace;show(b.yd.trace++[_]).length<=_;simp;omega,by have:=h.live;show-((t+1:Nat):Int)<=b.yd.live+1/\b.yd.live+1<=_;omega,?_,h.jr,h.aO,fun c hc=> ?_⟩
  ·exact kT (y:={b.yd with made:=b.yd.made++[(v,true)],live:=b.yd.live+1}) (sR (by omega)) h.words
  ·rcases List.mem_append.1 hc with hc|hc
   ·exact h.made c hc
   ·rw[jI.1 hc];exact hv
 exact h1.write q p (sR (by omega))
theorem Br.In.calc (h:b.In t)(q:QP)(l:ab):(b.calc q l).In t:=h.write q _ (yD _ _ _)
theorem Br.In.dS (h:b.In t)(q:QP)(ts fs:List (Nat×Nat)):∀k,(Br.dS q ts fs k b).In t
 |0=>h
 |k+1=>(Br.In.dS h q ts fs k).write q _ ((Br.In.dS h q ts fs k).val q _)
theorem Br.In.move (h:b.In t)(q:QP)(x y:Nat×Nat):(b.move q x y).In t:=by
 have h1:(b.fE q x y).In t:=Br.In.dS h q _ _ _;unfold Br.move;split
 ·exact h1.write q _ (h1.val q _)
 ·exact h1
theorem Br.In.cz (h:b.In t)(ht:t<=999999)(q:QP){l:ab}(hd:QX q b l)(kO:bC l.number):(b.cz q l).In (t+1):=by
 have hm:=h.many;have h':=h.mono (Nat.le_succ t);have one:bC 1:=by unfold bC;omega
 obtain⟨ak,-,-,h0,h1⟩:=hd;unfold Br.cz;rcases ak with e|e|e|e|e|e|e|e|e|e|e|e|e
 ·rw[jb e];exact h'.write q _ kO
 ·rw[ja (by omega),jb (by omega)];exact h'.calc q l
 ·rw[ja (by omega),jb (by omega)];exact h'.calc q l
 ·rw[ja (by omega),jb (by omega)];exact h'.calc q l
 ·rw[ja (by omega),ja (by omega),jb (by omega)];refine Br.In.write (b:={b with aO:=b.aO.tail}) ⟨h'.many,h'.trace,h'.live,h'.words,h'.jr,fun n hn=>h.aO n (List.mem_of_mem_tail hn),h'.made⟩ q _ ?_;cases hi:b.aO with
  |nil=>exact iC
  |cons v r=>exact h.aO v (by rw[hi];exact jM ..)
 ·rw[ja (by omega),ja (by omega),ja (by omega),jb (by omega)];exact h.note 111 (h.val q _)
 ·rw[ja (by omega),ja (by omega),ja (by omega),ja (by omega),jb (by omega)];have hb:=h1 e;exact Br.In.write (h.note 60 (sR (by omega))) q _ (h.at _)
 ·rw[ja (by omega),ja (by omega),ja (by omega),ja (by omega),ja (by omega),jb (by omega)];have hb:=h0 (.inl e);exact h.store (by omega) (h.val q _)
 ·rw[ja (by omega),ja (by omega),ja (by omega),ja (by omega),ja (by omega),ja (by omega),jb (by omega)];have hb:=h0 (.inr e);exact h.free (by omega)
 ·rw[ja (by omega),ja (by omega),ja (by omega),ja (by omega),ja (by omega),ja (by omega),ja (by omega),jb (by omega)];exact h'.move q _ _
 ·rw[ja (by omega),ja (by omega),ja (by omega),ja (by omega),ja (by omega),ja (by omega),ja (by omega),ja (by omega),jb (by omega)];exact h'.write q _ iC
 ·rw[ja (by omega),ja (by omega),ja (by omega),ja (by omega),ja (by omega),ja (by omega),ja (by omega),ja (by omega),ja (by omega),jb (by omega)];exact(h'.write q _ one).write q _ ((h'.write q _ one).val q _)
 ·rw[ja (by omega),ja (by omega),ja (by omega),ja (by omega),ja (by omega),ja (by omega),ja (by omega),ja (by omega),ja (by omega),ja (by omega),jb (by omega)];exact⟨h'.many,h'.trace,h'.live,h'.words,h'.jr,h'.aO,h'.made⟩
theorem Br.In.start {aO:List Int}(h:∀n∈aO,bC n):(Br.start aO).In 0:=
 ⟨jC _,jC _,(by show-((0:Nat):Int)<=0/\(0:Int)<=((0:Nat):Int);omega),(fun x hx=>by cases hx),(fun c hc=>by rw[List.eq_of_mem_replicate hc];exact iC),h,(fun m hm=>by cases hm)⟩
theorem rW (q:QP)(aO:List Int):od q (Br.start aO):=by
 have hz:∀k,(Br.start aO).cs.getD k (false,0)=(false,0):=fun k=>by
  show(List.replicate 36 (false,(0:Int))).getD k (false,0)=_
  rw[jA,jO];split<;>rfl
 refine⟨⟨by simp[Br.start],fun k _ _ hf=> ?_,fun i _ _ ht=> ?_⟩,[],⟨fun _=>rfl,fun n hn=> ?_,rfl,fun x hx=>by cases hx⟩⟩
 ·rw[hz]at hf;cases hf
 ·rw[hz]at ht;cases ht
 ·simp[Bal.xi,Yd.at,Br.start]
end
end Ex
end Go.Proofs.YtmlgajhhnojdjaaGreatDoor

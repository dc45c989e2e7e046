import Derived.Test.YtmlgajhhnojdjaaGreatDoorVBD
namespace Go.Proofs.YtmlgajhhnojdjaaGreatDoor
namespace El
open Go Go.RowKit Go.Shelf Sq Aux Go.Proofs.YtmlgajhhnojdjaaGreatDoor.Own PrjF PrjG PrjJ PrjK PrjL PrjM PrjN PrjO PrjP PrjR PrjS PrjT FlwA FlwE
attribute [local go_sem] Oper.semAt_some
def xZ (v x:Value):Sem Next:=do pure (.value (<-Builtin.append_ #[112,112] 112 #[v,x]))
theorem Gm (ro:Option Nat)(ρ:Operand->Value)(d:Option Tmp)(s x:Operand)(ps:String)(af:Array Edge)(g:Option (Nat×Bool)):
  Oper.semAt ro ρ {dst:=d,op:=Op.call {callee:=Callee.builtin Builtin.append,args:= #[s,x],argTypes:= #[112,112]},type:=112,pos:=ps,after:=af,guard:=g}=xZ (ρ s) (ρ x):=by
 rw[Oper.semAt_eq _ _ _ (fun c hc=>by cases hc)];simp[execOp,resolve,invoke,builtin,xZ]
theorem C4 (v x:Value)(w:World)(h:xe w v x):Sem.run Tryz.prog (xZ v x) w=.ok (.value (x4 w v x)) (rp w v x):=by
 have Ag:=L5 w v x h;unfold xZ;simp[Ag,Result.andThen]
attribute [local go_sem] Gm
attribute [local go_sem] C4
def D8 (o:Oper):Bool:=match o.op with
 | .defer _=>false
 |_=>true
theorem xd {F:Fence}{n:Nat}{P:Program}{md:Region.Mode}{ops:Array Oper}{Q:Exit->Act->World->Prop}{l:Nat}(hn:ops.all D8=true):
  ∀(fuel:Nat) (listed:Array Bool) (a:Act) (w:World),wpAnyIn F n P md ops Q fuel listed a w->wpAnyIn (F.inRound l) n P md ops Q fuel listed a w
 |0,_,_,_,h=>h
 |fuel+1,listed,a,w,h=>by
  have hd:∀(i:Nat) (o:Oper),ops[i]?=some o->∀c:Call,o.op≠Op.defer c:=fun i o ho c e=>by
   have:=(Array.all_eq_true'.1 hn) o (Array.mem_of_getElem? ho);unfold D8 at this;rw[e]at this;cases this
  refine⟨h.1,fun i hi=> ?_⟩;have h2:=wpOpIn_mono (xd (l:=l) hn fuel (listed.setIfInBounds i true)) (h.2 i hi);unfold wpOpIn at h2⊢;cases ho:ops[i]? with
  |none=>rw[ho]at h2;exact h2
  |some o=>
   rw[ho]at h2;simp only at h2⊢;split
   ·rename_i hw;rw[jb hw]at h2;refine⟨h2.1,?_⟩;have e:=h2.2;rw[Oper.semAt_eq _ _ _ (hd i o ho)]at e⊢;exact e
   ·rename_i hw;rw[ja hw]at h2;exact h2
theorem qY {zz:Nat}{W:World}{v:Value}{ps:List (Nat×Nat)}(h:ay zz W v ps):∃an cn,v=.slice an ps.length cn:=by
 rcases h.2 with⟨e1,e2⟩|⟨g,cap,cur,e1,-⟩
 ·exact⟨none,0,by rw[e1,e2]⟩
 ·exact⟨_,cap,e1⟩
def o9 (q:QP){N:Nat}(ys:List (Fin N)):List (Nat×Nat):=ys.flatMap fun i=>bR q (i.val,0)
theorem zk (q:QP){N:Nat}:∀k,k<=N->o9 q (pk N k)++gV q (N-k)=gV q N
 |0,_=>rfl
 |k+1,hk=>by
  rw[<-zk (N:=N) q k (by omega),mx (by omega)];have e:gV q (N-k)=bR q (N-1-k,0)++gV q (N-(k+1)):=by
   rw[show N-k=(N-(k+1))+1 by omega,gV,show N-1-k=N-(k+1) by omega]
  rw[e];simp[o9]
theorem xn (q:QP)(x:Nat×Nat):(bR q x).length<=2:=by
 unfold bR;split
 ·simp
 split
 ·simp
 ·unfold QP.ai;split<;>simp
theorem zm (q:QP){N:Nat}:∀ys:List (Fin N),(o9 q ys).length<=2*ys.length
 |[]=>jC _
 |y::ys=>by
  have h1:=xn q (y.val,0);have h2:=zm q ys;have e:o9 q (y::ys)=bR q (y.val,0)++o9 q ys:=rfl;rw[e,jV,jY];omega
theorem Er (q:QP){N:Nat}(ys:List (Fin N))(y:Fin N):o9 q (ys++[y])=o9 q ys++bR q (y.val,0):=by simp[o9]
theorem mr {w W w2 A:World}{pm vp vn vl:Value}{ps ps':List (Nat×Nat)}(i1:Below w.heap.size w W)(i2:W.heap[w.heap.size]?=some (.cells #[pm] 206 (0,0)))(i3:W.heap[w.heap.size+1]?=some (.cells #[vp] 112 (0,0)))(i4:ay w.heap.size W vp ps)(i5:W.heap[w.heap.size+2]?=some (.cells #[vl] 107 (0,0)))
  (h2:Below W.heap.size W w2) (hg:w2.grownBy A vp.ownBlock) (dY:ay w.heap.size A vn ps'):
  KeepsOthers W (A.setCell ⟨w.heap.size+1,0,none⟩ vn)/\(Below w.heap.size W (A.setCell ⟨w.heap.size+1,0,none⟩ vn)/\(A.setCell ⟨w.heap.size+1,0,none⟩ vn).cell? ⟨w.heap.size+2,0,none⟩=W.cell? ⟨w.heap.size+2,0,none⟩)/\Below w.heap.size w (A.setCell ⟨w.heap.size+1,0,none⟩ vn)/\W.heap.size<=(A.setCell ⟨w.heap.size+1,0,none⟩ vn).heap.size/\(A.setCell ⟨w.heap.size+1,0,none⟩ vn).heap[w.heap.size]?=some (.cells #[pm] 206 (0,0))/\(A.setCell ⟨w.heap.size+1,0,none⟩ vn).heap[w.heap.size+1]?=some (.cells #[vn] 112 (0,0))/\ay w.heap.size (A.setCell ⟨w.heap.size+1,0,none⟩ vn) vn ps'/\(A.setCell ⟨w.heap.size+1,0,none⟩ vn).heap[w.heap.size+2]?=some (.cells #[vl] 107 (0,0)):=by
 have n2:some w.heap.size≠vp.ownBlock:=aF i4 i2 (by decide);have n3:some (w.heap.size+1)≠vp.ownBlock:=aF i4 i3 (by decide);have n5:some (w.heap.size+2)≠vp.ownBlock:=aF i4 i5 (by decide);have MT:∀k,k<W.heap.size->some k≠vp.ownBlock->A.heap[k]?=W.heap[k]?:=fun k hk hn=>(hg.block k (jK hk h2.size) hn).trans (h2.block k hk)
 have bE:∀k,k<W.heap.size->k≠w.heap.size+1->some k≠vp.ownBlock->(A.setCell ⟨w.heap.size+1,0,none⟩ vn).heap[k]?=W.heap[k]?:=fun k hk BM hn=>(Below.heap_setCell _ _ _ _ BM).trans (MT k hk hn)
 have a3:=(MT _ (lt_of_heap i3) n3).trans i3;have gP:(A.setCell ⟨w.heap.size+1,0,none⟩ vn).heap.size=A.heap.size:=World.size_setCell ..;have hle:W.heap.size<=(A.setCell ⟨w.heap.size+1,0,none⟩ vn).heap.size:=by rw[gP];exact jS h2.size hg.size
 have hB:Below w.heap.size W (A.setCell ⟨w.heap.size+1,0,none⟩ vn):=⟨hg.os.trans h2.os,hg.tape.trans h2.tape,hg.output.trans h2.output,hle,fun k hk=>bE k (jK hk i1.size) (by omega) (fun e=>by have:=(i4.lt k e.symm).1;omega)⟩;have r5:=(bE _ (lt_of_heap i5) (by omega) n5).trans i5;refine⟨⟨hle,fun k ob hk hc=> ?_⟩,⟨hB,by rw[cell_of_heap r5,cell_of_heap i5]⟩,i1.trans hB,hle,(bE _ (lt_of_heap i2) (by omega) n2).trans i2,?_,aC dY _ (fun e=>aF dY a3 (by decide) e.symm),r5⟩
 ·have ne:∀{j:Nat} {cs:Array Value} {e:TypeId} {f:Nat×Nat},W.heap[j]?=some (.cells cs e f)->k≠j:=fun hj e=>by
   subst e;rw[hk]at hj;cases hj
   simp[Obj.isCells]at hc
  rw[bE k (lt_of_heap hk) (ne i3) (fun e=> ?_)]
  ·exact hk
  ·rcases i4.2 with⟨e',-⟩|⟨g,cap,cur,e',-,Ck,-⟩
   ·rw[e']at e;cases e
   ·rw[e']at e;simp only[Value.ownBlock,Option.some.injEq]at e;exact ne Ck e
 ·exact(Aux.heap_setCell_same a3 0 vn).trans rfl
section
variable {x a:Nat} {w:World}
set_option maxRecDepth 100000 in
set_option maxHeartbeats 8000000 in
theorem Ka (vM:w.cell? ⟨x,0,none⟩=some (.pointer (some ⟨a,0,none⟩)))(xC:x<w.heap.size){q:QP}{v u:Value}(hq:PQ w a q v u)(mW:0<q.locals.length)(oE:q.locals.length<=12):
  Calls Tryz.prog 176 #[.pointer (some ⟨x,0,none⟩)] w fun e w'=>∃ad c,e=.returned (.slice ad (gV q q.locals.length).length c)/\ay w.heap.size w' (.slice ad (gV q q.locals.length).length c) (gV q q.locals.length)/\Below w.heap.size w w':=by
 refine(callsIn_wide (n:=3)).1 ?_;obtain⟨g,cap,rfl,gK,hg,-⟩:=gR hq.loc 0 mW;have GN:∀j,j<q.locals.length->w.cell? ⟨g,j*2,none⟩=some (.string (bs (q.locals.getD j ([],0)).1))/\w.cell? ⟨g,j*2+1,none⟩=some (.int .i64 ((q.locals.getD j ([],0)).2:Nat)):=fun j hj=>by
  obtain⟨g',cap',e,-,-,c1,c2⟩:=gR hq.loc j hj;simp only[Value.slice.injEq,Option.some.injEq,Addr.mk.injEq,and_true,true_and]at e;obtain⟨rfl,-⟩:=e;exact⟨c1,c2⟩
 obtain⟨V1,vo⟩:∃V1,w.alloc (.cells #[.pointer (some ⟨x,0,none⟩)] 206)=V1:=⟨_,rfl⟩;have aB:Below w.heap.size w V1:=by rw[<-vo];exact(Below.refl _ _).alloc (jC _) _
 have mZ:V1.heap.size=w.heap.size+1:=by rw[<-vo];simp
 have mB:V1.heap[w.heap.size]?=some (.cells #[.pointer (some ⟨x,0,none⟩)] 206 (0,0)):=by rw[<-vo];exact jD
 obtain⟨V2,Sl⟩:∃V2,V1.alloc (.cells #[.slice none 0 0] 112)=V2:=⟨_,rfl⟩;have bu:Below V1.heap.size V1 V2:=by rw[<-Sl];exact(Below.refl _ _).alloc (jC _) _
 have Cq:V2.heap.size=w.heap.size+2:=by rw[<-Sl];simp[mZ]
 have mQ:V2.heap[w.heap.size+1]?=some (.cells #[.slice none 0 0] 112 (0,0)):=by rw[<-Sl,<-mZ];exact jD
 have NC:Below w.heap.size w V2:=aB.trans (bu.mono (by omega));have Rr:=(bu.block w.heap.size (by omega)).trans mB;have m0:V2.cell? ⟨w.heap.size,0,none⟩=some (.pointer (some ⟨x,0,none⟩)):=by rw[cell_of_heap Rr];rfl
 have m1:V2.cell? ⟨x,0,none⟩=some (.pointer (some ⟨a,0,none⟩)):=(NC.cell (p:=⟨x,0,none⟩) xC).trans vM;have BN:=hq.aD;have m2:V2.cell? ⟨a,0,none⟩=some (.slice (some ⟨g,0,none⟩) q.locals.length cap):=(NC.cell (p:=⟨a,0,none⟩) (lt_of_heap BN)).trans (by rw[cell_of_heap BN];rfl);refine callsIn_of_wp_marks Tryz.func176 rfl trivial ?_ rfl;simp only[Tryz.ntmps176,List.size_toArray,List.length_cons,List.length_nil,Nat.reduceAdd,Nat.reduceSub,Array.replicate_succ,Array.replicate_zero,List.push_toArray,List.append_toArray,List.nil_append,List.cons_append]
 gi_wp2_with (refine⟨trivial,?_⟩;gi_at_call 101;refine(DC _ _ trivial rfl _ _ _ _).mono ?_;rintro e w' ⟨rfl,rfl⟩)
 clear vo Sl;have dR:Below V2.heap.size V2 (V2.alloc (.cells #[.slice (some ⟨g,0,none⟩) q.locals.length cap] 107)):=(Below.refl _ _).alloc (jC _) _;have xB:(V2.alloc (.cells #[.slice (some ⟨g,0,none⟩) q.locals.length cap] 107)).heap[w.heap.size+2]?=some (.cells #[.slice (some ⟨g,0,none⟩) q.locals.length cap] 107 (0,0)):=by rw[<-Cq];exact jD
 have Il:(V2.alloc (.cells #[.slice (some ⟨g,0,none⟩) q.locals.length cap] 107)).heap.size=w.heap.size+3:=by simp[Cq]
 obtain⟨W1,k9⟩:∃W1,V2.alloc (.cells #[.slice (some ⟨g,0,none⟩) q.locals.length cap] 107)=W1:=⟨_,rfl⟩;rw[k9]at dR xB Il⊢;have UB:=(dR.block w.heap.size (by omega)).trans Rr;have UC:=(dR.block (w.heap.size+1) (by omega)).trans mQ;have ND:Below w.heap.size w W1:=NC.trans (dR.mono (by omega));have vq:W1.cell? ⟨w.heap.size+2,0,none⟩=some (.slice (some ⟨g,0,none⟩) q.locals.length cap):=by rw[cell_of_heap xB];rfl
 refine wpIn_rangeFunc_ownF rfl (by decide) (gf:=157) (lb:= #[.pointer (some ⟨w.heap.size+2,0,none⟩)]) rfl trivial (enters_of Tryz.func157 (by kernel_rfl) rfl)
  (sk _ _ trivial rfl (by decide) (w.heap.size+2) w.heap.size g cap q.locals (by omega) hg gK W1 (by omega) (by omega) vq (fun j hj=>⟨(ND.cell (p:=⟨g,j*2,none⟩) hg).trans (GN j hj).1,(ND.cell (p:=⟨g,j*2+1,none⟩) hg).trans (GN j hj).2⟩))
  (fun h1 h2=>⟨h1.1.trans h2.1,h2.2.trans h1.2⟩)
  (fun W l ob ob' hl hk hc _=>⟨belowK_b (w:=W1) (by omega) W l ob ob' hl hk hc (by assumption),by
   have c8:W1.heap.size<=l:=hl;simp only[World.cell?];rw[World.putObj_heap_other (by show w.heap.size+2≠l;omega)]⟩)
  (Below.refl _ _) (fun _=>rfl)
  (fun pre W=>∃vp,Below w.heap.size w W/\W1.heap.size<=W.heap.size/\W.heap[w.heap.size]?=some (.cells #[.pointer (some ⟨x,0,none⟩)] 206 (0,0))/\W.heap[w.heap.size+1]?=some (.cells #[vp] 112 (0,0))/\ay w.heap.size W vp (o9 q pre)/\W.heap[w.heap.size+2]?=some (.cells #[.slice (some ⟨g,0,none⟩) q.locals.length cap] 107 (0,0)))
  (fun _ _ _=>False)
  (fun pre W W' row hs kE hr=>by
   obtain⟨vp,i1,i0,i2,i3,i4,i5⟩:=hs;have mQ:∀r,row=some r->∃ob:Obj,W.heap[r]?=some ob/\ob.isCells=false:=fun r e=>(hr r e).2
   refine⟨vp,i1.trans ⟨kE.os,kE.tape,kE.output,kE.size,fun k hk=>kE.block k (by omega) (fun e=>by have:=(hr k e.symm).1;omega)⟩,jS i0 kE.size,?_,?_,i4.kept kE (yT i4 mQ),?_⟩
   ·rw[kE.block _ (lt_of_heap i2) (gW i2 mQ)];exact i2
   ·rw[kE.block _ (lt_of_heap i3) (gW i3 mQ)];exact i3
   ·rw[kE.block _ (lt_of_heap i5) (gW i5 mQ)];exact i5)
  (fun _ _ _ _ _ hs _ _=>hs)
  ⟨.slice none 0 0,ND,jC _,UB,UC,World.ownsRow_nil _ _ _ _,xB⟩
  (fun y=>{tmps:= #[.pointer (some ⟨x,0,none⟩),.pointer (some ⟨w.heap.size,0,none⟩),.slice none 0 0,.pointer (some ⟨w.heap.size+1,0,none⟩),.int .i64 (y.val:Int),.pointer (some ⟨x,0,none⟩),.pointer (some ⟨x,0,none⟩),.pointer (some ⟨x,0,none⟩),.pointer (some ⟨a,0,none⟩),.pointer (some ⟨a,0,none⟩),.pointer (some ⟨a,0,none⟩),.slice (some ⟨g,0,none⟩) q.locals.length cap,.func (.func 157) #[] #[.pointer (some ⟨w.heap.size+2,0,none⟩)],.int .i64 (y.val:Int),LH q.locals y.val,undef,undef,undef,undef,undef,undef,undef,undef,undef,undef],defers:=[]}) ?assign ?body ?done ?stop
 case assign=>
  intro l y W K hK;unfold Hh
  gi_wp2
  exact hK
 case body=>
  rintro l pre y W ⟨vp,i1,i0,i2,i3,i4,i5⟩ dL;have hd:1<=3-1-1:=by omega
  have Yj:Tryz.prog.follows .mixedOrders=true:=by kernel_rfl
  have c1:W.cell? ⟨w.heap.size,0,none⟩=some (.pointer (some ⟨x,0,none⟩)):=by rw[cell_of_heap i2];rfl
  have c2:W.cell? ⟨w.heap.size+1,0,none⟩=some vp:=by rw[cell_of_heap i3];rfl
  have c3:W.cell? ⟨x,0,none⟩=some (.pointer (some ⟨a,0,none⟩)):=(i1.cell (p:=⟨x,0,none⟩) xC).trans vM;have UR:y.val<q.locals.length:=y.isLt;have jl:Below w.heap.size w W.drew:=⟨i1.os,i1.tape,i1.output,i1.size,i1.block⟩;have KB:Calls Tryz.prog 175 #[.pointer (some ⟨a,0,none⟩),.agg #[.int .i64 (y.val:Int),.int .i64 0]] W.drew _:=xl q (y.val,0) _ u a W.drew ((jl.block a (lt_of_heap BN)).trans BN) (mD hq.loc jl) (by omega) UR;have NA:=zm q pre;have qh:=xn q (y.val,0);have HL:Hid _:=Er q pre y;have PH:Hid _:=i4;have U2:Hid _:=i3;obtain⟨bq,TP⟩:∃bq,bR q (y.val,0)=bq:=⟨_,rfl⟩;rw[TP]at KB qh;have WC:Hid (bR q (y.val,0)=bq):=TP;clear TP;have HB:Hid (∀{w2:World} {ad2:Option Addr} {c2':Nat},ay W.drew.heap.size w2 (.slice ad2 bq.length c2') bq->Below W.drew.heap.size W.drew w2->xe w2 vp (.slice ad2 bq.length c2')/\w2.cell? ⟨w.heap.size+1,0,none⟩=some vp/\(rp w2 vp (.slice ad2 bq.length c2')).cell? ⟨w.heap.size+1,0,none⟩=some vp/\(rp w2 vp (.slice ad2 bq.length c2')).frozen? ⟨w.heap.size+1,0,none⟩=false/\∃an cn,x4 w2 vp (.slice ad2 bq.length c2')=.slice an ((o9 q pre).length+bq.length) cn/\Hid (ay w.heap.size (rp w2 vp (.slice ad2 bq.length c2')) (.slice an ((o9 q pre).length+bq.length) cn) (o9 q (pre++[y]))/\w2.grownBy (rp w2 vp (.slice ad2 bq.length c2')) vp.ownBlock/\Below W.heap.size W w2)):=fun{w2 ad2 c2'} k8 h2=>by
   have EN:Below W.heap.size W w2:=⟨h2.os,h2.tape,h2.output,h2.size,h2.block⟩;have i4':=al PH.out EN;obtain⟨ok,dY,kE,K9⟩:=Kc i4' k8 (by omega) (by have:=i1.size;have:=EN.size;omega);have d2:w2.cell? ⟨w.heap.size+1,0,none⟩=some vp:=(EN.cell (p:=⟨w.heap.size+1,0,none⟩) (lt_of_heap i3)).trans c2;have j3:=(EN.block (w.heap.size+1) (lt_of_heap i3)).trans i3;have k3:=(kE.block (w.heap.size+1) (lt_of_heap j3) (aF i4' j3 (by decide))).trans j3;obtain⟨an,cn,eV⟩:=qY dY;have eL:o9 q pre++bq=o9 q (pre++[y]):=by rw[HL.out,WC.out]
   rw[jV]at eV;refine⟨ok,d2,(cell_of_heap k3 0).trans rfl,frozen_of_heap k3 0,an,cn,eV,?_,kE,EN⟩;rw[<-eL,<-eV];exact dY
  gi_wp2
  refine wpIn_region_any (by assumption) ?_;change wpAnyIn _ _ _ _ _ _ _ _ _ (World.drew _);refine xd (by kernel_rfl) _ _ _ _ ?_;refine wpAnyIn_take (i:=5) (v:=_) rfl rfl (by kernel_rfl) (by kernel_rfl) (by kernel_rfl) (fun _ _ _ h=>h) ⟨Or.inl ⟨by rfl,by intro w;go_simp;first|done|with_reducible rfl⟩,fun _=>rfl⟩ ?_;refine wpAnyIn_take (i:=6) (v:=_) rfl rfl (by kernel_rfl) (by kernel_rfl) (by kernel_rfl) (fun _ _ _ h=>h) ⟨Or.inl ⟨by rfl,by intro w;go_simp;first|done|with_reducible rfl⟩,fun _=>rfl⟩ ?_;refine wpAnyIn_ready (rs:=[0,1]) (by kernel_rfl) (by simp) ?_;refine AllReadyIn.cons rfl (fun K hK=> ?_) ?_
  ·go_simp
   refine hK _ _ ?_;clear hK K;refine wpAnyIn_ready (rs:=[1]) (by kernel_rfl) (by simp) ?_;refine AllReadyIn.cons rfl (fun K hK=> ?_) AllReadyIn.nil;go_simp
   refine hK _ _ ?_;clear hK K;refine wpAnyIn_take (i:=2) (v:=_) rfl rfl (by kernel_rfl) (by kernel_rfl) (by kernel_rfl) (fun _ _ _ h=>h) ⟨Or.inl ⟨by rfl,by intro w;go_simp;first|done|with_reducible rfl⟩,fun _=>rfl⟩ ?_;refine wpAnyIn_take (i:=3) (v:=_) rfl rfl (by kernel_rfl) (by kernel_rfl) (by kernel_rfl) (fun _ _ _ h=>h) ⟨Or.inl ⟨by rfl,by intro w;go_simp;first|done|with_reducible rfl⟩,fun _=>rfl⟩ ?_;refine wpAnyIn_ready (rs:=[4]) (by kernel_rfl) (by simp) ?_;refine AllReadyIn.cons rfl (fun K hK=> ?_) AllReadyIn.nil;go_simp
   refine hK _ _ ?_;clear hK K;refine wpAnyIn_ready (rs:=[7]) (by kernel_rfl) (by simp) ?_;refine AllReadyIn.cons rfl (fun K hK=> ?_) AllReadyIn.nil;go_simp
   gi_wp2_with (refine⟨trivial,?_⟩;gi_at_call 175;refine(callsIn_wide.2 KB).mono ?_;rintro e w2 ⟨ad2,c2',rfl,k8,h2⟩;obtain⟨ok,d2,e2,e3,an,cn,eV,HX⟩:=HB.out k8 h2)
   refine wpAnyIn_ready (rs:=[8]) (by kernel_rfl) (by simp) ?_;refine AllReadyIn.cons rfl (fun K hK=> ?_) AllReadyIn.nil;go_simp
   refine hK _ _ ?_;clear hK K;refine wpAnyIn_ready (rs:=[9]) (by kernel_rfl) (by simp) ?_;refine AllReadyIn.cons rfl (fun K hK=> ?_) AllReadyIn.nil;go_simp
   refine hK _ _ ?_;clear hK K;refine wpAnyIn_done (by kernel_rfl) ?_ _
   gi_wp2
   obtain⟨dY,kE,Nq⟩:=HX.out;obtain⟨r1,r2,r3,r4,r5,r6,r7,r8⟩:=mr i1 i2 i3 PH.out i5 Nq kE dY;exact⟨r1,r2,_,r3,jS i0 r4,r5,r6,r7,r8⟩
  refine AllReadyIn.cons rfl (fun K hK=> ?_) AllReadyIn.nil;go_simp
  refine hK _ _ ?_;clear hK K;refine wpAnyIn_take (i:=2) (v:=_) rfl rfl (by kernel_rfl) (by kernel_rfl) (by kernel_rfl) (fun _ _ _ h=>h) ⟨Or.inl ⟨by rfl,by intro w;go_simp;first|done|with_reducible rfl⟩,fun _=>rfl⟩ ?_;refine wpAnyIn_take (i:=3) (v:=_) rfl rfl (by kernel_rfl) (by kernel_rfl) (by kernel_rfl) (fun _ _ _ h=>h) ⟨Or.inl ⟨by rfl,by intro w;go_simp;first|done|with_reducible rfl⟩,fun _=>rfl⟩ ?_;refine wpAnyIn_ready (rs:=[0,4]) (by kernel_rfl) (by simp) ?_;refine AllReadyIn.cons rfl (fun K hK=> ?_) ?_
  ·go_simp
   refine hK _ _ ?_;clear hK K;refine wpAnyIn_ready (rs:=[4]) (by kernel_rfl) (by simp) ?_;refine AllReadyIn.cons rfl (fun K hK=> ?_) AllReadyIn.nil;go_simp
   refine hK _ _ ?_;clear hK K;refine wpAnyIn_ready (rs:=[7]) (by kernel_rfl) (by simp) ?_;refine AllReadyIn.cons rfl (fun K hK=> ?_) AllReadyIn.nil;go_simp
   gi_wp2_with (refine⟨trivial,?_⟩;gi_at_call 175;refine(callsIn_wide.2 KB).mono ?_;rintro e w2 ⟨ad2,c2',rfl,k8,h2⟩;obtain⟨ok,d2,e2,e3,an,cn,eV,HX⟩:=HB.out k8 h2)
   refine wpAnyIn_ready (rs:=[8]) (by kernel_rfl) (by simp) ?_;refine AllReadyIn.cons rfl (fun K hK=> ?_) AllReadyIn.nil;go_simp
   refine hK _ _ ?_;clear hK K;refine wpAnyIn_ready (rs:=[9]) (by kernel_rfl) (by simp) ?_;refine AllReadyIn.cons rfl (fun K hK=> ?_) AllReadyIn.nil;go_simp
   refine hK _ _ ?_;clear hK K;refine wpAnyIn_done (by kernel_rfl) ?_ _
   gi_wp2
   obtain⟨dY,kE,Nq⟩:=HX.out;obtain⟨r1,r2,r3,r4,r5,r6,r7,r8⟩:=mr i1 i2 i3 PH.out i5 Nq kE dY;exact⟨r1,r2,_,r3,jS i0 r4,r5,r6,r7,r8⟩
  refine AllReadyIn.cons rfl (fun K hK=> ?_) AllReadyIn.nil;go_simp
  refine hK _ _ ?_;clear hK K;refine wpAnyIn_ready (rs:=[0,7]) (by kernel_rfl) (by simp) ?_;refine AllReadyIn.cons rfl (fun K hK=> ?_) ?_
  ·go_simp
   refine hK _ _ ?_;clear hK K;refine wpAnyIn_ready (rs:=[7]) (by kernel_rfl) (by simp) ?_;refine AllReadyIn.cons rfl (fun K hK=> ?_) AllReadyIn.nil;go_simp
   gi_wp2_with (refine⟨trivial,?_⟩;gi_at_call 175;refine(callsIn_wide.2 KB).mono ?_;rintro e w2 ⟨ad2,c2',rfl,k8,h2⟩;obtain⟨ok,d2,e2,e3,an,cn,eV,HX⟩:=HB.out k8 h2)
   refine wpAnyIn_ready (rs:=[8]) (by kernel_rfl) (by simp) ?_;refine AllReadyIn.cons rfl (fun K hK=> ?_) AllReadyIn.nil;go_simp
   refine hK _ _ ?_;clear hK K;refine wpAnyIn_ready (rs:=[9]) (by kernel_rfl) (by simp) ?_;refine AllReadyIn.cons rfl (fun K hK=> ?_) AllReadyIn.nil;go_simp
   refine hK _ _ ?_;clear hK K;refine wpAnyIn_done (by kernel_rfl) ?_ _
   gi_wp2
   obtain⟨dY,kE,Nq⟩:=HX.out;obtain⟨r1,r2,r3,r4,r5,r6,r7,r8⟩:=mr i1 i2 i3 PH.out i5 Nq kE dY;exact⟨r1,r2,_,r3,jS i0 r4,r5,r6,r7,r8⟩
  refine AllReadyIn.cons rfl (fun K hK=> ?_) AllReadyIn.nil;go_simp
  gi_wp2_with (refine⟨trivial,?_⟩;gi_at_call 175;refine(callsIn_wide.2 KB).mono ?_;rintro e w2 ⟨ad2,c2',rfl,k8,h2⟩;obtain⟨ok,d2,e2,e3,an,cn,eV,HX⟩:=HB.out k8 h2)
  refine wpAnyIn_ready (rs:=[0]) (by kernel_rfl) (by simp) ?_;refine AllReadyIn.cons rfl (fun K hK=> ?_) AllReadyIn.nil;go_simp
  refine hK _ _ ?_;clear hK K;refine wpAnyIn_ready (rs:=[8]) (by kernel_rfl) (by simp) ?_;refine AllReadyIn.cons rfl (fun K hK=> ?_) AllReadyIn.nil;go_simp
  refine hK _ _ ?_;clear hK K;refine wpAnyIn_ready (rs:=[9]) (by kernel_rfl) (by simp) ?_;refine AllReadyIn.cons rfl (fun K hK=> ?_) AllReadyIn.nil;go_simp
  refine hK _ _ ?_;clear hK K;refine wpAnyIn_done (by kernel_rfl) ?_ _
  gi_wp2
  obtain⟨dY,kE,Nq⟩:=HX.out;obtain⟨r1,r2,r3,r4,r5,r6,r7,r8⟩:=mr i1 i2 i3 PH.out i5 Nq kE dY;exact⟨r1,r2,_,r3,jS i0 r4,r5,r6,r7,r8⟩
 case done=>
  rintro D ys W hD rfl ⟨vp,i1,i0,i2,i3,i4,i5⟩ hK;have kD:=zk (N:=q.locals.length) q q.locals.length (jC _);rw[Nat.sub_self,gV,List.append_nil]at kD;rw[kD]at i4;have c3:W.cell? ⟨w.heap.size+1,0,none⟩=some vp:=by rw[cell_of_heap i3];rfl
  gi_wp2
  refine⟨by simp,.inl ⟨_,_,rfl,run_takeDeferred hK,?_⟩⟩;have Mv:∀r,some D=some r->W1.heap.size<=r/\∃ob:Obj,W.heap[r]?=some ob/\ob.isCells=false:=fun r e=>by cases e;exact⟨hD,_,hK,rfl⟩
  have kE:=grownBy_putObj' W D (.deferred none);obtain⟨an,cn,rfl⟩:=qY i4;exact⟨_,results_tmp rfl _ _ _,an,cn,rfl,i4.kept kE (yT i4 (fun r e=>(Mv r e).2)),i1.trans ⟨kE.os,kE.tape,kE.output,kE.size,fun k hk=>kE.block k (by have:=i1.size;omega) (fun e=>by have:=(Mv k e.symm).1;omega)⟩⟩
 case stop=>
  rintro D c pre W _ _ hx _;exact hx.elim
theorem G6:GS:=fun _ _ _ _ _ _ h0 h1 h2 h3 h4=>Ka h0 h1 h2 h3 h4
end
end El
end Go.Proofs.YtmlgajhhnojdjaaGreatDoor

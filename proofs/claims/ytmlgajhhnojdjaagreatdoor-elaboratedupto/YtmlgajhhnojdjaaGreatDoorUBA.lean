import Derived.Test.YtmlgajhhnojdjaaGreatDoorUAZ
namespace Go.Proofs.YtmlgajhhnojdjaaGreatDoor
namespace El
open Go Go.RowKit Go.Shelf Sq Aux Go.Proofs.YtmlgajhhnojdjaaGreatDoor.Own PrjF PrjG PrjJ PrjK PrjL PrjM PrjN PrjO PrjP PrjR PrjS PrjT FlwA FlwE
attribute [local go_sem] Oper.semAt_some
def CJ (v x:Value):Sem Next:=do pure (.value (<-Builtin.append_ #[112,112] 112 #[v,x]))
theorem Ng (ro:Option Nat)(ρ:Operand->Value)(d:Option Tmp)(s x:Operand)(ps:String)(af:Array Edge)(g:Option (Nat×Bool)):
  Oper.semAt ro ρ {dst:=d,op:=Op.call {callee:=Callee.builtin Builtin.append,args:= #[s,x],argTypes:= #[112,112]},type:=112,pos:=ps,after:=af,guard:=g}=CJ (ρ s) (ρ x):=by
 rw[Oper.semAt_eq _ _ _ (fun c hc=>by cases hc)];simp[execOp,resolve,invoke,builtin,CJ]
theorem Ji (v x:Value)(w:World)(h:BB w v x):Sem.run Tryz.prog (CJ v x) w=.ok (.value (CK w v x)) (xK w v x):=by
 have Ba:=SG w v x h;unfold CJ;simp[Ba,Result.andThen]
attribute [local go_sem] Ng
attribute [local go_sem] Ji
def Kn (o:Oper):Bool:=match o.op with
 | .defer _=>false
 |_=>true
theorem BA {F:Fence}{n:Nat}{P:Program}{md:Region.Mode}{ops:Array Oper}{Q:Exit->Act->World->Prop}{l:Nat}(hn:ops.all Kn=true):
  ∀(fuel:Nat) (listed:Array Bool) (a:Act) (w:World),wpAnyIn F n P md ops Q fuel listed a w->wpAnyIn (F.inRound l) n P md ops Q fuel listed a w
 |0,_,_,_,h=>h
 |fuel+1,listed,a,w,h=>by
  have hd:∀(i:Nat) (o:Oper),ops[i]?=some o->∀c:Call,o.op≠Op.defer c:=fun i o ho c e=>by
   have:=(Array.all_eq_true'.1 hn) o (Array.mem_of_getElem? ho);unfold Kn at this;rw[e]at this;cases this
  refine⟨h.1,fun i hi=> ?_⟩;have h2:=wpOpIn_mono (BA (l:=l) hn fuel (listed.setIfInBounds i true)) (h.2 i hi);unfold wpOpIn at h2⊢;cases ho:ops[i]? with
  |none=>rw[ho]at h2;exact h2
  |some o=>
   rw[ho]at h2;simp only at h2⊢;split
   ·rename_i hw;rw[jb hw]at h2;refine⟨h2.1,?_⟩;have e:=h2.2;rw[Oper.semAt_eq _ _ _ (hd i o ho)]at e⊢;exact e
   ·rename_i hw;rw[ja hw]at h2;exact h2
theorem xp {zz:Nat}{W:World}{v:Value}{ps:List (Nat×Nat)}(h:aI zz W v ps):∃an cn,v=.slice an ps.length cn:=by
 rcases h.2 with⟨e1,e2⟩|⟨g,cap,cur,e1,-⟩
 ·exact⟨none,0,by rw[e1,e2]⟩
 ·exact⟨_,cap,e1⟩
def si (q:QP){N:Nat}(ys:List (Fin N)):List (Nat×Nat):=ys.flatMap fun i=>bT q (i.val,0)
theorem Ef (q:QP){N:Nat}:∀k,k<=N->si q (su N k)++fi q (N-k)=fi q N
 |0,_=>rfl
 |k+1,hk=>by
  rw[<-Ef (N:=N) q k (by omega),qn (by omega)];have e:fi q (N-k)=bT q (N-1-k,0)++fi q (N-(k+1)):=by
   rw[show N-k=(N-(k+1))+1 by omega,fi,show N-1-k=N-(k+1) by omega]
  rw[e];simp[si]
theorem BN (q:QP)(x:Nat×Nat):(bT q x).length<=2:=by
 unfold bT;split
 ·simp
 split
 ·simp
 ·unfold QP.ai;split<;>simp
theorem Eg (q:QP){N:Nat}:∀ys:List (Fin N),(si q ys).length<=2*ys.length
 |[]=>jC _
 |y::ys=>by
  have h1:=BN q (y.val,0);have h2:=Eg q ys;have e:si q (y::ys)=bT q (y.val,0)++si q ys:=rfl;rw[e,jV,jY];omega
theorem Le (q:QP){N:Nat}(ys:List (Fin N))(y:Fin N):si q (ys++[y])=si q ys++bT q (y.val,0):=by simp[si]
theorem qj {w W w2 A:World}{pm vp vn vl:Value}{ps ps':List (Nat×Nat)}(i1:Below w.heap.size w W)(i2:W.heap[w.heap.size]?=some (.cells #[pm] 206 (0,0)))(i3:W.heap[w.heap.size+1]?=some (.cells #[vp] 112 (0,0)))(i4:aI w.heap.size W vp ps)(i5:W.heap[w.heap.size+2]?=some (.cells #[vl] 107 (0,0)))
  (h2:Below W.heap.size W w2) (hg:w2.grownBy A vp.ownBlock) (fL:aI w.heap.size A vn ps'):
  KeepsOthers W (A.setCell ⟨w.heap.size+1,0,none⟩ vn)/\(Below w.heap.size W (A.setCell ⟨w.heap.size+1,0,none⟩ vn)/\(A.setCell ⟨w.heap.size+1,0,none⟩ vn).cell? ⟨w.heap.size+2,0,none⟩=W.cell? ⟨w.heap.size+2,0,none⟩)/\Below w.heap.size w (A.setCell ⟨w.heap.size+1,0,none⟩ vn)/\W.heap.size<=(A.setCell ⟨w.heap.size+1,0,none⟩ vn).heap.size/\(A.setCell ⟨w.heap.size+1,0,none⟩ vn).heap[w.heap.size]?=some (.cells #[pm] 206 (0,0))/\(A.setCell ⟨w.heap.size+1,0,none⟩ vn).heap[w.heap.size+1]?=some (.cells #[vn] 112 (0,0))/\aI w.heap.size (A.setCell ⟨w.heap.size+1,0,none⟩ vn) vn ps'/\(A.setCell ⟨w.heap.size+1,0,none⟩ vn).heap[w.heap.size+2]?=some (.cells #[vl] 107 (0,0)):=by
 have n2:some w.heap.size≠vp.ownBlock:=aU i4 i2 (by decide);have n3:some (w.heap.size+1)≠vp.ownBlock:=aU i4 i3 (by decide);have n5:some (w.heap.size+2)≠vp.ownBlock:=aU i4 i5 (by decide);have TB:∀k,k<W.heap.size->some k≠vp.ownBlock->A.heap[k]?=W.heap[k]?:=fun k hk hn=>(hg.block k (jK hk h2.size) hn).trans (h2.block k hk)
 have cj:∀k,k<W.heap.size->k≠w.heap.size+1->some k≠vp.ownBlock->(A.setCell ⟨w.heap.size+1,0,none⟩ vn).heap[k]?=W.heap[k]?:=fun k hk D4 hn=>(Below.heap_setCell _ _ _ _ D4).trans (TB k hk hn)
 have a3:=(TB _ (lt_of_heap i3) n3).trans i3;have lj:(A.setCell ⟨w.heap.size+1,0,none⟩ vn).heap.size=A.heap.size:=World.size_setCell ..;have hle:W.heap.size<=(A.setCell ⟨w.heap.size+1,0,none⟩ vn).heap.size:=by rw[lj];exact jS h2.size hg.size
 have hB:Below w.heap.size W (A.setCell ⟨w.heap.size+1,0,none⟩ vn):=⟨hg.os.trans h2.os,hg.tape.trans h2.tape,hg.output.trans h2.output,hle,fun k hk=>cj k (jK hk i1.size) (by omega) (fun e=>by have:=(i4.lt k e.symm).1;omega)⟩;have r5:=(cj _ (lt_of_heap i5) (by omega) n5).trans i5;refine⟨⟨hle,fun k ob hk hc=> ?_⟩,⟨hB,by rw[cell_of_heap r5,cell_of_heap i5]⟩,i1.trans hB,hle,(cj _ (lt_of_heap i2) (by omega) n2).trans i2,?_,aS fL _ (fun e=>aU fL a3 (by decide) e.symm),r5⟩
 ·have ne:∀{j:Nat} {cs:Array Value} {e:TypeId} {f:Nat×Nat},W.heap[j]?=some (.cells cs e f)->k≠j:=fun hj e=>by
   subst e;rw[hk]at hj;cases hj
   simp[Obj.isCells]at hc
  rw[cj k (lt_of_heap hk) (ne i3) (fun e=> ?_)]
  ·exact hk
  ·rcases i4.2 with⟨e',-⟩|⟨g,cap,cur,e',-,G2,-⟩
   ·rw[e']at e;cases e
   ·rw[e']at e;simp only[Value.ownBlock,Option.some.injEq]at e;exact ne G2 e
 ·exact(Aux.heap_setCell_same a3 0 vn).trans rfl
section
variable {x a:Nat} {w:World}
set_option maxRecDepth 100000 in
set_option maxHeartbeats 8000000 in
theorem Ra (xY:w.cell? ⟨x,0,none⟩=some (.pointer (some ⟨a,0,none⟩)))(D6:x<w.heap.size){q:QP}{v u:Value}(hq:PQ w a q v u)(jy:0<q.locals.length)(rB:q.locals.length<=12):
  Calls Tryz.prog 176 #[.pointer (some ⟨x,0,none⟩)] w fun e w'=>∃ad c,e=.returned (.slice ad (fi q q.locals.length).length c)/\aI w.heap.size w' (.slice ad (fi q q.locals.length).length c) (fi q q.locals.length)/\Below w.heap.size w w':=by
 refine(callsIn_wide (n:=3)).1 ?_;obtain⟨g,cap,rfl,jw,hg,-⟩:=ku hq.loc 0 jy;have NP:∀j,j<q.locals.length->w.cell? ⟨g,j*2,none⟩=some (.string (bs (q.locals.getD j ([],0)).1))/\w.cell? ⟨g,j*2+1,none⟩=some (.int .i64 ((q.locals.getD j ([],0)).2:Nat)):=fun j hj=>by
  obtain⟨g',cap',e,-,-,c1,c2⟩:=ku hq.loc j hj;simp only[Value.slice.injEq,Option.some.injEq,Addr.mk.injEq,and_true,true_and]at e;obtain⟨rfl,-⟩:=e;exact⟨c1,c2⟩
 obtain⟨V1,AF⟩:∃V1,w.alloc (.cells #[.pointer (some ⟨x,0,none⟩)] 206)=V1:=⟨_,rfl⟩;have aG:Below w.heap.size w V1:=by rw[<-AF];exact(Below.refl _ _).alloc (jC _) _
 have iQ:V1.heap.size=w.heap.size+1:=by rw[<-AF];simp
 have lh:V1.heap[w.heap.size]?=some (.cells #[.pointer (some ⟨x,0,none⟩)] 206 (0,0)):=by rw[<-AF];exact jD
 obtain⟨V2,YQ⟩:∃V2,V1.alloc (.cells #[.slice none 0 0] 112)=V2:=⟨_,rfl⟩;have bH:Below V1.heap.size V1 V2:=by rw[<-YQ];exact(Below.refl _ _).alloc (jC _) _
 have Cc:V2.heap.size=w.heap.size+2:=by rw[<-YQ];simp[iQ]
 have pM:V2.heap[w.heap.size+1]?=some (.cells #[.slice none 0 0] 112 (0,0)):=by rw[<-YQ,<-iQ];exact jD
 have Ue:Below w.heap.size w V2:=aG.trans (bH.mono (by omega));have X0:=(bH.block w.heap.size (by omega)).trans lh;have m0:V2.cell? ⟨w.heap.size,0,none⟩=some (.pointer (some ⟨x,0,none⟩)):=by rw[cell_of_heap X0];rfl
 have m1:V2.cell? ⟨x,0,none⟩=some (.pointer (some ⟨a,0,none⟩)):=(Ue.cell (p:=⟨x,0,none⟩) D6).trans xY;have G7:=hq.aM;have m2:V2.cell? ⟨a,0,none⟩=some (.slice (some ⟨g,0,none⟩) q.locals.length cap):=(Ue.cell (p:=⟨a,0,none⟩) (lt_of_heap G7)).trans (by rw[cell_of_heap G7];rfl);refine callsIn_of_wp_marks Tryz.func176 rfl trivial ?_ rfl;simp only[Tryz.ntmps176,List.size_toArray,List.length_cons,List.length_nil,Nat.reduceAdd,Nat.reduceSub,Array.replicate_succ,Array.replicate_zero,List.push_toArray,List.append_toArray,List.nil_append,List.cons_append]
 gi_wp2_with (refine⟨trivial,?_⟩;gi_at_call 101;refine(JS _ _ trivial rfl _ _ _ _).mono ?_;rintro e w' ⟨rfl,rfl⟩)
 clear AF YQ;have cT:Below V2.heap.size V2 (V2.alloc (.cells #[.slice (some ⟨g,0,none⟩) q.locals.length cap] 107)):=(Below.refl _ _).alloc (jC _) _;have zf:(V2.alloc (.cells #[.slice (some ⟨g,0,none⟩) q.locals.length cap] 107)).heap[w.heap.size+2]?=some (.cells #[.slice (some ⟨g,0,none⟩) q.locals.length cap] 107 (0,0)):=by rw[<-Cc];exact jD
 have Ph:(V2.alloc (.cells #[.slice (some ⟨g,0,none⟩) q.locals.length cap] 107)).heap.size=w.heap.size+3:=by simp[Cc]
 obtain⟨W1,oU⟩:∃W1,V2.alloc (.cells #[.slice (some ⟨g,0,none⟩) q.locals.length cap] 107)=W1:=⟨_,rfl⟩;rw[oU]at cT zf Ph⊢;have hr13:=(cT.block w.heap.size (by omega)).trans X0;have hr23:=(cT.block (w.heap.size+1) (by omega)).trans pM;have Uf:Below w.heap.size w W1:=Ue.trans (cT.mono (by omega));have AG:W1.cell? ⟨w.heap.size+2,0,none⟩=some (.slice (some ⟨g,0,none⟩) q.locals.length cap):=by rw[cell_of_heap zf];rfl
 refine wpIn_rangeFunc_ownF rfl (by decide) (gf:=157) (lb:= #[.pointer (some ⟨w.heap.size+2,0,none⟩)]) rfl trivial (enters_of Tryz.func157 (by kernel_rfl) rfl)
  (yy _ _ trivial rfl (by decide) (w.heap.size+2) w.heap.size g cap q.locals (by omega) hg jw W1 (by omega) (by omega) AG (fun j hj=>⟨(Uf.cell (p:=⟨g,j*2,none⟩) hg).trans (NP j hj).1,(Uf.cell (p:=⟨g,j*2+1,none⟩) hg).trans (NP j hj).2⟩))
  (fun h1 h2=>⟨h1.1.trans h2.1,h2.2.trans h1.2⟩)
  (fun W l ob ob' hl hk hc _=>⟨belowK_b (w:=W1) (by omega) W l ob ob' hl hk hc (by assumption),by
   have dB:W1.heap.size<=l:=hl;simp only[World.cell?];rw[World.putObj_heap_other (by show w.heap.size+2≠l;omega)]⟩)
  (Below.refl _ _) (fun _=>rfl)
  (fun pre W=>∃vp,Below w.heap.size w W/\W1.heap.size<=W.heap.size/\W.heap[w.heap.size]?=some (.cells #[.pointer (some ⟨x,0,none⟩)] 206 (0,0))/\W.heap[w.heap.size+1]?=some (.cells #[vp] 112 (0,0))/\aI w.heap.size W vp (si q pre)/\W.heap[w.heap.size+2]?=some (.cells #[.slice (some ⟨g,0,none⟩) q.locals.length cap] 107 (0,0)))
  (fun _ _ _=>False)
  (fun pre W W' row hs oy hr=>by
   obtain⟨vp,i1,i0,i2,i3,i4,i5⟩:=hs;have pM:∀r,row=some r->∃ob:Obj,W.heap[r]?=some ob/\ob.isCells=false:=fun r e=>(hr r e).2
   refine⟨vp,i1.trans ⟨oy.os,oy.tape,oy.output,oy.size,fun k hk=>oy.block k (by omega) (fun e=>by have:=(hr k e.symm).1;omega)⟩,jS i0 oy.size,?_,?_,i4.kept oy (DL i4 pM),?_⟩
   ·rw[oy.block _ (lt_of_heap i2) (kF i2 pM)];exact i2
   ·rw[oy.block _ (lt_of_heap i3) (kF i3 pM)];exact i3
   ·rw[oy.block _ (lt_of_heap i5) (kF i5 pM)];exact i5)
  (fun _ _ _ _ _ hs _ _=>hs)
  ⟨.slice none 0 0,Uf,jC _,hr13,hr23,World.ownsRow_nil _ _ _ _,zf⟩
  (fun y=>{tmps:= #[.pointer (some ⟨x,0,none⟩),.pointer (some ⟨w.heap.size,0,none⟩),.slice none 0 0,.pointer (some ⟨w.heap.size+1,0,none⟩),.int .i64 (y.val:Int),.pointer (some ⟨x,0,none⟩),.pointer (some ⟨x,0,none⟩),.pointer (some ⟨x,0,none⟩),.pointer (some ⟨a,0,none⟩),.pointer (some ⟨a,0,none⟩),.pointer (some ⟨a,0,none⟩),.slice (some ⟨g,0,none⟩) q.locals.length cap,.func (.func 157) #[] #[.pointer (some ⟨w.heap.size+2,0,none⟩)],.int .i64 (y.val:Int),Sl q.locals y.val,undef,undef,undef,undef,undef,undef,undef,undef,undef,undef],defers:=[]}) ?assign ?body ?done ?stop
 case assign=>
  intro l y W K hK;unfold Ol
  gi_wp2
  exact hK
 case body=>
  rintro l pre y W ⟨vp,i1,i0,i2,i3,i4,i5⟩ ee;have hd:1<=3-1-1:=by omega
  have hmx:Tryz.prog.follows .mixedOrders=true:=by kernel_rfl
  have c1:W.cell? ⟨w.heap.size,0,none⟩=some (.pointer (some ⟨x,0,none⟩)):=by rw[cell_of_heap i2];rfl
  have c2:W.cell? ⟨w.heap.size+1,0,none⟩=some vp:=by rw[cell_of_heap i3];rfl
  have c3:W.cell? ⟨x,0,none⟩=some (.pointer (some ⟨a,0,none⟩)):=(i1.cell (p:=⟨x,0,none⟩) D6).trans xY;have hyl:y.val<q.locals.length:=y.isLt;have lX:Below w.heap.size w W.drew:=⟨i1.os,i1.tape,i1.output,i1.size,i1.block⟩;have KB:Calls Tryz.prog 175 #[.pointer (some ⟨a,0,none⟩),.agg #[.int .i64 (y.val:Int),.int .i64 0]] W.drew _:=BL q (y.val,0) _ u a W.drew ((lX.block a (lt_of_heap G7)).trans G7) (qu hq.loc lX) (by omega) hyl;have Vu:=Eg q pre;have kN:=BN q (y.val,0);have HL:Hid _:=Le q pre y;have V4:Hid _:=i4;have HI3:Hid _:=i3;obtain⟨bq,Z5⟩:∃bq,bT q (y.val,0)=bq:=⟨_,rfl⟩;rw[Z5]at KB kN;have HBQ:Hid (bT q (y.val,0)=bq):=Z5;clear Z5;have HB:Hid (∀{w2:World} {ad2:Option Addr} {c2':Nat},aI W.drew.heap.size w2 (.slice ad2 bq.length c2') bq->Below W.drew.heap.size W.drew w2->BB w2 vp (.slice ad2 bq.length c2')/\w2.cell? ⟨w.heap.size+1,0,none⟩=some vp/\(xK w2 vp (.slice ad2 bq.length c2')).cell? ⟨w.heap.size+1,0,none⟩=some vp/\(xK w2 vp (.slice ad2 bq.length c2')).frozen? ⟨w.heap.size+1,0,none⟩=false/\∃an cn,CK w2 vp (.slice ad2 bq.length c2')=.slice an ((si q pre).length+bq.length) cn/\Hid (aI w.heap.size (xK w2 vp (.slice ad2 bq.length c2')) (.slice an ((si q pre).length+bq.length) cn) (si q (pre++[y]))/\w2.grownBy (xK w2 vp (.slice ad2 bq.length c2')) vp.ownBlock/\Below W.heap.size W w2)):=fun{w2 ad2 c2'} me h2=>by
   have LL:Below W.heap.size W w2:=⟨h2.os,h2.tape,h2.output,h2.size,h2.block⟩;have i4':=aw V4.out LL;obtain⟨ok,fL,oy,ez⟩:=Rd i4' me (by omega) (by have:=i1.size;have:=LL.size;omega);have d2:w2.cell? ⟨w.heap.size+1,0,none⟩=some vp:=(LL.cell (p:=⟨w.heap.size+1,0,none⟩) (lt_of_heap i3)).trans c2;have j3:=(LL.block (w.heap.size+1) (lt_of_heap i3)).trans i3;have k3:=(oy.block (w.heap.size+1) (lt_of_heap j3) (aU i4' j3 (by decide))).trans j3;obtain⟨an,cn,eV⟩:=xp fL;have eL:si q pre++bq=si q (pre++[y]):=by rw[HL.out,HBQ.out]
   rw[jV]at eV;refine⟨ok,d2,(cell_of_heap k3 0).trans rfl,frozen_of_heap k3 0,an,cn,eV,?_,oy,LL⟩;rw[<-eL,<-eV];exact fL
  gi_wp2
  refine wpIn_region_any (by assumption) ?_;change wpAnyIn _ _ _ _ _ _ _ _ _ (World.drew _);refine BA (by kernel_rfl) _ _ _ _ ?_;refine wpAnyIn_take (i:=5) (v:=_) rfl rfl (by kernel_rfl) (by kernel_rfl) (by kernel_rfl) (fun _ _ _ h=>h) ⟨Or.inl ⟨by rfl,by intro w;go_simp;first|done|with_reducible rfl⟩,fun _=>rfl⟩ ?_;refine wpAnyIn_take (i:=6) (v:=_) rfl rfl (by kernel_rfl) (by kernel_rfl) (by kernel_rfl) (fun _ _ _ h=>h) ⟨Or.inl ⟨by rfl,by intro w;go_simp;first|done|with_reducible rfl⟩,fun _=>rfl⟩ ?_;refine wpAnyIn_ready (rs:=[0,1]) (by kernel_rfl) (by simp) ?_;refine AllReadyIn.cons rfl (fun K hK=> ?_) ?_
  ·go_simp
   refine hK _ _ ?_;clear hK K;refine wpAnyIn_ready (rs:=[1]) (by kernel_rfl) (by simp) ?_;refine AllReadyIn.cons rfl (fun K hK=> ?_) AllReadyIn.nil;go_simp
   refine hK _ _ ?_;clear hK K;refine wpAnyIn_take (i:=2) (v:=_) rfl rfl (by kernel_rfl) (by kernel_rfl) (by kernel_rfl) (fun _ _ _ h=>h) ⟨Or.inl ⟨by rfl,by intro w;go_simp;first|done|with_reducible rfl⟩,fun _=>rfl⟩ ?_;refine wpAnyIn_take (i:=3) (v:=_) rfl rfl (by kernel_rfl) (by kernel_rfl) (by kernel_rfl) (fun _ _ _ h=>h) ⟨Or.inl ⟨by rfl,by intro w;go_simp;first|done|with_reducible rfl⟩,fun _=>rfl⟩ ?_;refine wpAnyIn_ready (rs:=[4]) (by kernel_rfl) (by simp) ?_;refine AllReadyIn.cons rfl (fun K hK=> ?_) AllReadyIn.nil;go_simp
   refine hK _ _ ?_;clear hK K;refine wpAnyIn_ready (rs:=[7]) (by kernel_rfl) (by simp) ?_;refine AllReadyIn.cons rfl (fun K hK=> ?_) AllReadyIn.nil;go_simp
   gi_wp2_with (refine⟨trivial,?_⟩;gi_at_call 175;refine(callsIn_wide.2 KB).mono ?_;rintro e w2 ⟨ad2,c2',rfl,me,h2⟩;obtain⟨ok,d2,e2,e3,an,cn,eV,HX⟩:=HB.out me h2)
   refine wpAnyIn_ready (rs:=[8]) (by kernel_rfl) (by simp) ?_;refine AllReadyIn.cons rfl (fun K hK=> ?_) AllReadyIn.nil;go_simp
   refine hK _ _ ?_;clear hK K;refine wpAnyIn_ready (rs:=[9]) (by kernel_rfl) (by simp) ?_;refine AllReadyIn.cons rfl (fun K hK=> ?_) AllReadyIn.nil;go_simp
   refine hK _ _ ?_;clear hK K;refine wpAnyIn_done (by kernel_rfl) ?_ _
   gi_wp2
   obtain⟨fL,oy,TY⟩:=HX.out;obtain⟨r1,r2,r3,r4,r5,r6,r7,r8⟩:=qj i1 i2 i3 V4.out i5 TY oy fL;exact⟨r1,r2,_,r3,jS i0 r4,r5,r6,r7,r8⟩
  refine AllReadyIn.cons rfl (fun K hK=> ?_) AllReadyIn.nil;go_simp
  refine hK _ _ ?_;clear hK K;refine wpAnyIn_take (i:=2) (v:=_) rfl rfl (by kernel_rfl) (by kernel_rfl) (by kernel_rfl) (fun _ _ _ h=>h) ⟨Or.inl ⟨by rfl,by intro w;go_simp;first|done|with_reducible rfl⟩,fun _=>rfl⟩ ?_;refine wpAnyIn_take (i:=3) (v:=_) rfl rfl (by kernel_rfl) (by kernel_rfl) (by kernel_rfl) (fun _ _ _ h=>h) ⟨Or.inl ⟨by rfl,by intro w;go_simp;first|done|with_reducible rfl⟩,fun _=>rfl⟩ ?_;refine wpAnyIn_ready (rs:=[0,4]) (by kernel_rfl) (by simp) ?_;refine AllReadyIn.cons rfl (fun K hK=> ?_) ?_
  ·go_simp
   refine hK _ _ ?_;clear hK K;refine wpAnyIn_ready (rs:=[4]) (by kernel_rfl) (by simp) ?_;refine AllReadyIn.cons rfl (fun K hK=> ?_) AllReadyIn.nil;go_simp
   refine hK _ _ ?_;clear hK K;refine wpAnyIn_ready (rs:=[7]) (by kernel_rfl) (by simp) ?_;refine AllReadyIn.cons rfl (fun K hK=> ?_) AllReadyIn.nil;go_simp
   gi_wp2_with (refine⟨trivial,?_⟩;gi_at_call 175;refine(callsIn_wide.2 KB).mono ?_;rintro e w2 ⟨ad2,c2',rfl,me,h2⟩;obtain⟨ok,d2,e2,e3,an,cn,eV,HX⟩:=HB.out me h2)
   refine wpAnyIn_ready (rs:=[8]) (by kernel_rfl) (by simp) ?_;refine AllReadyIn.cons rfl (fun K hK=> ?_) AllReadyIn.nil;go_simp
   refine hK _ _ ?_;clear hK K;refine wpAnyIn_ready (rs:=[9]) (by kernel_rfl) (by simp) ?_;refine AllReadyIn.cons rfl (fun K hK=> ?_) AllReadyIn.nil;go_simp
   refine hK _ _ ?_;clear hK K;refine wpAnyIn_done (by kernel_rfl) ?_ _
   gi_wp2
   obtain⟨fL,oy,TY⟩:=HX.out;obtain⟨r1,r2,r3,r4,r5,r6,r7,r8⟩:=qj i1 i2 i3 V4.out i5 TY oy fL;exact⟨r1,r2,_,r3,jS i0 r4,r5,r6,r7,r8⟩
  refine AllReadyIn.cons rfl (fun K hK=> ?_) AllReadyIn.nil;go_simp
  refine hK _ _ ?_;clear hK K;refine wpAnyIn_ready (rs:=[0,7]) (by kernel_rfl) (by simp) ?_;refine AllReadyIn.cons rfl (fun K hK=> ?_) ?_
  ·go_simp
   refine hK _ _ ?_;clear hK K;refine wpAnyIn_ready (rs:=[7]) (by kernel_rfl) (by simp) ?_;refine AllReadyIn.cons rfl (fun K hK=> ?_) AllReadyIn.nil;go_simp
   gi_wp2_with (refine⟨trivial,?_⟩;gi_at_call 175;refine(callsIn_wide.2 KB).mono ?_;rintro e w2 ⟨ad2,c2',rfl,me,h2⟩;obtain⟨ok,d2,e2,e3,an,cn,eV,HX⟩:=HB.out me h2)
   refine wpAnyIn_ready (rs:=[8]) (by kernel_rfl) (by simp) ?_;refine AllReadyIn.cons rfl (fun K hK=> ?_) AllReadyIn.nil;go_simp
   refine hK _ _ ?_;clear hK K;refine wpAnyIn_ready (rs:=[9]) (by kernel_rfl) (by simp) ?_;refine AllReadyIn.cons rfl (fun K hK=> ?_) AllReadyIn.nil;go_simp
   refine hK _ _ ?_;clear hK K;refine wpAnyIn_done (by kernel_rfl) ?_ _
   gi_wp2
   obtain⟨fL,oy,TY⟩:=HX.out;obtain⟨r1,r2,r3,r4,r5,r6,r7,r8⟩:=qj i1 i2 i3 V4.out i5 TY oy fL;exact⟨r1,r2,_,r3,jS i0 r4,r5,r6,r7,r8⟩
  refine AllReadyIn.cons rfl (fun K hK=> ?_) AllReadyIn.nil;go_simp
  gi_wp2_with (refine⟨trivial,?_⟩;gi_at_call 175;refine(callsIn_wide.2 KB).mono ?_;rintro e w2 ⟨ad2,c2',rfl,me,h2⟩;obtain⟨ok,d2,e2,e3,an,cn,eV,HX⟩:=HB.out me h2)
  refine wpAnyIn_ready (rs:=[0]) (by kernel_rfl) (by simp) ?_;refine AllReadyIn.cons rfl (fun K hK=> ?_) AllReadyIn.nil;go_simp
  refine hK _ _ ?_;clear hK K;refine wpAnyIn_ready (rs:=[8]) (by kernel_rfl) (by simp) ?_;refine AllReadyIn.cons rfl (fun K hK=> ?_) AllReadyIn.nil;go_simp
  refine hK _ _ ?_;clear hK K;refine wpAnyIn_ready (rs:=[9]) (by kernel_rfl) (by simp) ?_;refine AllReadyIn.cons rfl (fun K hK=> ?_) AllReadyIn.nil;go_simp
  refine hK _ _ ?_;clear hK K;refine wpAnyIn_done (by kernel_rfl) ?_ _
  gi_wp2
  obtain⟨fL,oy,TY⟩:=HX.out;obtain⟨r1,r2,r3,r4,r5,r6,r7,r8⟩:=qj i1 i2 i3 V4.out i5 TY oy fL;exact⟨r1,r2,_,r3,jS i0 r4,r5,r6,r7,r8⟩
 case done=>
  rintro D ys W hD rfl ⟨vp,i1,i0,i2,i3,i4,i5⟩ hK;have lq:=Ef (N:=q.locals.length) q q.locals.length (jC _);rw[Nat.sub_self,fi,List.append_nil]at lq;rw[lq]at i4;have c3:W.cell? ⟨w.heap.size+1,0,none⟩=some vp:=by rw[cell_of_heap i3];rfl
  gi_wp2
  refine⟨by simp,.inl ⟨_,_,rfl,run_takeDeferred hK,?_⟩⟩;have Te:∀r,some D=some r->W1.heap.size<=r/\∃ob:Obj,W.heap[r]?=some ob/\ob.isCells=false:=fun r e=>by cases e;exact⟨hD,_,hK,rfl⟩
  have oy:=grownBy_putObj' W D (.deferred none);obtain⟨an,cn,rfl⟩:=xp i4;exact⟨_,results_tmp rfl _ _ _,an,cn,rfl,i4.kept oy (DL i4 (fun r e=>(Te r e).2)),i1.trans ⟨oy.os,oy.tape,oy.output,oy.size,fun k hk=>oy.block k (by have:=i1.size;omega) (fun e=>by have:=(Te k e.symm).1;omega)⟩⟩
 case stop=>
  rintro D c pre W _ _ hx _;exact hx.elim
theorem N6:NV:=fun _ _ _ _ _ _ h0 h1 h2 h3 h4=>Ra h0 h1 h2 h3 h4
end
end El
namespace El
open Go Go.RowKit Sq Aux PrjF PrjG PrjJ PrjK PrjL PrjM PrjS FlwA FlwE
def gm (a:Nat)(ve:Value)(un:List Bool)(vb:Value)(k:Nat):List Value:=.pointer (some ⟨a,0,none⟩)::ve::(un.map Value.bool++[vb,.int .i64 (k:Nat)])
structure Fr (O:Nat->Prop)(w:World)(O':Nat->Prop)(w':World):Prop where
 os:w'.os=w.os
 tape:w'.tape=w.tape
 output:w'.output=w.output
 size:w.heap.size<=w'.heap.size
 block:∀k,k<w.heap.size->¬O k->w'.heap[k]?=w.heap[k]?
 new:∀k,O' k->O k\/w.heap.size<=k
structure fx (z:Nat)(w0:World)(x a:Nat)(ve:Value)(w:World)(un:List Bool)(m:Mk)(O:Nat->Prop)(vb:Value)(us:List Value)(vss:List (List (Value×Value))):Prop where
 K9:z<=w0.heap.size
 aM:w.heap[x]?=some (.cells (gm a ve un vb m.at_).toArray 142 (0,0))
 ul:un.length=24
 aZ:Below w0.heap.size w0 w
 blocks:w.ownsRow z 106 1 vb m.blocks.length us
 vl:vss.length=m.blocks.length
 each:∀j,j<m.blocks.length->dD z w (us.getD j undef) (m.blocks.getD j []) (vss.getD j [])
 apart:∀i j,i<j->j<m.blocks.length->(us.getD i undef).ownBlock=none\/(us.getD i undef).ownBlock≠(us.getD j undef).ownBlock
 ox:O x
 ob:∀k,vb.ownBlock=some k->O k
 ou:∀j,j<m.blocks.length->∀k,(us.getD j undef).ownBlock=some k->O k
 hi:∀k,O k->w0.heap.size<=k/\k<w.heap.size
def cH (z:Nat)(w0:World)(x a:Nat)(ve:Value)(w:World)(un:List Bool)(m:Mk)(O:Nat->Prop):Prop:=∃vb us vss,fx z w0 x a ve w un m O vb us vss
section
variable {z x a:Nat} {w0 w w1 w2 w3 w':World} {ve vb v':Value} {un:List Bool} {m:Mk} {O O1 O2:Nat->Prop} {us:List Value} {vss:List (List (Value×Value))}
theorem Fr.refl (O:Nat->Prop)(w:World):Fr O w O w:=⟨rfl,rfl,rfl,jC _,fun _ _ _=>rfl,fun _ h=> .inl h⟩
theorem Fr.trans (h:Fr O w O1 w1)(h':Fr O1 w1 O2 w2):Fr O w O2 w2:=by
 refine⟨h'.os.trans h.os,h'.tape.trans h.tape,h'.output.trans h.output,jS h.size h'.size,fun k hk hn=> ?_,fun k hk=> ?_⟩
 ·rw[h'.block k (jK hk h.size) (fun e=> ?_)]
  ·exact h.block k hk hn
  ·rcases h.new k e with e|e
   ·exact hn e
   ·omega
 ·rcases h'.new k hk with e|e
  ·exact h.new k e
  ·exact .inr (jS h.size e)
theorem Fr.of (h:Below w.heap.size w w1):Fr O w O w1:=⟨h.os,h.tape,h.output,h.size,fun k hk _=>h.block k hk,fun _ h=> .inl h⟩
theorem Fr.below (h:Fr O w O1 w1){b:Nat}(hb:b<=w.heap.size)(hO:∀k,O k->b<=k):Below b w w1:=
 ⟨h.os,h.tape,h.output,h.size,fun k hk=>h.block k (by omega) (fun e=>by have:=hO k e;omega)⟩
theorem fx.lt (h:fx z w0 x a ve w un m O vb us vss):x<w.heap.size:=lt_of_heap h.aM
theorem fx.SQ (h:fx z w0 x a ve w un m O vb us vss):us.length=m.blocks.length:=by have:=h.blocks.1;omega
theorem fx.below (h:fx z w0 x a ve w un m O vb us vss)(hb:Below w.heap.size w w1):fx z w0 x a ve w1 un m O vb us vss:=
 ⟨h.K9,by rw[hb.block x h.lt];exact h.aM,h.ul,h.aZ.trans (hb.mono h.aZ.size),aw h.blocks hb,h.vl,fun j hj=>(h.each j hj).below hb,h.apart,h.ox,h.ob,h.ou,fun k hk=>⟨(h.hi k hk).1,jK (h.hi k hk).2 hb.size⟩⟩
theorem cH.below (h:cH z w0 x a ve w un m O)(hb:Below w.heap.size w w1):cH z w0 x a ve w1 un m O:=by
 obtain⟨vb,us,vss,h⟩:=h;exact⟨vb,us,vss,h.below hb⟩
theorem TC (a:Nat)(ve:Value)(vb:Value)(k:Nat)(h:un.length=24):(gm a ve un vb k)[0]?=some (.pointer (some ⟨a,0,none⟩))/\(gm a ve un vb k)[1]?=some ve/\(∀j,j<24->(gm a ve un vb k)[2+j]?=some (.bool (un.getD j false)))/\(gm a ve un vb k)[26]?=some vb/\(gm a ve un vb k)[27]?=some (.int .i64 (k:Nat)):=by
 refine⟨rfl,rfl,fun j hj=> ?_,?_,?_⟩
 ·rw[Nat.add_comm];show(un.map Value.bool++[vb,.int .i64 (k:Nat)])[j]?=_
  rw[jg (by simp[h];exact hj),jJ,jB (by omega),jA,jB (by omega)];rfl
 ·show(un.map Value.bool++[vb,.int .i64 (k:Nat)])[24]?=_
  rw[jf (by simp[h])];simp[h]
 ·show(un.map Value.bool++[vb,.int .i64 (k:Nat)])[25]?=_
  rw[jf (by simp[h])];simp[h]
theorem fx.facts (h:fx z w0 x a ve w un m O vb us vss):w.cell? ⟨x,0,none⟩=some (.pointer (some ⟨a,0,none⟩))/\w.cell? ⟨x,1,none⟩=some ve/\w.cell? ⟨x,26,none⟩=some vb/\w.cell? ⟨x,27,none⟩=some (.int .i64 (m.at_:Nat))/\w.frozen? ⟨x,26,none⟩=false/\w.frozen? ⟨x,27,none⟩=false:=by
 obtain⟨h0,h1,-,h3,h4⟩:=TC a ve vb m.at_ h.ul;exact⟨by rw[cell_of_heap h.aM];simpa using h0,by rw[cell_of_heap h.aM];simpa using h1,by rw[cell_of_heap h.aM];simpa using h3,by rw[cell_of_heap h.aM];simpa using h4,frozen_of_heap h.aM 26,frozen_of_heap h.aM 27⟩
theorem fx.U7 (h:fx z w0 x a ve w un m O vb us vss){j:Nat}(hj:j<24):w.cell? ⟨x,2+j,none⟩=some (.bool (un.getD j false))/\w.frozen? ⟨x,2+j,none⟩=false:=
 ⟨by rw[cell_of_heap h.aM];simpa using(TC a ve vb m.at_ h.ul).2.2.1 j hj,frozen_of_heap h.aM _⟩
structure qg (z:Nat)(w:World)(ad:Addr)(ls:List ab)(vs:List (Value×Value)):Prop where
 len:vs.length=ls.length
 cells:∀j u,(bd ls vs)[j]?=some u->w.cell? (ad.add j)=some u
 each:∀j,j<ls.length->aC z w (ls.getD j ab.nil) (vs.getD j (undef,undef)).1 (vs.getD j (undef,undef)).2
theorem qY:∀(ls:List ab) (vs:List (Value×Value)),vs.length=ls.length->(bd ls vs).length=ls.length*6
 |[],vs,_=>by simp[bd]
 |l::ls,[],h=>by simp at h
 |l::ls,v::vs,h=>by
  have ih:=qY ls vs (by simpa using h);have e:bd (l::ls) (v::vs)=dO (l,v)++bd ls vs:=rfl;rw[e,jV,ih];show 6+_=_
  simp only[List.length_cons];omega
theorem fx.put (h:fx z w0 x a ve w un m O vb us vss)(mX:m.at_<m.blocks.length){ls:List ab}{vs:List (Value×Value)}{ad:Addr}(hL:qg z w ad ls vs)(h2:Below w.heap.size w w2)
  {gb cb:Nat} (AM:vb=.slice (some ⟨gb,0,none⟩) m.blocks.length cb) (hat':∀g,v'.ownBlock=some g->(us.getD m.at_ undef).ownBlock=some g\/w2.heap.size<=g)
  (h3:w3.ownsRow z 115 6 v' ((m.blocks.getD m.at_ []).length+ls.length) (bd (m.blocks.getD m.at_ []) (vss.getD m.at_ [])++bd ls vs)) (hg:w2.grownBy w3 (us.getD m.at_ undef).ownBlock):
  fx z w0 x a ve (w3.setCell ⟨gb,m.at_,none⟩ v') un (m.put ls) (fun k=>O k\/(w.heap.size<=k/\k<w3.heap.size)) vb (us.set m.at_ v') (vss.set m.at_ (vss.getD m.at_ []++vs))/\Fr O w (fun k=>O k\/(w.heap.size<=k/\k<w3.heap.size)) (w3.setCell ⟨gb,m.at_,none⟩ v'):=by
 have H:=h.below h2;have hu:=h.SQ;obtain⟨n,L6⟩:∃n,n=m.at_:=⟨_,rfl⟩;rw[<-L6]at mX h3 hg hat';have HN:=H.each n mX;have lg:some x≠(us.getD n undef).ownBlock:=aU HN.row H.aM (by decide);have dj:w3.heap[x]?=some (.cells (gm a ve un vb m.at_).toArray 142 (0,0)):=by rw[hg.block x H.lt lg];exact H.aM
 have Za:w3.ownsRow z 106 1 vb m.blocks.length us:=H.blocks.kept hg (dF H.blocks HN.row (by decide));obtain⟨g',cap,cur,e,hzg,Dc,jw,O0,lj,Ty⟩:∃g' cap cur,vb=.slice (some ⟨g',0,none⟩) m.blocks.length cap/\z<=g'/\w3.heap[g']?=some (.cells cur 106 (0,0))/\m.blocks.length<=cap/\cap<=maxLen/\cur.size=cap*1/\cur.toList.take (m.blocks.length*1)=us:=by
  rcases Za.2 with⟨e,-⟩|⟨g',cap,cur,e,r⟩
  ·rw[AM]at e;cases e
  ·exact⟨g',cap,cur,e,r⟩
 have:g'=gb:=by rw[AM]at e;simp only[Value.slice.injEq,Option.some.injEq,Addr.mk.injEq]at e;exact e.1.1.symm
 subst this;have hOg:O g':=h.ob g' (by rw[e];rfl);have R6:¬x=g':=fun ex=>by rw[ex,Dc]at dj;simp only[Option.some.injEq,Obj.cells.injEq]at dj;exact absurd dj.2.1 (by decide)
 have cj:∀{e:TypeId} {s:Nat} {v:Value} {n':Nat} {xs:List Value},w2.ownsRow z e s v n' xs->(v.ownBlock=none\/v.ownBlock≠(us.getD n undef).ownBlock)->e≠106->(w3.setCell ⟨g',n,none⟩ v').ownsRow z e s v n' xs:=by
  intro e s v n' xs hv dB he';have hk:=hv.kept hg dB;exact aS hk _ (aP hk Dc he')
 have eu:∀j,¬j=n->(us.set n v').getD j undef=us.getD j undef:=fun j hj=>by simp[List.getD_eq_getElem?_getD,List.getElem?_set_ne (Ne.symm hj)]
 have eun:(us.set n v').getD n undef=v':=by simp[List.getD_eq_getElem?_getD,hu,mX]
 have ebn:(m.put ls).blocks.getD n []=m.blocks.getD n []++ls:=by rw[l9 _ _ (by rw[<-L6];exact mX),jb L6]
 have eb:∀j,¬j=n->(m.put ls).blocks.getD j []=m.blocks.getD j []:=fun j hj=>by rw[l9 _ _ (by rw[<-L6];exact mX),ja (by rw[<-L6];exact hj)]
 have elen:=fH m ls;have ev:∀j,¬j=n->(vss.set n (vss.getD n []++vs)).getD j []=vss.getD j []:=fun j hj=>by simp[List.getD_eq_getElem?_getD,List.getElem?_set_ne (Ne.symm hj)]
 have evn:(vss.set n (vss.getD n []++vs)).getD n []=vss.getD n []++vs:=by simp[List.getD_eq_getElem?_getD,h.vl,mX]
 have ne2:∀{e:TypeId} {s:Nat} {v:Value} {n':Nat} {xs:List Value},e=119\/e=3->w2.ownsRow z e s v n' xs->(w3.setCell ⟨g',n,none⟩ v').ownsRow z e s v n' xs:=fun he hv=>
  cj hv (dF hv HN.row (by rcases he with rfl|rfl<;>decide)) (by rcases he with rfl|rfl<;>decide)
 have Ph:w3.heap.size<=(w3.setCell ⟨g',n,none⟩ v').heap.size:=by simp
 have hs3':(w3.setCell ⟨g',n,none⟩ v').heap.size=w3.heap.size:=by simp
 have QV:w.heap.size<=w3.heap.size:=jS h2.size hg.size;have J4:Fr O w (fun k=>O k\/(w.heap.size<=k/\k<w3.heap.size)) (w3.setCell ⟨g',n,none⟩ v'):=by
  refine⟨hg.os.trans h2.os,hg.tape.trans h2.tape,hg.output.trans h2.output,by simpa using QV,fun k hk hO=> ?_,fun k hk=> ?_⟩
  ·rw[Below.heap_setCell _ _ _ _ (by show k≠g';intro ek;rw[ek]at hO;exact hO hOg),hg.block k (jK hk h2.size) (fun ek=>hO (h.ou n mX k ek.symm))];exact h2.block k hk
  ·rcases hk with hk|hk
   ·exact .inl hk
   ·exact .inr hk.1
 have Ut:∀k,v'.ownBlock=some k->O k\/(w.heap.size<=k/\k<w3.heap.size):=fun k hk=>by
  rcases hat' k hk with e2|e2
  ·exact .inl (h.ou n mX k e2)
  ·exact .inr ⟨jS h2.size e2,(h3.lt k hk).2⟩
 rw[<-L6];refine⟨⟨h.K9,?_,h.ul,h.aZ.trans (J4.below h.aZ.size (fun k hk=>(h.hi k hk).1)),?_,by rw[elen];simpa using h.vl,fun j hj=> ?_,fun i j hij hj=> ?_,.inl h.ox,fun k hk=> .inl (h.ob k hk),fun j hj k hk=> ?_,fun k hk=> ?_⟩,J4⟩
 ·rw[Below.heap_setCell _ _ _ _ (by show x≠g';exact R6)];exact dj
 ·rw[elen];refine⟨by simp[hu],.inr ⟨g',cap,cur.setIfInBounds n v',e,hzg,Go.Proofs.YtmlgajhhnojdjaaGreatDoor.Aux.heap_setCell_same Dc n v',jw,O0,by simpa using lj,?_⟩⟩;rw[Array.toList_setIfInBounds,<-Ty,List.take_set]
 ·rw[elen]at hj;by_cases hjn:j=n
  ·subst hjn;rw[eun,ebn,evn];refine⟨by rw[jV,jV,HN.len,hL.len],?_,fun i hi=> ?_⟩
   ·have:=aS h3 (a:=⟨g',j,none⟩) v' (aP h3 Dc (by decide));have e2:bd (m.blocks.getD j []++ls) (vss.getD j []++vs)=bd (m.blocks.getD j []) (vss.getD j [])++bd ls vs:=by
     unfold bd;rw[List.zip_append HN.len.symm];simp
    rw[e2,jV];exact this
   ·rw[jV]at hi;by_cases bg:i<(m.blocks.getD j []).length
    ·have e1:(m.blocks.getD j []++ls).getD i ab.nil=(m.blocks.getD j []).getD i ab.nil:=by rw[jA,jg bg,<-jA]
     have e2:(vss.getD j []++vs).getD i (undef,undef)=(vss.getD j []).getD i (undef,undef):=by rw[jA,jg (by rw[HN.len];exact bg),<-jA]
     rw[e1,e2];exact(HN.each i bg).cj ne2
    ·have e1:(m.blocks.getD j []++ls).getD i ab.nil=ls.getD (i-(m.blocks.getD j []).length) ab.nil:=by rw[jA,jf (by omega),<-jA]
     have e2:(vss.getD j []++vs).getD i (undef,undef)=vs.getD (i-(m.blocks.getD j []).length) (undef,undef):=by rw[jA,jf (by rw[HN.len];omega),HN.len,<-jA]
     rw[e1,e2];exact((hL.each _ (by omega)).below h2).cj ne2
  ·rw[eu j hjn,eb j hjn,ev j hjn];refine(H.each j hj).cj (cj (H.each j hj).row ?_ (by decide)) ne2;rcases Nat.lt_or_gt_of_ne hjn with bg|bg
   ·exact h.apart j n bg mX
   ·rcases h.apart n j bg hj with e2|e2
    ·cases ho:(us.getD j undef).ownBlock with
     |none=>exact .inl rfl
     |some g=>right;rw[e2];simp
    ·exact .inr (Ne.symm e2)
 ·rw[elen]at hj;have EA:∀i,i<m.blocks.length->¬i=n->(us.getD i undef).ownBlock=none\/(us.getD i undef).ownBlock≠v'.ownBlock:=fun i hi lu=>by
   cases hx:(us.getD i undef).ownBlock with
   |none=>exact .inl rfl
   |some g0=>
    refine .inr fun hc=> ?_
    rcases hat' g0 hc.symm with e2|e2
    ·rcases Nat.lt_or_gt_of_ne lu with bg|bg
     ·rcases h.apart i n bg mX with e3|e3
      ·rw[hx]at e3;cases e3
      ·rw[hx,e2]at e3;exact e3 rfl
     ·rcases h.apart n i bg hi with e3|e3
      ·rw[e2]at e3;cases e3
      ·rw[hx,e2]at e3;exact e3 rfl
    ·have:=P3 (H.each i hi).row g0 hx;omega
  by_cases hjn:j=n
  ·subst hjn;rw[eu i (by omega),eun];exact EA i (by omega) (by omega)
  ·by_cases lu:i=n
   ·subst lu;rw[eun,eu j hjn];rcases EA j hj hjn with e2|e2
    ·cases hv:v'.ownBlock with
     |none=>exact .inl rfl
     |some g=>right;rw[e2];simp
    ·exact .inr (Ne.symm e2)
   ·rw[eu i lu,eu j hjn];exact h.apart i j hij hj
 ·rw[elen]at hj;by_cases hjn:j=n
  ·subst hjn;rw[eun]at hk;exact Ut k hk
  ·rw[eu j hjn]at hk;exact .inl (h.ou j hj k hk)
 ·rw[hs3'];rcases hk with hk|hk
  ·exact⟨(h.hi k hk).1,jK (h.hi k hk).2 QV⟩
  ·exact⟨jS h.aZ.size hk.1,hk.2⟩
end
end El
namespace Aux
open Go
section
variable {P:Program} (w:World)
theorem CL (t tx ty e e':TypeId)(i:TypeInfo)(ht:P.underlying t=some (.slice e))(hx:P.underlying tx=some (.slice e'))(hi:P.info? e=some i)(ao:Option Addr)(n c:Nat)(x:Value):(Builtin.append_ #[t,tx] ty #[.slice ao n c,x]).run P w=(Builtin.append_ #[t,t] ty #[.slice ao n c,x]).run P w:=by
 simp[Builtin.append_,run_underlying ht,run_underlying hx,sizeOf,typeInfo,hi]
theorem Js {ops:Array Oper}{o:Oper}{a:Act}{K:Act->World->Prop}{Q:Exit->Act->World->Prop}{E:Prop}(Iu:o.guard=none)(s x:Operand)(t tx:TypeId)
  (ho:o.op=.call {callee:=.builtin .append,args:= #[s,x],argTypes:= #[t,tx]})
  (base:Nat) (e:TypeId) (i:TypeInfo) (z:Value) (size bytes:Nat) (ht:P.underlying t=some (.slice e)) {e':TypeId} (htx:P.underlying tx=some (.slice e')) (hi:P.info? e=some i) (hz:i.zero=some z)
  (hsize:i.size=size) (OM:i.bytes=bytes) (hzs:z.cells.size=size) (lj:0<size)
  (v:Value) (n:Nat) (xs:List Value) (hs:a.eval s=v) (hown:w.ownsRow base e size v n xs)
  (ad:Addr) (m c:Nat) (news:List Value) (hx:a.eval x=.slice (some ad) m c) (hl:news.length=m*size) (hnews:∀j u,news[j]?=some u->w.cell? (ad.add j)=some u) (h1:∀u∈news,u.oneCell'=true)
  (hm:0<m) (h63:n+m<=maxLen) (hbytes:(n+m)*bytes<=140737488355328) (hbase:base<=w.heap.size) (H:Nat) (hH:w.heap.size=H)
  (h:∀g cap w',w'.ownsRow base e size (.slice (some ⟨g,0,none⟩) (n+m) cap) (n+m) (xs++news)->w.grownBy w' v.ownBlock->(v.ownBlock=some g\/g=H)->g<w'.heap.size->K (a.put o.dst (.slice (some ⟨g,0,none⟩) (n+m) cap)) w'):
  if Region.wanted o (yielded ops a.tmps)=true then Oper.wp P o a w K Q else E:=by
 have hw:Region.wanted o (yielded ops a.tmps)=true:=by simp[Region.wanted,Iu]
 rw[jb hw];obtain⟨g,cap,w',hr,h2,h3,h4,h5⟩:=run_append_lies (P:=P) w t o.type base e i z size bytes ht hi hz hsize OM hzs lj v n xs hown ad m c news hl hnews h1 hm h63 hbytes hbase H hH;obtain⟨ao,c0,hv⟩:∃ao c0,v=.slice ao n c0:=by
  rcases hown.2 with⟨e1,e2⟩|⟨g,cap,cur,e1,-⟩
  ·exact⟨none,0,by rw[e1,e2]⟩
  ·exact⟨_,cap,e1⟩
 rw[hv,<-CL w t tx o.type e e' i ht htx hi,<-hv]at hr;unfold Oper.wp execOp;simp only[ho,resolve,invoke,builtin,Sem.run_bind,Sem.run_pure,Result.andThen_ok,List.map_toArray,List.map_cons,List.map_nil,hs,hx,hr];exact h g cap w' h2 h3 h4 h5
end
end Aux
end Go.Proofs.YtmlgajhhnojdjaaGreatDoor

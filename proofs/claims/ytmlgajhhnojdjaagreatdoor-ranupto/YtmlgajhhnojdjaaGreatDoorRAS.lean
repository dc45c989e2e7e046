import Derived.Test.YtmlgajhhnojdjaaGreatDoorRAR
namespace Go.Proofs.YtmlgajhhnojdjaaGreatDoor
namespace Own
open Go Go.RowKit Go.Shelf Sq Aux PrjJ PrjK PrjL PrjM PrjR PrjS PrjT FlwA FlwB FlwD FlwE
attribute [local go_sem] Oper.semAt_some
theorem Gc (q:QP){N:Nat}:∀(ys:List (Fin N)) {o:Own} {t:Nat},o.In t->t+2*ys.length<=1000000->(yN q ys o).In (t+2*ys.length)
 |[],_,_,h,_=>h
 |y::ys,o,t,h,ht=>by
  have h2:=mq q (y.val,0);rw[jY]at ht;rw[jY,show t+2*(ys.length+1)=(t+2)+2*ys.length by omega];exact Gc q ys ((h.drop (QP.ae q (y.val,0)) (by omega)).mono (by omega)) (by omega)
theorem JX (q:QP){N:Nat}(ys:List (Fin N))(y:Fin N)(o:Own):yN q (ys++[y]) o=(yN q ys o).drop (QP.ae q (y.val,0)):=by simp[yN]
section
variable {x a:Nat} {w w0:World} {vm vt vi:Value} {o:Own}
set_option maxRecDepth 100000 in
set_option maxHeartbeats 4000000 in
theorem Gb (h:dp w0 x a w o vi vm vt){q:QP}{v u:Value}{t:Nat}(hq:PQ w0 a q v u)(zM:0<q.locals.length)(hl12:q.locals.length<=12)(lg:o.In t)(ht:t<=900000)(qw:Pow w0)(oM:11<=w0.heap.size):
  Calls Tryz.prog 64 #[.pointer (some ⟨x,0,none⟩)] w fun e w'=>e=.returned (.tuple #[])/\∃vm' vt',dp w0 x a w' (o.dN q q.locals.length) vi vm' vt'/\aN x vm vt w vm' vt' w':=by
 refine(callsIn_wide (n:=3)).1 ?_;obtain⟨g,cap,rfl,kM,hg,-⟩:=se hq.loc 0 zM;have YQ:∀j,j<q.locals.length->w0.cell? ⟨g,j*2,none⟩=some (.string (bs (q.locals.getD j ([],0)).1))/\w0.cell? ⟨g,j*2+1,none⟩=some (.int .i64 ((q.locals.getD j ([],0)).2:Nat)):=fun j hj=>by
  obtain⟨g',cap',e,-,-,c1,c2⟩:=se hq.loc j hj;simp only[Value.slice.injEq,Option.some.injEq,Addr.mk.injEq,and_true,true_and]at e;obtain⟨rfl,-⟩:=e;exact⟨c1,c2⟩
 have aw:Below w.heap.size w (w.alloc (.cells #[.pointer (some ⟨x,0,none⟩)] 170)):=(Below.refl _ _).alloc (jC _) _;have H1:=h.below aw;have m1:=H1.prog;have Q1:=hq.below H1.br;have m2:(w.alloc (.cells #[.pointer (some ⟨x,0,none⟩)] 170)).cell? ⟨a,0,none⟩=some (.slice (some ⟨g,0,none⟩) q.locals.length cap):=by rw[cell_of_heap Q1.aJ];rfl
 refine callsIn_of_wp_marks Tryz.func64 rfl trivial ?_ rfl;simp only[Tryz.ntmps64,List.size_toArray,List.length_cons,List.length_nil,Nat.reduceAdd,Nat.reduceSub,Array.replicate_succ,Array.replicate_zero,List.push_toArray,List.append_toArray,List.nil_append,List.cons_append]
 gi_wp2_with (refine⟨trivial,?_⟩;gi_at_call 101;refine(Uj _ _ trivial rfl _ _ _ _).mono ?_;rintro e w' ⟨rfl,rfl⟩)
 have bU:Below w.heap.size w ((w.alloc (.cells #[.pointer (some ⟨x,0,none⟩)] 170)).alloc (.cells #[.slice (some ⟨g,0,none⟩) q.locals.length cap] 107)):=aw.alloc aw.size _;have H2:=h.below bU;have lv:((w.alloc (.cells #[.pointer (some ⟨x,0,none⟩)] 170)).alloc (.cells #[.slice (some ⟨g,0,none⟩) q.locals.length cap] 107)).heap[w.heap.size]?=some (.cells #[.pointer (some ⟨x,0,none⟩)] 170 (0,0)):=by
  rw[Below.heap_alloc _ _ _ (by simp)];exact jD
 have mn:((w.alloc (.cells #[.pointer (some ⟨x,0,none⟩)] 170)).alloc (.cells #[.slice (some ⟨g,0,none⟩) q.locals.length cap] 107)).heap[w.heap.size+1]?=some (.cells #[.slice (some ⟨g,0,none⟩) q.locals.length cap] 107 (0,0)):=by
  have:=World.alloc_heap_new (w.alloc (.cells #[.pointer (some ⟨x,0,none⟩)] 170)) (.cells #[.slice (some ⟨g,0,none⟩) q.locals.length cap] 107)
  rwa [World.size_alloc]at this
 have oa:((w.alloc (.cells #[.pointer (some ⟨x,0,none⟩)] 170)).alloc (.cells #[.slice (some ⟨g,0,none⟩) q.locals.length cap] 107)).cell? ⟨w.heap.size+1,0,none⟩=some (.slice (some ⟨g,0,none⟩) q.locals.length cap):=by rw[cell_of_heap mn];rfl
 have Ca:((w.alloc (.cells #[.pointer (some ⟨x,0,none⟩)] 170)).alloc (.cells #[.slice (some ⟨g,0,none⟩) q.locals.length cap] 107)).heap.size=w.heap.size+2:=by simp
 have qT:=h.br.size;obtain⟨W1,tj⟩:∃W1,((w.alloc (.cells #[.pointer (some ⟨x,0,none⟩)] 170)).alloc (.cells #[.slice (some ⟨g,0,none⟩) q.locals.length cap] 107))=W1:=⟨_,rfl⟩;rw[tj]at bU H2 lv mn oa Ca⊢;refine wpIn_rangeFunc_ownF rfl (by decide) (gf:=157) (lb:= #[.pointer (some ⟨w.heap.size+1,0,none⟩)]) rfl trivial (enters_of Tryz.func157 (by kernel_rfl) rfl)
  (JH _ _ trivial rfl (by decide) (w.heap.size+1) w0.heap.size g cap q.locals (by omega) hg kM W1 (by omega) (by omega) oa (fun j hj=>⟨(H2.br.cell (p:=⟨g,j*2,none⟩) hg).trans (YQ j hj).1,(H2.br.cell (p:=⟨g,j*2+1,none⟩) hg).trans (YQ j hj).2⟩))
  (fun h1 h2=>⟨h1.1.trans h2.1,h2.2.trans h1.2⟩)
  (fun W l ob ob' hl hk hc _=>⟨belowK_b (w:=W1) (by omega) W l ob ob' hl hk hc (by assumption),by
   have ec:W1.heap.size<=l:=hl;simp only[World.cell?];rw[World.putObj_heap_other (by show w.heap.size+1≠l;omega)]⟩)
  (Below.refl _ _) (fun _=>rfl)
  (fun pre W=>∃vm' vt',dp w0 x a W (yN q pre o) vi vm' vt'/\aN x vm vt W1 vm' vt' W/\W.heap[w.heap.size]?=some (.cells #[.pointer (some ⟨x,0,none⟩)] 170 (0,0))/\W.heap[w.heap.size+1]?=some (.cells #[.slice (some ⟨g,0,none⟩) q.locals.length cap] 107 (0,0)))
  (fun _ _ _=>False)
  (fun pre W W' row hs T6 hr=>by
   obtain⟨vm',vt',i1,i2,i3,i4⟩:=hs;have Kq:∀r,row=some r->∃ob:Obj,W.heap[r]?=some ob/\ob.isCells=false:=fun r e=>(hr r e).2
   refine⟨vm',vt',i1.FK T6 (fun r e=>⟨by have:=(hr r e).1;omega,(hr r e).2⟩),i2.FK T6 (fun r e=>(hr r e).1),?_,?_⟩
   ·rw[T6.block _ (lt_of_heap i3) (vg i3 Kq)];exact i3
   ·rw[T6.block _ (lt_of_heap i4) (vg i4 Kq)];exact i4)
  (fun _ _ _ _ _ hs _ _=>hs)
  ⟨vm,vt,H2,aN.refl _ _ _ _,lv,mn⟩
  (fun y=>{tmps:= #[.pointer (some ⟨x,0,none⟩),.pointer (some ⟨w.heap.size,0,none⟩),.int .i64 (y.val:Int),.pointer (some ⟨x,0,none⟩),.pointer (some ⟨x,0,none⟩),.pointer (some ⟨x,3,none⟩),.pointer (some ⟨a,0,none⟩),.pointer (some ⟨a,0,none⟩),.pointer (some ⟨a,0,none⟩),.slice (some ⟨g,0,none⟩) q.locals.length cap,.func (.func 157) #[] #[.pointer (some ⟨w.heap.size+1,0,none⟩)],.int .i64 (y.val:Int),Yf q.locals y.val,undef,undef,undef,undef,undef,undef,undef,undef,undef],defers:=[]}) ?assign ?body ?done ?stop
 case assign=>
  intro l y W K hK;unfold Uw
  gi_wp2
  exact hK
 case body=>
  rintro l pre y W ⟨vm',vt',i1,i2,i3,i4⟩ gM;have hd:1<=3-1-1:=by omega
  have hmx:Tryz.prog.follows .mixedOrders=true:=by kernel_rfl
  have c1:W.cell? ⟨w.heap.size,0,none⟩=some (.pointer (some ⟨x,0,none⟩)):=by rw[cell_of_heap i3];rfl
  have c3:=i1.prog;have i1d:=i1.drew;have QW:=hq.below i1d.br;have hyl:y.val<q.locals.length:=y.isLt;have KH:Calls Tryz.prog 102 #[.pointer (some ⟨a,0,none⟩),.agg #[.int .i64 (y.val:Int),.int .i64 0]] W.drew _:=ef q (y.val,0) _ u a W.drew QW.aJ QW.loc hyl;have hdi:=Gc q pre lg (by omega);have hin2:=cD (q:=q) (x:=(y.val,0)) (n:=12) (by show y.val<12;omega);have T7:=mq q (y.val,0);have KD:=fun(V:World) (hV:dp w0 x a V (yN q pre o) vi vm' vt') (zz gg cc:Nat) (hP:bP zz V (.slice (some ⟨gg,0,none⟩) (QP.ae q (y.val,0)).length cc) (QP.ae q (y.val,0)))=>fY hV hP hin2 (by omega) hdi.bx (hdi.sz (by omega)) (by omega) qw oM
  have hds:=JX q pre y o
  gi_wp2
  gi_region_with_o (first
   |(refine⟨trivial,?_⟩;gi_at_call 102;refine(CallsIn.inRound l (callsIn_wide.2 KH)).mono ?_;rintro e w2 ⟨g2,c2,rfl,zk,h2⟩;have iN:=i1d.below h2;have d1:w2.cell? ⟨w.heap.size,0,none⟩=some (.pointer (some ⟨x,0,none⟩)):=(h2.cell (p:=⟨w.heap.size,0,none⟩) (lt_of_heap i3)).trans c1)
   |(refine⟨trivial,?_⟩;gi_at_call 60;refine(CallsIn.inRound l (callsIn_wide.2 (KD _ iN _ g2 c2 zk))).mono ?_;rintro e w3 ⟨rfl,vm3,vt3,h3,r3⟩))
  all_goals gi_wp2
  all_goals
   have r:aN x vm' vt' W vm3 vt3 w3:=((aN.of (jh W)).trans (aN.of h2)).trans r3;have j3:=i1.SQ r i3 (by decide) (by decide) (by decide);have j4:=i1.SQ r i4 (by decide) (by decide) (by decide);exact⟨r.keeps i1,⟨r.below i1.kb (jC _) i1.br.size,by rw[cell_of_heap j4,cell_of_heap i4]⟩,vm3,vt3,by rw[hds];exact h3,i2.trans r,j3,j4⟩
 case done=>
  rintro D ys W hD rfl ⟨vm',vt',i1,i2,i3,i4⟩ hK;have xS:=C4 q (N:=q.locals.length) o q.locals.length (jC _);rw[Nat.sub_self,Own.dN]at xS;rw[xS]at i1
  gi_wp2
  refine⟨by simp,.inl ⟨_,_,rfl,run_takeDeferred hK,?_⟩⟩;have hab:∀r,some D=some r->W1.heap.size<=r/\∃ob:Obj,W.heap[r]?=some ob/\ob.isCells=false:=fun r e=>by cases e;exact⟨hD,_,hK,rfl⟩
  exact⟨_,results_none rfl _ _ _,rfl,vm',vt',i1.FK (grownBy_putObj' W D _) (fun r e=>⟨by have:=(hab r e).1;omega,(hab r e).2⟩),((aN.of bU).trans i2).FK (grownBy_putObj' W D _) (fun r e=>by have:=(hab r e).1;omega)⟩
 case stop=>
  rintro D c pre W _ _ hx _;exact hx.elim
end
end Own
namespace Aux
open Go
def goTo (P:Program)(c:Code)(Q:Exit->Act->World->Prop):Exit->Act->World->Prop
 | .goto l,a,w=>∃r,findLabel c l=some r/\r.wp P (Exit.noGoto Q) a w
 |e,a,w=>Q e a w
section
variable {P:Program} {a:Act} {w:World} {Q:Exit->Act->World->Prop} {c:Code}
theorem Jj (h:c.wp P (goTo P c Q) a w):(Code.scope c).wp P Q a w:=by
 intro b k cs;obtain⟨e,a₁,w₁,hq,zl⟩:=h b (.inScope c::k) cs;cases e with
 |normal=>exact⟨.normal,a₁,w₁,hq,.head step_scope (Steps.trans zl (.one step_inScope))⟩
 |exit id=>exact⟨.exit id,a₁,w₁,hq,fun k' hk=> .head step_scope (zl k' (by simp[exitTo,hk]))⟩
 |goto l=>
  obtain⟨r,hf,hr⟩:=hq;have hg:gotoIn l (.inScope c::k)=some (.code r:: .inScope c::k):=by simp[gotoIn,hf]
  obtain⟨e₂,a₂,w₂,hq₂,zl₂⟩:=hr b (.inScope c::k) cs;have h1:=zl _ hg;cases e₂ with
  |normal=>exact⟨.normal,a₂,w₂,hq₂,.head step_scope (Steps.trans h1 (Steps.trans zl₂ (.one step_inScope)))⟩
  |exit id=>exact⟨.exit id,a₂,w₂,hq₂,fun k' hk=> .head step_scope (Steps.trans h1 (zl₂ k' (by simp[exitTo,hk])))⟩
  |goto l'=>exact hq₂.elim
  |ret=>exact⟨_,a₂,w₂,hq₂,.of_steps (.head step_scope h1) zl₂⟩
  |panic ch=>exact⟨_,a₂,w₂,hq₂,.of_steps (.head step_scope h1) zl₂⟩
  |outgrown=>exact⟨_,a₂,w₂,hq₂,.of_steps (.head step_scope h1) zl₂⟩
 |ret=>exact⟨_,a₁,w₁,hq,.of_steps (.one step_scope) zl⟩
 |panic ch=>exact⟨_,a₁,w₁,hq,.of_steps (.one step_scope) zl⟩
 |outgrown=>exact⟨_,a₁,w₁,hq,.of_steps (.one step_scope) zl⟩
def xZ (J:Nat->Act->World->Prop)(Q:Exit->Act->World->Prop):Exit->Act->World->Prop
 | .goto l,a,w=>J l a w
 |e,a,w=>Q e a w
theorem Cv {J:Nat->Act->World->Prop}:xZ J Q .normal a w=Q .normal a w:=rfl
theorem Hc {J:Nat->Act->World->Prop}(id:Nat):xZ J Q (.exit id) a w=Q (.exit id) a w:=rfl
theorem Ld {J:Nat->Act->World->Prop}:xZ J Q .ret a w=Q .ret a w:=rfl
theorem EE {J:Nat->Act->World->Prop}(ch:List PanicEntry):xZ J Q (.panic ch) a w=Q (.panic ch) a w:=rfl
theorem Hd {J:Nat->Act->World->Prop}(l:Nat):xZ J Q (.goto l) a w=J l a w:=rfl
theorem Jk (h:∀J:Nat->Act->World->Prop,(∀l r a w,findLabel c l=some r->r.wp P (Exit.noGoto Q) a w->J l a w)->c.wp P (xZ J Q) a w):(Code.scope c).wp P Q a w:=by
 refine Jj ?_;have:=h (fun l a w=>∃r,findLabel c l=some r/\r.wp P (Exit.noGoto Q) a w) (fun l r a w h1 h2=>⟨r,h1,h2⟩);refine Code.wp_mono (fun e a w he=> ?_) this;cases e<;>exact he
end
end Aux
namespace Own
open Go Go.RowKit Sq Aux PrjJ PrjK PrjL PrjM FlwA FlwB
def bM (u v:Value):List Value:=[.slice none 0 0,.int .i64 0,.slice none 0 0,u,v]++List.replicate 36 (.int .i64 0)
def Wz (v:Value):Prop:=∃p,v=.pointer p
def isSl (v:Value):Prop:=∃ad l c,v=.slice ad l c
@[simp] theorem Y3 (p : Option Addr) : Wz (.pointer p) = True := eq_true ⟨p, rfl⟩
@[simp] theorem isSl_sl (ad : Option Addr) (l c : Nat) : isSl (.slice ad l c) = True := eq_true ⟨ad, l, c, rfl⟩
theorem CD (p ad:Option Addr)(l c:Nat)(w:World):(Instr.build 104 #[(1,.pointer p),(2,.slice ad l c)]).run Tryz.prog w=.ok (.agg (bM (.pointer p) (.slice ad l c)).toArray) w:=by
 kernel_rfl
theorem CC (w:World):(Instr.alloc 104 true (.tuple #[])).run Tryz.prog w=.ok (.pointer (some ⟨w.heap.size,0,none⟩)) (w.alloc (.cells (bM (.pointer none) (.slice none 0 0)).toArray 104)):=by
 kernel_rfl
theorem vV (u v:Value):(bM u v).length=41:=rfl
theorem Kx:(Tryz.prog.info? 104).map (·.size)=some 41:=by kernel_rfl
def Wy (v:Value):Prop:=∃p ad l c,v=.agg (bM (.pointer p) (.slice ad l c)).toArray
@[simp] theorem Y2 (p ad : Option Addr) (l c : Nat) : Wy (.agg (bM (.pointer p) (.slice ad l c)).toArray) = True := eq_true ⟨p, ad, l, c, rfl⟩
def JE:Value->List Value
 | .agg xs=>xs.toList
 |_=>[]
@[simp] theorem Zh (u v : Value) : JE (.agg (bM u v).toArray) = bM u v := rfl
def Mv (w:World)(v:Value):Prop:=∃b,v=.pointer (some ⟨b,0,none⟩)/\w.there b 0 41
def MB:Value->Nat
 | .pointer (some ad)=>ad.block
 |_=>0
@[simp] theorem YD (ad : Addr) : MB (.pointer (some ad)) = ad.block := rfl
theorem VF (p ad:Option Addr)(l c:Nat):∀u∈bM (.pointer p) (.slice ad l c),u.oneCell'=true:=by
 intro u hu;simp only[bM,List.cons_append,List.nil_append,List.mem_cons,List.mem_replicate]at hu;rcases hu with rfl|rfl|rfl|rfl|rfl|⟨-,rfl⟩<;>rfl
section
variable (d:Option Tmp) (x y:Operand) (t:TypeId) (ps:String) (af:Array Edge) (g:Option (Nat×Bool)) (a:Act) (w:World) (K:Act->World->Prop) (Q:Exit->Act->World->Prop)
theorem Fq (h:Wz (a.eval x))(h':isSl (a.eval y)):Oper.wp Tryz.prog {dst:=d,op:=Op.build 104 #[(1,x),(2,y)],type:=t,pos:=ps,after:=af,guard:=g} a w K Q=K (a.put d (.agg (bM (a.eval x) (a.eval y)).toArray)) w:=by
 obtain⟨p,hp⟩:=h;obtain⟨ad,l,c,hs⟩:=h';have:=CD p ad l c w;unfold Oper.wp execOp;simp only[List.map_toArray,List.map_cons,List.map_nil,hp,hs,Sem.run_bind,Sem.run_pure,Result.andThen_ok,this];rfl
theorem Fp:Oper.wp Tryz.prog {dst:=d,op:=Op.alloc 104,type:=t,pos:=ps,after:=af,guard:=g} a w K Q=K (a.put d (.pointer (some ⟨w.heap.size,0,none⟩))) (w.alloc (.cells (bM (.pointer none) (.slice none 0 0)).toArray 104)):=by
 have:=CC w;unfold Oper.wp execOp;simp only[Sem.run_bind,Sem.run_pure,Result.andThen_ok,this];rfl
theorem Fu (h:Mv w (a.eval x))(h':Wy (a.eval y)):Oper.wp Tryz.prog {dst:=d,op:=Op.store 104 x y,type:=t,pos:=ps,after:=af,guard:=g} a w K Q=K (a.put d undef) (w.setCells (MB (a.eval x)) 0 (JE (a.eval y))):=by
 obtain⟨b,hb,hh⟩:=h;obtain⟨p,ad,l,c,hy⟩:=h';have:=run_storeAt_mid (P:=Tryz.prog) w b 0 104 (bM (.pointer p) (.slice ad l c)).toArray hh Kx (all_oneCell_toArray (VF p ad l c));unfold Oper.wp execOp;simp only[hb,hy,Sem.run_bind,Sem.run_pure,Result.andThen_ok,this];rfl
theorem IQ (w:World)(u v:Value):Mv (w.alloc (.cells (bM u v).toArray 104)) (.pointer (some ⟨w.heap.size,0,none⟩)):=by
 refine⟨_,rfl,fun j hj=> ?_⟩;have h:(w.alloc (.cells (bM u v).toArray 104)).heap[w.heap.size]?=some (.cells (bM u v).toArray 104 (0,0)):=jD;refine⟨?_,frozen_of_heap h _⟩;rw[cell_of_heap h,Nat.zero_add];simp only[List.getElem?_toArray];rw[jB (by rw[vV];exact hj)];rfl
end
theorem ET (w:World)(u v u' v':Value):((w.alloc (.cells (bM u v).toArray 104)).setCells w.heap.size 0 (bM u' v')).heap[w.heap.size]?=some (.cells (bM u' v').toArray 104 (0,0))/\Below w.heap.size w ((w.alloc (.cells (bM u v).toArray 104)).setCells w.heap.size 0 (bM u' v')):=by
 have h:(w.alloc (.cells (bM u v).toArray 104)).heap[w.heap.size]?=some (.cells (bM u v).toArray 104 (0,0)):=jD;refine⟨?_,az ((Below.refl _ _).alloc (jC _) _) (jC _) _ _⟩;obtain⟨cs',h1,h2,h3⟩:=eL w.heap.size (bM u' v') 0 _ _ _ _ h;have e:cs'=(bM u' v').toArray:=by
  apply Array.ext_getElem?
  intro j;rw[h3];by_cases hj:j<41
  ·rw[jb (by simp[vV];exact hj)];simp
  ·rw[ja (by simp[vV];omega),Array.getElem?_eq_none (by simp[vV];omega),Array.getElem?_eq_none (by simp[vV];omega)]
 rw[h1,e]
end Own
namespace Mac
open Go Go.RowKit Sq Aux Go.Proofs.YtmlgajhhnojdjaaGreatDoor.Own
def rowAt (w:World):Value->Array Value
 | .pointer (some ad)=>((List.range 24).map fun j=>(w.cell? ⟨ad.block,ad.off+j,none⟩).getD undef).toArray
 |_=> #[]
def Ac (w:World)(v:Value):Prop:=∃b off cs,v=.pointer (some ⟨b,off,none⟩)/\cs.length=24/\w.rangeAt b off cs/\rowAt w v=cs.toArray
theorem Ta {w:World}{b off:Nat}{cs:List Value}(hl:cs.length=24)(h:∀j,j<24->w.cell? ⟨b,off+j,none⟩=cs[j]?):rowAt w (.pointer (some ⟨b,off,none⟩))=cs.toArray/\Ac w (.pointer (some ⟨b,off,none⟩)):=by
 have e:rowAt w (.pointer (some ⟨b,off,none⟩))=cs.toArray:=by
  show((List.range 24).map fun j=>(w.cell? ⟨b,off+j,none⟩).getD undef).toArray=_
  congr 1;apply List.ext_getElem?
  intro n;rw[jJ];by_cases hn:n<24
  ·rw[List.getElem?_range hn,Option.map_some,h n hn,jB (by omega)];rfl
  ·rw[jG (by simp;omega),jG (by omega)];rfl
 refine⟨e,b,off,cs,rfl,hl,fun j v hv=> ?_,e⟩;have hj:j<24:=by
  rw[<-hl];exact(List.getElem?_eq_some_iff.1 hv).1
 rw[h j hj];exact hv
section
variable (d:Option Tmp) (x:Operand) (t:TypeId) (ps:String) (af:Array Edge) (g:Option (Nat×Bool)) (a:Act) (w:World) (K:Act->World->Prop) (Q:Exit->Act->World->Prop)
theorem Dj:(Tryz.prog.info? 89).map (·.size)=some 24:=by kernel_rfl
theorem GZ:(Tryz.prog.info? 90).map (·.size)=some 24:=by kernel_rfl
theorem Fs (h:Ac w (a.eval x)):Oper.wp Tryz.prog {dst:=d,op:=Op.load 89 x,type:=t,pos:=ps,after:=af,guard:=g} a w K Q=K (a.put d (.agg (rowAt w (a.eval x)))) w:=by
 obtain⟨b,off,cs,hb,hl,hr,he⟩:=h;have:=run_loadVar_mid (P:=Tryz.prog) w b off 89 cs _ hr Tryz.underlying89 rfl (by rw[hl];exact Dj);rw[he];unfold Oper.wp execOp;simp only[hb,Instr.loadAt,Instr.sureAddr,Sem.run_bind,Sem.run_pure,Result.andThen_ok,this];rfl
theorem Ji (h:Ac w (a.eval x)):Oper.wp Tryz.prog {dst:=d,op:=Op.load 90 x,type:=t,pos:=ps,after:=af,guard:=g} a w K Q=K (a.put d (.agg (rowAt w (a.eval x)))) w:=by
 obtain⟨b,off,cs,hb,hl,hr,he⟩:=h;have:=run_loadVar_mid (P:=Tryz.prog) w b off 90 cs _ hr Tryz.underlying90 rfl (by rw[hl];exact GZ);rw[he];unfold Oper.wp execOp;simp only[hb,Instr.loadAt,Instr.sureAddr,Sem.run_bind,Sem.run_pure,Result.andThen_ok,this];rfl
end
def mP (b:Fin 3):List Value:=List.replicate 24 (if b=0 then .int .i64 0 else .int .u8 0)
theorem BJ (w:World):(Instr.alloc 89 true (.tuple #[])).run Tryz.prog w=.ok (.pointer (some ⟨w.heap.size,0,none⟩)) (w.alloc (.cells (mP 0).toArray (Cw 0))):=by
 kernel_rfl
theorem CB (w:World):(Instr.alloc 90 true (.tuple #[])).run Tryz.prog w=.ok (.pointer (some ⟨w.heap.size,0,none⟩)) (w.alloc (.cells (mP 1).toArray (Cw 1))):=by
 kernel_rfl
def DY (w:World)(v:Value):Prop:=∃b,v=.pointer (some ⟨b,0,none⟩)/\w.there b 0 24
def zO (v:Value):Prop:=∃xs:List Value,v=.agg xs.toArray/\xs.length=24/\∀u∈xs,u.oneCell'=true
section
variable (d:Option Tmp) (x y:Operand) (t:TypeId) (ps:String) (af:Array Edge) (g:Option (Nat×Bool)) (a:Act) (w:World) (K:Act->World->Prop) (Q:Exit->Act->World->Prop)
theorem CK:Oper.wp Tryz.prog {dst:=d,op:=Op.alloc 89,type:=t,pos:=ps,after:=af,guard:=g} a w K Q=K (a.put d (.pointer (some ⟨w.heap.size,0,none⟩))) (w.alloc (.cells (mP 0).toArray (Cw 0))):=by
 have:=BJ w;unfold Oper.wp execOp;simp only[Sem.run_bind,Sem.run_pure,Result.andThen_ok,this];rfl
theorem Fo:Oper.wp Tryz.prog {dst:=d,op:=Op.alloc 90,type:=t,pos:=ps,after:=af,guard:=g} a w K Q=K (a.put d (.pointer (some ⟨w.heap.size,0,none⟩))) (w.alloc (.cells (mP 1).toArray (Cw 1))):=by
 have:=CB w;unfold Oper.wp execOp;simp only[Sem.run_bind,Sem.run_pure,Result.andThen_ok,this];rfl
theorem CM (h:DY w (a.eval x))(h':zO (a.eval y)):Oper.wp Tryz.prog {dst:=d,op:=Op.store 89 x y,type:=t,pos:=ps,after:=af,guard:=g} a w K Q=K (a.put d undef) (w.setCells (MB (a.eval x)) 0 (JE (a.eval y))):=by
 obtain⟨b,hb,hh⟩:=h;obtain⟨xs,hy,hl,ho⟩:=h';have:=run_storeAt_mid (P:=Tryz.prog) w b 0 89 xs.toArray (by rw[List.size_toArray,hl];exact hh) (by rw[List.size_toArray,hl];exact Dj) (all_oneCell_toArray ho);unfold Oper.wp execOp;simp only[hb,hy,Sem.run_bind,Sem.run_pure,Result.andThen_ok,this];rfl
theorem Ft (h:DY w (a.eval x))(h':zO (a.eval y)):Oper.wp Tryz.prog {dst:=d,op:=Op.store 90 x y,type:=t,pos:=ps,after:=af,guard:=g} a w K Q=K (a.put d undef) (w.setCells (MB (a.eval x)) 0 (JE (a.eval y))):=by
 obtain⟨b,hb,hh⟩:=h;obtain⟨xs,hy,hl,ho⟩:=h';have:=run_storeAt_mid (P:=Tryz.prog) w b 0 90 xs.toArray (by rw[List.size_toArray,hl];exact hh) (by rw[List.size_toArray,hl];exact GZ) (all_oneCell_toArray ho);unfold Oper.wp execOp;simp only[hb,hy,Sem.run_bind,Sem.run_pure,Result.andThen_ok,this];rfl
end
theorem sr (b:Fin 3):(mP b).length=24:=by simp[mP]
theorem IS (w:World)(b:Fin 3):DY (w.alloc (.cells (mP b).toArray (Cw b))) (.pointer (some ⟨w.heap.size,0,none⟩)):=by
 refine⟨_,rfl,fun j hj=> ?_⟩;have h:(w.alloc (.cells (mP b).toArray (Cw b))).heap[w.heap.size]?=some (.cells (mP b).toArray (Cw b) (0,0)):=jD;refine⟨?_,frozen_of_heap h _⟩;rw[cell_of_heap h,Nat.zero_add];simp only[List.getElem?_toArray];rw[jB (by rw[sr];exact hj)];rfl
theorem Nf (w:World)(b:Fin 3)(cs:List Value)(hl:cs.length=24):((w.alloc (.cells (mP b).toArray (Cw b))).setCells w.heap.size 0 cs).heap[w.heap.size]?=some (.cells cs.toArray (Cw b) (0,0))/\Below w.heap.size w ((w.alloc (.cells (mP b).toArray (Cw b))).setCells w.heap.size 0 cs):=by
 have h:(w.alloc (.cells (mP b).toArray (Cw b))).heap[w.heap.size]?=some (.cells (mP b).toArray (Cw b) (0,0)):=jD;refine⟨?_,az ((Below.refl _ _).alloc (jC _) _) (jC _) _ _⟩;obtain⟨cs',h1,h2,h3⟩:=eL w.heap.size cs 0 _ _ _ _ h;have e:cs'=cs.toArray:=by
  apply Array.ext_getElem?
  intro j;rw[h3];by_cases hj:j<24
  ·rw[jb (by simp[hl,sr];exact hj)];simp
  ·rw[ja (by simp[hl,sr];omega),Array.getElem?_eq_none (by simp[sr];omega),Array.getElem?_eq_none (by simp[hl];omega)]
 rw[h1,e]
@[simp] theorem YC (l : List Nat) : JE (.agg (mF l).toArray) = mF l := rfl
@[simp] theorem WV (l : List UInt8) : JE (.agg (ey l).toArray) = ey l := rfl
theorem VO {l:List Nat}(h:l.length=24):zO (.agg (mF l).toArray):=⟨_,rfl,by rw[mF,jc,h],fun u hu=>by rw[mF,List.mem_map]at hu;obtain⟨n,-,rfl⟩:=hu;rfl⟩
theorem S9 {l:List UInt8}(h:l.length=24):zO (.agg (ey l).toArray):=⟨_,rfl,by rw[ey,jc,h],fun u hu=>by rw[ey,List.mem_map]at hu;obtain⟨n,-,rfl⟩:=hu;rfl⟩
section
variable {w0 w:World} {x:Nat} {f:Fx} {m:RM} {vb vt:Value}
theorem bO.UR (h:bO w0 x f w m vb vt):rowAt w (.pointer (some ⟨x,50,none⟩))=(mF m.held).toArray/\Ac w (.pointer (some ⟨x,50,none⟩)):=
 Ta h.len.l3 fun j hj=>by
  rw[(h.Et hj).1,mF,jJ,jB (by rw[h.len.held];exact hj),jA,jB (by rw[h.len.held];exact hj)];rfl
theorem bO.XQ (h:bO w0 x f w m vb vt):rowAt w (.pointer (some ⟨x,74,none⟩))=(ey m.ba).toArray/\Ac w (.pointer (some ⟨x,74,none⟩)):=
 Ta h.len.l4 fun j hj=>by
  rw[(h.qn hj).1,ey,jJ,jB (by rw[h.len.ba];exact hj),jA,jB (by rw[h.len.ba];exact hj)];rfl
end
end Mac
namespace Mac
open Go Go.RowKit Sq Aux PrjJ PrjK PrjL PrjM Go.Proofs.YtmlgajhhnojdjaaGreatDoor.Own RefRa RefP RefO
attribute [local go_sem ↓] Fs Ji CM Ft CK Fo
section
variable {w0 w w1 w2 w3:World} {x gw cw:Nat} {f:Fx} {m:RM} {p:RP} {ws:List B} {t:Nat} {vb vt:Value}
theorem RM.Ok.dc (h:m.Ok t)(c:UInt8)(i:Nat):∀n,(m.dc c i n).Ok t
 |0=>h
 |n+1=>(RM.Ok.dc h c i n).ba _
set_option maxRecDepth 20000 in
set_option maxHeartbeats 4000000 in
theorem DC (hC:Ctx w0 p f)(h:cd w0 x f w m)(hR:Row w0 ws gw)(hn:ws.length=3)(h1:Wd p (word ws 1))(h2:Wd p (word ws 2))(hw:word ws 0=[109,111,118,101]\/word ws 0=[115,111,109,101])(hO:m.Ok t)(ht:t<=2000000)(mr:sp p (word ws 1)+(p.ak (word ws 2)).2<=24):
  Calls Tryz.prog 154 #[.pointer (some ⟨x,0,none⟩),.slice (some ⟨gw,0,none⟩) ws.length cw] w fun e w'=>e=.returned (.tuple #[])/\cd w0 x f w' (m.owned p ws):=by
 obtain⟨hi,hi2,Wm,hn2⟩:=h2.lt hC.aW;obtain⟨hj,-⟩:=h1.lt hC.aW;have HG:Hid (m.owned p ws=(if word ws 0=qo then{RM.cU ((m.dc (dk (word ws 2)) (sp p (word ws 2)) (p.ak (word ws 2)).2).drop p (word ws 1)) m.held m.ba (sp p (word ws 1)) (sp p (word ws 2)) (p.ak (word ws 2)).2 with ba:=(RM.cU ((m.dc (dk (word ws 2)) (sp p (word ws 2)) (p.ak (word ws 2)).2).drop p (word ws 1)) m.held m.ba (sp p (word ws 1)) (sp p (word ws 2)) (p.ak (word ws 2)).2).ba.set (sp p (word ws 1)) 119}else RM.cU ((m.dc (dk (word ws 2)) (sp p (word ws 2)) (p.ak (word ws 2)).2).drop p (word ws 1)) m.held m.ba (sp p (word ws 1)) (sp p (word ws 2)) (p.ak (word ws 2)).2)):=rfl;have KS:=fun w' (hp:bf w' f.a p)=>kz p f.a (word ws 2) w' hp hC.ok h2.len h2.find
 have KL:=fun w'=>zR (word ws 2) w' h2.len
 rw[M0]at KL;have la:(ws.length:Int)=3:=by omega
 have e1:(p.ak (word ws 2)).1=sp p (word ws 2):=rfl;rw[e1]at KS;obtain⟨vb,vt,hV⟩:=h;obtain⟨c0,c1,c2,c3,c4,c5,c6,c7,c8,c9⟩:=hV.facts;have HP:=hC.prog.below (hV.below ((Below.refl w.heap.size w).drew)).br;have z2:=hR.at hV (j:=2) (by omega);go_enter Tryz.func154,Tryz.ntmps154
 go_upto_region 0 with fail
 go_region_law (go_simp;go_at_call 143;refine(KS _ HP).mono ?_;rintro e w1 ⟨rfl,n1,rfl⟩)
 all_goals
  have lf:bO w0 x f (w.drewN (1+n1)) m vb vt:=hV.below (below_drewN (Below.refl w.heap.size w) _);clear hV c0 c1 c2 c3 c4 c5 c6 c7 c8 c9 HP z2 KS;generalize w.drewN (1+n1)=wq at*;obtain⟨r1,r2⟩:=lf.UR;have hRm:=IS wq 0;have hRw:=VO lf.len.held;obtain⟨s1,s2⟩:=Nf wq 0 (mF m.held) lf.len.l3;go_upto_region 2 with fail
  have eR:=lf.below s2;generalize ((wq.alloc (Obj.cells (mP 0).toArray (Cw 0))).setCells wq.heap.size 0 (mF m.held))=W1 at*;clear r1 r2 hRm hRw;obtain⟨r3,r4⟩:=eR.XQ;have hRm:=IS W1 1;have hRw:=S9 eR.len.ba;obtain⟨s3,s4⟩:=Nf W1 1 (ey m.ba) eR.len.l4;go_upto_region 3 with fail
  have qt:=eR.below s4;have s5:=s4.block wq.heap.size (lt_of_heap s1);rw[s1]at s5;generalize ((W1.alloc (Obj.cells (mP 1).toArray (Cw 1))).setCells W1.heap.size 0 (ey m.ba))=W2 at*;obtain⟨F,hF⟩:∃F:Fx,F={f with kept:=(wq.heap.size,mF m.held,0)::(W1.heap.size,ey m.ba,1)::f.kept}:=⟨_,rfl⟩;have HM:Hid (cd w0 x F W2 (m.dc (dk (word ws 2)) (sp p (word ws 2)) 0)):=by
   subst hF;exact⟨vb,vt,⟨qt.base,qt.aJ,qt.boxes,qt.trace,qt.br,qt.len,fun e he=>by
    simp only[List.mem_cons]at he;rcases he with rfl|rfl|he
    ·exact s5
    ·exact s3
    ·exact qt.loc e he⟩⟩
  have K1:∀wr m',cd w0 x F wr m'->wr.heap[wq.heap.size]?=some (.cells (mF m.held).toArray (Cw 0) (0,0))/\wr.heap[W1.heap.size]?=some (.cells (ey m.ba).toArray (Cw 1) (0,0))/\wq.heap.size≠x/\W1.heap.size≠x:=by
   subst hF;rintro wr m' ⟨vb',vt',hX⟩;exact⟨hX.loc (wq.heap.size,mF m.held,0) (by simp),hX.loc (W1.heap.size,ey m.ba,1) (by simp),hX.apart (e:=(wq.heap.size,mF m.held,0)) (by simp),hX.apart (e:=(W1.heap.size,ey m.ba,1)) (by simp)⟩
  have KE:∀wr m',cd w0 x F wr m'->cd w0 x f wr m':=by
   subst hF;rintro wr m' ⟨vb',vt',hX⟩;exact⟨vb',vt',⟨hX.base,hX.aJ,hX.boxes,hX.trace,hX.br,hX.len,fun e he=>hX.loc e (by simp[he])⟩⟩
  have hCF:Ctx w0 p F:=by subst hF;exact⟨hC.prog,hC.ok,hC.aW⟩
  have V8:=hO.dc (dk (word ws 2)) (sp p (word ws 2));clear s1 s2 s3 s4 s5 r3 r4 hRm hRw lf eR qt hF;generalize wq.heap.size=b1 at*;generalize W1.heap.size=b2 at*;go_wp2_with fail
  clear hC hO;generalize lg:sp p (word ws 2)=i at*;generalize (p.ak (word ws 2)).2=n at*;generalize dk (word ws 2)=c at*;have HHG:Hid (_=_):=HG.out;clear HG e1;have hlh:∀j,j<24->(mF m.held)[j]?=some (.int .i64 ((m.held.getD j 0:Nat):Int)):=fun j hj=>by
   obtain⟨vb',vt',hX⟩:=HM.out;have e:m.held.length=24:=hX.len.held;rw[mF,jJ,jB (by rw[e];exact hj),jA,jB (by rw[e];exact hj)];rfl
  have UY:m.ba.length=24:=by
   obtain⟨vb',vt',hX⟩:=HM.out;exact hX.len.ba
  have hlw:∀j,j<24->(ey m.ba)[j]?=some (.int .u8 ((m.ba.getD j 0).toNat:Nat)):=fun j hj=>by
   rw[ey,jJ,jB (by rw[UY];exact hj),jA,jB (by rw[UY];exact hj)];rfl
  have HLH:Hid (∀j,j<24->(mF m.held)[j]?=some (.int .i64 ((m.held.getD j 0:Nat):Int))):=hlh;have HLW:Hid (∀j,j<24->(ey m.ba)[j]?=some (.int .u8 ((m.ba.getD j 0).toNat:Nat))):=hlw;clear hlh hlw UY;go_loopw [8] (fun v8 wr=>∃(j:Nat),j<=n/\v8=.int .i64 ((i+j:Nat):Int)/\Hid (cd w0 x F wr (m.dc c i j))) (fun v _=>i+n-(intOf v).toNat)
  case atStart=>exact⟨0,jQ _,by simp,HM⟩
  case round=>
   obtain⟨j,hj0,rfl,HJ⟩:=hrel;clear HM;by_cases aL:j<n
   ·obtain⟨vb',vt',hV⟩:=HJ.out;have zm:i+j<24:=by omega
    have i4:((i+j:Nat):Int)<24:=by omega
    have i5:((i+j:Nat):Int)<(i:Int)+n:=by omega
    obtain⟨a1,a2⟩:=hV.qn zm;have y2:=hR.at hV (j:=2) (by omega);have vE:Hid (m.dc c i (j+1)={m.dc c i j with ba:=(m.dc c i j).ba.set (i+j) c}):=rfl;generalize hmj:m.dc c i j=mj at*;generalize hk:i+j=k at*;go_upto_region 5 with fail
    go_region_law (go_simp;go_at_call 140;refine(KL _).mono ?_;rintro e w3 ⟨rfl,rfl⟩)
    all_goals
     have qt:=(hV.below ((Below.refl wr.heap.size wr).drew)).pX zm c;go_wp2_with fail
     refine⟨⟨j+1,by omega,by rw[<-Nat.add_assoc,hk];go_num,?_⟩,by simp[intOf];omega⟩;rw[vE.out];exact⟨_,_,qt⟩
   ·have i5:¬((i+j:Nat):Int)<(i:Int)+n:=by omega
    have ejn:j=n:=by omega
    subst ejn;obtain⟨vb',vt',hV⟩:=HJ.out;have y1:=hR.at hV (j:=1) (by omega);have KD:=fY hCF HJ.out h1 (V8 j) (by omega);go_wp2_with (first
     |(go_at_call 148;refine KD.mono ?_;rintro e w2 ⟨rfl,Ck⟩;have y3:=hR.on Ck (j:=1) (by omega);have KS2:=fc hCF Ck h1)
     |(go_at_call 149;refine KS2.mono ?_;rintro e w3 ⟨rfl,hM3⟩))
    have HM3:Hid (cd w0 x F w3 (RM.cU ((m.dc c i j).drop p (word ws 1)) m.held m.ba (sp p (word ws 1)) i 0)):=hM3;generalize sp p (word ws 1)=jj at*;generalize (m.dc c i j).drop p (word ws 1)=md at*;clear hV y1 y3 Ck hM3 HJ i5 KD KS2;go_loopw [10] (fun v10 wr=>∃(k:Nat),k<=j/\v10=.int .i64 ((k:Nat):Int)/\Hid (cd w0 x F wr (RM.cU md m.held m.ba jj i k))) (fun v _=>j-(intOf v).toNat)
    case atStart=>exact⟨0,jQ _,rfl,HM3⟩
    case round=>
     obtain⟨k,hk0,rfl,HK⟩:=hrel;clear HM3;by_cases aL:k<j
     ·obtain⟨vb',vt',hV⟩:=HK.out;obtain⟨t1,t2,t3,t4⟩:=K1 _ _ HK.out;have t5:=t3.symm;have t6:=t4.symm;have XE:i+k<24:=by omega
      have UW:jj+k<24:=by omega
      have q1:wr.cell? ⟨b1,i+k,none⟩=some (.int .i64 ((m.held.getD (i+k) 0:Nat):Int)):=by rw[cell_of_heap t1,List.getElem?_toArray];exact HLH.out _ XE
      have q2:wr.cell? ⟨b2,i+k,none⟩=some (.int .u8 ((m.ba.getD (i+k) 0).toNat:Nat)):=by rw[cell_of_heap t2,List.getElem?_toArray];exact HLW.out _ XE
      obtain⟨a1,a2⟩:=hV.Et UW;obtain⟨a3,a4⟩:=hV.qn UW;have n1:((i:Int)+k)=((i+k:Nat):Int):=by omega
      have n2:((jj:Int)+k)=((jj+k:Nat):Int):=by omega
      have n3:((i+k:Nat):Int)<24:=by omega
      have n4:((jj+k:Nat):Int)<24:=by omega
      have n5:((k:Nat):Int)<(j:Int):=by omega
      have n6:IntKind.i64.wrap ((i:Int)+k)=((i+k:Nat):Int):=by rw[IntKind.wrap_i64];omega
      have n7:IntKind.i64.wrap ((jj:Int)+k)=((jj+k:Nat):Int):=by rw[IntKind.wrap_i64];omega
      have vE:Hid (RM.cU md m.held m.ba jj i (k+1)={RM.cU md m.held m.ba jj i k with held:=(RM.cU md m.held m.ba jj i k).held.set (jj+k) (m.held.getD (i+k) 0),ba:=(RM.cU md m.held m.ba jj i k).ba.set (jj+k) (m.ba.getD (i+k) 0)}):=rfl;generalize hmj:RM.cU md m.held m.ba jj i k=mj at*;generalize m.held.getD (i+k) 0=hv at*;generalize m.ba.getD (i+k) 0=hw' at*;have N9:=(hV.below ((Below.refl wr.heap.size wr).drew)).zZ UW hv;have Xk:=((N9.below ((Below.refl _ _).drew)).pX UW hw');generalize i+k=ik at*;generalize jj+k=jk at*;have n8:IntKind.i64.wrap (ik:Int)=ik:=by rw[IntKind.wrap_i64];omega
      have n9:IntKind.i64.wrap (jk:Int)=jk:=by rw[IntKind.wrap_i64];omega
      go_upto_region 12 with fail
      go_region_law (fail)
      all_goals go_upto_region 13 with fail
      all_goals go_region_law (fail)
      all_goals
       go_wp2_with fail
       refine⟨⟨k+1,by omega,by go_num,?_⟩,by simp[intOf];omega⟩;rw[vE.out];exact⟨_,_,Xk⟩
     ·have n5:¬((k:Nat):Int)<(j:Int):=by omega
      have ekj:k=j:=by omega
      subst ekj;obtain⟨vb',vt',hV⟩:=HK.out;have y0:=hR.at hV (j:=0) (by omega);obtain⟨a3,a4⟩:=hV.qn (j:=jj) (by omega);have n8:((jj:Nat):Int)<24:=by omega
      generalize RM.cU md m.held m.ba jj i k=mj at*;rcases hw with hw|hw
      ·rw[hw]at y0;go_wp2_with fail
       go_end0
       refine⟨rfl,?_⟩;rw[HHG.out,ja (show¬word ws 0=qo by rw[hw];decide)];exact KE _ _ ⟨_,_,hV⟩
      ·rw[hw]at y0;have hV6:=hV.pX (j:=jj) (by omega) 119;go_wp2_with fail
       go_end0
       refine⟨rfl,?_⟩;rw[HHG.out,jb (show word ws 0=qo from hw)];exact KE _ _ ⟨_,_,hV6⟩
end
end Mac
end Go.Proofs.YtmlgajhhnojdjaaGreatDoor

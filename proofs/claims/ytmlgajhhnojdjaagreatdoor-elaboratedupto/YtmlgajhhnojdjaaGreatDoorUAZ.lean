import Derived.RangeFuncNested
import Derived.RangeFuncBound
import Derived.Shelf.RegionOpen
import Derived.OwnWalkIn
import Derived.LoopNIn
import Derived.LoopIn
import Derived.Test.YtmlgajhhnojdjaaGreatDoorUAY
set_option maxHeartbeats 8000000
namespace Go.Proofs.YtmlgajhhnojdjaaGreatDoor
namespace Own
open Go Go.RowKit Go.Shelf Sq Aux PrjJ PrjM FlwA
attribute [local go_sem] Oper.semAt_some
def su (N k:Nat):List (Fin N):=(List.range k).filterMap fun j=>if h:N-1-j<N then some ⟨N-1-j,h⟩else none
theorem qn {N k:Nat}(hk:k<N):su N (k+1)=su N k++[⟨N-1-k,by omega⟩]:=by
 unfold su;rw[List.range_succ,List.filterMap_append];congr 1;simp only[List.filterMap_cons,List.filterMap_nil];rw[dif_pos (by omega)]
theorem Ev {N:Nat}:∀k,k<=N->(su N k).length=k
 |0,_=>rfl
 |k+1,hk=>by rw[qn (by omega),jV,Ev k (by omega)];rfl
def vT (q:QP){N:Nat}(ys:List (Fin N))(o:Own):Own:=ys.foldl (fun o i=>o.drop (QP.ai q (i.val,0))) o
theorem BV (q:QP){N:Nat}(o:Own):∀k,k<=N->Own.dt q (N-k) (vT q (su N k) o)=Own.dt q N o
 |0,_=>rfl
 |k+1,hk=>by
  rw[<-BV q o k (by omega),qn (by omega)];unfold vT;rw[List.foldl_append,show N-k=(N-(k+1))+1 by omega,Own.dt];simp only[List.foldl_cons,List.foldl_nil];rw[show N-1-k=N-(k+1) by omega]
def Sl (ls:List (B×Nat))(j:Nat):Value:=.agg #[.string (bs (ls.getD j ([],0)).1),.int .i64 ((ls.getD j ([],0)).2:Nat)]
def Ol (ls:List (B×Nat))(x:Fin ls.length):Array Value:= #[.int .i64 (x.val:Int),Sl ls x.val]
def N3 (n₀ Bs:Nat)(A C:World):Prop:=Below n₀ A C/\C.cell? ⟨Bs,0,none⟩=A.cell? ⟨Bs,0,none⟩
set_option maxRecDepth 100000 in
theorem N7 (F:Fence)(n:Nat)(hf:F.fn 157)(hro:F.round=none)(hn:1<=n)(lp Bs n₀ g cap:Nat)(ls:List (B×Nat))(hlen:ls.length<=4000)(hg:g<n₀)(J Jx:List (Fin ls.length)->World->Prop)
  (hY:∀pre x W,J pre W->pre.length<ls.length->YieldAt F (n-1) Tryz.prog lp (Ol ls x) W fun e W'=>
   (e=.returned (.bool true)/\J (pre++[x]) W'/\N3 n₀ Bs W W')\/(e=.returned (.bool false)/\Jx (pre++[x]) W'))
  (W:World) (hBs:W.cell? ⟨Bs,0,none⟩=some (.slice (some ⟨g,0,none⟩) ls.length cap)) (_hcap:ls.length<=cap)
  (hc:∀j,j<ls.length->W.cell? ⟨g,j*2,none⟩=some (.string (bs (ls.getD j ([],0)).1))/\W.cell? ⟨g,j*2+1,none⟩=some (.int .i64 ((ls.getD j ([],0)).2:Nat))) (h0:J [] W):
  CallsIn F n Tryz.prog 157 #[.func (.yield lp) #[] #[],.pointer (some ⟨Bs,0,none⟩)] W fun e W'=>(∃v,e=.returned v)/\
   ((∃ys,ys=su ls.length ls.length/\J ys W')\/(∃pre,True/\Jx pre W')):=by
 refine callsIn_of_wp Tryz.func157 rfl hf ?_ hro;simp only[Tryz.ntmps157,List.size_toArray,List.length_cons,List.length_nil,Nat.reduceAdd,Nat.reduceSub,Array.replicate_succ,Array.replicate_zero,List.push_toArray,List.append_toArray,List.nil_append,List.cons_append]
 gi_wp2
 gi_loopw [3] (fun i wr=>∃k:Nat,k<=ls.length/\i=.int .i64 ((ls.length:Int)-1-(k:Int))/\J (su ls.length k) wr/\N3 n₀ Bs W wr)
  (fun i _=>(intOf i+1).toNat)
 case atStart=>exact⟨0,jQ _,by simp,h0,Below.refl _ _,rfl⟩
 case round=>
  obtain⟨k,hk,rfl,hJs,lg,eT⟩:=hrel;by_cases bg:k<ls.length
  ·obtain⟨fn,tmps,assign,body,hy,hR⟩:=hY _ ⟨ls.length-1-k,by omega⟩ wr hJs (by rw[Ev k hk];exact bg);obtain⟨d1,d2⟩:=hc (ls.length-1-k) (by omega);have e1:=(lg.cell (p:=⟨g,(ls.length-1-k)*2,none⟩) hg).trans d1;have e2:=(lg.cell (p:=⟨g,(ls.length-1-k)*2+1,none⟩) hg).trans d2;have e3:=eT.trans hBs;unfold Ol Sl at hy;dsimp only at hy;have OT:(ls.length:Int)-1-(k:Int)=((ls.length-1-k:Nat):Int):=by omega
   have hds:=qn bg;have hm1:ls.length-1-k<ls.length:=by omega
   rw[OT];have ZA:Hid (_):=hBs;clear OT hc hBs eT d1 d2;obtain⟨m,hm⟩:∃m,Hid (ls.length-1-k=m):=⟨_,rfl⟩;rw[hm.out]at e1 e2 hy hm1⊢;have hmI:(m:Int)<ls.length:=by omega
   have hm0:(0:Int)<=m:=by omega
   generalize ls.getD m ([],0)=b at*
   gi_wp2
   refine hR.mono ?_;rintro e W3 (⟨rfl,hJ3,LW⟩|⟨rfl,ZG⟩)
   ·gi_wp2
    go_roundw
    case rel=>exact⟨k+1,by omega,by have:=hm.out;congr 1;omega,by rw[hds];exact hJ3,lg.trans LW.1,LW.2.trans (e3.trans ZA.out.symm)⟩
    case measure=>first|(simp[intOf];done)|(simp[intOf];omega)
   ·gi_wp2
    refine bodyPost_ret (results_none rfl _ _ _) rfl ?_;exact⟨⟨_,rfl⟩,.inr ⟨_,trivial,ZG⟩⟩
  ·obtain rfl:k=ls.length:=by omega
   have OT:(ls.length:Int)-1-(ls.length:Int)= -1:=by omega
   rw[OT]
   gi_wp2
   go_end0
   exact⟨⟨_,rfl⟩,.inl ⟨_,rfl,hJs⟩⟩
theorem JS (F:Fence)(n:Nat)(hf:F.fn 101)(hro:F.round=none)(a:Option Addr)(len cap:Nat)(w:World):
  CallsIn F n Tryz.prog 101 #[.slice a len cap] w fun e w'=>e=.returned (.func (.func 157) #[] #[.pointer (some ⟨w.heap.size,0,none⟩)])/\w'=w.alloc (.cells #[.slice a len cap] 107):=by
 refine callsIn_of_wp Tryz.func101 rfl hf ?_ hro;simp only[Tryz.ntmps101,List.size_toArray,List.length_cons,List.length_nil,Nat.reduceAdd,Nat.reduceSub,Array.replicate_succ,Array.replicate_zero,List.push_toArray,List.append_toArray,List.nil_append,List.cons_append]
 gi_wp2
 go_ret
 exact⟨rfl,rfl⟩
theorem yy (F:Fence)(n:Nat)(hf:F.fn 157)(hro:F.round=none)(hn:1<=n)(Bs n₀ g cap:Nat)(ls:List (B×Nat))(hlen:ls.length<=4000)(hg:g<n₀)(jw:ls.length<=cap)(w:World)(hBs:Bs<w.heap.size)(hn₀:n₀<=w.heap.size)
  (hb:w.cell? ⟨Bs,0,none⟩=some (.slice (some ⟨g,0,none⟩) ls.length cap))
  (hc:∀j,j<ls.length->w.cell? ⟨g,j*2,none⟩=some (.string (bs (ls.getD j ([],0)).1))/\w.cell? ⟨g,j*2+1,none⟩=some (.int .i64 ((ls.getD j ([],0)).2:Nat))):
  SeqStopsK F n Tryz.prog 157 #[.pointer (some ⟨Bs,0,none⟩)] (Ol ls) (N3 n₀ Bs) (fun ys=>ys=su ls.length ls.length) (fun _=>True) ls.length w:=fun l J Jx W hW _ _ hY h0=>
 N7 F n hf hro hn l Bs n₀ g cap ls hlen hg J Jx hY W ((hW.cell (p:=⟨Bs,0,none⟩) hBs).trans hb) jw
  (fun j hj=>⟨(hW.cell (p:=⟨g,j*2,none⟩) (jK hg hn₀)).trans (hc j hj).1,(hW.cell (p:=⟨g,j*2+1,none⟩) (jK hg hn₀)).trans (hc j hj).2⟩) h0
section
variable {x a:Nat} {w w0 W W':World} {vm vt vi vm1 vt1:Value} {o:Own} {row:Option Nat}
theorem kF {k:Nat}{cs:Array Value}{e:TypeId}{f:Nat×Nat}(hk:W.heap[k]?=some (.cells cs e f))(hr:∀r,row=some r->∃ob:Obj,W.heap[r]?=some ob/\ob.isCells=false):some k≠row:=fun e'=>by
 obtain⟨ob,h1,h2⟩:=hr k e'.symm;rw[hk]at h1;cases h1
 simp[Obj.isCells]at h2
theorem DL {b s n:Nat}{e:TypeId}{v:Value}{xs:List Value}(hv:W.ownsRow b e s v n xs)(hr:∀r,row=some r->∃ob:Obj,W.heap[r]?=some ob/\ob.isCells=false):v.ownBlock=none\/v.ownBlock≠row:=by
 rcases hv.2 with⟨rfl,-⟩|⟨g,cap,cur,rfl,-,hg,-⟩
 ·exact .inl rfl
 ·exact .inr (kF hg hr)
theorem dq.Ec (h:dq w0 x a W o vi vm vt)(hg:W.grownBy W' row)(hr:∀r,row=some r->w0.heap.size<=r/\∃ob:Obj,W.heap[r]?=some ob/\ob.isCells=false):dq w0 x a W' o vi vm vt:=by
 have pM:∀r,row=some r->∃ob:Obj,W.heap[r]?=some ob/\ob.isCells=false:=fun r e=>(hr r e).2
 refine⟨⟨h.eG.base,h.eG.ty,?_,h.eG.made.kept hg (DL h.eG.made pM),h.eG.trace.kept hg (DL h.eG.trace pM)⟩,h.aZ.trans ⟨hg.os,hg.tape,hg.output,hg.size,fun k hk=>hg.block k (jK hk h.aZ.size) (fun e=> ?_)⟩,h.ints,h.boxes,h.feed⟩
 ·rw[hg.block x h.lt (kF h.eG.aM pM)];exact h.eG.aM
 ·have:=(hr k e.symm).1;omega
theorem aA.Ec {w1:World}(h:aA x vm vt w1 vm1 vt1 W)(hg:W.grownBy W' row)(hr:∀r,row=some r->w1.heap.size<=r):aA x vm vt w1 vm1 vt1 W':=
 ⟨hg.os.trans h.os,hg.tape.trans h.tape,hg.output.trans h.output,jS h.size hg.size,fun k hk h1 h2 h3=>(hg.block k (jK hk h.size) (fun e=>by have:=hr k e.symm;omega)).trans (h.block k hk h1 h2 h3),h.fm,h.ft⟩
theorem aA.keeps (h:aA x vm vt W vm1 vt1 W')(hO:dq w0 x a W o vi vm vt):KeepsOthers W W':=by
 refine⟨h.size,fun k ob hk hc=> ?_⟩;have ne:∀{j:Nat} {cs:Array Value} {e:TypeId} {f:Nat×Nat},W.heap[j]?=some (.cells cs e f)->k≠j:=fun hj e=>by
  subst e;rw[hk]at hj;cases hj
  simp[Obj.isCells]at hc
 rw[h.block k (lt_of_heap hk) (ne hO.eG.aM) (fun e=> ?_) (fun e=> ?_)]
 ·exact hk
 ·rcases hO.eG.made.2 with⟨e',-⟩|⟨g,cap,cur,e',-,hg,-⟩
  ·rw[e']at e;cases e
  ·rw[e']at e;simp only[Value.ownBlock,Option.some.injEq]at e;exact ne hg e.symm
 ·rcases hO.eG.trace.2 with⟨e',-⟩|⟨g,cap,cur,e',-,hg,-⟩
  ·rw[e']at e;cases e
  ·rw[e']at e;simp only[Value.ownBlock,Option.some.injEq]at e;exact ne hg e.symm
theorem dq.P1 (hO:dq w0 x a W o vi vm vt)(h:aA x vm vt W vm1 vt1 W'){k:Nat}{cs:Array Value}{e:TypeId}{f:Nat×Nat}(hk:W.heap[k]?=some (.cells cs e f))(h1:e≠104)(h2:175≠e)(h3:9≠e):W'.heap[k]?=some (.cells cs e f):=by
 rw[h.block k (lt_of_heap hk) (fun e'=> ?_) (fun e'=>aP hO.eG.made hk h2 e') (fun e'=>aP hO.eG.trace hk h3 e')]
 ·exact hk
 ·subst e';have:=hO.eG.aM;rw[hk]at this;simp only[Option.some.injEq,Obj.cells.injEq]at this;exact h1 this.2.1
end
end Own
namespace El
open Go Go.RowKit Sq Aux PrjF PrjG PrjJ PrjK PrjL PrjM PrjN PrjO PrjP PrjR PrjS PrjT FlwA FlwE
def BB (W:World)(v x:Value):Prop:=∃v' W',(Builtin.append_ #[112,112] 112 #[v,x]).run Tryz.prog W=.ok v' W'
noncomputable def Rc (W:World) (v x:Value):Value×World:= @dite _ (∃p:Value×World,(Builtin.append_ #[112,112] 112 #[v,x]).run Tryz.prog W=.ok p.1 p.2) (Classical.propDecidable _) (fun h=>h.choose) (fun _=>(undef,W))
noncomputable def CK (W:World) (v x:Value):Value:=(Rc W v x).1
noncomputable def xK (W:World) (v x:Value):World:=(Rc W v x).2
theorem Hj {W W':World}{v x v':Value}(h:(Builtin.append_ #[112,112] 112 #[v,x]).run Tryz.prog W=.ok v' W'):BB W v x/\CK W v x=v'/\xK W v x=W':=by
 have hx:∃p:Value×World,(Builtin.append_ #[112,112] 112 #[v,x]).run Tryz.prog W=.ok p.1 p.2:=⟨(v',W'),h⟩;have e:Rc W v x=hx.choose:=by unfold Rc;exact dif_pos hx
 have e2:=h.symm.trans hx.choose_spec;simp only[Result.ok.injEq]at e2;refine⟨⟨_,_,h⟩,?_,?_⟩
 ·unfold CK;rw[e];exact e2.1.symm
 ·unfold xK;rw[e];exact e2.2.symm
theorem SG (W:World)(v x:Value)(h:BB W v x):Sem.run Tryz.prog (Builtin.append_ #[112,112] 112 #[v,x]) W=.ok (CK W v x) (xK W v x):=by
 obtain⟨v',W',h⟩:=h;obtain⟨-,e1,e2⟩:=Hj h;rw[e1,e2];exact h
theorem Fi:(Tryz.prog.info? 119).map (fun i=>(i.zero,i.size,i.bytes))=some (some (.agg #[.int .i64 0,.int .i64 0]),2,16):=by kernel_rfl
theorem Gd (ps:List (Nat×Nat)):∀u∈bf ps,u.oneCell'=true:=by
 intro u hu;obtain⟨x,-,hx⟩:=List.mem_flatMap.1 hu;simp only[vu,List.mem_cons,List.not_mem_nil,or_false]at hx;rcases hx with rfl|rfl<;>rfl
theorem Rd {W:World}{zz z2:Nat}{v:Value}{ps qs:List (Nat×Nat)}{ad:Option Addr}{c:Nat}(hv:aI zz W v ps)(hx:aI z2 W (.slice ad qs.length c) qs)(hn:ps.length+qs.length<=100000)(hzz:zz<=W.heap.size):
  BB W v (.slice ad qs.length c)/\aI zz (xK W v (.slice ad qs.length c)) (CK W v (.slice ad qs.length c)) (ps++qs)/\W.grownBy (xK W v (.slice ad qs.length c)) v.ownBlock/\(∀g,(CK W v (.slice ad qs.length c)).ownBlock=some g->v.ownBlock=some g\/W.heap.size<=g):=by
 obtain⟨i,hi,h0,h1,h2⟩:=info_parts Fi;cases ad with
 |none=>
  have hq:qs=[]:=by
   rcases hx.2 with⟨-,e⟩|⟨g,cap,cur,e,-⟩
   ·exact List.eq_nil_of_length_eq_zero e
   ·cases e
  subst hq;obtain⟨ao,c0,Pk,hle⟩:∃ao c0,v=.slice ao ps.length c0/\ps.length<=c0:=by
   rcases hv.2 with⟨e1,e2⟩|⟨g,cap,cur,e1,-,-,e3,-⟩
   ·exact⟨none,0,by rw[e1,e2],by omega⟩
   ·exact⟨_,cap,e1,e3⟩
  have Ba:(Builtin.append_ #[112,112] 112 #[v,.slice none 0 c]).run Tryz.prog W=.ok v W:=by
   subst Pk;cases ao<;>simp[Builtin.append_,run_underlying Tryz.underlying112,sizeOf,typeInfo,hi,Builtin.lenOf,hle,Builtin.firstCells,storeCells]
  obtain⟨a1,a2,a3⟩:=Hj Ba;show BB W v (.slice none 0 c)/\aI zz (xK W v (.slice none 0 c)) (CK W v (.slice none 0 c)) _/\W.grownBy (xK W v (.slice none 0 c)) v.ownBlock/\(∀g,(CK W v (.slice none 0 c)).ownBlock=some g->v.ownBlock=some g\/W.heap.size<=g)
  rw[a2,a3,List.append_nil];exact⟨a1,hv,⟨rfl,rfl,rfl,jC _,fun _ _ _=>rfl⟩,fun g hg=> .inl hg⟩
 |some a=>
  have hxc:∀j u,(bf qs)[j]?=some u->W.cell? (a.add j)=some u:=by
   rcases hx.2 with⟨e,-⟩|⟨g,cap,cur,e,-⟩
   ·cases e
   ·simp only[Value.slice.injEq,Option.some.injEq]at e;obtain⟨rfl,-⟩:=e;exact hx.cells (g:=g) rfl
  obtain⟨v',W',Ba,r1,r2,-,r4⟩:=run_append_own_at (P:=Tryz.prog) W zz 112 112 119 i (.agg #[.int .i64 0,.int .i64 0]) 2 16 Tryz.underlying112 hi h0 h1 h2 rfl (by decide) v ps.length (bf ps) hv a qs.length c (bf qs) hx.1 hxc (Gd qs) (by unfold maxLen;omega) (by omega) hzz;obtain⟨a1,a2,a3⟩:=Hj Ba;rw[a2,a3];refine⟨a1,?_,r2,fun g hg=> ?_⟩
  ·unfold aI;rw[jV];have e:bf (ps++qs)=bf ps++bf qs:=by simp[bf]
   rw[e];exact r1
  ·rcases r4 with r4|r4
   ·exact .inl (r4▸hg)
   ·rw[r4]at hg;simp only[Option.some.injEq]at hg;exact .inr (by omega)
end El
namespace El
open Go Go.RowKit Sq Aux Go.Proofs.YtmlgajhhnojdjaaGreatDoor.Own PrjF PrjG PrjJ PrjK PrjL PrjM PrjN PrjO PrjP PrjR PrjS PrjT FlwA FlwE
def NV:Prop:=∀(x a:Nat) (w:World) (q:QP) (v u:Value),w.cell? ⟨x,0,none⟩=some (.pointer (some ⟨a,0,none⟩))->x<w.heap.size->PQ w a q v u->0<q.locals.length->q.locals.length<=12->
 Calls Tryz.prog 176 #[.pointer (some ⟨x,0,none⟩)] w fun e w'=>∃ad c,e=.returned (.slice ad (fi q q.locals.length).length c)/\aI w.heap.size w' (.slice ad (fi q q.locals.length).length c) (fi q q.locals.length)/\Below w.heap.size w w'
theorem sA {nl nb:Nat}{l:ab}(h:fY nl nb l)(ak:l.op=9\/l.op=12\/l.op=13\/l.op=14\/l.op=15):1<=l.places.length:=by
 rw[h.bt];rcases ak with e|e|e|e|e<;>rw[e]<;>decide
section
variable {x a:Nat} {w:World}
set_option maxRecDepth 20000 in
theorem B1 (HA:NV)(xY:w.cell? ⟨x,0,none⟩=some (.pointer (some ⟨a,0,none⟩)))(D6:x<w.heap.size){q:QP}{v u:Value}(hq:PQ w a q v u)(jy:0<q.locals.length)(rB:q.locals.length<=12){z nb:Nat}{l:ab}{ap an:Option Addr}{cp cn:Nat}(hL:aC z w l (.slice ap l.places.length cp) (.slice an l.next.length cn))(hk:fY q.locals.length nb l):
  Calls Tryz.prog 126 #[.pointer (some ⟨x,0,none⟩),.agg #[.int .i64 (l.num:Nat),.int .i64 (l.op:Nat),.slice ap l.places.length cp,.int .i64 l.number,.int .i64 l.flag,.slice an l.next.length cn]] w fun e w'=>∃ad c,e=.returned (.slice ad (aW q l).length c)/\aI w.heap.size w' (.slice ad (aW q l).length c) (aW q l)/\Below w.heap.size w w':=by
 obtain⟨V,hV⟩:∃V,w.alloc (.cells #[.int .i64 (l.num:Nat),.int .i64 (l.op:Nat),.slice ap l.places.length cp,.int .i64 l.number,.int .i64 l.flag,.slice an l.next.length cn] 115)=V:=⟨_,rfl⟩;have dH:Below w.heap.size w V:=by rw[<-hV];exact(Below.refl _ _).alloc (jC _) _
 have GX:V.heap[w.heap.size]?=some (.cells #[.int .i64 (l.num:Nat),.int .i64 (l.op:Nat),.slice ap l.places.length cp,.int .i64 l.number,.int .i64 l.flag,.slice an l.next.length cn] 115 (0,0)):=by rw[<-hV];exact jD
 have hVs:V.heap.size=w.heap.size+1:=by rw[<-hV];simp
 have l1:V.cell? ⟨w.heap.size,1,none⟩=some (.int .i64 (l.op:Nat)):=by rw[cell_of_heap GX];rfl
 have l2:V.cell? ⟨w.heap.size,2,none⟩=some (.slice ap l.places.length cp):=by rw[cell_of_heap GX];rfl
 have m0:V.cell? ⟨x,0,none⟩=some (.pointer (some ⟨a,0,none⟩)):=(dH.cell (p:=⟨x,0,none⟩) D6).trans xY;by_cases ak:l.op=9\/l.op=12\/l.op=13\/l.op=14\/l.op=15
 ·have ez:aW q l=bT q (ag l 0):=by unfold aW;rw[jb ak]
  have hlen:=sA hk ak;obtain⟨gp,G4,-,gP,sf,c1,c2⟩:=bK hL.places 0 (by omega);subst G4;have L4:(ag l 0).1<q.locals.length:=(hk.places _ (by unfold ag;rw[jA,jB (by omega)];exact jL _)).1;have e1:=(dH.cell (p:=⟨gp,0*2,none⟩) sf).trans c1;have e2:=(dH.cell (p:=⟨gp,0*2+1,none⟩) sf).trans c2;have hBd:Below w.heap.size w V.drew:=⟨dH.os,dH.tape,dH.output,dH.size,dH.block⟩;have KB:=BL q (ag l 0) v u a V.drew ((dH.block a (lt_of_heap hq.aM)).trans hq.aM) (qu hq.loc hBd) (by omega) L4;rw[ez];have ep:l.places.getD 0 (0,0)=ag l 0:=rfl;rw[ep]at e1 e2;generalize ag l 0=p at*;generalize l.places.length=np at*;have hnp:(0:Int)<np:=by omega
  have fin:∀w2,Below V.heap.size V w2->Below w.heap.size w w2:=fun w2 h2=>dH.trans (h2.mono dH.size)
  have tt:∀n:Nat,l.op=n->∀k:Nat,¬n=k->((l.op:Int)==(k:Int))=false:=fun n e k hk=>by rw[jZ];omega
  have ty:∀n:Nat,l.op=n->((l.op:Int)==(n:Int))=true:=fun n e=>by rw[e];simp
  rcases ak with e|e|e|e|e
  ·have t9:((l.op:Int)==9)=true:=ty 9 e;clear tt ty e;go_enter Tryz.func126,Tryz.ntmps126
   go_upto_region 7 with fail
   go_region_with (go_at_call 175;refine KB.mono ?_;rintro e w2 ⟨ad,c,rfl,hP,hb⟩)
   all_goals go_wp2_with fail
   all_goals
    go_ret
    exact⟨ad,c,rfl,fo hP dH.size,fin w2 ⟨hb.os,hb.tape,hb.output,hb.size,hb.block⟩⟩
  ·have t12:((l.op:Int)==12)=true:=ty 12 e;have t9:((l.op:Int)==9)=false:=tt 12 e 9 (by decide);clear tt ty e;go_enter Tryz.func126,Tryz.ntmps126
   go_upto_region 7 with fail
   go_region_with (go_at_call 175;refine KB.mono ?_;rintro e w2 ⟨ad,c,rfl,hP,hb⟩)
   all_goals go_wp2_with fail
   all_goals
    go_ret
    exact⟨ad,c,rfl,fo hP dH.size,fin w2 ⟨hb.os,hb.tape,hb.output,hb.size,hb.block⟩⟩
  ·have t13:((l.op:Int)==13)=true:=ty 13 e;have t9:((l.op:Int)==9)=false:=tt 13 e 9 (by decide);have t12:((l.op:Int)==12)=false:=tt 13 e 12 (by decide);clear tt ty e;go_enter Tryz.func126,Tryz.ntmps126
   go_upto_region 7 with fail
   go_region_with (go_at_call 175;refine KB.mono ?_;rintro e w2 ⟨ad,c,rfl,hP,hb⟩)
   all_goals go_wp2_with fail
   all_goals
    go_ret
    exact⟨ad,c,rfl,fo hP dH.size,fin w2 ⟨hb.os,hb.tape,hb.output,hb.size,hb.block⟩⟩
  ·have t14:((l.op:Int)==14)=true:=ty 14 e;have t9:((l.op:Int)==9)=false:=tt 14 e 9 (by decide);have t12:((l.op:Int)==12)=false:=tt 14 e 12 (by decide);have t13:((l.op:Int)==13)=false:=tt 14 e 13 (by decide);clear tt ty e;go_enter Tryz.func126,Tryz.ntmps126
   go_upto_region 7 with fail
   go_region_with (go_at_call 175;refine KB.mono ?_;rintro e w2 ⟨ad,c,rfl,hP,hb⟩)
   all_goals go_wp2_with fail
   all_goals
    go_ret
    exact⟨ad,c,rfl,fo hP dH.size,fin w2 ⟨hb.os,hb.tape,hb.output,hb.size,hb.block⟩⟩
  ·have t15:((l.op:Int)==15)=true:=ty 15 e;have t9:((l.op:Int)==9)=false:=tt 15 e 9 (by decide);have t12:((l.op:Int)==12)=false:=tt 15 e 12 (by decide);have t13:((l.op:Int)==13)=false:=tt 15 e 13 (by decide);have t14:((l.op:Int)==14)=false:=tt 15 e 14 (by decide);clear tt ty e;go_enter Tryz.func126,Tryz.ntmps126
   go_upto_region 7 with fail
   go_region_with (go_at_call 175;refine KB.mono ?_;rintro e w2 ⟨ad,c,rfl,hP,hb⟩)
   all_goals go_wp2_with fail
   all_goals
    go_ret
    exact⟨ad,c,rfl,fo hP dH.size,fin w2 ⟨hb.os,hb.tape,hb.output,hb.size,hb.block⟩⟩
 ·have tt:∀k:Nat,¬l.op=k->((l.op:Int)==(k:Int))=false:=fun k hk=>by rw[jZ];omega
  have t9:((l.op:Int)==9)=false:=tt 9 (by omega);have t12:((l.op:Int)==12)=false:=tt 12 (by omega);have t13:((l.op:Int)==13)=false:=tt 13 (by omega);have t14:((l.op:Int)==14)=false:=tt 14 (by omega);have t15:((l.op:Int)==15)=false:=tt 15 (by omega);by_cases AW:l.op=22
  ·have ez:aW q l=fi q q.locals.length:=by unfold aW;rw[ja ak,jb AW]
   have t22:((l.op:Int)==22)=true:=by rw[AW];rfl
   have KA:=HA x a V q v u m0 (by omega) (hq.below dH) jy rB;rw[ez];clear ak tt AW;go_enter Tryz.func126,Tryz.ntmps126
   go_wp2_with (go_at_call 176;refine KA.mono ?_;rintro e w2 ⟨ad,c,rfl,hP,hb⟩)
   go_ret
   exact⟨ad,c,rfl,fo hP dH.size,dH.trans (hb.mono dH.size)⟩
  ·have ez:aW q l=[]:=by unfold aW;rw[ja ak,ja AW]
   have t22:((l.op:Int)==22)=false:=tt 22 AW;rw[ez];clear ak tt AW;go_enter Tryz.func126,Tryz.ntmps126
   go_wp2
   go_ret
   exact⟨none,0,rfl,World.ownsRow_nil _ _ _ _,dH⟩
end
end El
namespace Own
open Go Go.RowKit Go.Shelf Sq Aux PrjJ PrjK PrjL PrjM PrjR PrjS PrjT FlwA FlwB FlwD FlwE
attribute [local go_sem] Oper.semAt_some
theorem Ey (q:QP){N:Nat}:∀(ys:List (Fin N)) {o:Own} {t:Nat},o.In t->t+2*ys.length<=1000000->(vT q ys o).In (t+2*ys.length)
 |[],_,_,h,_=>h
 |y::ys,o,t,h,ht=>by
  have h2:=kL q (y.val,0);rw[jY]at ht;rw[jY,show t+2*(ys.length+1)=(t+2)+2*ys.length by omega];exact Ey q ys ((h.drop (QP.ai q (y.val,0)) (by omega)).mono (by omega)) (by omega)
theorem Hw (q:QP){N:Nat}(ys:List (Fin N))(y:Fin N)(o:Own):vT q (ys++[y]) o=(vT q ys o).drop (QP.ai q (y.val,0)):=by simp[vT]
section
variable {x a:Nat} {w w0:World} {vm vt vi:Value} {o:Own}
set_option maxRecDepth 100000 in
theorem Ew (h:dq w0 x a w o vi vm vt){q:QP}{v u:Value}{t:Nat}(hq:PQ w0 a q v u)(jy:0<q.locals.length)(rB:q.locals.length<=12)(lu:o.In t)(ht:t<=900000)(iD:Pow w0)(iG:11<=w0.heap.size):
  Calls Tryz.prog 64 #[.pointer (some ⟨x,0,none⟩)] w fun e w'=>e=.returned (.tuple #[])/\∃vm' vt',dq w0 x a w' (o.dt q q.locals.length) vi vm' vt'/\aA x vm vt w vm' vt' w':=by
 refine(callsIn_wide (n:=3)).1 ?_;obtain⟨g,cap,rfl,jw,hg,-⟩:=ku hq.loc 0 jy;have NP:∀j,j<q.locals.length->w0.cell? ⟨g,j*2,none⟩=some (.string (bs (q.locals.getD j ([],0)).1))/\w0.cell? ⟨g,j*2+1,none⟩=some (.int .i64 ((q.locals.getD j ([],0)).2:Nat)):=fun j hj=>by
  obtain⟨g',cap',e,-,-,c1,c2⟩:=ku hq.loc j hj;simp only[Value.slice.injEq,Option.some.injEq,Addr.mk.injEq,and_true,true_and]at e;obtain⟨rfl,-⟩:=e;exact⟨c1,c2⟩
 have aG:Below w.heap.size w (w.alloc (.cells #[.pointer (some ⟨x,0,none⟩)] 170)):=(Below.refl _ _).alloc (jC _) _;have H1:=h.below aG;have m1:=H1.prog;have Q1:=hq.below H1.aZ;have m2:(w.alloc (.cells #[.pointer (some ⟨x,0,none⟩)] 170)).cell? ⟨a,0,none⟩=some (.slice (some ⟨g,0,none⟩) q.locals.length cap):=by rw[cell_of_heap Q1.aM];rfl
 refine callsIn_of_wp_marks Tryz.func64 rfl trivial ?_ rfl;simp only[Tryz.ntmps64,List.size_toArray,List.length_cons,List.length_nil,Nat.reduceAdd,Nat.reduceSub,Array.replicate_succ,Array.replicate_zero,List.push_toArray,List.append_toArray,List.nil_append,List.cons_append]
 gi_wp2_with (refine⟨trivial,?_⟩;gi_at_call 101;refine(JS _ _ trivial rfl _ _ _ _).mono ?_;rintro e w' ⟨rfl,rfl⟩)
 have bH:Below w.heap.size w ((w.alloc (.cells #[.pointer (some ⟨x,0,none⟩)] 170)).alloc (.cells #[.slice (some ⟨g,0,none⟩) q.locals.length cap] 107)):=aG.alloc aG.size _;have H2:=h.below bH;have dH:((w.alloc (.cells #[.pointer (some ⟨x,0,none⟩)] 170)).alloc (.cells #[.slice (some ⟨g,0,none⟩) q.locals.length cap] 107)).heap[w.heap.size]?=some (.cells #[.pointer (some ⟨x,0,none⟩)] 170 (0,0)):=by
  rw[Below.heap_alloc _ _ _ (by simp)];exact jD
 have dT:((w.alloc (.cells #[.pointer (some ⟨x,0,none⟩)] 170)).alloc (.cells #[.slice (some ⟨g,0,none⟩) q.locals.length cap] 107)).heap[w.heap.size+1]?=some (.cells #[.slice (some ⟨g,0,none⟩) q.locals.length cap] 107 (0,0)):=by
  have:=World.alloc_heap_new (w.alloc (.cells #[.pointer (some ⟨x,0,none⟩)] 170)) (.cells #[.slice (some ⟨g,0,none⟩) q.locals.length cap] 107)
  rwa [World.size_alloc]at this
 have AG:((w.alloc (.cells #[.pointer (some ⟨x,0,none⟩)] 170)).alloc (.cells #[.slice (some ⟨g,0,none⟩) q.locals.length cap] 107)).cell? ⟨w.heap.size+1,0,none⟩=some (.slice (some ⟨g,0,none⟩) q.locals.length cap):=by rw[cell_of_heap dT];rfl
 have Cc:((w.alloc (.cells #[.pointer (some ⟨x,0,none⟩)] 170)).alloc (.cells #[.slice (some ⟨g,0,none⟩) q.locals.length cap] 107)).heap.size=w.heap.size+2:=by simp
 have o8:=h.aZ.size;obtain⟨W1,oU⟩:∃W1,((w.alloc (.cells #[.pointer (some ⟨x,0,none⟩)] 170)).alloc (.cells #[.slice (some ⟨g,0,none⟩) q.locals.length cap] 107))=W1:=⟨_,rfl⟩;rw[oU]at bH H2 dH dT AG Cc⊢;refine wpIn_rangeFunc_ownF rfl (by decide) (gf:=157) (lb:= #[.pointer (some ⟨w.heap.size+1,0,none⟩)]) rfl trivial (enters_of Tryz.func157 (by kernel_rfl) rfl)
  (yy _ _ trivial rfl (by decide) (w.heap.size+1) w0.heap.size g cap q.locals (by omega) hg jw W1 (by omega) (by omega) AG (fun j hj=>⟨(H2.aZ.cell (p:=⟨g,j*2,none⟩) hg).trans (NP j hj).1,(H2.aZ.cell (p:=⟨g,j*2+1,none⟩) hg).trans (NP j hj).2⟩))
  (fun h1 h2=>⟨h1.1.trans h2.1,h2.2.trans h1.2⟩)
  (fun W l ob ob' hl hk hc _=>⟨belowK_b (w:=W1) (by omega) W l ob ob' hl hk hc (by assumption),by
   have dB:W1.heap.size<=l:=hl;simp only[World.cell?];rw[World.putObj_heap_other (by show w.heap.size+1≠l;omega)]⟩)
  (Below.refl _ _) (fun _=>rfl)
  (fun pre W=>∃vm' vt',dq w0 x a W (vT q pre o) vi vm' vt'/\aA x vm vt W1 vm' vt' W/\W.heap[w.heap.size]?=some (.cells #[.pointer (some ⟨x,0,none⟩)] 170 (0,0))/\W.heap[w.heap.size+1]?=some (.cells #[.slice (some ⟨g,0,none⟩) q.locals.length cap] 107 (0,0)))
  (fun _ _ _=>False)
  (fun pre W W' row hs oy hr=>by
   obtain⟨vm',vt',i1,i2,i3,i4⟩:=hs;have pM:∀r,row=some r->∃ob:Obj,W.heap[r]?=some ob/\ob.isCells=false:=fun r e=>(hr r e).2
   refine⟨vm',vt',i1.Ec oy (fun r e=>⟨by have:=(hr r e).1;omega,(hr r e).2⟩),i2.Ec oy (fun r e=>(hr r e).1),?_,?_⟩
   ·rw[oy.block _ (lt_of_heap i3) (kF i3 pM)];exact i3
   ·rw[oy.block _ (lt_of_heap i4) (kF i4 pM)];exact i4)
  (fun _ _ _ _ _ hs _ _=>hs)
  ⟨vm,vt,H2,aA.refl _ _ _ _,dH,dT⟩
  (fun y=>{tmps:= #[.pointer (some ⟨x,0,none⟩),.pointer (some ⟨w.heap.size,0,none⟩),.int .i64 (y.val:Int),.pointer (some ⟨x,0,none⟩),.pointer (some ⟨x,0,none⟩),.pointer (some ⟨x,3,none⟩),.pointer (some ⟨a,0,none⟩),.pointer (some ⟨a,0,none⟩),.pointer (some ⟨a,0,none⟩),.slice (some ⟨g,0,none⟩) q.locals.length cap,.func (.func 157) #[] #[.pointer (some ⟨w.heap.size+1,0,none⟩)],.int .i64 (y.val:Int),Sl q.locals y.val,undef,undef,undef,undef,undef,undef,undef,undef,undef],defers:=[]}) ?assign ?body ?done ?stop
 case assign=>
  intro l y W K hK;unfold Ol
  gi_wp2
  exact hK
 case body=>
  rintro l pre y W ⟨vm',vt',i1,i2,i3,i4⟩ ee;have hd:1<=3-1-1:=by omega
  have hmx:Tryz.prog.follows .mixedOrders=true:=by kernel_rfl
  have c1:W.cell? ⟨w.heap.size,0,none⟩=some (.pointer (some ⟨x,0,none⟩)):=by rw[cell_of_heap i3];rfl
  have c3:=i1.prog;have i1d:=i1.drew;have QW:=hq.below i1d.aZ;have hyl:y.val<q.locals.length:=y.isLt;have KH:Calls Tryz.prog 102 #[.pointer (some ⟨a,0,none⟩),.agg #[.int .i64 (y.val:Int),.int .i64 0]] W.drew _:=c8 q (y.val,0) _ u a W.drew QW.aM QW.loc hyl;have hdi:=Ey q pre lu (by omega);have hin2:=cP (q:=q) (x:=(y.val,0)) (n:=12) (by show y.val<12;omega);have G5:=kL q (y.val,0);have KD:=fun(V:World) (hV:dq w0 x a V (vT q pre o) vi vm' vt') (zz gg cc:Nat) (hP:aI zz V (.slice (some ⟨gg,0,none⟩) (QP.ai q (y.val,0)).length cc) (QP.ai q (y.val,0)))=>pr hV hP hin2 (by omega) hdi.bx (hdi.sz (by omega)) (by omega) iD iG
  have hds:=Hw q pre y o
  gi_wp2
  gi_region_with_o (first
   |(refine⟨trivial,?_⟩;gi_at_call 102;refine(CallsIn.inRound l (callsIn_wide.2 KH)).mono ?_;rintro e w2 ⟨g2,c2,rfl,me,h2⟩;have gF:=i1d.below h2;have d1:w2.cell? ⟨w.heap.size,0,none⟩=some (.pointer (some ⟨x,0,none⟩)):=(h2.cell (p:=⟨w.heap.size,0,none⟩) (lt_of_heap i3)).trans c1)
   |(refine⟨trivial,?_⟩;gi_at_call 60;refine(CallsIn.inRound l (callsIn_wide.2 (KD _ gF _ g2 c2 me))).mono ?_;rintro e w3 ⟨rfl,vm3,vt3,h3,r3⟩))
  all_goals gi_wp2
  all_goals
   have r:aA x vm' vt' W vm3 vt3 w3:=((aA.of (ic W)).trans (aA.of h2)).trans r3;have j3:=i1.P1 r i3 (by decide) (by decide) (by decide);have j4:=i1.P1 r i4 (by decide) (by decide) (by decide);exact⟨r.keeps i1,⟨r.below i1.eG (jC _) i1.aZ.size,by rw[cell_of_heap j4,cell_of_heap i4]⟩,vm3,vt3,by rw[hds];exact h3,i2.trans r,j3,j4⟩
 case done=>
  rintro D ys W hD rfl ⟨vm',vt',i1,i2,i3,i4⟩ hK;have lq:=BV q (N:=q.locals.length) o q.locals.length (jC _);rw[Nat.sub_self,Own.dt]at lq;rw[lq]at i1
  gi_wp2
  refine⟨by simp,.inl ⟨_,_,rfl,run_takeDeferred hK,?_⟩⟩;have Te:∀r,some D=some r->W1.heap.size<=r/\∃ob:Obj,W.heap[r]?=some ob/\ob.isCells=false:=fun r e=>by cases e;exact⟨hD,_,hK,rfl⟩
  exact⟨_,results_none rfl _ _ _,rfl,vm',vt',i1.Ec (grownBy_putObj' W D _) (fun r e=>⟨by have:=(Te r e).1;omega,(Te r e).2⟩),((aA.of bH).trans i2).Ec (grownBy_putObj' W D _) (fun r e=>by have:=(Te r e).1;omega)⟩
 case stop=>
  rintro D c pre W _ _ hx _;exact hx.elim
end
end Own
end Go.Proofs.YtmlgajhhnojdjaaGreatDoor

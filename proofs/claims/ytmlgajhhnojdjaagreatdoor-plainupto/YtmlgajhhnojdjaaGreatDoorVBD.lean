import Derived.RangeFuncNested
import Derived.RangeFuncBound
import Derived.Shelf.RegionOpen
import Derived.OwnWalkIn
import Derived.LoopNIn
import Derived.LoopIn
import Derived.Test.YtmlgajhhnojdjaaGreatDoorVBC
set_option maxHeartbeats 8000000
namespace Go.Proofs.YtmlgajhhnojdjaaGreatDoor
namespace Own
open Go Go.RowKit Go.Shelf Sq Aux PrjJ PrjM FlwA
attribute [local go_sem] Oper.semAt_some
def pk (N k:Nat):List (Fin N):=(List.range k).filterMap fun j=>if h:N-1-j<N then some ⟨N-1-j,h⟩else none
theorem mx {N k:Nat}(hk:k<N):pk N (k+1)=pk N k++[⟨N-1-k,by omega⟩]:=by
 unfold pk;rw[List.range_succ,List.filterMap_append];congr 1;simp only[List.filterMap_cons,List.filterMap_nil];rw[dif_pos (by omega)]
theorem zA {N:Nat}:∀k,k<=N->(pk N k).length=k
 |0,_=>rfl
 |k+1,hk=>by rw[mx (by omega),jV,zA k (by omega)];rfl
def qQ (q:QP){N:Nat}(ys:List (Fin N))(o:Own):Own:=ys.foldl (fun o i=>o.drop (QP.ai q (i.val,0))) o
theorem xr (q:QP){N:Nat}(o:Own):∀k,k<=N->Own.dd q (N-k) (qQ q (pk N k) o)=Own.dd q N o
 |0,_=>rfl
 |k+1,hk=>by
  rw[<-xr q o k (by omega),mx (by omega)];unfold qQ;rw[List.foldl_append,show N-k=(N-(k+1))+1 by omega,Own.dd];simp only[List.foldl_cons,List.foldl_nil];rw[show N-1-k=N-(k+1) by omega]
def LH (ls:List (B×Nat))(j:Nat):Value:=.agg #[.string (bs (ls.getD j ([],0)).1),.int .i64 ((ls.getD j ([],0)).2:Nat)]
def Hh (ls:List (B×Nat))(x:Fin ls.length):Array Value:= #[.int .i64 (x.val:Int),LH ls x.val]
def G2 (n₀ Bs:Nat)(A C:World):Prop:=Below n₀ A C/\C.cell? ⟨Bs,0,none⟩=A.cell? ⟨Bs,0,none⟩
set_option maxRecDepth 100000 in
theorem G7 (F:Fence)(n:Nat)(hf:F.fn 157)(hro:F.round=none)(hn:1<=n)(lp Bs n₀ g cap:Nat)(ls:List (B×Nat))(hlen:ls.length<=4000)(hg:g<n₀)(J Jx:List (Fin ls.length)->World->Prop)
  (hY:∀pre x W,J pre W->pre.length<ls.length->YieldAt F (n-1) Tryz.prog lp (Hh ls x) W fun e W'=>
   (e=.returned (.bool true)/\J (pre++[x]) W'/\G2 n₀ Bs W W')\/(e=.returned (.bool false)/\Jx (pre++[x]) W'))
  (W:World) (hBs:W.cell? ⟨Bs,0,none⟩=some (.slice (some ⟨g,0,none⟩) ls.length cap)) (_hcap:ls.length<=cap)
  (hc:∀j,j<ls.length->W.cell? ⟨g,j*2,none⟩=some (.string (bs (ls.getD j ([],0)).1))/\W.cell? ⟨g,j*2+1,none⟩=some (.int .i64 ((ls.getD j ([],0)).2:Nat))) (h0:J [] W):
  CallsIn F n Tryz.prog 157 #[.func (.yield lp) #[] #[],.pointer (some ⟨Bs,0,none⟩)] W fun e W'=>(∃v,e=.returned v)/\
   ((∃ys,ys=pk ls.length ls.length/\J ys W')\/(∃pre,True/\Jx pre W')):=by
 refine callsIn_of_wp Tryz.func157 rfl hf ?_ hro;simp only[Tryz.ntmps157,List.size_toArray,List.length_cons,List.length_nil,Nat.reduceAdd,Nat.reduceSub,Array.replicate_succ,Array.replicate_zero,List.push_toArray,List.append_toArray,List.nil_append,List.cons_append]
 gi_wp2
 gi_loopw [3] (fun i wr=>∃k:Nat,k<=ls.length/\i=.int .i64 ((ls.length:Int)-1-(k:Int))/\J (pk ls.length k) wr/\G2 n₀ Bs W wr)
  (fun i _=>(intOf i+1).toNat)
 case atStart=>exact⟨0,jQ _,by simp,h0,Below.refl _ _,rfl⟩
 case round=>
  obtain⟨k,hk,rfl,Vr,jw,jv⟩:=hrel;by_cases aP:k<ls.length
  ·obtain⟨fn,tmps,assign,body,hy,hR⟩:=hY _ ⟨ls.length-1-k,by omega⟩ wr Vr (by rw[zA k hk];exact aP);obtain⟨d1,d2⟩:=hc (ls.length-1-k) (by omega);have e1:=(jw.cell (p:=⟨g,(ls.length-1-k)*2,none⟩) hg).trans d1;have e2:=(jw.cell (p:=⟨g,(ls.length-1-k)*2+1,none⟩) hg).trans d2;have e3:=jv.trans hBs;unfold Hh LH at hy;dsimp only at hy;have Ib:(ls.length:Int)-1-(k:Int)=((ls.length-1-k:Nat):Int):=by omega
   have TZ:=mx aP;have Ye:ls.length-1-k<ls.length:=by omega
   rw[Ib];have Tp:Hid (_):=hBs;clear Ib hc hBs jv d1 d2;obtain⟨m,hm⟩:∃m,Hid (ls.length-1-k=m):=⟨_,rfl⟩;rw[hm.out]at e1 e2 hy Ye⊢;have Zm:(m:Int)<ls.length:=by omega
   have Zl:(0:Int)<=m:=by omega
   generalize ls.getD m ([],0)=b at*
   gi_wp2
   refine hR.mono ?_;rintro e W3 (⟨rfl,Xu,NX⟩|⟨rfl,Tu⟩)
   ·gi_wp2
    go_roundw
    case rel=>exact⟨k+1,by omega,by have:=hm.out;congr 1;omega,by rw[TZ];exact Xu,jw.trans NX.1,NX.2.trans (e3.trans Tp.out.symm)⟩
    case measure=>first|(simp[intOf];done)|(simp[intOf];omega)
   ·gi_wp2
    refine bodyPost_ret (results_none rfl _ _ _) rfl ?_;exact⟨⟨_,rfl⟩,.inr ⟨_,trivial,Tu⟩⟩
  ·obtain rfl:k=ls.length:=by omega
   have Ib:(ls.length:Int)-1-(ls.length:Int)= -1:=by omega
   rw[Ib]
   gi_wp2
   go_end0
   exact⟨⟨_,rfl⟩,.inl ⟨_,rfl,Vr⟩⟩
theorem DC (F:Fence)(n:Nat)(hf:F.fn 101)(hro:F.round=none)(a:Option Addr)(len cap:Nat)(w:World):
  CallsIn F n Tryz.prog 101 #[.slice a len cap] w fun e w'=>e=.returned (.func (.func 157) #[] #[.pointer (some ⟨w.heap.size,0,none⟩)])/\w'=w.alloc (.cells #[.slice a len cap] 107):=by
 refine callsIn_of_wp Tryz.func101 rfl hf ?_ hro;simp only[Tryz.ntmps101,List.size_toArray,List.length_cons,List.length_nil,Nat.reduceAdd,Nat.reduceSub,Array.replicate_succ,Array.replicate_zero,List.push_toArray,List.append_toArray,List.nil_append,List.cons_append]
 gi_wp2
 go_ret
 exact⟨rfl,rfl⟩
theorem sk (F:Fence)(n:Nat)(hf:F.fn 157)(hro:F.round=none)(hn:1<=n)(Bs n₀ g cap:Nat)(ls:List (B×Nat))(hlen:ls.length<=4000)(hg:g<n₀)(gK:ls.length<=cap)(w:World)(hBs:Bs<w.heap.size)(hn₀:n₀<=w.heap.size)
  (hb:w.cell? ⟨Bs,0,none⟩=some (.slice (some ⟨g,0,none⟩) ls.length cap))
  (hc:∀j,j<ls.length->w.cell? ⟨g,j*2,none⟩=some (.string (bs (ls.getD j ([],0)).1))/\w.cell? ⟨g,j*2+1,none⟩=some (.int .i64 ((ls.getD j ([],0)).2:Nat))):
  SeqStopsK F n Tryz.prog 157 #[.pointer (some ⟨Bs,0,none⟩)] (Hh ls) (G2 n₀ Bs) (fun ys=>ys=pk ls.length ls.length) (fun _=>True) ls.length w:=fun l J Jx W hW _ _ hY h0=>
 G7 F n hf hro hn l Bs n₀ g cap ls hlen hg J Jx hY W ((hW.cell (p:=⟨Bs,0,none⟩) hBs).trans hb) gK
  (fun j hj=>⟨(hW.cell (p:=⟨g,j*2,none⟩) (jK hg hn₀)).trans (hc j hj).1,(hW.cell (p:=⟨g,j*2+1,none⟩) (jK hg hn₀)).trans (hc j hj).2⟩) h0
section
variable {x a:Nat} {w w0 W W':World} {vm vt vi vm1 vt1:Value} {o:Own} {row:Option Nat}
theorem gW {k:Nat}{cs:Array Value}{e:TypeId}{f:Nat×Nat}(hk:W.heap[k]?=some (.cells cs e f))(hr:∀r,row=some r->∃ob:Obj,W.heap[r]?=some ob/\ob.isCells=false):some k≠row:=fun e'=>by
 obtain⟨ob,h1,h2⟩:=hr k e'.symm;rw[hk]at h1;cases h1
 simp[Obj.isCells]at h2
theorem yT {b s n:Nat}{e:TypeId}{v:Value}{xs:List Value}(hv:W.ownsRow b e s v n xs)(hr:∀r,row=some r->∃ob:Obj,W.heap[r]?=some ob/\ob.isCells=false):v.ownBlock=none\/v.ownBlock≠row:=by
 rcases hv.2 with⟨rfl,-⟩|⟨g,cap,cur,rfl,-,hg,-⟩
 ·exact .inl rfl
 ·exact .inr (gW hg hr)
theorem cg.zg (h:cg w0 x a W o vi vm vt)(hg:W.grownBy W' row)(hr:∀r,row=some r->w0.heap.size<=r/\∃ob:Obj,W.heap[r]?=some ob/\ob.isCells=false):cg w0 x a W' o vi vm vt:=by
 have mQ:∀r,row=some r->∃ob:Obj,W.heap[r]?=some ob/\ob.isCells=false:=fun r e=>(hr r e).2
 refine⟨⟨h.fC.base,h.fC.ty,?_,h.fC.made.kept hg (yT h.fC.made mQ),h.fC.trace.kept hg (yT h.fC.trace mQ)⟩,h.bz.trans ⟨hg.os,hg.tape,hg.output,hg.size,fun k hk=>hg.block k (jK hk h.bz.size) (fun e=> ?_)⟩,h.ints,h.boxes,h.feed⟩
 ·rw[hg.block x h.lt (gW h.fC.aD mQ)];exact h.fC.aD
 ·have:=(hr k e.symm).1;omega
theorem aI.zg {w1:World}(h:aI x vm vt w1 vm1 vt1 W)(hg:W.grownBy W' row)(hr:∀r,row=some r->w1.heap.size<=r):aI x vm vt w1 vm1 vt1 W':=
 ⟨hg.os.trans h.os,hg.tape.trans h.tape,hg.output.trans h.output,jS h.size hg.size,fun k hk h1 h2 h3=>(hg.block k (jK hk h.size) (fun e=>by have:=hr k e.symm;omega)).trans (h.block k hk h1 h2 h3),h.fm,h.ft⟩
theorem aI.keeps (h:aI x vm vt W vm1 vt1 W')(hO:cg w0 x a W o vi vm vt):KeepsOthers W W':=by
 refine⟨h.size,fun k ob hk hc=> ?_⟩;have ne:∀{j:Nat} {cs:Array Value} {e:TypeId} {f:Nat×Nat},W.heap[j]?=some (.cells cs e f)->k≠j:=fun hj e=>by
  subst e;rw[hk]at hj;cases hj
  simp[Obj.isCells]at hc
 rw[h.block k (lt_of_heap hk) (ne hO.fC.aD) (fun e=> ?_) (fun e=> ?_)]
 ·exact hk
 ·rcases hO.fC.made.2 with⟨e',-⟩|⟨g,cap,cur,e',-,hg,-⟩
  ·rw[e']at e;cases e
  ·rw[e']at e;simp only[Value.ownBlock,Option.some.injEq]at e;exact ne hg e.symm
 ·rcases hO.fC.trace.2 with⟨e',-⟩|⟨g,cap,cur,e',-,hg,-⟩
  ·rw[e']at e;cases e
  ·rw[e']at e;simp only[Value.ownBlock,Option.some.injEq]at e;exact ne hg e.symm
theorem cg.I1 (hO:cg w0 x a W o vi vm vt)(h:aI x vm vt W vm1 vt1 W'){k:Nat}{cs:Array Value}{e:TypeId}{f:Nat×Nat}(hk:W.heap[k]?=some (.cells cs e f))(h1:e≠104)(h2:175≠e)(h3:9≠e):W'.heap[k]?=some (.cells cs e f):=by
 rw[h.block k (lt_of_heap hk) (fun e'=> ?_) (fun e'=>az hO.fC.made hk h2 e') (fun e'=>az hO.fC.trace hk h3 e')]
 ·exact hk
 ·subst e';have:=hO.fC.aD;rw[hk]at this;simp only[Option.some.injEq,Obj.cells.injEq]at this;exact h1 this.2.1
end
end Own
namespace El
open Go Go.RowKit Sq Aux PrjF PrjG PrjJ PrjK PrjL PrjM PrjN PrjO PrjP PrjR PrjS PrjT FlwA FlwE
def xe (W:World)(v x:Value):Prop:=∃v' W',(Builtin.append_ #[112,112] 112 #[v,x]).run Tryz.prog W=.ok v' W'
noncomputable def Kb (W:World) (v x:Value):Value×World:= @dite _ (∃p:Value×World,(Builtin.append_ #[112,112] 112 #[v,x]).run Tryz.prog W=.ok p.1 p.2) (Classical.propDecidable _) (fun h=>h.choose) (fun _=>(undef,W))
noncomputable def x4 (W:World) (v x:Value):Value:=(Kb W v x).1
noncomputable def rp (W:World) (v x:Value):World:=(Kb W v x).2
theorem BT {W W':World}{v x v':Value}(h:(Builtin.append_ #[112,112] 112 #[v,x]).run Tryz.prog W=.ok v' W'):xe W v x/\x4 W v x=v'/\rp W v x=W':=by
 have hx:∃p:Value×World,(Builtin.append_ #[112,112] 112 #[v,x]).run Tryz.prog W=.ok p.1 p.2:=⟨(v',W'),h⟩;have e:Kb W v x=hx.choose:=by unfold Kb;exact dif_pos hx
 have e2:=h.symm.trans hx.choose_spec;simp only[Result.ok.injEq]at e2;refine⟨⟨_,_,h⟩,?_,?_⟩
 ·unfold x4;rw[e];exact e2.1.symm
 ·unfold rp;rw[e];exact e2.2.symm
theorem L5 (W:World)(v x:Value)(h:xe W v x):Sem.run Tryz.prog (Builtin.append_ #[112,112] 112 #[v,x]) W=.ok (x4 W v x) (rp W v x):=by
 obtain⟨v',W',h⟩:=h;obtain⟨-,e1,e2⟩:=BT h;rw[e1,e2];exact h
theorem Ao:(Tryz.prog.info? 119).map (fun i=>(i.zero,i.size,i.bytes))=some (some (.agg #[.int .i64 0,.int .i64 0]),2,16):=by kernel_rfl
theorem Bc (ps:List (Nat×Nat)):∀u∈aM ps,u.oneCell'=true:=by
 intro u hu;obtain⟨x,-,hx⟩:=List.mem_flatMap.1 hu;simp only[qw,List.mem_cons,List.not_mem_nil,or_false]at hx;rcases hx with rfl|rfl<;>rfl
theorem Kc {W:World}{zz z2:Nat}{v:Value}{ps qs:List (Nat×Nat)}{ad:Option Addr}{c:Nat}(hv:ay zz W v ps)(hx:ay z2 W (.slice ad qs.length c) qs)(hn:ps.length+qs.length<=100000)(Wx:zz<=W.heap.size):
  xe W v (.slice ad qs.length c)/\ay zz (rp W v (.slice ad qs.length c)) (x4 W v (.slice ad qs.length c)) (ps++qs)/\W.grownBy (rp W v (.slice ad qs.length c)) v.ownBlock/\(∀g,(x4 W v (.slice ad qs.length c)).ownBlock=some g->v.ownBlock=some g\/W.heap.size<=g):=by
 obtain⟨i,hi,h0,h1,h2⟩:=info_parts Ao;cases ad with
 |none=>
  have hq:qs=[]:=by
   rcases hx.2 with⟨-,e⟩|⟨g,cap,cur,e,-⟩
   ·exact List.eq_nil_of_length_eq_zero e
   ·cases e
  subst hq;obtain⟨ao,c0,Io,hle⟩:∃ao c0,v=.slice ao ps.length c0/\ps.length<=c0:=by
   rcases hv.2 with⟨e1,e2⟩|⟨g,cap,cur,e1,-,-,e3,-⟩
   ·exact⟨none,0,by rw[e1,e2],by omega⟩
   ·exact⟨_,cap,e1,e3⟩
  have Ag:(Builtin.append_ #[112,112] 112 #[v,.slice none 0 c]).run Tryz.prog W=.ok v W:=by
   subst Io;cases ao<;>simp[Builtin.append_,run_underlying Tryz.underlying112,sizeOf,typeInfo,hi,Builtin.lenOf,hle,Builtin.firstCells,storeCells]
  obtain⟨a1,a2,a3⟩:=BT Ag;show xe W v (.slice none 0 c)/\ay zz (rp W v (.slice none 0 c)) (x4 W v (.slice none 0 c)) _/\W.grownBy (rp W v (.slice none 0 c)) v.ownBlock/\(∀g,(x4 W v (.slice none 0 c)).ownBlock=some g->v.ownBlock=some g\/W.heap.size<=g)
  rw[a2,a3,List.append_nil];exact⟨a1,hv,⟨rfl,rfl,rfl,jC _,fun _ _ _=>rfl⟩,fun g hg=> .inl hg⟩
 |some a=>
  have YV:∀j u,(aM qs)[j]?=some u->W.cell? (a.add j)=some u:=by
   rcases hx.2 with⟨e,-⟩|⟨g,cap,cur,e,-⟩
   ·cases e
   ·simp only[Value.slice.injEq,Option.some.injEq]at e;obtain⟨rfl,-⟩:=e;exact hx.cells (g:=g) rfl
  obtain⟨v',W',Ag,r1,r2,-,r4⟩:=run_append_own_at (P:=Tryz.prog) W zz 112 112 119 i (.agg #[.int .i64 0,.int .i64 0]) 2 16 Tryz.underlying112 hi h0 h1 h2 rfl (by decide) v ps.length (aM ps) hv a qs.length c (aM qs) hx.1 YV (Bc qs) (by unfold maxLen;omega) (by omega) Wx;obtain⟨a1,a2,a3⟩:=BT Ag;rw[a2,a3];refine⟨a1,?_,r2,fun g hg=> ?_⟩
  ·unfold ay;rw[jV];have e:aM (ps++qs)=aM ps++aM qs:=by simp[aM]
   rw[e];exact r1
  ·rcases r4 with r4|r4
   ·exact .inl (r4▸hg)
   ·rw[r4]at hg;simp only[Option.some.injEq]at hg;exact .inr (by omega)
end El
namespace El
open Go Go.RowKit Sq Aux Go.Proofs.YtmlgajhhnojdjaaGreatDoor.Own PrjF PrjG PrjJ PrjK PrjL PrjM PrjN PrjO PrjP PrjR PrjS PrjT FlwA FlwE
def GS:Prop:=∀(x a:Nat) (w:World) (q:QP) (v u:Value),w.cell? ⟨x,0,none⟩=some (.pointer (some ⟨a,0,none⟩))->x<w.heap.size->PQ w a q v u->0<q.locals.length->q.locals.length<=12->
 Calls Tryz.prog 176 #[.pointer (some ⟨x,0,none⟩)] w fun e w'=>∃ad c,e=.returned (.slice ad (gV q q.locals.length).length c)/\ay w.heap.size w' (.slice ad (gV q q.locals.length).length c) (gV q q.locals.length)/\Below w.heap.size w w'
theorem po {nl nb:Nat}{l:ab}(h:iB nl nb l)(aH:l.op=9\/l.op=12\/l.op=13\/l.op=14\/l.op=15):1<=l.places.length:=by
 rw[h.cP];rcases aH with e|e|e|e|e<;>rw[e]<;>decide
section
variable {x a:Nat} {w:World}
set_option maxRecDepth 20000 in
theorem xv (HA:GS)(vM:w.cell? ⟨x,0,none⟩=some (.pointer (some ⟨a,0,none⟩)))(xC:x<w.heap.size){q:QP}{v u:Value}(hq:PQ w a q v u)(mW:0<q.locals.length)(oE:q.locals.length<=12){z nb:Nat}{l:ab}{ap an:Option Addr}{cp cn:Nat}(hL:aE z w l (.slice ap l.places.length cp) (.slice an l.next.length cn))(hk:iB q.locals.length nb l):
  Calls Tryz.prog 126 #[.pointer (some ⟨x,0,none⟩),.agg #[.int .i64 (l.num:Nat),.int .i64 (l.op:Nat),.slice ap l.places.length cp,.int .i64 l.number,.int .i64 l.flag,.slice an l.next.length cn]] w fun e w'=>∃ad c,e=.returned (.slice ad (bf q l).length c)/\ay w.heap.size w' (.slice ad (bf q l).length c) (bf q l)/\Below w.heap.size w w':=by
 obtain⟨V,hV⟩:∃V,w.alloc (.cells #[.int .i64 (l.num:Nat),.int .i64 (l.op:Nat),.slice ap l.places.length cp,.int .i64 l.number,.int .i64 l.flag,.slice an l.next.length cn] 115)=V:=⟨_,rfl⟩;have dk:Below w.heap.size w V:=by rw[<-hV];exact(Below.refl _ _).alloc (jC _) _
 have BI:V.heap[w.heap.size]?=some (.cells #[.int .i64 (l.num:Nat),.int .i64 (l.op:Nat),.slice ap l.places.length cp,.int .i64 l.number,.int .i64 l.flag,.slice an l.next.length cn] 115 (0,0)):=by rw[<-hV];exact jD
 have Y8:V.heap.size=w.heap.size+1:=by rw[<-hV];simp
 have l1:V.cell? ⟨w.heap.size,1,none⟩=some (.int .i64 (l.op:Nat)):=by rw[cell_of_heap BI];rfl
 have l2:V.cell? ⟨w.heap.size,2,none⟩=some (.slice ap l.places.length cp):=by rw[cell_of_heap BI];rfl
 have m0:V.cell? ⟨x,0,none⟩=some (.pointer (some ⟨a,0,none⟩)):=(dk.cell (p:=⟨x,0,none⟩) xC).trans vM;by_cases aH:l.op=9\/l.op=12\/l.op=13\/l.op=14\/l.op=15
 ·have K9:bf q l=bR q (aw l 0):=by unfold bf;rw[jb aH]
  have hlen:=po hk aH;obtain⟨gp,Cl,-,kC,rH,c1,c2⟩:=bB hL.places 0 (by omega);subst Cl;have vJ:(aw l 0).1<q.locals.length:=(hk.places _ (by unfold aw;rw[jA,jB (by omega)];exact jL _)).1;have e1:=(dk.cell (p:=⟨gp,0*2,none⟩) rH).trans c1;have e2:=(dk.cell (p:=⟨gp,0*2+1,none⟩) rH).trans c2;have Xl:Below w.heap.size w V.drew:=⟨dk.os,dk.tape,dk.output,dk.size,dk.block⟩;have KB:=xl q (aw l 0) v u a V.drew ((dk.block a (lt_of_heap hq.aD)).trans hq.aD) (mD hq.loc Xl) (by omega) vJ;rw[K9];have ep:l.places.getD 0 (0,0)=aw l 0:=rfl;rw[ep]at e1 e2;generalize aw l 0=p at*;generalize l.places.length=np at*;have Ym:(0:Int)<np:=by omega
  have fin:∀w2,Below V.heap.size V w2->Below w.heap.size w w2:=fun w2 h2=>dk.trans (h2.mono dk.size)
  have tt:∀n:Nat,l.op=n->∀k:Nat,¬n=k->((l.op:Int)==(k:Int))=false:=fun n e k hk=>by rw[jZ];omega
  have ty:∀n:Nat,l.op=n->((l.op:Int)==(n:Int))=true:=fun n e=>by rw[e];simp
  rcases aH with e|e|e|e|e
  ·have t9:((l.op:Int)==9)=true:=ty 9 e;clear tt ty e;go_enter Tryz.func126,Tryz.ntmps126
   go_upto_region 7 with fail
   go_region_with (go_at_call 175;refine KB.mono ?_;rintro e w2 ⟨ad,c,rfl,hP,hb⟩)
   all_goals go_wp2_with fail
   all_goals
    go_ret
    exact⟨ad,c,rfl,dI hP dk.size,fin w2 ⟨hb.os,hb.tape,hb.output,hb.size,hb.block⟩⟩
  ·have t12:((l.op:Int)==12)=true:=ty 12 e;have t9:((l.op:Int)==9)=false:=tt 12 e 9 (by decide);clear tt ty e;go_enter Tryz.func126,Tryz.ntmps126
   go_upto_region 7 with fail
   go_region_with (go_at_call 175;refine KB.mono ?_;rintro e w2 ⟨ad,c,rfl,hP,hb⟩)
   all_goals go_wp2_with fail
   all_goals
    go_ret
    exact⟨ad,c,rfl,dI hP dk.size,fin w2 ⟨hb.os,hb.tape,hb.output,hb.size,hb.block⟩⟩
  ·have t13:((l.op:Int)==13)=true:=ty 13 e;have t9:((l.op:Int)==9)=false:=tt 13 e 9 (by decide);have t12:((l.op:Int)==12)=false:=tt 13 e 12 (by decide);clear tt ty e;go_enter Tryz.func126,Tryz.ntmps126
   go_upto_region 7 with fail
   go_region_with (go_at_call 175;refine KB.mono ?_;rintro e w2 ⟨ad,c,rfl,hP,hb⟩)
   all_goals go_wp2_with fail
   all_goals
    go_ret
    exact⟨ad,c,rfl,dI hP dk.size,fin w2 ⟨hb.os,hb.tape,hb.output,hb.size,hb.block⟩⟩
  ·have t14:((l.op:Int)==14)=true:=ty 14 e;have t9:((l.op:Int)==9)=false:=tt 14 e 9 (by decide);have t12:((l.op:Int)==12)=false:=tt 14 e 12 (by decide);have t13:((l.op:Int)==13)=false:=tt 14 e 13 (by decide);clear tt ty e;go_enter Tryz.func126,Tryz.ntmps126
   go_upto_region 7 with fail
   go_region_with (go_at_call 175;refine KB.mono ?_;rintro e w2 ⟨ad,c,rfl,hP,hb⟩)
   all_goals go_wp2_with fail
   all_goals
    go_ret
    exact⟨ad,c,rfl,dI hP dk.size,fin w2 ⟨hb.os,hb.tape,hb.output,hb.size,hb.block⟩⟩
  ·have t15:((l.op:Int)==15)=true:=ty 15 e;have t9:((l.op:Int)==9)=false:=tt 15 e 9 (by decide);have t12:((l.op:Int)==12)=false:=tt 15 e 12 (by decide);have t13:((l.op:Int)==13)=false:=tt 15 e 13 (by decide);have t14:((l.op:Int)==14)=false:=tt 15 e 14 (by decide);clear tt ty e;go_enter Tryz.func126,Tryz.ntmps126
   go_upto_region 7 with fail
   go_region_with (go_at_call 175;refine KB.mono ?_;rintro e w2 ⟨ad,c,rfl,hP,hb⟩)
   all_goals go_wp2_with fail
   all_goals
    go_ret
    exact⟨ad,c,rfl,dI hP dk.size,fin w2 ⟨hb.os,hb.tape,hb.output,hb.size,hb.block⟩⟩
 ·have tt:∀k:Nat,¬l.op=k->((l.op:Int)==(k:Int))=false:=fun k hk=>by rw[jZ];omega
  have t9:((l.op:Int)==9)=false:=tt 9 (by omega);have t12:((l.op:Int)==12)=false:=tt 12 (by omega);have t13:((l.op:Int)==13)=false:=tt 13 (by omega);have t14:((l.op:Int)==14)=false:=tt 14 (by omega);have t15:((l.op:Int)==15)=false:=tt 15 (by omega);by_cases B9:l.op=22
  ·have K9:bf q l=gV q q.locals.length:=by unfold bf;rw[ja aH,jb B9]
   have t22:((l.op:Int)==22)=true:=by rw[B9];rfl
   have KA:=HA x a V q v u m0 (by omega) (hq.below dk) mW oE;rw[K9];clear aH tt B9;go_enter Tryz.func126,Tryz.ntmps126
   go_wp2_with (go_at_call 176;refine KA.mono ?_;rintro e w2 ⟨ad,c,rfl,hP,hb⟩)
   go_ret
   exact⟨ad,c,rfl,dI hP dk.size,dk.trans (hb.mono dk.size)⟩
  ·have K9:bf q l=[]:=by unfold bf;rw[ja aH,ja B9]
   have t22:((l.op:Int)==22)=false:=tt 22 B9;rw[K9];clear aH tt B9;go_enter Tryz.func126,Tryz.ntmps126
   go_wp2
   go_ret
   exact⟨none,0,rfl,World.ownsRow_nil _ _ _ _,dk⟩
end
end El
namespace Own
open Go Go.RowKit Go.Shelf Sq Aux PrjJ PrjK PrjL PrjM PrjR PrjS PrjT FlwA FlwB FlwD FlwE
attribute [local go_sem] Oper.semAt_some
theorem zC (q:QP){N:Nat}:∀(ys:List (Fin N)) {o:Own} {t:Nat},o.In t->t+2*ys.length<=1000000->(qQ q ys o).In (t+2*ys.length)
 |[],_,_,h,_=>h
 |y::ys,o,t,h,ht=>by
  have h2:=gX q (y.val,0);rw[jY]at ht;rw[jY,show t+2*(ys.length+1)=(t+2)+2*ys.length by omega];exact zC q ys ((h.drop (QP.ai q (y.val,0)) (by omega)).mono (by omega)) (by omega)
theorem BZ (q:QP){N:Nat}(ys:List (Fin N))(y:Fin N)(o:Own):qQ q (ys++[y]) o=(qQ q ys o).drop (QP.ai q (y.val,0)):=by simp[qQ]
section
variable {x a:Nat} {w w0:World} {vm vt vi:Value} {o:Own}
set_option maxRecDepth 100000 in
theorem zB (h:cg w0 x a w o vi vm vt){q:QP}{v u:Value}{t:Nat}(hq:PQ w0 a q v u)(mW:0<q.locals.length)(oE:q.locals.length<=12)(lA:o.In t)(ht:t<=900000)(lB:Pow w0)(ly:11<=w0.heap.size):
  Calls Tryz.prog 64 #[.pointer (some ⟨x,0,none⟩)] w fun e w'=>e=.returned (.tuple #[])/\∃vm' vt',cg w0 x a w' (o.dd q q.locals.length) vi vm' vt'/\aI x vm vt w vm' vt' w':=by
 refine(callsIn_wide (n:=3)).1 ?_;obtain⟨g,cap,rfl,gK,hg,-⟩:=gR hq.loc 0 mW;have GN:∀j,j<q.locals.length->w0.cell? ⟨g,j*2,none⟩=some (.string (bs (q.locals.getD j ([],0)).1))/\w0.cell? ⟨g,j*2+1,none⟩=some (.int .i64 ((q.locals.getD j ([],0)).2:Nat)):=fun j hj=>by
  obtain⟨g',cap',e,-,-,c1,c2⟩:=gR hq.loc j hj;simp only[Value.slice.injEq,Option.some.injEq,Addr.mk.injEq,and_true,true_and]at e;obtain⟨rfl,-⟩:=e;exact⟨c1,c2⟩
 have aB:Below w.heap.size w (w.alloc (.cells #[.pointer (some ⟨x,0,none⟩)] 170)):=(Below.refl _ _).alloc (jC _) _;have H1:=h.below aB;have m1:=H1.prog;have Q1:=hq.below H1.bz;have m2:(w.alloc (.cells #[.pointer (some ⟨x,0,none⟩)] 170)).cell? ⟨a,0,none⟩=some (.slice (some ⟨g,0,none⟩) q.locals.length cap):=by rw[cell_of_heap Q1.aD];rfl
 refine callsIn_of_wp_marks Tryz.func64 rfl trivial ?_ rfl;simp only[Tryz.ntmps64,List.size_toArray,List.length_cons,List.length_nil,Nat.reduceAdd,Nat.reduceSub,Array.replicate_succ,Array.replicate_zero,List.push_toArray,List.append_toArray,List.nil_append,List.cons_append]
 gi_wp2_with (refine⟨trivial,?_⟩;gi_at_call 101;refine(DC _ _ trivial rfl _ _ _ _).mono ?_;rintro e w' ⟨rfl,rfl⟩)
 have bu:Below w.heap.size w ((w.alloc (.cells #[.pointer (some ⟨x,0,none⟩)] 170)).alloc (.cells #[.slice (some ⟨g,0,none⟩) q.locals.length cap] 107)):=aB.alloc aB.size _;have H2:=h.below bu;have dk:((w.alloc (.cells #[.pointer (some ⟨x,0,none⟩)] 170)).alloc (.cells #[.slice (some ⟨g,0,none⟩) q.locals.length cap] 107)).heap[w.heap.size]?=some (.cells #[.pointer (some ⟨x,0,none⟩)] 170 (0,0)):=by
  rw[Below.heap_alloc _ _ _ (by simp)];exact jD
 have dp:((w.alloc (.cells #[.pointer (some ⟨x,0,none⟩)] 170)).alloc (.cells #[.slice (some ⟨g,0,none⟩) q.locals.length cap] 107)).heap[w.heap.size+1]?=some (.cells #[.slice (some ⟨g,0,none⟩) q.locals.length cap] 107 (0,0)):=by
  have:=World.alloc_heap_new (w.alloc (.cells #[.pointer (some ⟨x,0,none⟩)] 170)) (.cells #[.slice (some ⟨g,0,none⟩) q.locals.length cap] 107)
  rwa [World.size_alloc]at this
 have vq:((w.alloc (.cells #[.pointer (some ⟨x,0,none⟩)] 170)).alloc (.cells #[.slice (some ⟨g,0,none⟩) q.locals.length cap] 107)).cell? ⟨w.heap.size+1,0,none⟩=some (.slice (some ⟨g,0,none⟩) q.locals.length cap):=by rw[cell_of_heap dp];rfl
 have Cq:((w.alloc (.cells #[.pointer (some ⟨x,0,none⟩)] 170)).alloc (.cells #[.slice (some ⟨g,0,none⟩) q.locals.length cap] 107)).heap.size=w.heap.size+2:=by simp
 have rJ:=h.bz.size;obtain⟨W1,k9⟩:∃W1,((w.alloc (.cells #[.pointer (some ⟨x,0,none⟩)] 170)).alloc (.cells #[.slice (some ⟨g,0,none⟩) q.locals.length cap] 107))=W1:=⟨_,rfl⟩;rw[k9]at bu H2 dk dp vq Cq⊢;refine wpIn_rangeFunc_ownF rfl (by decide) (gf:=157) (lb:= #[.pointer (some ⟨w.heap.size+1,0,none⟩)]) rfl trivial (enters_of Tryz.func157 (by kernel_rfl) rfl)
  (sk _ _ trivial rfl (by decide) (w.heap.size+1) w0.heap.size g cap q.locals (by omega) hg gK W1 (by omega) (by omega) vq (fun j hj=>⟨(H2.bz.cell (p:=⟨g,j*2,none⟩) hg).trans (GN j hj).1,(H2.bz.cell (p:=⟨g,j*2+1,none⟩) hg).trans (GN j hj).2⟩))
  (fun h1 h2=>⟨h1.1.trans h2.1,h2.2.trans h1.2⟩)
  (fun W l ob ob' hl hk hc _=>⟨belowK_b (w:=W1) (by omega) W l ob ob' hl hk hc (by assumption),by
   have c8:W1.heap.size<=l:=hl;simp only[World.cell?];rw[World.putObj_heap_other (by show w.heap.size+1≠l;omega)]⟩)
  (Below.refl _ _) (fun _=>rfl)
  (fun pre W=>∃vm' vt',cg w0 x a W (qQ q pre o) vi vm' vt'/\aI x vm vt W1 vm' vt' W/\W.heap[w.heap.size]?=some (.cells #[.pointer (some ⟨x,0,none⟩)] 170 (0,0))/\W.heap[w.heap.size+1]?=some (.cells #[.slice (some ⟨g,0,none⟩) q.locals.length cap] 107 (0,0)))
  (fun _ _ _=>False)
  (fun pre W W' row hs kE hr=>by
   obtain⟨vm',vt',i1,i2,i3,i4⟩:=hs;have mQ:∀r,row=some r->∃ob:Obj,W.heap[r]?=some ob/\ob.isCells=false:=fun r e=>(hr r e).2
   refine⟨vm',vt',i1.zg kE (fun r e=>⟨by have:=(hr r e).1;omega,(hr r e).2⟩),i2.zg kE (fun r e=>(hr r e).1),?_,?_⟩
   ·rw[kE.block _ (lt_of_heap i3) (gW i3 mQ)];exact i3
   ·rw[kE.block _ (lt_of_heap i4) (gW i4 mQ)];exact i4)
  (fun _ _ _ _ _ hs _ _=>hs)
  ⟨vm,vt,H2,aI.refl _ _ _ _,dk,dp⟩
  (fun y=>{tmps:= #[.pointer (some ⟨x,0,none⟩),.pointer (some ⟨w.heap.size,0,none⟩),.int .i64 (y.val:Int),.pointer (some ⟨x,0,none⟩),.pointer (some ⟨x,0,none⟩),.pointer (some ⟨x,3,none⟩),.pointer (some ⟨a,0,none⟩),.pointer (some ⟨a,0,none⟩),.pointer (some ⟨a,0,none⟩),.slice (some ⟨g,0,none⟩) q.locals.length cap,.func (.func 157) #[] #[.pointer (some ⟨w.heap.size+1,0,none⟩)],.int .i64 (y.val:Int),LH q.locals y.val,undef,undef,undef,undef,undef,undef,undef,undef,undef],defers:=[]}) ?assign ?body ?done ?stop
 case assign=>
  intro l y W K hK;unfold Hh
  gi_wp2
  exact hK
 case body=>
  rintro l pre y W ⟨vm',vt',i1,i2,i3,i4⟩ dL;have hd:1<=3-1-1:=by omega
  have Yj:Tryz.prog.follows .mixedOrders=true:=by kernel_rfl
  have c1:W.cell? ⟨w.heap.size,0,none⟩=some (.pointer (some ⟨x,0,none⟩)):=by rw[cell_of_heap i3];rfl
  have c3:=i1.prog;have i1d:=i1.drew;have QW:=hq.below i1d.bz;have UR:y.val<q.locals.length:=y.isLt;have KH:Calls Tryz.prog 102 #[.pointer (some ⟨a,0,none⟩),.agg #[.int .i64 (y.val:Int),.int .i64 0]] W.drew _:=cC q (y.val,0) _ u a W.drew QW.aD QW.loc UR;have VQ:=zC q pre lA (by omega);have Uf:=dt (q:=q) (x:=(y.val,0)) (n:=12) (by show y.val<12;omega);have JV:=gX q (y.val,0);have KD:=fun(V:World) (hV:cg w0 x a V (qQ q pre o) vi vm' vt') (zz gg cc:Nat) (hP:ay zz V (.slice (some ⟨gg,0,none⟩) (QP.ai q (y.val,0)).length cc) (QP.ai q (y.val,0)))=>lH hV hP Uf (by omega) VQ.bx (VQ.sz (by omega)) (by omega) lB ly
  have TZ:=BZ q pre y o
  gi_wp2
  gi_region_with_o (first
   |(refine⟨trivial,?_⟩;gi_at_call 102;refine(CallsIn.inRound l (callsIn_wide.2 KH)).mono ?_;rintro e w2 ⟨g2,c2,rfl,k8,h2⟩;have fB:=i1d.below h2;have d1:w2.cell? ⟨w.heap.size,0,none⟩=some (.pointer (some ⟨x,0,none⟩)):=(h2.cell (p:=⟨w.heap.size,0,none⟩) (lt_of_heap i3)).trans c1)
   |(refine⟨trivial,?_⟩;gi_at_call 60;refine(CallsIn.inRound l (callsIn_wide.2 (KD _ fB _ g2 c2 k8))).mono ?_;rintro e w3 ⟨rfl,vm3,vt3,h3,r3⟩))
  all_goals gi_wp2
  all_goals
   have r:aI x vm' vt' W vm3 vt3 w3:=((aI.of (fj W)).trans (aI.of h2)).trans r3;have j3:=i1.I1 r i3 (by decide) (by decide) (by decide);have j4:=i1.I1 r i4 (by decide) (by decide) (by decide);exact⟨r.keeps i1,⟨r.below i1.fC (jC _) i1.bz.size,by rw[cell_of_heap j4,cell_of_heap i4]⟩,vm3,vt3,by rw[TZ];exact h3,i2.trans r,j3,j4⟩
 case done=>
  rintro D ys W hD rfl ⟨vm',vt',i1,i2,i3,i4⟩ hK;have kD:=xr q (N:=q.locals.length) o q.locals.length (jC _);rw[Nat.sub_self,Own.dd]at kD;rw[kD]at i1
  gi_wp2
  refine⟨by simp,.inl ⟨_,_,rfl,run_takeDeferred hK,?_⟩⟩;have Mv:∀r,some D=some r->W1.heap.size<=r/\∃ob:Obj,W.heap[r]?=some ob/\ob.isCells=false:=fun r e=>by cases e;exact⟨hD,_,hK,rfl⟩
  exact⟨_,results_none rfl _ _ _,rfl,vm',vt',i1.zg (grownBy_putObj' W D _) (fun r e=>⟨by have:=(Mv r e).1;omega,(Mv r e).2⟩),((aI.of bu).trans i2).zg (grownBy_putObj' W D _) (fun r e=>by have:=(Mv r e).1;omega)⟩
 case stop=>
  rintro D c pre W _ _ hx _;exact hx.elim
end
end Own
end Go.Proofs.YtmlgajhhnojdjaaGreatDoor

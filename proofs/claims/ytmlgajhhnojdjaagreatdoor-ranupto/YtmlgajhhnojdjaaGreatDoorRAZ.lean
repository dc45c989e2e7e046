import Derived.Test.YtmlgajhhnojdjaaGreatDoorRAY
namespace Go.Proofs.YtmlgajhhnojdjaaGreatDoor
namespace FlwP
open Go Go.RowKit Sq Aux PrjF PrjG PrjJ PrjK PrjL PrjM PrjO PrjP PrjQ PrjS PrjU FlwA FlwB FlwC FlwD FlwE FlwF FlwG FlwH FlwI FlwJ FlwK FlwL FlwM FlwN FlwO
attribute [local go_sem ↓] kB iL
def cX (q:QP):List ab->List Nat->Option Nat
 |[],_=>none
 |l::ls,s=>if aM q l s=true then some l.num else cX q ls (bm q l s)
theorem Ge (q:QP)(ls:List ab)(i:Nat)(hi:i<ls.length)(s:List Nat):cX q (ls.drop i) s=if aM q (ls.getD i ab.nil) s=true then some (ls.getD i ab.nil).num else cX q (ls.drop (i+1)) (bm q (ls.getD i ab.nil) s):=by
 rw[jE hi];have:ls.getD i ab.nil=ls[i]:=by simp[hi]
 rw[this];rfl
def CS:Option Nat->Value
 |some n=> .tuple #[.int .i64 (n:Nat),.bool true]
 |none=> .tuple #[.int .i64 0,.bool false]
section
variable {z x a ap mb:Nat} {w w':World} {q:QP} {vl vb:Value} {us:List Value} {vss:List (List (Value×Value))} {E:List (List Nat)} {O:Nat->Bool}
set_option maxRecDepth 20000 in
set_option maxHeartbeats 4000000 in
theorem Gd (h:kL z x a ap mb w q vl vb us vss E O)(b:Nat)(hb:b<q.blocks.length)(_hn:q.blocks.length<=4000)(ie:q.locals.length<=12)(hq:Jy q.blocks.length q)(eY:∀j,(q.blocks.getD j []).length<=4000):
  Calls Tryz.prog 145 #[.pointer (some ⟨x,0,none⟩),.int .i64 (b:Nat)] w fun e w'=>e=.returned (CS (cX q (q.blocks.getD b []) (E.getD b [])))/\Below w.heap.size w w':=by
 have Ju:b<E.length:=by rw[h.len];exact hb
 have hE:=h.row.ok Ju;have ZF:=h.row.lt;have hti:(b:Int)<(q.blocks.length:Nat):=by omega
 obtain⟨c0,c1,c2⟩:=h.facts;have has:=h.row.has b Ju;have hof:=h.row.of b Ju;have HG:Hid (cX q (q.blocks.getD b []) (E.getD b [])=cX q ((q.blocks.getD b []).drop 0) (E.getD b [])):=rfl;obtain⟨ans,Y5⟩:∃ans,Hid (cX q (q.blocks.getD b []) (E.getD b [])=ans):=⟨_,rfl⟩;rw[Y5.out]at HG⊢;have hZ:aX (w.alloc (.cells #[.int .u8 0,.int .u8 0,.int .u8 0,.int .u8 0,.int .u8 0,.int .u8 0,.int .u8 0,.int .u8 0,.int .u8 0,.int .u8 0,.int .u8 0,.int .u8 0,.int .u8 0,.int .u8 0,.int .u8 0,.int .u8 0,.int .u8 0,.int .u8 0,.int .u8 0,.int .u8 0,.int .u8 0,.int .u8 0,.int .u8 0,.int .u8 0] 209)) w.heap.size ar:=aX.new w (s:=ar) (by decide);have Rl:Below w.heap.size w (w.alloc (.cells #[.int .u8 0,.int .u8 0,.int .u8 0,.int .u8 0,.int .u8 0,.int .u8 0,.int .u8 0,.int .u8 0,.int .u8 0,.int .u8 0,.int .u8 0,.int .u8 0,.int .u8 0,.int .u8 0,.int .u8 0,.int .u8 0,.int .u8 0,.int .u8 0,.int .u8 0,.int .u8 0,.int .u8 0,.int .u8 0,.int .u8 0,.int .u8 0] 209)):=(Below.refl _ _).alloc (jC _) _;have oP:=aX.room hZ;have GJ:=pJ hE.len;have hJ:=aX.store hZ hE.len;have xP:Below w.heap.size w ((w.alloc (.cells #[.int .u8 0,.int .u8 0,.int .u8 0,.int .u8 0,.int .u8 0,.int .u8 0,.int .u8 0,.int .u8 0,.int .u8 0,.int .u8 0,.int .u8 0,.int .u8 0,.int .u8 0,.int .u8 0,.int .u8 0,.int .u8 0,.int .u8 0,.int .u8 0,.int .u8 0,.int .u8 0,.int .u8 0,.int .u8 0,.int .u8 0,.int .u8 0] 209)).setCells w.heap.size 0 (aq (E.getD b []))):=az Rl (jC _) _ _;have hW:=h.below xP;clear Y5;generalize E.getD b []=e0 at*;clear Rl hZ;go_enter Tryz.func145,Tryz.ntmps145
 go_upto_region 2 with fail
 generalize ((w.alloc (.cells #[.int .u8 0,.int .u8 0,.int .u8 0,.int .u8 0,.int .u8 0,.int .u8 0,.int .u8 0,.int .u8 0,.int .u8 0,.int .u8 0,.int .u8 0,.int .u8 0,.int .u8 0,.int .u8 0,.int .u8 0,.int .u8 0,.int .u8 0,.int .u8 0,.int .u8 0,.int .u8 0,.int .u8 0,.int .u8 0,.int .u8 0,.int .u8 0] 209)).setCells w.heap.size 0 (aq e0))=W at*;clear oP has hof c0 c1 c2;obtain⟨c0,c1,c2⟩:=hW.facts;obtain⟨p0,p1,-,-⟩:=lE.facts hW.prog;obtain⟨gb,cb,adk,ck,rfl,FC,Rx,aD,hus⟩:=pw hW.prog b hb;have la:=eY b;have cf:∀l∈q.blocks.getD b [],tS q.locals.length q.blocks.length l:=hq.lines _ (by simp[hb]);have Ob:w.heap.size≠ap:=by omega
 have Zo:Hid (∀wn,kL z x a ap mb wn q vl (.slice (some ⟨gb,0,none⟩) q.blocks.length cb) us vss E O->fi z wn (.slice adk (q.blocks.getD b []).length ck) (q.blocks.getD b []) (vss.getD b [])):=fun wn FF=>by
  have h1:=FF.prog.each b hb;rw[hus]at h1;exact h1
 have HL:Hid (∀wn,kL z x a ap mb wn q vl (.slice (some ⟨gb,0,none⟩) q.blocks.length cb) us vss E O->∀i,i<(q.blocks.getD b []).length->∀v1 v2,(vss.getD b []).getD i (undef,undef)=(v1,v2)->bq z wn ((q.blocks.getD b []).getD i ab.nil) v1 v2):=fun wn FF i hi v1 v2 hv=>kL.line FF hb hi hv
 have HS:Hid (∀i,i<(q.blocks.getD b []).length->∀s,cX q ((q.blocks.getD b []).drop i) s=if aM q ((q.blocks.getD b []).getD i ab.nil) s=true then some ((q.blocks.getD b []).getD i ab.nil).num else cX q ((q.blocks.getD b []).drop (i+1)) (bm q ((q.blocks.getD b []).getD i ab.nil) s)):=fun i hi s=>Ge q _ i hi s
 generalize q.blocks.getD b []=aJ at*;generalize vss.getD b []=vsj at*;go_wp2
 go_loopg [27] (aJ.length) (fun g v27 wr=>∃(i:Nat) (s':List Nat),i<=aJ.length/\g+i=aJ.length/\v27=.int .i64 i/\kL z x a ap mb wr q vl (.slice (some ⟨gb,0,none⟩) q.blocks.length cb) us vss E O/\aX wr w.heap.size s'/\eI s'/\Below w.heap.size w wr/\Hid (ans=cX q (aJ.drop i) s'))
 case atStart=>exact⟨0,e0,jQ _,rfl,rfl,hW,hJ,hE,xP,HG⟩
 case round=>
  obtain⟨i,s',hi,YO,rfl,oC,Rf,Jt,Jn,HR⟩:=hrel;clear hJ HG hW xP c0 c1 c2 p0 p1 aD GJ hE;by_cases Cp:i<aJ.length
  ·obtain⟨gl,apl,cp,an,cn,rfl,-,AW,Wh,k0,k1,k2,k3,k4,k5,X9⟩:=pr (Zo.out wr oC) i Cp;have hS:Hid (_=_):=HS.out i Cp s';have Yv:Hid (∀wn,kL z x a ap mb wn q vl (.slice (some ⟨gb,0,none⟩) q.blocks.length cb) us vss E O->bq z wn (aJ.getD i ab.nil) (.slice apl (aJ.getD i ab.nil).places.length cp) (.slice an (aJ.getD i ab.nil).next.length cn)):=fun wn FF=>HL.out wn FF i Cp _ _ X9
   have hl:=cf (aJ.getD i ab.nil) (by simp[Cp]);clear X9;generalize aJ.getD i ab.nil=l at*;have zJ:Below wr.heap.size wr (wr.alloc (.cells #[.int .i64 (l.num:Nat),.int .i64 (l.op:Nat),.slice apl l.places.length cp,.int .i64 l.number,.int .i64 l.flag,.slice an l.next.length cn] 115)):=(Below.refl _ _).alloc (jC _) _;have Xm:=oC.below zJ;have Zw:=Rf.below zJ Rf.lt;have Jm:=Jn.trans (zJ.mono Jn.size);have my:(wr.alloc (.cells #[.int .i64 (l.num:Nat),.int .i64 (l.op:Nat),.slice apl l.places.length cp,.int .i64 l.number,.int .i64 l.flag,.slice an l.next.length cn] 115)).heap[wr.heap.size]?=some (.cells #[.int .i64 (l.num:Nat),.int .i64 (l.op:Nat),.slice apl l.places.length cp,.int .i64 l.number,.int .i64 l.flag,.slice an l.next.length cn] 115 (0,0)):=jD;have YZ:w.heap.size<wr.heap.size:=Rf.lt;go_upto_region 5 with fail
   generalize (wr.alloc (.cells #[.int .i64 (l.num:Nat),.int .i64 (l.op:Nat),.slice apl l.places.length cp,.int .i64 l.number,.int .i64 l.flag,.slice an l.next.length cn] 115))=WL at*;clear k0 k1 k2 k3 k4 k5 zJ;have sb:Below WL.heap.size WL WL.drew:=below_drewN (Below.refl _ _) 1;have AU:=Xm.below sb;have GB:aX WL.drew w.heap.size s':=Zw;have AY:WL.drew.heap[wr.heap.size]?=some (.cells #[.int .i64 (l.num:Nat),.int .i64 (l.op:Nat),.slice apl l.places.length cp,.int .i64 l.number,.int .i64 l.flag,.slice an l.next.length cn] 115 (0,0)):=my;have Xf:=Jm.trans (sb.mono Jm.size);obtain⟨c0,c1,c2⟩:=Xm.facts;have l0:=(cell_of_heap my 0).trans (by rfl:_=some (Value.int .i64 (l.num:Nat)));have l1:=(cell_of_heap my 1).trans (by rfl:_=some (Value.int .i64 (l.op:Nat)));have l2:=(cell_of_heap my 2).trans (by rfl:_=some (Value.slice apl l.places.length cp));have l3:=(cell_of_heap my 3).trans (by rfl:_=some (Value.int .i64 l.number));have l4:=(cell_of_heap my 4).trans (by rfl:_=some (Value.int .i64 l.flag));have l5:=(cell_of_heap my 5).trans (by rfl:_=some (Value.slice an l.next.length cn));have KF:=JZ q l q.blocks.length z a w.heap.size vl _ apl an cp cn s' WL.drew ⟨AU.prog.aJ,⟨_,AU.prog.locals⟩⟩ ie hl (Yv.out _ AU) GB Jt.lt;obtain⟨fq,Hfq⟩:∃fq,Hid (aM q l s'=fq):=⟨_,rfl⟩;rw[Hfq.out]at KF;go_cut [8,36] (fun v8 v36 wc=>v8=.pointer (some ⟨wr.heap.size,0,none⟩)/\v36=.bool fq/\Below WL.drew.heap.size WL.drew wc)
   case first=>
    go_region_with (go_at_call 190;refine KF.mono ?_;rintro e w1 ⟨rfl,aw⟩)
    all_goals go_wp2_with fail
    all_goals
     go_meet
     case rel=>exact⟨rfl,rfl,aw⟩
   case rest=>
    obtain⟨rfl,rfl,aw⟩:=hcut;have hWc:=AU.below aw;have hSc:=GB.below aw GB.lt;have Km:=(aw.block _ (lt_of_heap AY)).trans AY;have hBc:=Xf.trans (aw.mono Xf.size);clear KF Xm Zw Jm my sb AU GB AY Xf c0 c1 c2 l0 l1 l2 l3 l4 l5 aw;cases fq with
    |true=>
     have l0:=(cell_of_heap Km 0).trans (by rfl:_=some (Value.int .i64 (l.num:Nat)));have hA:ans=some l.num:=by rw[HR.out,hS.out,jb Hfq.out]
     go_wp2
     go_ret2
     rw[hA];exact⟨rfl,hBc⟩
    |false=>
     have VY:Hid (ans=cX q (aJ.drop (i+1)) (bm q l s')):=by unfold Hid;rw[HR.out,hS.out,ja (by rw[Hfq.out];decide)]
     clear HR;have sb:Below wc.heap.size wc wc.drew:=below_drewN (Below.refl _ _) 1;have UE:=hWc.below sb;have Zx:aX wc.drew w.heap.size s':=hSc;have Zp:=hBc.trans (sb.mono hBc.size);obtain⟨c0,c1,c2⟩:=hWc.facts;have l0:=(cell_of_heap Km 0).trans (by rfl:_=some (Value.int .i64 (l.num:Nat)));have l1:=(cell_of_heap Km 1).trans (by rfl:_=some (Value.int .i64 (l.op:Nat)));have l2:=(cell_of_heap Km 2).trans (by rfl:_=some (Value.slice apl l.places.length cp));have l3:=(cell_of_heap Km 3).trans (by rfl:_=some (Value.int .i64 l.number));have l4:=(cell_of_heap Km 4).trans (by rfl:_=some (Value.int .i64 l.flag));have l5:=(cell_of_heap Km 5).trans (by rfl:_=some (Value.slice an l.next.length cn));have KP:=IC q l q.blocks.length z a w.heap.size vl _ apl an cp cn s' wc.drew ⟨UE.prog.aJ,⟨_,UE.prog.locals⟩⟩ ie hl (Yv.out _ UE) Zx Jt.lt;generalize wr.heap.size=lb at*;go_upto_region 7 with fail
     go_region_with (go_at_call 128;refine KP.mono ?_;rintro e w1 ⟨rfl,sI,qq⟩)
     all_goals
      have tj:=UE.other qq Zx Ob;have lv:=Zp.trans (qq.below (jC _) Zp.size);have U8:=gm q l Jt;clear KP l0 l1 l2 l3 l4 l5 c0 c1 c2;go_wp2
      go_roundg (aJ.length-(i+1))
      case measure=>omega
      case rel=>exact⟨i+1,_,by omega,by omega,by go_num,tj,sI,U8,lv,VY⟩
  ·have hA:ans=none:=by rw[HR.out,jT (by omega)];rfl
   go_wp2
   go_ret2
   rw[hA];exact⟨rfl,Jn⟩
end
end FlwP
namespace FlwQ
open Go Go.RowKit Sq Aux PrjF PrjG PrjJ PrjK PrjL PrjM PrjO PrjP PrjQ PrjS PrjU FlwA FlwB FlwC FlwD FlwE FlwF FlwG FlwH FlwI FlwJ FlwK FlwL FlwM FlwN FlwO FlwP
attribute [local go_sem ↓] kB iL
def cV (q:QP)(E:List (List Nat))(b:Nat):Option Nat:=if E.getD b []=ar then none else cX q (q.blocks.getD b []) (E.getD b [])
def aC (f:Nat->Option Nat):Nat->Nat->Option Nat
 |0,_=>none
 |m+1,k=>(f k).or (aC f m (k+1))
theorem qJ (f:Nat->Option Nat):∀(d m k:Nat),(∀c,k<=c->c<k+d->f c=none)->aC f (d+m) k=aC f m (k+d)
 |0,m,k,_=>by rw[Nat.zero_add];rfl
 |d+1,m,k,h=>by
  rw[show d+1+m=(d+m)+1 by omega,aC,h k (jC _) (by omega),Option.none_or];rw[qJ f d m (k+1) (fun c h1 h2=>h c (by omega) (by omega)),show k+1+d=k+(d+1) by omega]
theorem sF (f:Nat->Option Nat):∀(m k:Nat),(∀c,k<=c->c<k+m->f c=none)->aC f m k=none
 |0,_,_=>rfl
 |m+1,k,h=>by
  rw[aC,h k (jC _) (by omega),Option.none_or];exact sF f m (k+1) (fun c h1 h2=>h c (by omega) (by omega))
def gT (E:List (List Nat))(k N:Nat):Nat->Bool:=fun b=>decide (k<=b)&&(decide (b<N)&& !(E.getD b []==ar))
theorem y8 {E:List (List Nat)}{k N b:Nat}(h:gT E k N b=false)(h1:k<=b)(h2:b<N)(q:QP):cV q E b=none:=by
 unfold gT at h;rw[decide_eq_true h1,decide_eq_true h2]at h;simp only[Bool.true_and,Bool.not_eq_false',beq_iff_eq]at h;rw[cV,jb h]
theorem tB {E:List (List Nat)}{k N b:Nat}(h:gT E k N b=true):k<=b/\b<N/\¬E.getD b []=ar:=by
 unfold gT at h;simp only[Bool.and_eq_true,decide_eq_true_eq,Bool.not_eq_true',beq_eq_false_iff_ne]at h;exact h
def CJ (E:List (List Nat))(N:Nat)(k:Nat):Nat->Bool:=fun b=>decide (b<k)&&(decide (b<N)&& !(E.getD b []==ar))
theorem TH (E:List (List Nat))(N k:Nat)(hk:k<N):CJ E N (k+1)=if(E.getD k []==ar)=true then CJ E N k else cC (CJ E N k) k true:=by
 funext b
 by_cases e:b=k
 ·subst e;cases h:(E.getD b []==ar)
  ·rw[ja (by decide)];simp only[CJ,cC,h];simp[hk]
  ·rw[jb rfl];simp only[CJ,h];simp
 ·have h1:CJ E N (k+1) b=CJ E N k b:=by
   unfold CJ;have:decide (b<k+1)=decide (b<k):=by rw[decide_eq_decide];omega
   rw[this]
  rw[h1];split
  ·rfl
  ·unfold cC;rw[ja e]
theorem TI (E:List (List Nat))(N:Nat):CJ E N 0=fun _=>false:=by funext b;simp[CJ]
theorem VT (E:List (List Nat))(N:Nat):CJ E N N=gT E 0 N:=by
 funext b;unfold CJ gT
 by_cases h:b<N
 ·simp[h]
 ·simp[h]
theorem Ps {E:List (List Nat)}{k N b:Nat}(hb:Mt (gT E k N) N b)(aL:b<N):cC (gT E k N) b false=gT E (b+1) N:=by
 obtain⟨h1,h2,h3⟩:=tB (hb.sy aL)
 funext c
 unfold cC;by_cases e:c=b
 ·subst e;rw[jb rfl];have:decide (c+1<=c)=false:=by simp
  unfold gT;rw[this];rfl
 ·rw[ja e];by_cases hc:c<b
  ·rw[hb.none c hc];simp[gT];omega
  ·unfold gT;have a1:decide (k<=c)=true:=by simp;omega
   have a2:decide (b+1<=c)=true:=by simp;omega
   rw[a1,a2]
theorem tZ (r:Option Nat):CS r=.tuple #[.int .i64 ((r.getD 0:Nat):Int),.bool r.isSome]:=by cases r<;>rfl
section
variable {z x a ap mb:Nat} {w w':World} {q:QP} {vl vb:Value} {us:List Value} {vss:List (List (Value×Value))} {E:List (List Nat)} {O:Nat->Bool}
theorem kL.WD (h:kL z x a ap mb w q vl vb us vss E O){w1:World}{O1:Nat->Bool}(hg:w.grownBy w1 (some mb))(ho:cO w1 mb q.blocks.length O1):kL z x a ap mb w1 q vl vb us vss E O1:=
 h.qb (.right hg) rfl (h.row.heap (hg.block ap h.row.lt (fun e=>by
  simp only[Option.some.injEq]at e;obtain⟨es,clock,h1⟩:=h.sy.isMap;obtain⟨-,cs,h2,-⟩:=h.row;rw[<-e,h2]at h1;cases h1))) ho
set_option maxRecDepth 20000 in
set_option maxHeartbeats 4000000 in
theorem AJ (h:kL z x a ap mb w q vl vb us vss E (fun _=>false))(hn:q.blocks.length<=4000)(ie:q.locals.length<=12)(hq:Jy q.blocks.length q)(eY:∀j,(q.blocks.getD j []).length<=4000):
  Calls Tryz.prog 91 #[.pointer (some ⟨x,0,none⟩)] w fun e w'=>e=.returned (CS (aC (cV q E) q.blocks.length 0))/\cq ap mb w w':=by
 obtain⟨c0,c1,c2⟩:=h.facts;have hlen:=h.len;have hS:kL z x a ap mb w q vl vb us vss E (CJ E q.blocks.length 0):=by rw[TI];exact h
 have HF:Hid (aC (cV q E) q.blocks.length 0=aC (cV q E) (q.blocks.length-0) 0):=rfl;obtain⟨ans,HA⟩:∃ans,Hid (aC (cV q E) q.blocks.length 0=ans):=⟨_,rfl⟩;rw[HA.out]at HF⊢;go_enter Tryz.func91,Tryz.ntmps91
 go_wp2
 go_loopg [11] (q.blocks.length) (fun g v11 wr=>∃k:Nat,k<=q.blocks.length/\g+k=q.blocks.length/\v11=.int .i64 k/\kL z x a ap mb wr q vl vb us vss E (CJ E q.blocks.length k)/\cq ap mb w wr)
 case atStart=>exact⟨0,jQ _,rfl,rfl,hS,cq.refl _ _ _⟩
 case round=>
  obtain⟨k,hk,GI,rfl,oC,AS⟩:=hrel;clear hS c0 c1 c2 h;by_cases aL:k<q.blocks.length
  ·have hkE:k<E.length:=by omega
   have hE:=oC.row.ok hkE;have has:=oC.row.has k hkE;have hof:=oC.row.of k hkE;have hki:(k:Int)<(q.blocks.length:Nat):=by omega
   have HU:Hid (CJ E q.blocks.length (k+1)=if(E.getD k []==ar)=true then CJ E q.blocks.length k else cC (CJ E q.blocks.length k) k true):=TH E _ k aL;have hZ:aX (wr.alloc (.cells #[.int .u8 0,.int .u8 0,.int .u8 0,.int .u8 0,.int .u8 0,.int .u8 0,.int .u8 0,.int .u8 0,.int .u8 0,.int .u8 0,.int .u8 0,.int .u8 0,.int .u8 0,.int .u8 0,.int .u8 0,.int .u8 0,.int .u8 0,.int .u8 0,.int .u8 0,.int .u8 0,.int .u8 0,.int .u8 0,.int .u8 0,.int .u8 0] 209)) wr.heap.size ar:=aX.new wr (s:=ar) (by decide);have Rl:Below wr.heap.size wr (wr.alloc (.cells #[.int .u8 0,.int .u8 0,.int .u8 0,.int .u8 0,.int .u8 0,.int .u8 0,.int .u8 0,.int .u8 0,.int .u8 0,.int .u8 0,.int .u8 0,.int .u8 0,.int .u8 0,.int .u8 0,.int .u8 0,.int .u8 0,.int .u8 0,.int .u8 0,.int .u8 0,.int .u8 0,.int .u8 0,.int .u8 0,.int .u8 0,.int .u8 0] 209)):=(Below.refl _ _).alloc (jC _) _;have oP:=aX.room hZ;have GJ:=pJ hE.len;have hJ:=aX.store hZ hE.len;have xP:Below wr.heap.size wr ((wr.alloc (.cells #[.int .u8 0,.int .u8 0,.int .u8 0,.int .u8 0,.int .u8 0,.int .u8 0,.int .u8 0,.int .u8 0,.int .u8 0,.int .u8 0,.int .u8 0,.int .u8 0,.int .u8 0,.int .u8 0,.int .u8 0,.int .u8 0,.int .u8 0,.int .u8 0,.int .u8 0,.int .u8 0,.int .u8 0,.int .u8 0,.int .u8 0,.int .u8 0] 209)).setCells wr.heap.size 0 (aq (E.getD k []))):=az Rl (jC _) _ _;have hW:=oC.below xP;have Kc:=AS.on xP;generalize E.getD k []=e0 at*;clear Rl hZ xP;go_upto_region 4 with fail
   generalize ((wr.alloc (.cells #[.int .u8 0,.int .u8 0,.int .u8 0,.int .u8 0,.int .u8 0,.int .u8 0,.int .u8 0,.int .u8 0,.int .u8 0,.int .u8 0,.int .u8 0,.int .u8 0,.int .u8 0,.int .u8 0,.int .u8 0,.int .u8 0,.int .u8 0,.int .u8 0,.int .u8 0,.int .u8 0,.int .u8 0,.int .u8 0,.int .u8 0,.int .u8 0] 209)).setCells wr.heap.size 0 (aq e0))=W at*;clear oP has hof GJ;obtain⟨c0,c1,c2⟩:=hW.facts;have KR:=IJ wr.heap.size e0 W hJ hE.lt;cases hz:(e0==ar)with
   |true=>
    rw[hz]at KR;have HU2:CJ E q.blocks.length (k+1)=CJ E q.blocks.length k:=by rw[HU.out,hz];rfl
    clear hz;go_wp2_with (go_at_call 129;refine KR.mono ?_;rintro e w1 ⟨rfl,rfl⟩)
    go_roundg (q.blocks.length-(k+1))
    case measure=>omega
    case rel=>exact⟨k+1,by omega,by omega,by go_num,by rw[HU2];exact hW,Kc⟩
   |false=>
    rw[hz]at KR;have HU2:CJ E q.blocks.length (k+1)=cC (CJ E q.blocks.length k) k true:=by rw[HU.out,hz];rfl
    clear hz;go_wp2_with (first
     |(go_at_call 129;refine KR.mono ?_;rintro e w1 ⟨rfl,rfl⟩)
     |(at_mapUpdate;refine qp _ rfl _ _ _ rfl k rfl rfl rfl hW.sy aL hn ?_;intro wg hog yT))
    go_roundg (q.blocks.length-(k+1))
    case measure=>omega
    case rel=>exact⟨k+1,by omega,by omega,by go_num,by rw[HU2];exact kL.WD hW yT hog,Kc.trans (.right yT)⟩
  ·obtain rfl:k=q.blocks.length:=by omega
   rw[VT]at oC;go_wp2
   go_loopg [2,3] (gV (gT E 0 q.blocks.length) q.blocks.length) (fun g v2 v3 wn=>∃(O':Nat->Bool) (r:Option Nat),v2=.int .i64 ((r.getD 0:Nat):Int)/\v3=.bool r.isSome/\g=gV O' q.blocks.length/\kL z x a ap mb wn q vl vb us vss E O'/\cq ap mb w wn/\Hid ((r=none/\∃k,k<=q.blocks.length/\O'=gT E k q.blocks.length/\ans=aC (cV q E) (q.blocks.length-k) k)\/(∃n,r=some n/\O'=(fun _=>false)/\ans=some n)))
   case atStart=>exact⟨_,none,rfl,rfl,rfl,oC,AS,.inl ⟨rfl,0,jQ _,rfl,HF.out⟩⟩
   case round=>
    obtain⟨O',r,rfl,rfl,hg,TT,YK,HX⟩:=hrel;clear oC AS HF;obtain⟨c0,c1,c2⟩:=TT.facts;by_cases hc:gV O' q.blocks.length=0
    ·have ZL:¬(0:Int)<(gV O' q.blocks.length:Nat):=by omega
     have UF:Hid (CS ans=.tuple #[.int .i64 ((r.getD 0:Nat):Int),.bool r.isSome]):=by
      rcases HX.out with⟨h1,k,hk,h2,h3⟩|⟨n,h1,h2,h3⟩
      ·have:ans=none:=by
        rw[h3];refine sF _ _ _ fun c kq oa=> ?_
        have Xx:c<q.blocks.length:=by omega
        have:=xF _ hc c Xx;rw[h2]at this;exact y8 this kq Xx q
       unfold Hid;rw[this,h1];rfl
      ·unfold Hid;rw[h3,h1];rfl
     go_wp2_with (at_len;refine ij _ rfl _ rfl rfl TT.sy ?_)
     go_ret2
     exact⟨by rw[UF.out];rfl,YK⟩
    ·have ZL:(0:Int)<(gV O' q.blocks.length:Nat):=by omega
     obtain⟨k,hk,hO',HK⟩:∃k,k<=q.blocks.length/\Hid (O'=gT E k q.blocks.length)/\Hid (ans=aC (cV q E) (q.blocks.length-k) k):=by
      rcases HX.out with⟨h1,k,hk,h2,h3⟩|⟨n,h1,h2,h3⟩
      ·exact⟨k,hk,h2,h3⟩
      ·exact absurd (km _ fun c _=>by rw[h2]) hc
     clear HX;have KT:=sW TT hn;have KG:=fun w1 b (hb:b<q.blocks.length) O1 (tj:kL z x a ap mb w1 q vl vb us vss E O1)=>Gd tj b hb hn ie hq eY
     have aL:∀b,Mt O' q.blocks.length b->b<q.blocks.length:=fun b hl=>by
      refine Nat.lt_of_le_of_ne hl.le (fun e=>hc (km _ fun c AW=>hl.none c (by omega)))
     go_upto_region 9 with(first
      |(at_len;refine ij _ rfl _ rfl rfl TT.sy ?_)
      |(go_at_call 146;refine KT.mono ?_;rintro e w1 ⟨b,rfl,aw,tj,qq⟩)
      |(go_at_call 145;refine(KG w1 b (aL b aw) _ tj).mono ?_;rintro e w2 ⟨rfl,mn⟩;obtain⟨r1,oD⟩:∃r1,Hid (cX q (q.blocks.getD b []) (E.getD b [])=r1):=⟨_,rfl⟩;rw[oD.out,tZ]))
     have ql:=aL b aw;have mo:Hid (cC O' b false=gT E (b+1) q.blocks.length):=by
      unfold Hid;rw[hO'.out]at aw⊢;exact Ps aw ql
     have XV:k<=b/\¬E.getD b []=ar:=by
      have:=aw.sy ql;rw[hO'.out]at this;exact⟨(tB this).1,(tB this).2.2⟩
     have HKb:Hid (ans=aC (cV q E) (q.blocks.length-b) b):=by
      unfold Hid;rw[HK.out,show q.blocks.length-k=(b-k)+(q.blocks.length-b) by omega,qJ _ (b-k) _ k (fun c h1 h2=> ?_),show k+(b-k)=b by omega];have:=aw.none c (by omega);rw[hO'.out]at this;exact y8 this h1 (by omega) q
     have Wf:cV q E b=cX q (q.blocks.getD b []) (E.getD b []):=by rw[cV,ja XV.2]
     have HKc:Hid (ans=r1.or (aC (cV q E) (q.blocks.length-(b+1)) (b+1))):=by
      unfold Hid;rw[HKb.out,show q.blocks.length-b=(q.blocks.length-(b+1))+1 by omega,aC,Wf.trans oD.out]
     have AT:=tj.below mn;have qs:=(YK.trans qq).on mn;have Xy:=Av (aw.sy ql) q.blocks.length ql;clear KT KG tj HKb HK Wf c0 c1 c2;clear oD;obtain⟨c0,c1,c2⟩:=AT.facts;cases r1 with
     |none=>
      go_wp2
      go_roundg (gV (cC O' b false) q.blocks.length)
      case measure=>omega
      case rel=>exact⟨cC O' b false,none,rfl,rfl,rfl,AT,qs,.inl ⟨rfl,b+1,by omega,mo.out,HKc.out⟩⟩
     |some n=>
      obtain⟨w3,U7,ho3,ZW⟩:=PH AT.sy;have ZD:=kL.WD AT ZW ho3;go_wp2
      go_roundg 0
      case measure=>omega
      case rel=>exact⟨fun _=>false,some n,rfl,rfl,(km _ fun _ _=>rfl).symm,ZD,qs.trans (.right ZW),.inr ⟨n,rfl,rfl,HKc.out⟩⟩
end
end FlwQ
namespace FlwS
open Go Sq FlwA FlwB FlwD FlwE FlwF FlwG FlwI FlwJ FlwK FlwM FlwO FlwQ
def yY (a b:Nat):Prop:=b|||a=b
theorem mB (a:Nat):yY a a:=Nat.or_self a
theorem OG {a b c:Nat}(h:yY a b)(h':yY b c):yY a c:=by
 unfold yY at*;rw[<-h',Nat.or_assoc,h]
theorem R9 (a b:Nat):yY a (a|||b):=by
 unfold yY;rw[Nat.or_comm a b,Nat.or_assoc,Nat.or_self]
theorem OF (a b:Nat):yY b (a|||b):=by
 unfold yY;rw[Nat.or_assoc,Nat.or_self]
theorem Vl {a b c:Nat}(h:yY a c)(h':yY b c):yY (a|||b) c:=by
 unfold yY at*;rw[<-Nat.or_assoc,h,h']
theorem Hu {a:Nat}(h:yY a 0):a=0:=by unfold yY at h;rwa [Nat.zero_or]at h
def ld (s t:List Nat):Prop:=∀k,k<24->yY (s.getD k 0) (t.getD k 0)
theorem Hv (s:List Nat):ld s s:=fun _ _=>mB _
theorem oS {s t u:List Nat}(h:ld s t)(h':ld t u):ld s u:=fun k hk=>OG (h k hk) (h' k hk)
theorem EJ {s t:List Nat}(hs:eI s):ld s (fD s t)/\ld t (fD s t):=by
 constructor<;>intro k hk<;>rw[kt hs.len,jb hk]
 ·exact R9 _ _
 ·exact OF _ _
theorem join_le {s t u:List Nat}(hs:eI s)(h:ld s u)(h':ld t u):ld (fD s t) u:=fun k hk=>by
 rw[kt hs.len,jb hk];exact Vl (h k hk) (h' k hk)
theorem dA (s:List Nat)(i v k:Nat):(s.set i v).getD k 0=if i=k/\k<s.length then v else s.getD k 0:=by
 rw[jA,jd,jA];by_cases h:i=k
 ·subst h;by_cases h2:i<s.length
  ·simp[h2]
  ·simp[h2]
 ·rw[ja h,ja (fun x=>h x.1)]
theorem IX {s t:List Nat}(hs:s.length=24)(ht:t.length=24)(h:ld s t)(i:Nat){u v:Nat}(huv:yY u v):ld (s.set i u) (t.set i v):=fun k hk=>by
 rw[dA,dA,hs,ht];by_cases e:i=k/\k<24
 ·rw[jb e,jb e];exact huv
 ·rw[ja e,ja e];exact h k hk
theorem o6 {u v:Nat}(huv:yY u v):∀(ps:List (Nat×Nat)) {s t:List Nat},s.length=24->t.length=24->ld s t->ld (gS u ps s) (gS v ps t)
 |[],_,_,_,_,h=>h
 |x::ps,s,t,hs,ht,h=>o6 huv ps (s:=s.set (ah x) u) (t:=t.set (ah x) v) (by simpa using hs) (by simpa using ht) (IX hs ht h _ huv)
theorem qa:∀(ps:List (Nat×Nat)) {s t:List Nat},s.length=24->t.length=24->ld s t->ld (dC ps s) (dC ps t)
 |[],_,_,_,_,h=>h
 |x::ps,s,t,hs,ht,h=>qa ps (s:=s.set (ah x) _) (t:=t.set (ah x) _) (by simpa using hs) (by simpa using ht) (IX hs ht h _ (mB _))
theorem N5 {s t:List Nat}(hs:eI s)(ht:eI t)(h:ld s t)(k:Nat):yY (s.getD k 0) (t.getD k 0):=by
 by_cases hk:k<24
 ·exact h k hk
 ·have e1:s.getD k 0=0:=by rw[jA,jG (by rw[hs.len];omega)];rfl
  have e2:t.getD k 0=0:=by rw[jA,jG (by rw[ht.len];omega)];rfl
  rw[e1,e2];exact mB 0
theorem Ij (q:QP)(x:Nat×Nat){s t:List Nat}(hs:eI s)(ht:eI t)(h:ld s t):yY (dn q x s) (dn q x t):=by
 unfold dn;split
 ·exact N5 hs ht h _
 ·exact mB _
theorem Mc (q:QP)(l:ab){s t:List Nat}(hs:eI s)(ht:eI t)(h:ld s t):ld (cG q l s) (cG q l t):=by
 unfold cG;split
 ·exact qa _ hs.len ht.len h
 ·split
  ·exact qa _ hs.len ht.len h
  ·exact h
theorem LJ (q:QP)(l:ab){s t:List Nat}(hs:eI s)(ht:eI t)(h:ld s t):ld (bm q l s) (bm q l t):=by
 have h1:=Mc q l hs ht h;have l1:=(BQ q l hs).len;have l2:=(BQ q l ht).len;unfold bm;split
 ·exact o6 (mB _) _ l1 l2 h1
 ·split
  ·exact o6 (Ij q _ hs ht h) _ l1 l2 h1
  ·split
   ·exact o6 (mB _) _ l1 l2 h1
   ·split
    ·exact qa _ l1 l2 h1
    ·exact h1
theorem BO (l:ab)(i:Nat){s t:List Nat}(hs:eI s)(ht:eI t)(h:ld s t):ld (cv l i s) (cv l i t):=by
 unfold cv;split
 ·exact o6 (mB _) _ hs.len ht.len h
 ·exact h
def kR (l:ab):List Nat->Nat->List Nat->List (Nat×List Nat)
 |[],_,_=>[]
 |n::ns,i,s=>(n,cv l i s)::kR l ns (i+1) (cv l i s)
def T9 (l:ab):List Nat->Nat->List Nat->List Nat
 |[],_,s=>s
 |_::ns,i,s=>T9 l ns (i+1) (cv l i s)
def eo (q:QP):List ab->List Nat->List (Nat×List Nat)
 |[],_=>[]
 |l::ls,s=>kR l l.next 0 (bm q l s)++eo q ls (T9 l l.next 0 (bm q l s))
def leads (M:List (Nat×List Nat))(x:List (List Nat)×(Nat->Bool)):List (List Nat)×(Nat->Bool):=M.foldl (fun x n=>(eP x.1 n.1 n.2,gY x.1 x.2 n.1 n.2)) x
theorem Db (l:ab):∀(ns:List Nat) (i:Nat) (t:St),gP l ns i t=(T9 l ns i t.1,leads (kR l ns i t.1) t.2)
 |[],_,_=>rfl
 |n::ns,i,t=>by rw[gP,Db l ns];rfl
theorem ti (q:QP):∀(ls:List ab) (t:St),(fQ q ls t).2=leads (eo q ls t.1) t.2
 |[],_=>rfl
 |l::ls,t=>by rw[fQ,ti q ls,Db,eo,leads,leads,leads,List.foldl_append]
theorem Fc (l:ab):∀(ns:List Nat) (i:Nat) {s:List Nat},eI s->eI (T9 l ns i s)
 |[],_,_,h=>h
 |_::ns,i,_,h=>Fc l ns (i+1) (gv l i h)
theorem I2 (l:ab):∀(ns:List Nat) (i:Nat) {s t:List Nat},eI s->eI t->ld s t->ld (T9 l ns i s) (T9 l ns i t)
 |[],_,_,_,_,_,h=>h
 |_::ns,i,_,_,hs,ht,h=>I2 l ns (i+1) (gv l i hs) (gv l i ht) (BO l i hs ht h)
theorem Iy (l:ab)(N:Nat):∀(ns:List Nat) (i:Nat) {s:List Nat},(∀n∈ns,n<N)->eI s->∀x∈kR l ns i s,x.1<N/\eI x.2
 |[],_,_,_,_,x,hx=>by cases hx
 |n::ns,i,s,hn,h,x,hx=>by
  rcases jP.mp hx with rfl|hx
  ·exact⟨hn n (jM ..),gv l i h⟩
  ·exact Iy l N ns (i+1) (fun m hm=>hn m (jN _ hm)) (gv l i h) x hx
theorem rn (q:QP)(N:Nat):∀(ls:List ab) {s:List Nat},(∀l∈ls,∀n∈l.next,n<N)->eI s->∀x∈eo q ls s,x.1<N/\eI x.2
 |[],_,_,_,x,hx=>by cases hx
 |l::ls,s,hn,h,x,hx=>by
  have hp:=gm q l h;rcases List.mem_append.mp hx with hx|hx
  ·exact Iy l N l.next 0 (hn l (jM ..)) hp x hx
  ·exact rn q N ls (fun m hm=>hn m (jN _ hm)) (Fc l _ _ hp) x hx
theorem Bz (l:ab):∀(ns:List Nat) (i:Nat) {s t:List Nat},eI s->eI t->ld s t->∀x∈kR l ns i s,∃y,(x.1,y)∈kR l ns i t/\ld x.2 y
 |[],_,_,_,_,_,_,x,hx=>by cases hx
 |n::ns,i,s,t,hs,ht,h,x,hx=>by
  have h1:=BO l i hs ht h;rcases jP.mp hx with rfl|hx
  ·exact⟨_,jM ..,h1⟩
  ·obtain⟨y,hy,hl⟩:=Bz l ns (i+1) (gv l i hs) (gv l i ht) h1 x hx;exact⟨y,jN _ hy,hl⟩
theorem By (q:QP):∀(ls:List ab) {s t:List Nat},eI s->eI t->ld s t->∀x∈eo q ls s,∃y,(x.1,y)∈eo q ls t/\ld x.2 y
 |[],_,_,_,_,_,x,hx=>by cases hx
 |l::ls,s,t,hs,ht,h,x,hx=>by
  have h1:=LJ q l hs ht h;have o1:=gm q l hs;have o2:=gm q l ht;rcases List.mem_append.mp hx with hx|hx
  ·obtain⟨y,hy,hl⟩:=Bz l l.next 0 o1 o2 h1 x hx;exact⟨y,List.mem_append.mpr (.inl hy),hl⟩
  ·obtain⟨y,hy,hl⟩:=By q ls (Fc l _ _ o1) (Fc l _ _ o2) (I2 l _ _ o1 o2 h1) x hx;exact⟨y,List.mem_append.mpr (.inr hy),hl⟩
theorem oT (E:List (List Nat))(n:Nat)(s:List Nat)(hn:n<E.length)(b:Nat):(eP E n s).getD b []=if b=n then fD (E.getD n []) s else E.getD b []:=by
 unfold eP;split
 ·rename_i h;split
  ·rename_i e;rw[e,h]
  ·rfl
 ·exact Gw E n _ hn b
theorem cR {s t:List Nat}(hs:eI s)(h:ld s t)(hn:¬s=ar):¬t=ar:=fun e=>hn (by
 subst e;refine V5 hs.len (by decide) fun k hk=> ?_
 have:=h k hk;have hz:ar.getD k 0=0:=by
  unfold ar;rw[jA,jO,jb hk];rfl
 rw[hz]at this⊢;exact Hu this)
structure Led (N:Nat)(M:List (Nat×List Nat))(E:List (List Nat))(O:Nat->Bool)(E1:List (List Nat))(O1:Nat->Bool):Prop where
 ok:Fy E1
 len:E1.length=N
 up:∀b,b<N->ld (E.getD b []) (E1.getD b [])
 vI:∀x∈M,ld x.2 (E1.getD x.1 [])
 shut:∀b,b<N->O1 b=false->O b=false/\E1.getD b []=E.getD b []
 live:∀b,b<N->O1 b=true->O b=true\/¬E1.getD b []=ar
 least:∀U:Nat->List Nat,(∀b,b<N->ld (E.getD b []) (U b))->(∀x∈M,ld x.2 (U x.1))->∀b,b<N->ld (E1.getD b []) (U b)
theorem x6 (N:Nat):∀(M:List (Nat×List Nat)) (E:List (List Nat)) (O:Nat->Bool),Fy E->E.length=N->(∀x∈M,x.1<N/\eI x.2)->Led N M E O (leads M (E,O)).1 (leads M (E,O)).2
 |[],E,O,hE,hl,_=>⟨hE,hl,fun _ _=>Hv _,fun x hx=>(by cases hx),fun b _ h=>⟨h,rfl⟩,fun b _ h=> .inl h,fun U h _ b hb=>h b hb⟩
 |x::M,E,O,hE,hl,hM=>by
  obtain⟨zo,Ww⟩:=hM x (jM ..);have RU:x.1<E.length:=by omega
  have hs:=hE.at RU;have hE1:=A9 hE RU Ww;have ih:=x6 N M (eP E x.1 x.2) (gY E O x.1 x.2) hE1 (by rw[x5];exact hl) (fun y hy=>hM y (jN _ hy));have e:leads (x::M) (E,O)=leads M (eP E x.1 x.2,gY E O x.1 x.2):=rfl;rw[e];have up1:∀b,b<N->ld (E.getD b []) ((eP E x.1 x.2).getD b []):=fun b hb=>by
   rw[oT E x.1 x.2 RU];split
   ·rename_i e1;rw[e1];exact(EJ hs).1
   ·exact Hv _
  refine⟨ih.ok,ih.len,fun b hb=>oS (up1 b hb) (ih.up b hb),fun y hy=> ?_,fun b hb h=> ?_,fun b hb h=> ?_,fun U h1 h2 b hb=> ?_⟩
  ·rcases jP.mp hy with rfl|hy
   ·refine oS ?_ (ih.up y.1 zo);rw[oT E y.1 y.2 RU,jb rfl];exact(EJ hs).2
   ·exact ih.vI y hy
  ·obtain⟨h1,h2⟩:=ih.shut b hb h;unfold gY at h1;split at h1
   ·rename_i hj;exact⟨h1,h2.trans (by rw[eP,jb hj])⟩
   ·rename_i hj;unfold cC at h1;split at h1
    ·cases h1
    ·rename_i ec;exact⟨h1,h2.trans (by rw[oT E x.1 x.2 RU,ja ec])⟩
  ·rcases ih.live b hb h with h1|h1
   ·unfold gY at h1;split at h1
    ·exact .inl h1
    ·rename_i hj;unfold cC at h1;split at h1
     ·rename_i kf;right;refine cR (G7 hs Ww) (?_:ld (fD (E.getD x.1 []) x.2) _) (fun hz=> ?_)
      ·have:=ih.up b hb;rw[oT E x.1 x.2 RU,jb kf]at this;exact this
      ·obtain⟨k,hk,ec⟩:=zP hs hj;have h0:(fD (E.getD x.1 []) x.2).getD k 0=0:=by
        rw[hz];unfold ar;rw[jA,jO,jb hk];rfl
       have:=(EJ (t:=x.2) hs).1 k hk;rw[h0]at this ec;exact ec (Hu this).symm
     ·exact .inl h1
   ·exact .inr h1
  ·refine ih.least U (fun c hc=> ?_) (fun y hy=>h2 y (jN _ hy)) b hb;rw[oT E x.1 x.2 RU];split
   ·rename_i e1;rw[e1];exact join_le hs (h1 x.1 zo) (h2 x (jM ..))
   ·exact h1 c hc
structure rQ (q:QP)(U:Nat->List Nat):Prop where
 ok:∀b,b<q.blocks.length->eI (U b)
 start:ld aV (U 0)
 step:∀b,b<q.blocks.length->¬U b=ar->∀x∈eo q (q.blocks.getD b []) (U b),ld x.2 (U x.1)
structure Inv (q:QP)(E:List (List Nat))(O:Nat->Bool):Prop where
 ok:Fy E
 len:E.length=q.blocks.length
 start:ld aV (E.getD 0 [])
 step:∀b,b<q.blocks.length->O b=false->¬E.getD b []=ar->∀x∈eo q (q.blocks.getD b []) (E.getD b []),ld x.2 (E.getD x.1 [])
 live:∀b,b<q.blocks.length->O b=true->¬E.getD b []=ar
 least:∀U,rQ q U->∀b,b<q.blocks.length->ld (E.getD b []) (U b)
theorem L5:¬aV=ar:=by decide
theorem Ow (q:QP)(h0:0<q.blocks.length):Inv q (eP (List.replicate q.blocks.length ar) 0 aV) (gY (List.replicate q.blocks.length ar) (fun _=>false) 0 aV):=by
 have hz:∀b,b<q.blocks.length->(List.replicate q.blocks.length ar).getD b []=ar:=fun b hb=>by simp[List.getD_eq_getElem?_getD,hb]
 have cf:Fy (List.replicate q.blocks.length ar):=fun s hs=>by rw[List.eq_of_mem_replicate hs];exact⟨by decide,pj⟩
 have L:=x6 q.blocks.length [(0,aV)] (List.replicate q.blocks.length ar) (fun _=>false) cf (by simp) (fun x hx=>by rw[jI.mp hx];exact⟨h0,p8⟩);have hle:∀U:List Nat,ld ar U:=fun U k hk=>by
  have:ar.getD k 0=0:=by unfold ar;rw[jA,jO,jb hk];rfl
  rw[this];exact Nat.or_zero _
 refine⟨L.ok,L.len,L.vI (0,aV) (jI.mpr rfl),fun b hb hO ec=> ?_,fun b hb hO=> ?_,fun U hU=>L.least U (fun b hb=>by rw[hz b hb];exact hle _) (fun x hx=>by rw[jI.mp hx];exact hU.start)⟩
 ·obtain⟨-,h2⟩:=L.shut b hb hO;have e:(leads [(0,aV)] (List.replicate q.blocks.length ar,fun _=>false)).1=eP (List.replicate q.blocks.length ar) 0 aV:=rfl;rw[e,hz b hb]at h2;exact absurd h2 ec
 ·rcases L.live b hb hO with h|h
  ·cases h
  ·exact h
theorem RY (q:QP)(mQ:∀b,b<q.blocks.length->∀l∈q.blocks.getD b [],∀n∈l.next,n<q.blocks.length)(E:List (List Nat))(O:Nat->Bool)(b:Nat)(hb:b<q.blocks.length)(hO:O b=true)(h:Inv q E O):
  Inv q (gJ q E (cC O b false) b).2.1 (gJ q E (cC O b false) b).2.2:=by
 have hbE:b<E.length:=by rw[h.len];exact hb
 have hs:=h.ok.at hbE;have e:(gJ q E (cC O b false) b).2=leads (eo q (q.blocks.getD b []) (E.getD b [])) (E,cC O b false):=ti q _ _;have L:=x6 q.blocks.length (eo q (q.blocks.getD b []) (E.getD b [])) E (cC O b false) h.ok h.len (rn q q.blocks.length _ (mQ b hb) hs);rw[<-e]at L;refine⟨L.ok,L.len,oS h.start (L.up 0 (by omega)),fun c hc hOc ec=> ?_,fun c hc hOc=> ?_,fun U hU=>L.least U (fun c hc=>h.least U hU c hc) (fun x hx=> ?_)⟩
 ·obtain⟨h1,h2⟩:=L.shut c hc hOc;rw[h2]at ec⊢;by_cases FC:c=b
  ·subst FC;exact L.vI
  ·unfold cC at h1;rw[ja FC]at h1;intro x hx;exact oS (h.step c hc h1 ec x hx) (L.up x.1 (rn q q.blocks.length _ (mQ c hc) (h.ok.at (by rw[h.len];exact hc)) x hx).1)
 ·rcases L.live c hc hOc with h1|h1
  ·unfold cC at h1;split at h1
   ·cases h1
   ·exact cR (h.ok.at (by rw[h.len];exact hc)) (L.up c hc) (h.live c hc h1)
  ·exact h1
 ·have hle:=h.least U hU b hb;obtain⟨y,hy,hxy⟩:=By q (q.blocks.getD b []) hs (hU.ok b hb) hle x hx;exact oS hxy (hU.step b hb (cR hs hle (h.live b hb hO)) (x.1,y) hy)
end FlwS
end Go.Proofs.YtmlgajhhnojdjaaGreatDoor

import Derived.Test.YtmlgajhhnojdjaaGreatDoorRAN
namespace Go.Proofs.YtmlgajhhnojdjaaGreatDoor
namespace FlwP
open Go Go.RowKit Sq Aux PrjF PrjG PrjJ PrjK PrjL PrjM PrjO PrjP PrjQ PrjS PrjU FlwA FlwB FlwC FlwD FlwE FlwF FlwG FlwH FlwI FlwJ FlwK FlwL FlwM FlwN FlwO
attribute [local go_sem ↓] kB iL
def cX (q:QP):List ab->List Nat->Option Nat
 |[],_=>none
 |l::ls,s=>if aM q l s=true then some l.num else cX q ls (bm q l s)
theorem Ge (q:QP)(ls:List ab)(i:Nat)(hi:i<ls.length)(s:List Nat):cX q (ls.drop i) s=if aM q (ls.getD i ab.nil) s=true then some (ls.getD i ab.nil).num else cX q (ls.drop (i+1)) (bm q (ls.getD i ab.nil) s):=by
 rw[jE hi];have:ls.getD i ab.nil=ls[i]:=by simp[hi]
 rw[this];rfl
def CS:Option Nat->Value
 |some n=> .tuple #[.int .i64 (n:Nat),.bool true]
 |none=> .tuple #[.int .i64 0,.bool false]
section
variable {z x a ap mb:Nat} {w w':World} {q:QP} {vl vb:Value} {us:List Value} {vss:List (List (Value×Value))} {E:List (List Nat)} {O:Nat->Bool}
set_option maxRecDepth 20000 in
set_option maxHeartbeats 4000000 in
theorem Gd (h:kL z x a ap mb w q vl vb us vss E O)(b:Nat)(hb:b<q.blocks.length)(_hn:q.blocks.length<=4000)(ie:q.locals.length<=12)(hq:Jy q.blocks.length q)(eY:∀j,(q.blocks.getD j []).length<=4000):
  Calls Tryz.prog 145 #[.pointer (some ⟨x,0,none⟩),.int .i64 (b:Nat)] w fun e w'=>e=.returned (CS (cX q (q.blocks.getD b []) (E.getD b [])))/\Below w.heap.size w w':=by
 have Ju:b<E.length:=by rw[h.len];exact hb
 have hE:=h.row.ok Ju;have ZF:=h.row.lt;have hti:(b:Int)<(q.blocks.length:Nat):=by omega
 obtain⟨c0,c1,c2⟩:=h.facts;have has:=h.row.has b Ju;have hof:=h.row.of b Ju;have HG:Hid (cX q (q.blocks.getD b []) (E.getD b [])=cX q ((q.blocks.getD b []).drop 0) (E.getD b [])):=rfl;obtain⟨ans,Y5⟩:∃ans,Hid (cX q (q.blocks.getD b []) (E.getD b [])=ans):=⟨_,rfl⟩;rw[Y5.out]at HG⊢;have hZ:aX (w.alloc (.cells #[.int .u8 0,.int .u8 0,.int .u8 0,.int .u8 0,.int .u8 0,.int .u8 0,.int .u8 0,.int .u8 0,.int .u8 0,.int .u8 0,.int .u8 0,.int .u8 0,.int .u8 0,.int .u8 0,.int .u8 0,.int .u8 0,.int .u8 0,.int .u8 0,.int .u8 0,.int .u8 0,.int .u8 0,.int .u8 0,.int .u8 0,.int .u8 0] 209)) w.heap.size ar:=aX.new w (s:=ar) (by decide);have Rl:Below w.heap.size w (w.alloc (.cells #[.int .u8 0,.int .u8 0,.int .u8 0,.int .u8 0,.int .u8 0,.int .u8 0,.int .u8 0,.int .u8 0,.int .u8 0,.int .u8 0,.int .u8 0,.int .u8 0,.int .u8 0,.int .u8 0,.int .u8 0,.int .u8 0,.int .u8 0,.int .u8 0,.int .u8 0,.int .u8 0,.int .u8 0,.int .u8 0,.int .u8 0,.int .u8 0] 209)):=(Below.refl _ _).alloc (jC _) _;have oP:=aX.room hZ;have GJ:=pJ hE.len;have hJ:=aX.store hZ hE.len;have xP:Below w.heap.size w ((w.alloc (.cells #[.int .u8 0,.int .u8 0,.int .u8 0,.int .u8 0,.int .u8 0,.int .u8 0,.int .u8 0,.int .u8 0,.int .u8 0,.int .u8 0,.int .u8 0,.int .u8 0,.int .u8 0,.int .u8 0,.int .u8 0,.int .u8 0,.int .u8 0,.int .u8 0,.int .u8 0,.int .u8 0,.int .u8 0,.int .u8 0,.int .u8 0,.int .u8 0] 209)).setCells w.heap.size 0 (aq (E.getD b []))):=az Rl (jC _) _ _;have hW:=h.below xP;clear Y5;generalize E.getD b []=e0 at*;clear Rl hZ;go_enter Tryz.func145,Tryz.ntmps145
 go_upto_region 2 with fail
 generalize ((w.alloc (.cells #[.int .u8 0,.int .u8 0,.int .u8 0,.int .u8 0,.int .u8 0,.int .u8 0,.int .u8 0,.int .u8 0,.int .u8 0,.int .u8 0,.int .u8 0,.int .u8 0,.int .u8 0,.int .u8 0,.int .u8 0,.int .u8 0,.int .u8 0,.int .u8 0,.int .u8 0,.int .u8 0,.int .u8 0,.int .u8 0,.int .u8 0,.int .u8 0] 209)).setCells w.heap.size 0 (aq e0))=W at*;clear oP has hof c0 c1 c2;obtain⟨c0,c1,c2⟩:=hW.facts;obtain⟨p0,p1,-,-⟩:=lE.facts hW.prog;obtain⟨gb,cb,adk,ck,rfl,FC,Rx,aD,hus⟩:=pw hW.prog b hb;have la:=eY b;have cf:∀l∈q.blocks.getD b [],tS q.locals.length q.blocks.length l:=hq.lines _ (by simp[hb]);have Ob:w.heap.size≠ap:=by omega
 have Zo:Hid (∀wn,kL z x a ap mb wn q vl (.slice (some ⟨gb,0,none⟩) q.blocks.length cb) us vss E O->fi z wn (.slice adk (q.blocks.getD b []).length ck) (q.blocks.getD b []) (vss.getD b [])):=fun wn FF=>by
  have h1:=FF.prog.each b hb;rw[hus]at h1;exact h1
 have HL:Hid (∀wn,kL z x a ap mb wn q vl (.slice (some ⟨gb,0,none⟩) q.blocks.length cb) us vss E O->∀i,i<(q.blocks.getD b []).length->∀v1 v2,(vss.getD b []).getD i (undef,undef)=(v1,v2)->bq z wn ((q.blocks.getD b []).getD i ab.nil) v1 v2):=fun wn FF i hi v1 v2 hv=>kL.line FF hb hi hv
 have HS:Hid (∀i,i<(q.blocks.getD b []).length->∀s,cX q ((q.blocks.getD b []).drop i) s=if aM q ((q.blocks.getD b []).getD i ab.nil) s=true then some ((q.blocks.getD b []).getD i ab.nil).num else cX q ((q.blocks.getD b []).drop (i+1)) (bm q ((q.blocks.getD b []).getD i ab.nil) s)):=fun i hi s=>Ge q _ i hi s
 generalize q.blocks.getD b []=aJ at*;generalize vss.getD b []=vsj at*;go_wp2
 go_loopg [27] (aJ.length) (fun g v27 wr=>∃(i:Nat) (s':List Nat),i<=aJ.length/\g+i=aJ.length/\v27=.int .i64 i/\kL z x a ap mb wr q vl (.slice (some ⟨gb,0,none⟩) q.blocks.length cb) us vss E O/\aX wr w.heap.size s'/\eI s'/\Below w.heap.size w wr/\Hid (ans=cX q (aJ.drop i) s'))
 case atStart=>exact⟨0,e0,jQ _,rfl,rfl,hW,hJ,hE,xP,HG⟩
 case round=>
  obtain⟨i,s',hi,YO,rfl,oC,Rf,Jt,Jn,HR⟩:=hrel;clear hJ HG hW xP c0 c1 c2 p0 p1 aD GJ hE;by_cases Cp:i<aJ.length
  ·obtain⟨gl,apl,cp,an,cn,rfl,-,AW,Wh,k0,k1,k2,k3,k4,k5,X9⟩:=pr (Zo.out wr oC) i Cp;have hS:Hid (_=_):=HS.out i Cp s';have Yv:Hid (∀wn,kL z x a ap mb wn q vl (.slice (some ⟨gb,0,none⟩) q.blocks.length cb) us vss E O->bq z wn (aJ.getD i ab.nil) (.slice apl (aJ.getD i ab.nil).places.length cp) (.slice an (aJ.getD i ab.nil).next.length cn)):=fun wn FF=>HL.out wn FF i Cp _ _ X9
   have hl:=cf (aJ.getD i ab.nil) (by simp[Cp]);clear X9;generalize aJ.getD i ab.nil=l at*;have zJ:Below wr.heap.size wr (wr.alloc (.cells #[.int .i64 (l.num:Nat),.int .i64 (l.op:Nat),.slice apl l.places.length cp,.int .i64 l.number,.int .i64 l.flag,.slice an l.next.length cn] 115)):=(Below.refl _ _).alloc (jC _) _;have Xm:=oC.below zJ;have Zw:=Rf.below zJ Rf.lt;have Jm:=Jn.trans (zJ.mono Jn.size);have my:(wr.alloc (.cells #[.int .i64 (l.num:Nat),.int .i64 (l.op:Nat),.slice apl l.places.length cp,.int .i64 l.number,.int .i64 l.flag,.slice an l.next.length cn] 115)).heap[wr.heap.size]?=some (.cells #[.int .i64 (l.num:Nat),.int .i64 (l.op:Nat),.slice apl l.places.length cp,.int .i64 l.number,.int .i64 l.flag,.slice an l.next.length cn] 115 (0,0)):=jD;have YZ:w.heap.size<wr.heap.size:=Rf.lt;go_upto_region 5 with fail
   generalize (wr.alloc (.cells #[.int .i64 (l.num:Nat),.int .i64 (l.op:Nat),.slice apl l.places.length cp,.int .i64 l.number,.int .i64 l.flag,.slice an l.next.length cn] 115))=WL at*;clear k0 k1 k2 k3 k4 k5 zJ;have sb:Below WL.heap.size WL WL.drew:=below_drewN (Below.refl _ _) 1;have AU:=Xm.below sb;have GB:aX WL.drew w.heap.size s':=Zw;have AY:WL.drew.heap[wr.heap.size]?=some (.cells #[.int .i64 (l.num:Nat),.int .i64 (l.op:Nat),.slice apl l.places.length cp,.int .i64 l.number,.int .i64 l.flag,.slice an l.next.length cn] 115 (0,0)):=my;have Xf:=Jm.trans (sb.mono Jm.size);obtain⟨c0,c1,c2⟩:=Xm.facts;have l0:=(cell_of_heap my 0).trans (by rfl:_=some (Value.int .i64 (l.num:Nat)));have l1:=(cell_of_heap my 1).trans (by rfl:_=some (Value.int .i64 (l.op:Nat)));have l2:=(cell_of_heap my 2).trans (by rfl:_=some (Value.slice apl l.places.length cp));have l3:=(cell_of_heap my 3).trans (by rfl:_=some (Value.int .i64 l.number));have l4:=(cell_of_heap my 4).trans (by rfl:_=some (Value.int .i64 l.flag));have l5:=(cell_of_heap my 5).trans (by rfl:_=some (Value.slice an l.next.length cn));have KF:=JZ q l q.blocks.length z a w.heap.size vl _ apl an cp cn s' WL.drew ⟨AU.prog.aJ,⟨_,AU.prog.locals⟩⟩ ie hl (Yv.out _ AU) GB Jt.lt;obtain⟨fq,Hfq⟩:∃fq,Hid (aM q l s'=fq):=⟨_,rfl⟩;rw[Hfq.out]at KF;go_cut [8,36] (fun v8 v36 wc=>v8=.pointer (some ⟨wr.heap.size,0,none⟩)/\v36=.bool fq/\Below WL.drew.heap.size WL.drew wc)
   case first=>
    go_region_with (go_at_call 190;refine KF.mono ?_;rintro e w1 ⟨rfl,aw⟩)
    all_goals go_wp2_with fail
    all_goals
     go_meet
     case rel=>exact⟨rfl,rfl,aw⟩
   case rest=>
    obtain⟨rfl,rfl,aw⟩:=hcut;have hWc:=AU.below aw;have hSc:=GB.below aw GB.lt;have Km:=(aw.block _ (lt_of_heap AY)).trans AY;have hBc:=Xf.trans (aw.mono Xf.size);clear KF Xm Zw Jm my sb AU GB AY Xf c0 c1 c2 l0 l1 l2 l3 l4 l5 aw;cases fq with
    |true=>
     have l0:=(cell_of_heap Km 0).trans (by rfl:_=some (Value.int .i64 (l.num:Nat)));have hA:ans=some l.num:=by rw[HR.out,hS.out,jb Hfq.out]
     go_wp2
     go_ret2
     rw[hA];exact⟨rfl,hBc⟩
    |false=>
     have VY:Hid (ans=cX q (aJ.drop (i+1)) (bm q l s')):=by unfold Hid;rw[HR.out,hS.out,ja (by rw[Hfq.out];decide)]
     clear HR;have sb:Below wc.heap.size wc wc.drew:=below_drewN (Below.refl _ _) 1;have UE:=hWc.below sb;have Zx:aX wc.drew w.heap.size s':=hSc;have Zp:=hBc.trans (sb.mono hBc.size);obtain⟨c0,c1,c2⟩:=hWc.facts;have l0:=(cell_of_heap Km 0).trans (by rfl:_=some (Value.int .i64 (l.num:Nat)));have l1:=(cell_of_heap Km 1).trans (by rfl:_=some (Value.int .i64 (l.op:Nat)));have l2:=(cell_of_heap Km 2).trans (by rfl:_=some (Value.slice apl l.places.length cp));have l3:=(cell_of_heap Km 3).trans (by rfl:_=some (Value.int .i64 l.number));have l4:=(cell_of_heap Km 4).trans (by rfl:_=some (Value.int .i64 l.flag));have l5:=(cell_of_heap Km 5).trans (by rfl:_=some (Value.slice an l.next.length cn));have KP:=IC q l q.blocks.length z a w.heap.size vl _ apl an cp cn s' wc.drew ⟨UE.prog.aJ,⟨_,UE.prog.locals⟩⟩ ie hl (Yv.out _ UE) Zx Jt.lt;generalize wr.heap.size=lb at*;go_upto_region 7 with fail
     go_region_with (go_at_call 128;refine KP.mono ?_;rintro e w1 ⟨rfl,sI,qq⟩)
     all_goals
      have tj:=UE.other qq Zx Ob;have lv:=Zp.trans (qq.below (jC _) Zp.size);have U8:=gm q l Jt;clear KP l0 l1 l2 l3 l4 l5 c0 c1 c2;go_wp2
      go_roundg (aJ.length-(i+1))
      case measure=>omega
      case rel=>exact⟨i+1,_,by omega,by omega,by go_num,tj,sI,U8,lv,VY⟩
  ·have hA:ans=none:=by rw[HR.out,jT (by omega)];rfl
   go_wp2
   go_ret2
   rw[hA];exact⟨rfl,Jn⟩
end
end FlwP
namespace FlwQ
open Go Go.RowKit Sq Aux PrjF PrjG PrjJ PrjK PrjL PrjM PrjO PrjP PrjQ PrjS PrjU FlwA FlwB FlwC FlwD FlwE FlwF FlwG FlwH FlwI FlwJ FlwK FlwL FlwM FlwN FlwO FlwP
attribute [local go_sem ↓] kB iL
def cV (q:QP)(E:List (List Nat))(b:Nat):Option Nat:=if E.getD b []=ar then none else cX q (q.blocks.getD b []) (E.getD b [])
def aC (f:Nat->Option Nat):Nat->Nat->Option Nat
 |0,_=>none
 |m+1,k=>(f k).or (aC f m (k+1))
theorem qJ (f:Nat->Option Nat):∀(d m k:Nat),(∀c,k<=c->c<k+d->f c=none)->aC f (d+m) k=aC f m (k+d)
 |0,m,k,_=>by rw[Nat.zero_add];rfl
 |d+1,m,k,h=>by
  rw[show d+1+m=(d+m)+1 by omega,aC,h k (jC _) (by omega),Option.none_or];rw[qJ f d m (k+1) (fun c h1 h2=>h c (by omega) (by omega)),show k+1+d=k+(d+1) by omega]
theorem sF (f:Nat->Option Nat):∀(m k:Nat),(∀c,k<=c->c<k+m->f c=none)->aC f m k=none
 |0,_,_=>rfl
 |m+1,k,h=>by
  rw[aC,h k (jC _) (by omega),Option.none_or];exact sF f m (k+1) (fun c h1 h2=>h c (by omega) (by omega))
def gT (E:List (List Nat))(k N:Nat):Nat->Bool:=fun b=>decide (k<=b)&&(decide (b<N)&& !(E.getD b []==ar))
theorem y8 {E:List (List Nat)}{k N b:Nat}(h:gT E k N b=false)(h1:k<=b)(h2:b<N)(q:QP):cV q E b=none:=by
 unfold gT at h;rw[decide_eq_true h1,decide_eq_true h2]at h;simp only[Bool.true_and,Bool.not_eq_false',beq_iff_eq]at h;rw[cV,jb h]
theorem tB {E:List (List Nat)}{k N b:Nat}(h:gT E k N b=true):k<=b/\b<N/\¬E.getD b []=ar:=by
 unfold gT at h;simp only[Bool.and_eq_true,decide_eq_true_eq,Bool.not_eq_true',beq_eq_false_iff_ne]at h;exact h
def CJ (E:List (List Nat))(N:Nat)(k:Nat):Nat->Bool:=fun b=>decide (b<k)&&(decide (b<N)&& !(E.getD b []==ar))
theorem TH (E:List (List Nat))(N k:Nat)(hk:k<N):CJ E N (k+1)=if(E.getD k []==ar)=true then CJ E N k else cC (CJ E N k) k true:=by
 funext b
 by_cases e:b=k
 ·subst e;cases h:(E.getD b []==ar)
  ·rw[ja (by decide)];simp only[CJ,cC,h];simp[hk]
  ·rw[jb rfl];simp only[CJ,h];simp
 ·have h1:CJ E N (k+1) b=CJ E N k b:=by
   unfold CJ;have:decide (b<k+1)=decide (b<k):=by rw[decide_eq_decide];omega
   rw[this]
  rw[h1];split
  ·rfl
  ·unfold cC;rw[ja e]
theorem TI (E:List (List Nat))(N:Nat):CJ E N 0=fun _=>false:=by funext b;simp[CJ]
theorem VT (E:List (List Nat))(N:Nat):CJ E N N=gT E 0 N:=by
 funext b;unfold CJ gT
 by_cases h:b<N
 ·simp[h]
 ·simp[h]
theorem Ps {E:List (List Nat)}{k N b:Nat}(hb:Mt (gT E k N) N b)(aL:b<N):cC (gT E k N) b false=gT E (b+1) N:=by
 obtain⟨h1,h2,h3⟩:=tB (hb.sy aL)
 funext c
 unfold cC;by_cases e:c=b
 ·subst e;rw[jb rfl];have:decide (c+1<=c)=false:=by simp
  unfold gT;rw[this];rfl
 ·rw[ja e];by_cases hc:c<b
  ·rw[hb.none c hc];simp[gT];omega
  ·unfold gT;have a1:decide (k<=c)=true:=by simp;omega
   have a2:decide (b+1<=c)=true:=by simp;omega
   rw[a1,a2]
theorem tZ (r:Option Nat):CS r=.tuple #[.int .i64 ((r.getD 0:Nat):Int),.bool r.isSome]:=by cases r<;>rfl
section
variable {z x a ap mb:Nat} {w w':World} {q:QP} {vl vb:Value} {us:List Value} {vss:List (List (Value×Value))} {E:List (List Nat)} {O:Nat->Bool}
theorem kL.WD (h:kL z x a ap mb w q vl vb us vss E O){w1:World}{O1:Nat->Bool}(hg:w.grownBy w1 (some mb))(ho:cO w1 mb q.blocks.length O1):kL z x a ap mb w1 q vl vb us vss E O1:=
 h.qb (.right hg) rfl (h.row.heap (hg.block ap h.row.lt (fun e=>by
  simp only[Option.some.injEq]at e;obtain⟨es,clock,h1⟩:=h.sy.isMap;obtain⟨-,cs,h2,-⟩:=h.row;rw[<-e,h2]at h1;cases h1))) ho
set_option maxRecDepth 20000 in
set_option maxHeartbeats 4000000 in
theorem AJ (h:kL z x a ap mb w q vl vb us vss E (fun _=>false))(hn:q.blocks.length<=4000)(ie:q.locals.length<=12)(hq:Jy q.blocks.length q)(eY:∀j,(q.blocks.getD j []).length<=4000):
  Calls Tryz.prog 91 #[.pointer (some ⟨x,0,none⟩)] w fun e w'=>e=.returned (CS (aC (cV q E) q.blocks.length 0))/\cq ap mb w w':=by
 obtain⟨c0,c1,c2⟩:=h.facts;have hlen:=h.len;have hS:kL z x a ap mb w q vl vb us vss E (CJ E q.blocks.length 0):=by rw[TI];exact h
 have HF:Hid (aC (cV q E) q.blocks.length 0=aC (cV q E) (q.blocks.length-0) 0):=rfl;obtain⟨ans,HA⟩:∃ans,Hid (aC (cV q E) q.blocks.length 0=ans):=⟨_,rfl⟩;rw[HA.out]at HF⊢;go_enter Tryz.func91,Tryz.ntmps91
 go_wp2
 go_loopg [11] (q.blocks.length) (fun g v11 wr=>∃k:Nat,k<=q.blocks.length/\g+k=q.blocks.length/\v11=.int .i64 k/\kL z x a ap mb wr q vl vb us vss E (CJ E q.blocks.length k)/\cq ap mb w wr)
 case atStart=>exact⟨0,jQ _,rfl,rfl,hS,cq.refl _ _ _⟩
 case round=>
  obtain⟨k,hk,GI,rfl,oC,AS⟩:=hrel;clear hS c0 c1 c2 h;by_cases aL:k<q.blocks.length
  ·have hkE:k<E.length:=by omega
   have hE:=oC.row.ok hkE;have has:=oC.row.has k hkE;have hof:=oC.row.of k hkE;have hki:(k:Int)<(q.blocks.length:Nat):=by omega
   have HU:Hid (CJ E q.blocks.length (k+1)=if(E.getD k []==ar)=true then CJ E q.blocks.length k else cC (CJ E q.blocks.length k) k true):=TH E _ k aL;have hZ:aX (wr.alloc (.cells #[.int .u8 0,.int .u8 0,.int .u8 0,.int .u8 0,.int .u8 0,.int .u8 0,.int .u8 0,.int .u8 0,.int .u8 0,.int .u8 0,.int .u8 0,.int .u8 0,.int .u8 0,.int .u8 0,.int .u8 0,.int .u8 0,.int .u8 0,.int .u8 0,.int .u8 0,.int .u8 0,.int .u8 0,.int .u8 0,.int .u8 0,.int .u8 0] 209)) wr.heap.size ar:=aX.new wr (s:=ar) (by decide);have Rl:Below wr.heap.size wr (wr.alloc (.cells #[.int .u8 0,.int .u8 0,.int .u8 0,.int .u8 0,.int .u8 0,.int .u8 0,.int .u8 0,.int .u8 0,.int .u8 0,.int .u8 0,.int .u8 0,.int .u8 0,.int .u8 0,.int .u8 0,.int .u8 0,.int .u8 0,.int .u8 0,.int .u8 0,.int .u8 0,.int .u8 0,.int .u8 0,.int .u8 0,.int .u8 0,.int .u8 0] 209)):=(Below.refl _ _).alloc (jC _) _;have oP:=aX.room hZ;have GJ:=pJ hE.len;have hJ:=aX.store hZ hE.len;have xP:Below wr.heap.size wr ((wr.alloc (.cells #[.int .u8 0,.int .u8 0,.int .u8 0,.int .u8 0,.int .u8 0,.int .u8 0,.int .u8 0,.int .u8 0,.int .u8 0,.int .u8 0,.int .u8 0,.int .u8 0,.int .u8 0,.int .u8 0,.int .u8 0,.int .u8 0,.int .u8 0,.int .u8 0,.int .u8 0,.int .u8 0,.int .u8 0,.int .u8 0,.int .u8 0,.int .u8 0] 209)).setCells wr.heap.size 0 (aq (E.getD k []))):=az Rl (jC _) _ _;have hW:=oC.below xP;have Kc:=AS.on xP;generalize E.getD k []=e0 at*;clear Rl hZ xP;go_upto_region 4 with fail
   generalize ((wr.alloc (.cells #[.int .u8 0,.int .u8 0,.int .u8 0,.int .u8 0,.int .u8 0,.int .u8 0,.int .u8 0,.int .u8 0,.int .u8 0,.int .u8 0,.int .u8 0,.int .u8 0,.int .u8 0,.int .u8 0,.int .u8 0,.int .u8 0,.int .u8 0,.int .u8 0,.int .u8 0,.int .u8 0,.int .u8 0,.int .u8 0,.int .u8 0,.int .u8 0] 209)).setCells wr.heap.size 0 (aq e0))=W at*;clear oP has hof GJ;obtain⟨c0,c1,c2⟩:=hW.facts;have KR:=IJ wr.heap.size e0 W hJ hE.lt;cases hz:(e0==ar)with
   |true=>
    rw[hz]at KR;have HU2:CJ E q.blocks.length (k+1)=CJ E q.blocks.length k:=by rw[HU.out,hz];rfl
    clear hz;go_wp2_with (go_at_call 129;refine KR.mono ?_;rintro e w1 ⟨rfl,rfl⟩)
    go_roundg (q.blocks.length-(k+1))
    case measure=>omega
    case rel=>exact⟨k+1,by omega,by omega,by go_num,by rw[HU2];exact hW,Kc⟩
   |false=>
    rw[hz]at KR;have HU2:CJ E q.blocks.length (k+1)=cC (CJ E q.blocks.length k) k true:=by rw[HU.out,hz];rfl
    clear hz;go_wp2_with (first
     |(go_at_call 129;refine KR.mono ?_;rintro e w1 ⟨rfl,rfl⟩)
     |(at_mapUpdate;refine qp _ rfl _ _ _ rfl k rfl rfl rfl hW.sy aL hn ?_;intro wg hog yT))
    go_roundg (q.blocks.length-(k+1))
    case measure=>omega
    case rel=>exact⟨k+1,by omega,by omega,by go_num,by rw[HU2];exact kL.WD hW yT hog,Kc.trans (.right yT)⟩
  ·obtain rfl:k=q.blocks.length:=by omega
   rw[VT]at oC;go_wp2
   go_loopg [2,3] (gV (gT E 0 q.blocks.length) q.blocks.length) (fun g v2 v3 wn=>∃(O':Nat->Bool) (r:Option Nat),v2=.int .i64 ((r.getD 0:Nat):Int)/\v3=.bool r.isSome/\g=gV O' q.blocks.length/\kL z x a ap mb wn q vl vb us vss E O'/\cq ap mb w wn/\Hid ((r=none/\∃k,k<=q.blocks.length/\O'=gT E k q.blocks.length/\ans=aC (cV q E) (q.blocks.length-k) k)\/(∃n,r=some n/\O'=(fun _=>false)/\ans=some n)))
   case atStart=>exact⟨_,none,rfl,rfl,rfl,oC,AS,.inl ⟨rfl,0,jQ _,rfl,HF.out⟩⟩
   case round=>
    obtain⟨O',r,rfl,rfl,hg,TT,YK,HX⟩:=hrel;clear oC AS HF;obtain⟨c0,c1,c2⟩:=TT.facts;by_cases hc:gV O' q.blocks.length=0
    ·have ZL:¬(0:Int)<(gV O' q.blocks.length:Nat):=by omega
     have UF:Hid (CS ans=.tuple #[.int .i64 ((r.getD 0:Nat):Int),.bool r.isSome]):=by
      rcases HX.out with⟨h1,k,hk,h2,h3⟩|⟨n,h1,h2,h3⟩
      ·have:ans=none:=by
        rw[h3];refine sF _ _ _ fun c kq oa=> ?_
        have Xx:c<q.blocks.length:=by omega
        have:=xF _ hc c Xx;rw[h2]at this;exact y8 this kq Xx q
       unfold Hid;rw[this,h1];rfl
      ·unfold Hid;rw[h3,h1];rfl
     go_wp2_with (at_len;refine ij _ rfl _ rfl rfl TT.sy ?_)
     go_ret2
     exact⟨by rw[UF.out];rfl,YK⟩
    ·have ZL:(0:Int)<(gV O' q.blocks.length:Nat):=by omega
     obtain⟨k,hk,hO',HK⟩:∃k,k<=q.blocks.length/\Hid (O'=gT E k q.blocks.length)/\Hid (ans=aC (cV q E) (q.blocks.length-k) k):=by
      rcases HX.out with⟨h1,k,hk,h2,h3⟩|⟨n,h1,h2,h3⟩
      ·exact⟨k,hk,h2,h3⟩
      ·exact absurd (km _ fun c _=>by rw[h2]) hc
     clear HX;have KT:=sW TT hn;have KG:=fun w1 b (hb:b<q.blocks.length) O1 (tj:kL z x a ap mb w1 q vl vb us vss E O1)=>Gd tj b hb hn ie hq eY
     have aL:∀b,Mt O' q.blocks.length b->b<q.blocks.length:=fun b hl=>by
      refine Nat.lt_of_le_of_ne hl.le (fun e=>hc (km _ fun c AW=>hl.none c (by omega)))
     go_upto_region 9 with(first
      |(at_len;refine ij _ rfl _ rfl rfl TT.sy ?_)
      |(go_at_call 146;refine KT.mono ?_;rintro e w1 ⟨b,rfl,aw,tj,qq⟩)
      |(go_at_call 145;refine(KG w1 b (aL b aw) _ tj).mono ?_;rintro e w2 ⟨rfl,mn⟩;obtain⟨r1,oD⟩:∃r1,Hid (cX q (q.blocks.getD b []) (E.getD b [])=r1):=⟨_,rfl⟩;rw[oD.out,tZ]))
     have ql:=aL b aw;have mo:Hid (cC O' b false=gT E (b+1) q.blocks.length):=by
      unfold Hid;rw[hO'.out]at aw⊢;exact Ps aw ql
     have XV:k<=b/\¬E.getD b []=ar:=by
      have:=aw.sy ql;rw[hO'.out]at this;exact⟨(tB this).1,(tB this).2.2⟩
     have HKb:Hid (ans=aC (cV q E) (q.blocks.length-b) b):=by
      unfold Hid;rw[HK.out,show q.blocks.length-k=(b-k)+(q.blocks.length-b) by omega,qJ _ (b-k) _ k (fun c h1 h2=> ?_),show k+(b-k)=b by omega];have:=aw.none c (by omega);rw[hO'.out]at this;exact y8 this h1 (by omega) q
     have Wf:cV q E b=cX q (q.blocks.getD b []) (E.getD b []):=by rw[cV,ja XV.2]
     have HKc:Hid (ans=r1.or (aC (cV q E) (q.blocks.length-(b+1)) (b+1))):=by
      unfold Hid;rw[HKb.out,show q.blocks.length-b=(q.blocks.length-(b+1))+1 by omega,aC,Wf.trans oD.out]
     have AT:=tj.below mn;have qs:=(YK.trans qq).on mn;have Xy:=Av (aw.sy ql) q.blocks.length ql;clear KT KG tj HKb HK Wf c0 c1 c2;clear oD;obtain⟨c0,c1,c2⟩:=AT.facts;cases r1 with
     |none=>
      go_wp2
      go_roundg (gV (cC O' b false) q.blocks.length)
      case measure=>omega
      case rel=>exact⟨cC O' b false,none,rfl,rfl,rfl,AT,qs,.inl ⟨rfl,b+1,by omega,mo.out,HKc.out⟩⟩
     |some n=>
      obtain⟨w3,U7,ho3,ZW⟩:=PH AT.sy;have ZD:=kL.WD AT ZW ho3;go_wp2
      go_roundg 0
      case measure=>omega
      case rel=>exact⟨fun _=>false,some n,rfl,rfl,(km _ fun _ _=>rfl).symm,ZD,qs.trans (.right ZW),.inr ⟨n,rfl,rfl,HKc.out⟩⟩
end
end FlwQ
namespace FlwR
open Go Go.RowKit Sq Aux PrjF PrjG PrjJ PrjK PrjL PrjM PrjO PrjP PrjQ PrjS PrjU FlwA FlwB FlwC FlwD FlwE FlwF FlwG FlwH FlwI FlwJ FlwK FlwL FlwM FlwN FlwO FlwP FlwQ
theorem G1:(Tryz.prog.info? 209).map (fun i=>(i.zero.map Value.cells,i.size,i.bytes))=some (some (aq ar).toArray,24,24):=by kernel_rfl
theorem Fk:Tryz.prog.underlying 139=some (.slice 209):=by kernel_rfl
theorem P5:eI ar:=⟨by decide,pj⟩
theorem Bl (w:World)(n:Nat):aT (w.alloc (.cells (madeCells (aq ar).toArray (n*24)) 209)) w.heap.size (List.replicate n ar):=by
 refine⟨fun s hs=>by rw[List.eq_of_mem_replicate hs];exact P5,madeCells (aq ar).toArray (n*24),by show(w.heap.push _)[w.heap.size]?=_;simp,by rw[size_madeCells];simp;omega,fun i j hi hj=> ?_⟩;rw[List.length_replicate]at hi;have hs:(aq ar).toArray.size=24:=by decide
 have Jr:j<(aq ar).toArray.size:=by rw[hs];exact hj
 have e:(i*24+j)%(aq ar).toArray.size=j:=by rw[hs];omega
 unfold madeCells;rw[Array.getElem?_map,Array.getElem?_range,jb (by omega),Option.map_some,e];rw[getElem!_pos _ j Jr];have hz:(List.replicate n ar).getD i []=ar:=by simp[List.getD_eq_getElem?_getD,hi]
 have hl:j<ar.length:=by simpa [ar]using hj
 rw[hz];simp[aq,hl]
theorem zq (n:Nat)(hn:n<=4000)(w:World):(Instr.makeSlice 139 (.int .i64 (n:Int)) (.int .i64 (n:Int))).run Tryz.prog w=.ok (.slice (some ⟨w.heap.size,0,none⟩) n n) (w.alloc (.cells (madeCells (aq ar).toArray (n*24)) 209)):=by
 obtain⟨i,hi,hx⟩:=Option.map_eq_some_iff.1 G1;simp only[Prod.mk.injEq]at hx;obtain⟨hz,hs,hb⟩:=hx;obtain⟨z,hz,hc⟩:=Option.map_eq_some_iff.1 hz;have:=run_make (P:=Tryz.prog) w 139 209 i z Fk hi hz .i64 .i64 n n (by omega) (Int.le_refl _) (by rw[hb];omega) (by omega);rw[hs,hc]at this;simpa using this
section
variable {z a:Nat} {w w':World} {q:QP} {vl vb:Value} {us:List Value} {vss:List (List (Value×Value))}
set_option maxRecDepth 20000 in
set_option maxHeartbeats 2000000 in
theorem Ml (h:lE z a w q vl vb us vss)(h0:0<q.blocks.length)(hn:q.blocks.length<=4000)(ie:q.locals.length<=12)(hq:Jy q.blocks.length q)(eY:∀j,(q.blocks.getD j []).length<=4000)
  (I:List (List Nat)->(Nat->Bool)->Prop) (Rd:I (eP (List.replicate q.blocks.length ar) 0 aV) (gY (List.replicate q.blocks.length ar) (fun _=>false) 0 aV))
  (hI:∀E O b,Fy E->E.length=q.blocks.length->b<q.blocks.length->O b=true->I E O->I (gJ q E (cC O b false) b).2.1 (gJ q E (cC O b false) b).2.2):
  Calls Tryz.prog 90 #[.pointer (some ⟨a,0,none⟩)] w fun e w'=>∃ap mb E' O',e=.returned (.agg #[.pointer (some ⟨a,0,none⟩),.slice (some ⟨ap,0,none⟩) q.blocks.length q.blocks.length,.map (some mb)])/\
   lE z a w' q vl vb us vss/\E'.length=q.blocks.length/\aT w' ap E'/\cO w' mb q.blocks.length O'/\I E' O'/\(∀b,O' b=false)/\w.heap.size<=ap/\w.heap.size<=mb/\Below w.heap.size w w':=by
 obtain⟨p0,p1,-,-⟩:=lE.facts h;obtain⟨adb,cb,rfl⟩:=ca h.blocks;have hbR:Below w.heap.size w (w.alloc (.cells #[.pointer none,.slice none 0 0,.map none] 165)):=(Below.refl _ _).alloc (jC _) _;have XM:=zq q.blocks.length hn;have YS:= @run_makeMap Tryz.prog;have p1R:=(hbR.cell (p:=⟨a,1,none⟩) h.lt).trans p1;have hPR:=h.below hbR;have Xj:(w.alloc (.cells #[.pointer none,.slice none 0 0,.map none] 165)).heap[w.heap.size]?=some (.cells #[.pointer none,.slice none 0 0,.map none] 165 (0,0)):=jD;go_enter Tryz.func90,Tryz.ntmps90
 go_upto_region 1 with fail
 generalize (w.alloc (.cells #[.pointer none,.slice none 0 0,.map none] 165))=R at*;go_upto_region 2 with fail
 have aw:Below R.heap.size R (R.alloc (.cells (madeCells (aq ar).toArray (q.blocks.length*24)) 209)):=(Below.refl _ _).alloc (jC _) _;have oD:=Bl R q.blocks.length;have lx:(R.alloc (.cells (madeCells (aq ar).toArray (q.blocks.length*24)) 209)).heap.size=R.heap.size+1:=by simp
 generalize (R.alloc (.cells (madeCells (aq ar).toArray (q.blocks.length*24)) 209))=R1 at*;have bU:Below R1.heap.size R1 (R1.alloc (.map #[] 0)):=(Below.refl _ _).alloc (jC _) _;have Js:=cO.made R1 q.blocks.length;have Ca:(R1.alloc (.map #[] 0)).heap.size=R.heap.size+1+1:=by simp[lx]
 generalize (R1.alloc (.map #[] 0))=R2 at*;have lJ:Below R2.heap.size R2 (R2.alloc (.cells #[.pointer (some ⟨a,0,none⟩),.slice (some ⟨R.heap.size,0,none⟩) q.blocks.length q.blocks.length,.map (some (R.heap.size+1))] 165)):=(Below.refl _ _).alloc (jC _) _;have hx3:(R2.alloc (.cells #[.pointer (some ⟨a,0,none⟩),.slice (some ⟨R.heap.size,0,none⟩) q.blocks.length q.blocks.length,.map (some (R.heap.size+1))] 165)).heap[R2.heap.size]?=some (.cells #[.pointer (some ⟨a,0,none⟩),.slice (some ⟨R.heap.size,0,none⟩) q.blocks.length q.blocks.length,.map (some (R.heap.size+1))] 165 (0,0)):=jD;generalize (R2.alloc (.cells #[.pointer (some ⟨a,0,none⟩),.slice (some ⟨R.heap.size,0,none⟩) q.blocks.length q.blocks.length,.map (some (R.heap.size+1))] 165))=R3 at*;have hwR:w.heap.size<R.heap.size:=lt_of_heap Xj;have B7:Below R.heap.size R R3:=aw.trans ((bU.mono aw.size).trans (lJ.mono (jS aw.size bU.size)));have Wt:aT R3 R.heap.size (List.replicate q.blocks.length ar):=(oD.heap (bU.block _ oD.lt)).heap (lJ.block _ (by omega));rw[lx]at Js;rw[Ca]at hx3;have Wp:cO R3 (R.heap.size+1) q.blocks.length (fun _=>false):=Js.heap (lJ.block _ (by omega));have hW:kL z (R.heap.size+1+1) a R.heap.size (R.heap.size+1) R3 q vl (.slice adb q.blocks.length cb) us vss (List.replicate q.blocks.length ar) (fun _=>false):=
  ⟨hx3,hPR.below B7,by simp,Wt,Wp⟩
 have hrr3:=(B7.block w.heap.size hwR).trans Xj;have Jl:=hbR.trans (B7.mono hbR.size);have KF:=J4 hW h0 hn ie hq eY I Rd hI;clear aw bU lJ oD Js lx Ca hx3 Wp Wt XM YS p1R Xj hPR p0 p1 Rd hI;have ZE:w.heap.size<=R.heap.size:=by omega
 have Qa:w.heap.size<=R.heap.size+1:=by omega
 generalize Y1:R.heap.size+1+1=x at*;have hne1:w.heap.size≠R.heap.size:=by omega
 have hne2:w.heap.size≠R.heap.size+1:=by omega
 clear Y1;generalize R.heap.size=ap at*;generalize ap+1=mb at*;go_wp2_with (go_at_call 144;refine KF.mono ?_;rintro e w1 ⟨rfl,E',O',tj,TR,mo,qq⟩;obtain⟨c0,c1,c2⟩:=tj.facts;have oD:=(qq.block _ (lt_of_heap hrr3) hne1 hne2).trans hrr3;have d0:=(cell_of_heap oD 0).trans (by rfl:_=some (Value.pointer none));have d1:=(cell_of_heap oD 1).trans (by rfl:_=some (Value.slice none 0 0));have d2:=(cell_of_heap oD 2).trans (by rfl:_=some (Value.map none));have f0:=frozen_of_heap oD 0;have f1:=frozen_of_heap oD 1;have f2:=frozen_of_heap oD 2)
 have hrf:(((w1.setCell ⟨w.heap.size,0,none⟩ (.pointer (some ⟨a,0,none⟩))).setCell ⟨w.heap.size,1,none⟩ (.slice (some ⟨ap,0,none⟩) q.blocks.length q.blocks.length)).setCell ⟨w.heap.size,2,none⟩ (.map (some mb))).heap[w.heap.size]?=some (.cells #[.pointer (some ⟨a,0,none⟩),.slice (some ⟨ap,0,none⟩) q.blocks.length q.blocks.length,.map (some mb)] 165 (0,0)):=by
  rw[Go.Proofs.YtmlgajhhnojdjaaGreatDoor.Aux.heap_setCell_same (Go.Proofs.YtmlgajhhnojdjaaGreatDoor.Aux.heap_setCell_same (Go.Proofs.YtmlgajhhnojdjaaGreatDoor.Aux.heap_setCell_same oD 0 _) 1 _) 2 _];rfl
 have AS:bw w.heap.size w1 (((w1.setCell ⟨w.heap.size,0,none⟩ (.pointer (some ⟨a,0,none⟩))).setCell ⟨w.heap.size,1,none⟩ (.slice (some ⟨ap,0,none⟩) q.blocks.length q.blocks.length)).setCell ⟨w.heap.size,2,none⟩ (.map (some mb))):=(((bw.refl _ _).setCell 0 _).setCell 1 _).setCell 2 _;clear d0 d1 d2 f0 f1 f2 c0 c1 c2;generalize (((w1.setCell ⟨w.heap.size,0,none⟩ (.pointer (some ⟨a,0,none⟩))).setCell ⟨w.heap.size,1,none⟩ (.slice (some ⟨ap,0,none⟩) q.blocks.length q.blocks.length)).setCell ⟨w.heap.size,2,none⟩ (.map (some mb)))=wf at*;refine bodyPost_ret (dQ Tryz.results90 _ _ _ w.heap.size [.pointer (some ⟨a,0,none⟩),.slice (some ⟨ap,0,none⟩) q.blocks.length q.blocks.length,.map (some mb)] _ rfl (fun j v hv=>by rw[Nat.zero_add,cell_of_heap hrf];simpa using hv) Tryz.underlying165 rfl (by kernel_rfl)) rfl ?_;have Og:∀(g:Nat) (cs:Array Value) (e:TypeId) (f:Nat×Nat),w1.heap[g]?=some (.cells cs e f)->e≠165->wf.heap[g]?=w1.heap[g]?:=fun g cs e f hg he=>AS.block g (lt_of_heap hg) (fun e1=>by
  rw[e1,oD]at hg;simp only[Option.some.injEq,Obj.cells.injEq]at hg;exact he hg.2.1.symm)
 refine⟨ap,mb,E',O',rfl,?_,tj.len,tj.row.heap (AS.block _ tj.row.lt (by omega)),tj.sy.heap (AS.block _ tj.sy.lt (by omega)),TR,mo,ZE,Qa,(Jl.trans (qq.below ZE Qa Jl.size)).trans (AS.below (jC _) (jS Jl.size qq.size))⟩;exact(h.below ((Jl.trans (qq.below ZE Qa Jl.size)).trans (AS.below (jC _) (jS Jl.size qq.size))))
set_option maxRecDepth 20000 in
theorem z8 (h:lE z a w q vl vb us vss)(h0:0<q.blocks.length)(hn:q.blocks.length<=4000)(ie:q.locals.length<=12)(hq:Jy q.blocks.length q)(eY:∀j,(q.blocks.getD j []).length<=4000)
  (I:List (List Nat)->(Nat->Bool)->Prop) (Rd:I (eP (List.replicate q.blocks.length ar) 0 aV) (gY (List.replicate q.blocks.length ar) (fun _=>false) 0 aV))
  (hI:∀E O b,Fy E->E.length=q.blocks.length->b<q.blocks.length->O b=true->I E O->I (gJ q E (cC O b false) b).2.1 (gJ q E (cC O b false) b).2.2):
  Calls Tryz.prog 54 #[.pointer (some ⟨a,0,none⟩)] w fun e w'=>(∃E',Fy E'/\E'.length=q.blocks.length/\I E' (fun _=>false)/\e=.returned (CS (aC (cV q E') q.blocks.length 0)))/\Below w.heap.size w w':=by
 have KW:=Ml h h0 hn ie hq eY I Rd hI;have KF:=fun x ap mb w1 E' (hW:kL z x a ap mb w1 q vl vb us vss E' (fun _=>false))=>AJ hW hn ie hq eY
 go_enter Tryz.func54,Tryz.ntmps54
 go_upto_region 2 with(go_at_call 90;refine KW.mono ?_;rintro e w1 ⟨ap,mb,E',O',rfl,Gz,tn,oD,YU,TR,mo,ZE,Qa,lv⟩)
 have hO:O'=fun _=>false:=funext mo
 have ZG:Below w1.heap.size w1 (w1.alloc (.cells #[.pointer (some ⟨a,0,none⟩),.slice (some ⟨ap,0,none⟩) q.blocks.length q.blocks.length,.map (some mb)] 165)):=(Below.refl _ _).alloc (jC _) _;have hX:(w1.alloc (.cells #[.pointer (some ⟨a,0,none⟩),.slice (some ⟨ap,0,none⟩) q.blocks.length q.blocks.length,.map (some mb)] 165)).heap[w1.heap.size]?=some (.cells #[.pointer (some ⟨a,0,none⟩),.slice (some ⟨ap,0,none⟩) q.blocks.length q.blocks.length,.map (some mb)] 165 (0,0)):=jD;have hW:kL z w1.heap.size a ap mb _ q vl vb us vss E' O':=⟨hX,Gz.below ZG,tn,oD.heap (ZG.block _ oD.lt),YU.below ZG⟩;rw[hO]at hW TR;have KX:=KF _ _ _ _ _ hW;have hBX:=lv.trans (ZG.mono lv.size);have hEok:Fy E':=oD.1;obtain⟨r,hr⟩:∃r,Hid (aC (cV q E') q.blocks.length 0=r):=⟨_,rfl⟩;rw[hr.out,tZ]at KX;clear KF KW hW hX ZG YU oD Gz mo hO Rd hI;generalize (w1.alloc (.cells #[.pointer (some ⟨a,0,none⟩),.slice (some ⟨ap,0,none⟩) q.blocks.length q.blocks.length,.map (some mb)] 165))=W at*;go_wp2_with (go_at_call 91;refine KX.mono ?_;rintro e w2 ⟨rfl,qs⟩)
 go_ret2
 refine⟨⟨E',hEok,tn,TR,?_⟩,hBX.trans (qs.below ZE Qa hBX.size)⟩;rw[hr.out,tZ];rfl
end
end FlwR
end Go.Proofs.YtmlgajhhnojdjaaGreatDoor

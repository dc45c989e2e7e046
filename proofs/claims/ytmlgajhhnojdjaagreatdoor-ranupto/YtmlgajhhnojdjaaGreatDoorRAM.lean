import Derived.Test.YtmlgajhhnojdjaaGreatDoorRAL
namespace Go.Proofs.YtmlgajhhnojdjaaGreatDoor
namespace FlwK
open Go Go.RowKit Sq Aux PrjF PrjG PrjJ PrjK PrjL PrjM PrjO FlwB FlwE FlwF FlwI FlwJ
attribute [local go_sem ↓] kB iL
theorem M7:∀u:Fin 16,∀v:Fin 16,bits .or .u8 ((u.val:Nat):Int) ((v.val:Nat):Int)=((u.val|||v.val:Nat):Int)/\(u.val|||v.val)<16:=by decide
theorem or_of {u v:Nat}(hu:u<16)(hv:v<16):bits .or .u8 (u:Int) (v:Int)=((u|||v:Nat):Int):=(M7 ⟨u,hu⟩ ⟨v,hv⟩).1
theorem WG {u v:Nat}(hu:u<16)(hv:v<16):u|||v<16:=(M7 ⟨u,hu⟩ ⟨v,hv⟩).2
def fM (s t:List Nat)(k:Nat):List Nat:=(List.range s.length).map fun i=>if i<k then s.getD i 0|||t.getD i 0 else s.getD i 0
def fD (s t:List Nat):List Nat:=fM s t 24
theorem tu (s t:List Nat)(k:Nat):(fM s t k).length=s.length:=by simp[fM]
theorem G8 (s t:List Nat):fM s t 0=s:=by
 unfold fM;rw[<-th s];simp only[List.length_map,List.length_range];apply List.map_congr_left
 intro i hi;rw[ja (Nat.not_lt_zero _),th]
theorem qV (s t:List Nat)(k i:Nat):(fM s t k).getD i 0=if i<s.length then(if i<k then s.getD i 0|||t.getD i 0 else s.getD i 0)else 0:=by
 unfold fM;rw[jA,jJ];by_cases hi:i<s.length
 ·rw[List.getElem?_range hi,jb hi];rfl
 ·rw[jG (by simp;omega),ja hi];rfl
theorem Lc (s t:List Nat)(k:Nat):(fM s t k).set k (s.getD k 0|||t.getD k 0)=fM s t (k+1):=by
 apply List.ext_getElem?
 intro i;rw[jd,tu];unfold fM;rw[jJ,jJ];by_cases hi:i<s.length
 ·rw[List.getElem?_range hi];by_cases e:k=i
  ·subst e;rw[jb rfl,jb hi];simp
  ·rw[ja e];simp only[Option.map_some,Option.some.injEq];by_cases h:i<k
   ·rw[jb h,jb (by omega)]
   ·rw[ja h,ja (by omega)]
 ·rw[jG (l:=List.range s.length) (by simp;omega)];split
  ·rw[ja (by omega)];rfl
  ·rfl
theorem Dl {s t:List Nat}(hs:eI s)(ht:eI t)(k:Nat):eI (fM s t k):=
 ⟨by rw[tu];exact hs.len,fun i=>by
  rw[qV];split
  ·split
   ·exact WG (hs.lt i) (ht.lt i)
   ·exact hs.lt i
  ·decide⟩
def eP (E:List (List Nat))(aa:Nat)(s:List Nat):List (List Nat):=if fD (E.getD aa []) s=E.getD aa []then E else E.set aa (fD (E.getD aa []) s)
def gY (E:List (List Nat))(O:Nat->Bool)(aa:Nat)(s:List Nat):Nat->Bool:=if fD (E.getD aa []) s=E.getD aa []then O else cC O aa true
def Qh (w:World)(n:Nat):Prop:=w.heap.size=n
section
variable {z x a ap mb:Nat} {w w':World} {q:QP} {vl vb:Value} {us:List Value} {vss:List (List (Value×Value))} {E:List (List Nat)} {O:Nat->Bool}
set_option maxRecDepth 20000 in
set_option maxHeartbeats 2000000 in
theorem Ba (h:kL z x a ap mb w q vl vb us vss E O)(aa:Nat)(Va:aa<q.blocks.length)(hn:q.blocks.length<=4000)(s:List Nat)(hs:eI s):
  Calls Tryz.prog 187 #[.pointer (some ⟨x,0,none⟩),.int .i64 (aa:Nat),.agg (aq s).toArray] w fun e w'=>e=.returned (.tuple #[])/\kL z x a ap mb w' q vl vb us vss (eP E aa s) (gY E O aa s)/\cq ap mb w w':=by
 have Ju:aa<E.length:=by rw[h.len];exact Va
 have hE:=h.row.ok Ju;have aY:Below w.heap.size w (w.alloc (.cells (aq s).toArray 209)):=(Below.refl _ _).alloc (jC _) _;have hA:=h.below aY;have hSA:aX (w.alloc (.cells (aq s).toArray 209)) w.heap.size s:=aX.new w hs.len;have ly:(w.alloc (.cells (aq s).toArray 209)).heap.size=w.heap.size+1:=by simp
 have ZF:=h.row.lt;have hti:(aa:Int)<(q.blocks.length:Nat):=by omega
 have UO:Qh (w.alloc (.cells (aq s).toArray 209)) (w.heap.size+1):=ly;go_enter Tryz.func187,Tryz.ntmps187
 go_upto_region 1 with fail
 clear ly;generalize (w.alloc (.cells (aq s).toArray 209))=V at*;have ly:V.heap.size=w.heap.size+1:=UO;have Xo:=hA.row.has aa Ju;have U3:=hA.row.of aa Ju;obtain⟨e0,HE⟩:∃e0,Hid (E.getD aa []=e0):=⟨_,rfl⟩;rw[HE.out]at U3 hE;obtain⟨c0,c1,c2⟩:=hA.facts;have hZ:aX (V.alloc (.cells #[.int .u8 0,.int .u8 0,.int .u8 0,.int .u8 0,.int .u8 0,.int .u8 0,.int .u8 0,.int .u8 0,.int .u8 0,.int .u8 0,.int .u8 0,.int .u8 0,.int .u8 0,.int .u8 0,.int .u8 0,.int .u8 0,.int .u8 0,.int .u8 0,.int .u8 0,.int .u8 0,.int .u8 0,.int .u8 0,.int .u8 0,.int .u8 0] 209)) V.heap.size ar:=aX.new V (s:=ar) (by decide);have Rl:Below V.heap.size V (V.alloc (.cells #[.int .u8 0,.int .u8 0,.int .u8 0,.int .u8 0,.int .u8 0,.int .u8 0,.int .u8 0,.int .u8 0,.int .u8 0,.int .u8 0,.int .u8 0,.int .u8 0,.int .u8 0,.int .u8 0,.int .u8 0,.int .u8 0,.int .u8 0,.int .u8 0,.int .u8 0,.int .u8 0,.int .u8 0,.int .u8 0,.int .u8 0,.int .u8 0] 209)):=(Below.refl _ _).alloc (jC _) _;have oP:=aX.room hZ;have GJ:=pJ hE.len;have hJ:=aX.store hZ hE.len;have xP:Below V.heap.size V ((V.alloc (.cells #[.int .u8 0,.int .u8 0,.int .u8 0,.int .u8 0,.int .u8 0,.int .u8 0,.int .u8 0,.int .u8 0,.int .u8 0,.int .u8 0,.int .u8 0,.int .u8 0,.int .u8 0,.int .u8 0,.int .u8 0,.int .u8 0,.int .u8 0,.int .u8 0,.int .u8 0,.int .u8 0,.int .u8 0,.int .u8 0,.int .u8 0,.int .u8 0] 209)).setCells V.heap.size 0 (aq e0)):=az Rl (jC _) _ _;have hW:=hA.below xP;have hSW:=hSA.below xP hSA.lt;have Kc:=(Below.refl w.heap.size w).trans (aY.trans (xP.mono (by omega)));rw[ly]at oP hJ hW hSW Kc;clear Rl hZ xP hSA hA;go_upto_region 2 with fail
 generalize ((V.alloc (.cells #[.int .u8 0,.int .u8 0,.int .u8 0,.int .u8 0,.int .u8 0,.int .u8 0,.int .u8 0,.int .u8 0,.int .u8 0,.int .u8 0,.int .u8 0,.int .u8 0,.int .u8 0,.int .u8 0,.int .u8 0,.int .u8 0,.int .u8 0,.int .u8 0,.int .u8 0,.int .u8 0,.int .u8 0,.int .u8 0,.int .u8 0,.int .u8 0] 209)).setCells (w.heap.size+1) 0 (aq e0))=W at*;clear oP Xo U3 c0 c1 c2 aY UO ly;have HJ0:aX W (w.heap.size+1) (fM e0 s 0):=by rw[G8];exact hJ
 go_wp2
 go_loopg [15] (24) (fun g v15 wr=>∃k:Nat,k<=24/\g+k=24/\v15=.int .i64 k/\aX wr (w.heap.size+1) (fM e0 s k)/\bw (w.heap.size+1) W wr)
 case atStart=>exact⟨0,by omega,rfl,rfl,HJ0,bw.refl _ _⟩
 case round=>
  obtain⟨k,hk,GI,rfl,Xg,AS⟩:=hrel;have Rf:aX wr w.heap.size s:=⟨hSW.1,(AS.block _ hSW.lt (by omega)).trans hSW.2⟩;by_cases aL:k<24
  ·have d1:=Xg.cell k aL;have d2:=Rf.cell k aL;have d3:=Xg.frozen k;have hki:(k:Int)<24:=by omega
   have zn:=Xg.set k (e0.getD k 0|||s.getD k 0);rw[Lc]at zn;have TZ:(fM e0 s k).getD k 0=e0.getD k 0:=by rw[qV,jb (by rw[hE.len];exact aL),ja (by omega)]
   rw[TZ]at d1;have hor:=or_of (hE.lt k) (hs.lt k);clear TZ;generalize e0.getD k 0=u1 at*;generalize s.getD k 0=u2 at*;have qs:=AS.setCell k (.int .u8 ((u1|||u2:Nat):Int));have hset':aX (wr.setCell ⟨w.heap.size+1,k,none⟩ (.int .u8 ((u1|||u2:Nat):Int))).drew (w.heap.size+1) (fM e0 s (k+1)):=zn;have Kb:bw (w.heap.size+1) W (wr.setCell ⟨w.heap.size+1,k,none⟩ (.int .u8 ((u1|||u2:Nat):Int))).drew:=⟨qs.os,qs.tape,qs.output,qs.size,qs.block⟩;clear zn qs;go_wp2
   go_region
   all_goals
    go_wp2
    go_roundg (24-(k+1))
    case measure=>omega
    case rel=>exact⟨k+1,by omega,by omega,by go_num,hset',Kb⟩
  ·obtain rfl:k=24:=by omega
   have oC:=hW.other AS hJ (by omega);have j1:=aX.has Xg;have j2:=aX.of Xg;have ga:=oC.row;have r1:=ga.has aa Ju;have r2:=ga.of aa Ju;have r3:=ga.room aa Ju;rw[HE.out]at r2;obtain⟨c0,c1,c2⟩:=oC.facts;have UX:=Dl hE hs 24;have he:=fun w'=>I3 (fM e0 s 24) e0 w' UX.len hE.len UX.lt hE.lt
   have hist':=pJ UX.len;have HJS:Hid (fD (E.getD aa []) s=fM e0 s 24):=by unfold Hid;rw[fD,HE.out]
   have Zy:cq ap mb w wr:=(cq.sg Kc).since AS (by omega);generalize fM e0 s 24=j at*;have j1d:yz wr.drew (w.heap.size+1) 0:=j1;have j2d:Fe wr.drew (w.heap.size+1) 0=(aq j).toArray:=j2;have r1d:yz wr.drew ap (aa*24):=r1;have r2d:Fe wr.drew ap (aa*24)=(aq e0).toArray:=r2;cases hb:(j==e0)with
   |true=>
    rw[hb]at he;have hje:Hid (j=e0):=eq_of_beq hb;clear hb;go_wp2
    go_region
    all_goals
     go_wp2
     go_end0
     have Z5:fD (E.getD aa []) s=E.getD aa []:=by rw[HJS.out,HE.out];exact hje.out
     refine⟨rfl,?_,Zy.on (below_drewN (Below.refl _ _) 1)⟩;rw[eP,gY,jb Z5,jb Z5];exact oC.below (below_drewN (Below.refl _ _) 1)
   |false=>
    rw[hb]at he;have hje:Hid (¬j=e0):=fun e=>by rw[e]at hb;simp at hb
    clear hb;go_wp2
    go_region
    have hWd:kL z x a ap mb wr.drew q vl vb us vss E O:=oC.below (below_drewN (Below.refl _ _) 1);have ZC:cq ap mb w wr.drew:=Zy.on (below_drewN (Below.refl _ _) 1);have hJd:aX wr.drew (w.heap.size+1) j:=Xg;generalize wr.drew=wd at*;clear oC Zy Xg AS j1 j2 r1 r2 r3 c0 c1 c2 ga Rf he;obtain⟨c0,c1,c2⟩:=hWd.facts;have j1:yz wd.drew (w.heap.size+1) 0:=j1d;have j2:Fe wd.drew (w.heap.size+1) 0=(aq j).toArray:=j2d;have r3:s7 wd.drew ap (aa*24):=hWd.row.room aa Ju;have YL:kL z x a ap mb wd.drew q vl vb us vss E O:=hWd.below (below_drewN (Below.refl _ _) 1);have hTe:cq ap mb w wd.drew:=ZC.on (below_drewN (Below.refl _ _) 1);have xS:=YL.row.store aa Ju UX;have Wo:cO (wd.drew.setCells ap (aa*24) (aq j)) mb q.blocks.length O:=YL.sy.heap (de _ _ _ _ _ (fun e=>by
     obtain⟨es,clock,h1⟩:=YL.sy.isMap;obtain⟨-,cs,h2,-⟩:=YL.row;rw[e,h2]at h1;cases h1))
    have hTs:cq ap mb wd.drew (wd.drew.setCells ap (aa*24) (aq j)):=.left (sY (bw.refl ap wd.drew) 0 (aq j) (aa*24) wd.drew (bw.refl _ _));have Xn:=YL.qb hTs (by simp) xS Wo;have hTf:=hTe.trans hTs;clear Wo xS j1d j2d r1d r2d YL hTe hTs;go_wp2
    go_region
    generalize wd.drew.setCells ap (aa*24) (aq j)=wf at*;clear c0 c1 c2 j1 j2 r3 hWd ZC hJd;obtain⟨c0,c1,c2⟩:=Xn.facts;go_wp2_with (at_mapUpdate;refine qp _ rfl _ _ _ rfl aa rfl rfl rfl Xn.sy Va hn ?_;intro wg hog yT)
    go_end0
    have Z5:¬fD (E.getD aa []) s=E.getD aa []:=by rw[HJS.out,HE.out];exact hje.out
    have hTg:cq ap mb wf wg:=.right yT;refine⟨rfl,?_,hTf.trans hTg⟩;rw[eP,gY,ja Z5,ja Z5,HJS.out];exact Xn.qb hTg rfl (Xn.row.heap (yT.block ap Xn.row.lt (fun e=>by
     simp only[Option.some.injEq]at e;obtain⟨es,clock,h1⟩:=Xn.sy.isMap;obtain⟨-,cs,h2,-⟩:=Xn.row;rw[<-e,h2]at h1;cases h1))) hog
end
end FlwK
namespace FlwL
open Go Go.RowKit Sq Aux PrjF PrjG PrjJ PrjK PrjL PrjM PrjO FlwB FlwE FlwF FlwI FlwJ FlwK
section
variable (w:World) {ops:Array Oper} {rest:List Oper} {o:Oper} {a:Act} {Q:Exit->Act->World->Prop} {O:Nat->Bool}
theorem yx (hg:o.guard=none)(it:Operand)(ax:o.op=Op.next it false)(b r n:Nat)(D:DataW Unit)(left:Lit->Bool)(ed:Nat)(hit:a.eval it=.pointer (some ⟨r,0,none⟩))
  (h:w.ranges Tryz.prog 3 unitElem b r n D left ed) (hL:∀kl,left kl=true->∃c,kl=iM c/\O c=true)
  (hDone:(∀kl,left kl=false)->wpList Tryz.prog ops Q rest (a.put o.dst (.tuple #[.bool false])) w)
  (hMore:∀(c:Nat) (w':World) (cnt':Nat),O c=true->w'.ranges Tryz.prog 3 unitElem b r n D (fun z=>left z&& !z.sameKey (iM c)) cnt'->cnt'<ed->w.grownBy w' (some r)->
   (Instr.entry (.pointer (some ⟨r,0,none⟩))).run Tryz.prog w'=.ok (.tuple #[.int .i64 (c:Nat),.agg #[]]) w'->wpList Tryz.prog ops Q rest (a.put o.dst (.tuple #[.bool true,.int .i64 (c:Nat),.agg #[]])) w'):
  wpList Tryz.prog ops Q (o::rest) a w:=
 wpList_next_ranges w hg it ax 3 OD unitElem (Value.int .i64) (fun _:Unit=> .agg #[]) (fun key kl Og=>by obtain⟨x,rfl,_⟩:=Maps.keyOf_int_inv Tryz.underlying3 Og;exact⟨x,rfl⟩) (fun v y hv=>⟨(),(unitElem_inv hv).1⟩)
  b r n D left ed hit h (fun _=>hDone) (fun x c kl y w' cnt' Og xt hv Er hrg aL T6 ly hen=>by
   obtain⟨x',ex,rfl,hwx⟩:=Maps.keyOf_int_inv Tryz.underlying3 Og;cases ex
   obtain⟨c',hc,tl⟩:=hL _ xt;simp only[iM,Lit.int.injEq,true_and]at hc;subst hc;exact hMore c' w' cnt' tl hrg aL T6 hen)
end
theorem mU {w w' w0:World}{r:Nat}(hb:Below w.heap.size w w0)(h:w0.grownBy w' (some r))(hr:w.heap.size<=r):Below w.heap.size w w':=
 hb.trans ⟨h.os,h.tape,h.output,h.size,fun k hk=>h.block k (jK hk hb.size) (by simp;omega)⟩
theorem JM {w w':World}(h:w.grownBy w' none):Below w.heap.size w w':=⟨h.os,h.tape,h.output,h.size,fun k hk=>h.block k hk (by simp)⟩
section
variable {z x a ap mb:Nat} {w w':World} {q:QP} {vl vb:Value} {us:List Value} {vss:List (List (Value×Value))} {E:List (List Nat)} {O:Nat->Bool}
structure Mt (O:Nat->Bool)(N b:Nat):Prop where
 le:b<=N
 sy:b<N->O b=true
 none:∀c,c<b->O c=false
set_option maxRecDepth 20000 in
set_option maxHeartbeats 2000000 in
theorem sW (h:kL z x a ap mb w q vl vb us vss E O)(hn:q.blocks.length<=4000):
  Calls Tryz.prog 146 #[.pointer (some ⟨x,0,none⟩)] w fun e w'=>∃b,e=.returned (.int .i64 (b:Nat))/\Mt O q.blocks.length b/\kL z x a ap mb w' q vl vb us vss E (cC O b false)/\cq ap mb w w':=by
 obtain⟨c0,c1,c2⟩:=h.facts;obtain⟨D,hD,hO,hh,hs⟩:=h.sy;go_enter Tryz.func146,Tryz.ntmps146
 go_wp2_with (at_range;refine wpList_range_own _ rfl _ _ rfl 3 _ OD Tryz.underlying163 unitElem mb q.blocks.length D rfl hD ?_;intro w0 hrg0 TZ Ol)
 go_frame
 clear Ol;have fC:=JM TZ;go_loopw [3] (fun v3 wr=>∃(left:Lit->Bool) (ed l:Nat),wr.ranges Tryz.prog 3 unitElem mb w.heap.size q.blocks.length D left ed/\v3=.int .i64 (l:Nat)/\l<=q.blocks.length/\(l<q.blocks.length->O l=true)/\(∀kl,left kl=true->∃c,kl=iM c/\O c=true)/\(∀c,O c=true->left (iM c)=true\/l<=c)/\Below w.heap.size w wr) (fun _ wr=>wr.rangeLeft mb w.heap.size)
 case atStart=>exact⟨_,_,q.blocks.length,hrg0,rfl,jC _,fun h=>absurd h (Nat.lt_irrefl _),fun kl=>(hh kl).1,fun c hc=> .inl ((hh _).2 ⟨c,rfl,hc⟩),fC⟩
 case round=>
  obtain⟨left,ed,l,hrg,rfl,tn,Dh,hL,Kl,FB⟩:=hrel;go_wp2_with (at_next;refine yx (O:=O) _ rfl _ rfl mb w.heap.size q.blocks.length D left ed rfl hrg hL ?_ ?_)
  ·intro zM;have oC:=h.below FB;obtain⟨d0,d1,d2⟩:=oC.facts;have hle:l<=100000:=by omega
   go_wp2_with (at_delete;refine zt _ rfl _ _ rfl l rfl rfl oC.sy hle ?_;intro w2 Js Kj)
   go_ret
   have qs:cq ap mb wr w2:=.right Kj;refine⟨l,rfl,⟨tn,Dh,fun c hc=> ?_⟩,?_,(cq.sg FB).trans qs⟩
   ·cases hOc:O c with
    |false=>rfl
    |true=>
     rcases Kl c hOc with h1|h1
     ·rw[zM]at h1;cases h1
     ·omega
   ·exact oC.qb qs rfl (oC.row.heap (Kj.block ap oC.row.lt (fun e=>by
     simp only[Option.some.injEq]at e;obtain⟨es,clock,h1⟩:=oC.sy.isMap;obtain⟨-,cs,h2,-⟩:=oC.row;rw[<-e,h2]at h1;cases h1))) Js
  ·intro c w1 cnt1 hOc hrg1 aL T0 hen;have aw:=mU FB T0 (jC _);have FC:=hO c hOc;have sJ:∀c',O c'=true->c'≠c->left (iM c')=true->(left (iM c')&& !(iM c').sameKey (iM c))=true:=fun c' _ ec YQ=>by
    rw[YQ,Maps.sameKey_ne (fun e=>ec (vJ e))];rfl
   by_cases AW:c<l
   ·have ZL:(c:Int)<(l:Int):=by omega
    go_wp2
    go_roundw
    case measure=>rw[hrg1.left_eq,hrg.left_eq];exact aL
    case rel=>
     refine⟨_,cnt1,c,hrg1,congrArg (Value.int .i64) (by omega),by omega,fun _=>hOc,fun kl tN=>hL kl (by simp at tN;exact tN.1),fun c' tl=> ?_,aw⟩;by_cases e:c'=c
     ·right;omega
     ·rcases Kl c' tl with h1|h1
      ·left;exact sJ c' tl e h1
      ·right;omega
   ·have ZL:¬(c:Int)<(l:Int):=by omega
    go_wp2
    go_roundw
    case measure=>rw[hrg1.left_eq,hrg.left_eq];exact aL
    case rel=>
     refine⟨_,cnt1,l,hrg1,congrArg (Value.int .i64) (by omega),tn,Dh,fun kl tN=>hL kl (by simp at tN;exact tN.1),fun c' tl=> ?_,aw⟩;by_cases e:c'=c
     ·right;omega
     ·rcases Kl c' tl with h1|h1
      ·left;exact sJ c' tl e h1
      ·right;omega
end
end FlwL
namespace PrjQ
open Go Go.RowKit Sq Aux PrjF PrjG PrjH PrjI PrjJ PrjK PrjL PrjM PrjN PrjO PrjP
structure zy (S:List (Nat×List B)):Prop where
 fe:S.length<=4000
 op:∀j,j<S.length->(S.getD j (0,[])).1<23
 words:∀j,j<S.length->(S.getD j (0,[])).2.length=(ag (S.getD j (0,[])).1).length
 short:∀j i,(word (S.getD j (0,[])).2 i).length<=1048576
 order:∀j,j<S.length->2<=(S.getD j (0,[])).1->1<=countB (S.take j)
structure Made (nb:Nat)(S:List (Nat×List B))(k:Nat)(q:QP):Prop where
 same:bc nb S 0 QP.empty=bc nb (S.drop k) k q
 locals:q.locals.length<=k
 blocks:q.blocks.length=countB (S.take k)
 lines:∀j,(q.blocks.getD j []).length<=k
theorem Made.start (nb:Nat)(S:List (Nat×List B)):Made nb S 0 QP.empty:=⟨rfl,jC _,rfl,fun j=>by simp[QP.empty]⟩
section
variable {nb:Nat} {S:List (Nat×List B)} {k:Nat} {q:QP}
theorem getD_at (hk:k<S.length):S.getD k (0,[])=S[k]:=by simp[List.getD_eq_getElem?_getD,hk]
theorem Made.twice (h:Made nb S k q)(hk:k<S.length)(h0:(S.getD k (0,[])).1=0)(hf:0<=dF q.locals (word (S.getD k (0,[])).2 0)):(bc nb S 0 QP.empty).2=some k:=by
 rw[getD_at hk]at h0 hf;rw[h.same,jE hk,bc,jb h0,jb hf]
theorem Made.Yg (h:Made nb S k q)(hk:k<S.length)(h0:(S.getD k (0,[])).1=0)(hf:dF q.locals (word (S.getD k (0,[])).2 0)<0):Made nb S (k+1) (q.addLocal (word (S.getD k (0,[])).2 0,(gN (word (S.getD k (0,[])).2 1)).getD 0)):=by
 have hc:=mW S k hk;rw[ja (by omega)]at hc;rw[getD_at hk]at h0 hf⊢;refine⟨?_,by have:=h.locals;simp[QP.addLocal];omega,by rw[hc];exact h.blocks,fun j=>Nat.le_succ_of_le (h.lines j)⟩;rw[h.same,jE hk,bc,jb h0,ja (by omega)]
theorem Made.block (h:Made nb S k q)(hk:k<S.length)(h0:(S.getD k (0,[])).1=1):Made nb S (k+1) q.addBlock:=by
 have hc:=mW S k hk;rw[jb h0]at hc;rw[getD_at hk]at h0;refine⟨?_,by have:=h.locals;simp[QP.addBlock];omega,by rw[hc];simp[QP.addBlock,h.blocks],fun j=> ?_⟩
 ·rw[h.same,jE hk,bc,ja (by omega),jb h0]
 ·have:=h.lines j;simp only[QP.addBlock,List.getD_eq_getElem?_getD,List.getElem?_append]at this⊢;split
  ·omega
  ·by_cases hj:j-q.blocks.length=0
   ·rw[hj];simp
   ·rw[jG (by simp;omega)];simp
theorem Made.unknown (h:Made nb S k q)(hk:k<S.length)(h0:2<=(S.getD k (0,[])).1)(hl:ez q.locals nb (S.getD k (0,[]))=none):(bc nb S 0 QP.empty).2=some k:=by
 rw[getD_at hk]at h0 hl;rw[h.same,jE hk,bc,ja (by omega),ja (by omega),hl]
theorem Made.line (h:Made nb S k q)(hk:k<S.length)(h0:2<=(S.getD k (0,[])).1){l:ab}(hl:ez q.locals nb (S.getD k (0,[]))=some l)(n:Nat)(hn:q.blocks.length=n+1):Made nb S (k+1) (q.addLine {l with num:=k}):=by
 have hc:=mW S k hk;rw[ja (by omega)]at hc;rw[getD_at hk]at h0 hl;have hD:q.blocks.dropLast.length=n:=by simp[hn]
 have qR:q.blocks.getLastD []=q.blocks.getD n []:=by
  rw[List.getLastD_eq_getLast?,List.getLast?_eq_getElem?,hn,Nat.add_sub_cancel,jA]
 refine⟨?_,by have:=h.locals;simp[QP.addLine];omega,by rw[hc,<-h.blocks];simp[QP.addLine,hn],fun j=> ?_⟩
 ·rw[h.same,jE hk,bc,ja (by omega),ja (by omega),hl]
 ·have h1:=h.lines j;have h2:=h.lines n;simp only[QP.addLine,qR];rw[jA,List.getElem?_append];split
  ·rename_i hj;rw[List.getElem?_dropLast,jb (by omega),<-jA];omega
  ·by_cases hj:j-q.blocks.dropLast.length=0
   ·rw[hj];simp;simp only[List.getD_eq_getElem?_getD]at h2;omega
   ·rw[jG (by simp;omega)];simp
theorem Made.whole (h:Made nb S k q)(hk:¬k<S.length):bc nb S 0 QP.empty=(q,none):=by
 rw[h.same,jT (by omega),bc]
end
def iQ (nb:Nat)(S:List (Nat×List B))(w:World)(e:Ending)(w':World):Prop:=
 Below w.heap.size w w'/\match bc nb S 0 QP.empty with
  |(_,some k)=>e=.returned (.tuple #[.pointer none,.int .i64 (k:Nat),.bool false])
  |(q,none)=>∃a vl vb us vss,e=.returned (.tuple #[.pointer (some ⟨a,0,none⟩),.int .i64 0,.bool true])/\lE w.heap.size a w' q vl vb us vss
theorem iQ.bad {nb:Nat}{S:List (Nat×List B)}{w w':World}{k:Nat}(hb:Below w.heap.size w w')(h:(bc nb S 0 QP.empty).2=some k):iQ nb S w (.returned (.tuple #[.pointer none,.int .i64 (k:Nat),.bool false])) w':=by
 refine⟨hb,?_⟩;generalize bc nb S 0 QP.empty=R at h;obtain⟨q,x⟩:=R;simp only at h;subst h;rfl
theorem iQ.ml {nb:Nat}{S:List (Nat×List B)}{w w':World}{q:QP}{a:Nat}{vl vb:Value}{us:List Value}{vss:List (List (Value×Value))}(hb:Below w.heap.size w w')(h:bc nb S 0 QP.empty=(q,none))(hp:lE w.heap.size a w' q vl vb us vss):iQ nb S w (.returned (.tuple #[.pointer (some ⟨a,0,none⟩),.int .i64 0,.bool true])) w':=by
 refine⟨hb,?_⟩;rw[h];exact⟨a,vl,vb,us,vss,rfl,hp⟩
theorem Kw:(Tryz.prog.info? 146).map (fun i=>(i.zero,i.size,i.bytes))=some (some (.agg #[.string ⟨#[]⟩,.int .i64 0]),2,24):=by kernel_rfl
theorem Ku:(Tryz.prog.info? 106).map (fun i=>(i.zero,i.size,i.bytes))=some (some (.slice none 0 0),1,24):=by kernel_rfl
theorem Kv:(Tryz.prog.info? 115).map (fun i=>(i.zero,i.size,i.bytes))=some (some (.agg #[.int .i64 0,.int .i64 0,.slice none 0 0,.int .i64 0,.int .i64 0,.slice none 0 0]),6,80):=by kernel_rfl
theorem lE.facts {z a:Nat}{w:World}{q:QP}{vl vb:Value}{us:List Value}{vss:List (List (Value×Value))}(h:lE z a w q vl vb us vss):w.cell? ⟨a,0,none⟩=some vl/\w.cell? ⟨a,1,none⟩=some vb/\w.frozen? ⟨a,0,none⟩=false/\w.frozen? ⟨a,1,none⟩=false:=
 ⟨by rw[cell_of_heap h.aJ];rfl,by rw[cell_of_heap h.aJ];rfl,frozen_of_heap h.aJ 0,frozen_of_heap h.aJ 1⟩
theorem zg {w:World}{gw ow n cw:Nat}{L:List B}(h:fO w (.slice (some ⟨gw,ow,none⟩) n cw) L):L.length<=cw/\gw<w.heap.size/\∀j,j<L.length->w.cell? ⟨gw,ow+j,none⟩=some (.string (bs (word L j))):=by
 obtain⟨g,o,cap,e,hc,⟨cs,f,hg⟩,aD⟩:=h;simp only[Value.slice.injEq,Option.some.injEq,Addr.mk.injEq,and_true]at e;obtain⟨⟨rfl,rfl⟩,-,rfl⟩:=e;exact⟨hc,lt_of_heap hg,aD⟩
theorem Pa {n:ByteArray}{t:Int}:∀u'∈[Value.string n,Value.int .i64 t],u'.oneCell'=true:=by
 intro u' hu;simp at hu;rcases hu with rfl|rfl<;>rfl
theorem SJ {a b c d:Int}{ap an:Option Addr}{np cp nn cn:Nat}:∀u'∈[Value.int .i64 a,Value.int .i64 b,Value.slice ap np cp,Value.int .i64 c,Value.int .i64 d,Value.slice an nn cn],u'.oneCell'=true:=by
 intro u' hu;simp at hu;rcases hu with rfl|rfl|rfl|rfl|rfl|rfl<;>rfl
theorem JN {z n m k gb cb:Nat}{w w':World}{us xs:List Value}{v:Value}(hb:w.ownsRow z 106 1 (.slice (some ⟨gb,0,none⟩) (n+1) cb) m us)(ho:w.ownsRow z 115 6 v k xs)(hg:w.grownBy w' v.ownBlock)(_hm:n<m){u:Value}(hc:w.cell? ⟨gb,n,none⟩=some u):w'.cell? ⟨gb,n,none⟩=some u/\w'.frozen? ⟨gb,n,none⟩=false:=by
 rcases hb.2 with⟨e,-⟩|⟨g',cap',cur',e,-,Rw,-⟩
 ·cases e
 ·simp only[Value.slice.injEq,Option.some.injEq,Addr.mk.injEq,and_true]at e;obtain⟨rfl,-⟩:=e;have h':w'.heap[gb]?=w.heap[gb]?:=hg.block gb (lt_of_heap Rw) (bj ho Rw (by decide));exact⟨(World.cell?_of_block (a:=⟨gb,n,none⟩) h').trans hc,(World.frozen?_of_block (a:=⟨gb,n,none⟩) h').trans (frozen_of_heap Rw n)⟩
set_option maxRecDepth 20000 in
set_option maxHeartbeats 4000000 in
theorem Lp {z g cap:Nat}{S:List (Nat×List B)}{vs:List Value}(w:World)(h:cS z w (.slice (some ⟨g,0,none⟩) S.length cap) S vs)(hS:zy S)(_hg:g<w.heap.size)(kM:S.length<=cap)(E:Env w):
  Calls Tryz.prog 117 #[.slice (some ⟨g,0,none⟩) S.length cap] w (iQ (countB S) S w):=by
 obtain⟨il,hil,zM,tn,Dh⟩:=info_parts Kw;obtain⟨ib,hib,fC,aw,bU⟩:=info_parts Ku;obtain⟨in_,lg,hn0,Wm,hn2⟩:=info_parts Kv;have xR:=hS.fe;have ir:=lE.start w.heap.size w (jC _);have UP:Below w.heap.size w (w.alloc (.cells #[.slice none 0 0,.slice none 0 0] 110)):=(Below.refl _ _).alloc (jC _) _;have hst2:=ir;have KC:=zh (w.alloc (.cells #[.slice none 0 0,.slice none 0 0] 110)) (h.below UP) xR kM;go_enter Tryz.func117,Tryz.ntmps117
 go_wp2_with (go_at_call 167;refine KC.mono ?_;rintro e w1 ⟨rfl,oN⟩)
 have Gz:=ir.below oN;have lv:Below w.heap.size w w1:=UP.trans (oN.mono UP.size);have FC:=countB_le S;go_loopw [2,19] (fun pv i wr=>∃(k:Nat) (q:QP) (vl vb:Value) (us:List Value) (vss:List (List (Value×Value))),k<=S.length/\i=.int .i64 k/\pv=.pointer (some ⟨w.heap.size,0,none⟩)/\lE w.heap.size w.heap.size wr q vl vb us vss/\Hid (vss.length=q.blocks.length)/\Below w.heap.size w wr/\Hid (Made (countB S) S k q)) (fun _ i _=>S.length-(intOf i).toNat)
 case atStart=>exact⟨0,QP.empty,_,_,[],[],jQ _,rfl,rfl,Gz,rfl,lv,Made.start _ _⟩
 case round=>
  obtain⟨k,q,vl,vb,us,vss,hk,rfl,rfl,hP,HV,hB,HM⟩:=hrel;clear Gz lv oN ir hst2 KC UP;by_cases aL:k<S.length
  ·obtain⟨h1,gw,ow,cw,h2,hW⟩:=zb (h.below hB) k aL;obtain⟨p0,p1,pf0,pf1⟩:=lE.facts hP;have ax:=hS.op k aL;have Vb:=hS.words k aL;have Cs:=hS.short k;have RJ:=hS.order k aL;have E1:=E.on hB;have T1:Hid ((S.getD k (0,[])).1=0->0<=dF q.locals (word (S.getD k (0,[])).2 0)->(bc (countB S) S 0 QP.empty).2=some k):=HM.out.twice aL;have T2:Hid ((S.getD k (0,[])).1=0->dF q.locals (word (S.getD k (0,[])).2 0)<0->Made (countB S) S (k+1) (q.addLocal (word (S.getD k (0,[])).2 0,(gN (word (S.getD k (0,[])).2 1)).getD 0))):=HM.out.Yg aL;have T3:Hid ((S.getD k (0,[])).1=1->Made (countB S) S (k+1) q.addBlock):=HM.out.block aL;have T4:Hid (2<=(S.getD k (0,[])).1->ez q.locals (countB S) (S.getD k (0,[]))=none->(bc (countB S) S 0 QP.empty).2=some k):=HM.out.unknown aL;have T5:Hid (2<=(S.getD k (0,[])).1->∀l,ez q.locals (countB S) (S.getD k (0,[]))=some l->∀n,q.blocks.length=n+1->Made (countB S) S (k+1) (q.addLine {l with num:=k})):=fun a l b n c=>HM.out.line aL a b n c
   have hq1:=HM.out.locals;have XU:=HM.out.blocks;have hq3:=HM.out.lines;clear HM;generalize S.getD k (0,[])=x at*;obtain⟨op,ws⟩:=x;simp only at h1 h2 hW ax Vb Cs RJ T1 T2 T3 T4 T5;by_cases h0:op=0
   ·subst h0;have hwl2:ws.length=2:=Vb;rw[hwl2]at h2 hW;obtain⟨hcw,US,aD⟩:=zg hW;have mZ:wr.cell? ⟨gw,ow,none⟩=some (.string (bs (word ws 0))):=aD 0 (by omega);have kq:wr.cell? ⟨gw,ow+1,none⟩=some (.string (bs (word ws 1))):=aD 1 (by omega);have Cn:Below wr.heap.size wr (wr.alloc (.cells #[.int .i64 0,.slice (some ⟨gw,ow,none⟩) 2 cw] 240)):=(Below.refl _ _).alloc (jC _) _;have hsS:(wr.alloc (.cells #[.int .i64 0,.slice (some ⟨gw,ow,none⟩) 2 cw] 240)).heap.size=wr.heap.size+1:=by simp
    have N8:=hP.below Cn;have KF:=mi q.locals vl vb (word ws 0) w.heap.size _ N8.aJ ⟨_,N8.locals⟩ (by omega);have t1:(wr.alloc (.cells #[.int .i64 0,.slice (some ⟨gw,ow,none⟩) 2 cw] 240)).cell? ⟨wr.heap.size,1,none⟩=some (.slice (some ⟨gw,ow,none⟩) 2 cw):=by simp
    have hc0S:(wr.alloc (.cells #[.int .i64 0,.slice (some ⟨gw,ow,none⟩) 2 cw] 240)).cell? ⟨gw,ow,none⟩=some (.string (bs (word ws 0))):=(Cn.cell (p:=⟨gw,ow,none⟩) US).trans mZ;have hc1S:(wr.alloc (.cells #[.int .i64 0,.slice (some ⟨gw,ow,none⟩) 2 cw] 240)).cell? ⟨gw,ow+1,none⟩=some (.string (bs (word ws 1))):=(Cn.cell (p:=⟨gw,ow+1,none⟩) US).trans kq;have hgS:gw<(wr.alloc (.cells #[.int .i64 0,.slice (some ⟨gw,ow,none⟩) 2 cw] 240)).heap.size:=by omega
    have hwS:wr.heap.size<(wr.alloc (.cells #[.int .i64 0,.slice (some ⟨gw,ow,none⟩) 2 cw] 240)).heap.size:=by omega
    have Gy:=hB.trans (Cn.mono hB.size);by_cases hf:0<=dF q.locals (word ws 0)
    ·have hx:=T1.out rfl hf;clear T1 T2 T3 T4 T5 aD;go_wp2_with (go_at_call 168;refine KF.mono ?_;rintro e w2 ⟨rfl,bU⟩)
     go_ret3
     exact iQ.bad (Gy.trans (bU.mono Gy.size)) hx
    ·have Za:Hid (_):=T2.out rfl (by omega);have YN:dF q.locals (word ws 0)<0:=by omega
     clear T1 T2 T3 T4 T5 aD hf;have KT:=fun w' (E':Env w')=>iB (word ws 1) w' E'.types
     go_upto_region 17 with(first
      |(go_at_call 168;refine KF.mono ?_;rintro e w2 ⟨rfl,bU⟩;have t2:=(bU.cell (p:=⟨wr.heap.size,1,none⟩) hwS).trans t1;have hc02:=(bU.cell (p:=⟨gw,ow,none⟩) hgS).trans hc0S;have hc12:=(bU.cell (p:=⟨gw,ow+1,none⟩) hgS).trans hc1S;have hw2:=jK hwS bU.size;have Kj:=jK hgS bU.size)
      |(go_at_call 169;refine(KT _ ((E1.on Cn).on bU)).mono ?_;rintro e w3 ⟨rfl,lJ⟩;have t3:=(lJ.cell (p:=⟨wr.heap.size,1,none⟩) hw2).trans t2;have hc03:=(lJ.cell (p:=⟨gw,ow,none⟩) Kj).trans hc02))
     have YI:=(N8.below bU).below lJ;obtain⟨q0,q1,qf0,qf1⟩:=lE.facts YI;have Jl:=(Gy.trans (bU.mono Gy.size)).trans (lJ.mono (Gy.trans (bU.mono Gy.size)).size);have aY:Below w3.heap.size w3 (w3.alloc (.cells #[.string (bs (word ws 0)),.int .i64 ((gN (word ws 1)).getD 0:Nat)] 146)):=(Below.refl _ _).alloc (jC _) _;have qu:w.heap.size<=(w3.alloc (.cells #[.string (bs (word ws 0)),.int .i64 ((gN (word ws 1)).getD 0:Nat)] 146)).heap.size:=jS Jl.size aY.size;have sL:=ay YI.locals aY;have qQ:=(YI.below aY).aJ;have hcA:=(lE.facts (YI.below aY)).1;have hlocs:Hid (_):=hq1;go_region_law (refine rD (by rfl) _ _ _ (by rfl) w.heap.size 146 il (.agg #[.string ⟨#[]⟩,.int .i64 0]) 2 24 Tryz.underlying107 hil zM tn Dh (by rfl) (by decide) vl _ _ (by rfl) sL w3.heap.size [.string (bs (word ws 0)),.int .i64 ((gN (word ws 1)).getD 0:Nat)] (by rfl) jD (by rfl) Pa (by decide) (by omega) qu ?_;intro g4 c4 w4 hown4 hgrow4 hat4 hlt4;have gK:w4.heap[w.heap.size]?=_:=(hgrow4.block _ (lt_of_heap qQ) (bj sL qQ (by decide))).trans qQ;have r0:w4.cell? ⟨w.heap.size,0,none⟩=some vl:=(by rw[cell_of_heap gK];rfl);have rf0:w4.frozen? ⟨w.heap.size,0,none⟩=false:=frozen_of_heap gK 0)
     all_goals go_wp2_with fail
     all_goals
      have tm:(w3.alloc (.cells #[.string (bs (word ws 0)),.int .i64 ((gN (word ws 1)).getD 0:Nat)] 146)).grownBy w4 vl.ownBlock:=⟨hgrow4.os,hgrow4.tape,hgrow4.output,hgrow4.size,hgrow4.block⟩;have zj:=fu Jl (jC _) Jl.size YI.locals tm;exact⟨⟨k+1,_,_,vb,us,vss,by omega,by go_num,rfl,YI.addLocal (word ws 0,(gN (word ws 1)).getD 0) aY hown4 tm,HV,zj.trans (((bw.refl _ w4).setCell 0 _).below (jC _) zj.size),Za⟩,by simp[intOf];omega⟩
   ·by_cases TO:op=1
    ·subst TO;have Za:Hid (_):=T3.out rfl;clear T1 T2 T3 T4 T5;have hwl0:ws.length=0:=Vb;rw[hwl0]at h2;clear Vb hwl0 hW Cs RJ;have Cn:Below wr.heap.size wr (wr.alloc (.cells #[.int .i64 1,.slice (some ⟨gw,ow,none⟩) 0 cw] 240)):=(Below.refl _ _).alloc (jC _) _;have N8:=hP.below Cn;obtain⟨q0,q1,qf0,qf1⟩:=lE.facts N8;have Gy:=hB.trans (Cn.mono hB.size);have aY:Below (wr.alloc (.cells #[.int .i64 1,.slice (some ⟨gw,ow,none⟩) 0 cw] 240)).heap.size (wr.alloc (.cells #[.int .i64 1,.slice (some ⟨gw,ow,none⟩) 0 cw] 240)) ((wr.alloc (.cells #[.int .i64 1,.slice (some ⟨gw,ow,none⟩) 0 cw] 240)).alloc (.cells #[.slice none 0 0] 106)):=(Below.refl _ _).alloc (jC _) _;have qQ:=(N8.below aY).aJ;have sL:=ay N8.blocks aY;have RN:q.blocks.length<=4000:=by have:=countB_le (S.take k);simp at this;omega
     clear XU;have hsS:(wr.alloc (.cells #[.int .i64 1,.slice (some ⟨gw,ow,none⟩) 0 cw] 240)).heap.size=wr.heap.size+1:=by simp
     have ZI:((wr.alloc (.cells #[.int .i64 1,.slice (some ⟨gw,ow,none⟩) 0 cw] 240)).alloc (.cells #[.slice none 0 0] 106)).heap[wr.heap.size+1]?=some (.cells #[.slice none 0 0] 106 (0,0)):=by
      rw[<-hsS];exact jD
     have U9:=jS Gy.size aY.size;go_wp2_with (at_builtin;go_must (refine kh rfl _ _ 108 rfl w.heap.size 106 ib (.slice none 0 0) 1 24 Tryz.underlying108 hib fC aw bU rfl (by decide) vb _ _ rfl sL (wr.heap.size+1) [.slice none 0 0] rfl ZI rfl (by intro u' hu;simp at hu;subst hu;rfl) (by decide) (by omega) U9 ?_);intro g4 c4 w4 hown4 hgrow4 hat4 hlt4;have gK:w4.heap[w.heap.size]?=_:=(hgrow4.block _ (lt_of_heap qQ) (bj sL qQ (by decide))).trans qQ;have r1:w4.cell? ⟨w.heap.size,1,none⟩=some vb:=(by rw[cell_of_heap gK];rfl);have rf1:w4.frozen? ⟨w.heap.size,1,none⟩=false:=frozen_of_heap gK 1)
     go_roundw
     case rel=>
      have zj:=fu Gy (jC _) Gy.size N8.blocks hgrow4;exact⟨k+1,_,vl,_,us++[.slice none 0 0],vss++[[]],by omega,by go_num,rfl,N8.addBlock HV.out aY hown4 hgrow4,by unfold Hid;simp[QP.addBlock,HV.out],zj.trans (((bw.refl _ w4).setCell 1 _).below (jC _) zj.size),Za⟩
     case measure=>simp[intOf];omega
    ·have U4:2<=op:=by omega
     have b0:((op:Int)==0)=false:=by rw[jZ];omega
     have b1:((op:Int)==1)=false:=by rw[jZ];omega
     obtain⟨n,hn⟩:∃n,q.blocks.length=n+1:=⟨q.blocks.length-1,by have:=RJ U4;omega⟩;have RN:n+1<=4000:=by have:=countB_le (S.take k);simp at this;omega
     obtain⟨hcw,US,aD⟩:=zg hW;rw[Vb]at h2 hcw aD;have Cn:Below wr.heap.size wr (wr.alloc (.cells #[.int .i64 (op:Nat),.slice (some ⟨gw,ow,none⟩) (ag op).length cw] 240)):=(Below.refl _ _).alloc (jC _) _;have N8:=hP.below Cn;have Gy:=hB.trans (Cn.mono hB.size);have KL:=Li q.locals (countB S) op w.heap.size gw ow cw ws vl vb _ N8.aJ ⟨_,N8.locals⟩ (by omega) (by omega) ax Vb hcw (jK US Cn.size) (fun j hj=>(Cn.cell (p:=⟨gw,ow+j,none⟩) US).trans (aD j hj)) Cs (E1.on Cn);unfold fU at KL;cases hl:ez q.locals (countB S) (op,ws)with
     |none=>
      have hx:=T4.out U4 hl;rw[hl]at KL;clear T1 T2 T3 T4 T5 aD hl RJ;go_wp2_with (go_at_call 170;refine KL.mono ?_;rintro e w2 ⟨pF,rfl⟩)
      go_ret3
      have hBq:=Gy.trans (pF.mono Gy.size);exact iQ.bad (hBq.alloc hBq.size _) hx
     |some l=>
      have Za:Hid (_):=T5.out U4 l hl n hn;rw[hl]at KL
      replace KL:=KL.mono (R':=fun e w'=>Below (wr.alloc (.cells #[.int .i64 (op:Nat),.slice (some ⟨gw,ow,none⟩) (ag op).length cw] 240)).heap.size (wr.alloc (.cells #[.int .i64 (op:Nat),.slice (some ⟨gw,ow,none⟩) (ag op).length cw] 240)) w'/\∃ap cp an cn,e=.returned (.tuple #[.agg #[.int .i64 (l.num:Nat),.int .i64 (l.op:Nat),.slice ap l.places.length cp,.int .i64 l.number,.int .i64 l.flag,.slice an l.next.length cn],.bool true])/\bq w.heap.size w' l (.slice ap l.places.length cp) (.slice an l.next.length cn)) fun e w' ⟨h1,vp,vn,h2,h3⟩=>by
       obtain⟨ap,cp,rfl⟩:=ca h3.places;obtain⟨an,cn,rfl⟩:=ca h3.next;exact⟨h1,ap,cp,an,cn,h2,⟨oY h3.places Gy.size,oY h3.next Gy.size⟩⟩
      obtain⟨gb,cb,X8,hcb1,Rx,Kh⟩:=dK hP.blocks (by omega);rw[hn]at X8 hcb1 Kh;subst X8;have De:wr.cell? ⟨gb,n,none⟩=some (us.getD n undef):=by
       rw[Kh n (by omega),jA,jB (by rw[hP.WM];omega)];rfl
      have ZH:wr.frozen? ⟨gb,n,none⟩=false:=by
       rcases hP.blocks.2 with⟨e,-⟩|⟨g',cap',cur',e,-,Rw,-⟩
       ·cases e
       ·simp only[Value.slice.injEq,Option.some.injEq,Addr.mk.injEq,and_true]at e;obtain⟨rfl,-⟩:=e;exact frozen_of_heap Rw n
      have eY:(q.blocks.getD n []).length<=4000:=by have:=hq3 n;omega
      clear T1 T2 T3 T4 T5 aD hl RJ Kh hq3 XU;go_upto_region 12 with(go_at_call 170;refine KL.mono ?_;rintro e w2 ⟨pF,ap,cp,an,cn,rfl,hLA⟩;have zk:=N8.below pF;have zJ:Below w2.heap.size w2 (w2.alloc (.cells #[.int .i64 (k:Nat),.int .i64 (l.op:Nat),.slice ap l.places.length cp,.int .i64 l.number,.int .i64 l.flag,.slice an l.next.length cn] 115)):=(Below.refl _ _).alloc (jC _) _;have UC:=zk.below zJ;obtain⟨q0,q1,qf0,qf1⟩:=lE.facts UC)
      have mn:=Gy.trans (pF.mono Gy.size);have Jm:=mn.trans (zJ.mono mn.size);have GL:(w2.alloc (.cells #[.int .i64 (k:Nat),.int .i64 (l.op:Nat),.slice ap l.places.length cp,.int .i64 l.number,.int .i64 l.flag,.slice an l.next.length cn] 115)).heap[w2.heap.size]?=some (.cells #[.int .i64 (k:Nat),.int .i64 (l.op:Nat),.slice ap l.places.length cp,.int .i64 l.number,.int .i64 l.flag,.slice an l.next.length cn] 115 (0,0)):=jD;have MS:=hLA.below zJ;have hbnL:=(zJ.cell (p:=⟨gb,n,none⟩) (jK (jK Rx Cn.size) pF.size)).trans ((pF.cell (p:=⟨gb,n,none⟩) (jK Rx Cn.size)).trans ((Cn.cell (p:=⟨gb,n,none⟩) Rx).trans De));have hbfL:=(zJ.frozen (p:=⟨gb,n,none⟩) (jK (jK Rx Cn.size) pF.size)).trans ((pF.frozen (p:=⟨gb,n,none⟩) (jK Rx Cn.size)).trans ((Cn.frozen (p:=⟨gb,n,none⟩) Rx).trans ZH));generalize (w2.alloc (.cells #[.int .i64 (k:Nat),.int .i64 (l.op:Nat),.slice ap l.places.length cp,.int .i64 l.number,.int .i64 l.flag,.slice an l.next.length cn] 115))=wL at*;have l0:wL.cell? ⟨w2.heap.size,0,none⟩=some (.int .i64 (k:Nat)):=by rw[cell_of_heap GL];rfl
      have l1:wL.cell? ⟨w2.heap.size,1,none⟩=some (.int .i64 (l.op:Nat)):=by rw[cell_of_heap GL];rfl
      have l2:wL.cell? ⟨w2.heap.size,2,none⟩=some (.slice ap l.places.length cp):=by rw[cell_of_heap GL];rfl
      have l3:wL.cell? ⟨w2.heap.size,3,none⟩=some (.int .i64 l.number):=by rw[cell_of_heap GL];rfl
      have l4:wL.cell? ⟨w2.heap.size,4,none⟩=some (.int .i64 l.flag):=by rw[cell_of_heap GL];rfl
      have l5:wL.cell? ⟨w2.heap.size,5,none⟩=some (.slice an l.next.length cn):=by rw[cell_of_heap GL];rfl
      have aY:Below wL.heap.size wL (wL.alloc (.cells #[.int .i64 (k:Nat),.int .i64 (l.op:Nat),.slice ap l.places.length cp,.int .i64 l.number,.int .i64 l.flag,.slice an l.next.length cn] 115)):=(Below.refl _ _).alloc (jC _) _;have qu:w.heap.size<=(wL.alloc (.cells #[.int .i64 (k:Nat),.int .i64 (l.op:Nat),.slice ap l.places.length cp,.int .i64 l.number,.int .i64 l.flag,.slice an l.next.length cn] 115)).heap.size:=jS Jm.size aY.size;have sL:=ay (UC.each n (by omega)).row aY;obtain⟨m,hm⟩:∃m,m=(q.blocks.getD n []).length:=⟨_,rfl⟩;rw[<-hm]at sL eY;have Hm:Hid (m=(q.blocks.getD n []).length):=hm;have hgbz:w.heap.size<=gb:=(hP.blocks.lt gb rfl).1;clear hm;have yR:=UC.below aY;have qQ:=yR.aJ;have q1A:=(lE.facts yR).2.1;have hgL:gb<wL.heap.size:=by have:=pF.size;have:=Cn.size;have:=zJ.size;omega
      have hbnA:=(aY.cell (p:=⟨gb,n,none⟩) hgL).trans hbnL;have hrowB:=yR.blocks;have Rz:(n:Int)<(n:Int)+1:=by omega
      go_region_law (refine rD (by rfl) _ _ _ (by rfl) w.heap.size 115 in_ (.agg #[.int .i64 0,.int .i64 0,.slice none 0 0,.int .i64 0,.int .i64 0,.slice none 0 0]) 6 80 Tryz.underlying106 lg hn0 Wm hn2 (by rfl) (by decide) (us.getD n undef) _ _ (by rfl) sL wL.heap.size [.int .i64 (k:Nat),.int .i64 (l.op:Nat),.slice ap l.places.length cp,.int .i64 l.number,.int .i64 l.flag,.slice an l.next.length cn] (by rfl) jD (by rfl) SJ (by decide) (by omega) qu ?_;intro g4 c4 w4 hown4 hgrow4 hat4 hlt4;have gK:w4.heap[w.heap.size]?=_:=(hgrow4.block _ (lt_of_heap qQ) (bj sL qQ (by decide))).trans qQ;have r1:=(cell_of_heap gK 1).trans (by rfl:_=some (Value.slice (some ⟨gb,0,none⟩) (n+1) cb));have tm:(wL.alloc (.cells #[.int .i64 (k:Nat),.int .i64 (l.op:Nat),.slice ap l.places.length cp,.int .i64 l.number,.int .i64 l.flag,.slice an l.next.length cn] 115)).grownBy w4 (us.getD n undef).ownBlock:=⟨hgrow4.os,hgrow4.tape,hgrow4.output,hgrow4.size,hgrow4.block⟩;obtain⟨s1,s2⟩:=JN hrowB sL tm (by omega) hbnA)
      all_goals go_wp2_with fail
      all_goals exact⟨⟨k+1,_,vl,_,_,_,by omega,by go_num,rfl,UC.addLine HV.out n hn {l with num:=k} _ _ ⟨MS.places,MS.next⟩ aY rfl rfl (hat4.imp id fun e=>Nat.le_of_eq e.symm) (by rw[<-Hm.out];exact hown4) tm,by unfold Hid;simp[QP.addLine,HV.out,hn],(fu Jm (jC _) Jm.size (UC.each n (by omega)).row tm).trans (((bw.refl _ w4).setCell n _).below hgbz (fu Jm (jC _) Jm.size (UC.each n (by omega)).row tm).size),Za⟩,by simp[intOf];omega⟩
  ·have hw:=HM.out.whole aL;go_wp2
   go_ret3
   exact iQ.ml hB hw hP
end PrjQ
end Go.Proofs.YtmlgajhhnojdjaaGreatDoor

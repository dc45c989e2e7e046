import Derived.Test.YtmlgajhhnojdjaaGreatDoorVAT
set_option maxHeartbeats 8000000
namespace Go.Proofs.YtmlgajhhnojdjaaGreatDoor
namespace FlwK
open Go Go.RowKit Sq Aux PrjF PrjG PrjJ PrjK PrjL PrjM PrjO FlwB FlwE FlwF FlwI FlwJ
attribute [local go_sem ↓] bY bJ
theorem Ea:∀u:Fin 16,∀v:Fin 16,bits .or .u8 ((u.val:Nat):Int) ((v.val:Nat):Int)=((u.val|||v.val:Nat):Int)/\(u.val|||v.val)<16:=by decide
theorem RV {u v:Nat}(hu:u<16)(hv:v<16):bits .or .u8 (u:Int) (v:Int)=((u|||v:Nat):Int):=(Ea ⟨u,hu⟩ ⟨v,hv⟩).1
theorem MY {u v:Nat}(hu:u<16)(hv:v<16):u|||v<16:=(Ea ⟨u,hu⟩ ⟨v,hv⟩).2
def dN (s t:List Nat)(k:Nat):List Nat:=(List.range s.length).map fun i=>if i<k then s.getD i 0|||t.getD i 0 else s.getD i 0
def dG (s t:List Nat):List Nat:=dN s t 24
theorem oL (s t:List Nat)(k:Nat):(dN s t k).length=s.length:=by simp[dN]
theorem Aw (s t:List Nat):dN s t 0=s:=by
 unfold dN;rw[<-oA s];simp only[List.length_map,List.length_range];apply List.map_congr_left
 intro i hi;rw[ja (Nat.not_lt_zero _),oA]
theorem lU (s t:List Nat)(k i:Nat):(dN s t k).getD i 0=if i<s.length then(if i<k then s.getD i 0|||t.getD i 0 else s.getD i 0)else 0:=by
 unfold dN;rw[jA,jJ];by_cases hi:i<s.length
 ·rw[List.getElem?_range hi,jb hi];rfl
 ·rw[jG (by simp;omega),ja hi];rfl
theorem CA (s t:List Nat)(k:Nat):(dN s t k).set k (s.getD k 0|||t.getD k 0)=dN s t (k+1):=by
 apply List.ext_getElem?
 intro i;rw[jd,oL];unfold dN;rw[jJ,jJ];by_cases hi:i<s.length
 ·rw[List.getElem?_range hi];by_cases e:k=i
  ·subst e;rw[jb rfl,jb hi];simp
  ·rw[ja e];simp only[Option.map_some,Option.some.injEq];by_cases h:i<k
   ·rw[jb h,jb (by omega)]
   ·rw[ja h,ja (by omega)]
 ·rw[jG (l:=List.range s.length) (by simp;omega)];split
  ·rw[ja (by omega)];rfl
  ·rfl
theorem xE {s t:List Nat}(hs:dn s)(ht:dn t)(k:Nat):dn (dN s t k):=
 ⟨by rw[oL];exact hs.len,fun i=>by
  rw[lU];split
  ·split
   ·exact MY (hs.lt i) (ht.lt i)
   ·exact hs.lt i
  ·decide⟩
def cZ (E:List (List Nat))(aa:Nat)(s:List Nat):List (List Nat):=if dG (E.getD aa []) s=E.getD aa []then E else E.set aa (dG (E.getD aa []) s)
def eh (E:List (List Nat))(O:Nat->Bool)(aa:Nat)(s:List Nat):Nat->Bool:=if dG (E.getD aa []) s=E.getD aa []then O else bH O aa true
def G0 (w:World)(n:Nat):Prop:=w.heap.size=n
section
variable {z x a ap mb:Nat} {w w':World} {q:QP} {vl vb:Value} {us:List Value} {vss:List (List (Value×Value))} {E:List (List Nat)} {O:Nat->Bool}
set_option maxRecDepth 20000 in
theorem tj (h:fZ z x a ap mb w q vl vb us vss E O)(aa:Nat)(Pv:aa<q.blocks.length)(hn:q.blocks.length<=4000)(s:List Nat)(hs:dn s):
  Calls Tryz.prog 187 #[.pointer (some ⟨x,0,none⟩),.int .i64 (aa:Nat),.agg (ag s).toArray] w fun e w'=>e=.returned (.tuple #[])/\fZ z x a ap mb w' q vl vb us vss (cZ E aa s) (eh E O aa s)/\bI ap mb w w':=by
 have BO:aa<E.length:=by rw[h.len];exact Pv
 have hE:=h.row.ok BO;have aO:Below w.heap.size w (w.alloc (.cells (ag s).toArray 209)):=(Below.refl _ _).alloc (jC _) _;have hA:=h.below aO;have TE:aj (w.alloc (.cells (ag s).toArray 209)) w.heap.size s:=aj.new w hs.len;have gP:(w.alloc (.cells (ag s).toArray 209)).heap.size=w.heap.size+1:=by simp
 have Qg:=h.row.lt;have Wq:(aa:Int)<(q.blocks.length:Nat):=by omega
 have Qm:G0 (w.alloc (.cells (ag s).toArray 209)) (w.heap.size+1):=gP;go_enter Tryz.func187,Tryz.ntmps187
 go_upto_region 1 with fail
 clear gP;generalize (w.alloc (.cells (ag s).toArray 209))=V at*;have gP:V.heap.size=w.heap.size+1:=Qm;have NB:=hA.row.has aa BO;have Li:=hA.row.of aa BO;obtain⟨e0,HE⟩:∃e0,Hid (E.getD aa []=e0):=⟨_,rfl⟩;rw[HE.out]at Li hE;obtain⟨c0,c1,c2⟩:=hA.facts;have hZ:aj (V.alloc (.cells #[.int .u8 0,.int .u8 0,.int .u8 0,.int .u8 0,.int .u8 0,.int .u8 0,.int .u8 0,.int .u8 0,.int .u8 0,.int .u8 0,.int .u8 0,.int .u8 0,.int .u8 0,.int .u8 0,.int .u8 0,.int .u8 0,.int .u8 0,.int .u8 0,.int .u8 0,.int .u8 0,.int .u8 0,.int .u8 0,.int .u8 0,.int .u8 0] 209)) V.heap.size ak:=aj.new V (s:=ak) (by decide);have H3:Below V.heap.size V (V.alloc (.cells #[.int .u8 0,.int .u8 0,.int .u8 0,.int .u8 0,.int .u8 0,.int .u8 0,.int .u8 0,.int .u8 0,.int .u8 0,.int .u8 0,.int .u8 0,.int .u8 0,.int .u8 0,.int .u8 0,.int .u8 0,.int .u8 0,.int .u8 0,.int .u8 0,.int .u8 0,.int .u8 0,.int .u8 0,.int .u8 0,.int .u8 0,.int .u8 0] 209)):=(Below.refl _ _).alloc (jC _) _;have fp:=aj.room hZ;have mP:=fu hE.len;have hJ:=aj.store hZ hE.len;have qj:Below V.heap.size V ((V.alloc (.cells #[.int .u8 0,.int .u8 0,.int .u8 0,.int .u8 0,.int .u8 0,.int .u8 0,.int .u8 0,.int .u8 0,.int .u8 0,.int .u8 0,.int .u8 0,.int .u8 0,.int .u8 0,.int .u8 0,.int .u8 0,.int .u8 0,.int .u8 0,.int .u8 0,.int .u8 0,.int .u8 0,.int .u8 0,.int .u8 0,.int .u8 0,.int .u8 0] 209)).setCells V.heap.size 0 (ag e0)):=aU H3 (jC _) _ _;have hW:=hA.below qj;have OV:=TE.below qj TE.lt;have Cg:=(Below.refl w.heap.size w).trans (aO.trans (qj.mono (by omega)));rw[gP]at fp hJ hW OV Cg;clear H3 hZ qj TE hA;go_upto_region 2 with fail
 generalize ((V.alloc (.cells #[.int .u8 0,.int .u8 0,.int .u8 0,.int .u8 0,.int .u8 0,.int .u8 0,.int .u8 0,.int .u8 0,.int .u8 0,.int .u8 0,.int .u8 0,.int .u8 0,.int .u8 0,.int .u8 0,.int .u8 0,.int .u8 0,.int .u8 0,.int .u8 0,.int .u8 0,.int .u8 0,.int .u8 0,.int .u8 0,.int .u8 0,.int .u8 0] 209)).setCells (w.heap.size+1) 0 (ag e0))=W at*;clear fp NB Li c0 c1 c2 aO Qm gP;have WH:aj W (w.heap.size+1) (dN e0 s 0):=by rw[Aw];exact hJ
 go_wp2
 go_loopg [15] (24) (fun g v15 wr=>∃k:Nat,k<=24/\g+k=24/\v15=.int .i64 k/\aj wr (w.heap.size+1) (dN e0 s k)/\aW (w.heap.size+1) W wr)
 case atStart=>exact⟨0,by omega,rfl,rfl,WH,aW.refl _ _⟩
 case round=>
  obtain⟨k,hk,yp,rfl,Nt,rB⟩:=hrel;have rA:aj wr w.heap.size s:=⟨OV.1,(rB.block _ OV.lt (by omega)).trans OV.2⟩;by_cases aP:k<24
  ·have d1:=Nt.cell k aP;have d2:=rA.cell k aP;have d3:=Nt.frozen k;have EX:(k:Int)<24:=by omega
   have Fa:=Nt.set k (e0.getD k 0|||s.getD k 0);rw[CA]at Fa;have SK:(dN e0 s k).getD k 0=e0.getD k 0:=by rw[lU,jb (by rw[hE.len];exact aP),ja (by omega)]
   rw[SK]at d1;have V8:=RV (hE.lt k) (hs.lt k);clear SK;generalize e0.getD k 0=u1 at*;generalize s.getD k 0=u2 at*;have jk:=rB.setCell k (.int .u8 ((u1|||u2:Nat):Int));have Rz:aj (wr.setCell ⟨w.heap.size+1,k,none⟩ (.int .u8 ((u1|||u2:Nat):Int))).drew (w.heap.size+1) (dN e0 s (k+1)):=Fa;have vH:aW (w.heap.size+1) W (wr.setCell ⟨w.heap.size+1,k,none⟩ (.int .u8 ((u1|||u2:Nat):Int))).drew:=⟨jk.os,jk.tape,jk.output,jk.size,jk.block⟩;clear Fa jk;go_wp2
   go_region
   all_goals
    go_wp2
    go_roundg (24-(k+1))
    case measure=>omega
    case rel=>exact⟨k+1,by omega,by omega,by go_num,Rz,vH⟩
  ·obtain rfl:k=24:=by omega
   have ju:=hW.other rB hJ (by omega);have j1:=aj.has Nt;have j2:=aj.of Nt;have dY:=ju.row;have r1:=dY.has aa BO;have r2:=dY.of aa BO;have r3:=dY.room aa BO;rw[HE.out]at r2;obtain⟨c0,c1,c2⟩:=ju.facts;have Lb:=xE hE hs 24;have he:=fun w'=>Bv (dN e0 s 24) e0 w' Lb.len hE.len Lb.lt hE.lt
   have VU:=fu Lb.len;have S8:Hid (dG (E.getD aa []) s=dN e0 s 24):=by unfold Hid;rw[dG,HE.out]
   have Qa:bI ap mb w wr:=(bI.mH Cg).since rB (by omega);generalize dN e0 s 24=j at*;have j1d:fa wr.drew (w.heap.size+1) 0:=j1;have j2d:kg wr.drew (w.heap.size+1) 0=(ag j).toArray:=j2;have r1d:fa wr.drew ap (aa*24):=r1;have r2d:kg wr.drew ap (aa*24)=(ag e0).toArray:=r2;cases hb:(j==e0)with
   |true=>
    rw[hb]at he;have Ug:Hid (j=e0):=eq_of_beq hb;clear hb;go_wp2
    go_region
    all_goals
     go_wp2
     go_end0
     have Q6:dG (E.getD aa []) s=E.getD aa []:=by rw[S8.out,HE.out];exact Ug.out
     refine⟨rfl,?_,Qa.on (below_drewN (Below.refl _ _) 1)⟩;rw[cZ,eh,jb Q6,jb Q6];exact ju.below (below_drewN (Below.refl _ _) 1)
   |false=>
    rw[hb]at he;have Ug:Hid (¬j=e0):=fun e=>by rw[e]at hb;simp at hb
    clear hb;go_wp2
    go_region
    have Sm:fZ z x a ap mb wr.drew q vl vb us vss E O:=ju.below (below_drewN (Below.refl _ _) 1);have VH:bI ap mb w wr.drew:=Qa.on (below_drewN (Below.refl _ _) 1);have Xv:aj wr.drew (w.heap.size+1) j:=Nt;generalize wr.drew=wd at*;clear ju Qa Nt rB j1 j2 r1 r2 r3 c0 c1 c2 dY rA he;obtain⟨c0,c1,c2⟩:=Sm.facts;have j1:fa wd.drew (w.heap.size+1) 0:=j1d;have j2:kg wd.drew (w.heap.size+1) 0=(ag j).toArray:=j2d;have r3:fE wd.drew ap (aa*24):=Sm.row.room aa BO;have OX:fZ z x a ap mb wd.drew q vl vb us vss E O:=Sm.below (below_drewN (Below.refl _ _) 1);have VI:bI ap mb w wd.drew:=VH.on (below_drewN (Below.refl _ _) 1);have kD:=OX.row.store aa BO Lb;have ME:bQ (wd.drew.setCells ap (aa*24) (ag j)) mb q.blocks.length O:=OX.kp.heap (aX _ _ _ _ _ (fun e=>by
     obtain⟨es,clock,h1⟩:=OX.kp.isMap;obtain⟨-,cs,h2,-⟩:=OX.row;rw[e,h2]at h1;cases h1))
    have TH:bI ap mb wd.drew (wd.drew.setCells ap (aa*24) (ag j)):=.left (oi (aW.refl ap wd.drew) 0 (ag j) (aa*24) wd.drew (aW.refl _ _));have Nz:=OX.iF TH (by simp) kD ME;have XN:=VI.trans TH;clear ME kD j1d j2d r1d r2d OX VI TH;go_wp2
    go_region
    generalize wd.drew.setCells ap (aa*24) (ag j)=wf at*;clear c0 c1 c2 j1 j2 r3 Sm VH Xv;obtain⟨c0,c1,c2⟩:=Nz.facts;go_wp2_with (at_mapUpdate;refine ll _ rfl _ _ _ rfl aa rfl rfl rfl Nz.kp Pv hn ?_;intro wg hog qS)
    go_end0
    have Q6:¬dG (E.getD aa []) s=E.getD aa []:=by rw[S8.out,HE.out];exact Ug.out
    have VJ:bI ap mb wf wg:=.right qS;refine⟨rfl,?_,XN.trans VJ⟩;rw[cZ,eh,ja Q6,ja Q6,S8.out];exact Nz.iF VJ rfl (Nz.row.heap (qS.block ap Nz.row.lt (fun e=>by
     simp only[Option.some.injEq]at e;obtain⟨es,clock,h1⟩:=Nz.kp.isMap;obtain⟨-,cs,h2,-⟩:=Nz.row;rw[<-e,h2]at h1;cases h1))) hog
end
end FlwK
namespace FlwL
open Go Go.RowKit Sq Aux PrjF PrjG PrjJ PrjK PrjL PrjM PrjO FlwB FlwE FlwF FlwI FlwJ FlwK
section
variable (w:World) {ops:Array Oper} {rest:List Oper} {o:Oper} {a:Act} {Q:Exit->Act->World->Prop} {O:Nat->Bool}
theorem qG (hg:o.guard=none)(it:Operand)(aH:o.op=Op.next it false)(b r n:Nat)(D:DataW Unit)(left:Lit->Bool)(pf:Nat)(hit:a.eval it=.pointer (some ⟨r,0,none⟩))
  (h:w.ranges Tryz.prog 3 unitElem b r n D left pf) (hL:∀kl,left kl=true->∃c,kl=eZ c/\O c=true)
  (hDone:(∀kl,left kl=false)->wpList Tryz.prog ops Q rest (a.put o.dst (.tuple #[.bool false])) w)
  (hMore:∀(c:Nat) (w':World) (cnt':Nat),O c=true->w'.ranges Tryz.prog 3 unitElem b r n D (fun z=>left z&& !z.sameKey (eZ c)) cnt'->cnt'<pf->w.grownBy w' (some r)->
   (Instr.entry (.pointer (some ⟨r,0,none⟩))).run Tryz.prog w'=.ok (.tuple #[.int .i64 (c:Nat),.agg #[]]) w'->wpList Tryz.prog ops Q rest (a.put o.dst (.tuple #[.bool true,.int .i64 (c:Nat),.agg #[]])) w'):
  wpList Tryz.prog ops Q (o::rest) a w:=
 wpList_next_ranges w hg it aH 3 Fj unitElem (Value.int .i64) (fun _:Unit=> .agg #[]) (fun key kl EW=>by obtain⟨x,rfl,_⟩:=Maps.keyOf_int_inv Tryz.underlying3 EW;exact⟨x,rfl⟩) (fun v y hv=>⟨(),(unitElem_inv hv).1⟩)
  b r n D left pf hit h (fun _=>hDone) (fun x c kl y w' cnt' EW Ie hv km Ru aP kE gP hen=>by
   obtain⟨x',ex,rfl,YU⟩:=Maps.keyOf_int_inv Tryz.underlying3 EW;cases ex
   obtain⟨c',hc,p6⟩:=hL _ Ie;simp only[eZ,Lit.int.injEq,true_and]at hc;subst hc;exact hMore c' w' cnt' p6 Ru aP kE hen)
end
theorem zo {w w' w0:World}{r:Nat}(hb:Below w.heap.size w w0)(h:w0.grownBy w' (some r))(hr:w.heap.size<=r):Below w.heap.size w w':=
 hb.trans ⟨h.os,h.tape,h.output,h.size,fun k hk=>h.block k (jK hk hb.size) (by simp;omega)⟩
theorem BV {w w':World}(h:w.grownBy w' none):Below w.heap.size w w':=⟨h.os,h.tape,h.output,h.size,fun k hk=>h.block k hk (by simp)⟩
section
variable {z x a ap mb:Nat} {w w':World} {q:QP} {vl vb:Value} {us:List Value} {vss:List (List (Value×Value))} {E:List (List Nat)} {O:Nat->Bool}
structure Dw (O:Nat->Bool)(N b:Nat):Prop where
 le:b<=N
 kp:b<N->O b=true
 none:∀c,c<b->O c=false
set_option maxRecDepth 20000 in
theorem oh (h:fZ z x a ap mb w q vl vb us vss E O)(hn:q.blocks.length<=4000):
  Calls Tryz.prog 146 #[.pointer (some ⟨x,0,none⟩)] w fun e w'=>∃b,e=.returned (.int .i64 (b:Nat))/\Dw O q.blocks.length b/\fZ z x a ap mb w' q vl vb us vss E (bH O b false)/\bI ap mb w w':=by
 obtain⟨c0,c1,c2⟩:=h.facts;obtain⟨D,hD,hO,hh,hs⟩:=h.kp;go_enter Tryz.func146,Tryz.ntmps146
 go_wp2_with (at_range;refine wpList_range_own _ rfl _ _ rfl 3 _ Fj Tryz.underlying163 unitElem mb q.blocks.length D rfl hD ?_;intro w0 hrg0 SK GO)
 go_frame
 clear GO;have mV:=BV SK;go_loopw [3] (fun v3 wr=>∃(left:Lit->Bool) (pf l:Nat),wr.ranges Tryz.prog 3 unitElem mb w.heap.size q.blocks.length D left pf/\v3=.int .i64 (l:Nat)/\l<=q.blocks.length/\(l<q.blocks.length->O l=true)/\(∀kl,left kl=true->∃c,kl=eZ c/\O c=true)/\(∀c,O c=true->left (eZ c)=true\/l<=c)/\Below w.heap.size w wr) (fun _ wr=>wr.rangeLeft mb w.heap.size)
 case atStart=>exact⟨_,_,q.blocks.length,hrg0,rfl,jC _,fun h=>absurd h (Nat.lt_irrefl _),fun kl=>(hh kl).1,fun c hc=> .inl ((hh _).2 ⟨c,rfl,hc⟩),mV⟩
 case round=>
  obtain⟨left,pf,l,Ru,rfl,vr,JX,hL,Ic,pw⟩:=hrel;go_wp2_with (at_next;refine qG (O:=O) _ rfl _ rfl mb w.heap.size q.blocks.length D left pf rfl Ru hL ?_ ?_)
  ·intro mW;have ju:=h.below pw;obtain⟨d0,d1,d2⟩:=ju.facts;have hle:l<=100000:=by omega
   go_wp2_with (at_delete;refine rR _ rfl _ _ rfl l rfl rfl ju.kp hle ?_;intro w2 Rk JT)
   go_ret
   have jk:bI ap mb wr w2:=.right JT;refine⟨l,rfl,⟨vr,JX,fun c hc=> ?_⟩,?_,(bI.mH pw).trans jk⟩
   ·cases hOc:O c with
    |false=>rfl
    |true=>
     rcases Ic c hOc with h1|h1
     ·rw[mW]at h1;cases h1
     ·omega
   ·exact ju.iF jk rfl (ju.row.heap (JT.block ap ju.row.lt (fun e=>by
     simp only[Option.some.injEq]at e;obtain⟨es,clock,h1⟩:=ju.kp.isMap;obtain⟨-,cs,h2,-⟩:=ju.row;rw[<-e,h2]at h1;cases h1))) Rk
  ·intro c w1 cnt1 hOc hrg1 aP NR hen;have aB:=zo pw NR (jC _);have ym:=hO c hOc;have MB:∀c',O c'=true->c'≠c->left (eZ c')=true->(left (eZ c')&& !(eZ c').sameKey (eZ c))=true:=fun c' _ c8 GN=>by
    rw[GN,Maps.sameKey_ne (fun e=>c8 (pA e))];rfl
   by_cases DS:c<l
   ·have Qq:(c:Int)<(l:Int):=by omega
    go_wp2
    go_roundw
    case measure=>rw[hrg1.left_eq,Ru.left_eq];exact aP
    case rel=>
     refine⟨_,cnt1,c,hrg1,congrArg (Value.int .i64) (by omega),by omega,fun _=>hOc,fun kl Cm=>hL kl (by simp at Cm;exact Cm.1),fun c' p6=> ?_,aB⟩;by_cases e:c'=c
     ·right;omega
     ·rcases Ic c' p6 with h1|h1
      ·left;exact MB c' p6 e h1
      ·right;omega
   ·have Qq:¬(c:Int)<(l:Int):=by omega
    go_wp2
    go_roundw
    case measure=>rw[hrg1.left_eq,Ru.left_eq];exact aP
    case rel=>
     refine⟨_,cnt1,l,hrg1,congrArg (Value.int .i64) (by omega),vr,JX,fun kl Cm=>hL kl (by simp at Cm;exact Cm.1),fun c' p6=> ?_,aB⟩;by_cases e:c'=c
     ·right;omega
     ·rcases Ic c' p6 with h1|h1
      ·left;exact MB c' p6 e h1
      ·right;omega
end
end FlwL
end Go.Proofs.YtmlgajhhnojdjaaGreatDoor

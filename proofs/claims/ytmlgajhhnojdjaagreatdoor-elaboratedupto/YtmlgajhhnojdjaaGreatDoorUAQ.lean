import Derived.Test.YtmlgajhhnojdjaaGreatDoorUAP
import Derived.Deep.DeepCutAuto
set_option maxHeartbeats 8000000
namespace Go.Proofs.YtmlgajhhnojdjaaGreatDoor
namespace FlwN
open Go Go.RowKit Sq Aux PrjF PrjG PrjJ PrjK PrjL PrjM PrjO PrjP PrjQ PrjS PrjU FlwA FlwB FlwC FlwD FlwE FlwF FlwG FlwH FlwI FlwJ FlwK FlwL FlwM
attribute [local go_sem ↓] dd cO
section
variable {z x a ap mb:Nat} {w w':World} {q:QP} {vl vb:Value} {us:List Value} {vss:List (List (Value×Value))} {E:List (List Nat)} {O:Nat->Bool}
theorem jk.line (h:jk z x a ap mb w q vl vb us vss E O){b i:Nat}(hb:b<q.blocks.length)(hi:i<(q.blocks.getD b []).length){v1 v2:Value}(hv:(vss.getD b []).getD i (undef,undef)=(v1,v2)):aC z w ((q.blocks.getD b []).getD i ab.nil) v1 v2:=by
 have:=(h.prog.each b hb).each i hi;rw[hv]at this;exact this
set_option maxRecDepth 20000 in
theorem AU (h:jk z x a ap mb w q vl vb us vss E O)(b:Nat)(hb:b<q.blocks.length)(hn:q.blocks.length<=4000)(bU:q.locals.length<=12)(hq:AE q.blocks.length q)(dp:∀j,(q.blocks.getD j []).length<=4000):
  Calls Tryz.prog 189 #[.pointer (some ⟨x,0,none⟩),.int .i64 (b:Nat)] w fun e w'=>e=.returned (.tuple #[])/\jk z x a ap mb w' q vl vb us vss (eW q E O b).2.1 (eW q E O b).2.2/\cK ap mb w w':=by
 have G9:b<E.length:=by rw[h.len];exact hb
 have hE:=h.row.ok G9;have WC:=h.row.lt;have hti:(b:Int)<(q.blocks.length:Nat):=by omega
 obtain⟨c0,c1,c2⟩:=h.facts;have has:=h.row.has b G9;have RS:=h.row.of b G9;have HG:Hid (eW q E O b=fD q ((q.blocks.getD b []).drop 0) (E.getD b [],E,O)):=rfl;have hZ:av (w.alloc (.cells #[.int .u8 0,.int .u8 0,.int .u8 0,.int .u8 0,.int .u8 0,.int .u8 0,.int .u8 0,.int .u8 0,.int .u8 0,.int .u8 0,.int .u8 0,.int .u8 0,.int .u8 0,.int .u8 0,.int .u8 0,.int .u8 0,.int .u8 0,.int .u8 0,.int .u8 0,.int .u8 0,.int .u8 0,.int .u8 0,.int .u8 0,.int .u8 0] 209)) w.heap.size au:=av.new w (s:=au) (by decide);have OK:Below w.heap.size w (w.alloc (.cells #[.int .u8 0,.int .u8 0,.int .u8 0,.int .u8 0,.int .u8 0,.int .u8 0,.int .u8 0,.int .u8 0,.int .u8 0,.int .u8 0,.int .u8 0,.int .u8 0,.int .u8 0,.int .u8 0,.int .u8 0,.int .u8 0,.int .u8 0,.int .u8 0,.int .u8 0,.int .u8 0,.int .u8 0,.int .u8 0,.int .u8 0,.int .u8 0] 209)):=(Below.refl _ _).alloc (jC _) _;have gy:=av.room hZ;have qL:=iu hE.len;have hJ:=av.store hZ hE.len;have rA:Below w.heap.size w ((w.alloc (.cells #[.int .u8 0,.int .u8 0,.int .u8 0,.int .u8 0,.int .u8 0,.int .u8 0,.int .u8 0,.int .u8 0,.int .u8 0,.int .u8 0,.int .u8 0,.int .u8 0,.int .u8 0,.int .u8 0,.int .u8 0,.int .u8 0,.int .u8 0,.int .u8 0,.int .u8 0,.int .u8 0,.int .u8 0,.int .u8 0,.int .u8 0,.int .u8 0] 209)).setCells w.heap.size 0 (aj (E.getD b []))):=bp OK (jC _) _ _;have hW:=h.below rA;generalize E.getD b []=e0 at*;clear OK hZ;go_enter Tryz.func189,Tryz.ntmps189
 go_upto_region 1 with fail
 generalize ((w.alloc (.cells #[.int .u8 0,.int .u8 0,.int .u8 0,.int .u8 0,.int .u8 0,.int .u8 0,.int .u8 0,.int .u8 0,.int .u8 0,.int .u8 0,.int .u8 0,.int .u8 0,.int .u8 0,.int .u8 0,.int .u8 0,.int .u8 0,.int .u8 0,.int .u8 0,.int .u8 0,.int .u8 0,.int .u8 0,.int .u8 0,.int .u8 0,.int .u8 0] 209)).setCells w.heap.size 0 (aj e0))=W at*;clear gy has RS c0 c1 c2;obtain⟨c0,c1,c2⟩:=hW.facts;obtain⟨p0,p1,-,-⟩:=gS.facts hW.prog;obtain⟨gb,cb,adk,ck,rfl,B8,B9,aX,Kd⟩:=fZ hW.prog b hb;have pK:=dp b;have qU:∀l∈q.blocks.getD b [],fY q.locals.length q.blocks.length l:=hq.lines _ (by simp[hb]);have Ik:cK ap mb w W:=.qy rA;have LP:w.heap.size≠ap:=by omega
 have AX:Hid (∀wn E' O',jk z x a ap mb wn q vl (.slice (some ⟨gb,0,none⟩) q.blocks.length cb) us vss E' O'->dD z wn (.slice adk (q.blocks.getD b []).length ck) (q.blocks.getD b []) (vss.getD b [])):=fun wn E' O' hwn=>by
  have h1:=hwn.prog.each b hb;rw[Kd]at h1;exact h1
 have HL:Hid (∀wn E' O',jk z x a ap mb wn q vl (.slice (some ⟨gb,0,none⟩) q.blocks.length cb) us vss E' O'->∀i,i<(q.blocks.getD b []).length->∀v1 v2,(vss.getD b []).getD i (undef,undef)=(v1,v2)->aC z wn ((q.blocks.getD b []).getD i ab.nil) v1 v2):=fun wn E' O' hwn i hi v1 v2 hv=>jk.line hwn hb hi hv
 have HS:Hid (∀i,i<(q.blocks.getD b []).length->∀t:St,fD q ((q.blocks.getD b []).drop i) t=fD q ((q.blocks.getD b []).drop (i+1)) (gC ((q.blocks.getD b []).getD i ab.nil) ((q.blocks.getD b []).getD i ab.nil).next 0 (aq q ((q.blocks.getD b []).getD i ab.nil) t.1,t.2))):=fun i hi t=>C6 q _ i hi t
 generalize q.blocks.getD b []=aM at*;generalize vss.getD b []=vsj at*;have hmbl:=h.mZ.lt;have hmbW:=hW.mZ.lt;go_wp2
 go_loopg [27] (aM.length) (fun g v27 wr=>∃(i:Nat) (s':List Nat) (E':List (List Nat)) (O':Nat->Bool),i<=aM.length/\g+i=aM.length/\v27=.int .i64 i/\jk z x a ap mb wr q vl (.slice (some ⟨gb,0,none⟩) q.blocks.length cb) us vss E' O'/\av wr w.heap.size s'/\ey s'/\cK ap mb w wr/\Hid (eW q E O b=fD q (aM.drop i) (s',E',O')))
 case atStart=>exact⟨0,e0,E,O,jQ _,rfl,rfl,hW,hJ,hE,Ik,HG⟩
 case round=>
  obtain⟨i,s',E',O',hi,hgi,rfl,mh,xR,Bb,xS,HR⟩:=hrel;clear hJ HG hW rA Ik c0 c1 c2 p0 p1 aX qL hE;by_cases hli:i<aM.length
  ·obtain⟨gl,apl,cp,an,cn,rfl,-,AH,sf,k0,k1,k2,k3,k4,k5,UM⟩:=oi (AX.out wr E' O' mh) i hli;have hS:Hid (_=_):=HS.out i hli (s',E',O');have Vb:Hid (∀wn E' O',jk z x a ap mb wn q vl (.slice (some ⟨gb,0,none⟩) q.blocks.length cb) us vss E' O'->aC z wn (aM.getD i ab.nil) (.slice apl (aM.getD i ab.nil).places.length cp) (.slice an (aM.getD i ab.nil).next.length cn)):=fun wn E' O' hwn=>HL.out wn E' O' hwn i hli _ _ UM
   have hl:=qU (aM.getD i ab.nil) (by simp[hli]);clear UM;generalize aM.getD i ab.nil=l at*;have lW:Below wr.heap.size wr (wr.alloc (.cells #[.int .i64 (l.num:Nat),.int .i64 (l.op:Nat),.slice apl l.places.length cp,.int .i64 l.number,.int .i64 l.flag,.slice an l.next.length cn] 115)):=(Below.refl _ _).alloc (jC _) _;have Ub:=mh.below lW;have G0:=xR.below lW xR.lt;have hTL:=xS.on lW;have eD:(wr.alloc (.cells #[.int .i64 (l.num:Nat),.int .i64 (l.op:Nat),.slice apl l.places.length cp,.int .i64 l.number,.int .i64 l.flag,.slice an l.next.length cn] 115)).heap[wr.heap.size]?=some (.cells #[.int .i64 (l.num:Nat),.int .i64 (l.op:Nat),.slice apl l.places.length cp,.int .i64 l.number,.int .i64 l.flag,.slice an l.next.length cn] 115 (0,0)):=jD;have hsr:=xS.size;go_upto_region 4 with fail
   generalize (wr.alloc (.cells #[.int .i64 (l.num:Nat),.int .i64 (l.op:Nat),.slice apl l.places.length cp,.int .i64 l.number,.int .i64 l.flag,.slice an l.next.length cn] 115))=WL at*;clear k0 k1 k2 k3 k4 k5 lW;have lX:Below WL.heap.size WL WL.drew:=below_drewN (Below.refl _ _) 1;have zb:=Ub.below lX;have EZ:av WL.drew w.heap.size s':=G0;have ze:WL.drew.heap[wr.heap.size]?=some (.cells #[.int .i64 (l.num:Nat),.int .i64 (l.op:Nat),.slice apl l.places.length cp,.int .i64 l.number,.int .i64 l.flag,.slice an l.next.length cn] 115 (0,0)):=eD;have Wy:=hTL.on lX;obtain⟨c0,c1,c2⟩:=Ub.facts;have l0:=(cell_of_heap eD 0).trans (by rfl:_=some (Value.int .i64 (l.num:Nat)));have l1:=(cell_of_heap eD 1).trans (by rfl:_=some (Value.int .i64 (l.op:Nat)));have l2:=(cell_of_heap eD 2).trans (by rfl:_=some (Value.slice apl l.places.length cp));have l3:=(cell_of_heap eD 3).trans (by rfl:_=some (Value.int .i64 l.number));have l4:=(cell_of_heap eD 4).trans (by rfl:_=some (Value.int .i64 l.flag));have l5:=(cell_of_heap eD 5).trans (by rfl:_=some (Value.slice an l.next.length cn));have KP:=pZ q l q.blocks.length z a w.heap.size vl _ apl an cp cn s' WL.drew ⟨zb.prog.aM,⟨_,zb.prog.locals⟩⟩ bU hl (Vb.out _ _ _ zb) EZ Bb.lt;go_cut [6] (fun v6 wc=>v6=.pointer (some ⟨wr.heap.size,0,none⟩)/\av wc w.heap.size (aq q l s')/\bD w.heap.size WL.drew wc)
   case first=>
    go_region_with (go_at_call 128;refine KP.mono ?_;rintro e w1 ⟨rfl,ju,lU⟩)
    all_goals go_wp2_with fail
    all_goals
     go_meet
     case rel=>exact⟨rfl,ju,lU⟩
   case rest=>
    obtain⟨rfl,ju,lU⟩:=hcut;have oU:=zb.other lU EZ LP;have RO:=lt_of_heap ze;have Y6:w.heap.size<wr.heap.size:=xR.lt;have cu:wc.heap[wr.heap.size]?=some (.cells #[.int .i64 (l.num:Nat),.int .i64 (l.op:Nat),.slice apl l.places.length cp,.int .i64 l.number,.int .i64 l.flag,.slice an l.next.length cn] 115 (0,0)):=(lU.block _ RO (by omega)).trans ze;have Ww:cK ap mb w wc:=Wy.since lU (jC _);have RZ:=fU q l Bb;have JL:Hid (eW q E O b=fD q (aM.drop (i+1)) (gC l l.next 0 (aq q l s',E',O'))):=HR.out.trans hS.out;have l5:=(cell_of_heap cu 5).trans (by rfl:_=some (Value.slice an l.next.length cn));have iP:l.next.length<=3:=by
     rw[hl.pa];have key:∀op:Fin 23,((ah op.val).filter (·==98)).length<=3:=by decide
     exact key ⟨l.op,hl.op⟩
    clear KP hS HR Ub G0 hTL eD lX zb EZ ze Wy c0 c1 c2 l0 l1 l2 l3 l4 lU RO Bb xR xS mh hsr;generalize aq q l s'=s1 at*;have HN0:Hid (gC l l.next 0 (s1,E',O')=gC l (l.next.drop 0) 0 (s1,E',O')):=rfl;clear l5;have l5:=(cell_of_heap cu 5).trans (by rfl:_=some (Value.slice an l.next.length cn));clear sf AH;generalize wr.heap.size=lb at*;go_wp2
    go_loopg [40] (l.next.length) (fun g v40 wn=>∃(j:Nat) (s2:List Nat) (E2:List (List Nat)) (O2:Nat->Bool),j<=l.next.length/\g+j=l.next.length/\v40=.int .i64 j/\jk z x a ap mb wn q vl (.slice (some ⟨gb,0,none⟩) q.blocks.length cb) us vss E2 O2/\av wn w.heap.size s2/\ey s2/\wn.heap[lb]?=some (.cells #[.int .i64 (l.num:Nat),.int .i64 (l.op:Nat),.slice apl l.places.length cp,.int .i64 l.number,.int .i64 l.flag,.slice an l.next.length cn] 115 (0,0))/\cK ap mb w wn/\Hid (gC l l.next 0 (s1,E',O')=gC l (l.next.drop j) j (s2,E2,O2)))
    case atStart=>exact⟨0,s1,E',O',jQ _,rfl,rfl,oU,ju,RZ,cu,Ww,HN0⟩
    case round=>
     obtain⟨j,s2,E2,O2,hj,hgj,rfl,QN,Tb,Yb,OX,Vs,HN⟩:=hrel;clear oU ju RZ cu Ww HN0 l5;by_cases hlj:j<l.next.length
     ·obtain⟨gn,rfl,Vy,Xx,hcx⟩:=Sr (Vb.out _ _ _ QN) j hlj;have lg:l.next.getD j 0<q.blocks.length:=hl.next _ (by rw[jA,jB hlj];exact jL hlj);have hji:(j:Int)<(l.next.length:Nat):=by omega
      have UI:=fV l j Yb;have YB:Hid (_=_):=HN.out.trans (EW l l.next j hlj (s2,E2,O2));generalize l.next.getD j 0=nx at*;have m1:=(cell_of_heap OX 1).trans (by rfl:_=some (Value.int .i64 (l.op:Nat)));have m2:=(cell_of_heap OX 2).trans (by rfl:_=some (Value.slice apl l.places.length cp));have XH:=lt_of_heap OX;by_cases OC:l.op=20
      ·have rl:(((l.op:Nat):Int)==20)=true:=by rw[OC];rfl
       have hlen:l.places.length=1:=by rw[hl.bt,OC];rfl
       obtain⟨gp,rfl,gP,G4,d1,d2⟩:=ax (Vb.out _ _ _ QN) hlen 0 (by omega);have hx:=(hl.places _ (c7 (j:=0) (by omega))).1;have fy:Hid (dm l j s2=gu (if j=0 then 4 else 2) [l.places.getD 0 (0,0)] s2):=by unfold Hid;rw[dm,jb OC]
       rw[fy.out]at YB UI;have e1:wr.cell? ⟨gp,0,none⟩=some (.int .i64 ((l.places.getD 0 (0,0)).1:Nat)):=d1;have e2:wr.cell? ⟨gp,1,none⟩=some (.int .i64 ((l.places.getD 0 (0,0)).2:Nat)):=d2;have hid:(0:Int)<(l.places.length:Nat):=by omega
       clear d1 d2;generalize l.places.getD 0 (0,0)=y at*;have hmay:(if j=0 then 4 else 2:Nat)<16:=by split<;>decide
       have KM:=xk j wr.drew;have KMP:=xk j (wr.alloc (.cells #[.int .i64 (y.1:Nat),.int .i64 (y.2:Nat)] 119)).drew;generalize (if j=0 then 4 else 2:Nat)=may at*;have QO:Below wr.heap.size wr (wr.alloc (.cells #[.int .i64 (y.1:Nat),.int .i64 (y.2:Nat)] 119)):=(Below.refl _ _).alloc (jC _) _;have OJ:Below wr.heap.size wr (wr.alloc (.cells #[.int .i64 (y.1:Nat),.int .i64 (y.2:Nat)] 119)).drew:=below_drewN QO 1;have ZT:av (wr.alloc (.cells #[.int .i64 (y.1:Nat),.int .i64 (y.2:Nat)] 119)).drew w.heap.size s2:=Tb.below OJ Tb.lt;have WB:=QN.below OJ;have hTP:=Vs.on OJ;have XF:=(OJ.block lb XH).trans OX;have ee:aI wr.heap.size (wr.alloc (.cells #[.int .i64 (y.1:Nat),.int .i64 (y.2:Nat)] 119)).drew (.slice (some ⟨wr.heap.size,0,none⟩) 1 1) [y]:=gQ wr y (n:=wr.heap.size) rfl;have KP:=iz may w.heap.size _ 1 1 _ [y] s2 _ ZT ee (fun v hv=>by simp only[List.mem_singleton]at hv;subst hv;omega) hmay;have lj:(wr.alloc (.cells #[.int .i64 (y.1:Nat),.int .i64 (y.2:Nat)] 119)).heap.size=wr.heap.size+1:=by simp
       rw[hlen]at*;go_upto_region 9 with fail
       go_cut [7,8] (fun v7 v8 wc=>v7=.int .i64 (j:Nat)/\v8=.int .i64 (nx:Nat)/\av wc w.heap.size (gu may [y] s2)/\∃wp,jk z x a ap mb wp q vl (.slice (some ⟨gb,0,none⟩) q.blocks.length cb) us vss E2 O2/\av wp w.heap.size s2/\wp.heap[lb]?=some (.cells #[.int .i64 (l.num:Nat),.int .i64 (l.op:Nat),.slice (some ⟨gp,0,none⟩) 1 cp,.int .i64 l.number,.int .i64 l.flag,.slice (some ⟨gn,0,none⟩) l.next.length cn] 115 (0,0))/\cK ap mb w wp/\bD w.heap.size wp wc)
       case first=>
        go_region_with (first
         |(go_at_call 177;refine KP.mono ?_;rintro e w2 ⟨rfl,qK,lV⟩)
         |(go_at_call 218;refine KM.mono ?_;rintro e w2 ⟨rfl,rfl⟩)
         |(go_at_call 218;refine KMP.mono ?_;rintro e w2 ⟨rfl,rfl⟩))
        all_goals go_wp2_with fail
        all_goals
         go_meet
         case rel=>exact⟨rfl,rfl,qK,_,WB,ZT,XF,hTP,lV⟩
       case rest=>
        obtain⟨rfl,rfl,qK,wp,hWp,hSp,XG,hTp,lV⟩:=hcut;clear KM KMP KP WB ZT XF hTP QO OJ ee e1 e2 m1 m2 lj;have tB:=hWp.other lV hSp LP;have L1:=(lV.block lb (lt_of_heap XG) (by omega)).trans XG;have ZU:cK ap mb w wc:=hTp.since lV (jC _);have j1:=av.has qK;have j2:=av.of qK;have KL:=zy tB nx lg hn _ UI;generalize gu may [y] s2=s3 at*;go_wp2_with (go_at_call 187;refine KL.mono ?_;rintro e w3 ⟨rfl,Wz,A0⟩)
        go_roundg (l.next.length-(j+1))
        case measure=>omega
        case rel=>
         refine⟨j+1,s3,_,_,by omega,by omega,by go_num,Wz,⟨qK.1,(A0.block _ qK.lt LP (by omega)).trans qK.2⟩,UI,(A0.block _ (lt_of_heap L1) (by omega) (by omega)).trans L1,ZU.trans A0,YB⟩
      ·have rl:(((l.op:Nat):Int)==20)=false:=by rw[jZ];omega
       have fy:Hid (dm l j s2=s2):=by unfold Hid;rw[dm,ja OC]
       rw[fy.out]at YB;have j1:=av.has Tb;have j2:=av.of Tb;have KL:=zy QN nx lg hn s2 Yb;go_wp2_with (go_at_call 187;refine KL.mono ?_;rintro e w3 ⟨rfl,Wz,A0⟩)
       go_roundg (l.next.length-(j+1))
       case measure=>omega
       case rel=>
        refine⟨j+1,s2,_,_,by omega,by omega,by go_num,Wz,⟨Tb.1,(A0.block _ Tb.lt LP (by omega)).trans Tb.2⟩,Yb,(A0.block _ XH (by omega) (by omega)).trans OX,Vs.trans A0,YB⟩
     ·go_wp2
      go_roundg (aM.length-(i+1))
      case measure=>omega
      case rel=>
       refine⟨i+1,s2,E2,O2,by omega,by omega,by go_num,QN,Tb,Yb,Vs,?_⟩;have oz:l.next.drop j=[]:=jT (by omega);unfold Hid;rw[JL.out,HN.out,oz];rfl
  ·go_wp2
   go_end0
   refine⟨rfl,?_,xS⟩;rw[HR.out,jT (by omega)];exact mh
end
end FlwN
namespace FlwO
open Go Go.RowKit Sq Aux PrjF PrjG PrjJ PrjK PrjL PrjM PrjO PrjP PrjQ PrjS PrjU FlwA FlwB FlwC FlwD FlwE FlwF FlwG FlwH FlwI FlwJ FlwK FlwL FlwM FlwN
def qZ (s:List Nat):Nat->Nat
 |0=>0
 |k+1=>qZ s k+(15-s.getD k 0)
def Ci:List (List Nat)->Nat
 |[]=>0
 |s::E=>qZ s 24+Ci E
theorem TG (a b:Nat):a<=a|||b:=Nat.left_le_or
theorem iT {s t:List Nat}(hs:s.length=24)(k:Nat):(fk s t).getD k 0=if k<24 then s.getD k 0|||t.getD k 0 else 0:=by
 unfold fk;rw[pO,hs];by_cases h:k<24
 ·rw[jb h,jb h,jb h]
 ·rw[ja h,ja h]
theorem Ck {s t:List Nat}(hs:ey s)(ht:ey t):∀n,n<=24->qZ (fk s t) n<=qZ s n
 |0,_=>jC _
 |n+1,h=>by
  have:=Ck hs ht n (by omega);unfold qZ;rw[iT hs.len,jb (by omega)];have:=TG (s.getD n 0) (t.getD n 0);omega
theorem Cl {s t:List Nat}(hs:ey s)(ht:ey t):∀n,n<=24->(∃k,k<n/\(fk s t).getD k 0≠s.getD k 0)->qZ (fk s t) n<qZ s n
 |0,_,⟨k,hk,_⟩=>by omega
 |n+1,h,⟨k,hk,dB⟩=>by
  have h1:=Ck hs ht n (by omega);unfold qZ;have h2:=TG (s.getD n 0) (t.getD n 0);have h3:=TH (hs.lt n) (ht.lt n);by_cases e:k=n
  ·subst e;rw[iT hs.len,jb (by omega)]at dB⊢;omega
  ·have:=Cl hs ht n (by omega) ⟨k,by omega,dB⟩;rw[iT hs.len,jb (by omega)];omega
theorem JZ {s t:List Nat}(hs:s.length=24)(ht:t.length=24)(h:∀k,k<24->s.getD k 0=t.getD k 0):s=t:=by
 apply List.ext_getElem?
 intro k;by_cases hk:k<24
 ·have:=h k hk;rw[jA,jA,jB (by omega),jB (by omega)]at this;rw[jB (by omega),jB (by omega)];simpa using this
 ·rw[jG (by omega),jG (by omega)]
theorem Mh {s t:List Nat}(hs:s.length=24):(fk s t).length=24:=by unfold fk;rw[rJ];exact hs
theorem yk {s t:List Nat}(hs:ey s)(h:¬fk s t=s):∃k,k<24/\(fk s t).getD k 0≠s.getD k 0:=by
 refine Classical.byContradiction fun hc=>h (JZ (Mh hs.len) hs.len fun k hk=> ?_)
 exact Classical.byContradiction fun hn=>hc ⟨k,hk,hn⟩
theorem Cj:∀(E:List (List Nat)) (i:Nat) (t:List Nat),i<E.length->Ci (E.set i t)+qZ (E.getD i []) 24=Ci E+qZ t 24
 |[],_,_,h=>by simp at h
 |s::E,0,t,_=>by simp[Ci];omega
 |s::E,i+1,t,h=>by
  have:=Cj E i t (by simpa using h);simp only[List.set_cons_succ,Ci,List.getD_cons_succ];omega
def AP (E:List (List Nat)):Prop:=∀s∈E,ey s
theorem AP.at {E:List (List Nat)}(h:AP E){i:Nat}(hi:i<E.length):ey (E.getD i []):=h _ (J1 hi)
theorem Fs {s t:List Nat}(hs:ey s)(ht:ey t):ey (fk s t):=Cf hs ht 24
theorem vg (E:List (List Nat))(n:Nat)(s:List Nat):(dR E n s).length=E.length:=by unfold dR;split<;>simp
theorem zx {E:List (List Nat)}(hE:AP E){n:Nat}(hn:n<E.length){s:List Nat}(hs:ey s):AP (dR E n s):=by
 unfold dR;split
 ·exact hE
 ·intro t ht;rcases List.mem_or_eq_of_mem_set ht with h|h
  ·exact hE t h
  ·rw[h];exact Fs (hE.at hn) hs
def xZ (E:List (List Nat))(O:Nat->Bool)(N:Nat):Nat:=2*Ci E+gI O N
theorem Mp {E:List (List Nat)}{O:Nat->Bool}{N n:Nat}(hE:AP E)(hN:E.length=N)(hn:n<N){s:List Nat}(hs:ey s):xZ (dR E n s) (fR E O n s) N<=xZ E O N:=by
 unfold dR fR xZ;split
 ·exact jC _
 ·rename_i hj;have h0:=hE.at (i:=n) (by omega);have h1:=Cj E n (fk (E.getD n []) s) (by omega);have h2:=Cl h0 hs 24 (jC _) (yk h0 hj);have h3:gI (cI O n true) N<=gI O N+1:=by
   cases hO:O n with
   |true=>rw[vz hO];omega
   |false=>rw[sq hO N hn];omega
  omega
structure Q9 (N:Nat)(t:St):Prop where
 s:ey t.1
 e:AP t.2.1
 len:t.2.1.length=N
theorem B4 {N:Nat}(l:ab):∀(ns:List Nat) (i:Nat) (t:St),(∀n∈ns,n<N)->Q9 N t->Q9 N (gC l ns i t)/\xZ (gC l ns i t).2.1 (gC l ns i t).2.2 N<=xZ t.2.1 t.2.2 N
 |[],_,t,_,h=>⟨h,jC _⟩
 |n::ns,i,t,hn,h=>by
  have hs:=fV l i h.s;have L6:=hn n (jM ..);have:=B4 l ns (i+1) (dm l i t.1,dR t.2.1 n (dm l i t.1),fR t.2.1 t.2.2 n (dm l i t.1)) (fun m hm=>hn m (jN _ hm))
   ⟨hs,zx h.e (by rw[h.len];exact L6) hs,by rw[<-h.len];exact vg _ _ _⟩
  exact⟨this.1,jS this.2 (Mp h.e h.len L6 hs)⟩
theorem y7 {N:Nat}(q:QP):∀(ls:List ab) (t:St),(∀l∈ls,∀n∈l.next,n<N)->Q9 N t->Q9 N (fD q ls t)/\xZ (fD q ls t).2.1 (fD q ls t).2.2 N<=xZ t.2.1 t.2.2 N
 |[],t,_,h=>⟨h,jC _⟩
 |l::ls,t,hn,h=>by
  have h1:=B4 l l.next 0 (aq q l t.1,t.2) (hn l (jM ..)) ⟨fU q l h.s,h.e,h.len⟩;have h2:=y7 q ls _ (fun m hm=>hn m (jN _ hm)) h1.1;exact⟨h2.1,jS h2.2 h1.2⟩
theorem oM:ey aT:=⟨by decide,fun k=>by
 unfold aT;rw[jA,jO];split<;>simp⟩
section
variable {z x a ap mb:Nat} {w w':World} {q:QP} {vl vb:Value} {us:List Value} {vss:List (List (Value×Value))} {E:List (List Nat)} {O:Nat->Bool}
theorem Ej (hq:AE q.blocks.length q){b:Nat}(hb:b<q.blocks.length):∀l∈q.blocks.getD b [],∀n∈l.next,n<q.blocks.length:=fun l hl=>
 (hq.lines (q.blocks.getD b []) (by simp[hb]) l hl).next
set_option maxRecDepth 20000 in
theorem H4 (h:jk z x a ap mb w q vl vb us vss E O)(h0:0<q.blocks.length)(hn:q.blocks.length<=4000)(bU:q.locals.length<=12)(hq:AE q.blocks.length q)(dp:∀j,(q.blocks.getD j []).length<=4000)
  (I:List (List Nat)->(Nat->Bool)->Prop) (C9:I (dR E 0 aT) (fR E O 0 aT))
  (hI:∀E O b,AP E->E.length=q.blocks.length->b<q.blocks.length->O b=true->I E O->I (eW q E (cI O b false) b).2.1 (eW q E (cI O b false) b).2.2):
  Calls Tryz.prog 144 #[.pointer (some ⟨x,0,none⟩)] w fun e w'=>e=.returned (.tuple #[])/\∃E' O',jk z x a ap mb w' q vl vb us vss E' O'/\I E' O'/\(∀b,O' b=false)/\cK ap mb w w':=by
 have KS:=Nl w;have D6:=h.lt;have KL:=fun w1 (hb:Below w.heap.size w w1)=>zy (h.below hb) 0 h0 hn aT oM
 have HI0:Hid (I (dR E 0 aT) (fR E O 0 aT)):=C9;have HI:Hid (∀E O b,AP E->E.length=q.blocks.length->b<q.blocks.length->O b=true->I E O->I (eW q E (cI O b false) b).2.1 (eW q E (cI O b false) b).2.2):=hI;clear C9 hI;go_enter Tryz.func144,Tryz.ntmps144
 go_wp2_with (first
  |(go_at_call 188;refine KS.mono ?_;rintro e w1 ⟨rfl,aG⟩)
  |(go_at_call 187;refine(KL w1 aG).mono ?_;rintro e w2 ⟨rfl,tB,lV⟩))
 go_loopg [5] (xZ (dR E 0 aT) (fR E O 0 aT) q.blocks.length) (fun g _ wr=>∃(E':List (List Nat)) (O':Nat->Bool),g=xZ E' O' q.blocks.length/\jk z x a ap mb wr q vl vb us vss E' O'/\Hid (I E' O')/\cK ap mb w wr)
 case atStart=>exact⟨_,_,rfl,tB,HI0,(cK.qy aG).trans lV⟩
 case round=>
  obtain⟨E',O',hgm,mh,HIr,xS⟩:=hrel;clear KS KL tB aG lV;obtain⟨c0,c1,c2⟩:=mh.facts;by_cases hc:gI O' q.blocks.length=0
  ·have WQ:¬(0:Int)<(gI O' q.blocks.length:Nat):=by omega
   have XQ:∀b,O' b=false:=fun b=>by
    by_cases hb:b<q.blocks.length
    ·exact tJ _ hc b hb
    ·cases hO:O' b with
     |false=>rfl
     |true=>exact absurd (mh.mZ.bound hO) hb
   go_wp2_with (at_len;refine gJ _ rfl _ rfl rfl mh.mZ ?_)
   go_end0
   exact⟨rfl,E',O',mh,HIr.out,XQ,xS⟩
  ·have WQ:(0:Int)<(gI O' q.blocks.length:Nat):=by omega
   have KT:=q8 mh hn;have KG:=fun w1 b (hb:b<q.blocks.length) O1 (oU:jk z x a ap mb w1 q vl vb us vss E' O1)=>AU oU b hb hn bU hq dp
   have bg:∀b,JM O' q.blocks.length b->b<q.blocks.length:=fun b hl=>by
    refine Nat.lt_of_le_of_ne hl.le (fun e=>hc (iK _ fun c AH=>hl.none c (by omega)))
   go_wp2_with (first
    |(at_len;refine gJ _ rfl _ rfl rfl mh.mZ ?_)
    |(go_at_call 146;refine KT.mono ?_;rintro e w1 ⟨b,rfl,aG,oU,lU⟩)
    |(go_at_call 189;refine(KG w1 b (bg b aG) _ oU).mono ?_;rintro e w2 ⟨rfl,tB,lV⟩))
   go_roundg (xZ (eW q E' (cI O' b false) b).2.1 (eW q E' (cI O' b false) b).2.2 q.blocks.length)
   case measure=>
    have qS:=bg b aG;have h1:=(y7 q (q.blocks.getD b []) (E'.getD b [],E',cI O' b false) (Ej hq qS) ⟨mh.row.ok (by rw[mh.len];exact qS),mh.row.1,mh.len⟩).2;have h2:=yG (aG.mZ qS) q.blocks.length qS;unfold xZ at h1 hgm;unfold eW xZ;simp only at h1;omega
   case rel=>
    have qS:=bg b aG;exact⟨_,_,rfl,tB,HI.out E' O' b mh.row.1 mh.len qS (aG.mZ qS) HIr.out,(xS.trans lU).trans lV⟩
end
end FlwO
namespace FlwP
open Go Go.RowKit Sq Aux PrjF PrjG PrjJ PrjK PrjL PrjM PrjO PrjP PrjQ PrjS PrjU FlwA FlwB FlwC FlwD FlwE FlwF FlwG FlwH FlwI FlwJ FlwK FlwL FlwM FlwN FlwO
attribute [local go_sem ↓] dd cO
def dA (q:QP):List ab->List Nat->Option Nat
 |[],_=>none
 |l::ls,s=>if aE q l s=true then some l.num else dA q ls (aq q l s)
theorem EC (q:QP)(ls:List ab)(i:Nat)(hi:i<ls.length)(s:List Nat):dA q (ls.drop i) s=if aE q (ls.getD i ab.nil) s=true then some (ls.getD i ab.nil).num else dA q (ls.drop (i+1)) (aq q (ls.getD i ab.nil) s):=by
 rw[jE hi];have:ls.getD i ab.nil=ls[i]:=by simp[hi]
 rw[this];rfl
def Bz:Option Nat->Value
 |some n=> .tuple #[.int .i64 (n:Nat),.bool true]
 |none=> .tuple #[.int .i64 0,.bool false]
section
variable {z x a ap mb:Nat} {w w':World} {q:QP} {vl vb:Value} {us:List Value} {vss:List (List (Value×Value))} {E:List (List Nat)} {O:Nat->Bool}
set_option maxRecDepth 20000 in
theorem EB (h:jk z x a ap mb w q vl vb us vss E O)(b:Nat)(hb:b<q.blocks.length)(_hn:q.blocks.length<=4000)(bU:q.locals.length<=12)(hq:AE q.blocks.length q)(dp:∀j,(q.blocks.getD j []).length<=4000):
  Calls Tryz.prog 145 #[.pointer (some ⟨x,0,none⟩),.int .i64 (b:Nat)] w fun e w'=>e=.returned (Bz (dA q (q.blocks.getD b []) (E.getD b [])))/\Below w.heap.size w w':=by
 have G9:b<E.length:=by rw[h.len];exact hb
 have hE:=h.row.ok G9;have WC:=h.row.lt;have hti:(b:Int)<(q.blocks.length:Nat):=by omega
 obtain⟨c0,c1,c2⟩:=h.facts;have has:=h.row.has b G9;have RS:=h.row.of b G9;have HG:Hid (dA q (q.blocks.getD b []) (E.getD b [])=dA q ((q.blocks.getD b []).drop 0) (E.getD b [])):=rfl;obtain⟨bX,V0⟩:∃bX,Hid (dA q (q.blocks.getD b []) (E.getD b [])=bX):=⟨_,rfl⟩;rw[V0.out]at HG⊢;have hZ:av (w.alloc (.cells #[.int .u8 0,.int .u8 0,.int .u8 0,.int .u8 0,.int .u8 0,.int .u8 0,.int .u8 0,.int .u8 0,.int .u8 0,.int .u8 0,.int .u8 0,.int .u8 0,.int .u8 0,.int .u8 0,.int .u8 0,.int .u8 0,.int .u8 0,.int .u8 0,.int .u8 0,.int .u8 0,.int .u8 0,.int .u8 0,.int .u8 0,.int .u8 0] 209)) w.heap.size au:=av.new w (s:=au) (by decide);have OK:Below w.heap.size w (w.alloc (.cells #[.int .u8 0,.int .u8 0,.int .u8 0,.int .u8 0,.int .u8 0,.int .u8 0,.int .u8 0,.int .u8 0,.int .u8 0,.int .u8 0,.int .u8 0,.int .u8 0,.int .u8 0,.int .u8 0,.int .u8 0,.int .u8 0,.int .u8 0,.int .u8 0,.int .u8 0,.int .u8 0,.int .u8 0,.int .u8 0,.int .u8 0,.int .u8 0] 209)):=(Below.refl _ _).alloc (jC _) _;have gy:=av.room hZ;have qL:=iu hE.len;have hJ:=av.store hZ hE.len;have rA:Below w.heap.size w ((w.alloc (.cells #[.int .u8 0,.int .u8 0,.int .u8 0,.int .u8 0,.int .u8 0,.int .u8 0,.int .u8 0,.int .u8 0,.int .u8 0,.int .u8 0,.int .u8 0,.int .u8 0,.int .u8 0,.int .u8 0,.int .u8 0,.int .u8 0,.int .u8 0,.int .u8 0,.int .u8 0,.int .u8 0,.int .u8 0,.int .u8 0,.int .u8 0,.int .u8 0] 209)).setCells w.heap.size 0 (aj (E.getD b []))):=bp OK (jC _) _ _;have hW:=h.below rA;clear V0;generalize E.getD b []=e0 at*;clear OK hZ;go_enter Tryz.func145,Tryz.ntmps145
 go_upto_region 2 with fail
 generalize ((w.alloc (.cells #[.int .u8 0,.int .u8 0,.int .u8 0,.int .u8 0,.int .u8 0,.int .u8 0,.int .u8 0,.int .u8 0,.int .u8 0,.int .u8 0,.int .u8 0,.int .u8 0,.int .u8 0,.int .u8 0,.int .u8 0,.int .u8 0,.int .u8 0,.int .u8 0,.int .u8 0,.int .u8 0,.int .u8 0,.int .u8 0,.int .u8 0,.int .u8 0] 209)).setCells w.heap.size 0 (aj e0))=W at*;clear gy has RS c0 c1 c2;obtain⟨c0,c1,c2⟩:=hW.facts;obtain⟨p0,p1,-,-⟩:=gS.facts hW.prog;obtain⟨gb,cb,adk,ck,rfl,B8,B9,aX,Kd⟩:=fZ hW.prog b hb;have pK:=dp b;have qU:∀l∈q.blocks.getD b [],fY q.locals.length q.blocks.length l:=hq.lines _ (by simp[hb]);have LP:w.heap.size≠ap:=by omega
 have AX:Hid (∀wn,jk z x a ap mb wn q vl (.slice (some ⟨gb,0,none⟩) q.blocks.length cb) us vss E O->dD z wn (.slice adk (q.blocks.getD b []).length ck) (q.blocks.getD b []) (vss.getD b [])):=fun wn hwn=>by
  have h1:=hwn.prog.each b hb;rw[Kd]at h1;exact h1
 have HL:Hid (∀wn,jk z x a ap mb wn q vl (.slice (some ⟨gb,0,none⟩) q.blocks.length cb) us vss E O->∀i,i<(q.blocks.getD b []).length->∀v1 v2,(vss.getD b []).getD i (undef,undef)=(v1,v2)->aC z wn ((q.blocks.getD b []).getD i ab.nil) v1 v2):=fun wn hwn i hi v1 v2 hv=>jk.line hwn hb hi hv
 have HS:Hid (∀i,i<(q.blocks.getD b []).length->∀s,dA q ((q.blocks.getD b []).drop i) s=if aE q ((q.blocks.getD b []).getD i ab.nil) s=true then some ((q.blocks.getD b []).getD i ab.nil).num else dA q ((q.blocks.getD b []).drop (i+1)) (aq q ((q.blocks.getD b []).getD i ab.nil) s)):=fun i hi s=>EC q _ i hi s
 generalize q.blocks.getD b []=aM at*;generalize vss.getD b []=vsj at*;go_wp2
 go_loopg [27] (aM.length) (fun g v27 wr=>∃(i:Nat) (s':List Nat),i<=aM.length/\g+i=aM.length/\v27=.int .i64 i/\jk z x a ap mb wr q vl (.slice (some ⟨gb,0,none⟩) q.blocks.length cb) us vss E O/\av wr w.heap.size s'/\ey s'/\Below w.heap.size w wr/\Hid (bX=dA q (aM.drop i) s'))
 case atStart=>exact⟨0,e0,jQ _,rfl,rfl,hW,hJ,hE,rA,HG⟩
 case round=>
  obtain⟨i,s',hi,hgi,rfl,mh,xR,Bb,C8,HR⟩:=hrel;clear hJ HG hW rA c0 c1 c2 p0 p1 aX qL hE;by_cases hli:i<aM.length
  ·obtain⟨gl,apl,cp,an,cn,rfl,-,AH,sf,k0,k1,k2,k3,k4,k5,UM⟩:=oi (AX.out wr mh) i hli;have hS:Hid (_=_):=HS.out i hli s';have Vb:Hid (∀wn,jk z x a ap mb wn q vl (.slice (some ⟨gb,0,none⟩) q.blocks.length cb) us vss E O->aC z wn (aM.getD i ab.nil) (.slice apl (aM.getD i ab.nil).places.length cp) (.slice an (aM.getD i ab.nil).next.length cn)):=fun wn hwn=>HL.out wn hwn i hli _ _ UM
   have hl:=qU (aM.getD i ab.nil) (by simp[hli]);clear UM;generalize aM.getD i ab.nil=l at*;have lW:Below wr.heap.size wr (wr.alloc (.cells #[.int .i64 (l.num:Nat),.int .i64 (l.op:Nat),.slice apl l.places.length cp,.int .i64 l.number,.int .i64 l.flag,.slice an l.next.length cn] 115)):=(Below.refl _ _).alloc (jC _) _;have Ub:=mh.below lW;have G0:=xR.below lW xR.lt;have GV:=C8.trans (lW.mono C8.size);have eD:(wr.alloc (.cells #[.int .i64 (l.num:Nat),.int .i64 (l.op:Nat),.slice apl l.places.length cp,.int .i64 l.number,.int .i64 l.flag,.slice an l.next.length cn] 115)).heap[wr.heap.size]?=some (.cells #[.int .i64 (l.num:Nat),.int .i64 (l.op:Nat),.slice apl l.places.length cp,.int .i64 l.number,.int .i64 l.flag,.slice an l.next.length cn] 115 (0,0)):=jD;have Y6:w.heap.size<wr.heap.size:=xR.lt;go_upto_region 5 with fail
   generalize (wr.alloc (.cells #[.int .i64 (l.num:Nat),.int .i64 (l.op:Nat),.slice apl l.places.length cp,.int .i64 l.number,.int .i64 l.flag,.slice an l.next.length cn] 115))=WL at*;clear k0 k1 k2 k3 k4 k5 lW;have lX:Below WL.heap.size WL WL.drew:=below_drewN (Below.refl _ _) 1;have zb:=Ub.below lX;have EZ:av WL.drew w.heap.size s':=G0;have ze:WL.drew.heap[wr.heap.size]?=some (.cells #[.int .i64 (l.num:Nat),.int .i64 (l.op:Nat),.slice apl l.places.length cp,.int .i64 l.number,.int .i64 l.flag,.slice an l.next.length cn] 115 (0,0)):=eD;have TZ:=GV.trans (lX.mono GV.size);obtain⟨c0,c1,c2⟩:=Ub.facts;have l0:=(cell_of_heap eD 0).trans (by rfl:_=some (Value.int .i64 (l.num:Nat)));have l1:=(cell_of_heap eD 1).trans (by rfl:_=some (Value.int .i64 (l.op:Nat)));have l2:=(cell_of_heap eD 2).trans (by rfl:_=some (Value.slice apl l.places.length cp));have l3:=(cell_of_heap eD 3).trans (by rfl:_=some (Value.int .i64 l.number));have l4:=(cell_of_heap eD 4).trans (by rfl:_=some (Value.int .i64 l.flag));have l5:=(cell_of_heap eD 5).trans (by rfl:_=some (Value.slice an l.next.length cn));have KF:=Hy q l q.blocks.length z a w.heap.size vl _ apl an cp cn s' WL.drew ⟨zb.prog.aM,⟨_,zb.prog.locals⟩⟩ bU hl (Vb.out _ zb) EZ Bb.lt;obtain⟨fq,Zk⟩:∃fq,Hid (aE q l s'=fq):=⟨_,rfl⟩;rw[Zk.out]at KF;go_cut [8,36] (fun v8 v36 wc=>v8=.pointer (some ⟨wr.heap.size,0,none⟩)/\v36=.bool fq/\Below WL.drew.heap.size WL.drew wc)
   case first=>
    go_region_with (go_at_call 190;refine KF.mono ?_;rintro e w1 ⟨rfl,aG⟩)
    all_goals go_wp2_with fail
    all_goals
     go_meet
     case rel=>exact⟨rfl,rfl,aG⟩
   case rest=>
    obtain⟨rfl,rfl,aG⟩:=hcut;have hWc:=zb.below aG;have hSc:=EZ.below aG EZ.lt;have Iw:=(aG.block _ (lt_of_heap ze)).trans ze;have Zy:=TZ.trans (aG.mono TZ.size);clear KF Ub G0 GV eD lX zb EZ ze TZ c0 c1 c2 l0 l1 l2 l3 l4 l5 aG;cases fq with
    |true=>
     have l0:=(cell_of_heap Iw 0).trans (by rfl:_=some (Value.int .i64 (l.num:Nat)));have hA:bX=some l.num:=by rw[HR.out,hS.out,jb Zk.out]
     go_wp2
     go_ret2
     rw[hA];exact⟨rfl,Zy⟩
    |false=>
     have JL:Hid (bX=dA q (aM.drop (i+1)) (aq q l s')):=by unfold Hid;rw[HR.out,hS.out,ja (by rw[Zk.out];decide)]
     clear HR;have lX:Below wc.heap.size wc wc.drew:=below_drewN (Below.refl _ _) 1;have Rv:=hWc.below lX;have Wv:av wc.drew w.heap.size s':=hSc;have Wg:=Zy.trans (lX.mono Zy.size);obtain⟨c0,c1,c2⟩:=hWc.facts;have l0:=(cell_of_heap Iw 0).trans (by rfl:_=some (Value.int .i64 (l.num:Nat)));have l1:=(cell_of_heap Iw 1).trans (by rfl:_=some (Value.int .i64 (l.op:Nat)));have l2:=(cell_of_heap Iw 2).trans (by rfl:_=some (Value.slice apl l.places.length cp));have l3:=(cell_of_heap Iw 3).trans (by rfl:_=some (Value.int .i64 l.number));have l4:=(cell_of_heap Iw 4).trans (by rfl:_=some (Value.int .i64 l.flag));have l5:=(cell_of_heap Iw 5).trans (by rfl:_=some (Value.slice an l.next.length cn));have KP:=pZ q l q.blocks.length z a w.heap.size vl _ apl an cp cn s' wc.drew ⟨Rv.prog.aM,⟨_,Rv.prog.locals⟩⟩ bU hl (Vb.out _ Rv) Wv Bb.lt;generalize wr.heap.size=lb at*;go_upto_region 7 with fail
     go_region_with (go_at_call 128;refine KP.mono ?_;rintro e w1 ⟨rfl,ju,lU⟩)
     all_goals
      have oU:=Rv.other lU Wv LP;have dH:=Wg.trans (lU.below (jC _) Wg.size);have RZ:=fU q l Bb;clear KP l0 l1 l2 l3 l4 l5 c0 c1 c2;go_wp2
      go_roundg (aM.length-(i+1))
      case measure=>omega
      case rel=>exact⟨i+1,_,by omega,by omega,by go_num,oU,ju,RZ,dH,JL⟩
  ·have hA:bX=none:=by rw[HR.out,jT (by omega)];rfl
   go_wp2
   go_ret2
   rw[hA];exact⟨rfl,C8⟩
end
end FlwP
end Go.Proofs.YtmlgajhhnojdjaaGreatDoor

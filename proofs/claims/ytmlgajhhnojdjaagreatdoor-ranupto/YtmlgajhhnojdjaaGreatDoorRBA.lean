import Derived.Test.YtmlgajhhnojdjaaGreatDoorRAZ
namespace Go.Proofs.YtmlgajhhnojdjaaGreatDoor
namespace FlwN
open Go Go.RowKit Sq Aux PrjF PrjG PrjJ PrjK PrjL PrjM PrjO PrjP PrjQ PrjS PrjU FlwA FlwB FlwC FlwD FlwE FlwF FlwG FlwH FlwI FlwJ FlwK FlwL FlwM
attribute [local go_sem ↓] kA iK
section
variable {z x a ap mb:Nat} {w w':World} {q:QP} {vl vb:Value} {us:List Value} {vss:List (List (Value×Value))} {E:List (List Nat)} {O:Nat->Bool}
theorem kK.line (h:kK z x a ap mb w q vl vb us vss E O){b i:Nat}(hb:b<q.blocks.length)(hi:i<(q.blocks.getD b []).length){v1 v2:Value}(hv:(vss.getD b []).getD i (undef,undef)=(v1,v2)):bp z w ((q.blocks.getD b []).getD i aa.nil) v1 v2:=by
 have:=(h.prog.each b hb).each i hi;rw[hv]at this;exact this
set_option maxRecDepth 20000 in
set_option maxHeartbeats 4000000 in
theorem Ci (h:kK z x a ap mb w q vl vb us vss E O)(b:Nat)(hb:b<q.blocks.length)(hn:q.blocks.length<=4000)(ic:q.locals.length<=12)(hq:Jw q.blocks.length q)(eX:∀j,(q.blocks.getD j []).length<=4000):
  Calls Tryz.prog 189 #[.pointer (some ⟨x,0,none⟩),.int .i64 (b:Nat)] w fun e w'=>e=.returned (.tuple #[])/\kK z x a ap mb w' q vl vb us vss (gI q E O b).2.1 (gI q E O b).2.2/\cm ap mb w w':=by
 have Jt:b<E.length:=by rw[h.len];exact hb
 have hE:=h.row.ok Jt;have ZE:=h.row.lt;have hti:(b:Int)<(q.blocks.length:Nat):=by omega
 obtain⟨c0,c1,c2⟩:=h.facts;have has:=h.row.has b Jt;have hof:=h.row.of b Jt;have HG:Hid (gI q E O b=fP q ((q.blocks.getD b []).drop 0) (E.getD b [],E,O)):=rfl;have hZ:aW (w.alloc (.cells #[.int .u8 0,.int .u8 0,.int .u8 0,.int .u8 0,.int .u8 0,.int .u8 0,.int .u8 0,.int .u8 0,.int .u8 0,.int .u8 0,.int .u8 0,.int .u8 0,.int .u8 0,.int .u8 0,.int .u8 0,.int .u8 0,.int .u8 0,.int .u8 0,.int .u8 0,.int .u8 0,.int .u8 0,.int .u8 0,.int .u8 0,.int .u8 0] 209)) w.heap.size aq:=aW.new w (s:=aq) (by decide);have Rk:Below w.heap.size w (w.alloc (.cells #[.int .u8 0,.int .u8 0,.int .u8 0,.int .u8 0,.int .u8 0,.int .u8 0,.int .u8 0,.int .u8 0,.int .u8 0,.int .u8 0,.int .u8 0,.int .u8 0,.int .u8 0,.int .u8 0,.int .u8 0,.int .u8 0,.int .u8 0,.int .u8 0,.int .u8 0,.int .u8 0,.int .u8 0,.int .u8 0,.int .u8 0,.int .u8 0] 209)):=(Below.refl _ _).alloc (jC _) _;have oO:=aW.room hZ;have GI:=pI hE.len;have hJ:=aW.store hZ hE.len;have xO:Below w.heap.size w ((w.alloc (.cells #[.int .u8 0,.int .u8 0,.int .u8 0,.int .u8 0,.int .u8 0,.int .u8 0,.int .u8 0,.int .u8 0,.int .u8 0,.int .u8 0,.int .u8 0,.int .u8 0,.int .u8 0,.int .u8 0,.int .u8 0,.int .u8 0,.int .u8 0,.int .u8 0,.int .u8 0,.int .u8 0,.int .u8 0,.int .u8 0,.int .u8 0,.int .u8 0] 209)).setCells w.heap.size 0 (ao (E.getD b []))):=ay Rk (jC _) _ _;have hW:=h.below xO;generalize E.getD b []=e0 at*;clear Rk hZ;go_enter Tryz.func189,Tryz.ntmps189
 go_upto_region 1 with fail
 generalize ((w.alloc (.cells #[.int .u8 0,.int .u8 0,.int .u8 0,.int .u8 0,.int .u8 0,.int .u8 0,.int .u8 0,.int .u8 0,.int .u8 0,.int .u8 0,.int .u8 0,.int .u8 0,.int .u8 0,.int .u8 0,.int .u8 0,.int .u8 0,.int .u8 0,.int .u8 0,.int .u8 0,.int .u8 0,.int .u8 0,.int .u8 0,.int .u8 0,.int .u8 0] 209)).setCells w.heap.size 0 (ao e0))=W at*;clear oO has hof c0 c1 c2;obtain⟨c0,c1,c2⟩:=hW.facts;obtain⟨p0,p1,-,-⟩:=lD.facts hW.prog;obtain⟨gb,cb,adk,ck,rfl,FB,Rw,aC,hus⟩:=pr hW.prog b hb;have kZ:=eX b;have cd:∀l∈q.blocks.getD b [],tR q.locals.length q.blocks.length l:=hq.lines _ (by simp[hb]);have Kb:cm ap mb w W:=.sf xO;have Oa:w.heap.size≠ap:=by omega
 have Zn:Hid (∀wn E' O',kK z x a ap mb wn q vl (.slice (some ⟨gb,0,none⟩) q.blocks.length cb) us vss E' O'->fh z wn (.slice adk (q.blocks.getD b []).length ck) (q.blocks.getD b []) (vss.getD b [])):=fun wn E' O' FE=>by
  have h1:=FE.prog.each b hb;rw[hus]at h1;exact h1
 have HL:Hid (∀wn E' O',kK z x a ap mb wn q vl (.slice (some ⟨gb,0,none⟩) q.blocks.length cb) us vss E' O'->∀i,i<(q.blocks.getD b []).length->∀v1 v2,(vss.getD b []).getD i (undef,undef)=(v1,v2)->bp z wn ((q.blocks.getD b []).getD i aa.nil) v1 v2):=fun wn E' O' FE i hi v1 v2 hv=>kK.line FE hb hi hv
 have HS:Hid (∀i,i<(q.blocks.getD b []).length->∀t:St,fP q ((q.blocks.getD b []).drop i) t=fP q ((q.blocks.getD b []).drop (i+1)) (gO ((q.blocks.getD b []).getD i aa.nil) ((q.blocks.getD b []).getD i aa.nil).next 0 (bj q ((q.blocks.getD b []).getD i aa.nil) t.1,t.2))):=fun i hi t=>Em q _ i hi t
 generalize q.blocks.getD b []=aI at*;generalize vss.getD b []=vsj at*;have hmbl:=h.sx.lt;have hmbW:=hW.sx.lt;go_wp2
 go_loopg [27] (aI.length) (fun g v27 wr=>∃(i:Nat) (s':List Nat) (E':List (List Nat)) (O':Nat->Bool),i<=aI.length/\g+i=aI.length/\v27=.int .i64 i/\kK z x a ap mb wr q vl (.slice (some ⟨gb,0,none⟩) q.blocks.length cb) us vss E' O'/\aW wr w.heap.size s'/\eH s'/\cm ap mb w wr/\Hid (gI q E O b=fP q (aI.drop i) (s',E',O')))
 case atStart=>exact⟨0,e0,E,O,jQ _,rfl,rfl,hW,hJ,hE,Kb,HG⟩
 case round=>
  obtain⟨i,s',E',O',hi,YN,rfl,oB,Re,Js,AR,HR⟩:=hrel;clear hJ HG hW xO Kb c0 c1 c2 p0 p1 aC GI hE;by_cases Co:i<aI.length
  ·obtain⟨gl,apl,cp,an,cn,rfl,-,AV,Wg,k0,k1,k2,k3,k4,k5,X8⟩:=pq (Zn.out wr E' O' oB) i Co;have hS:Hid (_=_):=HS.out i Co (s',E',O');have Yu:Hid (∀wn E' O',kK z x a ap mb wn q vl (.slice (some ⟨gb,0,none⟩) q.blocks.length cb) us vss E' O'->bp z wn (aI.getD i aa.nil) (.slice apl (aI.getD i aa.nil).places.length cp) (.slice an (aI.getD i aa.nil).next.length cn)):=fun wn E' O' FE=>HL.out wn E' O' FE i Co _ _ X8
   have hl:=cd (aI.getD i aa.nil) (by simp[Co]);clear X8;generalize aI.getD i aa.nil=l at*;have zI:Below wr.heap.size wr (wr.alloc (.cells #[.int .i64 (l.num:Nat),.int .i64 (l.op:Nat),.slice apl l.places.length cp,.int .i64 l.number,.int .i64 l.flag,.slice an l.next.length cn] 115)):=(Below.refl _ _).alloc (jC _) _;have Xl:=oB.below zI;have Zv:=Re.below zI Re.lt;have hTL:=AR.on zI;have mx:(wr.alloc (.cells #[.int .i64 (l.num:Nat),.int .i64 (l.op:Nat),.slice apl l.places.length cp,.int .i64 l.number,.int .i64 l.flag,.slice an l.next.length cn] 115)).heap[wr.heap.size]?=some (.cells #[.int .i64 (l.num:Nat),.int .i64 (l.op:Nat),.slice apl l.places.length cp,.int .i64 l.number,.int .i64 l.flag,.slice an l.next.length cn] 115 (0,0)):=jD;have hsr:=AR.size;go_upto_region 4 with fail
   generalize (wr.alloc (.cells #[.int .i64 (l.num:Nat),.int .i64 (l.op:Nat),.slice apl l.places.length cp,.int .i64 l.number,.int .i64 l.flag,.slice an l.next.length cn] 115))=WL at*;clear k0 k1 k2 k3 k4 k5 zI;have r8:Below WL.heap.size WL WL.drew:=below_drewN (Below.refl _ _) 1;have AT:=Xl.below r8;have GA:aW WL.drew w.heap.size s':=Zv;have AX:WL.drew.heap[wr.heap.size]?=some (.cells #[.int .i64 (l.num:Nat),.int .i64 (l.op:Nat),.slice apl l.places.length cp,.int .i64 l.number,.int .i64 l.flag,.slice an l.next.length cn] 115 (0,0)):=mx;have ZA:=hTL.on r8;obtain⟨c0,c1,c2⟩:=Xl.facts;have l0:=(cell_of_heap mx 0).trans (by rfl:_=some (Value.int .i64 (l.num:Nat)));have l1:=(cell_of_heap mx 1).trans (by rfl:_=some (Value.int .i64 (l.op:Nat)));have l2:=(cell_of_heap mx 2).trans (by rfl:_=some (Value.slice apl l.places.length cp));have l3:=(cell_of_heap mx 3).trans (by rfl:_=some (Value.int .i64 l.number));have l4:=(cell_of_heap mx 4).trans (by rfl:_=some (Value.int .i64 l.flag));have l5:=(cell_of_heap mx 5).trans (by rfl:_=some (Value.slice an l.next.length cn));have KP:=IB q l q.blocks.length z a w.heap.size vl _ apl an cp cn s' WL.drew ⟨AT.prog.aI,⟨_,AT.prog.locals⟩⟩ ic hl (Yu.out _ _ _ AT) GA Js.lt;go_cut [6] (fun v6 wc=>v6=.pointer (some ⟨wr.heap.size,0,none⟩)/\aW wc w.heap.size (bj q l s')/\bu w.heap.size WL.drew wc)
   case first=>
    go_region_with (go_at_call 128;refine KP.mono ?_;rintro e w1 ⟨rfl,sH,qp⟩)
    all_goals go_wp2_with fail
    all_goals
     go_meet
     case rel=>exact⟨rfl,sH,qp⟩
   case rest=>
    obtain⟨rfl,sH,qp⟩:=hcut;have ti:=AT.other qp GA Oa;have Z9:=lt_of_heap AX;have YY:w.heap.size<wr.heap.size:=Re.lt;have mw:wc.heap[wr.heap.size]?=some (.cells #[.int .i64 (l.num:Nat),.int .i64 (l.op:Nat),.slice apl l.places.length cp,.int .i64 l.number,.int .i64 l.flag,.slice an l.next.length cn] 115 (0,0)):=(qp.block _ Z9 (by omega)).trans AX;have Zy:cm ap mb w wc:=ZA.since qp (jC _);have U7:=gi q l Js;have VX:Hid (gI q E O b=fP q (aI.drop (i+1)) (gO l l.next 0 (bj q l s',E',O'))):=HR.out.trans hS.out;have l5:=(cell_of_heap mw 5).trans (by rfl:_=some (Value.slice an l.next.length cn));have lg:l.next.length<=3:=by
     rw[hl.EP];have key:∀op:Fin 23,((ae op.val).filter (·==98)).length<=3:=by decide
     exact key ⟨l.op,hl.op⟩
    clear KP hS HR Xl Zv hTL mx r8 AT GA AX ZA c0 c1 c2 l0 l1 l2 l3 l4 qp Z9 Js Re AR oB hsr;generalize bj q l s'=s1 at*;have HN0:Hid (gO l l.next 0 (s1,E',O')=gO l (l.next.drop 0) 0 (s1,E',O')):=rfl;clear l5;have l5:=(cell_of_heap mw 5).trans (by rfl:_=some (Value.slice an l.next.length cn));clear Wg AV;generalize wr.heap.size=lb at*;go_wp2
    go_loopg [40] (l.next.length) (fun g v40 wn=>∃(j:Nat) (s2:List Nat) (E2:List (List Nat)) (O2:Nat->Bool),j<=l.next.length/\g+j=l.next.length/\v40=.int .i64 j/\kK z x a ap mb wn q vl (.slice (some ⟨gb,0,none⟩) q.blocks.length cb) us vss E2 O2/\aW wn w.heap.size s2/\eH s2/\wn.heap[lb]?=some (.cells #[.int .i64 (l.num:Nat),.int .i64 (l.op:Nat),.slice apl l.places.length cp,.int .i64 l.number,.int .i64 l.flag,.slice an l.next.length cn] 115 (0,0))/\cm ap mb w wn/\Hid (gO l l.next 0 (s1,E',O')=gO l (l.next.drop j) j (s2,E2,O2)))
    case atStart=>exact⟨0,s1,E',O',jQ _,rfl,rfl,ti,sH,U7,mw,Zy,HN0⟩
    case round=>
     obtain⟨j,s2,E2,O2,hj,hgj,rfl,TS,Wa,hsn,RA,YJ,HN⟩:=hrel;clear ti sH U7 mw Zy HN0 l5;by_cases hlj:j<l.next.length
     ·obtain⟨gn,rfl,Xw,hgn,hcx⟩:=Vr (Yu.out _ _ _ TS) j hlj;have mP:l.next.getD j 0<q.blocks.length:=hl.next _ (by rw[jA,jB hlj];exact jL hlj);have Z3:(j:Int)<(l.next.length:Nat):=by omega
      have XY:=gu l j hsn;have HNJ:Hid (_=_):=HN.out.trans (Gw l l.next j hlj (s2,E2,O2));generalize l.next.getD j 0=nx at*;have m1:=(cell_of_heap RA 1).trans (by rfl:_=some (Value.int .i64 (l.op:Nat)));have m2:=(cell_of_heap RA 2).trans (by rfl:_=some (Value.slice apl l.places.length cp));have aab:=lt_of_heap RA;by_cases P5:l.op=20
      ·have b20:(((l.op:Nat):Int)==20)=true:=by rw[P5];rfl
       have hlen:l.places.length=1:=by rw[hl.cP,P5];rfl
       obtain⟨gp,rfl,ql,XC,d1,d2⟩:=bm (Yu.out _ _ _ TS) hlen 0 (by omega);have hx:=(hl.places _ (cX (j:=0) (by omega))).1;have iq:Hid (cu l j s2=gR (if j=0 then 4 else 2) [l.places.getD 0 (0,0)] s2):=by unfold Hid;rw[cu,jb P5]
       rw[iq.out]at HNJ XY;have e1:wr.cell? ⟨gp,0,none⟩=some (.int .i64 ((l.places.getD 0 (0,0)).1:Nat)):=d1;have e2:wr.cell? ⟨gp,1,none⟩=some (.int .i64 ((l.places.getD 0 (0,0)).2:Nat)):=d2;have hid:(0:Int)<(l.places.length:Nat):=by omega
       clear d1 d2;generalize l.places.getD 0 (0,0)=y at*;have hmay:(if j=0 then 4 else 2:Nat)<16:=by split<;>decide
       have KM:=yZ j wr.drew;have KMP:=yZ j (wr.alloc (.cells #[.int .i64 (y.1:Nat),.int .i64 (y.2:Nat)] 119)).drew;generalize (if j=0 then 4 else 2:Nat)=may at*;have TT:Below wr.heap.size wr (wr.alloc (.cells #[.int .i64 (y.1:Nat),.int .i64 (y.2:Nat)] 119)):=(Below.refl _ _).alloc (jC _) _;have Rj:Below wr.heap.size wr (wr.alloc (.cells #[.int .i64 (y.1:Nat),.int .i64 (y.2:Nat)] 119)).drew:=below_drewN TT 1;have hSP:aW (wr.alloc (.cells #[.int .i64 (y.1:Nat),.int .i64 (y.2:Nat)] 119)).drew w.heap.size s2:=Wa.below Rj Wa.lt;have hWP:=TS.below Rj;have hTP:=YJ.on Rj;have Z7:=(Rj.block lb aab).trans RA;have gK:bO wr.heap.size (wr.alloc (.cells #[.int .i64 (y.1:Nat),.int .i64 (y.2:Nat)] 119)).drew (.slice (some ⟨wr.heap.size,0,none⟩) 1 1) [y]:=iH wr y (n:=wr.heap.size) rfl;have KP:=zW may w.heap.size _ 1 1 _ [y] s2 _ hSP gK (fun v hv=>by simp only[List.mem_singleton]at hv;subst hv;omega) hmay;have lx:(wr.alloc (.cells #[.int .i64 (y.1:Nat),.int .i64 (y.2:Nat)] 119)).heap.size=wr.heap.size+1:=by simp
       rw[hlen]at*;go_upto_region 9 with fail
       go_cut [7,8] (fun v7 v8 wc=>v7=.int .i64 (j:Nat)/\v8=.int .i64 (nx:Nat)/\aW wc w.heap.size (gR may [y] s2)/\∃wp,kK z x a ap mb wp q vl (.slice (some ⟨gb,0,none⟩) q.blocks.length cb) us vss E2 O2/\aW wp w.heap.size s2/\wp.heap[lb]?=some (.cells #[.int .i64 (l.num:Nat),.int .i64 (l.op:Nat),.slice (some ⟨gp,0,none⟩) 1 cp,.int .i64 l.number,.int .i64 l.flag,.slice (some ⟨gn,0,none⟩) l.next.length cn] 115 (0,0))/\cm ap mb w wp/\bu w.heap.size wp wc)
       case first=>
        go_region_with (first
         |(go_at_call 177;refine KP.mono ?_;rintro e w2 ⟨rfl,Jn,qq⟩)
         |(go_at_call 218;refine KM.mono ?_;rintro e w2 ⟨rfl,rfl⟩)
         |(go_at_call 218;refine KMP.mono ?_;rintro e w2 ⟨rfl,rfl⟩))
        all_goals go_wp2_with fail
        all_goals
         go_meet
         case rel=>exact⟨rfl,rfl,Jn,_,hWP,hSP,Z7,hTP,qq⟩
       case rest=>
        obtain⟨rfl,rfl,Jn,wp,hWp,hSp,Z8,hTp,qq⟩:=hcut;clear KM KMP KP hWP hSP Z7 hTP TT Rj gK e1 e2 m1 m2 lx;have AS:=hWp.other qq hSp Oa;have GL:=(qq.block lb (lt_of_heap Z8) (by omega)).trans Z8;have hT2':cm ap mb w wc:=hTp.since qq (jC _);have j1:=aW.has Jn;have j2:=aW.of Jn;have KL:=A9 AS nx mP hn _ XY;generalize gR may [y] s2=s3 at*;go_wp2_with (go_at_call 187;refine KL.mono ?_;rintro e w3 ⟨rfl,ZC,Ka⟩)
        go_roundg (l.next.length-(j+1))
        case measure=>omega
        case rel=>
         refine⟨j+1,s3,_,_,by omega,by omega,by go_num,ZC,⟨Jn.1,(Ka.block _ Jn.lt Oa (by omega)).trans Jn.2⟩,XY,(Ka.block _ (lt_of_heap GL) (by omega) (by omega)).trans GL,hT2'.trans Ka,HNJ⟩
      ·have b20:(((l.op:Nat):Int)==20)=false:=by rw[jZ];omega
       have iq:Hid (cu l j s2=s2):=by unfold Hid;rw[cu,ja P5]
       rw[iq.out]at HNJ;have j1:=aW.has Wa;have j2:=aW.of Wa;have KL:=A9 TS nx mP hn s2 hsn;go_wp2_with (go_at_call 187;refine KL.mono ?_;rintro e w3 ⟨rfl,ZC,Ka⟩)
       go_roundg (l.next.length-(j+1))
       case measure=>omega
       case rel=>
        refine⟨j+1,s2,_,_,by omega,by omega,by go_num,ZC,⟨Wa.1,(Ka.block _ Wa.lt Oa (by omega)).trans Wa.2⟩,hsn,(Ka.block _ aab (by omega) (by omega)).trans RA,YJ.trans Ka,HNJ⟩
     ·go_wp2
      go_roundg (aI.length-(i+1))
      case measure=>omega
      case rel=>
       refine⟨i+1,s2,E2,O2,by omega,by omega,by go_num,TS,Wa,hsn,YJ,?_⟩;have qR:l.next.drop j=[]:=jT (by omega);unfold Hid;rw[VX.out,HN.out,qR];rfl
  ·go_wp2
   go_end0
   refine⟨rfl,?_,AR⟩;rw[HR.out,jT (by omega)];exact oB
end
end FlwN
namespace FlwO
open Go Go.RowKit Sq Aux PrjF PrjG PrjJ PrjK PrjL PrjM PrjO PrjP PrjQ PrjS PrjU FlwA FlwB FlwC FlwD FlwE FlwF FlwG FlwH FlwI FlwJ FlwK FlwL FlwM FlwN
def sN (s:List Nat):Nat->Nat
 |0=>0
 |k+1=>sN s k+(15-s.getD k 0)
def Dm:List (List Nat)->Nat
 |[]=>0
 |s::E=>sN s 24+Dm E
theorem WD (a b:Nat):a<=a|||b:=Nat.left_le_or
theorem ks {s t:List Nat}(hs:s.length=24)(k:Nat):(fC s t).getD k 0=if k<24 then s.getD k 0|||t.getD k 0 else 0:=by
 unfold fC;rw[qU,hs];by_cases h:k<24
 ·rw[jb h,jb h,jb h]
 ·rw[ja h,ja h]
theorem Dp {s t:List Nat}(hs:eH s)(ht:eH t):∀n,n<=24->sN (fC s t) n<=sN s n
 |0,_=>jC _
 |n+1,h=>by
  have:=Dp hs ht n (by omega);unfold sN;rw[ks hs.len,jb (by omega)];have:=WD (s.getD n 0) (t.getD n 0);omega
theorem Dq {s t:List Nat}(hs:eH s)(ht:eH t):∀n,n<=24->(∃k,k<n/\(fC s t).getD k 0≠s.getD k 0)->sN (fC s t) n<sN s n
 |0,_,⟨k,hk,_⟩=>by omega
 |n+1,h,⟨k,hk,ea⟩=>by
  have h1:=Dp hs ht n (by omega);unfold sN;have h2:=WD (s.getD n 0) (t.getD n 0);have h3:=WE (hs.lt n) (ht.lt n);by_cases e:k=n
  ·subst e;rw[ks hs.len,jb (by omega)]at ea⊢;omega
  ·have:=Dq hs ht n (by omega) ⟨k,by omega,ea⟩;rw[ks hs.len,jb (by omega)];omega
theorem V4 {s t:List Nat}(hs:s.length=24)(ht:t.length=24)(h:∀k,k<24->s.getD k 0=t.getD k 0):s=t:=by
 apply List.ext_getElem?
 intro k;by_cases hk:k<24
 ·have:=h k hk;rw[jA,jA,jB (by omega),jB (by omega)]at this;rw[jB (by omega),jB (by omega)];simpa using this
 ·rw[jG (by omega),jG (by omega)]
theorem Oy {s t:List Nat}(hs:s.length=24):(fC s t).length=24:=by unfold fC;rw[tq];exact hs
theorem zO {s t:List Nat}(hs:eH s)(h:¬fC s t=s):∃k,k<24/\(fC s t).getD k 0≠s.getD k 0:=by
 refine Classical.byContradiction fun hc=>h (V4 (Oy hs.len) hs.len fun k hk=> ?_)
 exact Classical.byContradiction fun hn=>hc ⟨k,hk,hn⟩
theorem Dn:∀(E:List (List Nat)) (i:Nat) (t:List Nat),i<E.length->Dm (E.set i t)+sN (E.getD i []) 24=Dm E+sN t 24
 |[],_,_,h=>by simp at h
 |s::E,0,t,_=>by simp[Dm];omega
 |s::E,i+1,t,h=>by
  have:=Dn E i t (by simpa using h);simp only[List.set_cons_succ,Dm,List.getD_cons_succ];omega
def Fw (E:List (List Nat)):Prop:=∀s∈E,eH s
theorem Fw.at {E:List (List Nat)}(h:Fw E){i:Nat}(hi:i<E.length):eH (E.getD i []):=h _ (MQ hi)
theorem G6 {s t:List Nat}(hs:eH s)(ht:eH t):eH (fC s t):=Dk hs ht 24
theorem x4 (E:List (List Nat))(n:Nat)(s:List Nat):(eO E n s).length=E.length:=by unfold eO;split<;>simp
theorem A8 {E:List (List Nat)}(hE:Fw E){n:Nat}(hn:n<E.length){s:List Nat}(hs:eH s):Fw (eO E n s):=by
 unfold eO;split
 ·exact hE
 ·intro t ht;rcases List.mem_or_eq_of_mem_set ht with h|h
  ·exact hE t h
  ·rw[h];exact G6 (hE.at hn) hs
def zo (E:List (List Nat))(O:Nat->Bool)(N:Nat):Nat:=2*Dm E+gU O N
theorem OH {E:List (List Nat)}{O:Nat->Bool}{N n:Nat}(hE:Fw E)(hN:E.length=N)(hn:n<N){s:List Nat}(hs:eH s):zo (eO E n s) (gX E O n s) N<=zo E O N:=by
 unfold eO gX zo;split
 ·exact jC _
 ·rename_i hj;have h0:=hE.at (i:=n) (by omega);have h1:=Dn E n (fC (E.getD n []) s) (by omega);have h2:=Dq h0 hs 24 (jC _) (zO h0 hj);have h3:gU (cz O n true) N<=gU O N+1:=by
   cases hO:O n with
   |true=>rw[yf hO];omega
   |false=>rw[vg hO N hn];omega
  omega
structure Uh (N:Nat)(t:St):Prop where
 s:eH t.1
 e:Fw t.2.1
 len:t.2.1.length=N
theorem Db {N:Nat}(l:aa):∀(ns:List Nat) (i:Nat) (t:St),(∀n∈ns,n<N)->Uh N t->Uh N (gO l ns i t)/\zo (gO l ns i t).2.1 (gO l ns i t).2.2 N<=zo t.2.1 t.2.2 N
 |[],_,t,_,h=>⟨h,jC _⟩
 |n::ns,i,t,hn,h=>by
  have hs:=gu l i h.s;have hnn:=hn n (jM ..);have:=Db l ns (i+1) (cu l i t.1,eO t.2.1 n (cu l i t.1),gX t.2.1 t.2.2 n (cu l i t.1)) (fun m hm=>hn m (jN _ hm))
   ⟨hs,A8 h.e (by rw[h.len];exact hnn) hs,by rw[<-h.len];exact x4 _ _ _⟩
  exact⟨this.1,jS this.2 (OH h.e h.len hnn hs)⟩
theorem AP {N:Nat}(q:QP):∀(ls:List aa) (t:St),(∀l∈ls,∀n∈l.next,n<N)->Uh N t->Uh N (fP q ls t)/\zo (fP q ls t).2.1 (fP q ls t).2.2 N<=zo t.2.1 t.2.2 N
 |[],t,_,h=>⟨h,jC _⟩
 |l::ls,t,hn,h=>by
  have h1:=Db l l.next 0 (bj q l t.1,t.2) (hn l (jM ..)) ⟨gi q l h.s,h.e,h.len⟩;have h2:=AP q ls _ (fun m hm=>hn m (jN _ hm)) h1.1;exact⟨h2.1,jS h2.2 h1.2⟩
theorem pZ:eH aU:=⟨by decide,fun k=>by
 unfold aU;rw[jA,jO];split<;>simp⟩
section
variable {z x a ap mb:Nat} {w w':World} {q:QP} {vl vb:Value} {us:List Value} {vss:List (List (Value×Value))} {E:List (List Nat)} {O:Nat->Bool}
theorem Am (hq:Jw q.blocks.length q){b:Nat}(hb:b<q.blocks.length):∀l∈q.blocks.getD b [],∀n∈l.next,n<q.blocks.length:=fun l hl=>
 (hq.lines (q.blocks.getD b []) (by simp[hb]) l hl).next
set_option maxRecDepth 20000 in
set_option maxHeartbeats 2000000 in
theorem J3 (h:kK z x a ap mb w q vl vb us vss E O)(h0:0<q.blocks.length)(hn:q.blocks.length<=4000)(ic:q.locals.length<=12)(hq:Jw q.blocks.length q)(eX:∀j,(q.blocks.getD j []).length<=4000)
  (I:List (List Nat)->(Nat->Bool)->Prop) (Rc:I (eO E 0 aU) (gX E O 0 aU))
  (hI:∀E O b,Fw E->E.length=q.blocks.length->b<q.blocks.length->O b=true->I E O->I (gI q E (cz O b false) b).2.1 (gI q E (cz O b false) b).2.2):
  Calls Tryz.prog 144 #[.pointer (some ⟨x,0,none⟩)] w fun e w'=>e=.returned (.tuple #[])/\∃E' O',kK z x a ap mb w' q vl vb us vss E' O'/\I E' O'/\(∀b,O' b=false)/\cm ap mb w w':=by
 have KS:=PJ w;have Ya:=h.lt;have KL:=fun w1 (hb:Below w.heap.size w w1)=>A9 (h.below hb) 0 h0 hn aU pZ
 have HI0:Hid (I (eO E 0 aU) (gX E O 0 aU)):=Rc;have HI:Hid (∀E O b,Fw E->E.length=q.blocks.length->b<q.blocks.length->O b=true->I E O->I (gI q E (cz O b false) b).2.1 (gI q E (cz O b false) b).2.2):=hI;clear Rc hI;go_enter Tryz.func144,Tryz.ntmps144
 go_wp2_with (first
  |(go_at_call 188;refine KS.mono ?_;rintro e w1 ⟨rfl,av⟩)
  |(go_at_call 187;refine(KL w1 av).mono ?_;rintro e w2 ⟨rfl,AS,qq⟩))
 go_loopg [5] (zo (eO E 0 aU) (gX E O 0 aU) q.blocks.length) (fun g _ wr=>∃(E':List (List Nat)) (O':Nat->Bool),g=zo E' O' q.blocks.length/\kK z x a ap mb wr q vl vb us vss E' O'/\Hid (I E' O')/\cm ap mb w wr)
 case atStart=>exact⟨_,_,rfl,AS,HI0,(cm.sf av).trans qq⟩
 case round=>
  obtain⟨E',O',hgm,oB,HIr,AR⟩:=hrel;clear KS KL AS av qq;obtain⟨c0,c1,c2⟩:=oB.facts;by_cases hc:gU O' q.blocks.length=0
  ·have ZK:¬(0:Int)<(gU O' q.blocks.length:Nat):=by omega
   have hnone:∀b,O' b=false:=fun b=>by
    by_cases hb:b<q.blocks.length
    ·exact xE _ hc b hb
    ·cases hO:O' b with
     |false=>rfl
     |true=>exact absurd (oB.sx.bound hO) hb
   go_wp2_with (at_len;refine ig _ rfl _ rfl rfl oB.sx ?_)
   go_end0
   exact⟨rfl,E',O',oB,HIr.out,hnone,AR⟩
  ·have ZK:(0:Int)<(gU O' q.blocks.length:Nat):=by omega
   have KT:=sV oB hn;have KG:=fun w1 b (hb:b<q.blocks.length) O1 (ti:kK z x a ap mb w1 q vl vb us vss E' O1)=>Ci ti b hb hn ic hq eX
   have aK:∀b,Ms O' q.blocks.length b->b<q.blocks.length:=fun b hl=>by
    refine Nat.lt_of_le_of_ne hl.le (fun e=>hc (kj _ fun c AV=>hl.none c (by omega)))
   go_wp2_with (first
    |(at_len;refine ig _ rfl _ rfl rfl oB.sx ?_)
    |(go_at_call 146;refine KT.mono ?_;rintro e w1 ⟨b,rfl,av,ti,qp⟩)
    |(go_at_call 189;refine(KG w1 b (aK b av) _ ti).mono ?_;rintro e w2 ⟨rfl,AS,qq⟩))
   go_roundg (zo (gI q E' (cz O' b false) b).2.1 (gI q E' (cz O' b false) b).2.2 q.blocks.length)
   case measure=>
    have qk:=aK b av;have h1:=(AP q (q.blocks.getD b []) (E'.getD b [],E',cz O' b false) (Am hq qk) ⟨oB.row.ok (by rw[oB.len];exact qk),oB.row.1,oB.len⟩).2;have h2:=Au (av.sx qk) q.blocks.length qk;unfold zo at h1 hgm;unfold gI zo;simp only at h1;omega
   case rel=>
    have qk:=aK b av;exact⟨_,_,rfl,AS,HI.out E' O' b oB.row.1 oB.len qk (av.sx qk) HIr.out,(AR.trans qp).trans qq⟩
end
end FlwO
namespace FlwP
open Go Go.RowKit Sq Aux PrjF PrjG PrjJ PrjK PrjL PrjM PrjO PrjP PrjQ PrjS PrjU FlwA FlwB FlwC FlwD FlwE FlwF FlwG FlwH FlwI FlwJ FlwK FlwL FlwM FlwN FlwO
attribute [local go_sem ↓] kA iK
def cW (q:QP):List aa->List Nat->Option Nat
 |[],_=>none
 |l::ls,s=>if aL q l s=true then some l.num else cW q ls (bj q l s)
theorem Gd (q:QP)(ls:List aa)(i:Nat)(hi:i<ls.length)(s:List Nat):cW q (ls.drop i) s=if aL q (ls.getD i aa.nil) s=true then some (ls.getD i aa.nil).num else cW q (ls.drop (i+1)) (bj q (ls.getD i aa.nil) s):=by
 rw[jE hi];have:ls.getD i aa.nil=ls[i]:=by simp[hi]
 rw[this];rfl
def CR:Option Nat->Value
 |some n=> .tuple #[.int .i64 (n:Nat),.bool true]
 |none=> .tuple #[.int .i64 0,.bool false]
section
variable {z x a ap mb:Nat} {w w':World} {q:QP} {vl vb:Value} {us:List Value} {vss:List (List (Value×Value))} {E:List (List Nat)} {O:Nat->Bool}
set_option maxRecDepth 20000 in
set_option maxHeartbeats 4000000 in
theorem Gc (h:kK z x a ap mb w q vl vb us vss E O)(b:Nat)(hb:b<q.blocks.length)(_hn:q.blocks.length<=4000)(ic:q.locals.length<=12)(hq:Jw q.blocks.length q)(eX:∀j,(q.blocks.getD j []).length<=4000):
  Calls Tryz.prog 145 #[.pointer (some ⟨x,0,none⟩),.int .i64 (b:Nat)] w fun e w'=>e=.returned (CR (cW q (q.blocks.getD b []) (E.getD b [])))/\Below w.heap.size w w':=by
 have Jt:b<E.length:=by rw[h.len];exact hb
 have hE:=h.row.ok Jt;have ZE:=h.row.lt;have hti:(b:Int)<(q.blocks.length:Nat):=by omega
 obtain⟨c0,c1,c2⟩:=h.facts;have has:=h.row.has b Jt;have hof:=h.row.of b Jt;have HG:Hid (cW q (q.blocks.getD b []) (E.getD b [])=cW q ((q.blocks.getD b []).drop 0) (E.getD b [])):=rfl;obtain⟨ans,Y4⟩:∃ans,Hid (cW q (q.blocks.getD b []) (E.getD b [])=ans):=⟨_,rfl⟩;rw[Y4.out]at HG⊢;have hZ:aW (w.alloc (.cells #[.int .u8 0,.int .u8 0,.int .u8 0,.int .u8 0,.int .u8 0,.int .u8 0,.int .u8 0,.int .u8 0,.int .u8 0,.int .u8 0,.int .u8 0,.int .u8 0,.int .u8 0,.int .u8 0,.int .u8 0,.int .u8 0,.int .u8 0,.int .u8 0,.int .u8 0,.int .u8 0,.int .u8 0,.int .u8 0,.int .u8 0,.int .u8 0] 209)) w.heap.size aq:=aW.new w (s:=aq) (by decide);have Rk:Below w.heap.size w (w.alloc (.cells #[.int .u8 0,.int .u8 0,.int .u8 0,.int .u8 0,.int .u8 0,.int .u8 0,.int .u8 0,.int .u8 0,.int .u8 0,.int .u8 0,.int .u8 0,.int .u8 0,.int .u8 0,.int .u8 0,.int .u8 0,.int .u8 0,.int .u8 0,.int .u8 0,.int .u8 0,.int .u8 0,.int .u8 0,.int .u8 0,.int .u8 0,.int .u8 0] 209)):=(Below.refl _ _).alloc (jC _) _;have oO:=aW.room hZ;have GI:=pI hE.len;have hJ:=aW.store hZ hE.len;have xO:Below w.heap.size w ((w.alloc (.cells #[.int .u8 0,.int .u8 0,.int .u8 0,.int .u8 0,.int .u8 0,.int .u8 0,.int .u8 0,.int .u8 0,.int .u8 0,.int .u8 0,.int .u8 0,.int .u8 0,.int .u8 0,.int .u8 0,.int .u8 0,.int .u8 0,.int .u8 0,.int .u8 0,.int .u8 0,.int .u8 0,.int .u8 0,.int .u8 0,.int .u8 0,.int .u8 0] 209)).setCells w.heap.size 0 (ao (E.getD b []))):=ay Rk (jC _) _ _;have hW:=h.below xO;clear Y4;generalize E.getD b []=e0 at*;clear Rk hZ;go_enter Tryz.func145,Tryz.ntmps145
 go_upto_region 2 with fail
 generalize ((w.alloc (.cells #[.int .u8 0,.int .u8 0,.int .u8 0,.int .u8 0,.int .u8 0,.int .u8 0,.int .u8 0,.int .u8 0,.int .u8 0,.int .u8 0,.int .u8 0,.int .u8 0,.int .u8 0,.int .u8 0,.int .u8 0,.int .u8 0,.int .u8 0,.int .u8 0,.int .u8 0,.int .u8 0,.int .u8 0,.int .u8 0,.int .u8 0,.int .u8 0] 209)).setCells w.heap.size 0 (ao e0))=W at*;clear oO has hof c0 c1 c2;obtain⟨c0,c1,c2⟩:=hW.facts;obtain⟨p0,p1,-,-⟩:=lD.facts hW.prog;obtain⟨gb,cb,adk,ck,rfl,FB,Rw,aC,hus⟩:=pr hW.prog b hb;have kZ:=eX b;have cd:∀l∈q.blocks.getD b [],tR q.locals.length q.blocks.length l:=hq.lines _ (by simp[hb]);have Oa:w.heap.size≠ap:=by omega
 have Zn:Hid (∀wn,kK z x a ap mb wn q vl (.slice (some ⟨gb,0,none⟩) q.blocks.length cb) us vss E O->fh z wn (.slice adk (q.blocks.getD b []).length ck) (q.blocks.getD b []) (vss.getD b [])):=fun wn FE=>by
  have h1:=FE.prog.each b hb;rw[hus]at h1;exact h1
 have HL:Hid (∀wn,kK z x a ap mb wn q vl (.slice (some ⟨gb,0,none⟩) q.blocks.length cb) us vss E O->∀i,i<(q.blocks.getD b []).length->∀v1 v2,(vss.getD b []).getD i (undef,undef)=(v1,v2)->bp z wn ((q.blocks.getD b []).getD i aa.nil) v1 v2):=fun wn FE i hi v1 v2 hv=>kK.line FE hb hi hv
 have HS:Hid (∀i,i<(q.blocks.getD b []).length->∀s,cW q ((q.blocks.getD b []).drop i) s=if aL q ((q.blocks.getD b []).getD i aa.nil) s=true then some ((q.blocks.getD b []).getD i aa.nil).num else cW q ((q.blocks.getD b []).drop (i+1)) (bj q ((q.blocks.getD b []).getD i aa.nil) s)):=fun i hi s=>Gd q _ i hi s
 generalize q.blocks.getD b []=aI at*;generalize vss.getD b []=vsj at*;go_wp2
 go_loopg [27] (aI.length) (fun g v27 wr=>∃(i:Nat) (s':List Nat),i<=aI.length/\g+i=aI.length/\v27=.int .i64 i/\kK z x a ap mb wr q vl (.slice (some ⟨gb,0,none⟩) q.blocks.length cb) us vss E O/\aW wr w.heap.size s'/\eH s'/\Below w.heap.size w wr/\Hid (ans=cW q (aI.drop i) s'))
 case atStart=>exact⟨0,e0,jQ _,rfl,rfl,hW,hJ,hE,xO,HG⟩
 case round=>
  obtain⟨i,s',hi,YN,rfl,oB,Re,Js,Jm,HR⟩:=hrel;clear hJ HG hW xO c0 c1 c2 p0 p1 aC GI hE;by_cases Co:i<aI.length
  ·obtain⟨gl,apl,cp,an,cn,rfl,-,AV,Wg,k0,k1,k2,k3,k4,k5,X8⟩:=pq (Zn.out wr oB) i Co;have hS:Hid (_=_):=HS.out i Co s';have Yu:Hid (∀wn,kK z x a ap mb wn q vl (.slice (some ⟨gb,0,none⟩) q.blocks.length cb) us vss E O->bp z wn (aI.getD i aa.nil) (.slice apl (aI.getD i aa.nil).places.length cp) (.slice an (aI.getD i aa.nil).next.length cn)):=fun wn FE=>HL.out wn FE i Co _ _ X8
   have hl:=cd (aI.getD i aa.nil) (by simp[Co]);clear X8;generalize aI.getD i aa.nil=l at*;have zI:Below wr.heap.size wr (wr.alloc (.cells #[.int .i64 (l.num:Nat),.int .i64 (l.op:Nat),.slice apl l.places.length cp,.int .i64 l.number,.int .i64 l.flag,.slice an l.next.length cn] 115)):=(Below.refl _ _).alloc (jC _) _;have Xl:=oB.below zI;have Zv:=Re.below zI Re.lt;have Jl:=Jm.trans (zI.mono Jm.size);have mx:(wr.alloc (.cells #[.int .i64 (l.num:Nat),.int .i64 (l.op:Nat),.slice apl l.places.length cp,.int .i64 l.number,.int .i64 l.flag,.slice an l.next.length cn] 115)).heap[wr.heap.size]?=some (.cells #[.int .i64 (l.num:Nat),.int .i64 (l.op:Nat),.slice apl l.places.length cp,.int .i64 l.number,.int .i64 l.flag,.slice an l.next.length cn] 115 (0,0)):=jD;have YY:w.heap.size<wr.heap.size:=Re.lt;go_upto_region 5 with fail
   generalize (wr.alloc (.cells #[.int .i64 (l.num:Nat),.int .i64 (l.op:Nat),.slice apl l.places.length cp,.int .i64 l.number,.int .i64 l.flag,.slice an l.next.length cn] 115))=WL at*;clear k0 k1 k2 k3 k4 k5 zI;have r8:Below WL.heap.size WL WL.drew:=below_drewN (Below.refl _ _) 1;have AT:=Xl.below r8;have GA:aW WL.drew w.heap.size s':=Zv;have AX:WL.drew.heap[wr.heap.size]?=some (.cells #[.int .i64 (l.num:Nat),.int .i64 (l.op:Nat),.slice apl l.places.length cp,.int .i64 l.number,.int .i64 l.flag,.slice an l.next.length cn] 115 (0,0)):=mx;have Xe:=Jl.trans (r8.mono Jl.size);obtain⟨c0,c1,c2⟩:=Xl.facts;have l0:=(cell_of_heap mx 0).trans (by rfl:_=some (Value.int .i64 (l.num:Nat)));have l1:=(cell_of_heap mx 1).trans (by rfl:_=some (Value.int .i64 (l.op:Nat)));have l2:=(cell_of_heap mx 2).trans (by rfl:_=some (Value.slice apl l.places.length cp));have l3:=(cell_of_heap mx 3).trans (by rfl:_=some (Value.int .i64 l.number));have l4:=(cell_of_heap mx 4).trans (by rfl:_=some (Value.int .i64 l.flag));have l5:=(cell_of_heap mx 5).trans (by rfl:_=some (Value.slice an l.next.length cn));have KF:=JY q l q.blocks.length z a w.heap.size vl _ apl an cp cn s' WL.drew ⟨AT.prog.aI,⟨_,AT.prog.locals⟩⟩ ic hl (Yu.out _ AT) GA Js.lt;obtain⟨fq,Hfq⟩:∃fq,Hid (aL q l s'=fq):=⟨_,rfl⟩;rw[Hfq.out]at KF;go_cut [8,36] (fun v8 v36 wc=>v8=.pointer (some ⟨wr.heap.size,0,none⟩)/\v36=.bool fq/\Below WL.drew.heap.size WL.drew wc)
   case first=>
    go_region_with (go_at_call 190;refine KF.mono ?_;rintro e w1 ⟨rfl,av⟩)
    all_goals go_wp2_with fail
    all_goals
     go_meet
     case rel=>exact⟨rfl,rfl,av⟩
   case rest=>
    obtain⟨rfl,rfl,av⟩:=hcut;have hWc:=AT.below av;have hSc:=GA.below av GA.lt;have Kl:=(av.block _ (lt_of_heap AX)).trans AX;have hBc:=Xe.trans (av.mono Xe.size);clear KF Xl Zv Jl mx r8 AT GA AX Xe c0 c1 c2 l0 l1 l2 l3 l4 l5 av;cases fq with
    |true=>
     have l0:=(cell_of_heap Kl 0).trans (by rfl:_=some (Value.int .i64 (l.num:Nat)));have hA:ans=some l.num:=by rw[HR.out,hS.out,jb Hfq.out]
     go_wp2
     go_ret2
     rw[hA];exact⟨rfl,hBc⟩
    |false=>
     have VX:Hid (ans=cW q (aI.drop (i+1)) (bj q l s')):=by unfold Hid;rw[HR.out,hS.out,ja (by rw[Hfq.out];decide)]
     clear HR;have r8:Below wc.heap.size wc wc.drew:=below_drewN (Below.refl _ _) 1;have UD:=hWc.below r8;have Zw:aW wc.drew w.heap.size s':=hSc;have Zo:=hBc.trans (r8.mono hBc.size);obtain⟨c0,c1,c2⟩:=hWc.facts;have l0:=(cell_of_heap Kl 0).trans (by rfl:_=some (Value.int .i64 (l.num:Nat)));have l1:=(cell_of_heap Kl 1).trans (by rfl:_=some (Value.int .i64 (l.op:Nat)));have l2:=(cell_of_heap Kl 2).trans (by rfl:_=some (Value.slice apl l.places.length cp));have l3:=(cell_of_heap Kl 3).trans (by rfl:_=some (Value.int .i64 l.number));have l4:=(cell_of_heap Kl 4).trans (by rfl:_=some (Value.int .i64 l.flag));have l5:=(cell_of_heap Kl 5).trans (by rfl:_=some (Value.slice an l.next.length cn));have KP:=IB q l q.blocks.length z a w.heap.size vl _ apl an cp cn s' wc.drew ⟨UD.prog.aI,⟨_,UD.prog.locals⟩⟩ ic hl (Yu.out _ UD) Zw Js.lt;generalize wr.heap.size=lb at*;go_upto_region 7 with fail
     go_region_with (go_at_call 128;refine KP.mono ?_;rintro e w1 ⟨rfl,sH,qp⟩)
     all_goals
      have ti:=UD.other qp Zw Oa;have lu:=Zo.trans (qp.below (jC _) Zo.size);have U7:=gi q l Js;clear KP l0 l1 l2 l3 l4 l5 c0 c1 c2;go_wp2
      go_roundg (aI.length-(i+1))
      case measure=>omega
      case rel=>exact⟨i+1,_,by omega,by omega,by go_num,ti,sH,U7,lu,VX⟩
  ·have hA:ans=none:=by rw[HR.out,jT (by omega)];rfl
   go_wp2
   go_ret2
   rw[hA];exact⟨rfl,Jm⟩
end
end FlwP
end Go.Proofs.YtmlgajhhnojdjaaGreatDoor

import Derived.Test.YtmlgajhhnojdjaaGreatDoorVBJ
namespace Go.Proofs.YtmlgajhhnojdjaaGreatDoor
namespace El
open Go Go.RowKit Sq Aux Go.Proofs.YtmlgajhhnojdjaaGreatDoor.Own PrjF PrjG PrjJ PrjK PrjL PrjM PrjO PrjP PrjQ PrjS PrjT PrjU FlwA FlwB FlwE FlwF FlwG FlwI FlwJ FlwM
attribute [local go_sem ↓] bY bJ
theorem zn (q:QP)(l:ab):∀(ls:List ab) (s:List Nat) (un:List Bool),lF q (ls++[l]) s un=gF (aR q l (eH q ls s)) (bf q l) (lF q ls s un)
 |[],_,_=>rfl
 |x::ls,s,_=>zn q l ls (au q x s) _
theorem BU (s:List Nat)(ps:List (Nat×Nat))(p:Nat×Nat)(un:List Bool):gF s (ps++[p]) un=if dW (s.getD (ah p) 0)=true then(gF s ps un).set (ah p) true else gF s ps un:=by
 unfold gF;rw[List.foldl_append];rfl
theorem bG.Ef {z x a:Nat}{w0 w:World}{ve:Value}{un:List Bool}{m:Mk}{O:Nat->Prop}(h:bG z w0 x a ve w un m O){j:Nat}(hj:j<24)(v:Bool):bG z w0 x a ve (w.setCell ⟨x,2+j,none⟩ (.bool v)) (un.set j v) m O/\Fr O w O (w.setCell ⟨x,2+j,none⟩ (.bool v)):=by
 obtain⟨vb,us,vss,h⟩:=h;obtain⟨h1,h2⟩:=h.Ef hj v;exact⟨⟨vb,us,vss,h1⟩,h2⟩
theorem bG.OF {z x a:Nat}{w0 w:World}{ve:Value}{un:List Bool}{m:Mk}{O:Nat->Prop}(h:bG z w0 x a ve w un m O){j:Nat}(hj:j<24):w.cell? ⟨x,2+j,none⟩=some (.bool (un.getD j false))/\w.frozen? ⟨x,2+j,none⟩=false:=by
 obtain⟨vb,us,vss,h⟩:=h;exact h.OE hj
section
variable {z x a ap:Nat} {w0 w:World} {un:List Bool} {m:Mk} {O:Nat->Prop} {q:QP} {vl vb:Value} {us:List Value} {vss:List (List (Value×Value))} {E:List (List Nat)}
set_option maxRecDepth 20000 in
set_option maxHeartbeats 4000000 in
theorem x6 (S:Src z a w0 q vl vb us vss E)(h:bG z w0 x a (.slice (some ⟨ap,0,none⟩) q.blocks.length q.blocks.length) w un m O)(hR:cL w ap E)(b:Nat)(hb:b<q.blocks.length):
  Calls Tryz.prog 80 #[.pointer (some ⟨x,0,none⟩),.int .i64 (b:Nat)] w fun e w'=>e=.returned (.tuple #[])/\bG z w0 x a (.slice (some ⟨ap,0,none⟩) q.blocks.length q.blocks.length) w' (lF q (q.blocks.getD b []) (E.getD b []) un) m O/\Fr O w O w':=by
 have rJ:=h.from.size;have KV:b<E.length:=by rw[S.len];exact hb
 have So:(b:Int)<(q.blocks.length:Nat):=by omega
 have hE:=hR.ok KV;have has:=hR.has b KV;have Lh:=hR.of b KV;obtain⟨x1,x2⟩:w.cell? ⟨x,0,none⟩=some (.pointer (some ⟨a,0,none⟩))/\w.cell? ⟨x,1,none⟩=some (.slice (some ⟨ap,0,none⟩) q.blocks.length q.blocks.length):=by obtain⟨_,_,_,h⟩:=h;exact⟨h.facts.1,h.facts.2.1⟩
 obtain⟨Z,hZ⟩:∃Z:Array Value,(#[.int .u8 0,.int .u8 0,.int .u8 0,.int .u8 0,.int .u8 0,.int .u8 0,.int .u8 0,.int .u8 0,.int .u8 0,.int .u8 0,.int .u8 0,.int .u8 0,.int .u8 0,.int .u8 0,.int .u8 0,.int .u8 0,.int .u8 0,.int .u8 0,.int .u8 0,.int .u8 0,.int .u8 0,.int .u8 0,.int .u8 0,.int .u8 0]:Array Value)=Z:=⟨_,rfl⟩;have HZ:Hid (Z=(ag ak).toArray):=hZ.symm;obtain⟨W2,p5⟩:∃W2,w.alloc (.cells Z 209)=W2:=⟨_,rfl⟩;have bu:Below w.heap.size w W2:=by rw[<-p5];exact(Below.refl _ _).alloc (jC _) _
 have sQ:aj W2 w.heap.size ak:=by rw[<-p5,HZ.out];exact aj.new w (by decide)
 have fp:=aj.room sQ;have mP:=fu hE.len;obtain⟨V,hV⟩:∃V,W2.setCells w.heap.size 0 (ag (E.getD b []))=V:=⟨_,rfl⟩;have Hy:aj V w.heap.size (E.getD b []):=by rw[<-hV];exact aj.store sQ hE.len
 have NG:Below w.heap.size w V:=by rw[<-hV];exact aU bu (jC _) _ _
 have JN:=h.below NG;have OO:Fr O w O V:=Fr.of NG;have OR:¬O w.heap.size:=h.fresh (jC _);have SV:=S.below JN.from;generalize E.getD b []=e0 at*;obtain⟨gb,cb,adk,ck,rfl,ym,sX,aQ,DW⟩:=et SV.prog b hb;obtain⟨p0,p1,-,-⟩:=fe.facts SV.prog;obtain⟨y1,-⟩:=JN.zero;have HB:Hid (cH z w0 (.slice adk (q.blocks.getD b []).length ck) (q.blocks.getD b []) (vss.getD b [])):=by
  have h1:=S.prog.each b hb;rw[DW]at h1;exact h1
 have oF:∀l∈q.blocks.getD b [],iB q.locals.length q.blocks.length l:=S.ok.lines _ (by simp[hb]);have mO:=S.long b;clear DW;generalize q.blocks.getD b []=aD at*;generalize vss.getD b []=vsj at*;go_enter Tryz.func80,Tryz.ntmps80
 go_upto_region 1 with fail
 clear p5 hV has Lh x1 x2 fp mP bu sQ NG hR;go_wp2
 go_loopg [28] (aD.length) (fun g v28 wr=>∃(k:Nat),k<=aD.length/\g+k=aD.length/\v28=.int .i64 k/\bG z w0 x a (.slice (some ⟨ap,0,none⟩) q.blocks.length q.blocks.length) wr (lF q (aD.take k) e0 un) m O/\aj wr w.heap.size (eH q (aD.take k) e0)/\Fr O w O wr)
 case atStart=>exact⟨0,jQ _,rfl,rfl,JN,Hy,OO⟩
 case round=>
  obtain⟨k,hk,yp,rfl,iC,rA,DO⟩:=hrel;obtain⟨wo,UO⟩:∃wo:World,wo=wr:=⟨_,rfl⟩;subst UO;clear JN Hy OO aQ p0 p1 y1;by_cases aP:k<aD.length
  ·obtain⟨gl,apl,cp,an,cn,rfl,-,DS,rH,k0,k1,k2,k3,k4,k5,Cd⟩:=iI HB.out k aP;have hl:=oF (aD.getD k ab.nil) (by simp[aP]);have Cs:=qv q (aD.take k) hE;have HI:Hid (lF q (aD.take (k+1)) e0 un=gF (aR q (aD.getD k ab.nil) (eH q (aD.take k) e0)) (bf q (aD.getD k ab.nil)) (lF q (aD.take k) e0 un)):=by
    unfold Hid;rw[eY aP ab.nil,zn]
   have HT:Hid (eH q (aD.take (k+1)) e0=au q (aD.getD k ab.nil) (eH q (aD.take k) e0)):=by unfold Hid;rw[eY aP ab.nil,ma]
   have c0:=(iC.from.cell (p:=⟨gl,k*6,none⟩) rH).trans k0;have c1:=(iC.from.cell (p:=⟨gl,k*6+1,none⟩) rH).trans k1;have c2:=(iC.from.cell (p:=⟨gl,k*6+2,none⟩) rH).trans k2;have c3:=(iC.from.cell (p:=⟨gl,k*6+3,none⟩) rH).trans k3;have c4:=(iC.from.cell (p:=⟨gl,k*6+4,none⟩) rH).trans k4;have c5:=(iC.from.cell (p:=⟨gl,k*6+5,none⟩) rH).trans k5;clear k0 k1 k2 k3 k4 k5;have EX:(k:Int)<aD.length:=by omega
   generalize aD.getD k ab.nil=l at*;generalize eH q (aD.take k) e0=t at*;generalize lF q (aD.take k) e0 un=uk at*;have ko:Below wo.heap.size wo (wo.alloc (.cells #[.int .i64 (l.num:Nat),.int .i64 (l.op:Nat),.slice apl l.places.length cp,.int .i64 l.number,.int .i64 l.flag,.slice an l.next.length cn] 115)):=(Below.refl _ _).alloc (jC _) _;have vw:(wo.alloc (.cells #[.int .i64 (l.num:Nat),.int .i64 (l.op:Nat),.slice apl l.places.length cp,.int .i64 l.number,.int .i64 l.flag,.slice an l.next.length cn] 115)).heap[wo.heap.size]?=some (.cells #[.int .i64 (l.num:Nat),.int .i64 (l.op:Nat),.slice apl l.places.length cp,.int .i64 l.number,.int .i64 l.flag,.slice an l.next.length cn] 115 (0,0)):=jD;have YE:(wo.alloc (.cells #[.int .i64 (l.num:Nat),.int .i64 (l.op:Nat),.slice apl l.places.length cp,.int .i64 l.number,.int .i64 l.flag,.slice an l.next.length cn] 115)).heap.size=wo.heap.size+1:=by simp
   go_upto_region 4 with fail
   generalize (wo.alloc (.cells #[.int .i64 (l.num:Nat),.int .i64 (l.op:Nat),.slice apl l.places.length cp,.int .i64 l.number,.int .i64 l.flag,.slice an l.next.length cn] 115))=WL at*;have Sh:=iC.below ko;have BL:=rA.below ko rA.lt;have TD:¬O wo.heap.size:=iC.fresh (jC _);have P6:¬O (wo.heap.size+1):=iC.fresh (by omega);have Sf:=DO.trans (Fr.of ko);have t0:=aj.has BL;have o0:=aj.of BL;obtain⟨A2,sQ⟩:∃A2,WL.alloc (.cells Z 209)=A2:=⟨_,rfl⟩;have bu:Below WL.heap.size WL A2:=by rw[<-sQ];exact(Below.refl _ _).alloc (jC _) _
   have TK:aj A2 (wo.heap.size+1) ak:=by rw[<-sQ,<-YE,HZ.out];exact aj.new WL (by decide)
   have fp:=aj.room TK;have mP:=fu Cs.len;obtain⟨A3,Hw⟩:∃A3,A2.setCells (wo.heap.size+1) 0 (ag t)=A3:=⟨_,rfl⟩;have BK:aj A3 (wo.heap.size+1) t:=by rw[<-Hw];exact aj.store TK Cs.len
   have dR:Below WL.heap.size WL A3:=by rw[<-Hw];exact aU bu (by omega) _ _
   have Nu:=Sh.below dR;have Il:=BL.below dR BL.lt;have xB:=(dR.block wo.heap.size (lt_of_heap vw)).trans vw;have Vo:=Sf.trans (Fr.of dR);have OV:w.heap.size<wo.heap.size:=rA.lt;clear iC rA DO ko c0 c1 c2 c3 c4 c5 Sh vw Sf;go_upto_region 5 with fail
   clear sQ Hw fp mP TK t0 o0 BL bu dR;have YF:=ml q l Cs;go_cut [] (fun wc=>bG z w0 x a (.slice (some ⟨ap,0,none⟩) q.blocks.length q.blocks.length) wc uk m O/\aj wc w.heap.size t/\aj wc (wo.heap.size+1) (aR q l t)/\wc.heap[wo.heap.size]?=some (.cells #[.int .i64 (l.num:Nat),.int .i64 (l.op:Nat),.slice apl l.places.length cp,.int .i64 l.number,.int .i64 l.flag,.slice an l.next.length cn] 115 (0,0))/\Fr O w O wc)
   case first=>
    have jl:Below A3.heap.size A3 A3.drew:=⟨rfl,rfl,rfl,jC _,fun _ _=>rfl⟩;have rz:=Nu.below jl;obtain⟨x0,-⟩:=Nu.zero;have l0:=(cell_of_heap xB 0).trans (by rfl:_=some (Value.int .i64 (l.num:Nat)));have l1:=(cell_of_heap xB 1).trans (by rfl:_=some (Value.int .i64 (l.op:Nat)));have l2:=(cell_of_heap xB 2).trans (by rfl:_=some (Value.slice apl l.places.length cp));have l3:=(cell_of_heap xB 3).trans (by rfl:_=some (Value.int .i64 l.number));have l4:=(cell_of_heap xB 4).trans (by rfl:_=some (Value.int .i64 l.flag));have l5:=(cell_of_heap xB 5).trans (by rfl:_=some (Value.slice an l.next.length cn));have Mr:aj A3.drew (wo.heap.size+1) t:=BK;have KT:=qC q l q.blocks.length z a (wo.heap.size+1) vl _ apl an cp cn t A3.drew (S.pq.below rz.from) S.jt hl (Cd.below rz.from) Mr;have Lc:=lt_of_heap xB;have sZ:=Il.lt;have SX:=OV;go_region_with (go_at_call 125;refine KT.mono ?_;rintro e w1 ⟨rfl,gC,jj⟩)
    all_goals go_wp2_with fail
    all_goals
     go_meet
     case rel=>exact⟨rz.eo Mr P6 (by omega) jj,aj.mm (show aj A3.drew w.heap.size t from Il) jj (by omega),gC,(jj.block wo.heap.size Lc (by omega)).trans xB,(Vo.trans (Fr.of jl)).eo jj (by omega)⟩
   case rest=>
    obtain⟨Ks,OU,Tv,Ln,Vp⟩:=hcut;clear Nu BK Il xB Vo;obtain⟨x0,x1⟩:=Ks.zero;have l0:=(cell_of_heap Ln 0).trans (by rfl:_=some (Value.int .i64 (l.num:Nat)));have l1:=(cell_of_heap Ln 1).trans (by rfl:_=some (Value.int .i64 (l.op:Nat)));have l2:=(cell_of_heap Ln 2).trans (by rfl:_=some (Value.slice apl l.places.length cp));have l3:=(cell_of_heap Ln 3).trans (by rfl:_=some (Value.int .i64 l.number));have l4:=(cell_of_heap Ln 4).trans (by rfl:_=some (Value.int .i64 l.flag));have l5:=(cell_of_heap Ln 5).trans (by rfl:_=some (Value.slice an l.next.length cn));have KF:=xv G6 x0 x1 (S.pq.below Ks.from) S.some S.jt (Cd.below Ks.from) hl;obtain⟨XV,yo⟩:=jz hl S.jt;generalize bf q l=fr at*;generalize aR q l t=tk at*;go_wp2_with (go_at_call 126;refine KF.mono ?_;rintro e WF ⟨ad,c,rfl,hP,OZ⟩)
    have Vu:=Ks.below OZ;have VD:=OU.below OZ OU.lt;have Vs:=Tv.below OZ Tv.lt;have UE:=(OZ.block wo.heap.size (lt_of_heap Ln)).trans Ln;have Vq:=Vp.trans (Fr.of OZ);have Vx:∀g,(Value.slice ad fr.length c).ownBlock=some g->¬O g:=fun g hg=>Ks.fresh (hP.lt g hg).1
    clear KF l0 l1 l2 l3 l4 l5 x0 x1 Ks OU Tv Ln Vp OZ;go_loopg [43] (fr.length) (fun g v43 wr=>∃(j:Nat),j<=fr.length/\g+j=fr.length/\v43=.int .i64 j/\bG z w0 x a (.slice (some ⟨ap,0,none⟩) q.blocks.length q.blocks.length) wr (gF tk (fr.take j) uk) m O/\Fr O WF O wr)
    case atStart=>exact⟨0,jQ _,rfl,rfl,Vu,Fr.refl _ _⟩
    case round=>
     obtain⟨j,hj,SN,rfl,PZ,Mn⟩:=hrel;by_cases zb:j<fr.length
     ·have Vz:ay _ wr (.slice ad fr.length c) fr:=qu hP Mn Vx;obtain⟨gp,rfl,-,kC,Cl,d1,d2⟩:=bB Vz j zb;have lf:=XV (fr.getD j (0,0)) (by simp[zb]);have HS:Hid (gF tk (fr.take (j+1)) uk=if dW (tk.getD (ah (fr.getD j (0,0))) 0)=true then(gF tk (fr.take j) uk).set (ah (fr.getD j (0,0))) true else gF tk (fr.take j) uk):=by
       unfold Hid;rw[eY zb (0,0),BU]
      generalize fr.getD j (0,0)=p at*;generalize gF tk (fr.take j) uk=uj at*;have Q2:(j:Int)<fr.length:=by omega
      have gO:ah p<24:=by unfold ah;split<;>omega
      have Im:(ah p:Int)<24:=by omega
      have Tx:=aj.fr Vs Mn P6;have aO:Below wr.heap.size wr (wr.alloc (.cells #[.int .i64 (p.1:Nat),.int .i64 (p.2:Nat)] 119)):=(Below.refl _ _).alloc (jC _) _;have Rs:(wr.alloc (.cells #[.int .i64 (p.1:Nat),.int .i64 (p.2:Nat)] 119)).heap[wr.heap.size]?=some (.cells #[.int .i64 (p.1:Nat),.int .i64 (p.2:Nat)] 119 (0,0)):=jD;go_upto_region 9 with fail
      generalize (wr.alloc (.cells #[.int .i64 (p.1:Nat),.int .i64 (p.2:Nat)] 119))=A1 at*;have Tw:=Tx.below aO Tx.lt;have t0:=aj.has Tw;have o0:=aj.of Tw;have p0:A1.cell? ⟨wr.heap.size,0,none⟩=some (.int .i64 (p.1:Nat)):=by rw[cell_of_heap Rs];rfl
      have p1:A1.cell? ⟨wr.heap.size,1,none⟩=some (.int .i64 (p.2:Nat)):=by rw[cell_of_heap Rs];rfl
      have KU:=kH tk YF p lf A1;have OP:=PZ.below aO;have Tt:=Mn.trans (Fr.of aO);clear PZ Mn Vz d1 d2 aO Tx;cases hu:dW (tk.getD (ah p) 0)with
      |true=>
       rw[hu]at KU;have Tb:Hid (gF tk (fr.take (j+1)) uk=uj.set (ah p) true):=HS.out.trans (jb hu);clear HS hu;go_upto_region 10 with(go_at_call 127;refine KU.mono ?_;rintro e w5 ⟨rfl,gi⟩)
       have XA:=OP.below gi;have Xr:=Tt.trans (Fr.of gi);have E7:=(gi.block wr.heap.size (lt_of_heap Rs)).trans Rs;have q0:w5.cell? ⟨wr.heap.size,0,none⟩=some (.int .i64 (p.1:Nat)):=by rw[cell_of_heap E7];rfl
       have q1:w5.cell? ⟨wr.heap.size,1,none⟩=some (.int .i64 (p.2:Nat)):=by rw[cell_of_heap E7];rfl
       clear KU t0 o0 p0 p1 OP Tt Rs Tw;have jl:Below w5.heap.size w5 w5.drew:=⟨rfl,rfl,rfl,jC _,fun _ _=>rfl⟩;have rz:=XA.below jl;have KS:=cf p w5.drew (by omega);go_region_with (go_at_call 62;refine KS.mono ?_;rintro e w6 ⟨rfl,vI⟩;have Tz:=rz.below vI;obtain⟨u1,u2⟩:=Tz.OF gO)
       all_goals go_wp2_with fail
       all_goals
        go_roundg (fr.length-(j+1))
        case measure=>omega
        case rel=>exact⟨j+1,by omega,by omega,by go_num,by rw[Tb.out];exact(Tz.Ef gO true).1,Xr.trans ((Fr.of jl).trans ((Fr.of vI).trans (Tz.Ef gO true).2))⟩
      |false=>
       rw[hu]at KU;have Tb:Hid (gF tk (fr.take (j+1)) uk=uj):=HS.out.trans (ja (by rw[hu];decide));clear HS hu;go_wp2_with (go_at_call 127;refine KU.mono ?_;rintro e w5 ⟨rfl,gi⟩)
       go_roundg (fr.length-(j+1))
       case measure=>omega
       case rel=>exact⟨j+1,by omega,by omega,by go_num,by rw[Tb.out];exact OP.below gi,Tt.trans (Fr.of gi)⟩
     ·have rI:j=fr.length:=by omega
      subst rI;rw[List.take_length]at PZ;have XL:=aj.fr VD Mn OR;have Lo:=(Mn.block wo.heap.size (lt_of_heap UE) TD).trans UE;have Xt:=Vq.trans Mn;clear Vu VD Vs UE Vq Vx hP Mn;go_upto_region 12 with fail
      have jl:Below wr.heap.size wr wr.drew:=⟨rfl,rfl,rfl,jC _,fun _ _=>rfl⟩;have rz:=PZ.below jl;have Mr:aj wr.drew w.heap.size t:=XL;obtain⟨x0,-⟩:=PZ.zero;have l0:=(cell_of_heap Lo 0).trans (by rfl:_=some (Value.int .i64 (l.num:Nat)));have l1:=(cell_of_heap Lo 1).trans (by rfl:_=some (Value.int .i64 (l.op:Nat)));have l2:=(cell_of_heap Lo 2).trans (by rfl:_=some (Value.slice apl l.places.length cp));have l3:=(cell_of_heap Lo 3).trans (by rfl:_=some (Value.int .i64 l.number));have l4:=(cell_of_heap Lo 4).trans (by rfl:_=some (Value.int .i64 l.flag));have l5:=(cell_of_heap Lo 5).trans (by rfl:_=some (Value.slice an l.next.length cn));have KP:=mc q l q.blocks.length z a w.heap.size vl _ apl an cp cn t wr.drew (S.pq.below rz.from) S.jt hl (Cd.below rz.from) Mr Cs.lt;go_region_with (go_at_call 128;refine KP.mono ?_;rintro e w3 ⟨rfl,BK,vH⟩)
      all_goals go_wp2_with fail
      all_goals
       go_roundg (aD.length-(k+1))
       case measure=>omega
       case rel=>exact⟨k+1,by omega,by omega,by go_num,by rw[HI.out];exact rz.eo Mr OR (by omega) vH,by rw[HT.out];exact BK,(Xt.trans (Fr.of jl)).eo vH (jC _)⟩
  ·have la:k=aD.length:=by omega
   subst la;rw[List.take_length]at iC;go_wp2
   go_end0
   exact⟨rfl,iC,DO⟩
end
end El
namespace El
open Go Go.RowKit Sq Aux Go.Proofs.YtmlgajhhnojdjaaGreatDoor.Own PrjF PrjG PrjJ PrjK PrjL PrjM PrjO PrjP PrjQ PrjS PrjT PrjU FlwA FlwB FlwE FlwF FlwG FlwI FlwJ FlwK FlwL FlwM FlwN FlwO FlwP FlwQ FlwR
section
variable {z a:Nat} {w:World} {q:QP} {vl vb:Value} {us:List Value} {vss:List (List (Value×Value))}
set_option maxRecDepth 20000 in
theorem zD (h:fe z a w q vl vb us vss)(h0:0<q.blocks.length)(hn:q.blocks.length<=4000)(dS:q.locals.length<=12)(hq:vZ q.blocks.length q)(cD:∀j,(q.blocks.getD j []).length<=4000)
  (I:List (List Nat)->(Nat->Bool)->Prop) (BH:I (cZ (List.replicate q.blocks.length ak) 0 aA) (eh (List.replicate q.blocks.length ak) (fun _=>false) 0 aA))
  (hI:∀E O b,vB E->E.length=q.blocks.length->b<q.blocks.length->O b=true->I E O->I (dx q E (bH O b false) b).2.1 (dx q E (bH O b false) b).2.2):
  Calls Tryz.prog 79 #[.pointer (some ⟨a,0,none⟩)] w fun e w'=>∃ap E',e=.returned (.slice (some ⟨ap,0,none⟩) q.blocks.length q.blocks.length)/\cL w' ap E'/\E'.length=q.blocks.length/\I E' (fun _=>false)/\w.heap.size<=ap/\Below w.heap.size w w':=by
 have yo:∀(p ad mb:Option _) (l c:Nat) (W:World),Sem.run Tryz.prog (Instr.field 165 (.agg #[.pointer p,.slice ad l c,.map mb]) 1) W=.ok (.slice ad l c) W:=fun p ad mb l c W=>by kernel_rfl
 have KW:=vg h h0 hn dS hq cD I BH hI;go_enter Tryz.func79,Tryz.ntmps79
 go_wp2_with (go_at_call 90;refine KW.mono ?_;rintro e w1 ⟨ap,mb,E',O',rfl,hP,hl,hR,hO,GL,XG,GM,Le,hB⟩)
 go_ret
 have XE:O'=fun _=>false:=funext XG
 rw[XE]at GL;exact⟨ap,E',rfl,hR,hl,GL,GM,hB⟩
end
end El
namespace Aux
open Go
def Tj (P:Program)(c:Code)(Q:Exit->Act->World->Prop):Exit->Act->World->Prop
 | .goto l,a,w=>∃r,findLabel c l=some r/\r.wp P (Exit.noGoto Q) a w
 |e,a,w=>Q e a w
section
variable {P:Program} {a:Act} {w:World} {Q:Exit->Act->World->Prop} {c:Code}
theorem BD (h:c.wp P (Tj P c Q) a w):(Code.scope c).wp P Q a w:=by
 intro b k cs;obtain⟨e,a₁,w₁,hq,rE⟩:=h b (.inScope c::k) cs;cases e with
 |normal=>exact⟨.normal,a₁,w₁,hq,.head step_scope (Steps.trans rE (.one step_inScope))⟩
 |exit id=>exact⟨.exit id,a₁,w₁,hq,fun k' hk=> .head step_scope (rE k' (by simp[exitTo,hk]))⟩
 |goto l=>
  obtain⟨r,hf,hr⟩:=hq;have hg:gotoIn l (.inScope c::k)=some (.code r:: .inScope c::k):=by simp[gotoIn,hf]
  obtain⟨e₂,a₂,w₂,hq₂,rE₂⟩:=hr b (.inScope c::k) cs;have h1:=rE _ hg;cases e₂ with
  |normal=>exact⟨.normal,a₂,w₂,hq₂,.head step_scope (Steps.trans h1 (Steps.trans rE₂ (.one step_inScope)))⟩
  |exit id=>exact⟨.exit id,a₂,w₂,hq₂,fun k' hk=> .head step_scope (Steps.trans h1 (rE₂ k' (by simp[exitTo,hk])))⟩
  |goto l'=>exact hq₂.elim
  |ret=>exact⟨_,a₂,w₂,hq₂,.of_steps (.head step_scope h1) rE₂⟩
  |panic ch=>exact⟨_,a₂,w₂,hq₂,.of_steps (.head step_scope h1) rE₂⟩
  |outgrown=>exact⟨_,a₂,w₂,hq₂,.of_steps (.head step_scope h1) rE₂⟩
 |ret=>exact⟨_,a₁,w₁,hq,.of_steps (.one step_scope) rE⟩
 |panic ch=>exact⟨_,a₁,w₁,hq,.of_steps (.one step_scope) rE⟩
 |outgrown=>exact⟨_,a₁,w₁,hq,.of_steps (.one step_scope) rE⟩
def qo (J:Nat->Act->World->Prop)(Q:Exit->Act->World->Prop):Exit->Act->World->Prop
 | .goto l,a,w=>J l a w
 |e,a,w=>Q e a w
theorem vP {J:Nat->Act->World->Prop}:qo J Q .normal a w=Q .normal a w:=rfl
theorem Az {J:Nat->Act->World->Prop}(id:Nat):qo J Q (.exit id) a w=Q (.exit id) a w:=rfl
theorem CC {J:Nat->Act->World->Prop}:qo J Q .ret a w=Q .ret a w:=rfl
theorem yE {J:Nat->Act->World->Prop}(ch:List PanicEntry):qo J Q (.panic ch) a w=Q (.panic ch) a w:=rfl
theorem AA {J:Nat->Act->World->Prop}(l:Nat):qo J Q (.goto l) a w=J l a w:=rfl
theorem BE (h:∀J:Nat->Act->World->Prop,(∀l r a w,findLabel c l=some r->r.wp P (Exit.noGoto Q) a w->J l a w)->c.wp P (qo J Q) a w):(Code.scope c).wp P Q a w:=by
 refine BD ?_;have:=h (fun l a w=>∃r,findLabel c l=some r/\r.wp P (Exit.noGoto Q) a w) (fun l r a w h1 h2=>⟨r,h1,h2⟩);refine Code.wp_mono (fun e a w he=> ?_) this;cases e<;>exact he
end
end Aux
namespace Own
open Go Go.RowKit Sq Aux PrjJ PrjK PrjL PrjM FlwA FlwB
def br (u v:Value):List Value:=[.slice none 0 0,.int .i64 0,.slice none 0 0,u,v]++List.replicate 36 (.int .i64 0)
def MR (v:Value):Prop:=∃p,v=.pointer p
def RN (v:Value):Prop:=∃ad l c,v=.slice ad l c
@[simp] theorem Py (p : Option Addr) : MR (.pointer p) = True := eq_true ⟨p, rfl⟩
@[simp] theorem SZ (ad : Option Addr) (l c : Nat) : RN (.slice ad l c) = True := eq_true ⟨ad, l, c, rfl⟩
theorem vW (p ad:Option Addr)(l c:Nat)(w:World):(Instr.build 104 #[(1,.pointer p),(2,.slice ad l c)]).run Tryz.prog w=.ok (.agg (br (.pointer p) (.slice ad l c)).toArray) w:=by
 kernel_rfl
theorem vV (w:World):(Instr.alloc 104 true (.tuple #[])).run Tryz.prog w=.ok (.pointer (some ⟨w.heap.size,0,none⟩)) (w.alloc (.cells (br (.pointer none) (.slice none 0 0)).toArray 104)):=by
 kernel_rfl
theorem pM (u v:Value):(br u v).length=41:=rfl
theorem Cv:(Tryz.prog.info? 104).map (·.size)=some 41:=by kernel_rfl
def MQ (v:Value):Prop:=∃p ad l c,v=.agg (br (.pointer p) (.slice ad l c)).toArray
@[simp] theorem Px (p ad : Option Addr) (l c : Nat) : MQ (.agg (br (.pointer p) (.slice ad l c)).toArray) = True := eq_true ⟨p, ad, l, c, rfl⟩
def G5:Value->List Value
 | .agg xs=>xs.toList
 |_=>[]
@[simp] theorem PM (u v : Value) : G5 (.agg (br u v).toArray) = br u v := rfl
def Dz (w:World)(v:Value):Prop:=∃b,v=.pointer (some ⟨b,0,none⟩)/\w.there b 0 41
def G8:Value->Nat
 | .pointer (some ad)=>ad.block
 |_=>0
@[simp] theorem OL (ad : Addr) : G8 (.pointer (some ad)) = ad.block := rfl
theorem LX (p ad:Option Addr)(l c:Nat):∀u∈br (.pointer p) (.slice ad l c),u.oneCell'=true:=by
 intro u hu;simp only[br,List.cons_append,List.nil_append,List.mem_cons,List.mem_replicate]at hu;rcases hu with rfl|rfl|rfl|rfl|rfl|⟨-,rfl⟩<;>rfl
section
variable (d:Option Tmp) (x y:Operand) (t:TypeId) (ps:String) (af:Array Edge) (g:Option (Nat×Bool)) (a:Act) (w:World) (K:Act->World->Prop) (Q:Exit->Act->World->Prop)
theorem y8 (h:MR (a.eval x))(h':RN (a.eval y)):Oper.wp Tryz.prog {dst:=d,op:=Op.build 104 #[(1,x),(2,y)],type:=t,pos:=ps,after:=af,guard:=g} a w K Q=K (a.put d (.agg (br (a.eval x) (a.eval y)).toArray)) w:=by
 obtain⟨p,hp⟩:=h;obtain⟨ad,l,c,hs⟩:=h';have:=vW p ad l c w;unfold Oper.wp execOp;simp only[List.map_toArray,List.map_cons,List.map_nil,hp,hs,Sem.run_bind,Sem.run_pure,Result.andThen_ok,this];rfl
theorem y7:Oper.wp Tryz.prog {dst:=d,op:=Op.alloc 104,type:=t,pos:=ps,after:=af,guard:=g} a w K Q=K (a.put d (.pointer (some ⟨w.heap.size,0,none⟩))) (w.alloc (.cells (br (.pointer none) (.slice none 0 0)).toArray 104)):=by
 have:=vV w;unfold Oper.wp execOp;simp only[Sem.run_bind,Sem.run_pure,Result.andThen_ok,this];rfl
theorem y9 (h:Dz w (a.eval x))(h':MQ (a.eval y)):Oper.wp Tryz.prog {dst:=d,op:=Op.store 104 x y,type:=t,pos:=ps,after:=af,guard:=g} a w K Q=K (a.put d undef) (w.setCells (G8 (a.eval x)) 0 (G5 (a.eval y))):=by
 obtain⟨b,hb,hh⟩:=h;obtain⟨p,ad,l,c,hy⟩:=h';have:=run_storeAt_mid (P:=Tryz.prog) w b 0 104 (br (.pointer p) (.slice ad l c)).toArray hh Cv (all_oneCell_toArray (LX p ad l c));unfold Oper.wp execOp;simp only[hb,hy,Sem.run_bind,Sem.run_pure,Result.andThen_ok,this];rfl
theorem Bl (w:World)(u v:Value):Dz (w.alloc (.cells (br u v).toArray 104)) (.pointer (some ⟨w.heap.size,0,none⟩)):=by
 refine⟨_,rfl,fun j hj=> ?_⟩;have h:(w.alloc (.cells (br u v).toArray 104)).heap[w.heap.size]?=some (.cells (br u v).toArray 104 (0,0)):=jD;refine⟨?_,frozen_of_heap h _⟩;rw[cell_of_heap h,Nat.zero_add];simp only[List.getElem?_toArray];rw[jB (by rw[pM];exact hj)];rfl
end
theorem LW (w:World)(u v u' v':Value):((w.alloc (.cells (br u v).toArray 104)).setCells w.heap.size 0 (br u' v')).heap[w.heap.size]?=some (.cells (br u' v').toArray 104 (0,0))/\Below w.heap.size w ((w.alloc (.cells (br u v).toArray 104)).setCells w.heap.size 0 (br u' v')):=by
 have h:(w.alloc (.cells (br u v).toArray 104)).heap[w.heap.size]?=some (.cells (br u v).toArray 104 (0,0)):=jD;refine⟨?_,aU ((Below.refl _ _).alloc (jC _) _) (jC _) _ _⟩;obtain⟨cs',h1,h2,h3⟩:=eK w.heap.size (br u' v') 0 _ _ _ _ h;have e:cs'=(br u' v').toArray:=by
  apply Array.ext_getElem?
  intro j;rw[h3];by_cases hj:j<41
  ·rw[jb (by simp[pM];exact hj)];simp
  ·rw[ja (by simp[pM];omega),Array.getElem?_eq_none (by simp[pM];omega),Array.getElem?_eq_none (by simp[pM];omega)]
 rw[h1,e]
end Own
end Go.Proofs.YtmlgajhhnojdjaaGreatDoor

import Derived.Test.YtmlgajhhnojdjaaGreatDoorUAM
set_option maxHeartbeats 8000000
namespace Go.Proofs.YtmlgajhhnojdjaaGreatDoor
namespace FlwG
open Go Go.RowKit Sq Aux PrjF PrjG PrjJ PrjK PrjL PrjM PrjN PrjO PrjP PrjR PrjS PrjT FlwA FlwB FlwC FlwD FlwE FlwF
attribute [local go_sem ↓] dd cO
def qW (op:Nat):Bool:=op==2||op==3||op==4||op==5||op==6||op==7||op==10||op==9||op==14
def aq (q:QP)(l:ab)(s:List Nat):List Nat:=
 if qW l.op=true then gu 2 [l.places.getD 0 (0,0)] (aL q l s)
 else if l.op=12 then gu (cJ q (l.places.getD 1 (0,0)) s) (QP.ai q (l.places.getD 0 (0,0))) (aL q l s)
 else if l.op=13 then gu 4 [l.places.getD 0 (0,0)] (aL q l s)
 else if l.op=15 then dQ (QP.ai q (l.places.getD 0 (0,0))) (aL q l s)
 else aL q l s
theorem c7 {ps:List (Nat×Nat)}{j:Nat}(h:j<ps.length):ps.getD j (0,0)∈ps:=by
 rw[jA,jB h];exact jL h
theorem p9 {nl nb:Nat}{l:ab}(h:fY nl nb l)(ho:qW l.op=true\/l.op=12\/l.op=13\/l.op=15):1<=l.places.length:=by
 rw[h.bt];have key:∀op:Fin 23,(qW op.val=true\/op.val=12\/op.val=13\/op.val=15)->1<=((ah op.val).filter dk).length:=by decide
 exact key ⟨l.op,h.op⟩ ho
set_option maxRecDepth 20000 in
theorem pZ (q:QP)(l:ab)(nb z a b:Nat)(v u:Value)(ap an:Option Addr)(cp cn:Nat)(s:List Nat)(w:World)(hp:PQ w a q v u)(bU:q.locals.length<=12)(hl:fY q.locals.length nb l)
  (hA:aC z w l (.slice ap l.places.length cp) (.slice an l.next.length cn)) (hs:av w b s) (hv:∀k,s.getD k 0<16):
  Calls Tryz.prog 128 #[.pointer (some ⟨b,0,none⟩),.pointer (some ⟨a,0,none⟩),.agg #[.int .i64 (l.num:Nat),.int .i64 (l.op:Nat),.slice ap l.places.length cp,.int .i64 l.number,.int .i64 l.flag,.slice an l.next.length cn]] w fun e w'=>e=.returned (.tuple #[])/\av w' b (aq q l s)/\bD b w w':=by
 have aF:Below w.heap.size w (w.alloc (.cells #[.int .i64 (l.num:Nat),.int .i64 (l.op:Nat),.slice ap l.places.length cp,.int .i64 l.number,.int .i64 l.flag,.slice an l.next.length cn] 115)):=(Below.refl _ _).alloc (jC _) _;have kd:=hs.below aF hs.lt;have Ud:=av.has kd;have RT:=av.of kd;have R0:(w.alloc (.cells #[.int .i64 (l.num:Nat),.int .i64 (l.op:Nat),.slice ap l.places.length cp,.int .i64 l.number,.int .i64 l.flag,.slice an l.next.length cn] 115)).heap.size=w.heap.size+1:=by simp
 have hZ:av ((w.alloc (.cells #[.int .i64 (l.num:Nat),.int .i64 (l.op:Nat),.slice ap l.places.length cp,.int .i64 l.number,.int .i64 l.flag,.slice an l.next.length cn] 115)).alloc (.cells #[.int .u8 0,.int .u8 0,.int .u8 0,.int .u8 0,.int .u8 0,.int .u8 0,.int .u8 0,.int .u8 0,.int .u8 0,.int .u8 0,.int .u8 0,.int .u8 0,.int .u8 0,.int .u8 0,.int .u8 0,.int .u8 0,.int .u8 0,.int .u8 0,.int .u8 0,.int .u8 0,.int .u8 0,.int .u8 0,.int .u8 0,.int .u8 0] 209)) (w.heap.size+1) au:=by
  rw[<-R0];exact av.new (w.alloc (.cells #[.int .i64 (l.num:Nat),.int .i64 (l.op:Nat),.slice ap l.places.length cp,.int .i64 l.number,.int .i64 l.flag,.slice an l.next.length cn] 115)) (s:=au) (by decide)
 have gy:=av.room hZ;have qL:=iu hs.1;have tB:=av.store hZ hs.1;have Tf:Below w.heap.size w ((w.alloc (.cells #[.int .i64 (l.num:Nat),.int .i64 (l.op:Nat),.slice ap l.places.length cp,.int .i64 l.number,.int .i64 l.flag,.slice an l.next.length cn] 115)).alloc (.cells #[.int .u8 0,.int .u8 0,.int .u8 0,.int .u8 0,.int .u8 0,.int .u8 0,.int .u8 0,.int .u8 0,.int .u8 0,.int .u8 0,.int .u8 0,.int .u8 0,.int .u8 0,.int .u8 0,.int .u8 0,.int .u8 0,.int .u8 0,.int .u8 0,.int .u8 0,.int .u8 0,.int .u8 0,.int .u8 0,.int .u8 0,.int .u8 0] 209)):=aF.alloc aF.size _;have rA:Below w.heap.size w (((w.alloc (.cells #[.int .i64 (l.num:Nat),.int .i64 (l.op:Nat),.slice ap l.places.length cp,.int .i64 l.number,.int .i64 l.flag,.slice an l.next.length cn] 115)).alloc (.cells #[.int .u8 0,.int .u8 0,.int .u8 0,.int .u8 0,.int .u8 0,.int .u8 0,.int .u8 0,.int .u8 0,.int .u8 0,.int .u8 0,.int .u8 0,.int .u8 0,.int .u8 0,.int .u8 0,.int .u8 0,.int .u8 0,.int .u8 0,.int .u8 0,.int .u8 0,.int .u8 0,.int .u8 0,.int .u8 0,.int .u8 0,.int .u8 0] 209)).setCells (w.heap.size+1) 0 (aj s)):=bp Tf (by omega) _ _;have Df:(((w.alloc (.cells #[.int .i64 (l.num:Nat),.int .i64 (l.op:Nat),.slice ap l.places.length cp,.int .i64 l.number,.int .i64 l.flag,.slice an l.next.length cn] 115)).alloc (.cells #[.int .u8 0,.int .u8 0,.int .u8 0,.int .u8 0,.int .u8 0,.int .u8 0,.int .u8 0,.int .u8 0,.int .u8 0,.int .u8 0,.int .u8 0,.int .u8 0,.int .u8 0,.int .u8 0,.int .u8 0,.int .u8 0,.int .u8 0,.int .u8 0,.int .u8 0,.int .u8 0,.int .u8 0,.int .u8 0,.int .u8 0,.int .u8 0] 209)).setCells (w.heap.size+1) 0 (aj s)).heap[w.heap.size]?=some (.cells #[.int .i64 (l.num:Nat),.int .i64 (l.op:Nat),.slice ap l.places.length cp,.int .i64 l.number,.int .i64 l.flag,.slice an l.next.length cn] 115 (0,0)):=by
  rw[bE _ _ _ _ _ (by omega),((Below.refl (w.heap.size+1) (w.alloc (.cells #[.int .i64 (l.num:Nat),.int .i64 (l.op:Nat),.slice ap l.places.length cp,.int .i64 l.number,.int .i64 l.flag,.slice an l.next.length cn] 115))).alloc (by omega) _).block w.heap.size (by omega)];exact jD
 clear R0;go_enter Tryz.func128,Tryz.ntmps128
 go_upto_region 2 with fail
 generalize (((w.alloc (.cells #[.int .i64 (l.num:Nat),.int .i64 (l.op:Nat),.slice ap l.places.length cp,.int .i64 l.number,.int .i64 l.flag,.slice an l.next.length cn] 115)).alloc (.cells #[.int .u8 0,.int .u8 0,.int .u8 0,.int .u8 0,.int .u8 0,.int .u8 0,.int .u8 0,.int .u8 0,.int .u8 0,.int .u8 0,.int .u8 0,.int .u8 0,.int .u8 0,.int .u8 0,.int .u8 0,.int .u8 0,.int .u8 0,.int .u8 0,.int .u8 0,.int .u8 0,.int .u8 0,.int .u8 0,.int .u8 0,.int .u8 0] 209)).setCells (w.heap.size+1) 0 (aj s))=W at*;have Z2:=hs.lt;have l0:=(cell_of_heap Df 0).trans (by rfl:_=some (Value.int .i64 (l.num:Nat)));have l1:=(cell_of_heap Df 1).trans (by rfl:_=some (Value.int .i64 (l.op:Nat)));have l2:=(cell_of_heap Df 2).trans (by rfl:_=some (Value.slice ap l.places.length cp));have l3:=(cell_of_heap Df 3).trans (by rfl:_=some (Value.int .i64 l.number));have l4:=(cell_of_heap Df 4).trans (by rfl:_=some (Value.int .i64 l.flag));have l5:=(cell_of_heap Df 5).trans (by rfl:_=some (Value.slice an l.next.length cn));have hpW:=hp.below rA;have Vj:=hA.below rA;have Y2:=hs.below rA Z2;have KT:=vC q l nb z a b v u ap an cp cn s W hpW bU hl Vj Y2;clear Ud RT gy qL hZ;go_upto_region 5 with(go_at_call 125;refine KT.mono ?_;rintro e w1 ⟨rfl,ju,lU⟩;have cu:w1.heap[w.heap.size]?=_:=(lU.block w.heap.size (lt_of_heap Df) (by omega)).trans Df;have m1:=(cell_of_heap cu 1).trans (by rfl:_=some (Value.int .i64 (l.op:Nat)));have m2:=(cell_of_heap cu 2).trans (by rfl:_=some (Value.slice ap l.places.length cp)))
 have oU:av w1 (w.heap.size+1) s:=⟨tB.1,(lU.block (w.heap.size+1) tB.lt (by omega)).trans tB.2⟩;have Di:=hpW.lx lU Y2;have J2:=Mu Vj lU Y2;have Ik:bD b w w1:=(bD.of rA).trans lU;clear l0 l1 l2 l3 l4 l5 KT tB Df;by_cases pL:qW l.op=true
 ·have Tq:=p9 hl (.inl pL);obtain⟨g,rfl,gP,hg,c1,c2⟩:=ax J2 rfl 0 (by omega);have hx:=(hl.places _ (c7 (j:=0) (by omega))).1;have hr:Hid (aq q l s=gu 2 [l.places.getD 0 (0,0)] (aL q l s)):=by unfold Hid;rw[aq,jb pL]
  have d1:w1.cell? ⟨g,0,none⟩=some (.int .i64 ((l.places.getD 0 (0,0)).1:Nat)):=c1;have d2:w1.cell? ⟨g,1,none⟩=some (.int .i64 ((l.places.getD 0 (0,0)).2:Nat)):=c2;have hid:(0:Int)<(l.places.length:Nat):=by omega
  clear c1 c2;generalize l.places.getD 0 (0,0)=x at*;have QO:Below w1.heap.size w1 (w1.alloc (.cells #[.int .i64 (x.1:Nat),.int .i64 (x.2:Nat)] 119)):=(Below.refl _ _).alloc (jC _) _;have KP:=iz 2 b _ 1 1 _ [x] (aL q l s) _ (ju.below QO ju.lt) (gQ w1 x (n:=w1.heap.size) rfl) (fun y hy=>by simp only[List.mem_singleton]at hy;subst hy;omega) (by decide);generalize aL q l s=t at*;have E8:l.op=2\/l.op=3\/l.op=4\/l.op=5\/l.op=6\/l.op=7\/l.op=10\/l.op=9\/l.op=14:=by
   simp only[qW,Bool.or_eq_true,beq_iff_eq]at pL;omega
  clear pL;rcases E8 with h|h|h|h|h|h|h|h|h
  all_goals
   rw[h];have HO:Hid (_=_):=h;clear h;go_wp2_with (go_at_call 177;refine KP.mono ?_;rintro e w2 ⟨rfl,qK,lV⟩)
   go_end0
   exact⟨rfl,by rw[hr.out];exact qK,(Ik.on QO).trans lV⟩
 ·by_cases C7:l.op=13
  ·have Tq:=p9 hl (.inr (.inr (.inl C7)));obtain⟨g,rfl,gP,hg,c1,c2⟩:=ax J2 rfl 0 (by omega);have hx:=(hl.places _ (c7 (j:=0) (by omega))).1;have hr:Hid (aq q l s=gu 4 [l.places.getD 0 (0,0)] (aL q l s)):=by unfold Hid;rw[aq,ja pL,ja (by omega),jb C7]
   have d1:w1.cell? ⟨g,0,none⟩=some (.int .i64 ((l.places.getD 0 (0,0)).1:Nat)):=c1;have d2:w1.cell? ⟨g,1,none⟩=some (.int .i64 ((l.places.getD 0 (0,0)).2:Nat)):=c2;have hid:(0:Int)<(l.places.length:Nat):=by omega
   clear c1 c2;generalize l.places.getD 0 (0,0)=x at*;have QO:Below w1.heap.size w1 (w1.alloc (.cells #[.int .i64 (x.1:Nat),.int .i64 (x.2:Nat)] 119)):=(Below.refl _ _).alloc (jC _) _;have KP:=iz 4 b _ 1 1 _ [x] (aL q l s) _ (ju.below QO ju.lt) (gQ w1 x (n:=w1.heap.size) rfl) (fun y hy=>by simp only[List.mem_singleton]at hy;subst hy;omega) (by decide);generalize aL q l s=t at*;clear pL;rw[C7];have HO:Hid (_=_):=C7;clear C7;go_wp2_with (go_at_call 177;refine KP.mono ?_;rintro e w2 ⟨rfl,qK,lV⟩)
   go_end0
   exact⟨rfl,by rw[hr.out];exact qK,(Ik.on QO).trans lV⟩
  ·by_cases lT:l.op=15
   ·have Tq:=p9 hl (.inr (.inr (.inr lT)));obtain⟨g,rfl,gP,hg,c1,c2⟩:=ax J2 rfl 0 (by omega);have hx:=(hl.places _ (c7 (j:=0) (by omega))).1;have hr:Hid (aq q l s=dQ (QP.ai q (l.places.getD 0 (0,0))) (aL q l s)):=by unfold Hid;rw[aq,ja pL,ja (by omega),ja C7,jb lT]
    have d1:w1.cell? ⟨g,0,none⟩=some (.int .i64 ((l.places.getD 0 (0,0)).1:Nat)):=c1;have d2:w1.cell? ⟨g,1,none⟩=some (.int .i64 ((l.places.getD 0 (0,0)).2:Nat)):=c2;have hid:(0:Int)<(l.places.length:Nat):=by omega
    clear c1 c2;generalize l.places.getD 0 (0,0)=x at*;have KH:=c8 q x v u a w1 Di.aM Di.loc hx;generalize aL q l s=t at*;have KT:=fun(W':World) (g c:Nat) (hb:Below w1.heap.size w1 W') (z:Nat) (hP:aI z W' (.slice (some ⟨g,0,none⟩) (QP.ai q x).length c) (QP.ai q x))=>Ar b z _ c _ (QP.ai q x) t W' (ju.below hb ju.lt) hP (cP (by omega))
    clear pL C7;rw[lT];have HO:Hid (_=_):=lT;clear lT;go_wp2_with (first
     |(go_at_call 102;refine KH.mono ?_;rintro e w2 ⟨g2,c2,rfl,me,bH⟩)
     |(go_at_call 174;refine(KT w2 g2 c2 bH _ me).mono ?_;rintro e w3 ⟨rfl,GZ,A0⟩))
    go_end0
    exact⟨rfl,by rw[hr.out];exact GZ,(Ik.on bH).trans A0⟩
   ·by_cases bR:l.op=12
    ·have hlen:l.places.length=2:=by rw[hl.bt,bR];rfl
     obtain⟨g,rfl,gP,hg,c1,c2⟩:=ax J2 hlen 0 (by omega);obtain⟨g',e,-,-,c3,c4⟩:=ax J2 hlen 1 (by omega);simp only[Option.some.injEq,Addr.mk.injEq,and_true]at e;subst e;have hx:=(hl.places _ (c7 (j:=0) (by omega))).1;have hy:=(hl.places _ (c7 (j:=1) (by omega))).1;have hr:Hid (aq q l s=gu (cJ q (l.places.getD 1 (0,0)) s) (QP.ai q (l.places.getD 0 (0,0))) (aL q l s)):=by unfold Hid;rw[aq,ja pL,jb bR]
     have HC:Hid (∀w',Below w1.heap.size w1 w'->w'.cell? ⟨g,0,none⟩=some (.int .i64 ((l.places.getD 0 (0,0)).1:Nat))/\w'.cell? ⟨g,1,none⟩=some (.int .i64 ((l.places.getD 0 (0,0)).2:Nat))/\w'.cell? ⟨g,2,none⟩=some (.int .i64 ((l.places.getD 1 (0,0)).1:Nat))/\w'.cell? ⟨g,3,none⟩=some (.int .i64 ((l.places.getD 1 (0,0)).2:Nat))):=fun w' hb=>
      ⟨(hb.cell (p:=⟨g,0,none⟩) hg).trans c1,(hb.cell (p:=⟨g,1,none⟩) hg).trans c2,(hb.cell (p:=⟨g,2,none⟩) hg).trans c3,(hb.cell (p:=⟨g,3,none⟩) hg).trans c4⟩
     clear c1 c2 c3 c4;have Pb:cJ q (l.places.getD 1 (0,0)) s<16:=by
      unfold cJ;split
      ·exact hv _
      ·decide
     generalize l.places.getD 0 (0,0)=x at*;generalize l.places.getD 1 (0,0)=y at*;have lX:Below w1.heap.size w1 w1.drew:=⟨rfl,rfl,rfl,jC _,fun _ _=>rfl⟩;have KH:=fun w' (hb:Below w1.heap.size w1 w')=>c8 q x v u a w' (Di.below hb).aM (Di.below hb).loc hx
     have KM:=fun w' (hb:Below w1.heap.size w1 w')=>MI q (w.heap.size+1) y s v u a w' (Di.below hb).aM (Di.below hb).loc (by omega) hy (oU.below hb oU.lt) (by omega)
     obtain⟨mv,XO⟩:∃mv,mv=cJ q y s:=⟨_,rfl⟩;rw[<-XO]at KM Pb hr;generalize aL q l s=t at*;have KP:=fun(W':World) (g c:Nat) (hb:Below w1.heap.size w1 W') (z:Nat) (hP:aI z W' (.slice (some ⟨g,0,none⟩) (QP.ai q x).length c) (QP.ai q x))=>iz mv b z _ c _ (QP.ai q x) t W' (ju.below hb ju.lt) hP (cP (by omega)) Pb
     obtain⟨d0,d1,d2,d3⟩:=HC.out w1 (Below.refl _ _);have KMd:=KM w1.drew lX;have KHd:=KH w1.drew lX;clear pL C7 lT XO;rw[bR];have HO:Hid (_=_):=bR;rw[hlen];clear bR;go_upto_region 16 with fail
     go_region_with (first
      |(go_at_call 177;refine(KP whA gA cA OH _ Wt).mono ?_;rintro e w4 ⟨rfl,Vq,Wx⟩;have hTT:=(Ik.on OH).trans Wx)
      |(go_at_call 177;refine(KP wmB gB cB Uh _ (aw hPB hmB)).mono ?_;rintro e w4 ⟨rfl,Vq,Wx⟩;have hTT:=(Ik.on Uh).trans Wx)
      |(go_at_call 102;refine(KH wmA RA).mono ?_;rintro e whA ⟨gA,cA,rfl,Wt,jx⟩;have OH:=RA.trans (jx.mono RA.size);obtain⟨d0A2,d1A2,d2A2,d3A2⟩:=HC.out whA OH)
      |(go_at_call 178;refine(KM whB RB).mono ?_;rintro e wmB ⟨rfl,hmB⟩;have Uh:=RB.trans (hmB.mono RB.size);obtain⟨d0B2,d1B2,d2B2,d3B2⟩:=HC.out wmB Uh)
      |(go_at_call 178;refine KMd.mono ?_;rintro e wmA ⟨rfl,XJ⟩;have RA:Below w1.heap.size w1 wmA:=⟨XJ.os,XJ.tape,XJ.output,XJ.size,XJ.block⟩;obtain⟨d0A,d1A,d2A,d3A⟩:=HC.out wmA RA)
      |(go_at_call 102;refine KHd.mono ?_;rintro e whB ⟨gB,cB,rfl,hPB,XA⟩;have RB:Below w1.heap.size w1 whB:=⟨XA.os,XA.tape,XA.output,XA.size,XA.block⟩;obtain⟨d0B,d1B,d2B,d3B⟩:=HC.out whB RB))
     all_goals go_wp2_with fail
     all_goals
      go_end0
      exact⟨rfl,by rw[hr.out];exact Vq,hTT⟩
    ·have hr:Hid (aq q l s=aL q l s):=by unfold Hid;rw[aq,ja pL,ja bR,ja C7,ja lT]
     have E8:l.op=8\/l.op=11\/l.op=16\/l.op=17\/l.op=18\/l.op=19\/l.op=20\/l.op=21\/l.op=22:=by
      have h1:=hl.op;have h2:=hl.Kp;simp only[qW,Bool.or_eq_true,beq_iff_eq]at pL;omega
     generalize aL q l s=t at*;clear pL bR C7 lT;rcases E8 with h|h|h|h|h|h|h|h|h
     all_goals
      rw[h];have HO:Hid (_=_):=h;clear h;go_wp2
      go_end0
      exact⟨rfl,by rw[hr.out];exact ju,Ik⟩
end FlwG
namespace FlwH
open Go Go.RowKit Sq Aux PrjF PrjG PrjJ PrjK PrjL PrjM PrjN PrjO PrjP PrjR PrjS PrjT FlwA FlwB FlwC FlwD FlwE FlwF FlwG
def ab.at (l:ab)(j:Nat):Nat×Nat:=l.places.getD j (0,0)
def aE (q:QP)(l:ab)(s:List Nat):Bool:=
 if l.op=3\/l.op=4\/l.op=5\/l.op=6 then bI 2 [ab.at l 1,ab.at l 2] s
 else if l.op=8\/l.op=19\/l.op=22 then bI 2 [ab.at l 0] s
 else if l.op=9 then bI 2 [ab.at l 1] s||iA (ab.at l 0) s
 else if l.op=10\/l.op=14 then bI 2 [ab.at l 1] s
 else if l.op=11 then bI 2 [ab.at l 0,ab.at l 1] s
 else if l.op=12 then fW q (ab.at l 1) s||iA (ab.at l 0) s
 else if l.op=15 then iA (ab.at l 0) s
 else if l.op=20 then bI 6 [ab.at l 0] s
 else false
theorem CO {z:Nat}{w w':World}(h:Below z w.drew w'):Below z w w':=⟨h.os,h.tape,h.output,h.size,h.block⟩
section
variable {w:World} {b:Nat} {s:List Nat}
theorem cV (fit:Nat)(x:Nat×Nat){n:Nat}(hs:av w b s)(hn:w.heap.size=n)(hx:x.1<12)(hv:∀k,s.getD k 0<16)(hfit:fit=2\/fit=6\/fit=10):
  Calls Tryz.prog 219 #[.pointer (some ⟨b,0,none⟩),.int .u8 (fit:Nat),.slice (some ⟨n,0,none⟩) 1 1] (w.alloc (.cells #[.int .i64 (x.1:Nat),.int .i64 (x.2:Nat)] 119)) fun e w'=>e=.returned (.bool (bI fit [x] s))/\Below w.heap.size w w':=
 (mB fit b n 1 1 _ [x] s _ (hs.below ((Below.refl _ _).alloc (jC _) _) hs.lt) (gQ w x hn) (fun y hy=>by simp only[List.mem_singleton]at hy;subst hy;exact hx) hv hfit).mono fun e w' ⟨h1,h2⟩=>⟨h1,((Below.refl w.heap.size w).alloc (jC _) _).trans (h2.mono (by simp))⟩
theorem kq (fit:Nat)(x y:Nat×Nat){n:Nat}(hs:av w b s)(hn:w.heap.size=n)(hx:x.1<12)(hy:y.1<12)(hv:∀k,s.getD k 0<16)(hfit:fit=2\/fit=6\/fit=10):
  Calls Tryz.prog 219 #[.pointer (some ⟨b,0,none⟩),.int .u8 (fit:Nat),.slice (some ⟨n,0,none⟩) 2 2] (w.alloc (.cells #[.int .i64 (x.1:Nat),.int .i64 (x.2:Nat),.int .i64 (y.1:Nat),.int .i64 (y.2:Nat)] 119)).drew fun e w'=>e=.returned (.bool (bI fit [x,y] s))/\Below w.heap.size w w':=by
 have hp:aI n (w.alloc (.cells #[.int .i64 (x.1:Nat),.int .i64 (x.2:Nat),.int .i64 (y.1:Nat),.int .i64 (y.2:Nat)] 119)).drew (.slice (some ⟨n,0,none⟩) 2 2) [x,y]:=MY w x y hn;have Ma:av (w.alloc (.cells #[.int .i64 (x.1:Nat),.int .i64 (x.2:Nat),.int .i64 (y.1:Nat),.int .i64 (y.2:Nat)] 119)).drew b s:=(hs.below ((Below.refl w.heap.size w).alloc (jC _) (.cells #[.int .i64 (x.1:Nat),.int .i64 (x.2:Nat),.int .i64 (y.1:Nat),.int .i64 (y.2:Nat)] 119)) hs.lt:av (w.alloc (.cells #[.int .i64 (x.1:Nat),.int .i64 (x.2:Nat),.int .i64 (y.1:Nat),.int .i64 (y.2:Nat)] 119)) b s);exact(mB fit b n 2 2 _ [x,y] s _ Ma hp (fun z hz=>by simp only[List.mem_cons,List.not_mem_nil,or_false]at hz;exact hz.elim (fun e=>e▸hx) (fun e=>e▸hy)) hv hfit).mono fun e w' ⟨h1,h2⟩=>⟨h1,((Below.refl w.heap.size w).alloc (jC _) _).trans ((CO h2).mono (by simp))⟩
end
set_option maxRecDepth 20000 in
theorem Hy (q:QP)(l:ab)(nb z a b:Nat)(v u:Value)(ap an:Option Addr)(cp cn:Nat)(s:List Nat)(w:World)(hp:PQ w a q v u)(bU:q.locals.length<=12)(hl:fY q.locals.length nb l)
  (hA:aC z w l (.slice ap l.places.length cp) (.slice an l.next.length cn)) (hs:av w b s) (hv:∀k,s.getD k 0<16):
  Calls Tryz.prog 190 #[.pointer (some ⟨b,0,none⟩),.pointer (some ⟨a,0,none⟩),.agg #[.int .i64 (l.num:Nat),.int .i64 (l.op:Nat),.slice ap l.places.length cp,.int .i64 l.number,.int .i64 l.flag,.slice an l.next.length cn]] w fun e w'=>e=.returned (.bool (aE q l s))/\Below w.heap.size w w':=by
 have XT:=hl.op;have L7:=hl.Kp;have bg:=hs.lt;have aF:Below w.heap.size w (w.alloc (.cells #[.int .i64 (l.num:Nat),.int .i64 (l.op:Nat),.slice ap l.places.length cp,.int .i64 l.number,.int .i64 l.flag,.slice an l.next.length cn] 115)):=(Below.refl _ _).alloc (jC _) _;have kd:=hs.below aF bg;have XW:=hp.below aF;have ND:=hA.below aF;go_enter Tryz.func190,Tryz.ntmps190
 go_upto_region 3 with fail
 generalize (w.alloc (.cells #[.int .i64 (l.num:Nat),.int .i64 (l.op:Nat),.slice ap l.places.length cp,.int .i64 l.number,.int .i64 l.flag,.slice an l.next.length cn] 115))=W at*;by_cases hg:l.op=3\/l.op=4\/l.op=5\/l.op=6
 ·have hlen:l.places.length=3:=by rcases hg with h|h|h|h<;>(rw[hl.bt,h];rfl)
  have hr:Hid (aE q l s=bI 2 [ab.at l 1,ab.at l 2] s):=by unfold Hid;rcases hg with h|h|h|h<;>simp[aE,h]
  obtain⟨g,rfl,gP,vX,c1,e1⟩:=ax ND hlen 1 (by omega);have j6:=(hl.places _ (c7 (j:=1) (by omega))).1;obtain⟨g',e,-,-,c2,e2⟩:=ax ND hlen 2 (by omega);simp only[Option.some.injEq,Addr.mk.injEq,and_true]at e;subst e;have Ha:=(hl.places _ (c7 (j:=2) (by omega))).1;have d1:W.cell? ⟨g,2,none⟩=some (.int .i64 ((ab.at l 1).1:Nat)):=c1;have f1:W.cell? ⟨g,3,none⟩=some (.int .i64 ((ab.at l 1).2:Nat)):=e1;change (ab.at l 1).1<_ at j6;have d2:W.cell? ⟨g,4,none⟩=some (.int .i64 ((ab.at l 2).1:Nat)):=c2;have f2:W.cell? ⟨g,5,none⟩=some (.int .i64 ((ab.at l 2).2:Nat)):=e2;change (ab.at l 2).1<_ at Ha;clear c1 e1 c2 e2;generalize ab.at l 1=x1 at*;generalize ab.at l 2=x2 at*;have K:=kq 2 x1 x2 kd rfl (by omega) (by omega) hv (by simp);generalize bI 2 [x1,x2] s=r at*;rw[hlen];rcases hg with h|h|h|h
  all_goals
   rw[h];have HO:Hid (_=_):=h;clear h;go_upto_region 7 with fail
   go_region_with (go_at_call 219;refine K.mono ?_;rintro e w1 ⟨rfl,aG⟩)
   all_goals go_wp2_with fail
   all_goals
    go_ret
    exact⟨by rw[hr.out];rfl,aF.trans (aG.mono aF.size)⟩
 ·by_cases hg:l.op=8\/l.op=19\/l.op=22
  ·have hlen:l.places.length=1:=by rcases hg with h|h|h<;>(rw[hl.bt,h];rfl)
   have hr:Hid (aE q l s=bI 2 [ab.at l 0] s):=by unfold Hid;rcases hg with h|h|h<;>simp[aE,h]
   obtain⟨g,rfl,gP,vX,c0,e0⟩:=ax ND hlen 0 (by omega);have xY:=(hl.places _ (c7 (j:=0) (by omega))).1;have d0:W.cell? ⟨g,0,none⟩=some (.int .i64 ((ab.at l 0).1:Nat)):=c0;have f0:W.cell? ⟨g,1,none⟩=some (.int .i64 ((ab.at l 0).2:Nat)):=e0;change (ab.at l 0).1<_ at xY;clear c0 e0;generalize ab.at l 0=x0 at*;have K:=cV 2 x0 kd rfl (by omega) hv (by simp);generalize bI 2 [x0] s=r at*;rw[hlen];rcases hg with h|h|h
   all_goals
    rw[h];have HO:Hid (_=_):=h;clear h;go_wp2_with (go_at_call 219;refine K.mono ?_;rintro e w1 ⟨rfl,aG⟩)
    go_ret
    exact⟨by rw[hr.out];rfl,aF.trans (aG.mono aF.size)⟩
  ·by_cases hg:l.op=10\/l.op=14
   ·have hlen:l.places.length=2:=by rcases hg with h|h<;>(rw[hl.bt,h];rfl)
    have hr:Hid (aE q l s=bI 2 [ab.at l 1] s):=by unfold Hid;rcases hg with h|h<;>simp[aE,h]
    obtain⟨g,rfl,gP,vX,c1,e1⟩:=ax ND hlen 1 (by omega);have j6:=(hl.places _ (c7 (j:=1) (by omega))).1;have d1:W.cell? ⟨g,2,none⟩=some (.int .i64 ((ab.at l 1).1:Nat)):=c1;have f1:W.cell? ⟨g,3,none⟩=some (.int .i64 ((ab.at l 1).2:Nat)):=e1;change (ab.at l 1).1<_ at j6;clear c1 e1;generalize ab.at l 1=x1 at*;have K:=cV 2 x1 kd rfl (by omega) hv (by simp);generalize bI 2 [x1] s=r at*;rw[hlen];rcases hg with h|h
    all_goals
     rw[h];have HO:Hid (_=_):=h;clear h;go_wp2_with (go_at_call 219;refine K.mono ?_;rintro e w1 ⟨rfl,aG⟩)
     go_ret
     exact⟨by rw[hr.out];rfl,aF.trans (aG.mono aF.size)⟩
   ·by_cases hg:l.op=11
    ·have hlen:l.places.length=2:=by rw[hl.bt,hg];rfl
     have hr:Hid (aE q l s=bI 2 [ab.at l 0,ab.at l 1] s):=by unfold Hid;simp[aE,hg]
     obtain⟨g,rfl,gP,vX,c0,e0⟩:=ax ND hlen 0 (by omega);have xY:=(hl.places _ (c7 (j:=0) (by omega))).1;obtain⟨g',e,-,-,c1,e1⟩:=ax ND hlen 1 (by omega);simp only[Option.some.injEq,Addr.mk.injEq,and_true]at e;subst e;have j6:=(hl.places _ (c7 (j:=1) (by omega))).1;have d0:W.cell? ⟨g,0,none⟩=some (.int .i64 ((ab.at l 0).1:Nat)):=c0;have f0:W.cell? ⟨g,1,none⟩=some (.int .i64 ((ab.at l 0).2:Nat)):=e0;change (ab.at l 0).1<_ at xY;have d1:W.cell? ⟨g,2,none⟩=some (.int .i64 ((ab.at l 1).1:Nat)):=c1;have f1:W.cell? ⟨g,3,none⟩=some (.int .i64 ((ab.at l 1).2:Nat)):=e1;change (ab.at l 1).1<_ at j6;clear c0 e0 c1 e1;generalize ab.at l 0=x0 at*;generalize ab.at l 1=x1 at*;have K:=kq 2 x0 x1 kd rfl (by omega) (by omega) hv (by simp);generalize bI 2 [x0,x1] s=r at*;rw[hlen];rw[hg];have HO:Hid (_=_):=hg;clear hg;go_upto_region 18 with fail
     go_region_with (go_at_call 219;refine K.mono ?_;rintro e w1 ⟨rfl,aG⟩)
     all_goals go_wp2_with fail
     all_goals
      go_ret
      exact⟨by rw[hr.out];rfl,aF.trans (aG.mono aF.size)⟩
    ·by_cases hg:l.op=15
     ·have hlen:l.places.length=1:=by rw[hl.bt,hg];rfl
      have hr:Hid (aE q l s=iA (ab.at l 0) s):=by unfold Hid;simp[aE,hg]
      obtain⟨g,rfl,gP,vX,c0,e0⟩:=ax ND hlen 0 (by omega);have xY:=(hl.places _ (c7 (j:=0) (by omega))).1;have d0:W.cell? ⟨g,0,none⟩=some (.int .i64 ((ab.at l 0).1:Nat)):=c0;have f0:W.cell? ⟨g,1,none⟩=some (.int .i64 ((ab.at l 0).2:Nat)):=e0;change (ab.at l 0).1<_ at xY;clear c0 e0;generalize ab.at l 0=x0 at*;have K:=Ak b x0 s _ kd (by omega) hv;generalize iA x0 s=r at*;rw[hlen];rw[hg];have HO:Hid (_=_):=hg;clear hg;go_wp2_with (go_at_call 220;refine K.mono ?_;rintro e w1 ⟨rfl,aG⟩)
      go_ret
      exact⟨by rw[hr.out];rfl,aF.trans (aG.mono aF.size)⟩
     ·by_cases hg:l.op=20
      ·have hlen:l.places.length=1:=by rw[hl.bt,hg];rfl
       have hr:Hid (aE q l s=bI 6 [ab.at l 0] s):=by unfold Hid;simp[aE,hg]
       obtain⟨g,rfl,gP,vX,c0,e0⟩:=ax ND hlen 0 (by omega);have xY:=(hl.places _ (c7 (j:=0) (by omega))).1;have d0:W.cell? ⟨g,0,none⟩=some (.int .i64 ((ab.at l 0).1:Nat)):=c0;have f0:W.cell? ⟨g,1,none⟩=some (.int .i64 ((ab.at l 0).2:Nat)):=e0;change (ab.at l 0).1<_ at xY;clear c0 e0;generalize ab.at l 0=x0 at*;have K:=cV 6 x0 kd rfl (by omega) hv (by simp);generalize bI 6 [x0] s=r at*;rw[hlen];rw[hg];have HO:Hid (_=_):=hg;clear hg;go_wp2_with (go_at_call 219;refine K.mono ?_;rintro e w1 ⟨rfl,aG⟩)
       go_ret
       exact⟨by rw[hr.out];rfl,aF.trans (aG.mono aF.size)⟩
      ·by_cases hg:l.op=9
       ·have hlen:l.places.length=2:=by rw[hl.bt,hg];rfl
        have hr:Hid (aE q l s=(bI 2 [ab.at l 1] s||iA (ab.at l 0) s)):=by unfold Hid;simp[aE,hg]
        obtain⟨g,rfl,gP,vX,c0,e0⟩:=ax ND hlen 0 (by omega);have xY:=(hl.places _ (c7 (j:=0) (by omega))).1;obtain⟨g',e,-,-,c1,e1⟩:=ax ND hlen 1 (by omega);simp only[Option.some.injEq,Addr.mk.injEq,and_true]at e;subst e;have j6:=(hl.places _ (c7 (j:=1) (by omega))).1;have d0:W.cell? ⟨g,0,none⟩=some (.int .i64 ((ab.at l 0).1:Nat)):=c0;have f0:W.cell? ⟨g,1,none⟩=some (.int .i64 ((ab.at l 0).2:Nat)):=e0;change (ab.at l 0).1<_ at xY;have d1:W.cell? ⟨g,2,none⟩=some (.int .i64 ((ab.at l 1).1:Nat)):=c1;have f1:W.cell? ⟨g,3,none⟩=some (.int .i64 ((ab.at l 1).2:Nat)):=e1;change (ab.at l 1).1<_ at j6;clear c0 e0 c1 e1;generalize ab.at l 0=x0 at*;generalize ab.at l 1=x1 at*;have K:=cV 2 x1 kd rfl (by omega) hv (by simp);have K2:=fun W' (hb:Below W.heap.size W W')=>Ak b x0 s W' (kd.below hb kd.lt) (by omega) hv
        have HC:Hid (∀W',Below W.heap.size W W'->W'.cell? ⟨g,0,none⟩=some (.int .i64 (x0.1:Nat))/\W'.cell? ⟨g,1,none⟩=some (.int .i64 (x0.2:Nat))):=fun W' hb=>⟨(hb.cell (p:=⟨g,0,none⟩) vX).trans d0,(hb.cell (p:=⟨g,1,none⟩) vX).trans f0⟩
        generalize bI 2 [x1] s=r at*;generalize iA x0 s=r2 at*;rw[hlen];rw[hg];have HO:Hid (_=_):=hg;clear hg;cases r with
        |true=>
         go_wp2_with (go_at_call 219;refine K.mono ?_;rintro e w1 ⟨rfl,aG⟩)
         go_ret
         exact⟨by rw[hr.out];rfl,aF.trans (aG.mono aF.size)⟩
        |false=>
         go_wp2_with (first|(go_at_call 219;refine K.mono ?_;rintro e w1 ⟨rfl,aG⟩;obtain⟨y0,y1⟩:=HC.out w1 aG)|(go_at_call 220;refine(K2 w1 aG).mono ?_;rintro e w2 ⟨rfl,bH⟩))
         go_ret
         exact⟨by rw[hr.out];rfl,(aF.trans (aG.mono aF.size)).trans (bH.mono (aF.trans (aG.mono aF.size)).size)⟩
       ·by_cases hg:l.op=12
        ·have hlen:l.places.length=2:=by rw[hl.bt,hg];rfl
         have hr:Hid (aE q l s=(fW q (ab.at l 1) s||iA (ab.at l 0) s)):=by unfold Hid;simp[aE,hg]
         obtain⟨g,rfl,gP,vX,c0,e0⟩:=ax ND hlen 0 (by omega);have xY:=(hl.places _ (c7 (j:=0) (by omega))).1;obtain⟨g',e,-,-,c1,e1⟩:=ax ND hlen 1 (by omega);simp only[Option.some.injEq,Addr.mk.injEq,and_true]at e;subst e;have j6:=(hl.places _ (c7 (j:=1) (by omega))).1;have d0:W.cell? ⟨g,0,none⟩=some (.int .i64 ((ab.at l 0).1:Nat)):=c0;have f0:W.cell? ⟨g,1,none⟩=some (.int .i64 ((ab.at l 0).2:Nat)):=e0;change (ab.at l 0).1<_ at xY;have d1:W.cell? ⟨g,2,none⟩=some (.int .i64 ((ab.at l 1).1:Nat)):=c1;have f1:W.cell? ⟨g,3,none⟩=some (.int .i64 ((ab.at l 1).2:Nat)):=e1;change (ab.at l 1).1<_ at j6;clear c0 e0 c1 e1;generalize ab.at l 0=x0 at*;generalize ab.at l 1=x1 at*;have K:=Np q b x1 s v u a _ XW.aM XW.loc (by omega) j6 kd (by omega) hv;have K2:=fun W' (hb:Below W.heap.size W W')=>Ak b x0 s W' (kd.below hb kd.lt) (by omega) hv
         have HC:Hid (∀W',Below W.heap.size W W'->W'.cell? ⟨g,0,none⟩=some (.int .i64 (x0.1:Nat))/\W'.cell? ⟨g,1,none⟩=some (.int .i64 (x0.2:Nat))):=fun W' hb=>⟨(hb.cell (p:=⟨g,0,none⟩) vX).trans d0,(hb.cell (p:=⟨g,1,none⟩) vX).trans f0⟩
         generalize fW q x1 s=r at*;generalize iA x0 s=r2 at*;rw[hlen];rw[hg];have HO:Hid (_=_):=hg;clear hg;cases r with
         |true=>
          go_wp2_with (go_at_call 221;refine K.mono ?_;rintro e w1 ⟨rfl,aG⟩)
          go_ret
          exact⟨by rw[hr.out];rfl,aF.trans (aG.mono aF.size)⟩
         |false=>
          go_wp2_with (first|(go_at_call 221;refine K.mono ?_;rintro e w1 ⟨rfl,aG⟩;obtain⟨y0,y1⟩:=HC.out w1 aG)|(go_at_call 220;refine(K2 w1 aG).mono ?_;rintro e w2 ⟨rfl,bH⟩))
          go_ret
          exact⟨by rw[hr.out];rfl,(aF.trans (aG.mono aF.size)).trans (bH.mono (aF.trans (aG.mono aF.size)).size)⟩
        ·have E8:l.op=2\/l.op=7\/l.op=13\/l.op=16\/l.op=17\/l.op=18\/l.op=21:=by omega
         have hr:Hid (aE q l s=false):=by unfold Hid;rcases E8 with h|h|h|h|h|h|h<;>simp[aE,h]
         rcases E8 with h|h|h|h|h|h|h
         all_goals
          rw[h];have HO:Hid (_=_):=h;clear h;go_wp2
          go_ret
          exact⟨by rw[hr.out];rfl,aF⟩
end FlwH
namespace FlwI
open Go Go.RowKit Sq Aux PrjJ PrjK FlwB FlwF
theorem mapM_some {α β:Type}(f:α->Option β)(g:α->β):∀l:List α,(∀a∈l,f a=some (g a))->l.mapM f=some (l.map g)
 |[],_=>rfl
 |a::l,h=>by
  rw[List.mapM_cons,h a (jM ..),mapM_some f g l (fun x hx=>h x (jN _ hx))];rfl
theorem vQ:Tryz.prog.cellsOf 209=24:=by kernel_rfl
theorem Ll:Tryz.prog.cellsOf 207=1:=by kernel_rfl
theorem Mi:Tryz.prog.keyTypeAt 3 209=true:=by kernel_rfl
theorem ru (s:List Nat):(List.range s.length).map (fun i=>s.getD i 0)=s:=by
 apply List.ext_getElem?
 intro i;rw[jJ];by_cases hi:i<s.length
 ·rw[List.getElem?_range hi];simp[hi]
 ·rw[jG (by simp;omega),jG (by omega)];rfl
theorem zt (s:List Nat)(hl:s.length=24)(hv:∀k,s.getD k 0<16):Tryz.prog.keyLits 2 209 (aj s)=some (s.map fun n=>Lit.int .u8 (n:Nat)):=by
 have hf:∀i∈List.range 24,Tryz.prog.keyLits 1 207 (((aj s).drop (i*1)).take 1)=some [Lit.int .u8 ((s.getD i 0:Nat):Int)]:=by
  intro i hi;have NM:i<s.length:=by rw[hl];simpa using hi
  have hc:((aj s).drop (i*1)).take 1=[.int .u8 ((s.getD i 0:Nat):Int)]:=by
   rw[Nat.mul_one,jE (by rw[dx];exact NM)];simp[aj,NM]
  have hw:(Lit.int .u8 ((s.getD i 0:Nat):Int)).wf=true:=by
   have:=hv i;generalize s.getD i 0=n at*;have:∀n:Nat,n<16->(Lit.int .u8 (n:Int)).wf=true:=by decide
   exact this n (by assumption)
  rw[hc];simp only[Program.keyLits,Tryz.underlying207];rw[jb ⟨trivial,hw⟩]
 unfold Program.keyLits;simp only[Tryz.underlying209,vQ,Ll];rw[jb (by rw[dx];exact hl),mapM_some _ _ _ hf];simp only[Option.map_some,Option.some.injEq];have e:((List.range 24).map fun i=>[Lit.int .u8 ((s.getD i 0:Nat):Int)]).flatten=((List.range s.length).map fun i=>s.getD i 0).map fun n=>Lit.int .u8 ((n:Nat):Int):=by
  rw[hl,List.map_map];induction List.range 24 with
  |nil=>rfl
  |cons a r ih=>simpa using ih
 rw[e,ru]
set_option maxRecDepth 20000 in
theorem GA (s t:List Nat)(w:World)(hs:s.length=24)(ht:t.length=24)(hv:∀k,s.getD k 0<16)(hu:∀k,t.getD k 0<16):
  (Op.equalIn 10000 209 (.agg (aj s).toArray) (.agg (aj t).toArray)).run Tryz.prog w=.ok (s==t) w:=by
 have J9:∀s:List Nat,s.length=24->(Value.agg (aj s).toArray).formed Tryz.prog 209=true:=fun s hs=>by
  simp only[Value.formed,Tryz.underlying209,vQ];simp[dx,hs]
 obtain⟨r,hr,hiff⟩:=run_equalIn_deep 9997 3 209 Mi w 2 2 (.agg (aj s).toArray) (.agg (aj t).toArray) _ _ (J9 s hs) (J9 t ht) (by simpa [Value.cells]using zt s hs hv) (by simpa [Value.cells]using zt t ht hu);rw[hr];congr 1;rw[jX,hiff,beq_iff_eq];constructor
 ·intro h;refine(List.map_inj_right (fun a b e=> ?_)).1 h;simp only[Lit.int.injEq,true_and]at e;omega
 ·intro h;rw[h]
attribute [local go_sem ↓] dd cO
theorem Bi (k:Nat)(hk:k<24):(List.replicate k 1++List.replicate (24-k) 0).set k 1=(List.replicate (k+1) 1++List.replicate (24-(k+1)) 0:List Nat):=by
 rw[List.set_append_right _ _ (by simp),List.length_replicate,Nat.sub_self,show 24-k=(24-(k+1))+1 by omega,List.replicate_succ,List.set_cons_zero,List.replicate_succ',List.append_assoc];rfl
def aT:List Nat:=List.replicate 24 1
set_option maxRecDepth 20000 in
theorem Nl (w:World):Calls Tryz.prog 188 #[] w fun e w'=>e=.returned (.agg (aj aT).toArray)/\Below w.heap.size w w':=by
 have aG:Below w.heap.size w (w.alloc (.cells (aj au).toArray 209)):=(Below.refl _ _).alloc (jC _) _;have bH:=aG.alloc aG.size (.cells (aj au).toArray 209);have hA:av ((w.alloc (.cells (aj au).toArray 209)).alloc (.cells (aj au).toArray 209)) w.heap.size au:=(av.new w (s:=au) (by decide)).below ((Below.refl _ _).alloc (jC _) _) (by simp);have hB:av ((w.alloc (.cells (aj au).toArray 209)).alloc (.cells (aj au).toArray 209)) (w.heap.size+1) (List.replicate 0 1++List.replicate (24-0) 0):=by
  rw[show w.heap.size+1=(w.alloc (.cells (aj au).toArray 209)).heap.size by simp];exact av.new _ (s:=au) (by decide)
 have hz:(aj au).toArray= #[.int .u8 0,.int .u8 0,.int .u8 0,.int .u8 0,.int .u8 0,.int .u8 0,.int .u8 0,.int .u8 0,.int .u8 0,.int .u8 0,.int .u8 0,.int .u8 0,.int .u8 0,.int .u8 0,.int .u8 0,.int .u8 0,.int .u8 0,.int .u8 0,.int .u8 0,.int .u8 0,.int .u8 0,.int .u8 0,.int .u8 0,.int .u8 0]:=rfl;rw[hz]at hA hB bH;clear aG hz;go_enter Tryz.func188,Tryz.ntmps188
 go_wp2
 go_loopg [3] (24) (fun g v3 wr=>∃k:Nat,k<=24/\g+k=24/\v3=.int .i64 k/\av wr w.heap.size au/\av wr (w.heap.size+1) (List.replicate k 1++List.replicate (24-k) 0)/\Below w.heap.size w wr)
 case atStart=>exact⟨0,by omega,rfl,rfl,hA,hB,bH⟩
 case round=>
  obtain⟨k,hk,Ca,rfl,YJ,YK,C8⟩:=hrel;clear hA hB bH;by_cases bg:k<24
  ·have c1:=YK.cell k bg;have c2:=YK.frozen k;have NO:(k:Int)<24:=by omega
   have Mb:=YK.set k 1;rw[Bi k bg]at Mb;have y8:av (wr.setCell ⟨w.heap.size+1,k,none⟩ (.int .u8 (1:Nat))) w.heap.size au:=⟨YJ.1,by rw[Below.heap_setCell _ _ _ _ (by show w.heap.size≠w.heap.size+1;omega)];exact YJ.2⟩;have dT:Below w.heap.size w (wr.setCell ⟨w.heap.size+1,k,none⟩ (.int .u8 (1:Nat))):=C8.trans (((bD.refl (w.heap.size+1) wr).setCell k _).below (by omega) C8.size);go_wp2
   go_roundg (24-(k+1))
   case measure=>omega
   case rel=>exact⟨k+1,by omega,by omega,by go_num,y8,Mb,dT⟩
  ·obtain rfl:k=24:=by omega
   have fy:av wr (w.heap.size+1) aT:=YK;have h1:=av.has fy;have h2:=av.of fy;have h3:=av.room YJ;have h4:=iu (s:=aT) (by decide);have lq:=av.store YJ (t:=aT) (by decide);have Vx:Below w.heap.size w (wr.setCells w.heap.size 0 (aj aT)):=bp C8 (jC _) _ _;go_wp2
   refine bodyPost_ret (bZ Tryz.results188 _ _ _ w.heap.size (aj aT) _ rfl (av.range lq) Tryz.underlying209 rfl (rG (by decide))) rfl ?_;exact⟨rfl,Vx⟩
theorem qI (k:Nat):au.getD k 0<16:=by
 unfold au;rw[jA,jO];split<;>simp
set_option maxRecDepth 20000 in
theorem xu (b:Nat)(s:List Nat)(w:World)(hs:av w b s)(hv:∀k,s.getD k 0<16):Calls Tryz.prog 129 #[.pointer (some ⟨b,0,none⟩)] w fun e w'=>e=.returned (.bool (!(s==au)))/\w'=w:=by
 have h1:=av.has hs;have h2:=av.of hs;have he:=fun w'=>GA s au w' hs.1 (by decide) hv qI
 have hz:(aj au).toArray= #[.int .u8 0,.int .u8 0,.int .u8 0,.int .u8 0,.int .u8 0,.int .u8 0,.int .u8 0,.int .u8 0,.int .u8 0,.int .u8 0,.int .u8 0,.int .u8 0,.int .u8 0,.int .u8 0,.int .u8 0,.int .u8 0,.int .u8 0,.int .u8 0,.int .u8 0,.int .u8 0,.int .u8 0,.int .u8 0,.int .u8 0,.int .u8 0]:=rfl;rw[hz]at he;generalize (s==au)=r at*;go_enter Tryz.func129,Tryz.ntmps129
 go_wp2
 go_ret
 exact⟨rfl,rfl⟩
end FlwI
end Go.Proofs.YtmlgajhhnojdjaaGreatDoor

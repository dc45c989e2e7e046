import Derived.Test.YtmlgajhhnojdjaaGreatDoorVAR
set_option maxHeartbeats 8000000
namespace Go.Proofs.YtmlgajhhnojdjaaGreatDoor
namespace FlwG
open Go Go.RowKit Sq Aux PrjF PrjG PrjJ PrjK PrjL PrjM PrjN PrjO PrjP PrjR PrjS PrjT FlwA FlwB FlwC FlwD FlwE FlwF
attribute [local go_sem ↓] bY bJ
def pz (op:Nat):Bool:=op==2||op==3||op==4||op==5||op==6||op==7||op==10||op==9||op==14
def au (q:QP)(l:ab)(s:List Nat):List Nat:=
 if pz l.op=true then eO 2 [l.places.getD 0 (0,0)] (aR q l s)
 else if l.op=12 then eO (da q (l.places.getD 1 (0,0)) s) (QP.ai q (l.places.getD 0 (0,0))) (aR q l s)
 else if l.op=13 then eO 4 [l.places.getD 0 (0,0)] (aR q l s)
 else if l.op=15 then dz (QP.ai q (l.places.getD 0 (0,0))) (aR q l s)
 else aR q l s
theorem bU {ps:List (Nat×Nat)}{j:Nat}(h:j<ps.length):ps.getD j (0,0)∈ps:=by
 rw[jA,jB h];exact jL h
theorem mi {nl nb:Nat}{l:ab}(h:iB nl nb l)(ho:pz l.op=true\/l.op=12\/l.op=13\/l.op=15):1<=l.places.length:=by
 rw[h.cP];have key:∀op:Fin 23,(pz op.val=true\/op.val=12\/op.val=13\/op.val=15)->1<=((ae op.val).filter eg).length:=by decide
 exact key ⟨l.op,h.op⟩ ho
set_option maxRecDepth 20000 in
theorem mc (q:QP)(l:ab)(nb z a b:Nat)(v u:Value)(ap an:Option Addr)(cp cn:Nat)(s:List Nat)(w:World)(hp:PQ w a q v u)(dS:q.locals.length<=12)(hl:iB q.locals.length nb l)
  (hA:aE z w l (.slice ap l.places.length cp) (.slice an l.next.length cn)) (hs:aj w b s) (hv:∀k,s.getD k 0<16):
  Calls Tryz.prog 128 #[.pointer (some ⟨b,0,none⟩),.pointer (some ⟨a,0,none⟩),.agg #[.int .i64 (l.num:Nat),.int .i64 (l.op:Nat),.slice ap l.places.length cp,.int .i64 l.number,.int .i64 l.flag,.slice an l.next.length cn]] w fun e w'=>e=.returned (.tuple #[])/\aj w' b (au q l s)/\aW b w w':=by
 have aO:Below w.heap.size w (w.alloc (.cells #[.int .i64 (l.num:Nat),.int .i64 (l.op:Nat),.slice ap l.places.length cp,.int .i64 l.number,.int .i64 l.flag,.slice an l.next.length cn] 115)):=(Below.refl _ _).alloc (jC _) _;have oG:=hs.below aO hs.lt;have NB:=aj.has oG;have Li:=aj.of oG;have Lr:(w.alloc (.cells #[.int .i64 (l.num:Nat),.int .i64 (l.op:Nat),.slice ap l.places.length cp,.int .i64 l.number,.int .i64 l.flag,.slice an l.next.length cn] 115)).heap.size=w.heap.size+1:=by simp
 have hZ:aj ((w.alloc (.cells #[.int .i64 (l.num:Nat),.int .i64 (l.op:Nat),.slice ap l.places.length cp,.int .i64 l.number,.int .i64 l.flag,.slice an l.next.length cn] 115)).alloc (.cells #[.int .u8 0,.int .u8 0,.int .u8 0,.int .u8 0,.int .u8 0,.int .u8 0,.int .u8 0,.int .u8 0,.int .u8 0,.int .u8 0,.int .u8 0,.int .u8 0,.int .u8 0,.int .u8 0,.int .u8 0,.int .u8 0,.int .u8 0,.int .u8 0,.int .u8 0,.int .u8 0,.int .u8 0,.int .u8 0,.int .u8 0,.int .u8 0] 209)) (w.heap.size+1) ak:=by
  rw[<-Lr];exact aj.new (w.alloc (.cells #[.int .i64 (l.num:Nat),.int .i64 (l.op:Nat),.slice ap l.places.length cp,.int .i64 l.number,.int .i64 l.flag,.slice an l.next.length cn] 115)) (s:=ak) (by decide)
 have fp:=aj.room hZ;have mP:=fu hs.1;have p5:=aj.store hZ hs.1;have Mw:Below w.heap.size w ((w.alloc (.cells #[.int .i64 (l.num:Nat),.int .i64 (l.op:Nat),.slice ap l.places.length cp,.int .i64 l.number,.int .i64 l.flag,.slice an l.next.length cn] 115)).alloc (.cells #[.int .u8 0,.int .u8 0,.int .u8 0,.int .u8 0,.int .u8 0,.int .u8 0,.int .u8 0,.int .u8 0,.int .u8 0,.int .u8 0,.int .u8 0,.int .u8 0,.int .u8 0,.int .u8 0,.int .u8 0,.int .u8 0,.int .u8 0,.int .u8 0,.int .u8 0,.int .u8 0,.int .u8 0,.int .u8 0,.int .u8 0,.int .u8 0] 209)):=aO.alloc aO.size _;have qj:Below w.heap.size w (((w.alloc (.cells #[.int .i64 (l.num:Nat),.int .i64 (l.op:Nat),.slice ap l.places.length cp,.int .i64 l.number,.int .i64 l.flag,.slice an l.next.length cn] 115)).alloc (.cells #[.int .u8 0,.int .u8 0,.int .u8 0,.int .u8 0,.int .u8 0,.int .u8 0,.int .u8 0,.int .u8 0,.int .u8 0,.int .u8 0,.int .u8 0,.int .u8 0,.int .u8 0,.int .u8 0,.int .u8 0,.int .u8 0,.int .u8 0,.int .u8 0,.int .u8 0,.int .u8 0,.int .u8 0,.int .u8 0,.int .u8 0,.int .u8 0] 209)).setCells (w.heap.size+1) 0 (ag s)):=aU Mw (by omega) _ _;have yr:(((w.alloc (.cells #[.int .i64 (l.num:Nat),.int .i64 (l.op:Nat),.slice ap l.places.length cp,.int .i64 l.number,.int .i64 l.flag,.slice an l.next.length cn] 115)).alloc (.cells #[.int .u8 0,.int .u8 0,.int .u8 0,.int .u8 0,.int .u8 0,.int .u8 0,.int .u8 0,.int .u8 0,.int .u8 0,.int .u8 0,.int .u8 0,.int .u8 0,.int .u8 0,.int .u8 0,.int .u8 0,.int .u8 0,.int .u8 0,.int .u8 0,.int .u8 0,.int .u8 0,.int .u8 0,.int .u8 0,.int .u8 0,.int .u8 0] 209)).setCells (w.heap.size+1) 0 (ag s)).heap[w.heap.size]?=some (.cells #[.int .i64 (l.num:Nat),.int .i64 (l.op:Nat),.slice ap l.places.length cp,.int .i64 l.number,.int .i64 l.flag,.slice an l.next.length cn] 115 (0,0)):=by
  rw[aX _ _ _ _ _ (by omega),((Below.refl (w.heap.size+1) (w.alloc (.cells #[.int .i64 (l.num:Nat),.int .i64 (l.op:Nat),.slice ap l.places.length cp,.int .i64 l.number,.int .i64 l.flag,.slice an l.next.length cn] 115))).alloc (by omega) _).block w.heap.size (by omega)];exact jD
 clear Lr;go_enter Tryz.func128,Tryz.ntmps128
 go_upto_region 2 with fail
 generalize (((w.alloc (.cells #[.int .i64 (l.num:Nat),.int .i64 (l.op:Nat),.slice ap l.places.length cp,.int .i64 l.number,.int .i64 l.flag,.slice an l.next.length cn] 115)).alloc (.cells #[.int .u8 0,.int .u8 0,.int .u8 0,.int .u8 0,.int .u8 0,.int .u8 0,.int .u8 0,.int .u8 0,.int .u8 0,.int .u8 0,.int .u8 0,.int .u8 0,.int .u8 0,.int .u8 0,.int .u8 0,.int .u8 0,.int .u8 0,.int .u8 0,.int .u8 0,.int .u8 0,.int .u8 0,.int .u8 0,.int .u8 0,.int .u8 0] 209)).setCells (w.heap.size+1) 0 (ag s))=W at*;have TM:=hs.lt;have l0:=(cell_of_heap yr 0).trans (by rfl:_=some (Value.int .i64 (l.num:Nat)));have l1:=(cell_of_heap yr 1).trans (by rfl:_=some (Value.int .i64 (l.op:Nat)));have l2:=(cell_of_heap yr 2).trans (by rfl:_=some (Value.slice ap l.places.length cp));have l3:=(cell_of_heap yr 3).trans (by rfl:_=some (Value.int .i64 l.number));have l4:=(cell_of_heap yr 4).trans (by rfl:_=some (Value.int .i64 l.flag));have l5:=(cell_of_heap yr 5).trans (by rfl:_=some (Value.slice an l.next.length cn));have Wb:=hp.below qj;have OM:=hA.below qj;have UG:=hs.below qj TM;have KT:=qC q l nb z a b v u ap an cp cn s W Wb dS hl OM UG;clear NB Li fp mP hZ;go_upto_region 5 with(go_at_call 125;refine KT.mono ?_;rintro e w1 ⟨rfl,gC,jj⟩;have px:w1.heap[w.heap.size]?=_:=(jj.block w.heap.size (lt_of_heap yr) (by omega)).trans yr;have m1:=(cell_of_heap px 1).trans (by rfl:_=some (Value.int .i64 (l.op:Nat)));have m2:=(cell_of_heap px 2).trans (by rfl:_=some (Value.slice ap l.places.length cp)))
 have k9:aj w1 (w.heap.size+1) s:=⟨p5.1,(jj.block (w.heap.size+1) p5.lt (by omega)).trans p5.2⟩;have yu:=Wb.iF jj UG;have DM:=Ft OM jj UG;have Cg:aW b w w1:=(aW.of qj).trans jj;clear l0 l1 l2 l3 l4 l5 KT p5 yr;by_cases lS:pz l.op=true
 ·have Lf:=mi hl (.inl lS);obtain⟨g,rfl,kC,hg,c1,c2⟩:=aS DM rfl 0 (by omega);have hx:=(hl.places _ (bU (j:=0) (by omega))).1;have hr:Hid (au q l s=eO 2 [l.places.getD 0 (0,0)] (aR q l s)):=by unfold Hid;rw[au,jb lS]
  have d1:w1.cell? ⟨g,0,none⟩=some (.int .i64 ((l.places.getD 0 (0,0)).1:Nat)):=c1;have d2:w1.cell? ⟨g,1,none⟩=some (.int .i64 ((l.places.getD 0 (0,0)).2:Nat)):=c2;have hid:(0:Int)<(l.places.length:Nat):=by omega
  clear c1 c2;generalize l.places.getD 0 (0,0)=x at*;have JR:Below w1.heap.size w1 (w1.alloc (.cells #[.int .i64 (x.1:Nat),.int .i64 (x.2:Nat)] 119)):=(Below.refl _ _).alloc (jC _) _;have KP:=fz 2 b _ 1 1 _ [x] (aR q l s) _ (gC.below JR gC.lt) (eX w1 x (n:=w1.heap.size) rfl) (fun y hy=>by simp only[List.mem_singleton]at hy;subst hy;omega) (by decide);generalize aR q l s=t at*;have E6:l.op=2\/l.op=3\/l.op=4\/l.op=5\/l.op=6\/l.op=7\/l.op=10\/l.op=9\/l.op=14:=by
   simp only[pz,Bool.or_eq_true,beq_iff_eq]at lS;omega
  clear lS;rcases E6 with h|h|h|h|h|h|h|h|h
  all_goals
   rw[h];have HO:Hid (_=_):=h;clear h;go_wp2_with (go_at_call 177;refine KP.mono ?_;rintro e w2 ⟨rfl,mN,jk⟩)
   go_end0
   exact⟨rfl,by rw[hr.out];exact mN,(Cg.on JR).trans jk⟩
 ·by_cases yi:l.op=13
  ·have Lf:=mi hl (.inr (.inr (.inl yi)));obtain⟨g,rfl,kC,hg,c1,c2⟩:=aS DM rfl 0 (by omega);have hx:=(hl.places _ (bU (j:=0) (by omega))).1;have hr:Hid (au q l s=eO 4 [l.places.getD 0 (0,0)] (aR q l s)):=by unfold Hid;rw[au,ja lS,ja (by omega),jb yi]
   have d1:w1.cell? ⟨g,0,none⟩=some (.int .i64 ((l.places.getD 0 (0,0)).1:Nat)):=c1;have d2:w1.cell? ⟨g,1,none⟩=some (.int .i64 ((l.places.getD 0 (0,0)).2:Nat)):=c2;have hid:(0:Int)<(l.places.length:Nat):=by omega
   clear c1 c2;generalize l.places.getD 0 (0,0)=x at*;have JR:Below w1.heap.size w1 (w1.alloc (.cells #[.int .i64 (x.1:Nat),.int .i64 (x.2:Nat)] 119)):=(Below.refl _ _).alloc (jC _) _;have KP:=fz 4 b _ 1 1 _ [x] (aR q l s) _ (gC.below JR gC.lt) (eX w1 x (n:=w1.heap.size) rfl) (fun y hy=>by simp only[List.mem_singleton]at hy;subst hy;omega) (by decide);generalize aR q l s=t at*;clear lS;rw[yi];have HO:Hid (_=_):=yi;clear yi;go_wp2_with (go_at_call 177;refine KP.mono ?_;rintro e w2 ⟨rfl,mN,jk⟩)
   go_end0
   exact⟨rfl,by rw[hr.out];exact mN,(Cg.on JR).trans jk⟩
  ·by_cases lz:l.op=15
   ·have Lf:=mi hl (.inr (.inr (.inr lz)));obtain⟨g,rfl,kC,hg,c1,c2⟩:=aS DM rfl 0 (by omega);have hx:=(hl.places _ (bU (j:=0) (by omega))).1;have hr:Hid (au q l s=dz (QP.ai q (l.places.getD 0 (0,0))) (aR q l s)):=by unfold Hid;rw[au,ja lS,ja (by omega),ja yi,jb lz]
    have d1:w1.cell? ⟨g,0,none⟩=some (.int .i64 ((l.places.getD 0 (0,0)).1:Nat)):=c1;have d2:w1.cell? ⟨g,1,none⟩=some (.int .i64 ((l.places.getD 0 (0,0)).2:Nat)):=c2;have hid:(0:Int)<(l.places.length:Nat):=by omega
    clear c1 c2;generalize l.places.getD 0 (0,0)=x at*;have KH:=cC q x v u a w1 yu.aD yu.loc hx;generalize aR q l s=t at*;have KT:=fun(W':World) (g c:Nat) (hb:Below w1.heap.size w1 W') (z:Nat) (hP:ay z W' (.slice (some ⟨g,0,none⟩) (QP.ai q x).length c) (QP.ai q x))=>tV b z _ c _ (QP.ai q x) t W' (gC.below hb gC.lt) hP (dt (by omega))
    clear lS yi;rw[lz];have HO:Hid (_=_):=lz;clear lz;go_wp2_with (first
     |(go_at_call 102;refine KH.mono ?_;rintro e w2 ⟨g2,c2,rfl,k8,bu⟩)
     |(go_at_call 174;refine(KT w2 g2 c2 bu _ k8).mono ?_;rintro e w3 ⟨rfl,BK,vH⟩))
    go_end0
    exact⟨rfl,by rw[hr.out];exact BK,(Cg.on bu).trans vH⟩
   ·by_cases cV:l.op=12
    ·have hlen:l.places.length=2:=by rw[hl.cP,cV];rfl
     obtain⟨g,rfl,kC,hg,c1,c2⟩:=aS DM hlen 0 (by omega);obtain⟨g',e,-,-,c3,c4⟩:=aS DM hlen 1 (by omega);simp only[Option.some.injEq,Addr.mk.injEq,and_true]at e;subst e;have hx:=(hl.places _ (bU (j:=0) (by omega))).1;have hy:=(hl.places _ (bU (j:=1) (by omega))).1;have hr:Hid (au q l s=eO (da q (l.places.getD 1 (0,0)) s) (QP.ai q (l.places.getD 0 (0,0))) (aR q l s)):=by unfold Hid;rw[au,ja lS,jb cV]
     have HC:Hid (∀w',Below w1.heap.size w1 w'->w'.cell? ⟨g,0,none⟩=some (.int .i64 ((l.places.getD 0 (0,0)).1:Nat))/\w'.cell? ⟨g,1,none⟩=some (.int .i64 ((l.places.getD 0 (0,0)).2:Nat))/\w'.cell? ⟨g,2,none⟩=some (.int .i64 ((l.places.getD 1 (0,0)).1:Nat))/\w'.cell? ⟨g,3,none⟩=some (.int .i64 ((l.places.getD 1 (0,0)).2:Nat))):=fun w' hb=>
      ⟨(hb.cell (p:=⟨g,0,none⟩) hg).trans c1,(hb.cell (p:=⟨g,1,none⟩) hg).trans c2,(hb.cell (p:=⟨g,2,none⟩) hg).trans c3,(hb.cell (p:=⟨g,3,none⟩) hg).trans c4⟩
     clear c1 c2 c3 c4;have V4:da q (l.places.getD 1 (0,0)) s<16:=by
      unfold da;split
      ·exact hv _
      ·decide
     generalize l.places.getD 0 (0,0)=x at*;generalize l.places.getD 1 (0,0)=y at*;have jl:Below w1.heap.size w1 w1.drew:=⟨rfl,rfl,rfl,jC _,fun _ _=>rfl⟩;have KH:=fun w' (hb:Below w1.heap.size w1 w')=>cC q x v u a w' (yu.below hb).aD (yu.below hb).loc hx
     have KM:=fun w' (hb:Below w1.heap.size w1 w')=>FF q (w.heap.size+1) y s v u a w' (yu.below hb).aD (yu.below hb).loc (by omega) hy (k9.below hb k9.lt) (by omega)
     obtain⟨mv,Rh⟩:∃mv,mv=da q y s:=⟨_,rfl⟩;rw[<-Rh]at KM V4 hr;generalize aR q l s=t at*;have KP:=fun(W':World) (g c:Nat) (hb:Below w1.heap.size w1 W') (z:Nat) (hP:ay z W' (.slice (some ⟨g,0,none⟩) (QP.ai q x).length c) (QP.ai q x))=>fz mv b z _ c _ (QP.ai q x) t W' (gC.below hb gC.lt) hP (dt (by omega)) V4
     obtain⟨d0,d1,d2,d3⟩:=HC.out w1 (Below.refl _ _);have WX:=KM w1.drew jl;have WW:=KH w1.drew jl;clear lS yi lz Rh;rw[cV];have HO:Hid (_=_):=cV;rw[hlen];clear cV;go_upto_region 16 with fail
     go_region_with (first
      |(go_at_call 177;refine(KP whA gA cA HY _ P7).mono ?_;rintro e w4 ⟨rfl,OU,Qc⟩;have VG:=(Cg.on HY).trans Qc)
      |(go_at_call 177;refine(KP wmB gB cB NF _ (al XJ VZ)).mono ?_;rintro e w4 ⟨rfl,OU,Qc⟩;have VG:=(Cg.on NF).trans Qc)
      |(go_at_call 102;refine(KH wmA Kz).mono ?_;rintro e whA ⟨gA,cA,rfl,P7,XZ⟩;have HY:=Kz.trans (XZ.mono Kz.size);obtain⟨d0A2,d1A2,d2A2,d3A2⟩:=HC.out whA HY)
      |(go_at_call 178;refine(KM whB KQ).mono ?_;rintro e wmB ⟨rfl,VZ⟩;have NF:=KQ.trans (VZ.mono KQ.size);obtain⟨d0B2,d1B2,d2B2,d3B2⟩:=HC.out wmB NF)
      |(go_at_call 178;refine WX.mono ?_;rintro e wmA ⟨rfl,Rd⟩;have Kz:Below w1.heap.size w1 wmA:=⟨Rd.os,Rd.tape,Rd.output,Rd.size,Rd.block⟩;obtain⟨d0A,d1A,d2A,d3A⟩:=HC.out wmA Kz)
      |(go_at_call 102;refine WW.mono ?_;rintro e whB ⟨gB,cB,rfl,XJ,Q0⟩;have KQ:Below w1.heap.size w1 whB:=⟨Q0.os,Q0.tape,Q0.output,Q0.size,Q0.block⟩;obtain⟨d0B,d1B,d2B,d3B⟩:=HC.out whB KQ))
     all_goals go_wp2_with fail
     all_goals
      go_end0
      exact⟨rfl,by rw[hr.out];exact OU,VG⟩
    ·have hr:Hid (au q l s=aR q l s):=by unfold Hid;rw[au,ja lS,ja cV,ja yi,ja lz]
     have E6:l.op=8\/l.op=11\/l.op=16\/l.op=17\/l.op=18\/l.op=19\/l.op=20\/l.op=21\/l.op=22:=by
      have h1:=hl.op;have h2:=hl.PA;simp only[pz,Bool.or_eq_true,beq_iff_eq]at lS;omega
     generalize aR q l s=t at*;clear lS cV yi lz;rcases E6 with h|h|h|h|h|h|h|h|h
     all_goals
      rw[h];have HO:Hid (_=_):=h;clear h;go_wp2
      go_end0
      exact⟨rfl,by rw[hr.out];exact gC,Cg⟩
end FlwG
namespace FlwH
open Go Go.RowKit Sq Aux PrjF PrjG PrjJ PrjK PrjL PrjM PrjN PrjO PrjP PrjR PrjS PrjT FlwA FlwB FlwC FlwD FlwE FlwF FlwG
def ab.at (l:ab)(j:Nat):Nat×Nat:=l.places.getD j (0,0)
def bh (q:QP)(l:ab)(s:List Nat):Bool:=
 if l.op=3\/l.op=4\/l.op=5\/l.op=6 then bt 2 [ab.at l 1,ab.at l 2] s
 else if l.op=8\/l.op=19\/l.op=22 then bt 2 [ab.at l 0] s
 else if l.op=9 then bt 2 [ab.at l 1] s||iV (ab.at l 0) s
 else if l.op=10\/l.op=14 then bt 2 [ab.at l 1] s
 else if l.op=11 then bt 2 [ab.at l 0,ab.at l 1] s
 else if l.op=12 then iw q (ab.at l 1) s||iV (ab.at l 0) s
 else if l.op=15 then iV (ab.at l 0) s
 else if l.op=20 then bt 6 [ab.at l 0] s
 else false
theorem x7 {z:Nat}{w w':World}(h:Below z w.drew w'):Below z w w':=⟨h.os,h.tape,h.output,h.size,h.block⟩
section
variable {w:World} {b:Nat} {s:List Nat}
theorem mC (fit:Nat)(x:Nat×Nat){n:Nat}(hs:aj w b s)(hn:w.heap.size=n)(hx:x.1<12)(hv:∀k,s.getD k 0<16)(hfit:fit=2\/fit=6\/fit=10):
  Calls Tryz.prog 219 #[.pointer (some ⟨b,0,none⟩),.int .u8 (fit:Nat),.slice (some ⟨n,0,none⟩) 1 1] (w.alloc (.cells #[.int .i64 (x.1:Nat),.int .i64 (x.2:Nat)] 119)) fun e w'=>e=.returned (.bool (bt fit [x] s))/\Below w.heap.size w w':=
 (j7 fit b n 1 1 _ [x] s _ (hs.below ((Below.refl _ _).alloc (jC _) _) hs.lt) (eX w x hn) (fun y hy=>by simp only[List.mem_singleton]at hy;subst hy;exact hx) hv hfit).mono fun e w' ⟨h1,h2⟩=>⟨h1,((Below.refl w.heap.size w).alloc (jC _) _).trans (h2.mono (by simp))⟩
theorem xF (fit:Nat)(x y:Nat×Nat){n:Nat}(hs:aj w b s)(hn:w.heap.size=n)(hx:x.1<12)(hy:y.1<12)(hv:∀k,s.getD k 0<16)(hfit:fit=2\/fit=6\/fit=10):
  Calls Tryz.prog 219 #[.pointer (some ⟨b,0,none⟩),.int .u8 (fit:Nat),.slice (some ⟨n,0,none⟩) 2 2] (w.alloc (.cells #[.int .i64 (x.1:Nat),.int .i64 (x.2:Nat),.int .i64 (y.1:Nat),.int .i64 (y.2:Nat)] 119)).drew fun e w'=>e=.returned (.bool (bt fit [x,y] s))/\Below w.heap.size w w':=by
 have hp:ay n (w.alloc (.cells #[.int .i64 (x.1:Nat),.int .i64 (x.2:Nat),.int .i64 (y.1:Nat),.int .i64 (y.2:Nat)] 119)).drew (.slice (some ⟨n,0,none⟩) 2 2) [x,y]:=FX w x y hn;have E9:aj (w.alloc (.cells #[.int .i64 (x.1:Nat),.int .i64 (x.2:Nat),.int .i64 (y.1:Nat),.int .i64 (y.2:Nat)] 119)).drew b s:=(hs.below ((Below.refl w.heap.size w).alloc (jC _) (.cells #[.int .i64 (x.1:Nat),.int .i64 (x.2:Nat),.int .i64 (y.1:Nat),.int .i64 (y.2:Nat)] 119)) hs.lt:aj (w.alloc (.cells #[.int .i64 (x.1:Nat),.int .i64 (x.2:Nat),.int .i64 (y.1:Nat),.int .i64 (y.2:Nat)] 119)) b s);exact(j7 fit b n 2 2 _ [x,y] s _ E9 hp (fun z hz=>by simp only[List.mem_cons,List.not_mem_nil,or_false]at hz;exact hz.elim (fun e=>e▸hx) (fun e=>e▸hy)) hv hfit).mono fun e w' ⟨h1,h2⟩=>⟨h1,((Below.refl w.heap.size w).alloc (jC _) _).trans ((x7 h2).mono (by simp))⟩
end
set_option maxRecDepth 20000 in
theorem B0 (q:QP)(l:ab)(nb z a b:Nat)(v u:Value)(ap an:Option Addr)(cp cn:Nat)(s:List Nat)(w:World)(hp:PQ w a q v u)(dS:q.locals.length<=12)(hl:iB q.locals.length nb l)
  (hA:aE z w l (.slice ap l.places.length cp) (.slice an l.next.length cn)) (hs:aj w b s) (hv:∀k,s.getD k 0<16):
  Calls Tryz.prog 190 #[.pointer (some ⟨b,0,none⟩),.pointer (some ⟨a,0,none⟩),.agg #[.int .i64 (l.num:Nat),.int .i64 (l.op:Nat),.slice ap l.places.length cp,.int .i64 l.number,.int .i64 l.flag,.slice an l.next.length cn]] w fun e w'=>e=.returned (.bool (bh q l s))/\Below w.heap.size w w':=by
 have Rn:=hl.op;have Lk:=hl.PA;have aP:=hs.lt;have aO:Below w.heap.size w (w.alloc (.cells #[.int .i64 (l.num:Nat),.int .i64 (l.op:Nat),.slice ap l.places.length cp,.int .i64 l.number,.int .i64 l.flag,.slice an l.next.length cn] 115)):=(Below.refl _ _).alloc (jC _) _;have oG:=hs.below aO aP;have Rq:=hp.below aO;have GJ:=hA.below aO;go_enter Tryz.func190,Tryz.ntmps190
 go_upto_region 3 with fail
 generalize (w.alloc (.cells #[.int .i64 (l.num:Nat),.int .i64 (l.op:Nat),.slice ap l.places.length cp,.int .i64 l.number,.int .i64 l.flag,.slice an l.next.length cn] 115))=W at*;by_cases hg:l.op=3\/l.op=4\/l.op=5\/l.op=6
 ·have hlen:l.places.length=3:=by rcases hg with h|h|h|h<;>(rw[hl.cP,h];rfl)
  have hr:Hid (bh q l s=bt 2 [ab.at l 1,ab.at l 2] s):=by unfold Hid;rcases hg with h|h|h|h<;>simp[bh,h]
  obtain⟨g,rfl,kC,qS,c1,e1⟩:=aS GJ hlen 1 (by omega);have lf:=(hl.places _ (bU (j:=1) (by omega))).1;obtain⟨g',e,-,-,c2,e2⟩:=aS GJ hlen 2 (by omega);simp only[Option.some.injEq,Addr.mk.injEq,and_true]at e;subst e;have Ip:=(hl.places _ (bU (j:=2) (by omega))).1;have d1:W.cell? ⟨g,2,none⟩=some (.int .i64 ((ab.at l 1).1:Nat)):=c1;have f1:W.cell? ⟨g,3,none⟩=some (.int .i64 ((ab.at l 1).2:Nat)):=e1;change (ab.at l 1).1<_ at lf;have d2:W.cell? ⟨g,4,none⟩=some (.int .i64 ((ab.at l 2).1:Nat)):=c2;have f2:W.cell? ⟨g,5,none⟩=some (.int .i64 ((ab.at l 2).2:Nat)):=e2;change (ab.at l 2).1<_ at Ip;clear c1 e1 c2 e2;generalize ab.at l 1=x1 at*;generalize ab.at l 2=x2 at*;have K:=xF 2 x1 x2 oG rfl (by omega) (by omega) hv (by simp);generalize bt 2 [x1,x2] s=r at*;rw[hlen];rcases hg with h|h|h|h
  all_goals
   rw[h];have HO:Hid (_=_):=h;clear h;go_upto_region 7 with fail
   go_region_with (go_at_call 219;refine K.mono ?_;rintro e w1 ⟨rfl,aB⟩)
   all_goals go_wp2_with fail
   all_goals
    go_ret
    exact⟨by rw[hr.out];rfl,aO.trans (aB.mono aO.size)⟩
 ·by_cases hg:l.op=8\/l.op=19\/l.op=22
  ·have hlen:l.places.length=1:=by rcases hg with h|h|h<;>(rw[hl.cP,h];rfl)
   have hr:Hid (bh q l s=bt 2 [ab.at l 0] s):=by unfold Hid;rcases hg with h|h|h<;>simp[bh,h]
   obtain⟨g,rfl,kC,qS,c0,e0⟩:=aS GJ hlen 0 (by omega);have vM:=(hl.places _ (bU (j:=0) (by omega))).1;have d0:W.cell? ⟨g,0,none⟩=some (.int .i64 ((ab.at l 0).1:Nat)):=c0;have f0:W.cell? ⟨g,1,none⟩=some (.int .i64 ((ab.at l 0).2:Nat)):=e0;change (ab.at l 0).1<_ at vM;clear c0 e0;generalize ab.at l 0=x0 at*;have K:=mC 2 x0 oG rfl (by omega) hv (by simp);generalize bt 2 [x0] s=r at*;rw[hlen];rcases hg with h|h|h
   all_goals
    rw[h];have HO:Hid (_=_):=h;clear h;go_wp2_with (go_at_call 219;refine K.mono ?_;rintro e w1 ⟨rfl,aB⟩)
    go_ret
    exact⟨by rw[hr.out];rfl,aO.trans (aB.mono aO.size)⟩
  ·by_cases hg:l.op=10\/l.op=14
   ·have hlen:l.places.length=2:=by rcases hg with h|h<;>(rw[hl.cP,h];rfl)
    have hr:Hid (bh q l s=bt 2 [ab.at l 1] s):=by unfold Hid;rcases hg with h|h<;>simp[bh,h]
    obtain⟨g,rfl,kC,qS,c1,e1⟩:=aS GJ hlen 1 (by omega);have lf:=(hl.places _ (bU (j:=1) (by omega))).1;have d1:W.cell? ⟨g,2,none⟩=some (.int .i64 ((ab.at l 1).1:Nat)):=c1;have f1:W.cell? ⟨g,3,none⟩=some (.int .i64 ((ab.at l 1).2:Nat)):=e1;change (ab.at l 1).1<_ at lf;clear c1 e1;generalize ab.at l 1=x1 at*;have K:=mC 2 x1 oG rfl (by omega) hv (by simp);generalize bt 2 [x1] s=r at*;rw[hlen];rcases hg with h|h
    all_goals
     rw[h];have HO:Hid (_=_):=h;clear h;go_wp2_with (go_at_call 219;refine K.mono ?_;rintro e w1 ⟨rfl,aB⟩)
     go_ret
     exact⟨by rw[hr.out];rfl,aO.trans (aB.mono aO.size)⟩
   ·by_cases hg:l.op=11
    ·have hlen:l.places.length=2:=by rw[hl.cP,hg];rfl
     have hr:Hid (bh q l s=bt 2 [ab.at l 0,ab.at l 1] s):=by unfold Hid;simp[bh,hg]
     obtain⟨g,rfl,kC,qS,c0,e0⟩:=aS GJ hlen 0 (by omega);have vM:=(hl.places _ (bU (j:=0) (by omega))).1;obtain⟨g',e,-,-,c1,e1⟩:=aS GJ hlen 1 (by omega);simp only[Option.some.injEq,Addr.mk.injEq,and_true]at e;subst e;have lf:=(hl.places _ (bU (j:=1) (by omega))).1;have d0:W.cell? ⟨g,0,none⟩=some (.int .i64 ((ab.at l 0).1:Nat)):=c0;have f0:W.cell? ⟨g,1,none⟩=some (.int .i64 ((ab.at l 0).2:Nat)):=e0;change (ab.at l 0).1<_ at vM;have d1:W.cell? ⟨g,2,none⟩=some (.int .i64 ((ab.at l 1).1:Nat)):=c1;have f1:W.cell? ⟨g,3,none⟩=some (.int .i64 ((ab.at l 1).2:Nat)):=e1;change (ab.at l 1).1<_ at lf;clear c0 e0 c1 e1;generalize ab.at l 0=x0 at*;generalize ab.at l 1=x1 at*;have K:=xF 2 x0 x1 oG rfl (by omega) (by omega) hv (by simp);generalize bt 2 [x0,x1] s=r at*;rw[hlen];rw[hg];have HO:Hid (_=_):=hg;clear hg;go_upto_region 18 with fail
     go_region_with (go_at_call 219;refine K.mono ?_;rintro e w1 ⟨rfl,aB⟩)
     all_goals go_wp2_with fail
     all_goals
      go_ret
      exact⟨by rw[hr.out];rfl,aO.trans (aB.mono aO.size)⟩
    ·by_cases hg:l.op=15
     ·have hlen:l.places.length=1:=by rw[hl.cP,hg];rfl
      have hr:Hid (bh q l s=iV (ab.at l 0) s):=by unfold Hid;simp[bh,hg]
      obtain⟨g,rfl,kC,qS,c0,e0⟩:=aS GJ hlen 0 (by omega);have vM:=(hl.places _ (bU (j:=0) (by omega))).1;have d0:W.cell? ⟨g,0,none⟩=some (.int .i64 ((ab.at l 0).1:Nat)):=c0;have f0:W.cell? ⟨g,1,none⟩=some (.int .i64 ((ab.at l 0).2:Nat)):=e0;change (ab.at l 0).1<_ at vM;clear c0 e0;generalize ab.at l 0=x0 at*;have K:=tP b x0 s _ oG (by omega) hv;generalize iV x0 s=r at*;rw[hlen];rw[hg];have HO:Hid (_=_):=hg;clear hg;go_wp2_with (go_at_call 220;refine K.mono ?_;rintro e w1 ⟨rfl,aB⟩)
      go_ret
      exact⟨by rw[hr.out];rfl,aO.trans (aB.mono aO.size)⟩
     ·by_cases hg:l.op=20
      ·have hlen:l.places.length=1:=by rw[hl.cP,hg];rfl
       have hr:Hid (bh q l s=bt 6 [ab.at l 0] s):=by unfold Hid;simp[bh,hg]
       obtain⟨g,rfl,kC,qS,c0,e0⟩:=aS GJ hlen 0 (by omega);have vM:=(hl.places _ (bU (j:=0) (by omega))).1;have d0:W.cell? ⟨g,0,none⟩=some (.int .i64 ((ab.at l 0).1:Nat)):=c0;have f0:W.cell? ⟨g,1,none⟩=some (.int .i64 ((ab.at l 0).2:Nat)):=e0;change (ab.at l 0).1<_ at vM;clear c0 e0;generalize ab.at l 0=x0 at*;have K:=mC 6 x0 oG rfl (by omega) hv (by simp);generalize bt 6 [x0] s=r at*;rw[hlen];rw[hg];have HO:Hid (_=_):=hg;clear hg;go_wp2_with (go_at_call 219;refine K.mono ?_;rintro e w1 ⟨rfl,aB⟩)
       go_ret
       exact⟨by rw[hr.out];rfl,aO.trans (aB.mono aO.size)⟩
      ·by_cases hg:l.op=9
       ·have hlen:l.places.length=2:=by rw[hl.cP,hg];rfl
        have hr:Hid (bh q l s=(bt 2 [ab.at l 1] s||iV (ab.at l 0) s)):=by unfold Hid;simp[bh,hg]
        obtain⟨g,rfl,kC,qS,c0,e0⟩:=aS GJ hlen 0 (by omega);have vM:=(hl.places _ (bU (j:=0) (by omega))).1;obtain⟨g',e,-,-,c1,e1⟩:=aS GJ hlen 1 (by omega);simp only[Option.some.injEq,Addr.mk.injEq,and_true]at e;subst e;have lf:=(hl.places _ (bU (j:=1) (by omega))).1;have d0:W.cell? ⟨g,0,none⟩=some (.int .i64 ((ab.at l 0).1:Nat)):=c0;have f0:W.cell? ⟨g,1,none⟩=some (.int .i64 ((ab.at l 0).2:Nat)):=e0;change (ab.at l 0).1<_ at vM;have d1:W.cell? ⟨g,2,none⟩=some (.int .i64 ((ab.at l 1).1:Nat)):=c1;have f1:W.cell? ⟨g,3,none⟩=some (.int .i64 ((ab.at l 1).2:Nat)):=e1;change (ab.at l 1).1<_ at lf;clear c0 e0 c1 e1;generalize ab.at l 0=x0 at*;generalize ab.at l 1=x1 at*;have K:=mC 2 x1 oG rfl (by omega) hv (by simp);have K2:=fun W' (hb:Below W.heap.size W W')=>tP b x0 s W' (oG.below hb oG.lt) (by omega) hv
        have HC:Hid (∀W',Below W.heap.size W W'->W'.cell? ⟨g,0,none⟩=some (.int .i64 (x0.1:Nat))/\W'.cell? ⟨g,1,none⟩=some (.int .i64 (x0.2:Nat))):=fun W' hb=>⟨(hb.cell (p:=⟨g,0,none⟩) qS).trans d0,(hb.cell (p:=⟨g,1,none⟩) qS).trans f0⟩
        generalize bt 2 [x1] s=r at*;generalize iV x0 s=r2 at*;rw[hlen];rw[hg];have HO:Hid (_=_):=hg;clear hg;cases r with
        |true=>
         go_wp2_with (go_at_call 219;refine K.mono ?_;rintro e w1 ⟨rfl,aB⟩)
         go_ret
         exact⟨by rw[hr.out];rfl,aO.trans (aB.mono aO.size)⟩
        |false=>
         go_wp2_with (first|(go_at_call 219;refine K.mono ?_;rintro e w1 ⟨rfl,aB⟩;obtain⟨y0,y1⟩:=HC.out w1 aB)|(go_at_call 220;refine(K2 w1 aB).mono ?_;rintro e w2 ⟨rfl,bu⟩))
         go_ret
         exact⟨by rw[hr.out];rfl,(aO.trans (aB.mono aO.size)).trans (bu.mono (aO.trans (aB.mono aO.size)).size)⟩
       ·by_cases hg:l.op=12
        ·have hlen:l.places.length=2:=by rw[hl.cP,hg];rfl
         have hr:Hid (bh q l s=(iw q (ab.at l 1) s||iV (ab.at l 0) s)):=by unfold Hid;simp[bh,hg]
         obtain⟨g,rfl,kC,qS,c0,e0⟩:=aS GJ hlen 0 (by omega);have vM:=(hl.places _ (bU (j:=0) (by omega))).1;obtain⟨g',e,-,-,c1,e1⟩:=aS GJ hlen 1 (by omega);simp only[Option.some.injEq,Addr.mk.injEq,and_true]at e;subst e;have lf:=(hl.places _ (bU (j:=1) (by omega))).1;have d0:W.cell? ⟨g,0,none⟩=some (.int .i64 ((ab.at l 0).1:Nat)):=c0;have f0:W.cell? ⟨g,1,none⟩=some (.int .i64 ((ab.at l 0).2:Nat)):=e0;change (ab.at l 0).1<_ at vM;have d1:W.cell? ⟨g,2,none⟩=some (.int .i64 ((ab.at l 1).1:Nat)):=c1;have f1:W.cell? ⟨g,3,none⟩=some (.int .i64 ((ab.at l 1).2:Nat)):=e1;change (ab.at l 1).1<_ at lf;clear c0 e0 c1 e1;generalize ab.at l 0=x0 at*;generalize ab.at l 1=x1 at*;have K:=Gu q b x1 s v u a _ Rq.aD Rq.loc (by omega) lf oG (by omega) hv;have K2:=fun W' (hb:Below W.heap.size W W')=>tP b x0 s W' (oG.below hb oG.lt) (by omega) hv
         have HC:Hid (∀W',Below W.heap.size W W'->W'.cell? ⟨g,0,none⟩=some (.int .i64 (x0.1:Nat))/\W'.cell? ⟨g,1,none⟩=some (.int .i64 (x0.2:Nat))):=fun W' hb=>⟨(hb.cell (p:=⟨g,0,none⟩) qS).trans d0,(hb.cell (p:=⟨g,1,none⟩) qS).trans f0⟩
         generalize iw q x1 s=r at*;generalize iV x0 s=r2 at*;rw[hlen];rw[hg];have HO:Hid (_=_):=hg;clear hg;cases r with
         |true=>
          go_wp2_with (go_at_call 221;refine K.mono ?_;rintro e w1 ⟨rfl,aB⟩)
          go_ret
          exact⟨by rw[hr.out];rfl,aO.trans (aB.mono aO.size)⟩
         |false=>
          go_wp2_with (first|(go_at_call 221;refine K.mono ?_;rintro e w1 ⟨rfl,aB⟩;obtain⟨y0,y1⟩:=HC.out w1 aB)|(go_at_call 220;refine(K2 w1 aB).mono ?_;rintro e w2 ⟨rfl,bu⟩))
          go_ret
          exact⟨by rw[hr.out];rfl,(aO.trans (aB.mono aO.size)).trans (bu.mono (aO.trans (aB.mono aO.size)).size)⟩
        ·have E6:l.op=2\/l.op=7\/l.op=13\/l.op=16\/l.op=17\/l.op=18\/l.op=21:=by omega
         have hr:Hid (bh q l s=false):=by unfold Hid;rcases E6 with h|h|h|h|h|h|h<;>simp[bh,h]
         rcases E6 with h|h|h|h|h|h|h
         all_goals
          rw[h];have HO:Hid (_=_):=h;clear h;go_wp2
          go_ret
          exact⟨by rw[hr.out];rfl,aO⟩
end FlwH
end Go.Proofs.YtmlgajhhnojdjaaGreatDoor

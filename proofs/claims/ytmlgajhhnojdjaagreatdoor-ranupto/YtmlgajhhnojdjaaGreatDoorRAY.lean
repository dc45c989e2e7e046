import Derived.Test.YtmlgajhhnojdjaaGreatDoorRAP
namespace Go.Proofs.YtmlgajhhnojdjaaGreatDoor
namespace FlwG
open Go Go.RowKit Sq Aux PrjF PrjG PrjJ PrjK PrjL PrjM PrjN PrjO PrjP PrjR PrjS PrjT FlwA FlwB FlwC FlwD FlwE FlwF
attribute [local go_sem ↓] kA iK
def oP (op:Nat):Bool:=op==2||op==3||op==4||op==5||op==6||op==7||op==10||op==9||op==14
def bj (q:QP)(l:aa)(s:List Nat):List Nat:=
 if oP l.op=true then gR 2 [l.places.getD 0 (0,0)] (cF q l s)
 else if l.op=12 then gR (dm q (l.places.getD 1 (0,0)) s) (QP.ab q (l.places.getD 0 (0,0))) (cF q l s)
 else if l.op=13 then gR 4 [l.places.getD 0 (0,0)] (cF q l s)
 else if l.op=15 then dB (QP.ab q (l.places.getD 0 (0,0))) (cF q l s)
 else cF q l s
theorem cX {ps:List (Nat×Nat)}{j:Nat}(h:j<ps.length):ps.getD j (0,0)∈ps:=by
 rw[jA,jB h];exact jL h
theorem rv {nl nb:Nat}{l:aa}(h:tR nl nb l)(ho:oP l.op=true\/l.op=12\/l.op=13\/l.op=15):1<=l.places.length:=by
 rw[h.cP];have key:∀op:Fin 23,(oP op.val=true\/op.val=12\/op.val=13\/op.val=15)->1<=((ae op.val).filter sL).length:=by decide
 exact key ⟨l.op,h.op⟩ ho
set_option maxRecDepth 20000 in
set_option maxHeartbeats 2000000 in
theorem IB (q:QP)(l:aa)(nb z a b:Nat)(v u:Value)(ap an:Option Addr)(cp cn:Nat)(s:List Nat)(w:World)(hp:PQ w a q v u)(ic:q.locals.length<=12)(hl:tR q.locals.length nb l)
  (hA:bp z w l (.slice ap l.places.length cp) (.slice an l.next.length cn)) (hs:aW w b s) (hv:∀k,s.getD k 0<16):
  Calls Tryz.prog 128 #[.pointer (some ⟨b,0,none⟩),.pointer (some ⟨a,0,none⟩),.agg #[.int .i64 (l.num:Nat),.int .i64 (l.op:Nat),.slice ap l.places.length cp,.int .i64 l.number,.int .i64 l.flag,.slice an l.next.length cn]] w fun e w'=>e=.returned (.tuple #[])/\aW w' b (bj q l s)/\bu b w w':=by
 have aX:Below w.heap.size w (w.alloc (.cells #[.int .i64 (l.num:Nat),.int .i64 (l.op:Nat),.slice ap l.places.length cp,.int .i64 l.number,.int .i64 l.flag,.slice an l.next.length cn] 115)):=(Below.refl _ _).alloc (jC _) _;have qt:=hs.below aX hs.lt;have Xn:=aW.has qt;have U2:=aW.of qt;have U8:(w.alloc (.cells #[.int .i64 (l.num:Nat),.int .i64 (l.op:Nat),.slice ap l.places.length cp,.int .i64 l.number,.int .i64 l.flag,.slice an l.next.length cn] 115)).heap.size=w.heap.size+1:=by simp
 have hZ:aW ((w.alloc (.cells #[.int .i64 (l.num:Nat),.int .i64 (l.op:Nat),.slice ap l.places.length cp,.int .i64 l.number,.int .i64 l.flag,.slice an l.next.length cn] 115)).alloc (.cells #[.int .u8 0,.int .u8 0,.int .u8 0,.int .u8 0,.int .u8 0,.int .u8 0,.int .u8 0,.int .u8 0,.int .u8 0,.int .u8 0,.int .u8 0,.int .u8 0,.int .u8 0,.int .u8 0,.int .u8 0,.int .u8 0,.int .u8 0,.int .u8 0,.int .u8 0,.int .u8 0,.int .u8 0,.int .u8 0,.int .u8 0,.int .u8 0] 209)) (w.heap.size+1) aq:=by
  rw[<-U8];exact aW.new (w.alloc (.cells #[.int .i64 (l.num:Nat),.int .i64 (l.op:Nat),.slice ap l.places.length cp,.int .i64 l.number,.int .i64 l.flag,.slice an l.next.length cn] 115)) (s:=aq) (by decide)
 have oO:=aW.room hZ;have GI:=pI hs.1;have AS:=aW.store hZ hs.1;have Wb:Below w.heap.size w ((w.alloc (.cells #[.int .i64 (l.num:Nat),.int .i64 (l.op:Nat),.slice ap l.places.length cp,.int .i64 l.number,.int .i64 l.flag,.slice an l.next.length cn] 115)).alloc (.cells #[.int .u8 0,.int .u8 0,.int .u8 0,.int .u8 0,.int .u8 0,.int .u8 0,.int .u8 0,.int .u8 0,.int .u8 0,.int .u8 0,.int .u8 0,.int .u8 0,.int .u8 0,.int .u8 0,.int .u8 0,.int .u8 0,.int .u8 0,.int .u8 0,.int .u8 0,.int .u8 0,.int .u8 0,.int .u8 0,.int .u8 0,.int .u8 0] 209)):=aX.alloc aX.size _;have xO:Below w.heap.size w (((w.alloc (.cells #[.int .i64 (l.num:Nat),.int .i64 (l.op:Nat),.slice ap l.places.length cp,.int .i64 l.number,.int .i64 l.flag,.slice an l.next.length cn] 115)).alloc (.cells #[.int .u8 0,.int .u8 0,.int .u8 0,.int .u8 0,.int .u8 0,.int .u8 0,.int .u8 0,.int .u8 0,.int .u8 0,.int .u8 0,.int .u8 0,.int .u8 0,.int .u8 0,.int .u8 0,.int .u8 0,.int .u8 0,.int .u8 0,.int .u8 0,.int .u8 0,.int .u8 0,.int .u8 0,.int .u8 0,.int .u8 0,.int .u8 0] 209)).setCells (w.heap.size+1) 0 (ao s)):=ay Wb (by omega) _ _;have Eu:(((w.alloc (.cells #[.int .i64 (l.num:Nat),.int .i64 (l.op:Nat),.slice ap l.places.length cp,.int .i64 l.number,.int .i64 l.flag,.slice an l.next.length cn] 115)).alloc (.cells #[.int .u8 0,.int .u8 0,.int .u8 0,.int .u8 0,.int .u8 0,.int .u8 0,.int .u8 0,.int .u8 0,.int .u8 0,.int .u8 0,.int .u8 0,.int .u8 0,.int .u8 0,.int .u8 0,.int .u8 0,.int .u8 0,.int .u8 0,.int .u8 0,.int .u8 0,.int .u8 0,.int .u8 0,.int .u8 0,.int .u8 0,.int .u8 0] 209)).setCells (w.heap.size+1) 0 (ao s)).heap[w.heap.size]?=some (.cells #[.int .i64 (l.num:Nat),.int .i64 (l.op:Nat),.slice ap l.places.length cp,.int .i64 l.number,.int .i64 l.flag,.slice an l.next.length cn] 115 (0,0)):=by
  rw[dd _ _ _ _ _ (by omega),((Below.refl (w.heap.size+1) (w.alloc (.cells #[.int .i64 (l.num:Nat),.int .i64 (l.op:Nat),.slice ap l.places.length cp,.int .i64 l.number,.int .i64 l.flag,.slice an l.next.length cn] 115))).alloc (by omega) _).block w.heap.size (by omega)];exact jD
 clear U8;go_enter Tryz.func128,Tryz.ntmps128
 go_upto_region 2 with fail
 generalize (((w.alloc (.cells #[.int .i64 (l.num:Nat),.int .i64 (l.op:Nat),.slice ap l.places.length cp,.int .i64 l.number,.int .i64 l.flag,.slice an l.next.length cn] 115)).alloc (.cells #[.int .u8 0,.int .u8 0,.int .u8 0,.int .u8 0,.int .u8 0,.int .u8 0,.int .u8 0,.int .u8 0,.int .u8 0,.int .u8 0,.int .u8 0,.int .u8 0,.int .u8 0,.int .u8 0,.int .u8 0,.int .u8 0,.int .u8 0,.int .u8 0,.int .u8 0,.int .u8 0,.int .u8 0,.int .u8 0,.int .u8 0,.int .u8 0] 209)).setCells (w.heap.size+1) 0 (ao s))=W at*;have hblt:=hs.lt;have l0:=(cell_of_heap Eu 0).trans (by rfl:_=some (Value.int .i64 (l.num:Nat)));have l1:=(cell_of_heap Eu 1).trans (by rfl:_=some (Value.int .i64 (l.op:Nat)));have l2:=(cell_of_heap Eu 2).trans (by rfl:_=some (Value.slice ap l.places.length cp));have l3:=(cell_of_heap Eu 3).trans (by rfl:_=some (Value.int .i64 l.number));have l4:=(cell_of_heap Eu 4).trans (by rfl:_=some (Value.int .i64 l.flag));have l5:=(cell_of_heap Eu 5).trans (by rfl:_=some (Value.slice an l.next.length cn));have hpW:=hp.below xO;have hAW:=hA.below xO;have hsW:=hs.below xO hblt;have KT:=PT q l nb z a b v u ap an cp cn s W hpW ic hl hAW hsW;clear Xn U2 oO GI hZ;go_upto_region 5 with(go_at_call 125;refine KT.mono ?_;rintro e w1 ⟨rfl,sH,qp⟩;have mw:w1.heap[w.heap.size]?=_:=(qp.block w.heap.size (lt_of_heap Eu) (by omega)).trans Eu;have m1:=(cell_of_heap mw 1).trans (by rfl:_=some (Value.int .i64 (l.op:Nat)));have m2:=(cell_of_heap mw 2).trans (by rfl:_=some (Value.slice ap l.places.length cp)))
 have ti:aW w1 (w.heap.size+1) s:=⟨AS.1,(qp.block (w.heap.size+1) AS.lt (by omega)).trans AS.2⟩;have B8:=hpW.qa qp hsW;have Zm:=OL hAW qp hsW;have Kb:bu b w w1:=(bu.of xO).trans qp;clear l0 l1 l2 l3 l4 l5 KT AS Eu;by_cases hput:oP l.op=true
 ·have Wl:=rv hl (.inl hput);obtain⟨g,rfl,ql,hg,c1,c2⟩:=bm Zm rfl 0 (by omega);have hx:=(hl.places _ (cX (j:=0) (by omega))).1;have hr:Hid (bj q l s=gR 2 [l.places.getD 0 (0,0)] (cF q l s)):=by unfold Hid;rw[bj,jb hput]
  have d1:w1.cell? ⟨g,0,none⟩=some (.int .i64 ((l.places.getD 0 (0,0)).1:Nat)):=c1;have d2:w1.cell? ⟨g,1,none⟩=some (.int .i64 ((l.places.getD 0 (0,0)).2:Nat)):=c2;have hid:(0:Int)<(l.places.length:Nat):=by omega
  clear c1 c2;generalize l.places.getD 0 (0,0)=x at*;have TT:Below w1.heap.size w1 (w1.alloc (.cells #[.int .i64 (x.1:Nat),.int .i64 (x.2:Nat)] 119)):=(Below.refl _ _).alloc (jC _) _;have KP:=zW 2 b _ 1 1 _ [x] (cF q l s) _ (sH.below TT sH.lt) (iH w1 x (n:=w1.heap.size) rfl) (fun y hy=>by simp only[List.mem_singleton]at hy;subst hy;omega) (by decide);generalize cF q l s=t at*;have Ev:l.op=2\/l.op=3\/l.op=4\/l.op=5\/l.op=6\/l.op=7\/l.op=10\/l.op=9\/l.op=14:=by
   simp only[oP,Bool.or_eq_true,beq_iff_eq]at hput;omega
  clear hput;rcases Ev with h|h|h|h|h|h|h|h|h
  all_goals
   rw[h];have HO:Hid (_=_):=h;clear h;go_wp2_with (go_at_call 177;refine KP.mono ?_;rintro e w2 ⟨rfl,Jn,qq⟩)
   go_end0
   exact⟨rfl,by rw[hr.out];exact Jn,(Kb.on TT).trans qq⟩
 ·by_cases En:l.op=13
  ·have Wl:=rv hl (.inr (.inr (.inl En)));obtain⟨g,rfl,ql,hg,c1,c2⟩:=bm Zm rfl 0 (by omega);have hx:=(hl.places _ (cX (j:=0) (by omega))).1;have hr:Hid (bj q l s=gR 4 [l.places.getD 0 (0,0)] (cF q l s)):=by unfold Hid;rw[bj,ja hput,ja (by omega),jb En]
   have d1:w1.cell? ⟨g,0,none⟩=some (.int .i64 ((l.places.getD 0 (0,0)).1:Nat)):=c1;have d2:w1.cell? ⟨g,1,none⟩=some (.int .i64 ((l.places.getD 0 (0,0)).2:Nat)):=c2;have hid:(0:Int)<(l.places.length:Nat):=by omega
   clear c1 c2;generalize l.places.getD 0 (0,0)=x at*;have TT:Below w1.heap.size w1 (w1.alloc (.cells #[.int .i64 (x.1:Nat),.int .i64 (x.2:Nat)] 119)):=(Below.refl _ _).alloc (jC _) _;have KP:=zW 4 b _ 1 1 _ [x] (cF q l s) _ (sH.below TT sH.lt) (iH w1 x (n:=w1.heap.size) rfl) (fun y hy=>by simp only[List.mem_singleton]at hy;subst hy;omega) (by decide);generalize cF q l s=t at*;clear hput;rw[En];have HO:Hid (_=_):=En;clear En;go_wp2_with (go_at_call 177;refine KP.mono ?_;rintro e w2 ⟨rfl,Jn,qq⟩)
   go_end0
   exact⟨rfl,by rw[hr.out];exact Jn,(Kb.on TT).trans qq⟩
  ·by_cases su:l.op=15
   ·have Wl:=rv hl (.inr (.inr (.inr su)));obtain⟨g,rfl,ql,hg,c1,c2⟩:=bm Zm rfl 0 (by omega);have hx:=(hl.places _ (cX (j:=0) (by omega))).1;have hr:Hid (bj q l s=dB (QP.ab q (l.places.getD 0 (0,0))) (cF q l s)):=by unfold Hid;rw[bj,ja hput,ja (by omega),ja En,jb su]
    have d1:w1.cell? ⟨g,0,none⟩=some (.int .i64 ((l.places.getD 0 (0,0)).1:Nat)):=c1;have d2:w1.cell? ⟨g,1,none⟩=some (.int .i64 ((l.places.getD 0 (0,0)).2:Nat)):=c2;have hid:(0:Int)<(l.places.length:Nat):=by omega
    clear c1 c2;generalize l.places.getD 0 (0,0)=x at*;have KH:=ee q x v u a w1 B8.aI B8.loc hx;generalize cF q l s=t at*;have KT:=fun(W':World) (g c:Nat) (hb:Below w1.heap.size w1 W') (z:Nat) (hP:bO z W' (.slice (some ⟨g,0,none⟩) (QP.ab q x).length c) (QP.ab q x))=>BQ b z _ c _ (QP.ab q x) t W' (sH.below hb sH.lt) hP (cC (by omega))
    clear hput En;rw[su];have HO:Hid (_=_):=su;clear su;go_wp2_with (first
     |(go_at_call 102;refine KH.mono ?_;rintro e w2 ⟨g2,c2,rfl,zj,bT⟩)
     |(go_at_call 174;refine(KT w2 g2 c2 bT _ zj).mono ?_;rintro e w3 ⟨rfl,V9,Ka⟩))
    go_end0
    exact⟨rfl,by rw[hr.out];exact V9,(Kb.on bT).trans Ka⟩
   ·by_cases cf:l.op=12
    ·have hlen:l.places.length=2:=by rw[hl.cP,cf];rfl
     obtain⟨g,rfl,ql,hg,c1,c2⟩:=bm Zm hlen 0 (by omega);obtain⟨g',e,-,-,c3,c4⟩:=bm Zm hlen 1 (by omega);simp only[Option.some.injEq,Addr.mk.injEq,and_true]at e;subst e;have hx:=(hl.places _ (cX (j:=0) (by omega))).1;have hy:=(hl.places _ (cX (j:=1) (by omega))).1;have hr:Hid (bj q l s=gR (dm q (l.places.getD 1 (0,0)) s) (QP.ab q (l.places.getD 0 (0,0))) (cF q l s)):=by unfold Hid;rw[bj,ja hput,jb cf]
     have HC:Hid (∀w',Below w1.heap.size w1 w'->w'.cell? ⟨g,0,none⟩=some (.int .i64 ((l.places.getD 0 (0,0)).1:Nat))/\w'.cell? ⟨g,1,none⟩=some (.int .i64 ((l.places.getD 0 (0,0)).2:Nat))/\w'.cell? ⟨g,2,none⟩=some (.int .i64 ((l.places.getD 1 (0,0)).1:Nat))/\w'.cell? ⟨g,3,none⟩=some (.int .i64 ((l.places.getD 1 (0,0)).2:Nat))):=fun w' hb=>
      ⟨(hb.cell (p:=⟨g,0,none⟩) hg).trans c1,(hb.cell (p:=⟨g,1,none⟩) hg).trans c2,(hb.cell (p:=⟨g,2,none⟩) hg).trans c3,(hb.cell (p:=⟨g,3,none⟩) hg).trans c4⟩
     clear c1 c2 c3 c4;have hmv:dm q (l.places.getD 1 (0,0)) s<16:=by
      unfold dm;split
      ·exact hv _
      ·decide
     generalize l.places.getD 0 (0,0)=x at*;generalize l.places.getD 1 (0,0)=y at*;have r8:Below w1.heap.size w1 w1.drew:=⟨rfl,rfl,rfl,jC _,fun _ _=>rfl⟩;have KH:=fun w' (hb:Below w1.heap.size w1 w')=>ee q x v u a w' (B8.below hb).aI (B8.below hb).loc hx
     have KM:=fun w' (hb:Below w1.heap.size w1 w')=>O0 q (w.heap.size+1) y s v u a w' (B8.below hb).aI (B8.below hb).loc (by omega) hy (ti.below hb ti.lt) (by omega)
     obtain⟨mv,hmvv⟩:∃mv,mv=dm q y s:=⟨_,rfl⟩;rw[<-hmvv]at KM hmv hr;generalize cF q l s=t at*;have KP:=fun(W':World) (g c:Nat) (hb:Below w1.heap.size w1 W') (z:Nat) (hP:bO z W' (.slice (some ⟨g,0,none⟩) (QP.ab q x).length c) (QP.ab q x))=>zW mv b z _ c _ (QP.ab q x) t W' (sH.below hb sH.lt) hP (cC (by omega)) hmv
     obtain⟨d0,d1,d2,d3⟩:=HC.out w1 (Below.refl _ _);have KMd:=KM w1.drew r8;have KHd:=KH w1.drew r8;clear hput En su hmvv;rw[cf];have HO:Hid (_=_):=cf;rw[hlen];clear cf;go_upto_region 16 with fail
     go_region_with (first
      |(go_at_call 177;refine(KP whA gA cA Ri _ yQ).mono ?_;rintro e w4 ⟨rfl,hS4,Zz⟩;have hTT:=(Kb.on Ri).trans Zz)
      |(go_at_call 177;refine(KP wmB gB cB Xq _ (ax hPB hmB)).mono ?_;rintro e w4 ⟨rfl,hS4,Zz⟩;have hTT:=(Kb.on Xq).trans Zz)
      |(go_at_call 102;refine(KH wmA UI).mono ?_;rintro e whA ⟨gA,cA,rfl,yQ,hhA⟩;have Ri:=UI.trans (hhA.mono UI.size);obtain⟨d0A2,d1A2,d2A2,d3A2⟩:=HC.out whA Ri)
      |(go_at_call 178;refine(KM whB UJ).mono ?_;rintro e wmB ⟨rfl,hmB⟩;have Xq:=UJ.trans (hmB.mono UJ.size);obtain⟨d0B2,d1B2,d2B2,d3B2⟩:=HC.out wmB Xq)
      |(go_at_call 178;refine KMd.mono ?_;rintro e wmA ⟨rfl,hmA⟩;have UI:Below w1.heap.size w1 wmA:=⟨hmA.os,hmA.tape,hmA.output,hmA.size,hmA.block⟩;obtain⟨d0A,d1A,d2A,d3A⟩:=HC.out wmA UI)
      |(go_at_call 102;refine KHd.mono ?_;rintro e whB ⟨gB,cB,rfl,hPB,ZY⟩;have UJ:Below w1.heap.size w1 whB:=⟨ZY.os,ZY.tape,ZY.output,ZY.size,ZY.block⟩;obtain⟨d0B,d1B,d2B,d3B⟩:=HC.out whB UJ))
     all_goals go_wp2_with fail
     all_goals
      go_end0
      exact⟨rfl,by rw[hr.out];exact hS4,hTT⟩
    ·have hr:Hid (bj q l s=cF q l s):=by unfold Hid;rw[bj,ja hput,ja cf,ja En,ja su]
     have Ev:l.op=8\/l.op=11\/l.op=16\/l.op=17\/l.op=18\/l.op=19\/l.op=20\/l.op=21\/l.op=22:=by
      have h1:=hl.op;have h2:=hl.op2;simp only[oP,Bool.or_eq_true,beq_iff_eq]at hput;omega
     generalize cF q l s=t at*;clear hput cf En su;rcases Ev with h|h|h|h|h|h|h|h|h
     all_goals
      rw[h];have HO:Hid (_=_):=h;clear h;go_wp2
      go_end0
      exact⟨rfl,by rw[hr.out];exact sH,Kb⟩
end FlwG
namespace FlwH
open Go Go.RowKit Sq Aux PrjF PrjG PrjJ PrjK PrjL PrjM PrjN PrjO PrjP PrjR PrjS PrjT FlwA FlwB FlwC FlwD FlwE FlwF FlwG
def aa.at (l:aa)(j:Nat):Nat×Nat:=l.places.getD j (0,0)
def aL (q:QP)(l:aa)(s:List Nat):Bool:=
 if l.op=3\/l.op=4\/l.op=5\/l.op=6 then bw 2 [aa.at l 1,aa.at l 2] s
 else if l.op=8\/l.op=19\/l.op=22 then bw 2 [aa.at l 0] s
 else if l.op=9 then bw 2 [aa.at l 1] s||lz (aa.at l 0) s
 else if l.op=10\/l.op=14 then bw 2 [aa.at l 1] s
 else if l.op=11 then bw 2 [aa.at l 0,aa.at l 1] s
 else if l.op=12 then gT q (aa.at l 1) s||lz (aa.at l 0) s
 else if l.op=15 then lz (aa.at l 0) s
 else if l.op=20 then bw 6 [aa.at l 0] s
 else false
theorem D5 {z:Nat}{w w':World}(h:Below z w.drew w'):Below z w w':=⟨h.os,h.tape,h.output,h.size,h.block⟩
section
variable {w:World} {b:Nat} {s:List Nat}
theorem sc (fit:Nat)(x:Nat×Nat){n:Nat}(hs:aW w b s)(hn:w.heap.size=n)(hx:x.1<12)(hv:∀k,s.getD k 0<16)(mq:fit=2\/fit=6\/fit=10):
  Calls Tryz.prog 219 #[.pointer (some ⟨b,0,none⟩),.int .u8 (fit:Nat),.slice (some ⟨n,0,none⟩) 1 1] (w.alloc (.cells #[.int .i64 (x.1:Nat),.int .i64 (x.2:Nat)] 119)) fun e w'=>e=.returned (.bool (bw fit [x] s))/\Below w.heap.size w w':=
 (oQ fit b n 1 1 _ [x] s _ (hs.below ((Below.refl _ _).alloc (jC _) _) hs.lt) (iH w x hn) (fun y hy=>by simp only[List.mem_singleton]at hy;subst hy;exact hx) hv mq).mono fun e w' ⟨h1,h2⟩=>⟨h1,((Below.refl w.heap.size w).alloc (jC _) _).trans (h2.mono (by simp))⟩
theorem iE (fit:Nat)(x y:Nat×Nat){n:Nat}(hs:aW w b s)(hn:w.heap.size=n)(hx:x.1<12)(hy:y.1<12)(hv:∀k,s.getD k 0<16)(mq:fit=2\/fit=6\/fit=10):
  Calls Tryz.prog 219 #[.pointer (some ⟨b,0,none⟩),.int .u8 (fit:Nat),.slice (some ⟨n,0,none⟩) 2 2] (w.alloc (.cells #[.int .i64 (x.1:Nat),.int .i64 (x.2:Nat),.int .i64 (y.1:Nat),.int .i64 (y.2:Nat)] 119)).drew fun e w'=>e=.returned (.bool (bw fit [x,y] s))/\Below w.heap.size w w':=by
 have hp:bO n (w.alloc (.cells #[.int .i64 (x.1:Nat),.int .i64 (x.2:Nat),.int .i64 (y.1:Nat),.int .i64 (y.2:Nat)] 119)).drew (.slice (some ⟨n,0,none⟩) 2 2) [x,y]:=Pl w x y hn;have Oi:aW (w.alloc (.cells #[.int .i64 (x.1:Nat),.int .i64 (x.2:Nat),.int .i64 (y.1:Nat),.int .i64 (y.2:Nat)] 119)).drew b s:=(hs.below ((Below.refl w.heap.size w).alloc (jC _) (.cells #[.int .i64 (x.1:Nat),.int .i64 (x.2:Nat),.int .i64 (y.1:Nat),.int .i64 (y.2:Nat)] 119)) hs.lt:aW (w.alloc (.cells #[.int .i64 (x.1:Nat),.int .i64 (x.2:Nat),.int .i64 (y.1:Nat),.int .i64 (y.2:Nat)] 119)) b s);exact(oQ fit b n 2 2 _ [x,y] s _ Oi hp (fun z hz=>by simp only[List.mem_cons,List.not_mem_nil,or_false]at hz;exact hz.elim (fun e=>e▸hx) (fun e=>e▸hy)) hv mq).mono fun e w' ⟨h1,h2⟩=>⟨h1,((Below.refl w.heap.size w).alloc (jC _) _).trans ((D5 h2).mono (by simp))⟩
end
set_option maxRecDepth 20000 in
set_option maxHeartbeats 4000000 in
theorem JY (q:QP)(l:aa)(nb z a b:Nat)(v u:Value)(ap an:Option Addr)(cp cn:Nat)(s:List Nat)(w:World)(hp:PQ w a q v u)(ic:q.locals.length<=12)(hl:tR q.locals.length nb l)
  (hA:bp z w l (.slice ap l.places.length cp) (.slice an l.next.length cn)) (hs:aW w b s) (hv:∀k,s.getD k 0<16):
  Calls Tryz.prog 190 #[.pointer (some ⟨b,0,none⟩),.pointer (some ⟨a,0,none⟩),.agg #[.int .i64 (l.num:Nat),.int .i64 (l.op:Nat),.slice ap l.places.length cp,.int .i64 l.number,.int .i64 l.flag,.slice an l.next.length cn]] w fun e w'=>e=.returned (.bool (aL q l s))/\Below w.heap.size w w':=by
 have hop1:=hl.op;have U3:=hl.op2;have aK:=hs.lt;have aX:Below w.heap.size w (w.alloc (.cells #[.int .i64 (l.num:Nat),.int .i64 (l.op:Nat),.slice ap l.places.length cp,.int .i64 l.number,.int .i64 l.flag,.slice an l.next.length cn] 115)):=(Below.refl _ _).alloc (jC _) _;have qt:=hs.below aX aK;have hpA:=hp.below aX;have P6:=hA.below aX;go_enter Tryz.func190,Tryz.ntmps190
 go_upto_region 3 with fail
 generalize (w.alloc (.cells #[.int .i64 (l.num:Nat),.int .i64 (l.op:Nat),.slice ap l.places.length cp,.int .i64 l.number,.int .i64 l.flag,.slice an l.next.length cn] 115))=W at*;by_cases hg:l.op=3\/l.op=4\/l.op=5\/l.op=6
 ·have hlen:l.places.length=3:=by rcases hg with h|h|h|h<;>(rw[hl.cP,h];rfl)
  have hr:Hid (aL q l s=bw 2 [aa.at l 1,aa.at l 2] s):=by unfold Hid;rcases hg with h|h|h|h<;>simp[aL,h]
  obtain⟨g,rfl,ql,yS,c1,e1⟩:=bm P6 hlen 1 (by omega);have zn:=(hl.places _ (cX (j:=1) (by omega))).1;obtain⟨g',e,-,-,c2,e2⟩:=bm P6 hlen 2 (by omega);simp only[Option.some.injEq,Addr.mk.injEq,and_true]at e;subst e;have Wv:=(hl.places _ (cX (j:=2) (by omega))).1;have d1:W.cell? ⟨g,2,none⟩=some (.int .i64 ((aa.at l 1).1:Nat)):=c1;have f1:W.cell? ⟨g,3,none⟩=some (.int .i64 ((aa.at l 1).2:Nat)):=e1;change (aa.at l 1).1<_ at zn;have d2:W.cell? ⟨g,4,none⟩=some (.int .i64 ((aa.at l 2).1:Nat)):=c2;have f2:W.cell? ⟨g,5,none⟩=some (.int .i64 ((aa.at l 2).2:Nat)):=e2;change (aa.at l 2).1<_ at Wv;clear c1 e1 c2 e2;generalize aa.at l 1=x1 at*;generalize aa.at l 2=x2 at*;have K:=iE 2 x1 x2 qt rfl (by omega) (by omega) hv (by simp);generalize bw 2 [x1,x2] s=r at*;rw[hlen];rcases hg with h|h|h|h
  all_goals
   rw[h];have HO:Hid (_=_):=h;clear h;go_upto_region 7 with fail
   go_region_with (go_at_call 219;refine K.mono ?_;rintro e w1 ⟨rfl,av⟩)
   all_goals go_wp2_with fail
   all_goals
    go_ret
    exact⟨by rw[hr.out];rfl,aX.trans (av.mono aX.size)⟩
 ·by_cases hg:l.op=8\/l.op=19\/l.op=22
  ·have hlen:l.places.length=1:=by rcases hg with h|h|h<;>(rw[hl.cP,h];rfl)
   have hr:Hid (aL q l s=bw 2 [aa.at l 0] s):=by unfold Hid;rcases hg with h|h|h<;>simp[aL,h]
   obtain⟨g,rfl,ql,yS,c0,e0⟩:=bm P6 hlen 0 (by omega);have Ju:=(hl.places _ (cX (j:=0) (by omega))).1;have d0:W.cell? ⟨g,0,none⟩=some (.int .i64 ((aa.at l 0).1:Nat)):=c0;have f0:W.cell? ⟨g,1,none⟩=some (.int .i64 ((aa.at l 0).2:Nat)):=e0;change (aa.at l 0).1<_ at Ju;clear c0 e0;generalize aa.at l 0=x0 at*;have K:=sc 2 x0 qt rfl (by omega) hv (by simp);generalize bw 2 [x0] s=r at*;rw[hlen];rcases hg with h|h|h
   all_goals
    rw[h];have HO:Hid (_=_):=h;clear h;go_wp2_with (go_at_call 219;refine K.mono ?_;rintro e w1 ⟨rfl,av⟩)
    go_ret
    exact⟨by rw[hr.out];rfl,aX.trans (av.mono aX.size)⟩
  ·by_cases hg:l.op=10\/l.op=14
   ·have hlen:l.places.length=2:=by rcases hg with h|h<;>(rw[hl.cP,h];rfl)
    have hr:Hid (aL q l s=bw 2 [aa.at l 1] s):=by unfold Hid;rcases hg with h|h<;>simp[aL,h]
    obtain⟨g,rfl,ql,yS,c1,e1⟩:=bm P6 hlen 1 (by omega);have zn:=(hl.places _ (cX (j:=1) (by omega))).1;have d1:W.cell? ⟨g,2,none⟩=some (.int .i64 ((aa.at l 1).1:Nat)):=c1;have f1:W.cell? ⟨g,3,none⟩=some (.int .i64 ((aa.at l 1).2:Nat)):=e1;change (aa.at l 1).1<_ at zn;clear c1 e1;generalize aa.at l 1=x1 at*;have K:=sc 2 x1 qt rfl (by omega) hv (by simp);generalize bw 2 [x1] s=r at*;rw[hlen];rcases hg with h|h
    all_goals
     rw[h];have HO:Hid (_=_):=h;clear h;go_wp2_with (go_at_call 219;refine K.mono ?_;rintro e w1 ⟨rfl,av⟩)
     go_ret
     exact⟨by rw[hr.out];rfl,aX.trans (av.mono aX.size)⟩
   ·by_cases hg:l.op=11
    ·have hlen:l.places.length=2:=by rw[hl.cP,hg];rfl
     have hr:Hid (aL q l s=bw 2 [aa.at l 0,aa.at l 1] s):=by unfold Hid;simp[aL,hg]
     obtain⟨g,rfl,ql,yS,c0,e0⟩:=bm P6 hlen 0 (by omega);have Ju:=(hl.places _ (cX (j:=0) (by omega))).1;obtain⟨g',e,-,-,c1,e1⟩:=bm P6 hlen 1 (by omega);simp only[Option.some.injEq,Addr.mk.injEq,and_true]at e;subst e;have zn:=(hl.places _ (cX (j:=1) (by omega))).1;have d0:W.cell? ⟨g,0,none⟩=some (.int .i64 ((aa.at l 0).1:Nat)):=c0;have f0:W.cell? ⟨g,1,none⟩=some (.int .i64 ((aa.at l 0).2:Nat)):=e0;change (aa.at l 0).1<_ at Ju;have d1:W.cell? ⟨g,2,none⟩=some (.int .i64 ((aa.at l 1).1:Nat)):=c1;have f1:W.cell? ⟨g,3,none⟩=some (.int .i64 ((aa.at l 1).2:Nat)):=e1;change (aa.at l 1).1<_ at zn;clear c0 e0 c1 e1;generalize aa.at l 0=x0 at*;generalize aa.at l 1=x1 at*;have K:=iE 2 x0 x1 qt rfl (by omega) (by omega) hv (by simp);generalize bw 2 [x0,x1] s=r at*;rw[hlen];rw[hg];have HO:Hid (_=_):=hg;clear hg;go_upto_region 18 with fail
     go_region_with (go_at_call 219;refine K.mono ?_;rintro e w1 ⟨rfl,av⟩)
     all_goals go_wp2_with fail
     all_goals
      go_ret
      exact⟨by rw[hr.out];rfl,aX.trans (av.mono aX.size)⟩
    ·by_cases hg:l.op=15
     ·have hlen:l.places.length=1:=by rw[hl.cP,hg];rfl
      have hr:Hid (aL q l s=lz (aa.at l 0) s):=by unfold Hid;simp[aL,hg]
      obtain⟨g,rfl,ql,yS,c0,e0⟩:=bm P6 hlen 0 (by omega);have Ju:=(hl.places _ (cX (j:=0) (by omega))).1;have d0:W.cell? ⟨g,0,none⟩=some (.int .i64 ((aa.at l 0).1:Nat)):=c0;have f0:W.cell? ⟨g,1,none⟩=some (.int .i64 ((aa.at l 0).2:Nat)):=e0;change (aa.at l 0).1<_ at Ju;clear c0 e0;generalize aa.at l 0=x0 at*;have K:=BL b x0 s _ qt (by omega) hv;generalize lz x0 s=r at*;rw[hlen];rw[hg];have HO:Hid (_=_):=hg;clear hg;go_wp2_with (go_at_call 220;refine K.mono ?_;rintro e w1 ⟨rfl,av⟩)
      go_ret
      exact⟨by rw[hr.out];rfl,aX.trans (av.mono aX.size)⟩
     ·by_cases hg:l.op=20
      ·have hlen:l.places.length=1:=by rw[hl.cP,hg];rfl
       have hr:Hid (aL q l s=bw 6 [aa.at l 0] s):=by unfold Hid;simp[aL,hg]
       obtain⟨g,rfl,ql,yS,c0,e0⟩:=bm P6 hlen 0 (by omega);have Ju:=(hl.places _ (cX (j:=0) (by omega))).1;have d0:W.cell? ⟨g,0,none⟩=some (.int .i64 ((aa.at l 0).1:Nat)):=c0;have f0:W.cell? ⟨g,1,none⟩=some (.int .i64 ((aa.at l 0).2:Nat)):=e0;change (aa.at l 0).1<_ at Ju;clear c0 e0;generalize aa.at l 0=x0 at*;have K:=sc 6 x0 qt rfl (by omega) hv (by simp);generalize bw 6 [x0] s=r at*;rw[hlen];rw[hg];have HO:Hid (_=_):=hg;clear hg;go_wp2_with (go_at_call 219;refine K.mono ?_;rintro e w1 ⟨rfl,av⟩)
       go_ret
       exact⟨by rw[hr.out];rfl,aX.trans (av.mono aX.size)⟩
      ·by_cases hg:l.op=9
       ·have hlen:l.places.length=2:=by rw[hl.cP,hg];rfl
        have hr:Hid (aL q l s=(bw 2 [aa.at l 1] s||lz (aa.at l 0) s)):=by unfold Hid;simp[aL,hg]
        obtain⟨g,rfl,ql,yS,c0,e0⟩:=bm P6 hlen 0 (by omega);have Ju:=(hl.places _ (cX (j:=0) (by omega))).1;obtain⟨g',e,-,-,c1,e1⟩:=bm P6 hlen 1 (by omega);simp only[Option.some.injEq,Addr.mk.injEq,and_true]at e;subst e;have zn:=(hl.places _ (cX (j:=1) (by omega))).1;have d0:W.cell? ⟨g,0,none⟩=some (.int .i64 ((aa.at l 0).1:Nat)):=c0;have f0:W.cell? ⟨g,1,none⟩=some (.int .i64 ((aa.at l 0).2:Nat)):=e0;change (aa.at l 0).1<_ at Ju;have d1:W.cell? ⟨g,2,none⟩=some (.int .i64 ((aa.at l 1).1:Nat)):=c1;have f1:W.cell? ⟨g,3,none⟩=some (.int .i64 ((aa.at l 1).2:Nat)):=e1;change (aa.at l 1).1<_ at zn;clear c0 e0 c1 e1;generalize aa.at l 0=x0 at*;generalize aa.at l 1=x1 at*;have K:=sc 2 x1 qt rfl (by omega) hv (by simp);have K2:=fun W' (hb:Below W.heap.size W W')=>BL b x0 s W' (qt.below hb qt.lt) (by omega) hv
        have HC:Hid (∀W',Below W.heap.size W W'->W'.cell? ⟨g,0,none⟩=some (.int .i64 (x0.1:Nat))/\W'.cell? ⟨g,1,none⟩=some (.int .i64 (x0.2:Nat))):=fun W' hb=>⟨(hb.cell (p:=⟨g,0,none⟩) yS).trans d0,(hb.cell (p:=⟨g,1,none⟩) yS).trans f0⟩
        generalize bw 2 [x1] s=r at*;generalize lz x0 s=r2 at*;rw[hlen];rw[hg];have HO:Hid (_=_):=hg;clear hg;cases r with
        |true=>
         go_wp2_with (go_at_call 219;refine K.mono ?_;rintro e w1 ⟨rfl,av⟩)
         go_ret
         exact⟨by rw[hr.out];rfl,aX.trans (av.mono aX.size)⟩
        |false=>
         go_wp2_with (first|(go_at_call 219;refine K.mono ?_;rintro e w1 ⟨rfl,av⟩;obtain⟨y0,y1⟩:=HC.out w1 av)|(go_at_call 220;refine(K2 w1 av).mono ?_;rintro e w2 ⟨rfl,bT⟩))
         go_ret
         exact⟨by rw[hr.out];rfl,(aX.trans (av.mono aX.size)).trans (bT.mono (aX.trans (av.mono aX.size)).size)⟩
       ·by_cases hg:l.op=12
        ·have hlen:l.places.length=2:=by rw[hl.cP,hg];rfl
         have hr:Hid (aL q l s=(gT q (aa.at l 1) s||lz (aa.at l 0) s)):=by unfold Hid;simp[aL,hg]
         obtain⟨g,rfl,ql,yS,c0,e0⟩:=bm P6 hlen 0 (by omega);have Ju:=(hl.places _ (cX (j:=0) (by omega))).1;obtain⟨g',e,-,-,c1,e1⟩:=bm P6 hlen 1 (by omega);simp only[Option.some.injEq,Addr.mk.injEq,and_true]at e;subst e;have zn:=(hl.places _ (cX (j:=1) (by omega))).1;have d0:W.cell? ⟨g,0,none⟩=some (.int .i64 ((aa.at l 0).1:Nat)):=c0;have f0:W.cell? ⟨g,1,none⟩=some (.int .i64 ((aa.at l 0).2:Nat)):=e0;change (aa.at l 0).1<_ at Ju;have d1:W.cell? ⟨g,2,none⟩=some (.int .i64 ((aa.at l 1).1:Nat)):=c1;have f1:W.cell? ⟨g,3,none⟩=some (.int .i64 ((aa.at l 1).2:Nat)):=e1;change (aa.at l 1).1<_ at zn;clear c0 e0 c1 e1;generalize aa.at l 0=x0 at*;generalize aa.at l 1=x1 at*;have K:=PR q b x1 s v u a _ hpA.aI hpA.loc (by omega) zn qt (by omega) hv;have K2:=fun W' (hb:Below W.heap.size W W')=>BL b x0 s W' (qt.below hb qt.lt) (by omega) hv
         have HC:Hid (∀W',Below W.heap.size W W'->W'.cell? ⟨g,0,none⟩=some (.int .i64 (x0.1:Nat))/\W'.cell? ⟨g,1,none⟩=some (.int .i64 (x0.2:Nat))):=fun W' hb=>⟨(hb.cell (p:=⟨g,0,none⟩) yS).trans d0,(hb.cell (p:=⟨g,1,none⟩) yS).trans f0⟩
         generalize gT q x1 s=r at*;generalize lz x0 s=r2 at*;rw[hlen];rw[hg];have HO:Hid (_=_):=hg;clear hg;cases r with
         |true=>
          go_wp2_with (go_at_call 221;refine K.mono ?_;rintro e w1 ⟨rfl,av⟩)
          go_ret
          exact⟨by rw[hr.out];rfl,aX.trans (av.mono aX.size)⟩
         |false=>
          go_wp2_with (first|(go_at_call 221;refine K.mono ?_;rintro e w1 ⟨rfl,av⟩;obtain⟨y0,y1⟩:=HC.out w1 av)|(go_at_call 220;refine(K2 w1 av).mono ?_;rintro e w2 ⟨rfl,bT⟩))
          go_ret
          exact⟨by rw[hr.out];rfl,(aX.trans (av.mono aX.size)).trans (bT.mono (aX.trans (av.mono aX.size)).size)⟩
        ·have Ev:l.op=2\/l.op=7\/l.op=13\/l.op=16\/l.op=17\/l.op=18\/l.op=21:=by omega
         have hr:Hid (aL q l s=false):=by unfold Hid;rcases Ev with h|h|h|h|h|h|h<;>simp[aL,h]
         rcases Ev with h|h|h|h|h|h|h
         all_goals
          rw[h];have HO:Hid (_=_):=h;clear h;go_wp2
          go_ret
          exact⟨by rw[hr.out];rfl,aX⟩
end FlwH
namespace FlwI
open Go Go.RowKit Sq Aux PrjJ PrjK FlwB FlwF
theorem mapM_some {α β:Type}(f:α->Option β)(g:α->β):∀l:List α,(∀a∈l,f a=some (g a))->l.mapM f=some (l.map g)
 |[],_=>rfl
 |a::l,h=>by
  rw[List.mapM_cons,h a (jM ..),mapM_some f g l (fun x hx=>h x (jN _ hx))];rfl
theorem yI:Tryz.prog.cellsOf 209=24:=by kernel_rfl
theorem NJ:Tryz.prog.cellsOf 207=1:=by kernel_rfl
theorem Oz:Tryz.prog.keyTypeAt 3 209=true:=by kernel_rfl
theorem tg (s:List Nat):(List.range s.length).map (fun i=>s.getD i 0)=s:=by
 apply List.ext_getElem?
 intro i;rw[jJ];by_cases hi:i<s.length
 ·rw[List.getElem?_range hi];simp[hi]
 ·rw[jG (by simp;omega),jG (by omega)];rfl
theorem A3 (s:List Nat)(hl:s.length=24)(hv:∀k,s.getD k 0<16):Tryz.prog.keyLits 2 209 (ao s)=some (s.map fun n=>Lit.int .u8 (n:Nat)):=by
 have hf:∀i∈List.range 24,Tryz.prog.keyLits 1 207 (((ao s).drop (i*1)).take 1)=some [Lit.int .u8 ((s.getD i 0:Nat):Int)]:=by
  intro i hi;have Z1:i<s.length:=by rw[hl];simpa using hi
  have hc:((ao s).drop (i*1)).take 1=[.int .u8 ((s.getD i 0:Nat):Int)]:=by
   rw[Nat.mul_one,jE (by rw[dx];exact Z1)];simp[ao,Z1]
  have hw:(Lit.int .u8 ((s.getD i 0:Nat):Int)).wf=true:=by
   have:=hv i;generalize s.getD i 0=n at*;have:∀n:Nat,n<16->(Lit.int .u8 (n:Int)).wf=true:=by decide
   exact this n (by assumption)
  rw[hc];simp only[Program.keyLits,Tryz.underlying207];rw[jb ⟨trivial,hw⟩]
 unfold Program.keyLits;simp only[Tryz.underlying209,yI,NJ];rw[jb (by rw[dx];exact hl),mapM_some _ _ _ hf];simp only[Option.map_some,Option.some.injEq];have e:((List.range 24).map fun i=>[Lit.int .u8 ((s.getD i 0:Nat):Int)]).flatten=((List.range s.length).map fun i=>s.getD i 0).map fun n=>Lit.int .u8 ((n:Nat):Int):=by
  rw[hl,List.map_map];induction List.range 24 with
  |nil=>rfl
  |cons a r ih=>simpa using ih
 rw[e,tg]
set_option maxRecDepth 20000 in
theorem I2 (s t:List Nat)(w:World)(hs:s.length=24)(ht:t.length=24)(hv:∀k,s.getD k 0<16)(hu:∀k,t.getD k 0<16):
  (Op.equalIn 10000 209 (.agg (ao s).toArray) (.agg (ao t).toArray)).run Tryz.prog w=.ok (s==t) w:=by
 have AW:∀s:List Nat,s.length=24->(Value.agg (ao s).toArray).formed Tryz.prog 209=true:=fun s hs=>by
  simp only[Value.formed,Tryz.underlying209,yI];simp[dx,hs]
 obtain⟨r,hr,hiff⟩:=run_equalIn_deep 9997 3 209 Oz w 2 2 (.agg (ao s).toArray) (.agg (ao t).toArray) _ _ (AW s hs) (AW t ht) (by simpa [Value.cells]using A3 s hs hv) (by simpa [Value.cells]using A3 t ht hu);rw[hr];congr 1;rw[jX,hiff,beq_iff_eq];constructor
 ·intro h;refine(List.map_inj_right (fun a b e=> ?_)).1 h;simp only[Lit.int.injEq,true_and]at e;omega
 ·intro h;rw[h]
attribute [local go_sem ↓] kA iK
theorem Cz (k:Nat)(hk:k<24):(List.replicate k 1++List.replicate (24-k) 0).set k 1=(List.replicate (k+1) 1++List.replicate (24-(k+1)) 0:List Nat):=by
 rw[List.set_append_right _ _ (by simp),List.length_replicate,Nat.sub_self,show 24-k=(24-(k+1))+1 by omega,List.replicate_succ,List.set_cons_zero,List.replicate_succ',List.append_assoc];rfl
def aU:List Nat:=List.replicate 24 1
set_option maxRecDepth 20000 in
set_option maxHeartbeats 1000000 in
theorem PJ (w:World):Calls Tryz.prog 188 #[] w fun e w'=>e=.returned (.agg (ao aU).toArray)/\Below w.heap.size w w':=by
 have av:Below w.heap.size w (w.alloc (.cells (ao aq).toArray 209)):=(Below.refl _ _).alloc (jC _) _;have bT:=av.alloc av.size (.cells (ao aq).toArray 209);have hA:aW ((w.alloc (.cells (ao aq).toArray 209)).alloc (.cells (ao aq).toArray 209)) w.heap.size aq:=(aW.new w (s:=aq) (by decide)).below ((Below.refl _ _).alloc (jC _) _) (by simp);have hB:aW ((w.alloc (.cells (ao aq).toArray 209)).alloc (.cells (ao aq).toArray 209)) (w.heap.size+1) (List.replicate 0 1++List.replicate (24-0) 0):=by
  rw[show w.heap.size+1=(w.alloc (.cells (ao aq).toArray 209)).heap.size by simp];exact aW.new _ (s:=aq) (by decide)
 have hz:(ao aq).toArray= #[.int .u8 0,.int .u8 0,.int .u8 0,.int .u8 0,.int .u8 0,.int .u8 0,.int .u8 0,.int .u8 0,.int .u8 0,.int .u8 0,.int .u8 0,.int .u8 0,.int .u8 0,.int .u8 0,.int .u8 0,.int .u8 0,.int .u8 0,.int .u8 0,.int .u8 0,.int .u8 0,.int .u8 0,.int .u8 0,.int .u8 0,.int .u8 0]:=rfl;rw[hz]at hA hB bT;clear av hz;go_enter Tryz.func188,Tryz.ntmps188
 go_wp2
 go_loopg [3] (24) (fun g v3 wr=>∃k:Nat,k<=24/\g+k=24/\v3=.int .i64 k/\aW wr w.heap.size aq/\aW wr (w.heap.size+1) (List.replicate k 1++List.replicate (24-k) 0)/\Below w.heap.size w wr)
 case atStart=>exact⟨0,by omega,rfl,rfl,hA,hB,bT⟩
 case round=>
  obtain⟨k,hk,GH,rfl,hA',Eo,Jm⟩:=hrel;clear hA hB bT;by_cases aK:k<24
  ·have c1:=Eo.cell k aK;have c2:=Eo.frozen k;have hki:(k:Int)<24:=by omega
   have zm:=Eo.set k 1;rw[Cz k aK]at zm;have hA2:aW (wr.setCell ⟨w.heap.size+1,k,none⟩ (.int .u8 (1:Nat))) w.heap.size aq:=⟨hA'.1,by rw[Below.heap_setCell _ _ _ _ (by show w.heap.size≠w.heap.size+1;omega)];exact hA'.2⟩;have ml:Below w.heap.size w (wr.setCell ⟨w.heap.size+1,k,none⟩ (.int .u8 (1:Nat))):=Jm.trans (((bu.refl (w.heap.size+1) wr).setCell k _).below (by omega) Jm.size);go_wp2
   go_roundg (24-(k+1))
   case measure=>omega
   case rel=>exact⟨k+1,by omega,by omega,by go_num,hA2,zm,ml⟩
  ·obtain rfl:k=24:=by omega
   have iq:aW wr (w.heap.size+1) aU:=Eo;have h1:=aW.has iq;have h2:=aW.of iq;have h3:=aW.room hA';have h4:=pI (s:=aU) (by decide);have xR:=aW.store hA' (t:=aU) (by decide);have ZG:Below w.heap.size w (wr.setCells w.heap.size 0 (ao aU)):=ay Jm (jC _) _ _;go_wp2
   refine bodyPost_ret (dP Tryz.results188 _ _ _ w.heap.size (ao aU) _ rfl (aW.range xR) Tryz.underlying209 rfl (tn (by decide))) rfl ?_;exact⟨rfl,ZG⟩
theorem ph (k:Nat):aq.getD k 0<16:=by
 unfold aq;rw[jA,jO];split<;>simp
set_option maxRecDepth 20000 in
theorem II (b:Nat)(s:List Nat)(w:World)(hs:aW w b s)(hv:∀k,s.getD k 0<16):Calls Tryz.prog 129 #[.pointer (some ⟨b,0,none⟩)] w fun e w'=>e=.returned (.bool (!(s==aq)))/\w'=w:=by
 have h1:=aW.has hs;have h2:=aW.of hs;have he:=fun w'=>I2 s aq w' hs.1 (by decide) hv ph
 have hz:(ao aq).toArray= #[.int .u8 0,.int .u8 0,.int .u8 0,.int .u8 0,.int .u8 0,.int .u8 0,.int .u8 0,.int .u8 0,.int .u8 0,.int .u8 0,.int .u8 0,.int .u8 0,.int .u8 0,.int .u8 0,.int .u8 0,.int .u8 0,.int .u8 0,.int .u8 0,.int .u8 0,.int .u8 0,.int .u8 0,.int .u8 0,.int .u8 0,.int .u8 0]:=rfl;rw[hz]at he;generalize (s==aq)=r at*;go_enter Tryz.func129,Tryz.ntmps129
 go_wp2
 go_ret
 exact⟨rfl,rfl⟩
end FlwI
end Go.Proofs.YtmlgajhhnojdjaaGreatDoor

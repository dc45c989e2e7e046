import Derived.Test.YtmlgajhhnojdjaaGreatDoorVBH
import Derived.Test.YtmlgajhhnojdjaaGreatDoorVBD
namespace Go.Proofs.YtmlgajhhnojdjaaGreatDoor
namespace El
open Go Go.RowKit Sq Aux PrjF PrjG PrjJ PrjK PrjL PrjM PrjP PrjQ PrjS PrjT FlwA FlwB FlwE FlwF FlwJ
attribute [local go_sem ↓] bY bJ
section
variable {z x a:Nat} {w0 w:World} {ve:Value} {un:List Bool} {m:Mk} {O:Nat->Prop}
theorem Hr {W:World}{ga gp K:Nat}(h:bG z w0 x a ve w un m O)(hm:m.Small K)(hK:K<=100000)(hW:Below w.heap.size w W)(p:Nat×Nat)(k:Nat)(La:w.heap.size<=ga)(Cl:w.heap.size<=gp)(hRp:W.heap[gp]?=some (.cells #[.int .i64 (p.1:Nat),.int .i64 (p.2:Nat)] 119 (0,0)))
  (hRl:W.heap[ga]?=some (.cells #[.int .i64 0,.int .i64 17,.slice none 0 0,.int .i64 0,.int .i64 (k:Nat),.slice none 0 0] 115 (0,0))):
  Calls Tryz.prog 210 #[.pointer (some ⟨x,0,none⟩),.agg #[.int .i64 0,.int .i64 20,.slice (some ⟨gp,0,none⟩) 1 1,.int .i64 0,.int .i64 0,.slice none 0 0],.slice (some ⟨ga,0,none⟩) 1 1] W fun e w'=>e=.returned (.tuple #[])/\∃O',bG z w0 x a ve w' un (m.fork (mG p) [dB k 0]) O'/\Fr O w O' w':=by
 have hb:=h.base;have ZB:z<=w.heap.size:=by obtain⟨vb,us,vss,h'⟩:=h;have:=h'.Em;omega
 have EY:aE z W (dB k 0) (.slice none 0 0) (.slice none 0 0):=⟨World.ownsRow_nil _ _ _ _,World.ownsRow_nil _ _ _ _⟩;have dY:W.ownsRow z 119 2 (.slice (some ⟨gp,0,none⟩) 1 1) 1 (aM [p]):=⟨rfl,.inr ⟨gp,1,_,rfl,by omega,hRp,jC _,by unfold maxLen;omega,rfl,rfl⟩⟩;have KF:=zO (h.below hW) hm.at_ (mG p) (ap:=some ⟨gp,0,none⟩) (cp:=1) (vn:=.slice none 0 0) dY (fun g hg=>by simp only[Value.ownBlock,Option.some.injEq]at hg;subst hg;exact h.fresh Cl) (ls:=[dB k 0]) (vs:=[(.slice none 0 0,.slice none 0 0)]) (ca:=1) (zz:=w.heap.size) (AN La hRl) ⟨h.fresh La,by omega⟩ (ie EY hRl) (fun j hj g hg=>by
  simp at hj;subst hj;rcases hg with hg|hg<;>cases hg) (by have:=hm.many;omega) (by have:=hm.lines m.at_;omega) (by simp)
 refine KF.mono ?_;rintro e w' ⟨rfl,O',h',F'⟩;have J1:=hW.size;refine⟨rfl,O',h',F'.os.trans hW.os,F'.tape.trans hW.tape,F'.output.trans hW.output,jS hW.size F'.size,fun k hk hn=> ?_,fun k hk=> ?_⟩
 ·rw[F'.block k (by omega) (by rintro(e|e);exact hn e;omega)];exact hW.block k hk
 ·rcases F'.new k hk with(e|e)|e
  ·exact .inl e
  ·exact .inr (by omega)
  ·exact .inr (by omega)
abbrev FV (p:Nat×Nat):Obj:=.cells #[.int .i64 (p.1:Nat),.int .i64 (p.2:Nat)] 119
abbrev GQ (k:Nat):Obj:=.cells #[.int .i64 0,.int .i64 17,.slice none 0 0,.int .i64 0,.int .i64 (k:Nat),.slice none 0 0] 115
section
abbrev KFs (w8:World)(p:Nat×Nat)(k:Nat)(C:World->Nat->Nat->Prop):Prop:=∀(W:World) (ga gp:Nat),Below w8.heap.size w8 W->w8.heap.size<=ga->w8.heap.size<=gp->W.heap[gp]?=some (.cells #[.int .i64 (p.1:Nat),.int .i64 (p.2:Nat)] 119 (0,0))->W.heap[ga]?=some (.cells #[.int .i64 0,.int .i64 17,.slice none 0 0,.int .i64 0,.int .i64 (k:Nat),.slice none 0 0] 115 (0,0))->C W ga gp
variable {w8:World} {p:Nat×Nat} {k:Nat} {C:World->Nat->Nat->Prop}
theorem Ko (KF:KFs w8 p k C){wG:World}(hB:Below w8.heap.size w8 wG):C ((wG.alloc (FV p)).alloc (GQ k)) (wG.heap.size+1) wG.heap.size:=by
 have h1:Below w8.heap.size w8 (wG.alloc (FV p)):=hB.alloc hB.size _;have h2:Below (wG.alloc (FV p)).heap.size (wG.alloc (FV p)) ((wG.alloc (FV p)).alloc (GQ k)):=(Below.refl _ _).alloc (jC _) _;have e:(wG.alloc (FV p)).heap.size=wG.heap.size+1:=by simp
 have:=hB.size;refine KF _ _ _ (h1.alloc h1.size _) (by omega) (by omega) ?_ ?_
 ·rw[h2.block _ (by omega)];exact jD
 ·rw[<-e];exact jD
theorem Kn (KF:KFs w8 p k C){wG:World}(hB:Below w8.heap.size w8 wG):C ((wG.alloc (GQ k)).alloc (FV p)) wG.heap.size (wG.heap.size+1):=by
 have h1:Below w8.heap.size w8 (wG.alloc (GQ k)):=hB.alloc hB.size _;have h2:Below (wG.alloc (GQ k)).heap.size (wG.alloc (GQ k)) ((wG.alloc (GQ k)).alloc (FV p)):=(Below.refl _ _).alloc (jC _) _;have e:(wG.alloc (GQ k)).heap.size=wG.heap.size+1:=by simp
 have:=hB.size;refine KF _ _ _ (h1.alloc h1.size _) (by omega) (by omega) ?_ ?_
 ·rw[<-e];exact jD
 ·rw[h2.block _ (by omega)];exact jD
theorem Hp (KF:KFs w8 p k C){wG:World}(hB:Below w8.heap.size w8 wG)(hR:wG.heap[w8.heap.size]?=some (.cells #[.int .i64 (p.1:Nat),.int .i64 (p.2:Nat)] 119 (0,0))):C (wG.alloc (GQ k)) wG.heap.size w8.heap.size:=by
 have h3:Below wG.heap.size wG (wG.alloc (GQ k)):=(Below.refl _ _).alloc (jC _) _;refine KF _ _ _ (hB.alloc hB.size _) hB.size (jC _) ?_ jD;rw[h3.block _ (lt_of_heap hR)];exact hR
theorem Ho (KF:KFs w8 p k C){wS wG:World}(hB:Below w8.heap.size w8 wS)(hG:Below (wS.alloc (FV p)).heap.size (wS.alloc (FV p)) wG):C (wG.alloc (GQ k)) wG.heap.size wS.heap.size:=by
 have h1:Below w8.heap.size w8 (wS.alloc (FV p)):=hB.alloc hB.size _;have h2:Below w8.heap.size w8 wG:=h1.trans (hG.mono h1.size);have h3:Below wG.heap.size wG (wG.alloc (GQ k)):=(Below.refl _ _).alloc (jC _) _;have e:(wS.alloc (FV p)).heap.size=wS.heap.size+1:=by simp
 have hs:=hG.size;have hr:wG.heap[wS.heap.size]?=_:=(hG.block wS.heap.size (by omega)).trans (jD:(wS.alloc (FV p)).heap[wS.heap.size]?=_);refine KF _ _ _ (h2.alloc h2.size _) h2.size hB.size ?_ jD;rw[h3.block _ (by omega)];exact hr
end
set_option maxRecDepth 20000 in
set_option maxHeartbeats 4000000 in
theorem yX {K:Nat}(h:bG z w0 x a ve w un m O)(hm:m.Small K)(hK:K<=90000)(t:List Nat)(ht:dn t)(p:Nat×Nat)(hp:p.1<12):
  Calls Tryz.prog 181 #[.pointer (some ⟨x,0,none⟩),.agg (ag t).toArray,.agg #[.int .i64 (p.1:Nat),.int .i64 (p.2:Nat)]] w fun e w'=>e=.returned (.tuple #[])/\∃O',bG z w0 x a ve w' un (m.items (bw un t p)) O'/\Fr O w O' w':=by
 obtain⟨V1,vo⟩:∃V1,w.alloc (.cells (ag t).toArray 209)=V1:=⟨_,rfl⟩;have gC:aj V1 w.heap.size t:=by rw[<-vo];exact aj.new w ht.len
 have dk:Below w.heap.size w V1:=by rw[<-vo];exact(Below.refl _ _).alloc (jC _) _
 have oY:V1.heap.size=w.heap.size+1:=by rw[<-vo];simp
 obtain⟨V,hV⟩:∃V,V1.alloc (.cells #[.int .i64 (p.1:Nat),.int .i64 (p.2:Nat)] 119)=V:=⟨_,rfl⟩;have k8:V.heap[w.heap.size+1]?=some (.cells #[.int .i64 (p.1:Nat),.int .i64 (p.2:Nat)] 119 (0,0)):=by rw[<-hV,<-oY];exact jD
 have dp:Below V1.heap.size V1 V:=by rw[<-hV];exact(Below.refl _ _).alloc (jC _) _
 have oZ:V.heap.size=w.heap.size+2:=by rw[<-hV];simp[oY]
 have mN:=gC.below dp gC.lt;have zZ:Below w.heap.size w V:=dk.trans (dp.mono (by omega));have Mt:=h.below zZ;have gO:ah p<24:=by unfold ah;split<;>omega
 have Im:(ah p:Int)<24:=by omega
 have gh:¬O (w.heap.size+1):=h.fresh (by omega);have HC:Hid (∀W,Below V.heap.size V W->W.cell? ⟨x,2+ah p,none⟩=some (.bool (un.getD (ah p) false))/\W.cell? ⟨w.heap.size+1,0,none⟩=some (.int .i64 (p.1:Nat))/\W.cell? ⟨w.heap.size+1,1,none⟩=some (.int .i64 (p.2:Nat))/\fa W w.heap.size 0/\kg W w.heap.size 0=(ag t).toArray):=fun W hW=>by
  obtain⟨vb,us,vss,km⟩:=Mt.below hW;have hr:=(hW.block (w.heap.size+1) (by omega)).trans k8;have iA:=mN.below hW (by omega);exact⟨(km.OE gO).1,by rw[cell_of_heap hr];rfl,by rw[cell_of_heap hr];rfl,aj.has iA,aj.of iA⟩
 obtain⟨c1,c2,c3,c4,c5⟩:=HC.out V (Below.refl _ _);obtain⟨d1,d2,d3,d4,d5⟩:=HC.out V.drew ⟨rfl,rfl,rfl,jC _,fun _ _=>rfl⟩;have JI:=cf p V.drew (by omega);have KU:=fun W=>kH t ht p hp W
 go_enter Tryz.func181,Tryz.ntmps181
 go_upto_region 1 with fail
 try rw[vo]
 try rw[hV]
 clear hV vo;generalize hu:un.getD (ah p) false=u at*;generalize hv:dW (t.getD (ah p) 0)=y at*;have HM:Hid (bw un t p=if u=true/\y=true then [.line (dB (ah p) 1),.fork (mG p) [dB (ah p) 0]]else []):=by
  unfold Hid bw;rw[hu,hv]
 clear hu hv;cases u with
 |false=>
  have GY:Hid (bw un t p=[]):=HM.out.trans (ja (by simp));clear HM KU;go_region_with (go_at_call 62;refine JI.mono ?_;rintro e w5 ⟨rfl,gi⟩;have sU:Below V.heap.size V w5:=⟨gi.os,gi.tape,gi.output,gi.size,gi.block⟩;obtain⟨k1,k2,k3,k4,k5⟩:=HC.out w5 sU)
  all_goals go_wp2_with fail
  all_goals
   go_end0
   exact⟨rfl,O,by rw[GY.out];exact Mt.below sU,(Fr.of zZ).trans (Fr.of sU)⟩
 |true=>
  cases y with
  |false=>
   have GY:Hid (bw un t p=[]):=HM.out.trans (ja (by simp));clear HM;go_region_law (first
    |(go_simp;go_at_call 62;refine JI.mono ?_;rintro e w5 ⟨rfl,gi⟩;have sU:Below V.heap.size V w5:=⟨gi.os,gi.tape,gi.output,gi.size,gi.block⟩;obtain⟨k1,k2,k3,k4,k5⟩:=HC.out w5 sU;have Tg:=KU w5)
    |(go_simp;go_at_call 127;refine Tg.mono ?_;rintro e w6 ⟨rfl,vI⟩;have sV:=sU.trans (vI.mono sU.size)))
   all_goals go_wp2_with fail
   all_goals
    go_end0
    exact⟨rfl,O,by rw[GY.out];exact Mt.below sV,(Fr.of zZ).trans (Fr.of sV)⟩
  |true=>
   have GY:Hid (bw un t p=[.line (dB (ah p) 1),.fork (mG p) [dB (ah p) 0]]):=HM.out.trans (jb (by simp));clear HM;have Lp:=hm.line (dB (ah p) 1);go_cut [17] (fun v17 wc=>v17=.bool true/\Below V.heap.size V wc)
   case first=>
    go_region_law (first
     |(go_simp;go_at_call 62;refine JI.mono ?_;rintro e w5 ⟨rfl,gi⟩;have sU:Below V.heap.size V w5:=⟨gi.os,gi.tape,gi.output,gi.size,gi.block⟩;obtain⟨k1,k2,k3,k4,k5⟩:=HC.out w5 sU;have Tg:=KU w5)
     |(go_simp;go_at_call 127;refine Tg.mono ?_;rintro e w6 ⟨rfl,vI⟩;have sV:=sU.trans (vI.mono sU.size)))
    all_goals go_wp2_with fail
    all_goals
     go_meet
     case rel=>exact⟨rfl,sV⟩
   case rest=>
    obtain⟨rfl,KZ⟩:=hcut;obtain⟨-,k2,k3,-,-⟩:=HC.out wc KZ;clear c1 c2 c3 c4 c5 d1 d2 d3 d4 d5 JI KU;have R8:=cf p wc (by omega);go_upto_region 3 with(first
     |(go_at_call 62;refine R8.mono ?_;rintro e w6 ⟨rfl,vI⟩;have sV:=KZ.trans (vI.mono KZ.size);have WR:=lL (ah p:Nat) 1 w6)
     |(go_at_call 211;refine WR.mono ?_;rintro e w7 ⟨rfl,JQ⟩;have Qj:=sV.trans (JQ.mono sV.size);have PK:=Bg Mt hm (by omega) (ah p) 1 w7 Qj)
     |(go_at_call 130;refine PK.mono ?_;rintro e w8 ⟨rfl,O8,h8,F8⟩))
    have UD:=(F8.block (w.heap.size+1) (by omega) gh).trans k8;have Zt:w.heap.size+1<w8.heap.size:=lt_of_heap UD;have HD:Hid (∀W,Below w8.heap.size w8 W->W.cell? ⟨w.heap.size+1,0,none⟩=some (.int .i64 (p.1:Nat))/\W.cell? ⟨w.heap.size+1,1,none⟩=some (.int .i64 (p.2:Nat))):=fun W hW=>by
     have hr:=(hW.block (w.heap.size+1) (by omega)).trans UD;exact⟨by rw[cell_of_heap hr];rfl,by rw[cell_of_heap hr];rfl⟩
    have WD:Hid (Fr O w O8 w8):=(Fr.of zZ).trans F8;have KF:=fun(W:World) (ga gp:Nat) (h1:Below w8.heap.size w8 W) (h2:w8.heap.size<=ga) (h3:w8.heap.size<=gp) (h4:W.heap[gp]?=some (.cells #[.int .i64 (p.1:Nat),.int .i64 (p.2:Nat)] 119 (0,0))) (h5:W.heap[ga]?=some (.cells #[.int .i64 0,.int .i64 17,.slice none 0 0,.int .i64 0,.int .i64 (ah p:Nat),.slice none 0 0] 115 (0,0)))=>Hr h8 Lp (by omega) h1 p (ah p) h2 h3 h4 h5
    clear F8 h8 UD k2 k3 KZ R8 vI JQ sV Qj PK;have JL:Below w8.heap.size w8 w8.drew:=⟨rfl,rfl,rfl,jC _,fun _ _=>rfl⟩;obtain⟨D,hD⟩:∃D,w8.drew=D:=⟨_,rfl⟩;rw[hD]at JL;obtain⟨WP,Qf⟩:∃WP,D.alloc (.cells #[.int .i64 (p.1:Nat),.int .i64 (p.2:Nat)] 119)=WP:=⟨_,rfl⟩;have Xn:D.heap.size=w8.heap.size:=by rw[<-hD];rfl
    have Mp:Below D.heap.size D WP:=by rw[<-Qf];exact(Below.refl _ _).alloc (jC _) _
    have Tm:Below w8.heap.size w8 WP:=JL.trans (Mp.mono JL.size);have VA:WP.heap[w8.heap.size]?=some (.cells #[.int .i64 (p.1:Nat),.int .i64 (p.2:Nat)] 119 (0,0)):=by rw[<-Qf,<-Xn];exact jD
    obtain⟨q0,q1⟩:=HD.out D JL;obtain⟨q2,q3⟩:=HD.out WP Tm;have WY:=cf p D (by omega);have WZ:=cf p WP (by omega);go_region_law (first
     |(go_simp;go_at_call 62;go_fit WY;rintro e wS ⟨rfl,qi⟩;have qR:=JL.trans (qi.mono JL.size);obtain⟨s0,s1⟩:=HD.out wS qR;have WT:=lL (ah p:Nat) 0 wS;have WU:=lL (ah p:Nat) 0 (wS.alloc (.cells #[.int .i64 (p.1:Nat),.int .i64 (p.2:Nat)] 119));have V0:=qi)
     |(go_simp;go_at_call 62;go_fit WZ;rintro e wS ⟨rfl,qi⟩;have qR:=Tm.trans (qi.mono Tm.size);obtain⟨s0,s1⟩:=HD.out wS qR;have WV:=lL (ah p:Nat) 0 wS;have VB:=(qi.block w8.heap.size (lt_of_heap VA)).trans VA)
     |(go_simp;go_at_call 211;go_fit WV;rintro e wG ⟨rfl,O0⟩;have Mm:=qR.trans (O0.mono qR.size);obtain⟨g0,g1⟩:=HD.out wG Mm;have OJ:=Hp KF Mm ((O0.block w8.heap.size (lt_of_heap VB)).trans VB))
     |(go_simp;go_at_call 211;go_fit WT;rintro e wG ⟨rfl,O0⟩;have Mm:=qR.trans (O0.mono qR.size);obtain⟨g0,g1⟩:=HD.out wG Mm;obtain⟨g2,g3⟩:=HD.out (wG.alloc (.cells #[.int .i64 0,.int .i64 17,.slice none 0 0,.int .i64 0,.int .i64 (ah p:Nat),.slice none 0 0] 115)) (Mm.alloc Mm.size _);have OJ:=Ko KF Mm;have WN:=Kn KF Mm)
     |(go_simp;go_at_call 211;go_fit WU;rintro e wG ⟨rfl,O0⟩;have OJ:=Ho KF qR O0)
     |(go_simp;go_at_call 210;go_fit OJ;rintro e w9 ⟨rfl,O9,h9,F9⟩)
     |(go_simp;go_at_call 210;go_fit WN;rintro e w9 ⟨rfl,O9,h9,F9⟩))
    all_goals go_wp2_with fail
    all_goals
     go_end0
     exact⟨rfl,O9,by rw[GY.out];exact h9,WD.out.trans F9⟩
end
end El
namespace El
open Go Go.RowKit Sq Aux Go.Proofs.YtmlgajhhnojdjaaGreatDoor.Own PrjF PrjG PrjJ PrjK PrjL PrjM PrjP PrjQ PrjS PrjT FlwA FlwB FlwE FlwF FlwG FlwJ FlwM
section
variable {z x a:Nat} {w0 w w':World} {ve:Value} {un:List Bool} {m:Mk} {O:Nat->Prop}
theorem bG.eo (h:bG z w0 x a ve w un m O){b:Nat}{s:List Nat}(hs:aj w b s)(hO:¬O b)(hb:w0.heap.size<=b)(hT:aW b w w'):bG z w0 x a ve w' un m O:=by
 obtain⟨vb,us,vss,h⟩:=h;have bE:∀{e:TypeId} {n k:Nat} {v:Value} {xs:List Value},w.ownsRow z e n v k xs->e≠209->w'.ownsRow z e n v k xs:=fun hv he=>pN hv hT hs.2 he
 refine⟨vb,us,vss,h.Em,?_,h.ul,h.bz.trans ⟨hT.os,hT.tape,hT.output,hT.size,fun k hk=>hT.block k (jK hk h.bz.size) (by omega)⟩,bE h.blocks (by decide),h.vl,fun j hj=>(h.each j hj).bE (bE (h.each j hj).row (by decide)) (fun he hv=>bE hv (by rcases he with rfl|rfl<;>decide)),h.apart,h.ox,h.ob,h.ou,fun k hk=>⟨(h.hi k hk).1,jK (h.hi k hk).2 hT.size⟩⟩;rw[hT.block x h.lt (fun e=>by subst e;exact hO h.ox)];exact h.aD
theorem Fr.eo {O O':Nat->Prop}{w1:World}(h:Fr O w O' w1){b:Nat}(hT:aW b w1 w')(hb:w.heap.size<=b):Fr O w O' w':=
 ⟨hT.os.trans h.os,hT.tape.trans h.tape,hT.output.trans h.output,jS h.size hT.size,fun k hk hn=>(hT.block k (jK hk h.size) (by omega)).trans (h.block k hk hn),h.new⟩
theorem aj.mm {b c:Nat}{s:List Nat}(h:aj w b s)(hT:aW c w w')(KZ:b≠c):aj w' b s:=⟨h.1,(hT.block b (lt_of_heap h.2) KZ).trans h.2⟩
theorem aj.fr {O O':Nat->Prop}{b:Nat}{s:List Nat}(h:aj w b s)(hF:Fr O w O' w')(hO:¬O b):aj w' b s:=⟨h.1,(hF.block b (lt_of_heap h.2) hO).trans h.2⟩
end
end El
namespace El
open Go Go.RowKit Sq Aux Go.Proofs.YtmlgajhhnojdjaaGreatDoor.Own PrjF PrjG PrjJ PrjK PrjL PrjM PrjP PrjQ PrjS PrjT FlwA FlwB FlwE FlwF FlwG FlwJ FlwM
theorem xm (q:QP)(x:Nat×Nat):(∀y∈bR q x,y.1=x.1)/\(bR q x).length<=2:=by
 unfold bR;split
 ·exact⟨fun y hy=>(by cases hy),by simp⟩
 split
 ·exact⟨fun y hy=>by rw[jI.1 hy],by simp⟩
 unfold QP.ai;split
 ·refine⟨fun y hy=> ?_,by simp⟩;simp only[List.mem_cons,List.not_mem_nil,or_false]at hy;rcases hy with rfl|rfl<;>rfl
 ·exact⟨fun y hy=>by rw[jI.1 hy],by simp⟩
theorem DA (q:QP):∀n,(∀y∈gV q n,y.1<n)/\(gV q n).length<=2*n
 |0=>⟨fun y hy=>(by cases hy),jC _⟩
 |n+1=>by
  obtain⟨h1,h2⟩:=DA q n;obtain⟨h3,h4⟩:=xm q (n,0);have ea:gV q (n+1)=bR q (n,0)++gV q n:=rfl;rw[ea];refine⟨fun y hy=> ?_,by rw[jV];omega⟩;rcases List.mem_append.1 hy with h|h
  ·have:=h3 y h;rw[this];show n<n+1;omega
  ·have:=h1 y h;omega
theorem jz {q:QP}{nb:Nat}{l:ab}(hk:iB q.locals.length nb l)(cV:q.locals.length<=12):(∀y∈bf q l,y.1<12)/\(bf q l).length<=100:=by
 unfold bf;split
 ·rename_i aH;have hlen:=po hk aH;have vJ:(aw l 0).1<q.locals.length:=(hk.places _ (by unfold aw;rw[jA,jB (by omega)];exact jL _)).1;obtain⟨h3,h4⟩:=xm q (aw l 0);exact⟨fun y hy=>by rw[h3 y hy];omega,by omega⟩
 split
 ·obtain⟨h3,h4⟩:=DA q q.locals.length;exact⟨fun y hy=>by have:=h3 y hy;omega,by omega⟩
 ·exact⟨fun y hy=>(by cases hy),by simp⟩
theorem sized (b:Nat):∀(vs:List Value) (o:Nat) (w:World),(w.setCells b o vs).heap.size=w.heap.size
 |[],_,_=>rfl
 |v::vs,o,w=>by rw[World.setCells,sized b vs,World.size_setCell]
theorem bG.zero {z x a:Nat}{w0 w:World}{ve:Value}{un:List Bool}{m:Mk}{O:Nat->Prop}(h:bG z w0 x a ve w un m O):w.cell? ⟨x,0,none⟩=some (.pointer (some ⟨a,0,none⟩))/\x<w.heap.size:=by
 obtain⟨_,_,_,h⟩:=h;exact⟨h.facts.1,h.lt⟩
theorem Gz {V D0:World}{bs:Nat}{s:List Nat}{Z:Array Value}(hZ:Z=(ag ak).toArray)(h:aj D0 bs s)(n:Nat)(hn:D0.heap.size=n)(hV:Below n V D0):
  ∃D1 D2 D1s E2 D2a D2b F1 F2 F3,(D0.alloc (.cells Z 209)=D1/\D1.alloc (.cells Z 209)=D2/\D1.setCells n 0 (ag s)=D1s/\D1s.alloc (.cells Z 209)=E2/\D2.setCells n 0 (ag s)=D2a/\D2.setCells (n+1) 0 (ag s)=D2b/\E2.setCells (n+1) 0 (ag s)=F1/\D2a.setCells (n+1) 0 (ag s)=F2/\D2b.setCells n 0 (ag s)=F3)/\
   (D1.heap.size=n+1/\D1s.heap.size=n+1)/\(fa D0 bs 0/\fa D1 bs 0/\fa D2 bs 0/\fa D1s bs 0/\fa E2 bs 0/\fa D2a bs 0/\fa D2b bs 0)/\
   (kg D0 bs 0=(ag s).toArray/\kg D1 bs 0=(ag s).toArray/\kg D2 bs 0=(ag s).toArray/\kg D1s bs 0=(ag s).toArray/\kg E2 bs 0=(ag s).toArray/\kg D2a bs 0=(ag s).toArray/\kg D2b bs 0=(ag s).toArray)/\
   (fE D1 n 0/\fE D2 n 0/\fE D2 (n+1) 0/\fE E2 (n+1) 0/\fE D2a (n+1) 0/\fE D2b n 0)/\
   Hid ((Below n V F1/\aj F1 n s/\aj F1 (n+1) s)/\(Below n V F2/\aj F2 n s/\aj F2 (n+1) s)/\(Below n V F3/\aj F3 n s/\aj F3 (n+1) s)):=by
 subst hZ;obtain⟨D1,h1⟩:∃D1,D0.alloc (.cells (ag ak).toArray 209)=D1:=⟨_,rfl⟩;obtain⟨D2,h2⟩:∃D2,D1.alloc (.cells (ag ak).toArray 209)=D2:=⟨_,rfl⟩;obtain⟨D1s,h3⟩:∃D1s,D1.setCells n 0 (ag s)=D1s:=⟨_,rfl⟩;obtain⟨E2,h4⟩:∃E2,D1s.alloc (.cells (ag ak).toArray 209)=E2:=⟨_,rfl⟩;obtain⟨D2a,h5⟩:∃D2a,D2.setCells n 0 (ag s)=D2a:=⟨_,rfl⟩;obtain⟨D2b,h6⟩:∃D2b,D2.setCells (n+1) 0 (ag s)=D2b:=⟨_,rfl⟩;have TQ:=h.lt;have zl:ak.length=24:=by decide
 have s1:D1.heap.size=n+1:=by rw[<-h1];simp[hn]
 have s2:D2.heap.size=n+2:=by rw[<-h2];simp[s1]
 have s3:D1s.heap.size=n+1:=by rw[<-h3,sized,s1]
 have b1:Below n D0 D1:=by rw[<-h1];exact(Below.refl _ _).alloc (by omega) _
 have b2:Below (n+1) D1 D2:=by rw[<-h2];exact(Below.refl _ _).alloc (by omega) _
 have b2':Below n D0 D2:=b1.trans (b2.mono (by omega));have b3:Below n D0 D1s:=by rw[<-h3];exact aU b1 (jC _) _ _
 have b4:Below (n+1) D1s E2:=by rw[<-h4];exact(Below.refl _ _).alloc (by omega) _
 have b4':Below n D0 E2:=b3.trans (b4.mono (by omega));have b5:Below n D0 D2a:=by rw[<-h5];exact aU b2' (jC _) _ _
 have b6:Below n D0 D2b:=by rw[<-h6];exact aU b2' (by omega) _ _
 have a1:aj D1 n ak:=by rw[<-h1,<-hn];exact aj.new D0 zl
 have a2:aj D2 (n+1) ak:=by rw[<-h2,<-s1];exact aj.new D1 zl
 have a2':aj D2 n ak:=a1.below b2 (by omega);have a3:aj D1s n s:=by rw[<-h3];exact aj.store a1 h.1
 have a4:aj E2 (n+1) ak:=by rw[<-h4,<-s3];exact aj.new D1s zl
 have a4':aj E2 n s:=a3.below b4 (by omega);have a5:aj D2a n s:=by rw[<-h5];exact aj.store a2' h.1
 have a5':aj D2a (n+1) ak:=by rw[<-h5];exact⟨zl,(aX _ _ _ _ _ (by omega)).trans a2.2⟩
 have a6:aj D2b (n+1) s:=by rw[<-h6];exact aj.store a2 h.1
 have a6':aj D2b n ak:=by rw[<-h6];exact⟨zl,(aX _ _ _ _ _ (by omega)).trans a2'.2⟩
 have c:∀{W:World},Below n D0 W->aj W bs s:=fun hb=>h.below hb (by omega)
 refine⟨D1,D2,D1s,E2,D2a,D2b,_,_,_,⟨h1,h2,h3,h4,h5,h6,rfl,rfl,rfl⟩,⟨s1,s3⟩,⟨aj.has h,aj.has (c b1),aj.has (c b2'),aj.has (c b3),aj.has (c b4'),aj.has (c b5),aj.has (c b6)⟩,⟨aj.of h,aj.of (c b1),aj.of (c b2'),aj.of (c b3),aj.of (c b4'),aj.of (c b5),aj.of (c b6)⟩,⟨aj.room a1,aj.room a2',aj.room a2,aj.room a4,aj.room a5',aj.room a6'⟩,⟨hV.trans (aU b4' (by omega) _ _),⟨h.1,(aX _ _ _ _ _ (by omega)).trans a4'.2⟩,aj.store a4 h.1⟩,⟨hV.trans (aU b5 (by omega) _ _),⟨h.1,(aX _ _ _ _ _ (by omega)).trans a5.2⟩,aj.store a5' h.1⟩,⟨hV.trans (aU b6 (jC _) _ _),aj.store a6' h.1,⟨h.1,(aX _ _ _ _ _ (by omega)).trans a6.2⟩⟩⟩
structure iZ (O:Nat->Prop)(w:World)(cs:Array Value)(s s6 s7:List Nat)(b6 b7:Nat)(O1:Nat->Prop)(wc:World):Prop where
 st:aj wc w.heap.size s
 ln:wc.heap[w.heap.size+1]?=some (.cells cs 115 (0,0))
 a6:aj wc b6 s6
 a7:aj wc b7 s7
 ne:b6≠b7
 No:w.heap.size+2<=b6
 Np:w.heap.size+2<=b7
 zE:∀k,k=w.heap.size\/k=w.heap.size+1\/k=b6\/k=b7->¬O1 k
 fr:Fr O w O1 wc
section
variable {O O1 O2:Nat->Prop} {w wc w':World} {cs:Array Value} {s s6 s7 t:List Nat} {b6 b7:Nat}
theorem iZ.RW (h:iZ O w cs s s6 s7 b6 b7 O1 wc)(hT:aW b6 wc w')(ht:aj w' b6 t):iZ O w cs s t s7 b6 b7 O1 w':=
 ⟨aj.mm h.st hT (by have:=h.No;omega),(hT.block _ (lt_of_heap h.ln) (by have:=h.No;omega)).trans h.ln,ht,aj.mm h.a7 hT (fun e=>h.ne e.symm),h.ne,h.No,h.Np,h.zE,h.fr.eo hT (by have:=h.No;omega)⟩
theorem iZ.RX (h:iZ O w cs s s6 s7 b6 b7 O1 wc)(hT:aW b7 wc w')(ht:aj w' b7 t):iZ O w cs s s6 t b6 b7 O1 w':=
 ⟨aj.mm h.st hT (by have:=h.Np;omega),(hT.block _ (lt_of_heap h.ln) (by have:=h.Np;omega)).trans h.ln,aj.mm h.a6 hT h.ne,ht,h.ne,h.No,h.Np,h.zE,h.fr.eo hT (by have:=h.Np;omega)⟩
theorem iZ.on (h:iZ O w cs s s6 s7 b6 b7 O1 wc)(hF:Fr O1 wc O2 w'):iZ O w cs s s6 s7 b6 b7 O2 w':=by
 refine⟨aj.fr h.st hF (h.zE _ (.inl rfl)),(hF.block _ (lt_of_heap h.ln) (h.zE _ (.inr (.inl rfl)))).trans h.ln,aj.fr h.a6 hF (h.zE _ (.inr (.inr (.inl rfl)))),aj.fr h.a7 hF (h.zE _ (.inr (.inr (.inr rfl)))),h.ne,h.No,h.Np,fun k hk hO=> ?_,h.fr.trans hF⟩;rcases hF.new k hO with e|e
 ·exact h.zE k hk e
 ·have:k<wc.heap.size:=by
   rcases hk with rfl|rfl|rfl|rfl
   ·exact h.st.lt
   ·exact lt_of_heap h.ln
   ·exact h.a6.lt
   ·exact h.a7.lt
  omega
theorem iZ.below (h:iZ O w cs s s6 s7 b6 b7 O1 wc)(hb:Below wc.heap.size wc w'):iZ O w cs s s6 s7 b6 b7 O1 w':=h.on (Fr.of hb)
end
end El
end Go.Proofs.YtmlgajhhnojdjaaGreatDoor

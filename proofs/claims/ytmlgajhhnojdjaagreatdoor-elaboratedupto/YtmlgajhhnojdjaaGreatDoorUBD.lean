import Derived.Test.YtmlgajhhnojdjaaGreatDoorUBC
set_option maxHeartbeats 8000000
namespace Go.Proofs.YtmlgajhhnojdjaaGreatDoor
namespace El
open Go Go.RowKit Sq Aux PrjF PrjG PrjJ PrjK PrjL PrjM PrjP PrjQ PrjS PrjT FlwA FlwB FlwE FlwF FlwJ
attribute [local go_sem ↓] dd cO
section
variable {z x a:Nat} {w0 w:World} {ve:Value} {un:List Bool} {m:Mk} {O:Nat->Prop}
theorem Ox {W:World}{ga gp K:Nat}(h:cH z w0 x a ve w un m O)(hm:m.Small K)(hK:K<=100000)(hW:Below w.heap.size w W)(p:Nat×Nat)(k:Nat)(NL:w.heap.size<=ga)(G4:w.heap.size<=gp)(hRp:W.heap[gp]?=some (.cells #[.int .i64 (p.1:Nat),.int .i64 (p.2:Nat)] 119 (0,0)))
  (hRl:W.heap[ga]?=some (.cells #[.int .i64 0,.int .i64 17,.slice none 0 0,.int .i64 0,.int .i64 (k:Nat),.slice none 0 0] 115 (0,0))):
  Calls Tryz.prog 210 #[.pointer (some ⟨x,0,none⟩),.agg #[.int .i64 0,.int .i64 20,.slice (some ⟨gp,0,none⟩) 1 1,.int .i64 0,.int .i64 0,.slice none 0 0],.slice (some ⟨ga,0,none⟩) 1 1] W fun e w'=>e=.returned (.tuple #[])/\∃O',cH z w0 x a ve w' un (m.fork (kg p) [dE k 0]) O'/\Fr O w O' w':=by
 have hb:=h.base;have hzw:z<=w.heap.size:=by obtain⟨vb,us,vss,h'⟩:=h;have:=h'.K9;omega
 have LZ:aC z W (dE k 0) (.slice none 0 0) (.slice none 0 0):=⟨World.ownsRow_nil _ _ _ _,World.ownsRow_nil _ _ _ _⟩;have fL:W.ownsRow z 119 2 (.slice (some ⟨gp,0,none⟩) 1 1) 1 (bf [p]):=⟨rfl,.inr ⟨gp,1,_,rfl,by omega,hRp,jC _,by unfold maxLen;omega,rfl,rfl⟩⟩;have KF:=EK (h.below hW) hm.at_ (kg p) (ap:=some ⟨gp,0,none⟩) (cp:=1) (vn:=.slice none 0 0) fL (fun g hg=>by simp only[Value.ownBlock,Option.some.injEq]at hg;subst hg;exact h.fresh G4) (ls:=[dE k 0]) (vs:=[(.slice none 0 0,.slice none 0 0)]) (ca:=1) (zz:=w.heap.size) (FG NL hRl) ⟨h.fresh NL,by omega⟩ (kR LZ hRl) (fun j hj g hg=>by
  simp at hj;subst hj;rcases hg with hg|hg<;>cases hg) (by have:=hm.many;omega) (by have:=hm.lines m.at_;omega) (by simp)
 refine KF.mono ?_;rintro e w' ⟨rfl,O',h',F'⟩;have QV:=hW.size;refine⟨rfl,O',h',F'.os.trans hW.os,F'.tape.trans hW.tape,F'.output.trans hW.output,jS hW.size F'.size,fun k hk hn=> ?_,fun k hk=> ?_⟩
 ·rw[F'.block k (by omega) (by rintro(e|e);exact hn e;omega)];exact hW.block k hk
 ·rcases F'.new k hk with(e|e)|e
  ·exact .inl e
  ·exact .inr (by omega)
  ·exact .inr (by omega)
abbrev MW (p:Nat×Nat):Obj:=.cells #[.int .i64 (p.1:Nat),.int .i64 (p.2:Nat)] 119
abbrev NT (k:Nat):Obj:=.cells #[.int .i64 0,.int .i64 17,.slice none 0 0,.int .i64 0,.int .i64 (k:Nat),.slice none 0 0] 115
section
abbrev KFs (w8:World)(p:Nat×Nat)(k:Nat)(C:World->Nat->Nat->Prop):Prop:=∀(W:World) (ga gp:Nat),Below w8.heap.size w8 W->w8.heap.size<=ga->w8.heap.size<=gp->W.heap[gp]?=some (.cells #[.int .i64 (p.1:Nat),.int .i64 (p.2:Nat)] 119 (0,0))->W.heap[ga]?=some (.cells #[.int .i64 0,.int .i64 17,.slice none 0 0,.int .i64 0,.int .i64 (k:Nat),.slice none 0 0] 115 (0,0))->C W ga gp
variable {w8:World} {p:Nat×Nat} {k:Nat} {C:World->Nat->Nat->Prop}
theorem Rl (KF:KFs w8 p k C){wG:World}(hB:Below w8.heap.size w8 wG):C ((wG.alloc (MW p)).alloc (NT k)) (wG.heap.size+1) wG.heap.size:=by
 have h1:Below w8.heap.size w8 (wG.alloc (MW p)):=hB.alloc hB.size _;have h2:Below (wG.alloc (MW p)).heap.size (wG.alloc (MW p)) ((wG.alloc (MW p)).alloc (NT k)):=(Below.refl _ _).alloc (jC _) _;have e:(wG.alloc (MW p)).heap.size=wG.heap.size+1:=by simp
 have:=hB.size;refine KF _ _ _ (h1.alloc h1.size _) (by omega) (by omega) ?_ ?_
 ·rw[h2.block _ (by omega)];exact jD
 ·rw[<-e];exact jD
theorem Rk (KF:KFs w8 p k C){wG:World}(hB:Below w8.heap.size w8 wG):C ((wG.alloc (NT k)).alloc (MW p)) wG.heap.size (wG.heap.size+1):=by
 have h1:Below w8.heap.size w8 (wG.alloc (NT k)):=hB.alloc hB.size _;have h2:Below (wG.alloc (NT k)).heap.size (wG.alloc (NT k)) ((wG.alloc (NT k)).alloc (MW p)):=(Below.refl _ _).alloc (jC _) _;have e:(wG.alloc (NT k)).heap.size=wG.heap.size+1:=by simp
 have:=hB.size;refine KF _ _ _ (h1.alloc h1.size _) (by omega) (by omega) ?_ ?_
 ·rw[<-e];exact jD
 ·rw[h2.block _ (by omega)];exact jD
theorem Ov (KF:KFs w8 p k C){wG:World}(hB:Below w8.heap.size w8 wG)(hR:wG.heap[w8.heap.size]?=some (.cells #[.int .i64 (p.1:Nat),.int .i64 (p.2:Nat)] 119 (0,0))):C (wG.alloc (NT k)) wG.heap.size w8.heap.size:=by
 have h3:Below wG.heap.size wG (wG.alloc (NT k)):=(Below.refl _ _).alloc (jC _) _;refine KF _ _ _ (hB.alloc hB.size _) hB.size (jC _) ?_ jD;rw[h3.block _ (lt_of_heap hR)];exact hR
theorem Ou (KF:KFs w8 p k C){wS wG:World}(hB:Below w8.heap.size w8 wS)(hG:Below (wS.alloc (MW p)).heap.size (wS.alloc (MW p)) wG):C (wG.alloc (NT k)) wG.heap.size wS.heap.size:=by
 have h1:Below w8.heap.size w8 (wS.alloc (MW p)):=hB.alloc hB.size _;have h2:Below w8.heap.size w8 wG:=h1.trans (hG.mono h1.size);have h3:Below wG.heap.size wG (wG.alloc (NT k)):=(Below.refl _ _).alloc (jC _) _;have e:(wS.alloc (MW p)).heap.size=wS.heap.size+1:=by simp
 have hs:=hG.size;have hr:wG.heap[wS.heap.size]?=_:=(hG.block wS.heap.size (by omega)).trans (jD:(wS.alloc (MW p)).heap[wS.heap.size]?=_);refine KF _ _ _ (h2.alloc h2.size _) h2.size hB.size ?_ jD;rw[h3.block _ (by omega)];exact hr
end
set_option maxRecDepth 20000 in
theorem DP {K:Nat}(h:cH z w0 x a ve w un m O)(hm:m.Small K)(hK:K<=90000)(t:List Nat)(ht:ey t)(p:Nat×Nat)(hp:p.1<12):
  Calls Tryz.prog 181 #[.pointer (some ⟨x,0,none⟩),.agg (aj t).toArray,.agg #[.int .i64 (p.1:Nat),.int .i64 (p.2:Nat)]] w fun e w'=>e=.returned (.tuple #[])/\∃O',cH z w0 x a ve w' un (m.items (bJ un t p)) O'/\Fr O w O' w':=by
 obtain⟨V1,AF⟩:∃V1,w.alloc (.cells (aj t).toArray 209)=V1:=⟨_,rfl⟩;have ju:av V1 w.heap.size t:=by rw[<-AF];exact av.new w ht.len
 have dH:Below w.heap.size w V1:=by rw[<-AF];exact(Below.refl _ _).alloc (jC _) _
 have tY:V1.heap.size=w.heap.size+1:=by rw[<-AF];simp
 obtain⟨V,hV⟩:∃V,V1.alloc (.cells #[.int .i64 (p.1:Nat),.int .i64 (p.2:Nat)] 119)=V:=⟨_,rfl⟩;have me:V.heap[w.heap.size+1]?=some (.cells #[.int .i64 (p.1:Nat),.int .i64 (p.2:Nat)] 119 (0,0)):=by rw[<-hV,<-tY];exact jD
 have dT:Below V1.heap.size V1 V:=by rw[<-hV];exact(Below.refl _ _).alloc (jC _) _
 have tZ:V.heap.size=w.heap.size+2:=by rw[<-hV];simp[tY]
 have qK:=ju.below dT ju.lt;have EX:Below w.heap.size w V:=dH.trans (dT.mono (by omega));have Tc:=h.below EX;have lH:ae p<24:=by unfold ae;split<;>omega
 have NR:(ae p:Int)<24:=by omega
 have eJ:¬O (w.heap.size+1):=h.fresh (by omega);have HC:Hid (∀W,Below V.heap.size V W->W.cell? ⟨x,2+ae p,none⟩=some (.bool (un.getD (ae p) false))/\W.cell? ⟨w.heap.size+1,0,none⟩=some (.int .i64 (p.1:Nat))/\W.cell? ⟨w.heap.size+1,1,none⟩=some (.int .i64 (p.2:Nat))/\gV W w.heap.size 0/\mQ W w.heap.size 0=(aj t).toArray):=fun W hW=>by
  obtain⟨vb,us,vss,mX⟩:=Tc.below hW;have hr:=(hW.block (w.heap.size+1) (by omega)).trans me;have fy:=qK.below hW (by omega);exact⟨(mX.U7 lH).1,by rw[cell_of_heap hr];rfl,by rw[cell_of_heap hr];rfl,av.has fy,av.of fy⟩
 obtain⟨c1,c2,c3,c4,c5⟩:=HC.out V (Below.refl _ _);obtain⟨d1,d2,d3,d4,d5⟩:=HC.out V.drew ⟨rfl,rfl,rfl,jC _,fun _ _=>rfl⟩;have QG:=dc p V.drew (by omega);have KU:=fun W=>oB t ht p hp W
 go_enter Tryz.func181,Tryz.ntmps181
 go_upto_region 1 with fail
 try rw[AF]
 try rw[hV]
 clear hV AF;generalize hu:un.getD (ae p) false=u at*;generalize hv:cg (t.getD (ae p) 0)=y at*;have HM:Hid (bJ un t p=if u=true/\y=true then [.line (dE (ae p) 1),.fork (kg p) [dE (ae p) 0]]else []):=by
  unfold Hid bJ;rw[hu,hv]
 clear hu hv;cases u with
 |false=>
  have JJ:Hid (bJ un t p=[]):=HM.out.trans (ja (by simp));clear HM KU;go_region_with (go_at_call 62;refine QG.mono ?_;rintro e w5 ⟨rfl,fM⟩;have tU:Below V.heap.size V w5:=⟨fM.os,fM.tape,fM.output,fM.size,fM.block⟩;obtain⟨k1,k2,k3,k4,k5⟩:=HC.out w5 tU)
  all_goals go_wp2_with fail
  all_goals
   go_end0
   exact⟨rfl,O,by rw[JJ.out];exact Tc.below tU,(Fr.of EX).trans (Fr.of tU)⟩
 |true=>
  cases y with
  |false=>
   have JJ:Hid (bJ un t p=[]):=HM.out.trans (ja (by simp));clear HM;go_region_law (first
    |(go_simp;go_at_call 62;refine QG.mono ?_;rintro e w5 ⟨rfl,fM⟩;have tU:Below V.heap.size V w5:=⟨fM.os,fM.tape,fM.output,fM.size,fM.block⟩;obtain⟨k1,k2,k3,k4,k5⟩:=HC.out w5 tU;have Zp:=KU w5)
    |(go_simp;go_at_call 127;refine Zp.mono ?_;rintro e w6 ⟨rfl,ot⟩;have ov:=tU.trans (ot.mono tU.size)))
   all_goals go_wp2_with fail
   all_goals
    go_end0
    exact⟨rfl,O,by rw[JJ.out];exact Tc.below ov,(Fr.of EX).trans (Fr.of ov)⟩
  |true=>
   have JJ:Hid (bJ un t p=[.line (dE (ae p) 1),.fork (kg p) [dE (ae p) 0]]):=HM.out.trans (jb (by simp));clear HM;have RY:=hm.line (dE (ae p) 1);go_cut [17] (fun v17 wc=>v17=.bool true/\Below V.heap.size V wc)
   case first=>
    go_region_law (first
     |(go_simp;go_at_call 62;refine QG.mono ?_;rintro e w5 ⟨rfl,fM⟩;have tU:Below V.heap.size V w5:=⟨fM.os,fM.tape,fM.output,fM.size,fM.block⟩;obtain⟨k1,k2,k3,k4,k5⟩:=HC.out w5 tU;have Zp:=KU w5)
     |(go_simp;go_at_call 127;refine Zp.mono ?_;rintro e w6 ⟨rfl,ot⟩;have ov:=tU.trans (ot.mono tU.size)))
    all_goals go_wp2_with fail
    all_goals
     go_meet
     case rel=>exact⟨rfl,ov⟩
   case rest=>
    obtain⟨rfl,NJ⟩:=hcut;obtain⟨-,k2,k3,-,-⟩:=HC.out wc NJ;clear c1 c2 c3 c4 c5 d1 d2 d3 d4 d5 QG KU;have YE:=dc p wc (by omega);go_upto_region 3 with(first
     |(go_at_call 62;refine YE.mono ?_;rintro e w6 ⟨rfl,ot⟩;have ov:=NJ.trans (ot.mono NJ.size);have KG2:=pz (ae p:Nat) 1 w6)
     |(go_at_call 211;refine KG2.mono ?_;rintro e w7 ⟨rfl,Db⟩;have Rz:=ov.trans (Db.mono ov.size);have V7:=Gg Tc hm (by omega) (ae p) 1 w7 Rz)
     |(go_at_call 130;refine V7.mono ?_;rintro e w8 ⟨rfl,O8,h8,F8⟩))
    have hr8:=(F8.block (w.heap.size+1) (by omega) eJ).trans me;have hs8:w.heap.size+1<w8.heap.size:=lt_of_heap hr8;have HD:Hid (∀W,Below w8.heap.size w8 W->W.cell? ⟨w.heap.size+1,0,none⟩=some (.int .i64 (p.1:Nat))/\W.cell? ⟨w.heap.size+1,1,none⟩=some (.int .i64 (p.2:Nat))):=fun W hW=>by
     have hr:=(hW.block (w.heap.size+1) (by omega)).trans hr8;exact⟨by rw[cell_of_heap hr];rfl,by rw[cell_of_heap hr];rfl⟩
    have HF8:Hid (Fr O w O8 w8):=(Fr.of EX).trans F8;have KF:=fun(W:World) (ga gp:Nat) (h1:Below w8.heap.size w8 W) (h2:w8.heap.size<=ga) (h3:w8.heap.size<=gp) (h4:W.heap[gp]?=some (.cells #[.int .i64 (p.1:Nat),.int .i64 (p.2:Nat)] 119 (0,0))) (h5:W.heap[ga]?=some (.cells #[.int .i64 0,.int .i64 17,.slice none 0 0,.int .i64 0,.int .i64 (ae p:Nat),.slice none 0 0] 115 (0,0)))=>Ox h8 RY (by omega) h1 p (ae p) h2 h3 h4 h5
    clear F8 h8 hr8 k2 k3 NJ YE ot Db ov Rz V7;have QK:Below w8.heap.size w8 w8.drew:=⟨rfl,rfl,rfl,jC _,fun _ _=>rfl⟩;obtain⟨D,hD⟩:∃D,w8.drew=D:=⟨_,rfl⟩;rw[hD]at QK;obtain⟨WP,WB⟩:∃WP,D.alloc (.cells #[.int .i64 (p.1:Nat),.int .i64 (p.2:Nat)] 119)=WP:=⟨_,rfl⟩;have hDs:D.heap.size=w8.heap.size:=by rw[<-hD];rfl
    have LM:Below D.heap.size D WP:=by rw[<-WB];exact(Below.refl _ _).alloc (jC _) _
    have Zx:Below w8.heap.size w8 WP:=QK.trans (LM.mono QK.size);have hRP:WP.heap[w8.heap.size]?=some (.cells #[.int .i64 (p.1:Nat),.int .i64 (p.2:Nat)] 119 (0,0)):=by rw[<-WB,<-hDs];exact jD
    obtain⟨q0,q1⟩:=HD.out D QK;obtain⟨q2,q3⟩:=HD.out WP Zx;have KSa:=dc p D (by omega);have KSb:=dc p WP (by omega);go_region_law (first
     |(go_simp;go_at_call 62;go_fit KSa;rintro e wS ⟨rfl,tV⟩;have vV:=QK.trans (tV.mono QK.size);obtain⟨s0,s1⟩:=HD.out wS vV;have KGa:=pz (ae p:Nat) 0 wS;have KGb:=pz (ae p:Nat) 0 (wS.alloc (.cells #[.int .i64 (p.1:Nat),.int .i64 (p.2:Nat)] 119));have hmine:=tV)
     |(go_simp;go_at_call 62;go_fit KSb;rintro e wS ⟨rfl,tV⟩;have vV:=Zx.trans (tV.mono Zx.size);obtain⟨s0,s1⟩:=HD.out wS vV;have KGc:=pz (ae p:Nat) 0 wS;have hRS:=(tV.block w8.heap.size (lt_of_heap hRP)).trans hRP)
     |(go_simp;go_at_call 211;go_fit KGc;rintro e wG ⟨rfl,Vw⟩;have S5:=vV.trans (Vw.mono vV.size);obtain⟨g0,g1⟩:=HD.out wG S5;have Ve:=Ov KF S5 ((Vw.block w8.heap.size (lt_of_heap hRS)).trans hRS))
     |(go_simp;go_at_call 211;go_fit KGa;rintro e wG ⟨rfl,Vw⟩;have S5:=vV.trans (Vw.mono vV.size);obtain⟨g0,g1⟩:=HD.out wG S5;obtain⟨g2,g3⟩:=HD.out (wG.alloc (.cells #[.int .i64 0,.int .i64 17,.slice none 0 0,.int .i64 0,.int .i64 (ae p:Nat),.slice none 0 0] 115)) (S5.alloc S5.size _);have Ve:=Rl KF S5;have KF2:=Rk KF S5)
     |(go_simp;go_at_call 211;go_fit KGb;rintro e wG ⟨rfl,Vw⟩;have Ve:=Ou KF vV Vw)
     |(go_simp;go_at_call 210;go_fit Ve;rintro e w9 ⟨rfl,O9,h9,F9⟩)
     |(go_simp;go_at_call 210;go_fit KF2;rintro e w9 ⟨rfl,O9,h9,F9⟩))
    all_goals go_wp2_with fail
    all_goals
     go_end0
     exact⟨rfl,O9,by rw[JJ.out];exact h9,HF8.out.trans F9⟩
end
end El
namespace El
open Go Go.RowKit Sq Aux Go.Proofs.YtmlgajhhnojdjaaGreatDoor.Own PrjF PrjG PrjJ PrjK PrjL PrjM PrjP PrjQ PrjS PrjT FlwA FlwB FlwE FlwF FlwG FlwJ FlwM
section
variable {z x a:Nat} {w0 w w':World} {ve:Value} {un:List Bool} {m:Mk} {O:Nat->Prop}
theorem cH.fX (h:cH z w0 x a ve w un m O){b:Nat}{s:List Nat}(hs:av w b s)(hO:¬O b)(hb:w0.heap.size<=b)(hT:bD b w w'):cH z w0 x a ve w' un m O:=by
 obtain⟨vb,us,vss,h⟩:=h;have cj:∀{e:TypeId} {n k:Nat} {v:Value} {xs:List Value},w.ownsRow z e n v k xs->e≠209->w'.ownsRow z e n v k xs:=fun hv he=>sY hv hT hs.2 he
 refine⟨vb,us,vss,h.K9,?_,h.ul,h.aZ.trans ⟨hT.os,hT.tape,hT.output,hT.size,fun k hk=>hT.block k (jK hk h.aZ.size) (by omega)⟩,cj h.blocks (by decide),h.vl,fun j hj=>(h.each j hj).cj (cj (h.each j hj).row (by decide)) (fun he hv=>cj hv (by rcases he with rfl|rfl<;>decide)),h.apart,h.ox,h.ob,h.ou,fun k hk=>⟨(h.hi k hk).1,jK (h.hi k hk).2 hT.size⟩⟩;rw[hT.block x h.lt (fun e=>by subst e;exact hO h.ox)];exact h.aM
theorem Fr.fX {O O':Nat->Prop}{w1:World}(h:Fr O w O' w1){b:Nat}(hT:bD b w1 w')(hb:w.heap.size<=b):Fr O w O' w':=
 ⟨hT.os.trans h.os,hT.tape.trans h.tape,hT.output.trans h.output,jS h.size hT.size,fun k hk hn=>(hT.block k (jK hk h.size) (by omega)).trans (h.block k hk hn),h.new⟩
theorem av.qd {b c:Nat}{s:List Nat}(h:av w b s)(hT:bD c w w')(NJ:b≠c):av w' b s:=⟨h.1,(hT.block b (lt_of_heap h.2) NJ).trans h.2⟩
theorem av.fr {O O':Nat->Prop}{b:Nat}{s:List Nat}(h:av w b s)(hF:Fr O w O' w')(hO:¬O b):av w' b s:=⟨h.1,(hF.block b (lt_of_heap h.2) hO).trans h.2⟩
end
end El
namespace El
open Go Go.RowKit Sq Aux Go.Proofs.YtmlgajhhnojdjaaGreatDoor.Own PrjF PrjG PrjJ PrjK PrjL PrjM PrjP PrjQ PrjS PrjT FlwA FlwB FlwE FlwF FlwG FlwJ FlwM
theorem BM (q:QP)(x:Nat×Nat):(∀y∈bT q x,y.1=x.1)/\(bT q x).length<=2:=by
 unfold bT;split
 ·exact⟨fun y hy=>(by cases hy),by simp⟩
 split
 ·exact⟨fun y hy=>by rw[jI.1 hy],by simp⟩
 unfold QP.ai;split
 ·refine⟨fun y hy=> ?_,by simp⟩;simp only[List.mem_cons,List.not_mem_nil,or_false]at hy;rcases hy with rfl|rfl<;>rfl
 ·exact⟨fun y hy=>by rw[jI.1 hy],by simp⟩
theorem JQ (q:QP):∀n,(∀y∈fi q n,y.1<n)/\(fi q n).length<=2*n
 |0=>⟨fun y hy=>(by cases hy),jC _⟩
 |n+1=>by
  obtain⟨h1,h2⟩:=JQ q n;obtain⟨h3,h4⟩:=BM q (n,0);have ea:fi q (n+1)=bT q (n,0)++fi q n:=rfl;rw[ea];refine⟨fun y hy=> ?_,by rw[jV];omega⟩;rcases List.mem_append.1 hy with h|h
  ·have:=h3 y h;rw[this];show n<n+1;omega
  ·have:=h1 y h;omega
theorem mo {q:QP}{nb:Nat}{l:ab}(hk:fY q.locals.length nb l)(bR:q.locals.length<=12):(∀y∈aW q l,y.1<12)/\(aW q l).length<=100:=by
 unfold aW;split
 ·rename_i ak;have hlen:=sA hk ak;have L4:(ag l 0).1<q.locals.length:=(hk.places _ (by unfold ag;rw[jA,jB (by omega)];exact jL _)).1;obtain⟨h3,h4⟩:=BM q (ag l 0);exact⟨fun y hy=>by rw[h3 y hy];omega,by omega⟩
 split
 ·obtain⟨h3,h4⟩:=JQ q q.locals.length;exact⟨fun y hy=>by have:=h3 y hy;omega,by omega⟩
 ·exact⟨fun y hy=>(by cases hy),by simp⟩
theorem sized (b:Nat):∀(vs:List Value) (o:Nat) (w:World),(w.setCells b o vs).heap.size=w.heap.size
 |[],_,_=>rfl
 |v::vs,o,w=>by rw[World.setCells,sized b vs,World.size_setCell]
theorem cH.zero {z x a:Nat}{w0 w:World}{ve:Value}{un:List Bool}{m:Mk}{O:Nat->Prop}(h:cH z w0 x a ve w un m O):w.cell? ⟨x,0,none⟩=some (.pointer (some ⟨a,0,none⟩))/\x<w.heap.size:=by
 obtain⟨_,_,_,h⟩:=h;exact⟨h.facts.1,h.lt⟩
theorem Nv {V D0:World}{bs:Nat}{s:List Nat}{Z:Array Value}(hZ:Z=(aj au).toArray)(h:av D0 bs s)(n:Nat)(hn:D0.heap.size=n)(hV:Below n V D0):
  ∃D1 D2 D1s E2 D2a D2b F1 F2 F3,(D0.alloc (.cells Z 209)=D1/\D1.alloc (.cells Z 209)=D2/\D1.setCells n 0 (aj s)=D1s/\D1s.alloc (.cells Z 209)=E2/\D2.setCells n 0 (aj s)=D2a/\D2.setCells (n+1) 0 (aj s)=D2b/\E2.setCells (n+1) 0 (aj s)=F1/\D2a.setCells (n+1) 0 (aj s)=F2/\D2b.setCells n 0 (aj s)=F3)/\
   (D1.heap.size=n+1/\D1s.heap.size=n+1)/\(gV D0 bs 0/\gV D1 bs 0/\gV D2 bs 0/\gV D1s bs 0/\gV E2 bs 0/\gV D2a bs 0/\gV D2b bs 0)/\
   (mQ D0 bs 0=(aj s).toArray/\mQ D1 bs 0=(aj s).toArray/\mQ D2 bs 0=(aj s).toArray/\mQ D1s bs 0=(aj s).toArray/\mQ E2 bs 0=(aj s).toArray/\mQ D2a bs 0=(aj s).toArray/\mQ D2b bs 0=(aj s).toArray)/\
   (iH D1 n 0/\iH D2 n 0/\iH D2 (n+1) 0/\iH E2 (n+1) 0/\iH D2a (n+1) 0/\iH D2b n 0)/\
   Hid ((Below n V F1/\av F1 n s/\av F1 (n+1) s)/\(Below n V F2/\av F2 n s/\av F2 (n+1) s)/\(Below n V F3/\av F3 n s/\av F3 (n+1) s)):=by
 subst hZ;obtain⟨D1,h1⟩:∃D1,D0.alloc (.cells (aj au).toArray 209)=D1:=⟨_,rfl⟩;obtain⟨D2,h2⟩:∃D2,D1.alloc (.cells (aj au).toArray 209)=D2:=⟨_,rfl⟩;obtain⟨D1s,h3⟩:∃D1s,D1.setCells n 0 (aj s)=D1s:=⟨_,rfl⟩;obtain⟨E2,h4⟩:∃E2,D1s.alloc (.cells (aj au).toArray 209)=E2:=⟨_,rfl⟩;obtain⟨D2a,h5⟩:∃D2a,D2.setCells n 0 (aj s)=D2a:=⟨_,rfl⟩;obtain⟨D2b,h6⟩:∃D2b,D2.setCells (n+1) 0 (aj s)=D2b:=⟨_,rfl⟩;have hbs:=h.lt;have zl:au.length=24:=by decide
 have s1:D1.heap.size=n+1:=by rw[<-h1];simp[hn]
 have s2:D2.heap.size=n+2:=by rw[<-h2];simp[s1]
 have s3:D1s.heap.size=n+1:=by rw[<-h3,sized,s1]
 have b1:Below n D0 D1:=by rw[<-h1];exact(Below.refl _ _).alloc (by omega) _
 have b2:Below (n+1) D1 D2:=by rw[<-h2];exact(Below.refl _ _).alloc (by omega) _
 have b2':Below n D0 D2:=b1.trans (b2.mono (by omega));have b3:Below n D0 D1s:=by rw[<-h3];exact bp b1 (jC _) _ _
 have b4:Below (n+1) D1s E2:=by rw[<-h4];exact(Below.refl _ _).alloc (by omega) _
 have b4':Below n D0 E2:=b3.trans (b4.mono (by omega));have b5:Below n D0 D2a:=by rw[<-h5];exact bp b2' (jC _) _ _
 have b6:Below n D0 D2b:=by rw[<-h6];exact bp b2' (by omega) _ _
 have a1:av D1 n au:=by rw[<-h1,<-hn];exact av.new D0 zl
 have a2:av D2 (n+1) au:=by rw[<-h2,<-s1];exact av.new D1 zl
 have a2':av D2 n au:=a1.below b2 (by omega);have a3:av D1s n s:=by rw[<-h3];exact av.store a1 h.1
 have a4:av E2 (n+1) au:=by rw[<-h4,<-s3];exact av.new D1s zl
 have a4':av E2 n s:=a3.below b4 (by omega);have a5:av D2a n s:=by rw[<-h5];exact av.store a2' h.1
 have a5':av D2a (n+1) au:=by rw[<-h5];exact⟨zl,(bE _ _ _ _ _ (by omega)).trans a2.2⟩
 have a6:av D2b (n+1) s:=by rw[<-h6];exact av.store a2 h.1
 have a6':av D2b n au:=by rw[<-h6];exact⟨zl,(bE _ _ _ _ _ (by omega)).trans a2'.2⟩
 have c:∀{W:World},Below n D0 W->av W bs s:=fun hb=>h.below hb (by omega)
 refine⟨D1,D2,D1s,E2,D2a,D2b,_,_,_,⟨h1,h2,h3,h4,h5,h6,rfl,rfl,rfl⟩,⟨s1,s3⟩,⟨av.has h,av.has (c b1),av.has (c b2'),av.has (c b3),av.has (c b4'),av.has (c b5),av.has (c b6)⟩,⟨av.of h,av.of (c b1),av.of (c b2'),av.of (c b3),av.of (c b4'),av.of (c b5),av.of (c b6)⟩,⟨av.room a1,av.room a2',av.room a2,av.room a4,av.room a5',av.room a6'⟩,⟨hV.trans (bp b4' (by omega) _ _),⟨h.1,(bE _ _ _ _ _ (by omega)).trans a4'.2⟩,av.store a4 h.1⟩,⟨hV.trans (bp b5 (by omega) _ _),⟨h.1,(bE _ _ _ _ _ (by omega)).trans a5.2⟩,av.store a5' h.1⟩,⟨hV.trans (bp b6 (jC _) _ _),av.store a6' h.1,⟨h.1,(bE _ _ _ _ _ (by omega)).trans a6.2⟩⟩⟩
structure lQ (O:Nat->Prop)(w:World)(cs:Array Value)(s s6 s7:List Nat)(b6 b7:Nat)(O1:Nat->Prop)(wc:World):Prop where
 st:av wc w.heap.size s
 ln:wc.heap[w.heap.size+1]?=some (.cells cs 115 (0,0))
 a6:av wc b6 s6
 a7:av wc b7 s7
 ne:b6≠b7
 TW:w.heap.size+2<=b6
 TX:w.heap.size+2<=b7
 EA:∀k,k=w.heap.size\/k=w.heap.size+1\/k=b6\/k=b7->¬O1 k
 fr:Fr O w O1 wc
section
variable {O O1 O2:Nat->Prop} {w wc w':World} {cs:Array Value} {s s6 s7 t:List Nat} {b6 b7:Nat}
theorem lQ.Yw (h:lQ O w cs s s6 s7 b6 b7 O1 wc)(hT:bD b6 wc w')(ht:av w' b6 t):lQ O w cs s t s7 b6 b7 O1 w':=
 ⟨av.qd h.st hT (by have:=h.TW;omega),(hT.block _ (lt_of_heap h.ln) (by have:=h.TW;omega)).trans h.ln,ht,av.qd h.a7 hT (fun e=>h.ne e.symm),h.ne,h.TW,h.TX,h.EA,h.fr.fX hT (by have:=h.TW;omega)⟩
theorem lQ.Yx (h:lQ O w cs s s6 s7 b6 b7 O1 wc)(hT:bD b7 wc w')(ht:av w' b7 t):lQ O w cs s s6 t b6 b7 O1 w':=
 ⟨av.qd h.st hT (by have:=h.TX;omega),(hT.block _ (lt_of_heap h.ln) (by have:=h.TX;omega)).trans h.ln,av.qd h.a6 hT h.ne,ht,h.ne,h.TW,h.TX,h.EA,h.fr.fX hT (by have:=h.TX;omega)⟩
theorem lQ.on (h:lQ O w cs s s6 s7 b6 b7 O1 wc)(hF:Fr O1 wc O2 w'):lQ O w cs s s6 s7 b6 b7 O2 w':=by
 refine⟨av.fr h.st hF (h.EA _ (.inl rfl)),(hF.block _ (lt_of_heap h.ln) (h.EA _ (.inr (.inl rfl)))).trans h.ln,av.fr h.a6 hF (h.EA _ (.inr (.inr (.inl rfl)))),av.fr h.a7 hF (h.EA _ (.inr (.inr (.inr rfl)))),h.ne,h.TW,h.TX,fun k hk hO=> ?_,h.fr.trans hF⟩;rcases hF.new k hO with e|e
 ·exact h.EA k hk e
 ·have:k<wc.heap.size:=by
   rcases hk with rfl|rfl|rfl|rfl
   ·exact h.st.lt
   ·exact lt_of_heap h.ln
   ·exact h.a6.lt
   ·exact h.a7.lt
  omega
theorem lQ.below (h:lQ O w cs s s6 s7 b6 b7 O1 wc)(hb:Below wc.heap.size wc w'):lQ O w cs s s6 s7 b6 b7 O1 w':=h.on (Fr.of hb)
end
end El
namespace El
open Go Go.RowKit Sq Aux Go.Proofs.YtmlgajhhnojdjaaGreatDoor.Own PrjF PrjG PrjJ PrjK PrjL PrjM PrjP PrjQ PrjS PrjT FlwA FlwB FlwE FlwF FlwG FlwJ FlwM
attribute [local go_sem ↓] dd cO
theorem QE:(#[.int .u8 0,.int .u8 0,.int .u8 0,.int .u8 0,.int .u8 0,.int .u8 0,.int .u8 0,.int .u8 0,.int .u8 0,.int .u8 0,.int .u8 0,.int .u8 0,.int .u8 0,.int .u8 0,.int .u8 0,.int .u8 0,.int .u8 0,.int .u8 0,.int .u8 0,.int .u8 0,.int .u8 0,.int .u8 0,.int .u8 0,.int .u8 0]:Array Value)=(aj au).toArray:=rfl
section
variable {z x a:Nat} {w0 w:World} {ve:Value} {un:List Bool} {m:Mk} {O:Nat->Prop}
set_option maxRecDepth 20000 in
theorem Dy (HA:NV){K:Nat}(h:cH z w0 x a ve w un m O)(hm:m.Small K)(hK:K<=80000)(s:List Nat)(hs:ey s){q:QP}{v u:Value}(hq:PQ w0 a q v u)(jy:0<q.locals.length)(rB:q.locals.length<=12){nb:Nat}{l:ab}{ap an:Option Addr}{cp cn:Nat}(hL:aC z w0 l (.slice ap l.places.length cp) (.slice an l.next.length cn))(hk:fY q.locals.length nb l):
  Calls Tryz.prog 132 #[.pointer (some ⟨x,0,none⟩),.agg (aj s).toArray,.agg #[.int .i64 (l.num:Nat),.int .i64 (l.op:Nat),.slice ap l.places.length cp,.int .i64 l.number,.int .i64 l.flag,.slice an l.next.length cn]] w fun e w'=>e=.returned (.tuple #[])/\∃O',cH z w0 x a ve w' un (m.items (bB q un s l)) O'/\Fr O w O' w':=by
 have hold:∀{W:World} {m':Mk} {O':Nat->Prop},cH z w0 x a ve W un m' O'->Below w0.heap.size w0 W:=fun hi=>by obtain⟨_,_,_,hi⟩:=hi;exact hi.aZ
 have o8:=(hold h).size;have HQ:Hid (∀{W:World} {m':Mk} {O':Nat->Prop},cH z w0 x a ve W un m' O'->PQ W a q v u/\aC z W l (.slice ap l.places.length cp) (.slice an l.next.length cn)):=fun hi=>⟨hq.below (hold hi),hL.below (hold hi)⟩
 obtain⟨V1,AF⟩:∃V1,w.alloc (.cells (aj s).toArray 209)=V1:=⟨_,rfl⟩;have tY:V1.heap.size=w.heap.size+1:=by rw[<-AF];simp
 obtain⟨cs,pJ⟩:∃cs,(#[.int .i64 (l.num:Nat),.int .i64 (l.op:Nat),.slice ap l.places.length cp,.int .i64 l.number,.int .i64 l.flag,.slice an l.next.length cn]:Array Value)=cs:=⟨_,rfl⟩;obtain⟨V,hV⟩:∃V,V1.alloc (.cells cs 115)=V:=⟨_,rfl⟩;have tZ:V.heap.size=w.heap.size+2:=by rw[<-hV];simp[tY]
 have dH:Below w.heap.size w V1:=by rw[<-AF];exact(Below.refl _ _).alloc (jC _) _
 have dT:Below V1.heap.size V1 V:=by rw[<-hV];exact(Below.refl _ _).alloc (jC _) _
 have qK:av V w.heap.size s:=by
  have:av V1 w.heap.size s:=by rw[<-AF];exact av.new w hs.len
  exact this.below dT this.lt
 have OF:V.heap[w.heap.size+1]?=some (.cells cs 115 (0,0)):=by rw[<-hV,<-tY];exact jD
 have EX:Below w.heap.size w V:=dH.trans (dT.mono (by omega));have HC:Hid (∀{W:World},W.heap[w.heap.size+1]?=some (.cells cs 115 (0,0))->W.cell? ⟨w.heap.size+1,0,none⟩=some (.int .i64 (l.num:Nat))/\W.cell? ⟨w.heap.size+1,1,none⟩=some (.int .i64 (l.op:Nat))/\W.cell? ⟨w.heap.size+1,2,none⟩=some (.slice ap l.places.length cp)/\W.cell? ⟨w.heap.size+1,3,none⟩=some (.int .i64 l.number)/\W.cell? ⟨w.heap.size+1,4,none⟩=some (.int .i64 l.flag)/\W.cell? ⟨w.heap.size+1,5,none⟩=some (.slice an l.next.length cn)):=fun hr=>by
  subst pJ;exact⟨by rw[cell_of_heap hr];rfl,by rw[cell_of_heap hr];rfl,by rw[cell_of_heap hr];rfl,by rw[cell_of_heap hr];rfl,by rw[cell_of_heap hr];rfl,by rw[cell_of_heap hr];rfl⟩
 have TM:Hid (∀{W:World} {b6 b7:Nat},Below V.heap.size V W->av W b6 s->av W b7 s->b6≠b7->w.heap.size+2<=b6->w.heap.size+2<=b7->cH z w0 x a ve W un m O/\lQ O w cs s s s b6 b7 O W):=fun hW h6 h7 dB g6 g7=>by
  refine⟨h.below (EX.trans (hW.mono EX.size)),qK.below hW qK.lt,(hW.block _ (lt_of_heap OF)).trans OF,h6,h7,dB,g6,g7,fun k hk=>h.fresh (by rcases hk with rfl|rfl|rfl|rfl<;>omega),Fr.of (EX.trans (hW.mono EX.size))⟩
 have qL:=iu hs.len;obtain⟨D1,D2,D1s,E2,D2a,D2b,F1,F2,F3,⟨e1,e2,e3,e4,e5,e6,e7,e8,e9⟩,⟨g1,g2⟩,⟨t0,t1,t2,t3,t4,t5,t6⟩,⟨o0,o1,o2,o3,o4,o5,o6⟩,⟨r1,r2,r3,r4,r5,r6⟩,QZ⟩:=Nv (V:=V) (D0:=V.drew) QE qK (w.heap.size+2) tZ ⟨rfl,rfl,rfl,jC _,fun _ _=>rfl⟩;clear qK OF dH dT EX;go_enter Tryz.func132,Tryz.ntmps132
 go_upto_region 1 with fail
 try rw[AF]
 try rw[hV]
 clear AF hV pJ;go_cut [6,7] (fun v6 v7 wc=>∃b6 b7,v6=.pointer (some ⟨b6,0,none⟩)/\v7=.pointer (some ⟨b7,0,none⟩)/\cH z w0 x a ve wc un m O/\lQ O w cs s s s b6 b7 O wc)
 case first=>
  go_region
  all_goals go_wp2_with fail
  all_goals
   go_meet
   case rel=>
    obtain⟨⟨f1,f2,f3⟩,⟨f4,f5,f6⟩,f7,f8,f9⟩:=QZ.out;first
     |exact⟨_,_,rfl,rfl,TM.out (tZ▸f1) f2 f3 (by omega) (by omega) (by omega)⟩
     |exact⟨_,_,rfl,rfl,TM.out (tZ▸f1) f3 f2 (by omega) (by omega) (by omega)⟩
     |exact⟨_,_,rfl,rfl,TM.out (tZ▸f4) f5 f6 (by omega) (by omega) (by omega)⟩
     |exact⟨_,_,rfl,rfl,TM.out (tZ▸f4) f6 f5 (by omega) (by omega) (by omega)⟩
     |exact⟨_,_,rfl,rfl,TM.out (tZ▸f7) f8 f9 (by omega) (by omega) (by omega)⟩
     |exact⟨_,_,rfl,rfl,TM.out (tZ▸f7) f9 f8 (by omega) (by omega) (by omega)⟩
 case rest=>
  obtain⟨b6,b7,rfl,rfl,hM,hA⟩:=hcut;clear e1 e2 e3 e4 e5 e6 e7 e8 e9 g1 g2 t0 t1 t2 t3 t4 t5 t6 o0 o1 o2 o3 o4 o5 o6 r1 r2 r3 r4 r5 r6 QZ qL tY tZ TM;have hg6:=hA.TW;have hg7:=hA.TX;have hs6:=mS q l hs;have hs7:=fU q l hs;go_upto_region 2 with fail
  go_cut [] (fun wd=>cH z w0 x a ve wd un m O/\lQ O w cs s (aL q l s) s b6 b7 O wd)
  case first=>
   obtain⟨l0,l1,l2,l3,l4,l5⟩:=HC.out hA.ln;obtain⟨x0,-⟩:=hM.zero;have lX:Below wc.heap.size wc wc.drew:=⟨rfl,rfl,rfl,jC _,fun _ _=>rfl⟩;have xQ:=hM.below lX;have J3:=hA.below lX;obtain⟨VO,LZ⟩:=HQ.out xQ;have KT:=vC q l nb z a b6 v u ap an cp cn s wc.drew VO rB hk LZ J3.a6;go_region_with (go_at_call 125;refine KT.mono ?_;rintro e w1 ⟨rfl,ju,lU⟩)
   all_goals go_wp2_with fail
   all_goals
    go_meet
    case rel=>exact⟨xQ.fX J3.a6 (J3.EA _ (.inr (.inr (.inl rfl)))) (by omega) lU,J3.Yw lU ju⟩
  case rest=>
   obtain⟨J6,J2⟩:=hcut;clear hM hA;go_upto_region 3 with fail
   go_cut [] (fun wd=>cH z w0 x a ve wd un m O/\lQ O w cs s (aL q l s) (aq q l s) b6 b7 O wd)
   case first=>
    obtain⟨l0,l1,l2,l3,l4,l5⟩:=HC.out J2.ln;obtain⟨x0,-⟩:=J6.zero;have lX:Below wc.heap.size wc wc.drew:=⟨rfl,rfl,rfl,jC _,fun _ _=>rfl⟩;have xQ:=J6.below lX;have J3:=J2.below lX;obtain⟨VO,LZ⟩:=HQ.out xQ;have KT:=pZ q l nb z a b7 v u ap an cp cn s wc.drew VO rB hk LZ J3.a7 hs.lt;go_region_with (go_at_call 128;refine KT.mono ?_;rintro e w1 ⟨rfl,ju,lU⟩)
    all_goals go_wp2_with fail
    all_goals
     go_meet
     case rel=>exact⟨xQ.fX J3.a7 (J3.EA _ (.inr (.inr (.inr rfl)))) (by omega) lU,J3.Yx lU ju⟩
   case rest=>
    obtain⟨hM2,y8⟩:=hcut;clear J6 J2;go_upto_region 4 with fail
    go_cut [] (fun wd=>∃O4,cH z w0 x a ve wd un (m.items (aN (aL q l s) (aW q l))) O4/\lQ O w cs s (aL q l s) (aq q l s) b6 b7 O4 wd)
    case first=>
     obtain⟨l0,l1,l2,l3,l4,l5⟩:=HC.out y8.ln;have lX:Below wc.heap.size wc wc.drew:=⟨rfl,rfl,rfl,jC _,fun _ _=>rfl⟩;have xQ:=hM2.below lX;have J3:=y8.below lX;obtain⟨x0,x1⟩:=xQ.zero;obtain⟨VO,LZ⟩:=HQ.out xQ;have KT:=B1 HA x0 x1 VO jy rB LZ hk;have t0:=av.has J3.a6;have o0:=av.of J3.a6;have HR:Hid (∀{W:World} {ad:Option Addr} {c:Nat},aI wc.drew.heap.size W (.slice ad (aW q l).length c) (aW q l)->Below wc.drew.heap.size wc.drew W->(gV W b6 0/\mQ W b6 0=(aj (aL q l s)).toArray)/\Calls Tryz.prog 179 #[.pointer (some ⟨x,0,none⟩),.agg (aj (aL q l s)).toArray,.slice ad (aW q l).length c] W fun e w'=>e=.returned (.tuple #[])/\∃O4,cH z w0 x a ve w' un (m.items (aN (aL q l s) (aW q l))) O4/\lQ O w cs s (aL q l s) (aq q l s) b6 b7 O4 w'):=fun{W ad c} hP hW=>by
      have hMW:=xQ.below hW;have Vj:=J3.below hW;refine⟨⟨av.has Vj.a6,av.of Vj.a6⟩,?_⟩;refine(sy hMW hm (by omega) (aL q l s) hs6 hP (fun g hg=>xQ.fresh (hP.lt g hg).1) (mo hk rB).1 (mo hk rB).2).mono ?_;rintro e w' ⟨rfl,O4,h4,F4⟩;exact⟨rfl,O4,h4,Vj.on F4⟩
     clear VO LZ x0 x1 xQ lX J3;go_region_law (first
      |(go_simp;go_at_call 126;refine KT.mono ?_;rintro e w1 ⟨ad,c,rfl,hP,aG⟩;obtain⟨⟨t1,o1⟩,KR⟩:=HR.out hP aG)
      |(go_simp;go_at_call 179;refine KR.mono ?_;rintro e w2 ⟨rfl,O4,h4,A4⟩))
     all_goals go_wp2_with fail
     all_goals
      go_meet
      case rel=>exact⟨O4,h4,A4⟩
    case rest=>
     obtain⟨O4,Rs,Zv⟩:=hcut;clear hM2 y8;go_upto_region 5 with fail
     have XL:(m.items (aN (aL q l s) (aW q l))).Small (K+200):=(hm.items _ (iN _ _).1).mono (by have:=(iN (aL q l s) (aW q l)).2;have:=(mo hk rB).2;omega);have HI:Hid (m.items (bB q un s l)=(((m.items (aN (aL q l s) (aW q l))).items (if l.op=15 then []else [.line l])).items (a8 un s (aq q l s) 24)).items (if l.op=12 then bJ un (aq q l s) (ag l 0)else [])):=by unfold Hid bB;rw[iS,iS,iS]
     have HS:Hid (∀{W:World} {m5:Mk} {O5:Nat->Prop},cH z w0 x a ve W un m5 O5->m5.Small (K+202)->lQ O w cs s (aL q l s) (aq q l s) b6 b7 O5 W->(gV W w.heap.size 0/\mQ W w.heap.size 0=(aj s).toArray/\gV W b7 0/\mQ W b7 0=(aj (aq q l s)).toArray)/\Calls Tryz.prog 180 #[.pointer (some ⟨x,0,none⟩),.agg (aj s).toArray,.agg (aj (aq q l s)).toArray] W fun e w'=>e=.returned (.tuple #[])/\∃O6,cH z w0 x a ve w' un (m5.items (a8 un s (aq q l s) 24)) O6/\(m5.items (a8 un s (aq q l s) 24)).Small (K+250)/\lQ O w cs s (aL q l s) (aq q l s) b6 b7 O6 w'):=fun{W m5 O5} h5 h5s hA5=>by
      refine⟨⟨av.has hA5.st,av.of hA5.st,av.has hA5.a7,av.of hA5.a7⟩,?_⟩;refine(DO h5 h5s (by omega) s (aq q l s) hs hs7).mono ?_;rintro e w' ⟨rfl,O6,h6,F6⟩;exact⟨rfl,O6,h6,(h5s.items _ (iM un s (aq q l s) 24).1).mono (by have:=(iM un s (aq q l s) 24).2;omega),hA5.on F6⟩
     have HP:Hid (Calls Tryz.prog 130 #[.pointer (some ⟨x,0,none⟩),.slice (some ⟨wc.heap.size,0,none⟩) 1 1] (wc.alloc (.cells #[.int .i64 (l.num:Nat),.int .i64 (l.op:Nat),.slice ap l.places.length cp,.int .i64 l.number,.int .i64 l.flag,.slice an l.next.length cn] 115)) fun e w'=>e=.returned (.tuple #[])/\∃O5,cH z w0 x a ve w' un ((m.items (aN (aL q l s) (aW q l))).put [l]) O5/\lQ O w cs s (aL q l s) (aq q l s) b6 b7 O5 w'):=by
      have Il:Below wc.heap.size wc (wc.alloc (.cells #[.int .i64 (l.num:Nat),.int .i64 (l.op:Nat),.slice ap l.places.length cp,.int .i64 l.number,.int .i64 l.flag,.slice an l.next.length cn] 115)):=(Below.refl _ _).alloc (jC _) _;have Vm:=Rs.below Il;refine(iz (c:=1) (ls:=[l]) Vm XL.at_ (kR (g:=wc.heap.size) (HQ.out Vm).2 jD) (by simp) (by have:=XL.lines (m.items (aN (aL q l s) (aW q l))).at_;rw[List.length_singleton];omega)).mono ?_;rintro e w' ⟨rfl,O5,h5,F5⟩;exact⟨rfl,O5,h5,(Zv.below Il).on F5⟩
     have hmp:=XL.line l;have Y0:(m.items (aN (aL q l s) (aW q l))).put [l]=(m.items (aN (aL q l s) (aW q l))).items [.line l]:=rfl;generalize m.items (aN (aL q l s) (aW q l))=mf at*;obtain⟨l0,l1,l2,l3,l4,l5⟩:=HC.out Zv.ln;by_cases lT:l.op=15
     ·have t15:((l.op:Int)==15)=true:=by rw[lT];rfl
      have t12:((l.op:Int)==12)=false:=by rw[lT];rfl
      have hI:=HI.out;rw[jb lT,ja (by omega)]at hI;obtain⟨⟨s1,s2,s3,s4⟩,KS⟩:=HS.out Rs (XL.mono (by omega)) Zv;clear HP HI lT;go_wp2_with (go_at_call 180;refine KS.mono ?_;rintro e w6 ⟨rfl,O6,h6,-,A6⟩;obtain⟨-,l1,-,-,-,-⟩:=HC.out A6.ln)
      go_end0
      exact⟨rfl,O6,by rw[hI];exact h6,A6.fr⟩
     ·have t15:((l.op:Int)==15)=false:=by rw[jZ];omega
      have hI:=HI.out;rw[ja lT,<-Y0]at hI;have KP:=HP.out;by_cases bR:l.op=12
      ·rw[jb bR]at hI;have t12:((l.op:Int)==12)=true:=by rw[bR];rfl
       have HN:Hid (l.places.length=2):=by unfold Hid;rw[hk.bt,bR];rfl
       have ak:Hid (l.op=12):=bR;clear bR lT;go_upto_region 9 with(first
        |(go_at_call 130;refine KP.mono ?_;rintro e w5 ⟨rfl,O5,h5,A5⟩;obtain⟨⟨s1,s2,s3,s4⟩,KS⟩:=HS.out h5 (hmp.mono (by omega)) A5)
        |(go_at_call 180;refine KS.mono ?_;rintro e w6 ⟨rfl,O6,h6,h6s,A6⟩;obtain⟨-,l1,l2,-,-,-⟩:=HC.out A6.ln))
       clear l0 l1 l3 l4 l5 KP KS s1 s2 s3 s4;obtain⟨-,-,l2,-,-,-⟩:=HC.out A6.ln;obtain⟨gp,G4,gP,sf,c1,c2⟩:=ax (HQ.out h6).2 HN.out 0 (by omega);subst G4;have j6:(ag l 0).1<12:=by
        have:=(hk.places (ag l 0) (by unfold ag;rw[jA,jB (by rw[HN.out];omega)];exact jL _)).1;omega
       have ep:l.places.getD 0 (0,0)=ag l 0:=rfl;rw[ep]at c1 c2;have hnp:0<l.places.length:=by rw[HN.out];decide
       have lX:Below w6.heap.size w6 w6.drew:=⟨rfl,rfl,rfl,jC _,fun _ _=>rfl⟩;have t0:=av.has (A6.below lX).a7;have o0:=av.of (A6.below lX).a7;have KM:=DP (h6.below lX) h6s (by omega) (aq q l s) hs7 (ag l 0) j6;clear HQ hL HC;generalize ag l 0=p at*;generalize l.places.length=np at*;go_region_law (go_simp;go_at_call 181;refine KM.mono ?_;rintro e w7 ⟨rfl,O7,h7,F7⟩)
       all_goals go_wp2_with fail
       all_goals
        go_end0
        exact⟨rfl,O7,by rw[hI];exact h7,((A6.below lX).on F7).fr⟩
      ·rw[ja bR]at hI;have t12:((l.op:Int)==12)=false:=by rw[jZ];omega
       go_wp2_with (first
        |(go_at_call 130;refine KP.mono ?_;rintro e w5 ⟨rfl,O5,h5,A5⟩;obtain⟨⟨s1,s2,s3,s4⟩,KS⟩:=HS.out h5 (hmp.mono (by omega)) A5)
        |(go_at_call 180;refine KS.mono ?_;rintro e w6 ⟨rfl,O6,h6,h6s,A6⟩;obtain⟨-,l1,l2,-,-,-⟩:=HC.out A6.ln))
       go_end0
       exact⟨rfl,O6,by rw[hI];exact h6,A6.fr⟩
end
end El
end Go.Proofs.YtmlgajhhnojdjaaGreatDoor

import Derived.Test.YtmlgajhhnojdjaaGreatDoorRBK
namespace Go.Proofs.YtmlgajhhnojdjaaGreatDoor
namespace Mac
open Go Go.RowKit Sq Aux PrjJ PrjK PrjL PrjM Go.Proofs.YtmlgajhhnojdjaaGreatDoor.Own RefRa RefP RefC
section
variable {w0 w w1 w2 w3:World} {x gw cw:Nat} {f:Fx} {m:RM} {p:RP} {ws:List B} {t:Nat} {vb vt:Value} {al:List Int}
set_option maxRecDepth 20000 in
set_option maxHeartbeats 2000000 in
theorem NP (hC:Ctx w0 p f)(h:cd w0 x f w m)(hR:Row w0 ws gw)(hn:ws.length=3)(hw:word ws 0=[108,111,97,100])(h1:Wd p (word ws 1))(h2:Wd p (word ws 2))(h0:m.out=0)(hO:m.Ok t)(ht:t<=2000000):
  Calls Tryz.prog 94 #[.pointer (some ⟨x,0,none⟩),.slice (some ⟨gw,0,none⟩) ws.length cw] w fun e w'=>e=.returned (.tuple #[])/\cd w0 x f w' (m.aS f p al ws):=by
 have HG:Hid (m.aS f p al ws=m.load p ws):=by unfold Hid RM.aS;simp only[hw];rfl
 have la:(ws.length:Int)=3:=by omega
 have y0:=hR.on h (j:=0) (by omega);rw[hw]at y0;have KA:=Bi (cw:=cw) hC h hR hn h1 h2 h0 hw hO ht;rw[hn]at KA;go_enter Tryz.func94,Tryz.ntmps94
 go_wp2_with (go_at_call 153;refine KA.mono ?_;rintro e w2 ⟨rfl,hM⟩)
 go_end0
 exact⟨rfl,by rw[HG.out];exact hM⟩
end
end Mac
namespace Mac
open Go Go.RowKit Sq Aux PrjJ PrjK PrjL PrjM Go.Proofs.YtmlgajhhnojdjaaGreatDoor.Own RefRa RefP RefC
section
variable {w0 w w1 w2 w3:World} {x gw cw:Nat} {f:Fx} {m:RM} {p:RP} {ws:List B} {t:Nat} {vb vt:Value} {al:List Int}
set_option maxRecDepth 20000 in
set_option maxHeartbeats 2000000 in
theorem JW (hC:Ctx w0 p f)(h:cd w0 x f w m)(hR:Row w0 ws gw)(hn:ws.length=3)(hw:word ws 0=[115,116,111,114,101])(h1:Wd p (word ws 1))(h2:Wd p (word ws 2))(h0:m.out=0)(hO:m.Ok t)(ht:t<=2000000):
  Calls Tryz.prog 94 #[.pointer (some ⟨x,0,none⟩),.slice (some ⟨gw,0,none⟩) ws.length cw] w fun e w'=>e=.returned (.tuple #[])/\cd w0 x f w' (m.aS f p al ws):=by
 have HG:Hid (m.aS f p al ws=m.store p ws):=by unfold Hid RM.aS;simp only[hw];rfl
 have la:(ws.length:Int)=3:=by omega
 have y0:=hR.on h (j:=0) (by omega);rw[hw]at y0;have KA:=yl (cw:=cw) hC h hR hn h1 h2 h0 hw hO ht;rw[hn]at KA;go_enter Tryz.func94,Tryz.ntmps94
 go_wp2_with (go_at_call 153;refine KA.mono ?_;rintro e w2 ⟨rfl,hM⟩)
 go_end0
 exact⟨rfl,by rw[HG.out];exact hM⟩
end
end Mac
namespace Mac
open Go Go.RowKit Sq Aux PrjJ PrjK PrjL PrjM Go.Proofs.YtmlgajhhnojdjaaGreatDoor.Own RefRa RefP RefC
section
variable {w0 w w1 w2 w3:World} {x gw cw:Nat} {f:Fx} {m:RM} {p:RP} {ws:List B} {t:Nat} {vb vt:Value} {al:List Int}
set_option maxRecDepth 20000 in
set_option maxHeartbeats 2000000 in
theorem NQ (hC:Ctx w0 p f)(h:cd w0 x f w m)(hR:Row w0 ws gw)(hn:ws.length=3)(hw:word ws 0=[109,111,118,101])(h1:Wd p (word ws 1))(h2:Wd p (word ws 2))(hO:m.Ok t)(ht:t<=2000000)(mr:sp p (word ws 1)+(p.ak (word ws 2)).2<=24)(hf:f.owns=true):
  Calls Tryz.prog 94 #[.pointer (some ⟨x,0,none⟩),.slice (some ⟨gw,0,none⟩) ws.length cw] w fun e w'=>e=.returned (.tuple #[])/\cd w0 x f w' (m.aS f p al ws):=by
 have HG:Hid (m.aS f p al ws=m.owned p ws):=by unfold Hid RM.aS;simp only[hw,hf];rfl
 have la:(ws.length:Int)=3:=by omega
 have y0:=hR.on h (j:=0) (by omega);rw[hw]at y0;have KA:=DC (cw:=cw) hC h hR hn h1 h2 (by rw[hw];decide) hO ht mr;rw[hn]at KA;obtain⟨vb,vt,hV⟩:=h;obtain⟨c0,c1,c2,c3,c4,c5,c6,c7,c8,c9⟩:=hV.facts;rw[hf]at c1;go_enter Tryz.func94,Tryz.ntmps94
 go_wp2_with (go_at_call 154;refine KA.mono ?_;rintro e w2 ⟨rfl,hM⟩)
 go_end0
 exact⟨rfl,by rw[HG.out];exact hM⟩
end
end Mac
namespace Mac
open Go Go.RowKit Sq Aux PrjJ PrjK PrjL PrjM Go.Proofs.YtmlgajhhnojdjaaGreatDoor.Own RefRa RefP RefC
section
variable {w0 w w1 w2 w3:World} {x gw cw:Nat} {f:Fx} {m:RM} {p:RP} {ws:List B} {t:Nat} {vb vt:Value} {al:List Int}
set_option maxRecDepth 20000 in
set_option maxHeartbeats 2000000 in
theorem NT (hC:Ctx w0 p f)(h:cd w0 x f w m)(hR:Row w0 ws gw)(hn:ws.length=3)(hw:word ws 0=[115,111,109,101])(h1:Wd p (word ws 1))(h2:Wd p (word ws 2))(hO:m.Ok t)(ht:t<=2000000)(mr:sp p (word ws 1)+(p.ak (word ws 2)).2<=24)(hf:f.owns=true):
  Calls Tryz.prog 94 #[.pointer (some ⟨x,0,none⟩),.slice (some ⟨gw,0,none⟩) ws.length cw] w fun e w'=>e=.returned (.tuple #[])/\cd w0 x f w' (m.aS f p al ws):=by
 have HG:Hid (m.aS f p al ws=m.owned p ws):=by unfold Hid RM.aS;simp only[hw,hf];rfl
 have la:(ws.length:Int)=3:=by omega
 have y0:=hR.on h (j:=0) (by omega);rw[hw]at y0;have KA:=DC (cw:=cw) hC h hR hn h1 h2 (by rw[hw];decide) hO ht mr;rw[hn]at KA;obtain⟨vb,vt,hV⟩:=h;obtain⟨c0,c1,c2,c3,c4,c5,c6,c7,c8,c9⟩:=hV.facts;rw[hf]at c1;go_enter Tryz.func94,Tryz.ntmps94
 go_wp2_with (go_at_call 154;refine KA.mono ?_;rintro e w2 ⟨rfl,hM⟩)
 go_end0
 exact⟨rfl,by rw[HG.out];exact hM⟩
end
end Mac
namespace Mac
open Go Go.RowKit Sq Aux PrjJ PrjK PrjL PrjM Go.Proofs.YtmlgajhhnojdjaaGreatDoor.Own RefRa RefP RefC
section
variable {w0 w w1 w2 w3:World} {x gw cw:Nat} {f:Fx} {m:RM} {p:RP} {ws:List B} {t:Nat} {vb vt:Value} {al:List Int}
set_option maxRecDepth 20000 in
set_option maxHeartbeats 2000000 in
theorem NO (hC:Ctx w0 p f)(h:cd w0 x f w m)(hR:Row w0 ws gw)(hn:ws.length=2)(hw:word ws 0=[100,114,111,112])(h1:Wd p (word ws 1))(hO:m.Ok t)(ht:t<=2000000):
  Calls Tryz.prog 94 #[.pointer (some ⟨x,0,none⟩),.slice (some ⟨gw,0,none⟩) ws.length cw] w fun e w'=>e=.returned (.tuple #[])/\cd w0 x f w' (m.aS f p al ws):=by
 have HG:Hid (m.aS f p al ws=m.drop p (word ws 1)):=by unfold Hid RM.aS;simp only[hw];rfl
 have la:(ws.length:Int)=2:=by omega
 have y0:=hR.on h (j:=0) (by omega);rw[hw]at y0;have y1:=hR.on h (j:=1) (by omega);have KA:=fY hC h h1 hO (by omega);go_enter Tryz.func94,Tryz.ntmps94
 go_wp2_with (go_at_call 148;refine KA.mono ?_;rintro e w2 ⟨rfl,hM⟩)
 go_end0
 exact⟨rfl,by rw[HG.out];exact hM⟩
end
end Mac
namespace Mac
open Go Go.RowKit Sq Aux PrjJ PrjK PrjL PrjM Go.Proofs.YtmlgajhhnojdjaaGreatDoor.Own RefRa RefP RefC
section
variable {w0 w w1 w2 w3:World} {x gw cw:Nat} {f:Fx} {m:RM} {p:RP} {ws:List B} {t:Nat} {vb vt:Value} {al:List Int}
set_option maxRecDepth 20000 in
set_option maxHeartbeats 2000000 in
theorem NR (hC:Ctx w0 p f)(h:cd w0 x f w m)(hR:Row w0 ws gw)(hn:ws.length=2)(hw:word ws 0=[110,111,110,101])(h1:Wd p (word ws 1))(hO:m.Ok t)(ht:t<=2000000)(hf:f.owns=true):
  Calls Tryz.prog 94 #[.pointer (some ⟨x,0,none⟩),.slice (some ⟨gw,0,none⟩) ws.length cw] w fun e w'=>e=.returned (.tuple #[])/\cd w0 x f w' (m.aS f p al ws):=by
 have HG:Hid (m.aS f p al ws=m.none f p ws):=by unfold Hid RM.aS;simp only[hw];rfl
 have la:(ws.length:Int)=2:=by omega
 have y0:=hR.on h (j:=0) (by omega);rw[hw]at y0;have HX:Hid (m.none f p ws={m.drop p (word ws 1)with ba:=(m.drop p (word ws 1)).ba.set (sp p (word ws 1)) 110}):=by unfold Hid RM.none;simp only;rw[jb hf]
 have y1:=hR.on h (j:=1) (by omega);have KA:=fY hC h h1 hO (by omega);obtain⟨hi,-⟩:=h1.lt hC.aW;have i1:((sp p (word ws 1):Nat):Int)<24:=by omega
 obtain⟨vb,vt,hV⟩:=h;obtain⟨c0,c1,c2,c3,c4,c5,c6,c7,c8,c9⟩:=hV.facts;rw[hf]at c1;go_enter Tryz.func94,Tryz.ntmps94
 go_upto_region 31 with(go_at_call 148;refine KA.mono ?_;rintro e w2 ⟨rfl,hM⟩;have y2:=hR.on hM (j:=1) (by omega);have KS:=fc hC (hM.below ((Below.refl w2.heap.size w2).drew)) h1)
 go_region_law (go_simp;go_at_call 149;refine KS.mono ?_;rintro e w3 ⟨rfl,vb3,vt3,qt⟩;obtain⟨a1,a2⟩:=qt.qn hi;have N9:=qt.pX hi 110)
 all_goals go_wp2_with fail
 all_goals go_end0
 all_goals exact⟨rfl,by rw[HG.out,HX.out];exact⟨_,_,N9⟩⟩
end
end Mac
namespace Mac
open Go Go.RowKit Sq Aux PrjJ PrjK PrjL PrjM Go.Proofs.YtmlgajhhnojdjaaGreatDoor.Own RefRa RefP RefC
section
variable {w0 w w1 w2 w3:World} {x gw cw:Nat} {f:Fx} {m:RM} {p:RP} {ws:List B} {t:Nat} {vb vt:Value} {al:List Int}
set_option maxRecDepth 20000 in
set_option maxHeartbeats 2000000 in
theorem Uv (hC:Ctx w0 p f)(h:cd w0 x f w m)(hR:Row w0 ws gw)(hn:ws.length=2)(hw:word ws 0=[105,110])(h1:Wd p (word ws 1))(hF:bY w0 f.vi al)(hu:m.used<al.length)(hO:m.Ok t)(ht:t<=2000000):
  Calls Tryz.prog 94 #[.pointer (some ⟨x,0,none⟩),.slice (some ⟨gw,0,none⟩) ws.length cw] w fun e w'=>e=.returned (.tuple #[])/\cd w0 x f w' (m.aS f p al ws):=by
 have HG:Hid (m.aS f p al ws=m.input p al ws):=by unfold Hid RM.aS;simp only[hw];rfl
 have la:(ws.length:Int)=2:=by omega
 have y0:=hR.on h (j:=0) (by omega);rw[hw]at y0;obtain⟨ad,cp,hvi,tn,Dh,aD⟩:=hF;obtain⟨g,fo,rfl,hg,hc⟩:=aD _ hu;obtain⟨vb,vt,hV⟩:=h;have q1:=(hV.br.cell (p:=⟨g,fo+m.used,none⟩) hg).trans hc;obtain⟨c0,c1,c2,c3,c4,c5,c6,c7,c8,c9⟩:=hV.facts;obtain⟨f1,f2,f3,f4,f5,f6⟩:=hV.eB;rw[hvi]at c6;have hub:=hO.used;have i1:((m.used:Nat):Int)<al.length:=by omega
 have TZ:al.getD m.used 0=al[m.used]:=by rw[jA,jB hu];rfl
 go_enter Tryz.func94,Tryz.ntmps94
 go_upto_region 11 with fail
 go_quiet (fail)
 have Kd:bO w0 x f (w.drewN nq) m vb vt:=hV.below (below_drewN (Below.refl _ _) _);have q2:(w.drewN nq).cell? ⟨g,fo+m.used,none⟩=some (.int .i64 (al.getD m.used 0)):=(Kd.br.cell (p:=⟨g,fo+m.used,none⟩) hg).trans hc;clear hV q1 c0 c1 c2 c3 c4 c5 c6 c7 c8 c9 f1 f2 f3 f4 f5 f6;generalize w.drewN nq=wq at*;obtain⟨c0,c1,c2,c3,c4,c5,c6,c7,c8,c9⟩:=Kd.facts;rw[hvi]at c6;go_upto_region 12 with fail
 go_quiet (fail)
 have Xl:bO w0 x f (wq.drewN nq) m vb vt:=Kd.below (below_drewN (Below.refl _ _) _);clear Kd q2 c0 c1 c2 c3 c4 c5 c6 c7 c8 c9;generalize wq.drewN nq=wz at*;obtain⟨c0,c1,c2,c3,c4,c5,c6,c7,c8,c9⟩:=Xl.facts;obtain⟨f1,f2,f3,f4,f5,f6⟩:=Xl.eB;have eR:bO w0 x f (wz.setCell ⟨x,153,none⟩ (.int .i64 ((m.used:Int)+1))) {m with used:=m.used+1} vb vt:=by
  have h9:=Xl.Ni (m.used+1);rw[show((m.used+1:Nat):Int)=(m.used:Int)+1 from by omega]at h9;exact h9
 have y1:=hR.at eR (j:=1) (by omega);have KB:=qE hC ⟨_,_,eR⟩ h1 al[m.used];go_wp2_with (go_at_call 150;refine KB.mono ?_;rintro e w2 ⟨rfl,hM⟩)
 go_end0
 refine⟨rfl,?_⟩;rw[HG.out];unfold RM.input;rw[TZ];exact hM
end
end Mac
namespace Mac
open Go Go.RowKit Sq Aux PrjJ PrjK PrjL PrjM Go.Proofs.YtmlgajhhnojdjaaGreatDoor.Own RefRa RefP RefC
section
variable {w0 w w1 w2 w3:World} {x gw cw:Nat} {f:Fx} {m:RM} {p:RP} {ws:List B} {t:Nat} {vb vt:Value} {al:List Int}
set_option maxRecDepth 20000 in
set_option maxHeartbeats 2000000 in
theorem QI (hC:Ctx w0 p f)(h:cd w0 x f w m)(hR:Row w0 ws gw)(hn:ws.length=2)(hw:word ws 0=[105,110])(h1:Wd p (word ws 1))(hF:bY w0 f.vi al)(hu:¬m.used<al.length)(hO:m.Ok t)(ht:t<=2000000):
  Calls Tryz.prog 94 #[.pointer (some ⟨x,0,none⟩),.slice (some ⟨gw,0,none⟩) ws.length cw] w fun e w'=>e=.returned (.tuple #[])/\cd w0 x f w' (m.aS f p al ws):=by
 have HG:Hid (m.aS f p al ws=m.input p al ws):=by unfold Hid RM.aS;simp only[hw];rfl
 have la:(ws.length:Int)=2:=by omega
 have y0:=hR.on h (j:=0) (by omega);rw[hw]at y0;obtain⟨ad,cp,hvi,tn,Dh,aD⟩:=hF;obtain⟨vb,vt,hV⟩:=h;obtain⟨c0,c1,c2,c3,c4,c5,c6,c7,c8,c9⟩:=hV.facts;rw[hvi]at c6;have hub:=hO.used;have i1:¬((m.used:Nat):Int)<al.length:=by omega
 have TZ:al.getD m.used 0=0:=by rw[jA,jG (by omega)];rfl
 go_enter Tryz.func94,Tryz.ntmps94
 go_upto_region 11 with fail
 go_quiet (fail)
 have Xl:bO w0 x f (w.drewN nq) m vb vt:=hV.below (below_drewN (Below.refl _ _) _);clear hV c0 c1 c2 c3 c4 c5 c6 c7 c8 c9;generalize w.drewN nq=wz at*;obtain⟨c0,c1,c2,c3,c4,c5,c6,c7,c8,c9⟩:=Xl.facts;obtain⟨f1,f2,f3,f4,f5,f6⟩:=Xl.eB;have eR:bO w0 x f (wz.setCell ⟨x,153,none⟩ (.int .i64 ((m.used:Int)+1))) {m with used:=m.used+1} vb vt:=by
  have h9:=Xl.Ni (m.used+1);rw[show((m.used+1:Nat):Int)=(m.used:Int)+1 from by omega]at h9;exact h9
 have y1:=hR.at eR (j:=1) (by omega);have KB:=qE hC ⟨_,_,eR⟩ h1 0;go_wp2_with (go_at_call 150;refine KB.mono ?_;rintro e w2 ⟨rfl,hM⟩)
 go_end0
 refine⟨rfl,?_⟩;rw[HG.out];unfold RM.input;rw[TZ];exact hM
end
end Mac
namespace Mac
open Go Go.RowKit Sq Aux PrjJ PrjK PrjL PrjM Go.Proofs.YtmlgajhhnojdjaaGreatDoor.Own RefRa RefP
section
variable {w0 w w1 w2 w3:World} {x gw cw:Nat} {f:Fx} {m:RM} {p:RP} {ws:List B} {t:Nat} {vb vt:Value}
set_option maxRecDepth 20000 in
set_option maxHeartbeats 2000000 in
theorem Gk (hC:Ctx w0 p f)(h:cd w0 x f w m)(hR:Row w0 ws gw)(hn:ws.length=2)(h1:Wd p (word ws 1))(hh:¬m.has.getD (sp p (word ws 1)) false=true):
  Calls Tryz.prog 92 #[.pointer (some ⟨x,0,none⟩),.slice (some ⟨gw,0,none⟩) ws.length cw] w fun e w'=>e=.returned (.tuple #[])/\cd w0 x f w' (m.finish f p ws):=by
 have HG:Hid (m.finish f p ws={m with out:=5}):=by unfold Hid RM.finish;simp only;rw[kQ hh,jb (by simp)]
 have la:(ws.length:Int)=2:=by omega
 have y1:=hR.on h (j:=1) (by omega);have KI:=cN hC h h1;rw[kQ hh]at KI;go_enter Tryz.func92,Tryz.ntmps92
 go_wp2_with (go_at_call 147;refine KI.mono ?_;rintro e w1 ⟨rfl,vb1,vt1,lf⟩;obtain⟨c0,c1,c2,c3,c4,c5,c6,c7,c8,c9⟩:=lf.facts)
 try simp only[Exit.inBlock,Exit.then]
 refine bodyPost_ret (results_none rfl _ _ _) rfl ?_;exact⟨rfl,by rw[HG.out];exact⟨_,_,lf⟩⟩
structure VZ (p:RP):Prop where
 name:∀j,j<p.lets.length->Wd p (word (p.line (p.lets.getD j 0)) 1)
set_option maxRecDepth 20000 in
set_option maxHeartbeats 2000000 in
theorem J3 (hC:Ctx w0 p f)(h:cd w0 x f w m)(hR:Row w0 ws gw)(hn:ws.length=2)(h1:Wd p (word ws 1))(hh:m.has.getD (sp p (word ws 1)) false=true)(h0:m.out=0)(hf:f.owns=true)(hL:VZ p)(hO:m.Ok t)(ht:t<=1000000):
  Calls Tryz.prog 92 #[.pointer (some ⟨x,0,none⟩),.slice (some ⟨gw,0,none⟩) ws.length cw] w fun e w'=>e=.returned (.tuple #[])/\cd w0 x f w' (m.finish f p ws):=by
 have HG:Hid (m.finish f p ws=RM.fA p p.lets.length {m with out:=1,value:=m.int (sp p (word ws 1))}):=by unfold Hid RM.finish;simp only;rw[gZ hh,ja (by rw[h0];decide),jb hf]
 have la:(ws.length:Int)=2:=by omega
 have y1:=hR.on h (j:=1) (by omega);have KI:=cN hC h h1;rw[gZ hh]at KI;go_enter Tryz.func92,Tryz.ntmps92
 go_wp2_with (go_at_call 147;refine KI.mono ?_;rintro e w1 ⟨rfl,vb1,vt1,lf⟩;obtain⟨c0,c1,c2,c3,c4,c5,c6,c7,c8,c9⟩:=lf.facts;rw[h0]at c8;obtain⟨f1,f2,f3,f4,f5,f6⟩:=lf.eB;have eR:=lf.tG 1;have qt:=eR.setValue (m.int (sp p (word ws 1)));obtain⟨lb,lc,l1⟩:=(hC.prog.below qt.br).q9;obtain⟨d0,d1,d2,d3,d4,d5,d6,d7,d8,d9⟩:=qt.facts;obtain⟨lb0,lc0,l0⟩:=(hC.prog.below lf.br).q9)
 have HM:Hid (cd w0 x f ((w1.setCell ⟨x,154,none⟩ (.int .i64 1)).setCell ⟨x,155,none⟩ (.int .i64 (m.int (sp p (word ws 1))))) {m with out:=1,value:=m.int (sp p (word ws 1))}):=⟨_,_,qt⟩;have hOm:RM.Ok {m with out:=1,value:=m.int (sp p (word ws 1))} t:=⟨hO.ints,hO.held,hO.zr,hO.boxes,hO.trace,hO.count,hO.used⟩;have cg:=hC.aW;clear c0 c1 c2 c3 c4 c5 c6 c7 c8 c9 f1 f2 f3 f4 f5 f6 d0 d1 d2 d3 d4 d5 d6 d7 d8 d9 l0 l1 lf eR qt KI hO h0 hh;generalize ({m with out:=1,value:=m.int (sp p (word ws 1))}:RM)=mm at*;go_loopw [5,6] (fun v5 _v6 wr=>∃(k:Nat) (mk:RM),k<=p.lets.length/\v5=.int .i64 ((k:Int)-1)/\Hid (cd w0 x f wr mk)/\mk.Ok (t+2*(p.lets.length-k))/\Hid (RM.fA p k mk=RM.fA p p.lets.length mm)) (fun v _ _=>(intOf v+1).toNat)
 case atStart=>exact⟨p.lets.length,mm,jC _,by congr 1;unfold wrap64;omega,HM,by simpa using hOm,rfl⟩
 case round=>
  obtain⟨k,mk,hk,rfl,HK,hOk,HE⟩:=hrel;clear HM;obtain⟨vb,vt,hV⟩:=HK.out;obtain⟨c0,c1,c2,c3,c4,c5,c6,c7,c8,c9⟩:=hV.facts;rw[hf]at c1;cases k with
  |zero=>
   have i1:¬(0:Int)<=((0:Nat):Int)-1:=by omega
   go_wp2_with fail
   go_end0
   refine⟨rfl,?_⟩;rw[HG.out,<-HE.out];exact HK.out
  |succ k=>
   have i1:((k+1:Nat):Int)-1=(k:Int):=by omega
   rw[i1];have HP:=hC.prog.below hV.br;obtain⟨aL,h3⟩:=hC.ok.lets (p.lets.getD k 0) (by rw[jA,jB (by omega)];exact jL _);obtain⟨g,cap,l1,l2,l3⟩:=HP.EK k (by omega);obtain⟨gg,cap2,gl,dt,k1,k2,k3,k4,k5⟩:=HP.gH (p.lets.getD k 0) aL;have k6:=k5 1 (by omega);have k7:=k5 2 (by omega);rw[h3]at k3;have yW:=hL.name k (by omega);have ly:=hC.ok.size;have vE:Hid (RM.fA p (k+1) mk=RM.fA p k (if word (p.line (p.lets.getD k 0)) 2=mN then mk else mk.drop p (word (p.line (p.lets.getD k 0)) 1))):=rfl;have HOK:Hid (mk.Ok (t+2*(p.lets.length-(k+1)))):=hOk;have HOD:Hid ((mk.drop p (word (p.line (p.lets.getD k 0)) 1)).Ok (t+2*(p.lets.length-(k+1))+2)):=hOk.drop (by omega) yW cg;generalize p.lets.getD k 0=li at*;have i2:((k:Nat):Int)<p.lets.length:=by omega
   have i3:((li:Nat):Int)<p.lines.length:=by omega
   clear k5;by_cases qv:word (p.line li) 2=mN
   ·rw[qv]at k7;go_upto_region 7 with fail
    go_quiet (fail)
    have Kd:bO w0 x f (wr.drewN nq) mk vb vt:=hV.below (below_drewN (Below.refl _ _) _);go_wp2_with fail
    refine⟨⟨k,mk,by omega,by go_num,⟨_,_,Kd⟩,HOK.out.mono (by omega),?_⟩,by simp only[intOf];omega⟩;rw[<-HE.out,vE.out,jb qv];rfl
   ·have ec:¬word (p.line li) 2=[105,110,116]:=qv;go_upto_region 7 with fail
    go_quiet (fail)
    have Kd:bO w0 x f (wr.drewN nq) mk vb vt:=hV.below (below_drewN (Below.refl _ _) _);have KD:=fY hC ⟨_,_,Kd⟩ yW hOk (by omega);go_wp2_with (go_at_call 148;refine KD.mono ?_;rintro e w9 ⟨rfl,xN⟩)
    ·refine⟨⟨k,mk.drop p (word (p.line li) 1),by omega,by go_num,xN,HOD.out.mono (by omega),?_⟩,by simp only[intOf];omega⟩;rw[<-HE.out,vE.out,ja qv];rfl
    ·exfalso;exact ec (by simpa using‹(!word (p.line li) 2==[105,110,116])=false›)
end
end Mac
namespace Mac
open Go Go.RowKit Sq Aux Go.Proofs.YtmlgajhhnojdjaaGreatDoor.Own RefRa
section
variable {f:Fx} {m:RM} {p:RP} {ws:List B} {t:Nat} {al:List Int} {l:B}
theorem Ga (m:RM)(c:UInt8)(k:Nat):(m.ee c k).boxes.length=m.boxes.length:=by
 unfold RM.ee RM.free;simp only;split
 ·split
  ·rfl
  ·simp[RM.note]
 ·rfl
theorem yO (m:RM)(c:UInt8)(k:Nat):∀n,(m.mh c k n).boxes.length=m.boxes.length
 |0=>rfl
 |n+1=>(Ga _ c (k+n)).trans (yO m c k n)
theorem sR (m:RM)(c:UInt8)(i:Nat):∀n,(m.dc c i n).boxes=m.boxes
 |0=>rfl
 |n+1=>sR m c i n
theorem RM.Ok.hows (h:m.Ok t)(c:UInt8)(i:Nat):∀n,(m.dc c i n).Ok t
 |0=>h
 |n+1=>(RM.Ok.hows h c i n).ba _
theorem vj (m:RM)(held:List Nat)(ba:List UInt8)(j i:Nat):∀n,(m.cU held ba j i n).boxes=m.boxes
 |0=>rfl
 |n+1=>vj m held ba j i n
theorem RM.Ok.cU (h:m.Ok t){held:List Nat}(hh:∀j,held.getD j 0<=m.boxes.length)(ba:List UInt8)(j i:Nat):∀n,(m.cU held ba j i n).Ok t
 |0=>h
 |n+1=>by
  have ih:=RM.Ok.cU h hh ba j i n;refine⟨ih.ints,fun k=> ?_,ih.zr,ih.boxes,ih.trace,ih.count,ih.used⟩;show((m.cU held ba j i n).held.set (j+n) (held.getD (i+n) 0)).getD k 0<=(m.cU held ba j i n).boxes.length
  rw[jA,jd];split
  ·split
   ·rw[vj];exact hh _
   ·exact jQ _
  ·rw[<-jA];exact ih.held k
theorem RM.Ok.owned (h:m.Ok t)(ht:t+2<=10000000)(h1:Wd p (word ws 1))(cg:p.lets.length<=12):(m.owned p ws).Ok (t+2):=by
 have h2:=(h.hows (dk (word ws 2)) (sp p (word ws 2)) (p.ak (word ws 2)).2).drop ht h1 cg;have h3:=h2.cU (held:=m.held) (fun j=>by
  show _<=(RM.mh _ _ _ _).boxes.length
  rw[yO,sR];exact h.held j) m.ba (sp p (word ws 1)) (sp p (word ws 2)) (p.ak (word ws 2)).2
 unfold RM.owned;simp only;split
 ·exact h3.ba _
 ·exact h3
theorem RM.Ok.arith (h:m.Ok t):(m.arith p ws).Ok t:=by
 unfold RM.arith;simp only;have h1:=(h.bE (sp p (word ws 2))).bE (sp p (word ws 3));split
 ·exact h1
 ·split
  ·exact h1.outs 4
  ·exact h1.be _ (Ar _ _ _)
theorem RM.Ok.new (h:m.Ok t)(ht:t+3<=10000000)(h1:Wd p (word ws 1))(cg:p.lets.length<=12):(m.new f p ws).Ok (t+3):=by
 unfold RM.new;simp only;have h2:=h.bE (sp p (word ws 2));split
 ·exact h2.mono (by omega)
 ·have hv:aO (m.int (sp p (word ws 2))):=h.ints _;split
  ·exact(h2.drop (by omega) h1 cg).made (by omega) _ hv
  ·exact(h2.made (by omega) _ hv).mono (by omega)
theorem RM.Ok.load (h:m.Ok t)(ht:t<=10000000):(m.load p ws).Ok (t+1):=by
 unfold RM.load;simp only;have h1:=h.boxed (sp p (word ws 2));have h2:=oV h (sp p (word ws 2));have h3:=h.boxes;split
 ·exact(h1.note 60 (zN (t:=t) (by omega) (by omega))).be _ (MC h _)
 ·exact h1.mono (by omega)
theorem RM.Ok.tell (h:m.Ok t):(m.tell p ws).Ok (t+1):=by
 unfold RM.tell;simp only;have h1:=h.bE (sp p (word ws 1));split
 ·exact h1.note 111 (h.ints _)
 ·exact h1.mono (by omega)
theorem RM.Ok.input (h:m.Ok t)(hi:∀n∈al,aO n):(m.input p al ws).Ok (t+1):=by
 unfold RM.input;have h1:RM.Ok {m with used:=m.used+1} (t+1):=⟨h.ints,h.held,h.zr,by have:=h.boxes;show m.boxes.length<=_;omega,by have:=h.trace;show m.trace.length<=_;omega,by have:=h.count;show _<=m.count/\m.count<=_;omega,by have:=h.used;show m.used+1<=_;omega⟩;refine h1.be _ ?_;rw[jA];cases e:al[m.used]? with
 |none=>unfold aO;simp
 |some v=>exact hi v (List.mem_of_getElem? e)
theorem RM.Ok.none (h:m.Ok t)(ht:t+2<=10000000)(h1:Wd p (word ws 1))(cg:p.lets.length<=12):(m.none f p ws).Ok (t+2):=by
 unfold RM.none;simp only;split
 ·exact(h.drop ht h1 cg).ba _
 ·exact(h.mono (by omega)).ba _
theorem Ly (m:RM)(i:Nat):(m.bE i).boxes=m.boxes:=by unfold RM.bE;split<;>rfl
theorem FV (m:RM)(i:Nat):(m.boxed i).boxes=m.boxes:=by unfold RM.boxed;split<;>rfl
theorem RM.Ok.store (h:m.Ok t)(ht:t<=10000000):(m.store p ws).Ok (t+1):=by
 unfold RM.store;simp only;have h1:=(h.boxed (sp p (word ws 1))).bE (sp p (word ws 2));have h2:=oV h (sp p (word ws 1));have h3:=h.boxes;split
 ·have h4:=h1.note 62 (n:=((m.named (sp p (word ws 1)):Nat):Int)) (zN (t:=t) (by omega) (by omega));have hb:((m.boxed (sp p (word ws 1))).bE (sp p (word ws 2))).boxes=m.boxes:=(Ly _ _).trans (FV _ _);refine⟨h4.ints,fun j=> ?_,fun j=> ?_,?_,h4.trace,h4.count,h4.used⟩
  ·have:=h4.held j;show _<=(m.boxes.set _ _).length
   rw[List.length_set];have e:(((m.boxed (sp p (word ws 1))).bE (sp p (word ws 2))).note 62 ((m.named (sp p (word ws 1)):Nat):Int)).boxes=m.boxes:=hb;rw[e]at this;exact this
  ·show aO ((m.boxes.set (m.named (sp p (word ws 1))-1) (m.int (sp p (word ws 2)),(m.box (m.named (sp p (word ws 1)))).2)).getD j (0,false)).1
   rw[jA,jd];split
   ·split
    ·exact h.ints _
    ·unfold aO;simp
   ·rw[<-jA];exact h.zr j
  ·show(m.boxes.set _ _).length<=_
   rw[List.length_set];omega
 ·exact h1.mono (by omega)
end
end Mac
namespace Mac
open Go Go.RowKit Sq Aux Go.Proofs.YtmlgajhhnojdjaaGreatDoor.Own RefRa RefZd
structure Ua (p:RP)(f:Fx)(w0:World)(al:List Int)(ws:List B)(gw:Nat):Prop where
 row:Row w0 ws gw
 ctx:Ctx w0 p f
 owns:f.owns=true
 long:∀j,(word ws j).length<=maxLen
 len:ws.length=(behind (word ws 0) false).1.length+1
 has:(behind (word ws 0) false).2=true
 find:∀k,k<(behind (word ws 0) false).1.length->(behind (word ws 0) false).1.getD k 0∈[(105:UInt8),112,109,111,100]->0<=p.find (aj (word ws (k+1)))
 fit:word ws 0=[109,111,118,101]\/word ws 0=[115,111,109,101]->sp p (word ws 1)+(p.ak (word ws 2)).2<=24
 num:aO (kX (word ws 2))
 feed:bY w0 f.vi al
 rk:∀n∈al,aO n
section
variable {w0 w:World} {x gw cw:Nat} {f:Fx} {m:RM} {p:RP} {ws:List B} {t:Nat} {al:List Int}
theorem Ua.wd (h:Ua p f w0 al ws gw){fm:B}(hb:(behind (word ws 0) false).1=fm)(k:Nat)(hk:k<fm.length)(hc:fm.getD k 0∈[(105:UInt8),112,109,111,100]):Wd p (word ws (k+1)):=
 ⟨h.long _,h.find k (by rw[hb];exact hk) (by rw[hb];exact hc)⟩
theorem QM (hD:Ua p f w0 al ws gw)(h:cd w0 x f w m)(he:ends (word ws 0)=false)(h0:m.out=0)(hO:m.Ok t)(ht:t<=2000000):
  Calls Tryz.prog 94 #[.pointer (some ⟨x,0,none⟩),.slice (some ⟨gw,0,none⟩) ws.length cw] w (fun e w'=>e=.returned (.tuple #[])/\cd w0 x f w' (m.aS f p al ws))/\(m.aS f p al ws).Ok (t+3):=by
 have hC:=hD.ctx;have hR:=hD.row;have cg:=hC.aW;have hm:=pq _ hD.has;simp only[l9,List.mem_cons,List.not_mem_nil,or_false]at hm;rcases hm with e|e|e|e|e|e|e|e|e|e|e|e|e|e|e|e|e|e
 ·have hf:(behind (word ws 0) false).1=[105,110]:=by rw[e];rfl
  have hn:ws.length=3:=by rw[hD.len,hf];rfl
  have h1:=hD.wd hf 0 (by simp) (by simp);refine⟨QN hC h hR hn e h1 (hD.long _),?_⟩;have:m.aS f p al ws=m.be (sp p (word ws 1)) (kX (word ws 2)):=by unfold RM.aS;simp only[e];rfl
  rw[this];exact(hO.be _ hD.num).mono (by omega)
 ·have hf:(behind (word ws 0) false).1=[105]:=by rw[e];rfl
  have hn:ws.length=2:=by rw[hD.len,hf];rfl
  have h1:=hD.wd hf 0 (by simp) (by simp);have gD:m.aS f p al ws=m.input p al ws:=by unfold RM.aS;simp only[e];rfl
  refine⟨?_,by rw[gD];exact(hO.input hD.rk).mono (by omega)⟩;by_cases hu:m.used<al.length
  ·exact Uv hC h hR hn e h1 hD.feed hu hO ht
  ·exact QI hC h hR hn e h1 hD.feed hu hO ht
 ·have hf:(behind (word ws 0) false).1=[105,105,105]:=by rw[e];rfl
  have hn:ws.length=4:=by rw[hD.len,hf];rfl
  have gD:m.aS f p al ws=m.arith p ws:=by unfold RM.aS;simp only[e];rfl
  exact⟨QG hC h hR hn e (hD.wd hf 0 (by simp) (by simp)) (hD.wd hf 1 (by simp) (by simp)) (hD.wd hf 2 (by simp) (by simp)),by rw[gD];exact hO.arith.mono (by omega)⟩
 ·have hf:(behind (word ws 0) false).1=[105,105,105]:=by rw[e];rfl
  have hn:ws.length=4:=by rw[hD.len,hf];rfl
  have gD:m.aS f p al ws=m.arith p ws:=by unfold RM.aS;simp only[e];rfl
  exact⟨QO hC h hR hn e (hD.wd hf 0 (by simp) (by simp)) (hD.wd hf 1 (by simp) (by simp)) (hD.wd hf 2 (by simp) (by simp)),by rw[gD];exact hO.arith.mono (by omega)⟩
 ·have hf:(behind (word ws 0) false).1=[105,105,105]:=by rw[e];rfl
  have hn:ws.length=4:=by rw[hD.len,hf];rfl
  have gD:m.aS f p al ws=m.arith p ws:=by unfold RM.aS;simp only[e];rfl
  exact⟨QJ hC h hR hn e (hD.wd hf 0 (by simp) (by simp)) (hD.wd hf 1 (by simp) (by simp)) (hD.wd hf 2 (by simp) (by simp)),by rw[gD];exact hO.arith.mono (by omega)⟩
 ·have hf:(behind (word ws 0) false).1=[105,105,105]:=by rw[e];rfl
  have hn:ws.length=4:=by rw[hD.len,hf];rfl
  have gD:m.aS f p al ws=m.arith p ws:=by unfold RM.aS;simp only[e];rfl
  exact⟨QH hC h hR hn e (hD.wd hf 0 (by simp) (by simp)) (hD.wd hf 1 (by simp) (by simp)) (hD.wd hf 2 (by simp) (by simp)),by rw[gD];exact hO.arith.mono (by omega)⟩
 ·have hf:(behind (word ws 0) false).1=[105]:=by rw[e];rfl
  have hn:ws.length=2:=by rw[hD.len,hf];rfl
  have h1:=hD.wd hf 0 (by simp) (by simp);have gD:m.aS f p al ws=m.tell p ws:=by unfold RM.aS;simp only[e];rfl
  refine⟨?_,by rw[gD];exact hO.tell.mono (by omega)⟩;by_cases hh:m.has.getD (sp p (word ws 1)) false=true
  ·exact QL hC h hR hn e h1 h0 hh hO ht
  ·exact NS hC h hR hn e h1 hh
 ·rw[e]at he;exact absurd he (by decide)
 ·rw[e]at he;exact absurd he (by decide)
 ·rw[e]at he;exact absurd he (by decide)
 ·have hf:(behind (word ws 0) false).1=[112,105]:=by rw[e];rfl
  have hn:ws.length=3:=by rw[hD.len,hf];rfl
  have h1:=hD.wd hf 0 (by simp) (by simp);have gD:m.aS f p al ws=m.new f p ws:=by unfold RM.aS;simp only[e];rfl
  exact⟨QK hC h hR hn e h1 (hD.wd hf 1 (by simp) (by simp)) h0 hO ht,by rw[gD];exact hO.new (by omega) h1 cg⟩
 ·have hf:(behind (word ws 0) false).1=[105,112]:=by rw[e];rfl
  have hn:ws.length=3:=by rw[hD.len,hf];rfl
  have gD:m.aS f p al ws=m.load p ws:=by unfold RM.aS;simp only[e];rfl
  exact⟨NP hC h hR hn e (hD.wd hf 0 (by simp) (by simp)) (hD.wd hf 1 (by simp) (by simp)) h0 hO ht,by rw[gD];exact(hO.load (by omega)).mono (by omega)⟩
 ·have hf:(behind (word ws 0) false).1=[112,105]:=by rw[e];rfl
  have hn:ws.length=3:=by rw[hD.len,hf];rfl
  have gD:m.aS f p al ws=m.store p ws:=by unfold RM.aS;simp only[e];rfl
  exact⟨JW hC h hR hn e (hD.wd hf 0 (by simp) (by simp)) (hD.wd hf 1 (by simp) (by simp)) h0 hO ht,by rw[gD];exact(hO.store (by omega)).mono (by omega)⟩
 ·have hf:(behind (word ws 0) false).1=[111]:=by rw[e];rfl
  have hn:ws.length=2:=by rw[hD.len,hf];rfl
  have h1:=hD.wd hf 0 (by simp) (by simp);have gD:m.aS f p al ws=m.none f p ws:=by unfold RM.aS;simp only[e];rfl
  exact⟨NR hC h hR hn e h1 hO ht hD.owns,by rw[gD];exact(hO.none (by omega) h1 cg).mono (by omega)⟩
 ·have hf:(behind (word ws 0) false).1=[100]:=by rw[e];rfl
  have hn:ws.length=2:=by rw[hD.len,hf];rfl
  have h1:=hD.wd hf 0 (by simp) (by simp);have gD:m.aS f p al ws=m.drop p (word ws 1):=by unfold RM.aS;simp only[e];rfl
  exact⟨NO hC h hR hn e h1 hO ht,by rw[gD];exact(hO.drop (by omega) h1 cg).mono (by omega)⟩
 ·have hf:(behind (word ws 0) false).1=[109,109]:=by rw[e];rfl
  have hn:ws.length=3:=by rw[hD.len,hf];rfl
  have h1:=hD.wd hf 0 (by simp) (by simp);have gD:m.aS f p al ws=m.owned p ws:=by unfold RM.aS;simp only[e,hD.owns];rfl
  exact⟨NQ hC h hR hn e h1 (hD.wd hf 1 (by simp) (by simp)) hO ht (hD.fit (.inl e)) hD.owns,by rw[gD];exact(hO.owned (by omega) h1 cg).mono (by omega)⟩
 ·have hf:(behind (word ws 0) false).1=[111,112]:=by rw[e];rfl
  have hn:ws.length=3:=by rw[hD.len,hf];rfl
  have h1:=hD.wd hf 0 (by simp) (by simp);have gD:m.aS f p al ws=m.owned p ws:=by unfold RM.aS;simp only[e,hD.owns];rfl
  exact⟨NT hC h hR hn e h1 (hD.wd hf 1 (by simp) (by simp)) hO ht (hD.fit (.inr e)) hD.owns,by rw[gD];exact(hO.owned (by omega) h1 cg).mono (by omega)⟩
 ·rw[e]at he;exact absurd he (by decide)
end
end Mac
end Go.Proofs.YtmlgajhhnojdjaaGreatDoor

import Derived.Test.YtmlgajhhnojdjaaGreatDoorRAW
import Derived.Test.YtmlgajhhnojdjaaGreatDoorRBR
namespace Go.Proofs.YtmlgajhhnojdjaaGreatDoor
namespace Mac
open Go Go.RowKit Sq Aux PrjJ PrjK PrjL PrjM Go.Proofs.YtmlgajhhnojdjaaGreatDoor.Own RefRa RefP RefC
section
variable {w0 w w1 w2 w3:World} {x gw cw:Nat} {f:Fx} {m:RM} {p:RP} {ws:List B} {t:Nat} {vb vt:Value} {ak:List Int}
set_option maxRecDepth 20000 in
set_option maxHeartbeats 2000000 in
theorem NS (hC:Ctx w0 p f)(h:ca w0 x f w m)(hR:Row w0 ws gw)(hn:ws.length=3)(hw:word ws 0=[115,111,109,101])(h1:Wd p (word ws 1))(h2:Wd p (word ws 2))(hO:m.Ok t)(ht:t<=2000000)(mq:sp p (word ws 1)+(p.aj (word ws 2)).2<=24)(hf:f.owns=true):
  Calls Tryz.prog 94 #[.pointer (some ⟨x,0,none⟩),.slice (some ⟨gw,0,none⟩) ws.length cw] w fun e w'=>e=.returned (.tuple #[])/\ca w0 x f w' (m.aR f p ak ws):=by
 have HG:Hid (m.aR f p ak ws=m.owned p ws):=by unfold Hid RM.aR;simp only[hw,hf];rfl
 have kZ:(ws.length:Int)=3:=by omega
 have y0:=hR.on h (j:=0) (by omega);rw[hw]at y0;have KA:=DB (cw:=cw) hC h hR hn h1 h2 (by rw[hw];decide) hO ht mq;rw[hn]at KA;obtain⟨vb,vt,hV⟩:=h;obtain⟨c0,c1,c2,c3,c4,c5,c6,c7,c8,c9⟩:=hV.facts;rw[hf]at c1;go_enter Tryz.func94,Tryz.ntmps94
 go_wp2_with (go_at_call 154;refine KA.mono ?_;rintro e w2 ⟨rfl,hM⟩)
 go_end0
 exact⟨rfl,by rw[HG.out];exact hM⟩
end
end Mac
namespace Mac
open Go Go.RowKit Sq Aux PrjJ PrjK PrjL PrjM Go.Proofs.YtmlgajhhnojdjaaGreatDoor.Own RefRa RefP RefC
section
variable {w0 w w1 w2 w3:World} {x gw cw:Nat} {f:Fx} {m:RM} {p:RP} {ws:List B} {t:Nat} {vb vt:Value} {ak:List Int}
set_option maxRecDepth 20000 in
set_option maxHeartbeats 2000000 in
theorem NN (hC:Ctx w0 p f)(h:ca w0 x f w m)(hR:Row w0 ws gw)(hn:ws.length=2)(hw:word ws 0=[100,114,111,112])(h1:Wd p (word ws 1))(hO:m.Ok t)(ht:t<=2000000):
  Calls Tryz.prog 94 #[.pointer (some ⟨x,0,none⟩),.slice (some ⟨gw,0,none⟩) ws.length cw] w fun e w'=>e=.returned (.tuple #[])/\ca w0 x f w' (m.aR f p ak ws):=by
 have HG:Hid (m.aR f p ak ws=m.drop p (word ws 1)):=by unfold Hid RM.aR;simp only[hw];rfl
 have kZ:(ws.length:Int)=2:=by omega
 have y0:=hR.on h (j:=0) (by omega);rw[hw]at y0;have y1:=hR.on h (j:=1) (by omega);have KA:=fX hC h h1 hO (by omega);go_enter Tryz.func94,Tryz.ntmps94
 go_wp2_with (go_at_call 148;refine KA.mono ?_;rintro e w2 ⟨rfl,hM⟩)
 go_end0
 exact⟨rfl,by rw[HG.out];exact hM⟩
end
end Mac
namespace Mac
open Go Go.RowKit Sq Aux PrjJ PrjK PrjL PrjM Go.Proofs.YtmlgajhhnojdjaaGreatDoor.Own RefRa RefP RefC
section
variable {w0 w w1 w2 w3:World} {x gw cw:Nat} {f:Fx} {m:RM} {p:RP} {ws:List B} {t:Nat} {vb vt:Value} {ak:List Int}
set_option maxRecDepth 20000 in
set_option maxHeartbeats 2000000 in
theorem NQ (hC:Ctx w0 p f)(h:ca w0 x f w m)(hR:Row w0 ws gw)(hn:ws.length=2)(hw:word ws 0=[110,111,110,101])(h1:Wd p (word ws 1))(hO:m.Ok t)(ht:t<=2000000)(hf:f.owns=true):
  Calls Tryz.prog 94 #[.pointer (some ⟨x,0,none⟩),.slice (some ⟨gw,0,none⟩) ws.length cw] w fun e w'=>e=.returned (.tuple #[])/\ca w0 x f w' (m.aR f p ak ws):=by
 have HG:Hid (m.aR f p ak ws=m.none f p ws):=by unfold Hid RM.aR;simp only[hw];rfl
 have kZ:(ws.length:Int)=2:=by omega
 have y0:=hR.on h (j:=0) (by omega);rw[hw]at y0;have HX:Hid (m.none f p ws={m.drop p (word ws 1)with aZ:=(m.drop p (word ws 1)).aZ.set (sp p (word ws 1)) 110}):=by unfold Hid RM.none;simp only;rw[jb hf]
 have y1:=hR.on h (j:=1) (by omega);have KA:=fX hC h h1 hO (by omega);obtain⟨hi,-⟩:=h1.lt hC.aV;have i1:((sp p (word ws 1):Nat):Int)<24:=by omega
 obtain⟨vb,vt,hV⟩:=h;obtain⟨c0,c1,c2,c3,c4,c5,c6,c7,c8,c9⟩:=hV.facts;rw[hf]at c1;go_enter Tryz.func94,Tryz.ntmps94
 go_upto_region 31 with(go_at_call 148;refine KA.mono ?_;rintro e w2 ⟨rfl,hM⟩;have y2:=hR.on hM (j:=1) (by omega);have KS:=fb hC (hM.below ((Below.refl w2.heap.size w2).drew)) h1)
 go_region_law (go_simp;go_at_call 149;refine KS.mono ?_;rintro e w3 ⟨rfl,vb3,vt3,qs⟩;obtain⟨a1,a2⟩:=qs.qm hi;have N8:=qs.pW hi 110)
 all_goals go_wp2_with fail
 all_goals go_end0
 all_goals exact⟨rfl,by rw[HG.out,HX.out];exact⟨_,_,N8⟩⟩
end
end Mac
namespace Mac
open Go Go.RowKit Sq Aux PrjJ PrjK PrjL PrjM Go.Proofs.YtmlgajhhnojdjaaGreatDoor.Own RefRa RefP RefC
section
variable {w0 w w1 w2 w3:World} {x gw cw:Nat} {f:Fx} {m:RM} {p:RP} {ws:List B} {t:Nat} {vb vt:Value} {ak:List Int}
set_option maxRecDepth 20000 in
set_option maxHeartbeats 2000000 in
theorem Uu (hC:Ctx w0 p f)(h:ca w0 x f w m)(hR:Row w0 ws gw)(hn:ws.length=2)(hw:word ws 0=[105,110])(h1:Wd p (word ws 1))(hF:bX w0 f.vi ak)(hu:m.used<ak.length)(hO:m.Ok t)(ht:t<=2000000):
  Calls Tryz.prog 94 #[.pointer (some ⟨x,0,none⟩),.slice (some ⟨gw,0,none⟩) ws.length cw] w fun e w'=>e=.returned (.tuple #[])/\ca w0 x f w' (m.aR f p ak ws):=by
 have HG:Hid (m.aR f p ak ws=m.input p ak ws):=by unfold Hid RM.aR;simp only[hw];rfl
 have kZ:(ws.length:Int)=2:=by omega
 have y0:=hR.on h (j:=0) (by omega);rw[hw]at y0;obtain⟨ad,cp,hvi,tm,Dg,aC⟩:=hF;obtain⟨g,fo,rfl,hg,hc⟩:=aC _ hu;obtain⟨vb,vt,hV⟩:=h;have q1:=(hV.bq.cell (p:=⟨g,fo+m.used,none⟩) hg).trans hc;obtain⟨c0,c1,c2,c3,c4,c5,c6,c7,c8,c9⟩:=hV.facts;obtain⟨f1,f2,f3,f4,f5,f6⟩:=hV.eA;rw[hvi]at c6;have hub:=hO.used;have i1:((m.used:Nat):Int)<ak.length:=by omega
 have TY:ak.getD m.used 0=ak[m.used]:=by rw[jA,jB hu];rfl
 go_enter Tryz.func94,Tryz.ntmps94
 go_upto_region 11 with fail
 go_quiet (fail)
 have Kc:bN w0 x f (w.drewN nq) m vb vt:=hV.below (below_drewN (Below.refl _ _) _);have q2:(w.drewN nq).cell? ⟨g,fo+m.used,none⟩=some (.int .i64 (ak.getD m.used 0)):=(Kc.bq.cell (p:=⟨g,fo+m.used,none⟩) hg).trans hc;clear hV q1 c0 c1 c2 c3 c4 c5 c6 c7 c8 c9 f1 f2 f3 f4 f5 f6;generalize w.drewN nq=wq at*;obtain⟨c0,c1,c2,c3,c4,c5,c6,c7,c8,c9⟩:=Kc.facts;rw[hvi]at c6;go_upto_region 12 with fail
 go_quiet (fail)
 have Xk:bN w0 x f (wq.drewN nq) m vb vt:=Kc.below (below_drewN (Below.refl _ _) _);clear Kc q2 c0 c1 c2 c3 c4 c5 c6 c7 c8 c9;generalize wq.drewN nq=wz at*;obtain⟨c0,c1,c2,c3,c4,c5,c6,c7,c8,c9⟩:=Xk.facts;obtain⟨f1,f2,f3,f4,f5,f6⟩:=Xk.eA;have eQ:bN w0 x f (wz.setCell ⟨x,153,none⟩ (.int .i64 ((m.used:Int)+1))) {m with used:=m.used+1} vb vt:=by
  have h9:=Xk.Nh (m.used+1);rw[show((m.used+1:Nat):Int)=(m.used:Int)+1 from by omega]at h9;exact h9
 have y1:=hR.at eQ (j:=1) (by omega);have KB:=qD hC ⟨_,_,eQ⟩ h1 ak[m.used];go_wp2_with (go_at_call 150;refine KB.mono ?_;rintro e w2 ⟨rfl,hM⟩)
 go_end0
 refine⟨rfl,?_⟩;rw[HG.out];unfold RM.input;rw[TY];exact hM
end
end Mac
namespace Mac
open Go Go.RowKit Sq Aux PrjJ PrjK PrjL PrjM Go.Proofs.YtmlgajhhnojdjaaGreatDoor.Own RefRa RefP RefC
section
variable {w0 w w1 w2 w3:World} {x gw cw:Nat} {f:Fx} {m:RM} {p:RP} {ws:List B} {t:Nat} {vb vt:Value} {ak:List Int}
set_option maxRecDepth 20000 in
set_option maxHeartbeats 2000000 in
theorem QH (hC:Ctx w0 p f)(h:ca w0 x f w m)(hR:Row w0 ws gw)(hn:ws.length=2)(hw:word ws 0=[105,110])(h1:Wd p (word ws 1))(hF:bX w0 f.vi ak)(hu:¬m.used<ak.length)(hO:m.Ok t)(ht:t<=2000000):
  Calls Tryz.prog 94 #[.pointer (some ⟨x,0,none⟩),.slice (some ⟨gw,0,none⟩) ws.length cw] w fun e w'=>e=.returned (.tuple #[])/\ca w0 x f w' (m.aR f p ak ws):=by
 have HG:Hid (m.aR f p ak ws=m.input p ak ws):=by unfold Hid RM.aR;simp only[hw];rfl
 have kZ:(ws.length:Int)=2:=by omega
 have y0:=hR.on h (j:=0) (by omega);rw[hw]at y0;obtain⟨ad,cp,hvi,tm,Dg,aC⟩:=hF;obtain⟨vb,vt,hV⟩:=h;obtain⟨c0,c1,c2,c3,c4,c5,c6,c7,c8,c9⟩:=hV.facts;rw[hvi]at c6;have hub:=hO.used;have i1:¬((m.used:Nat):Int)<ak.length:=by omega
 have TY:ak.getD m.used 0=0:=by rw[jA,jG (by omega)];rfl
 go_enter Tryz.func94,Tryz.ntmps94
 go_upto_region 11 with fail
 go_quiet (fail)
 have Xk:bN w0 x f (w.drewN nq) m vb vt:=hV.below (below_drewN (Below.refl _ _) _);clear hV c0 c1 c2 c3 c4 c5 c6 c7 c8 c9;generalize w.drewN nq=wz at*;obtain⟨c0,c1,c2,c3,c4,c5,c6,c7,c8,c9⟩:=Xk.facts;obtain⟨f1,f2,f3,f4,f5,f6⟩:=Xk.eA;have eQ:bN w0 x f (wz.setCell ⟨x,153,none⟩ (.int .i64 ((m.used:Int)+1))) {m with used:=m.used+1} vb vt:=by
  have h9:=Xk.Nh (m.used+1);rw[show((m.used+1:Nat):Int)=(m.used:Int)+1 from by omega]at h9;exact h9
 have y1:=hR.at eQ (j:=1) (by omega);have KB:=qD hC ⟨_,_,eQ⟩ h1 0;go_wp2_with (go_at_call 150;refine KB.mono ?_;rintro e w2 ⟨rfl,hM⟩)
 go_end0
 refine⟨rfl,?_⟩;rw[HG.out];unfold RM.input;rw[TY];exact hM
end
end Mac
namespace Mac
open Go Go.RowKit Sq Aux PrjJ PrjK PrjL PrjM Go.Proofs.YtmlgajhhnojdjaaGreatDoor.Own RefRa RefP
section
variable {w0 w w1 w2 w3:World} {x gw cw:Nat} {f:Fx} {m:RM} {p:RP} {ws:List B} {t:Nat} {vb vt:Value}
set_option maxRecDepth 20000 in
set_option maxHeartbeats 2000000 in
theorem Gj (hC:Ctx w0 p f)(h:ca w0 x f w m)(hR:Row w0 ws gw)(hn:ws.length=2)(h1:Wd p (word ws 1))(hh:¬m.has.getD (sp p (word ws 1)) false=true):
  Calls Tryz.prog 92 #[.pointer (some ⟨x,0,none⟩),.slice (some ⟨gw,0,none⟩) ws.length cw] w fun e w'=>e=.returned (.tuple #[])/\ca w0 x f w' (m.finish f p ws):=by
 have HG:Hid (m.finish f p ws={m with out:=5}):=by unfold Hid RM.finish;simp only;rw[kP hh,jb (by simp)]
 have kZ:(ws.length:Int)=2:=by omega
 have y1:=hR.on h (j:=1) (by omega);have KI:=cM hC h h1;rw[kP hh]at KI;go_enter Tryz.func92,Tryz.ntmps92
 go_wp2_with (go_at_call 147;refine KI.mono ?_;rintro e w1 ⟨rfl,vb1,vt1,ld⟩;obtain⟨c0,c1,c2,c3,c4,c5,c6,c7,c8,c9⟩:=ld.facts)
 try simp only[Exit.inBlock,Exit.then]
 refine bodyPost_ret (results_none rfl _ _ _) rfl ?_;exact⟨rfl,by rw[HG.out];exact⟨_,_,ld⟩⟩
structure VY (p:RP):Prop where
 name:∀j,j<p.lets.length->Wd p (word (p.line (p.lets.getD j 0)) 1)
set_option maxRecDepth 20000 in
set_option maxHeartbeats 2000000 in
theorem J2 (hC:Ctx w0 p f)(h:ca w0 x f w m)(hR:Row w0 ws gw)(hn:ws.length=2)(h1:Wd p (word ws 1))(hh:m.has.getD (sp p (word ws 1)) false=true)(h0:m.out=0)(hf:f.owns=true)(hL:VY p)(hO:m.Ok t)(ht:t<=1000000):
  Calls Tryz.prog 92 #[.pointer (some ⟨x,0,none⟩),.slice (some ⟨gw,0,none⟩) ws.length cw] w fun e w'=>e=.returned (.tuple #[])/\ca w0 x f w' (m.finish f p ws):=by
 have HG:Hid (m.finish f p ws=RM.fz p p.lets.length {m with out:=1,value:=m.int (sp p (word ws 1))}):=by unfold Hid RM.finish;simp only;rw[gY hh,ja (by rw[h0];decide),jb hf]
 have kZ:(ws.length:Int)=2:=by omega
 have y1:=hR.on h (j:=1) (by omega);have KI:=cM hC h h1;rw[gY hh]at KI;go_enter Tryz.func92,Tryz.ntmps92
 go_wp2_with (go_at_call 147;refine KI.mono ?_;rintro e w1 ⟨rfl,vb1,vt1,ld⟩;obtain⟨c0,c1,c2,c3,c4,c5,c6,c7,c8,c9⟩:=ld.facts;rw[h0]at c8;obtain⟨f1,f2,f3,f4,f5,f6⟩:=ld.eA;have eQ:=ld.tF 1;have qs:=eQ.setValue (m.int (sp p (word ws 1)));obtain⟨lb,lc,l1⟩:=(hC.prog.below qs.bq).q8;obtain⟨d0,d1,d2,d3,d4,d5,d6,d7,d8,d9⟩:=qs.facts;obtain⟨lb0,lc0,l0⟩:=(hC.prog.below ld.bq).q8)
 have HM:Hid (ca w0 x f ((w1.setCell ⟨x,154,none⟩ (.int .i64 1)).setCell ⟨x,155,none⟩ (.int .i64 (m.int (sp p (word ws 1))))) {m with out:=1,value:=m.int (sp p (word ws 1))}):=⟨_,_,qs⟩;have hOm:RM.Ok {m with out:=1,value:=m.int (sp p (word ws 1))} t:=⟨hO.ints,hO.held,hO.zq,hO.boxes,hO.trace,hO.count,hO.used⟩;have cf:=hC.aV;clear c0 c1 c2 c3 c4 c5 c6 c7 c8 c9 f1 f2 f3 f4 f5 f6 d0 d1 d2 d3 d4 d5 d6 d7 d8 d9 l0 l1 ld eQ qs KI hO h0 hh;generalize ({m with out:=1,value:=m.int (sp p (word ws 1))}:RM)=mm at*;go_loopw [5,6] (fun v5 _v6 wr=>∃(k:Nat) (mk:RM),k<=p.lets.length/\v5=.int .i64 ((k:Int)-1)/\Hid (ca w0 x f wr mk)/\mk.Ok (t+2*(p.lets.length-k))/\Hid (RM.fz p k mk=RM.fz p p.lets.length mm)) (fun v _ _=>(intOf v+1).toNat)
 case atStart=>exact⟨p.lets.length,mm,jC _,by congr 1;unfold wrap64;omega,HM,by simpa using hOm,rfl⟩
 case round=>
  obtain⟨k,mk,hk,rfl,HK,hOk,HE⟩:=hrel;clear HM;obtain⟨vb,vt,hV⟩:=HK.out;obtain⟨c0,c1,c2,c3,c4,c5,c6,c7,c8,c9⟩:=hV.facts;rw[hf]at c1;cases k with
  |zero=>
   have i1:¬(0:Int)<=((0:Nat):Int)-1:=by omega
   go_wp2_with fail
   go_end0
   refine⟨rfl,?_⟩;rw[HG.out,<-HE.out];exact HK.out
  |succ k=>
   have i1:((k+1:Nat):Int)-1=(k:Int):=by omega
   rw[i1];have HP:=hC.prog.below hV.bq;obtain⟨aK,h3⟩:=hC.ok.lets (p.lets.getD k 0) (by rw[jA,jB (by omega)];exact jL _);obtain⟨g,cap,l1,l2,l3⟩:=HP.EJ k (by omega);obtain⟨gg,cap2,gl,dr,k1,k2,k3,k4,k5⟩:=HP.gG (p.lets.getD k 0) aK;have k6:=k5 1 (by omega);have k7:=k5 2 (by omega);rw[h3]at k3;have yV:=hL.name k (by omega);have lx:=hC.ok.size;have vD:Hid (RM.fz p (k+1) mk=RM.fz p k (if word (p.line (p.lets.getD k 0)) 2=mM then mk else mk.drop p (word (p.line (p.lets.getD k 0)) 1))):=rfl;have HOK:Hid (mk.Ok (t+2*(p.lets.length-(k+1)))):=hOk;have HOD:Hid ((mk.drop p (word (p.line (p.lets.getD k 0)) 1)).Ok (t+2*(p.lets.length-(k+1))+2)):=hOk.drop (by omega) yV cf;generalize p.lets.getD k 0=li at*;have i2:((k:Nat):Int)<p.lets.length:=by omega
   have i3:((li:Nat):Int)<p.lines.length:=by omega
   clear k5;by_cases qu:word (p.line li) 2=mM
   ·rw[qu]at k7;go_upto_region 7 with fail
    go_quiet (fail)
    have Kc:bN w0 x f (wr.drewN nq) mk vb vt:=hV.below (below_drewN (Below.refl _ _) _);go_wp2_with fail
    refine⟨⟨k,mk,by omega,by go_num,⟨_,_,Kc⟩,HOK.out.mono (by omega),?_⟩,by simp only[intOf];omega⟩;rw[<-HE.out,vD.out,jb qu];rfl
   ·have ea:¬word (p.line li) 2=[105,110,116]:=qu;go_upto_region 7 with fail
    go_quiet (fail)
    have Kc:bN w0 x f (wr.drewN nq) mk vb vt:=hV.below (below_drewN (Below.refl _ _) _);have KD:=fX hC ⟨_,_,Kc⟩ yV hOk (by omega);go_wp2_with (go_at_call 148;refine KD.mono ?_;rintro e w9 ⟨rfl,xM⟩)
    ·refine⟨⟨k,mk.drop p (word (p.line li) 1),by omega,by go_num,xM,HOD.out.mono (by omega),?_⟩,by simp only[intOf];omega⟩;rw[<-HE.out,vD.out,ja qu];rfl
    ·exfalso;exact ea (by simpa using‹(!word (p.line li) 2==[105,110,116])=false›)
end
end Mac
namespace Mac
open Go Go.RowKit Sq Aux Go.Proofs.YtmlgajhhnojdjaaGreatDoor.Own RefRa
section
variable {f:Fx} {m:RM} {p:RP} {ws:List B} {t:Nat} {ak:List Int} {l:B}
theorem F9 (m:RM)(c:UInt8)(k:Nat):(m.ed c k).boxes.length=m.boxes.length:=by
 unfold RM.ed RM.free;simp only;split
 ·split
  ·rfl
  ·simp[RM.note]
 ·rfl
theorem yN (m:RM)(c:UInt8)(k:Nat):∀n,(m.mg c k n).boxes.length=m.boxes.length
 |0=>rfl
 |n+1=>(F9 _ c (k+n)).trans (yN m c k n)
theorem sQ (m:RM)(c:UInt8)(i:Nat):∀n,(m.db c i n).boxes=m.boxes
 |0=>rfl
 |n+1=>sQ m c i n
theorem RM.Ok.hows (h:m.Ok t)(c:UInt8)(i:Nat):∀n,(m.db c i n).Ok t
 |0=>h
 |n+1=>(RM.Ok.hows h c i n).aZ _
theorem vh (m:RM)(held:List Nat)(aZ:List UInt8)(j i:Nat):∀n,(m.cT held aZ j i n).boxes=m.boxes
 |0=>rfl
 |n+1=>vh m held aZ j i n
theorem RM.Ok.cT (h:m.Ok t){held:List Nat}(hh:∀j,held.getD j 0<=m.boxes.length)(aZ:List UInt8)(j i:Nat):∀n,(m.cT held aZ j i n).Ok t
 |0=>h
 |n+1=>by
  have ih:=RM.Ok.cT h hh aZ j i n;refine⟨ih.ints,fun k=> ?_,ih.zq,ih.boxes,ih.trace,ih.count,ih.used⟩;show((m.cT held aZ j i n).held.set (j+n) (held.getD (i+n) 0)).getD k 0<=(m.cT held aZ j i n).boxes.length
  rw[jA,jd];split
  ·split
   ·rw[vh];exact hh _
   ·exact jQ _
  ·rw[<-jA];exact ih.held k
theorem RM.Ok.owned (h:m.Ok t)(ht:t+2<=10000000)(h1:Wd p (word ws 1))(cf:p.lets.length<=12):(m.owned p ws).Ok (t+2):=by
 have h2:=(h.hows (dj (word ws 2)) (sp p (word ws 2)) (p.aj (word ws 2)).2).drop ht h1 cf;have h3:=h2.cT (held:=m.held) (fun j=>by
  show _<=(RM.mg _ _ _ _).boxes.length
  rw[yN,sQ];exact h.held j) m.aZ (sp p (word ws 1)) (sp p (word ws 2)) (p.aj (word ws 2)).2
 unfold RM.owned;simp only;split
 ·exact h3.aZ _
 ·exact h3
theorem RM.Ok.arith (h:m.Ok t):(m.arith p ws).Ok t:=by
 unfold RM.arith;simp only;have h1:=(h.bD (sp p (word ws 2))).bD (sp p (word ws 3));split
 ·exact h1
 ·split
  ·exact h1.outs 4
  ·exact h1.be _ (Aq _ _ _)
theorem RM.Ok.new (h:m.Ok t)(ht:t+3<=10000000)(h1:Wd p (word ws 1))(cf:p.lets.length<=12):(m.new f p ws).Ok (t+3):=by
 unfold RM.new;simp only;have h2:=h.bD (sp p (word ws 2));split
 ·exact h2.mono (by omega)
 ·have hv:aN (m.int (sp p (word ws 2))):=h.ints _;split
  ·exact(h2.drop (by omega) h1 cf).made (by omega) _ hv
  ·exact(h2.made (by omega) _ hv).mono (by omega)
theorem RM.Ok.load (h:m.Ok t)(ht:t<=10000000):(m.load p ws).Ok (t+1):=by
 unfold RM.load;simp only;have h1:=h.boxed (sp p (word ws 2));have h2:=oU h (sp p (word ws 2));have h3:=h.boxes;split
 ·exact(h1.note 60 (zM (t:=t) (by omega) (by omega))).be _ (MB h _)
 ·exact h1.mono (by omega)
theorem RM.Ok.tell (h:m.Ok t):(m.tell p ws).Ok (t+1):=by
 unfold RM.tell;simp only;have h1:=h.bD (sp p (word ws 1));split
 ·exact h1.note 111 (h.ints _)
 ·exact h1.mono (by omega)
theorem RM.Ok.input (h:m.Ok t)(hi:∀n∈ak,aN n):(m.input p ak ws).Ok (t+1):=by
 unfold RM.input;have h1:RM.Ok {m with used:=m.used+1} (t+1):=⟨h.ints,h.held,h.zq,by have:=h.boxes;show m.boxes.length<=_;omega,by have:=h.trace;show m.trace.length<=_;omega,by have:=h.count;show _<=m.count/\m.count<=_;omega,by have:=h.used;show m.used+1<=_;omega⟩;refine h1.be _ ?_;rw[jA];cases e:ak[m.used]? with
 |none=>unfold aN;simp
 |some v=>exact hi v (List.mem_of_getElem? e)
theorem RM.Ok.none (h:m.Ok t)(ht:t+2<=10000000)(h1:Wd p (word ws 1))(cf:p.lets.length<=12):(m.none f p ws).Ok (t+2):=by
 unfold RM.none;simp only;split
 ·exact(h.drop ht h1 cf).aZ _
 ·exact(h.mono (by omega)).aZ _
theorem Lx (m:RM)(i:Nat):(m.bD i).boxes=m.boxes:=by unfold RM.bD;split<;>rfl
theorem FU (m:RM)(i:Nat):(m.boxed i).boxes=m.boxes:=by unfold RM.boxed;split<;>rfl
theorem RM.Ok.store (h:m.Ok t)(ht:t<=10000000):(m.store p ws).Ok (t+1):=by
 unfold RM.store;simp only;have h1:=(h.boxed (sp p (word ws 1))).bD (sp p (word ws 2));have h2:=oU h (sp p (word ws 1));have h3:=h.boxes;split
 ·have h4:=h1.note 62 (n:=((m.named (sp p (word ws 1)):Nat):Int)) (zM (t:=t) (by omega) (by omega));have hb:((m.boxed (sp p (word ws 1))).bD (sp p (word ws 2))).boxes=m.boxes:=(Lx _ _).trans (FU _ _);refine⟨h4.ints,fun j=> ?_,fun j=> ?_,?_,h4.trace,h4.count,h4.used⟩
  ·have:=h4.held j;show _<=(m.boxes.set _ _).length
   rw[List.length_set];have e:(((m.boxed (sp p (word ws 1))).bD (sp p (word ws 2))).note 62 ((m.named (sp p (word ws 1)):Nat):Int)).boxes=m.boxes:=hb;rw[e]at this;exact this
  ·show aN ((m.boxes.set (m.named (sp p (word ws 1))-1) (m.int (sp p (word ws 2)),(m.box (m.named (sp p (word ws 1)))).2)).getD j (0,false)).1
   rw[jA,jd];split
   ·split
    ·exact h.ints _
    ·unfold aN;simp
   ·rw[<-jA];exact h.zq j
  ·show(m.boxes.set _ _).length<=_
   rw[List.length_set];omega
 ·exact h1.mono (by omega)
end
end Mac
namespace Mac
open Go Go.RowKit Sq Aux Go.Proofs.YtmlgajhhnojdjaaGreatDoor.Own RefRa RefZd
structure T9 (p:RP)(f:Fx)(w0:World)(ak:List Int)(ws:List B)(gw:Nat):Prop where
 row:Row w0 ws gw
 ctx:Ctx w0 p f
 owns:f.owns=true
 long:∀j,(word ws j).length<=maxLen
 len:ws.length=(behind (word ws 0) false).1.length+1
 has:(behind (word ws 0) false).2=true
 find:∀k,k<(behind (word ws 0) false).1.length->(behind (word ws 0) false).1.getD k 0∈[(105:UInt8),112,109,111,100]->0<=p.find (ai (word ws (k+1)))
 fit:word ws 0=[109,111,118,101]\/word ws 0=[115,111,109,101]->sp p (word ws 1)+(p.aj (word ws 2)).2<=24
 num:aN (kW (word ws 2))
 feed:bX w0 f.vi ak
 rj:∀n∈ak,aN n
section
variable {w0 w:World} {x gw cw:Nat} {f:Fx} {m:RM} {p:RP} {ws:List B} {t:Nat} {ak:List Int}
theorem T9.wd (h:T9 p f w0 ak ws gw){fm:B}(hb:(behind (word ws 0) false).1=fm)(k:Nat)(hk:k<fm.length)(hc:fm.getD k 0∈[(105:UInt8),112,109,111,100]):Wd p (word ws (k+1)):=
 ⟨h.long _,h.find k (by rw[hb];exact hk) (by rw[hb];exact hc)⟩
theorem QL (hD:T9 p f w0 ak ws gw)(h:ca w0 x f w m)(he:ends (word ws 0)=false)(h0:m.out=0)(hO:m.Ok t)(ht:t<=2000000):
  Calls Tryz.prog 94 #[.pointer (some ⟨x,0,none⟩),.slice (some ⟨gw,0,none⟩) ws.length cw] w (fun e w'=>e=.returned (.tuple #[])/\ca w0 x f w' (m.aR f p ak ws))/\(m.aR f p ak ws).Ok (t+3):=by
 have hC:=hD.ctx;have hR:=hD.row;have cf:=hC.aV;have hm:=po _ hD.has;simp only[l8,List.mem_cons,List.not_mem_nil,or_false]at hm;rcases hm with e|e|e|e|e|e|e|e|e|e|e|e|e|e|e|e|e|e
 ·have hf:(behind (word ws 0) false).1=[105,110]:=by rw[e];rfl
  have hn:ws.length=3:=by rw[hD.len,hf];rfl
  have h1:=hD.wd hf 0 (by simp) (by simp);refine⟨QM hC h hR hn e h1 (hD.long _),?_⟩;have:m.aR f p ak ws=m.be (sp p (word ws 1)) (kW (word ws 2)):=by unfold RM.aR;simp only[e];rfl
  rw[this];exact(hO.be _ hD.num).mono (by omega)
 ·have hf:(behind (word ws 0) false).1=[105]:=by rw[e];rfl
  have hn:ws.length=2:=by rw[hD.len,hf];rfl
  have h1:=hD.wd hf 0 (by simp) (by simp);have gC:m.aR f p ak ws=m.input p ak ws:=by unfold RM.aR;simp only[e];rfl
  refine⟨?_,by rw[gC];exact(hO.input hD.rj).mono (by omega)⟩;by_cases hu:m.used<ak.length
  ·exact Uu hC h hR hn e h1 hD.feed hu hO ht
  ·exact QH hC h hR hn e h1 hD.feed hu hO ht
 ·have hf:(behind (word ws 0) false).1=[105,105,105]:=by rw[e];rfl
  have hn:ws.length=4:=by rw[hD.len,hf];rfl
  have gC:m.aR f p ak ws=m.arith p ws:=by unfold RM.aR;simp only[e];rfl
  exact⟨QF hC h hR hn e (hD.wd hf 0 (by simp) (by simp)) (hD.wd hf 1 (by simp) (by simp)) (hD.wd hf 2 (by simp) (by simp)),by rw[gC];exact hO.arith.mono (by omega)⟩
 ·have hf:(behind (word ws 0) false).1=[105,105,105]:=by rw[e];rfl
  have hn:ws.length=4:=by rw[hD.len,hf];rfl
  have gC:m.aR f p ak ws=m.arith p ws:=by unfold RM.aR;simp only[e];rfl
  exact⟨QN hC h hR hn e (hD.wd hf 0 (by simp) (by simp)) (hD.wd hf 1 (by simp) (by simp)) (hD.wd hf 2 (by simp) (by simp)),by rw[gC];exact hO.arith.mono (by omega)⟩
 ·have hf:(behind (word ws 0) false).1=[105,105,105]:=by rw[e];rfl
  have hn:ws.length=4:=by rw[hD.len,hf];rfl
  have gC:m.aR f p ak ws=m.arith p ws:=by unfold RM.aR;simp only[e];rfl
  exact⟨QI hC h hR hn e (hD.wd hf 0 (by simp) (by simp)) (hD.wd hf 1 (by simp) (by simp)) (hD.wd hf 2 (by simp) (by simp)),by rw[gC];exact hO.arith.mono (by omega)⟩
 ·have hf:(behind (word ws 0) false).1=[105,105,105]:=by rw[e];rfl
  have hn:ws.length=4:=by rw[hD.len,hf];rfl
  have gC:m.aR f p ak ws=m.arith p ws:=by unfold RM.aR;simp only[e];rfl
  exact⟨QG hC h hR hn e (hD.wd hf 0 (by simp) (by simp)) (hD.wd hf 1 (by simp) (by simp)) (hD.wd hf 2 (by simp) (by simp)),by rw[gC];exact hO.arith.mono (by omega)⟩
 ·have hf:(behind (word ws 0) false).1=[105]:=by rw[e];rfl
  have hn:ws.length=2:=by rw[hD.len,hf];rfl
  have h1:=hD.wd hf 0 (by simp) (by simp);have gC:m.aR f p ak ws=m.tell p ws:=by unfold RM.aR;simp only[e];rfl
  refine⟨?_,by rw[gC];exact hO.tell.mono (by omega)⟩;by_cases hh:m.has.getD (sp p (word ws 1)) false=true
  ·exact QK hC h hR hn e h1 h0 hh hO ht
  ·exact NR hC h hR hn e h1 hh
 ·rw[e]at he;exact absurd he (by decide)
 ·rw[e]at he;exact absurd he (by decide)
 ·rw[e]at he;exact absurd he (by decide)
 ·have hf:(behind (word ws 0) false).1=[112,105]:=by rw[e];rfl
  have hn:ws.length=3:=by rw[hD.len,hf];rfl
  have h1:=hD.wd hf 0 (by simp) (by simp);have gC:m.aR f p ak ws=m.new f p ws:=by unfold RM.aR;simp only[e];rfl
  exact⟨QJ hC h hR hn e h1 (hD.wd hf 1 (by simp) (by simp)) h0 hO ht,by rw[gC];exact hO.new (by omega) h1 cf⟩
 ·have hf:(behind (word ws 0) false).1=[105,112]:=by rw[e];rfl
  have hn:ws.length=3:=by rw[hD.len,hf];rfl
  have gC:m.aR f p ak ws=m.load p ws:=by unfold RM.aR;simp only[e];rfl
  exact⟨NO hC h hR hn e (hD.wd hf 0 (by simp) (by simp)) (hD.wd hf 1 (by simp) (by simp)) h0 hO ht,by rw[gC];exact(hO.load (by omega)).mono (by omega)⟩
 ·have hf:(behind (word ws 0) false).1=[112,105]:=by rw[e];rfl
  have hn:ws.length=3:=by rw[hD.len,hf];rfl
  have gC:m.aR f p ak ws=m.store p ws:=by unfold RM.aR;simp only[e];rfl
  exact⟨JV hC h hR hn e (hD.wd hf 0 (by simp) (by simp)) (hD.wd hf 1 (by simp) (by simp)) h0 hO ht,by rw[gC];exact(hO.store (by omega)).mono (by omega)⟩
 ·have hf:(behind (word ws 0) false).1=[111]:=by rw[e];rfl
  have hn:ws.length=2:=by rw[hD.len,hf];rfl
  have h1:=hD.wd hf 0 (by simp) (by simp);have gC:m.aR f p ak ws=m.none f p ws:=by unfold RM.aR;simp only[e];rfl
  exact⟨NQ hC h hR hn e h1 hO ht hD.owns,by rw[gC];exact(hO.none (by omega) h1 cf).mono (by omega)⟩
 ·have hf:(behind (word ws 0) false).1=[100]:=by rw[e];rfl
  have hn:ws.length=2:=by rw[hD.len,hf];rfl
  have h1:=hD.wd hf 0 (by simp) (by simp);have gC:m.aR f p ak ws=m.drop p (word ws 1):=by unfold RM.aR;simp only[e];rfl
  exact⟨NN hC h hR hn e h1 hO ht,by rw[gC];exact(hO.drop (by omega) h1 cf).mono (by omega)⟩
 ·have hf:(behind (word ws 0) false).1=[109,109]:=by rw[e];rfl
  have hn:ws.length=3:=by rw[hD.len,hf];rfl
  have h1:=hD.wd hf 0 (by simp) (by simp);have gC:m.aR f p ak ws=m.owned p ws:=by unfold RM.aR;simp only[e,hD.owns];rfl
  exact⟨NP hC h hR hn e h1 (hD.wd hf 1 (by simp) (by simp)) hO ht (hD.fit (.inl e)) hD.owns,by rw[gC];exact(hO.owned (by omega) h1 cf).mono (by omega)⟩
 ·have hf:(behind (word ws 0) false).1=[111,112]:=by rw[e];rfl
  have hn:ws.length=3:=by rw[hD.len,hf];rfl
  have h1:=hD.wd hf 0 (by simp) (by simp);have gC:m.aR f p ak ws=m.owned p ws:=by unfold RM.aR;simp only[e,hD.owns];rfl
  exact⟨NS hC h hR hn e h1 (hD.wd hf 1 (by simp) (by simp)) hO ht (hD.fit (.inr e)) hD.owns,by rw[gC];exact(hO.owned (by omega) h1 cf).mono (by omega)⟩
 ·rw[e]at he;exact absurd he (by decide)
end
end Mac
namespace Mac
open Go Go.RowKit Sq Aux Go.Proofs.YtmlgajhhnojdjaaGreatDoor.Own RefRa RefZd PrjS Sim
section
variable {w0 w:World} {x gw cw:Nat} {f:Fx} {m:RM} {p:RP} {t i:Nat} {ak:List Int} {text:B} {raw:Bool}
theorem VU (w:B):aN (kW w):=by
 have h:=Dx w;rw[se]at h;unfold aN kW;omega
theorem Ctx.long (hC:Ctx w0 p f)(i j:Nat):(word (p.line i) j).length<=maxLen:=jS (hC.ok.long i j) (by unfold maxLen;omega)
theorem Ta (h:bd w0 f.a p)(hO:p.Ok)(hi:i<p.lines.length):∃g cap gl dr,w0.cell? ⟨f.a,0,none⟩=some (.slice (some ⟨g,0,none⟩) p.lines.length cap)/\w0.cell? ⟨g,i,none⟩=some (.slice (some ⟨gl,0,none⟩) (p.line i).length dr)/\g<w0.heap.size/\p.lines.length<=cap/\(p.line i).length<=dr/\Row w0 (p.line i) gl:=by
 obtain⟨v,hv,hr⟩:=h.lines;rcases hr with⟨he,_⟩|⟨g,cap,rfl,hc,hg,aC⟩
 ·rw[he]at hi;simp at hi
 ·obtain⟨u,hu,gl,dr,rfl,AV,Wg,hw⟩:=aC i hi;exact⟨g,cap,gl,dr,hv,hu,hg,hc,AV,⟨Wg,hw,hO.wide i⟩⟩
theorem DK (p:RP)(w:B):(p.aj w).2=if partOf w=98 then 1 else if p.typeOf w=cj then 2 else 1:=by
 unfold RP.aj;split
 ·rfl
 ·split<;>rfl
theorem Pg {w1:B}(h:p.typeOf w1=cj):¬partOf w1=98:=fun e=>by
 unfold RP.typeOf at h;rw[jb (.inr e)]at h;split at h
 ·exact absurd h (by decide)
 ·exact absurd h (by decide)
theorem Q2 {w1 w2:B}(h1:p.fits w1)(h2:p.typeOf w2=cj->p.typeOf w1=cj):sp p w1+(p.aj w2).2<=24:=by
 unfold RP.fits at h1;have s1:=DK p w1;have s2:=DK p w2;unfold sp;by_cases e:p.typeOf w2=cj
 ·have e1:=h2 e;rw[ja (Pg e1),jb e1]at s1;have:(p.aj w2).2<=2:=by
   rw[s2,jb e];split<;>omega
  omega
 ·have h3:(p.aj w2).2=1:=by
   rw[s2,ja e];split<;>rfl
  have:1<=(p.aj w1).2:=by
   rw[s1];split
   ·omega
   ·split<;>omega
  omega
theorem vc {i:Nat}(hb:p.body i):¬word (p.line i) 0=cv/\¬word (p.line i) 0=aQ:=
 ⟨by have:=hb.2.1;simpa [isLet]using this,by have:=hb.2.2;simpa [al]using this⟩
theorem rU (hR:aE text raw p){i:Nat}(hb:p.body i):(behind (word (p.line i) 0) raw).2=true/\(p.line i).length=(behind (word (p.line i) 0) raw).1.length+1:=by
 have AW:=hR.pre.form i hb.1;rw[hR.raw]at AW;exact Lf AW (vc hb).1 (vc hb).2
theorem CW (hR:aE text raw p){i:Nat}(hb:p.body i)(k:Nat)(hk:k<(behind (word (p.line i) 0) raw).1.length)(hc:(behind (word (p.line i) 0) raw).1.getD k 0∈[(105:UInt8),112,109,111,100]):0<=p.find (ai (word (p.line i) (k+1))):=by
 have h:= @RP.iv p i (hR.names i hb.1) (vc hb).1 k;rw[hR.raw]at h;refine h hk ?_;rw[jA,jB hk]at hc;exact hc
theorem QA (hR:aE text raw p){i:Nat}(hb:p.body i)(hw:word (p.line i) 0=[109,111,118,101]\/word (p.line i) 0=[115,111,109,101]):sp p (word (p.line i) 1)+(p.aj (word (p.line i) 2)).2<=24:=by
 rcases hw with e|e
 ·have hf:(behind (word (p.line i) 0) p.raw).1=[109,109]:=by rw[e];rfl
  obtain⟨a1,-⟩:=hR.place hb hf 0 (by simp) (by rfl);obtain⟨-,b2⟩:=hR.place hb hf 1 (by simp) (by rfl);refine Q2 a1.fits fun h=> ?_
  rw[<-h];exact((BY b2).2).symm
 ·have hf:(behind (word (p.line i) 0) p.raw).1=[111,112]:=by rw[e];rfl
  obtain⟨a1,-⟩:=hR.place hb hf 0 (by simp) (by rfl);obtain⟨-,b2⟩:=hR.place hb hf 1 (by simp) (by rfl);refine Q2 a1.fits fun h=> ?_
  rw[show p.typeOf (word (p.line i) 2)=kz from pd b2]at h;exact absurd h (by decide)
theorem Uo (hC:Ctx w0 p f)(hR:aE text false p)(hb:p.body i)(fZ:Row w0 (p.line i) gw)(hf:f.owns=true)(Rt:bX w0 f.vi ak)(hn:∀n∈ak,aN n):T9 p f w0 ak (p.line i) gw:=by
 obtain⟨h1,h2⟩:=rU hR hb;exact⟨fZ,hC,hf,fun j=>hC.long i j,h2,h1,CW hR hb,QA hR hb,VU _,Rt,hn⟩
theorem qH (hC:Ctx w0 p f)(hR:aE text raw p)(hb:p.body i)(k:Nat)(hc:(behind (word (p.line i) 0) raw).1.getD k 0=78):Bw p (word (p.line i) (k+1)):=by
 obtain⟨n,h1,h2,-⟩:=hR.vH i hb.1 k (by rw[hR.raw];exact hc);exact⟨hC.long i _,n,h1,h2⟩
theorem TJ (hC:Ctx w0 p f)(hR:aE text raw p)(hb:p.body i)(k:Nat)(hk:k<(behind (word (p.line i) 0) raw).1.length)(hc:(behind (word (p.line i) 0) raw).1.getD k 0∈[(105:UInt8),112,109,111,100]):Wd p (word (p.line i) (k+1)):=
 ⟨hC.long i _,CW hR hb k hk hc⟩
theorem Sd (hC:Ctx w0 p f)(hR:aE text raw p):VY p:=⟨fun n hn=>by
 refine⟨hC.long _ _,?_⟩;have e:p.lets.getD n 0=p.lets[n]:=by rw[jA,jB hn];rfl
 rw[e];have hm:p.lets[n]∈p.bP isLet:=by rw[<-hR.pre.lets];exact jL hn
 have hx:=cH hm;have hf:=hR.pre.form _ hx.1;have et:word (p.line p.lets[n]) 0=cv:=by simpa [isLet]using hx.2
 rw[dI,jb et]at hf;simp only[Bool.and_eq_true,decide_eq_true_eq]at hf;have RE:isName (word (p.line p.lets[n]) 1)=true:=hf.1.2;rw[(gF RE).2.1];exact RP.tb p _ _ _ _ (jL hn) rfl⟩
theorem AD {w:B}(h:(behind w false).2=true)(he:ends w=true)(hn:¬w=[101,110,100]):w=[103,111,116,111]\/w=[105,102]\/w=[109,97,116,99,104]:=by
 have hm:=po w h;simp only[l8,List.mem_cons,List.not_mem_nil,or_false]at hm;rcases hm with rfl|rfl|rfl|rfl|rfl|rfl|rfl|rfl|rfl|rfl|rfl|rfl|rfl|rfl|rfl|rfl|rfl|rfl
 all_goals first
  |exact absurd he (by decide)
  |exact absurd rfl hn
  |exact .inl rfl
  |exact .inr (.inl rfl)
  |exact .inr (.inr rfl)
theorem rh (hC:Ctx w0 p f)(hR:aE text false p)(hb:p.body i)(fZ:Row w0 (p.line i) gw)(h:ca w0 x f w m)(he:ends (word (p.line i) 0)=true)(hn:¬word (p.line i) 0=[101,110,100]):
  Calls Tryz.prog 93 #[.pointer (some ⟨x,0,none⟩),.slice (some ⟨gw,0,none⟩) (p.line i).length cw] w fun e w'=>e=.returned (.int .i64 ((eW p (m.next p (p.line i)).2:Nat):Int))/\ca w0 x f w' (m.next p (p.line i)).1:=by
 obtain⟨h1,h2⟩:=rU hR hb;rcases AD h1 he hn with e|e|e
 ·have hf:(behind (word (p.line i) 0) false).1=[78]:=by rw[e];rfl
  exact O5 hC h fZ (by rw[h2,hf];rfl) (qH hC hR hb 0 (by rw[hf];rfl)) e
 ·have hf:(behind (word (p.line i) 0) false).1=[105,78,78]:=by rw[e];rfl
  have hl:(p.line i).length=4:=by rw[h2,hf];rfl
  have hw:=TJ hC hR hb 0 (by rw[hf];simp) (by rw[hf];simp);by_cases hz:m.int (sp p (word (p.line i) 1))=0
  ·exact SA hC h fZ hl hw (qH hC hR hb 2 (by rw[hf];rfl)) e hz
  ·exact SB hC h fZ hl hw (qH hC hR hb 1 (by rw[hf];rfl)) e hz
 ·have hf:(behind (word (p.line i) 0) false).1=[111,78,78]:=by rw[e];rfl
  have hl:(p.line i).length=4:=by rw[h2,hf];rfl
  have hw:=TJ hC hR hb 0 (by rw[hf];simp) (by rw[hf];simp);by_cases hz:m.aZ.getD (sp p (word (p.line i) 1)) 0=0
  ·exact Io hC h fZ hl hw (qH hC hR hb 2 (by rw[hf];rfl)) e hz
  ·by_cases xW:m.aZ.getD (sp p (word (p.line i) 1)) 0=110
   ·exact Ip hC h fZ hl hw (qH hC hR hb 1 (by rw[hf];rfl)) e xW
   ·exact Iq hC h fZ hl hw (qH hC hR hb 2 (by rw[hf];rfl)) e hz xW
theorem Vs (hC:Ctx w0 p f)(hR:aE text false p)(hb:p.body i)(he:ends (word (p.line i) 0)=true)(hn:¬word (p.line i) 0=[101,110,100]):Bw p (m.next p (p.line i)).2:=by
 obtain⟨h1,h2⟩:=rU hR hb;rcases AD h1 he hn with e|e|e
 ·have hf:(behind (word (p.line i) 0) false).1=[78]:=by rw[e];rfl
  have hd:m.next p (p.line i)=(m,word (p.line i) 1):=by unfold RM.next;simp[e]
  rw[hd];exact qH hC hR hb 0 (by rw[hf];rfl)
 ·have hf:(behind (word (p.line i) 0) false).1=[105,78,78]:=by rw[e];rfl
  have hd:(m.next p (p.line i)).2=if m.int (sp p (word (p.line i) 1))=0 then word (p.line i) 3 else word (p.line i) 2:=by unfold RM.next;simp[e]
  rw[hd];split
  ·exact qH hC hR hb 2 (by rw[hf];rfl)
  ·exact qH hC hR hb 1 (by rw[hf];rfl)
 ·have hf:(behind (word (p.line i) 0) false).1=[111,78,78]:=by rw[e];rfl
  have hd:(m.next p (p.line i)).2=if m.aZ.getD (sp p (word (p.line i) 1)) 0=110 then word (p.line i) 2 else word (p.line i) 3:=by unfold RM.next;simp[e,bS]
  rw[hd];split
  ·exact qH hC hR hb 1 (by rw[hf];rfl)
  ·exact qH hC hR hb 2 (by rw[hf];rfl)
theorem PI (hR:aE text raw p){l:B}(hb:Bw p l):oo p (eW p l):=by
 obtain⟨n,h1,h2⟩:=hb.num;obtain⟨h3,h4,-⟩:=RP.ki hR.pre.blocks h2;have e:eW p l=p.blocks.getD n 0:=by unfold eW kW;rw[h1];rfl
 rw[e];exact .inr ⟨h3,h4⟩
theorem RM.Ok.next (hO:m.Ok t)(ws:List B):(m.next p ws).1.Ok t:=by
 unfold RM.next;simp only;split
 ·exact hO
 ·split
  ·exact hO.bD _
  ·split
   ·split
    ·exact hO.outs 5
    ·exact hO
   ·exact hO
theorem NT (h:¬m.out=0)(c:UInt8)(k:Nat):¬(m.ed c k).out=0:=by
 unfold RM.ed RM.free;simp only;split
 ·split
  ·simp
  ·exact h
 ·exact h
theorem C4 (h:¬m.out=0)(c:UInt8)(k:Nat):∀n,¬(m.mg c k n).out=0
 |0=>h
 |n+1=>NT (C4 h c k n) c (k+n)
theorem vq:∀(n:Nat) (m:RM),¬m.out=0->¬(RM.fz p n m).out=0
 |0,_,h=>h
 |n+1,m,h=>by
  rw[RM.fz];refine vq n _ ?_;split
  ·exact h
  ·exact C4 h _ _ _
theorem AH (ws:List B):¬(m.finish f p ws).out=0:=by
 unfold RM.finish;simp only;split
 ·assumption
 ·split
  ·exact vq _ _ (by simp)
  ·simp
theorem J1 (hC:Ctx w0 p f)(hR:aE text false p)(hb:p.body i)(fZ:Row w0 (p.line i) gw)(h:ca w0 x f w m)(hw:word (p.line i) 0=[101,110,100])(h0:m.out=0)(hf:f.owns=true)(hO:m.Ok t)(ht:t<=1000000):
  Calls Tryz.prog 92 #[.pointer (some ⟨x,0,none⟩),.slice (some ⟨gw,0,none⟩) (p.line i).length cw] w fun e w'=>e=.returned (.tuple #[])/\ca w0 x f w' (m.finish f p (p.line i)):=by
 obtain⟨h1,h2⟩:=rU hR hb;have hfm:(behind (word (p.line i) 0) false).1=[105]:=by rw[hw];rfl
 have hl:(p.line i).length=2:=by rw[h2,hfm];rfl
 have yV:=TJ hC hR hb 0 (by rw[hfm];simp) (by rw[hfm];simp);by_cases hh:m.has.getD (sp p (word (p.line i) 1)) false=true
 ·exact J2 hC h fZ hl yV hh h0 hf (Sd hC hR) hO ht
 ·exact Gj hC h fZ hl yV hh
end
end Mac
end Go.Proofs.YtmlgajhhnojdjaaGreatDoor

import Derived.Test.YtmlgajhhnojdjaaGreatDoorRAS
namespace Go.Proofs.YtmlgajhhnojdjaaGreatDoor
namespace Mac
open Go Go.RowKit Sq Aux PrjJ PrjK PrjL PrjM Go.Proofs.YtmlgajhhnojdjaaGreatDoor.Own RefRa RefP RefC
structure Bw (p:RP)(l:B):Prop where
 len:l.length<=maxLen
 num:∃n:Nat,number l=some (n:Int)/\n<p.blocks.length
section
variable {w0 w w1 w2 w3:World} {x gw cw:Nat} {f:Fx} {m:RM} {p:RP} {ws:List B} {t:Nat} {vb vt:Value} {l:B}
theorem ki (hC:Ctx w0 p f)(h:cd w0 x f w m)(hl:Bw p l):Calls Tryz.prog 89 #[.pointer (some ⟨f.a,0,none⟩),.string (bs l)] w fun e w'=>e=.returned (.int .i64 ((eX p l:Nat):Int))/\cd w0 x f w' m:=by
 obtain⟨vb,vt,hV⟩:=h;obtain⟨n,h1,h2⟩:=hl.num;refine(CV p f.a l n w (hC.prog.below hV.br) hC.ok hl.len h1 h2).mono ?_;rintro e w' ⟨rfl,k,rfl⟩;refine⟨?_,vb,vt,hV.below (below_drewN (Below.refl _ _) _)⟩;unfold eX kX;rw[h1];rfl
set_option maxRecDepth 20000 in
set_option maxHeartbeats 2000000 in
theorem O6 (hC:Ctx w0 p f)(h:cd w0 x f w m)(hR:Row w0 ws gw)(hn:ws.length=2)(h1:Bw p (word ws 1))(hw:word ws 0=[103,111,116,111]):
  Calls Tryz.prog 93 #[.pointer (some ⟨x,0,none⟩),.slice (some ⟨gw,0,none⟩) ws.length cw] w fun e w'=>e=.returned (.int .i64 ((eX p (m.next p ws).2:Nat):Int))/\cd w0 x f w' (m.next p ws).1:=by
 have HG:Hid (m.next p ws=(m,word ws 1)):=by unfold Hid RM.next;simp[hw]
 rw[HG.out];have la:(ws.length:Int)=2:=by omega
 have y0:=hR.on h (j:=0) (by omega);rw[hw]at y0;have y1:=hR.on h (j:=1) (by omega);obtain⟨vb,vt,hV⟩:=h;obtain⟨c0,c1,c2,c3,c4,c5,c6,c7,c8,c9⟩:=hV.facts;have KB:=ki hC ⟨_,_,hV.below ((Below.refl w.heap.size w).drew)⟩ h1;go_enter Tryz.func93,Tryz.ntmps93
 go_upto_region 3 with fail
 go_region_law (go_simp;go_at_call 89;refine KB.mono ?_;rintro e w9 ⟨rfl,xN⟩)
 all_goals go_wp2_with fail
 all_goals go_ret
 all_goals exact⟨rfl,xN⟩
set_option maxRecDepth 20000 in
set_option maxHeartbeats 2000000 in
theorem SB (hC:Ctx w0 p f)(h:cd w0 x f w m)(hR:Row w0 ws gw)(hn:ws.length=4)(h1:Wd p (word ws 1))(hb:Bw p (word ws 3))(hw:word ws 0=[105,102])(hz:m.int (sp p (word ws 1))=0):
  Calls Tryz.prog 93 #[.pointer (some ⟨x,0,none⟩),.slice (some ⟨gw,0,none⟩) ws.length cw] w fun e w'=>e=.returned (.int .i64 ((eX p (m.next p ws).2:Nat):Int))/\cd w0 x f w' (m.next p ws).1:=by
 have HG:Hid (m.next p ws=(m.bE (sp p (word ws 1)),word ws 3)):=by unfold Hid RM.next;simp[hw,hz]
 rw[HG.out];have la:(ws.length:Int)=4:=by omega
 have y0:=hR.on h (j:=0) (by omega);rw[hw]at y0;have y1:=hR.on h (j:=1) (by omega);have KI:=cN hC h h1;go_enter Tryz.func93,Tryz.ntmps93
 go_wp2_with (go_at_call 147;refine KI.mono ?_;rintro e w1 ⟨rfl,vb,vt,hV⟩;obtain⟨c0,c1,c2,c3,c4,c5,c6,c7,c8,c9⟩:=hV.facts;have y2:=hR.at hV (j:=3) (by omega);have KB:=ki hC ⟨_,_,hV.below ((Below.refl w1.heap.size w1).drew)⟩ hb)
 go_upto_region 18 with fail
 go_region_law (go_simp;go_at_call 89;refine KB.mono ?_;rintro e w9 ⟨rfl,xN⟩)
 all_goals go_wp2_with fail
 all_goals go_ret
 all_goals exact⟨rfl,xN⟩
set_option maxRecDepth 20000 in
set_option maxHeartbeats 2000000 in
theorem SC (hC:Ctx w0 p f)(h:cd w0 x f w m)(hR:Row w0 ws gw)(hn:ws.length=4)(h1:Wd p (word ws 1))(hb:Bw p (word ws 2))(hw:word ws 0=[105,102])(hz:¬m.int (sp p (word ws 1))=0):
  Calls Tryz.prog 93 #[.pointer (some ⟨x,0,none⟩),.slice (some ⟨gw,0,none⟩) ws.length cw] w fun e w'=>e=.returned (.int .i64 ((eX p (m.next p ws).2:Nat):Int))/\cd w0 x f w' (m.next p ws).1:=by
 have HG:Hid (m.next p ws=(m.bE (sp p (word ws 1)),word ws 2)):=by unfold Hid RM.next;simp[hw,hz]
 rw[HG.out];have la:(ws.length:Int)=4:=by omega
 have y0:=hR.on h (j:=0) (by omega);rw[hw]at y0;have y1:=hR.on h (j:=1) (by omega);have KI:=cN hC h h1;go_enter Tryz.func93,Tryz.ntmps93
 go_wp2_with (go_at_call 147;refine KI.mono ?_;rintro e w1 ⟨rfl,vb,vt,hV⟩;obtain⟨c0,c1,c2,c3,c4,c5,c6,c7,c8,c9⟩:=hV.facts;have y2:=hR.at hV (j:=2) (by omega);have KB:=ki hC ⟨_,_,hV.below ((Below.refl w1.heap.size w1).drew)⟩ hb)
 go_upto_region 7 with fail
 go_region_law (go_simp;go_at_call 89;refine KB.mono ?_;rintro e w9 ⟨rfl,xN⟩)
 all_goals go_wp2_with fail
 all_goals go_ret
 all_goals exact⟨rfl,xN⟩
set_option maxRecDepth 20000 in
set_option maxHeartbeats 2000000 in
theorem Ip (hC:Ctx w0 p f)(h:cd w0 x f w m)(hR:Row w0 ws gw)(hn:ws.length=4)(h1:Wd p (word ws 1))(hb:Bw p (word ws 3))(hw:word ws 0=[109,97,116,99,104])(hz:m.ba.getD (sp p (word ws 1)) 0=0):
  Calls Tryz.prog 93 #[.pointer (some ⟨x,0,none⟩),.slice (some ⟨gw,0,none⟩) ws.length cw] w fun e w'=>e=.returned (.int .i64 ((eX p (m.next p ws).2:Nat):Int))/\cd w0 x f w' (m.next p ws).1:=by
 have HG:Hid (m.next p ws=({m with out:=5},word ws 3)):=by unfold Hid RM.next;simp only;rw[hw,ja (by decide),ja (by decide),jb (show([109,97,116,99,104]:B)=bT from rfl),jb hz,ja (by rw[hz];decide)]
 rw[HG.out];have la:(ws.length:Int)=4:=by omega
 have y0:=hR.on h (j:=0) (by omega);rw[hw]at y0;have y1:=hR.on h (j:=1) (by omega);have KS:=fc hC (h.below ((Below.refl w.heap.size w).drew)) h1;obtain⟨hi,-⟩:=h1.lt hC.aW;have i1:((sp p (word ws 1):Nat):Int)<24:=by omega
 go_enter Tryz.func93,Tryz.ntmps93
 go_upto_region 9 with fail
 go_region_law (go_simp;go_at_call 149;refine KS.mono ?_;rintro e w1 ⟨rfl,vb,vt,hV⟩;obtain⟨c0,c1,c2,c3,c4,c5,c6,c7,c8,c9⟩:=hV.facts;obtain⟨f1,f2,f3,f4,f5,f6⟩:=hV.eB;obtain⟨a1,a2⟩:=hV.qn hi;rw[hz]at a1;have Xk:bO w0 x f (w1.setCell ⟨x,154,none⟩ (.int .i64 5)) {m with out:=5} vb vt:=hV.tG 5;have y2:=hR.at Xk (j:=3) (by omega);have KB:=ki hC ⟨_,_,Xk.below ((Below.refl _ _).drew)⟩ hb)
 all_goals go_upto_region 18 with fail
 all_goals go_region_law (go_simp;go_at_call 89;refine KB.mono ?_;rintro e w9 ⟨rfl,xN⟩)
 all_goals go_wp2_with fail
 all_goals go_ret
 all_goals exact⟨rfl,xN⟩
set_option maxRecDepth 20000 in
set_option maxHeartbeats 2000000 in
theorem Iq (hC:Ctx w0 p f)(h:cd w0 x f w m)(hR:Row w0 ws gw)(hn:ws.length=4)(h1:Wd p (word ws 1))(hb:Bw p (word ws 2))(hw:word ws 0=[109,97,116,99,104])(hz:m.ba.getD (sp p (word ws 1)) 0=110):
  Calls Tryz.prog 93 #[.pointer (some ⟨x,0,none⟩),.slice (some ⟨gw,0,none⟩) ws.length cw] w fun e w'=>e=.returned (.int .i64 ((eX p (m.next p ws).2:Nat):Int))/\cd w0 x f w' (m.next p ws).1:=by
 have HG:Hid (m.next p ws=(m,word ws 2)):=by unfold Hid RM.next;simp only;rw[hw,ja (by decide),ja (by decide),jb (show([109,97,116,99,104]:B)=bT from rfl),ja (by rw[hz];decide),jb hz]
 rw[HG.out];have la:(ws.length:Int)=4:=by omega
 have y0:=hR.on h (j:=0) (by omega);rw[hw]at y0;have y1:=hR.on h (j:=1) (by omega);have KS:=fc hC (h.below ((Below.refl w.heap.size w).drew)) h1;obtain⟨hi,-⟩:=h1.lt hC.aW;have i1:((sp p (word ws 1):Nat):Int)<24:=by omega
 go_enter Tryz.func93,Tryz.ntmps93
 go_upto_region 9 with fail
 go_region_law (go_simp;go_at_call 149;refine KS.mono ?_;rintro e w1 ⟨rfl,vb,vt,hV⟩;obtain⟨c0,c1,c2,c3,c4,c5,c6,c7,c8,c9⟩:=hV.facts;obtain⟨f1,f2,f3,f4,f5,f6⟩:=hV.eB;obtain⟨a1,a2⟩:=hV.qn hi;rw[hz]at a1;have y2:=hR.at hV (j:=2) (by omega);have KB:=ki hC ⟨_,_,hV.below ((Below.refl _ _).drew)⟩ hb)
 all_goals go_upto_region 13 with fail
 all_goals go_region_law (go_simp;go_at_call 89;refine KB.mono ?_;rintro e w9 ⟨rfl,xN⟩)
 all_goals go_wp2_with fail
 all_goals go_ret
 all_goals exact⟨rfl,xN⟩
set_option maxRecDepth 20000 in
set_option maxHeartbeats 2000000 in
theorem Ir (hC:Ctx w0 p f)(h:cd w0 x f w m)(hR:Row w0 ws gw)(hn:ws.length=4)(h1:Wd p (word ws 1))(hb:Bw p (word ws 3))(hw:word ws 0=[109,97,116,99,104])(hz:¬m.ba.getD (sp p (word ws 1)) 0=0)(xX:¬m.ba.getD (sp p (word ws 1)) 0=110):
  Calls Tryz.prog 93 #[.pointer (some ⟨x,0,none⟩),.slice (some ⟨gw,0,none⟩) ws.length cw] w fun e w'=>e=.returned (.int .i64 ((eX p (m.next p ws).2:Nat):Int))/\cd w0 x f w' (m.next p ws).1:=by
 have HG:Hid (m.next p ws=(m,word ws 3)):=by unfold Hid RM.next;simp only;rw[hw,ja (by decide),ja (by decide),jb (show([109,97,116,99,104]:B)=bT from rfl),ja hz,ja xX]
 rw[HG.out];have la:(ws.length:Int)=4:=by omega
 have y0:=hR.on h (j:=0) (by omega);rw[hw]at y0;have y1:=hR.on h (j:=1) (by omega);have KS:=fc hC (h.below ((Below.refl w.heap.size w).drew)) h1;obtain⟨hi,-⟩:=h1.lt hC.aW;have hq1:¬((m.ba.getD (sp p (word ws 1)) 0).toNat:Int)=0:=fun e=>hz (UInt8.toNat_inj.1 (by rw[show(0:UInt8).toNat=0 from rfl];omega))
 have XU:¬((m.ba.getD (sp p (word ws 1)) 0).toNat:Int)=110:=fun e=>xX (UInt8.toNat_inj.1 (by rw[show(110:UInt8).toNat=110 from rfl];omega))
 have i1:((sp p (word ws 1):Nat):Int)<24:=by omega
 go_enter Tryz.func93,Tryz.ntmps93
 go_upto_region 9 with fail
 go_region_law (go_simp;go_at_call 149;refine KS.mono ?_;rintro e w1 ⟨rfl,vb,vt,hV⟩;obtain⟨c0,c1,c2,c3,c4,c5,c6,c7,c8,c9⟩:=hV.facts;obtain⟨f1,f2,f3,f4,f5,f6⟩:=hV.eB;obtain⟨a1,a2⟩:=hV.qn hi;generalize m.ba.getD (sp p (word ws 1)) 0=hc at a1 hq1 XU;have y2:=hR.at hV (j:=3) (by omega);have KB:=ki hC ⟨_,_,hV.below ((Below.refl _ _).drew)⟩ hb)
 all_goals go_upto_region 18 with fail
 all_goals go_region_law (go_simp;go_at_call 89;refine KB.mono ?_;rintro e w9 ⟨rfl,xN⟩)
 all_goals go_wp2_with fail
 all_goals go_ret
 all_goals exact⟨rfl,xN⟩
end
end Mac
namespace Mac
open Go Go.RowKit Sq Aux PrjJ PrjK PrjL PrjM Go.Proofs.YtmlgajhhnojdjaaGreatDoor.Own RefRa RefP RefC
section
variable {w0 w w1 w2 w3:World} {x gw cw:Nat} {f:Fx} {m:RM} {p:RP} {ws:List B} {t:Nat} {vb vt:Value} {al:List Int}
set_option maxRecDepth 20000 in
set_option maxHeartbeats 2000000 in
theorem QN (hC:Ctx w0 p f)(h:cd w0 x f w m)(hR:Row w0 ws gw)(hn:ws.length=3)(hw:word ws 0=[115,101,116])(h1:Wd p (word ws 1))(h2:(word ws 2).length<=maxLen):
  Calls Tryz.prog 94 #[.pointer (some ⟨x,0,none⟩),.slice (some ⟨gw,0,none⟩) ws.length cw] w fun e w'=>e=.returned (.tuple #[])/\cd w0 x f w' (m.aS f p al ws):=by
 have HG:Hid (m.aS f p al ws=m.be (sp p (word ws 1)) (kX (word ws 2))):=by unfold Hid RM.aS;simp only[hw];rfl
 have la:(ws.length:Int)=3:=by omega
 have y0:=hR.on h (j:=0) (by omega);rw[hw]at y0;have y1:=hR.on h (j:=1) (by omega);have y2:=hR.on h (j:=2) (by omega);have KN:=ej (bs (word ws 2)) w (by rw[dR];exact h2);rw[aE]at KN;have KB:=qE hC h h1 (kX (word ws 2));go_enter Tryz.func94,Tryz.ntmps94
 go_wp2_with (first
  |(go_at_call 112;refine KN.mono ?_;rintro e w1 ⟨rfl,rfl⟩)
  |(go_at_call 150;refine KB.mono ?_;rintro e w2 ⟨rfl,hM⟩))
 go_end0
 exact⟨rfl,by rw[HG.out];exact hM⟩
end
end Mac
namespace Mac
open Go Go.RowKit Sq Aux PrjJ PrjK PrjL PrjM Go.Proofs.YtmlgajhhnojdjaaGreatDoor.Own RefRa RefP RefC
section
variable {w0 w w1 w2 w3:World} {x gw cw:Nat} {f:Fx} {m:RM} {p:RP} {ws:List B} {t:Nat} {vb vt:Value} {al:List Int}
set_option maxRecDepth 20000 in
set_option maxHeartbeats 2000000 in
theorem QG (hC:Ctx w0 p f)(h:cd w0 x f w m)(hR:Row w0 ws gw)(hn:ws.length=4)(hw:word ws 0=[97,100,100])(h1:Wd p (word ws 1))(h2:Wd p (word ws 2))(h3:Wd p (word ws 3)):
  Calls Tryz.prog 94 #[.pointer (some ⟨x,0,none⟩),.slice (some ⟨gw,0,none⟩) ws.length cw] w fun e w'=>e=.returned (.tuple #[])/\cd w0 x f w' (m.aS f p al ws):=by
 have HG:Hid (m.aS f p al ws=m.arith p ws):=by unfold Hid RM.aS;simp only[hw];rfl
 have la:(ws.length:Int)=4:=by omega
 have y0:=hR.on h (j:=0) (by omega);rw[hw]at y0;have KA:=rR (cw:=cw) hC h hR hn h1 h2 h3 (by rw[hw];decide);rw[hn]at KA;go_enter Tryz.func94,Tryz.ntmps94
 go_wp2_with (go_at_call 151;refine KA.mono ?_;rintro e w2 ⟨rfl,hM⟩)
 go_end0
 exact⟨rfl,by rw[HG.out];exact hM⟩
end
end Mac
namespace Mac
open Go Go.RowKit Sq Aux PrjJ PrjK PrjL PrjM Go.Proofs.YtmlgajhhnojdjaaGreatDoor.Own RefRa RefP RefC
section
variable {w0 w w1 w2 w3:World} {x gw cw:Nat} {f:Fx} {m:RM} {p:RP} {ws:List B} {t:Nat} {vb vt:Value} {al:List Int}
set_option maxRecDepth 20000 in
set_option maxHeartbeats 2000000 in
theorem QO (hC:Ctx w0 p f)(h:cd w0 x f w m)(hR:Row w0 ws gw)(hn:ws.length=4)(hw:word ws 0=[115,117,98])(h1:Wd p (word ws 1))(h2:Wd p (word ws 2))(h3:Wd p (word ws 3)):
  Calls Tryz.prog 94 #[.pointer (some ⟨x,0,none⟩),.slice (some ⟨gw,0,none⟩) ws.length cw] w fun e w'=>e=.returned (.tuple #[])/\cd w0 x f w' (m.aS f p al ws):=by
 have HG:Hid (m.aS f p al ws=m.arith p ws):=by unfold Hid RM.aS;simp only[hw];rfl
 have la:(ws.length:Int)=4:=by omega
 have y0:=hR.on h (j:=0) (by omega);rw[hw]at y0;have KA:=rR (cw:=cw) hC h hR hn h1 h2 h3 (by rw[hw];decide);rw[hn]at KA;go_enter Tryz.func94,Tryz.ntmps94
 go_wp2_with (go_at_call 151;refine KA.mono ?_;rintro e w2 ⟨rfl,hM⟩)
 go_end0
 exact⟨rfl,by rw[HG.out];exact hM⟩
end
end Mac
namespace Mac
open Go Go.RowKit Sq Aux PrjJ PrjK PrjL PrjM Go.Proofs.YtmlgajhhnojdjaaGreatDoor.Own RefRa RefP RefC
section
variable {w0 w w1 w2 w3:World} {x gw cw:Nat} {f:Fx} {m:RM} {p:RP} {ws:List B} {t:Nat} {vb vt:Value} {al:List Int}
set_option maxRecDepth 20000 in
set_option maxHeartbeats 2000000 in
theorem QJ (hC:Ctx w0 p f)(h:cd w0 x f w m)(hR:Row w0 ws gw)(hn:ws.length=4)(hw:word ws 0=[109,117,108])(h1:Wd p (word ws 1))(h2:Wd p (word ws 2))(h3:Wd p (word ws 3)):
  Calls Tryz.prog 94 #[.pointer (some ⟨x,0,none⟩),.slice (some ⟨gw,0,none⟩) ws.length cw] w fun e w'=>e=.returned (.tuple #[])/\cd w0 x f w' (m.aS f p al ws):=by
 have HG:Hid (m.aS f p al ws=m.arith p ws):=by unfold Hid RM.aS;simp only[hw];rfl
 have la:(ws.length:Int)=4:=by omega
 have y0:=hR.on h (j:=0) (by omega);rw[hw]at y0;have KA:=rR (cw:=cw) hC h hR hn h1 h2 h3 (by rw[hw];decide);rw[hn]at KA;go_enter Tryz.func94,Tryz.ntmps94
 go_wp2_with (go_at_call 151;refine KA.mono ?_;rintro e w2 ⟨rfl,hM⟩)
 go_end0
 exact⟨rfl,by rw[HG.out];exact hM⟩
end
end Mac
namespace Mac
open Go Go.RowKit Sq Aux PrjJ PrjK PrjL PrjM Go.Proofs.YtmlgajhhnojdjaaGreatDoor.Own RefRa RefP RefC
section
variable {w0 w w1 w2 w3:World} {x gw cw:Nat} {f:Fx} {m:RM} {p:RP} {ws:List B} {t:Nat} {vb vt:Value} {al:List Int}
set_option maxRecDepth 20000 in
set_option maxHeartbeats 2000000 in
theorem QH (hC:Ctx w0 p f)(h:cd w0 x f w m)(hR:Row w0 ws gw)(hn:ws.length=4)(hw:word ws 0=[100,105,118])(h1:Wd p (word ws 1))(h2:Wd p (word ws 2))(h3:Wd p (word ws 3)):
  Calls Tryz.prog 94 #[.pointer (some ⟨x,0,none⟩),.slice (some ⟨gw,0,none⟩) ws.length cw] w fun e w'=>e=.returned (.tuple #[])/\cd w0 x f w' (m.aS f p al ws):=by
 have HG:Hid (m.aS f p al ws=m.arith p ws):=by unfold Hid RM.aS;simp only[hw];rfl
 have la:(ws.length:Int)=4:=by omega
 have y0:=hR.on h (j:=0) (by omega);rw[hw]at y0;have KA:=rR (cw:=cw) hC h hR hn h1 h2 h3 (by rw[hw];decide);rw[hn]at KA;go_enter Tryz.func94,Tryz.ntmps94
 go_wp2_with (go_at_call 151;refine KA.mono ?_;rintro e w2 ⟨rfl,hM⟩)
 go_end0
 exact⟨rfl,by rw[HG.out];exact hM⟩
end
end Mac
namespace Mac
open Go Go.RowKit Sq Aux PrjJ PrjK PrjL PrjM Go.Proofs.YtmlgajhhnojdjaaGreatDoor.Own RefRa RefP RefC
section
variable {w0 w w1 w2 w3:World} {x gw cw:Nat} {f:Fx} {m:RM} {p:RP} {ws:List B} {t:Nat} {vb vt:Value} {al:List Int}
set_option maxRecDepth 20000 in
set_option maxHeartbeats 2000000 in
theorem QL (hC:Ctx w0 p f)(h:cd w0 x f w m)(hR:Row w0 ws gw)(hn:ws.length=2)(hw:word ws 0=[111,117,116])(h1:Wd p (word ws 1))(h0:m.out=0)(hh:m.has.getD (sp p (word ws 1)) false=true)(hO:m.Ok t)(ht:t<=2000000):
  Calls Tryz.prog 94 #[.pointer (some ⟨x,0,none⟩),.slice (some ⟨gw,0,none⟩) ws.length cw] w fun e w'=>e=.returned (.tuple #[])/\cd w0 x f w' (m.aS f p al ws):=by
 have HG:Hid (m.aS f p al ws=m.tell p ws):=by unfold Hid RM.aS;simp only[hw];rfl
 have la:(ws.length:Int)=2:=by omega
 have y0:=hR.on h (j:=0) (by omega);rw[hw]at y0;have HX:Hid (m.tell p ws=m.note 111 (m.int (sp p (word ws 1)))):=by unfold Hid RM.tell;simp only;rw[gZ hh,jb h0]
 have y1:=hR.on h (j:=1) (by omega);have KI:=cN hC h h1;rw[gZ hh]at KI;have htr:=hO.trace;have hi64:aO (m.int (sp p (word ws 1))):=hO.ints _;go_enter Tryz.func94,Tryz.ntmps94
 go_wp2_with (first
  |(go_at_call 147;refine KI.mono ?_;rintro e w1 ⟨rfl,vb1,vt1,lf⟩;obtain⟨c0,c1,c2,c3,c4,c5,c6,c7,c8,c9⟩:=lf.facts;obtain⟨f1,f2,f3,f4,f5,f6⟩:=lf.eB;rw[h0]at c8;have KN:Calls Tryz.prog 152 #[.pointer (some ⟨x,0,none⟩),.string ⟨#[111]⟩,.int .i64 (m.int (sp p (word ws 1)))] _ _:=gd ⟨_,_,lf⟩ 111 (m.int (sp p (word ws 1))) hi64 (by omega))
  |(go_at_call 152;refine KN.mono ?_;rintro e w2 ⟨rfl,hM⟩))
 go_end0
 exact⟨rfl,by rw[HG.out,HX.out];exact hM⟩
end
end Mac
namespace Mac
open Go Go.RowKit Sq Aux PrjJ PrjK PrjL PrjM Go.Proofs.YtmlgajhhnojdjaaGreatDoor.Own RefRa RefP RefC
section
variable {w0 w w1 w2 w3:World} {x gw cw:Nat} {f:Fx} {m:RM} {p:RP} {ws:List B} {t:Nat} {vb vt:Value} {al:List Int}
set_option maxRecDepth 20000 in
set_option maxHeartbeats 2000000 in
theorem NS (hC:Ctx w0 p f)(h:cd w0 x f w m)(hR:Row w0 ws gw)(hn:ws.length=2)(hw:word ws 0=[111,117,116])(h1:Wd p (word ws 1))(hh:¬m.has.getD (sp p (word ws 1)) false=true):
  Calls Tryz.prog 94 #[.pointer (some ⟨x,0,none⟩),.slice (some ⟨gw,0,none⟩) ws.length cw] w fun e w'=>e=.returned (.tuple #[])/\cd w0 x f w' (m.aS f p al ws):=by
 have HG:Hid (m.aS f p al ws=m.tell p ws):=by unfold Hid RM.aS;simp only[hw];rfl
 have la:(ws.length:Int)=2:=by omega
 have y0:=hR.on h (j:=0) (by omega);rw[hw]at y0;have HX:Hid (m.tell p ws={m with out:=5}):=by unfold Hid RM.tell;simp only;rw[kQ hh,ja (by simp)]
 have y1:=hR.on h (j:=1) (by omega);have KI:=cN hC h h1;rw[kQ hh]at KI;go_enter Tryz.func94,Tryz.ntmps94
 go_wp2_with (go_at_call 147;refine KI.mono ?_;rintro e w1 ⟨rfl,vb1,vt1,lf⟩;obtain⟨c0,c1,c2,c3,c4,c5,c6,c7,c8,c9⟩:=lf.facts;obtain⟨f1,f2,f3,f4,f5,f6⟩:=lf.eB)
 go_end0
 exact⟨rfl,by rw[HG.out,HX.out];exact⟨_,_,lf⟩⟩
end
end Mac
namespace Mac
open Go Go.RowKit Sq Aux PrjJ PrjK PrjL PrjM Go.Proofs.YtmlgajhhnojdjaaGreatDoor.Own RefRa RefP RefC
section
variable {w0 w w1 w2 w3:World} {x gw cw:Nat} {f:Fx} {m:RM} {p:RP} {ws:List B} {t:Nat} {vb vt:Value} {al:List Int}
set_option maxRecDepth 20000 in
set_option maxHeartbeats 2000000 in
theorem QK (hC:Ctx w0 p f)(h:cd w0 x f w m)(hR:Row w0 ws gw)(hn:ws.length=3)(hw:word ws 0=[110,101,119])(h1:Wd p (word ws 1))(h2:Wd p (word ws 2))(h0:m.out=0)(hO:m.Ok t)(ht:t<=2000000):
  Calls Tryz.prog 94 #[.pointer (some ⟨x,0,none⟩),.slice (some ⟨gw,0,none⟩) ws.length cw] w fun e w'=>e=.returned (.tuple #[])/\cd w0 x f w' (m.aS f p al ws):=by
 have HG:Hid (m.aS f p al ws=m.new f p ws):=by unfold Hid RM.aS;simp only[hw];rfl
 have la:(ws.length:Int)=3:=by omega
 have y0:=hR.on h (j:=0) (by omega);rw[hw]at y0;have KA:=Vp (cw:=cw) hC h hR hn h1 h2 h0 hw hO ht;rw[hn]at KA;go_enter Tryz.func94,Tryz.ntmps94
 go_wp2_with (go_at_call 153;refine KA.mono ?_;rintro e w2 ⟨rfl,hM⟩)
 go_end0
 exact⟨rfl,by rw[HG.out];exact hM⟩
end
end Mac
namespace Mac
open Go Go.RowKit Sq Aux PrjJ PrjK PrjL PrjM Go.Proofs.YtmlgajhhnojdjaaGreatDoor.Own RefRa RefP RefC
section
variable {w0 w w1 w2 w3:World} {x gw cw:Nat} {f:Fx} {m:RM} {p:RP} {ws:List B} {t:Nat} {vb vt:Value} {al:List Int}
set_option maxRecDepth 20000 in
set_option maxHeartbeats 2000000 in
theorem NP (hC:Ctx w0 p f)(h:cd w0 x f w m)(hR:Row w0 ws gw)(hn:ws.length=3)(hw:word ws 0=[108,111,97,100])(h1:Wd p (word ws 1))(h2:Wd p (word ws 2))(h0:m.out=0)(hO:m.Ok t)(ht:t<=2000000):
  Calls Tryz.prog 94 #[.pointer (some ⟨x,0,none⟩),.slice (some ⟨gw,0,none⟩) ws.length cw] w fun e w'=>e=.returned (.tuple #[])/\cd w0 x f w' (m.aS f p al ws):=by
 have HG:Hid (m.aS f p al ws=m.load p ws):=by unfold Hid RM.aS;simp only[hw];rfl
 have la:(ws.length:Int)=3:=by omega
 have y0:=hR.on h (j:=0) (by omega);rw[hw]at y0;have KA:=Bi (cw:=cw) hC h hR hn h1 h2 h0 hw hO ht;rw[hn]at KA;go_enter Tryz.func94,Tryz.ntmps94
 go_wp2_with (go_at_call 153;refine KA.mono ?_;rintro e w2 ⟨rfl,hM⟩)
 go_end0
 exact⟨rfl,by rw[HG.out];exact hM⟩
end
end Mac
namespace Mac
open Go Go.RowKit Sq Aux PrjJ PrjK PrjL PrjM Go.Proofs.YtmlgajhhnojdjaaGreatDoor.Own RefRa RefP RefC
section
variable {w0 w w1 w2 w3:World} {x gw cw:Nat} {f:Fx} {m:RM} {p:RP} {ws:List B} {t:Nat} {vb vt:Value} {al:List Int}
set_option maxRecDepth 20000 in
set_option maxHeartbeats 2000000 in
theorem JW (hC:Ctx w0 p f)(h:cd w0 x f w m)(hR:Row w0 ws gw)(hn:ws.length=3)(hw:word ws 0=[115,116,111,114,101])(h1:Wd p (word ws 1))(h2:Wd p (word ws 2))(h0:m.out=0)(hO:m.Ok t)(ht:t<=2000000):
  Calls Tryz.prog 94 #[.pointer (some ⟨x,0,none⟩),.slice (some ⟨gw,0,none⟩) ws.length cw] w fun e w'=>e=.returned (.tuple #[])/\cd w0 x f w' (m.aS f p al ws):=by
 have HG:Hid (m.aS f p al ws=m.store p ws):=by unfold Hid RM.aS;simp only[hw];rfl
 have la:(ws.length:Int)=3:=by omega
 have y0:=hR.on h (j:=0) (by omega);rw[hw]at y0;have KA:=yl (cw:=cw) hC h hR hn h1 h2 h0 hw hO ht;rw[hn]at KA;go_enter Tryz.func94,Tryz.ntmps94
 go_wp2_with (go_at_call 153;refine KA.mono ?_;rintro e w2 ⟨rfl,hM⟩)
 go_end0
 exact⟨rfl,by rw[HG.out];exact hM⟩
end
end Mac
namespace Mac
open Go Go.RowKit Sq Aux PrjJ PrjK PrjL PrjM Go.Proofs.YtmlgajhhnojdjaaGreatDoor.Own RefRa RefP RefC
section
variable {w0 w w1 w2 w3:World} {x gw cw:Nat} {f:Fx} {m:RM} {p:RP} {ws:List B} {t:Nat} {vb vt:Value} {al:List Int}
set_option maxRecDepth 20000 in
set_option maxHeartbeats 2000000 in
theorem NQ (hC:Ctx w0 p f)(h:cd w0 x f w m)(hR:Row w0 ws gw)(hn:ws.length=3)(hw:word ws 0=[109,111,118,101])(h1:Wd p (word ws 1))(h2:Wd p (word ws 2))(hO:m.Ok t)(ht:t<=2000000)(mr:sp p (word ws 1)+(p.ak (word ws 2)).2<=24)(hf:f.owns=true):
  Calls Tryz.prog 94 #[.pointer (some ⟨x,0,none⟩),.slice (some ⟨gw,0,none⟩) ws.length cw] w fun e w'=>e=.returned (.tuple #[])/\cd w0 x f w' (m.aS f p al ws):=by
 have HG:Hid (m.aS f p al ws=m.owned p ws):=by unfold Hid RM.aS;simp only[hw,hf];rfl
 have la:(ws.length:Int)=3:=by omega
 have y0:=hR.on h (j:=0) (by omega);rw[hw]at y0;have KA:=DC (cw:=cw) hC h hR hn h1 h2 (by rw[hw];decide) hO ht mr;rw[hn]at KA;obtain⟨vb,vt,hV⟩:=h;obtain⟨c0,c1,c2,c3,c4,c5,c6,c7,c8,c9⟩:=hV.facts;rw[hf]at c1;go_enter Tryz.func94,Tryz.ntmps94
 go_wp2_with (go_at_call 154;refine KA.mono ?_;rintro e w2 ⟨rfl,hM⟩)
 go_end0
 exact⟨rfl,by rw[HG.out];exact hM⟩
end
end Mac
namespace Mac
open Go Go.RowKit Sq Aux PrjJ PrjK PrjL PrjM Go.Proofs.YtmlgajhhnojdjaaGreatDoor.Own RefRa RefP RefC
section
variable {w0 w w1 w2 w3:World} {x gw cw:Nat} {f:Fx} {m:RM} {p:RP} {ws:List B} {t:Nat} {vb vt:Value} {al:List Int}
set_option maxRecDepth 20000 in
set_option maxHeartbeats 2000000 in
theorem NT (hC:Ctx w0 p f)(h:cd w0 x f w m)(hR:Row w0 ws gw)(hn:ws.length=3)(hw:word ws 0=[115,111,109,101])(h1:Wd p (word ws 1))(h2:Wd p (word ws 2))(hO:m.Ok t)(ht:t<=2000000)(mr:sp p (word ws 1)+(p.ak (word ws 2)).2<=24)(hf:f.owns=true):
  Calls Tryz.prog 94 #[.pointer (some ⟨x,0,none⟩),.slice (some ⟨gw,0,none⟩) ws.length cw] w fun e w'=>e=.returned (.tuple #[])/\cd w0 x f w' (m.aS f p al ws):=by
 have HG:Hid (m.aS f p al ws=m.owned p ws):=by unfold Hid RM.aS;simp only[hw,hf];rfl
 have la:(ws.length:Int)=3:=by omega
 have y0:=hR.on h (j:=0) (by omega);rw[hw]at y0;have KA:=DC (cw:=cw) hC h hR hn h1 h2 (by rw[hw];decide) hO ht mr;rw[hn]at KA;obtain⟨vb,vt,hV⟩:=h;obtain⟨c0,c1,c2,c3,c4,c5,c6,c7,c8,c9⟩:=hV.facts;rw[hf]at c1;go_enter Tryz.func94,Tryz.ntmps94
 go_wp2_with (go_at_call 154;refine KA.mono ?_;rintro e w2 ⟨rfl,hM⟩)
 go_end0
 exact⟨rfl,by rw[HG.out];exact hM⟩
end
end Mac
namespace Mac
open Go Go.RowKit Sq Aux PrjJ PrjK PrjL PrjM Go.Proofs.YtmlgajhhnojdjaaGreatDoor.Own RefRa RefP RefC
section
variable {w0 w w1 w2 w3:World} {x gw cw:Nat} {f:Fx} {m:RM} {p:RP} {ws:List B} {t:Nat} {vb vt:Value} {al:List Int}
set_option maxRecDepth 20000 in
set_option maxHeartbeats 2000000 in
theorem NO (hC:Ctx w0 p f)(h:cd w0 x f w m)(hR:Row w0 ws gw)(hn:ws.length=2)(hw:word ws 0=[100,114,111,112])(h1:Wd p (word ws 1))(hO:m.Ok t)(ht:t<=2000000):
  Calls Tryz.prog 94 #[.pointer (some ⟨x,0,none⟩),.slice (some ⟨gw,0,none⟩) ws.length cw] w fun e w'=>e=.returned (.tuple #[])/\cd w0 x f w' (m.aS f p al ws):=by
 have HG:Hid (m.aS f p al ws=m.drop p (word ws 1)):=by unfold Hid RM.aS;simp only[hw];rfl
 have la:(ws.length:Int)=2:=by omega
 have y0:=hR.on h (j:=0) (by omega);rw[hw]at y0;have y1:=hR.on h (j:=1) (by omega);have KA:=fY hC h h1 hO (by omega);go_enter Tryz.func94,Tryz.ntmps94
 go_wp2_with (go_at_call 148;refine KA.mono ?_;rintro e w2 ⟨rfl,hM⟩)
 go_end0
 exact⟨rfl,by rw[HG.out];exact hM⟩
end
end Mac
namespace Mac
open Go Go.RowKit Sq Aux PrjJ PrjK PrjL PrjM Go.Proofs.YtmlgajhhnojdjaaGreatDoor.Own RefRa RefP RefC
section
variable {w0 w w1 w2 w3:World} {x gw cw:Nat} {f:Fx} {m:RM} {p:RP} {ws:List B} {t:Nat} {vb vt:Value} {al:List Int}
set_option maxRecDepth 20000 in
set_option maxHeartbeats 2000000 in
theorem NR (hC:Ctx w0 p f)(h:cd w0 x f w m)(hR:Row w0 ws gw)(hn:ws.length=2)(hw:word ws 0=[110,111,110,101])(h1:Wd p (word ws 1))(hO:m.Ok t)(ht:t<=2000000)(hf:f.owns=true):
  Calls Tryz.prog 94 #[.pointer (some ⟨x,0,none⟩),.slice (some ⟨gw,0,none⟩) ws.length cw] w fun e w'=>e=.returned (.tuple #[])/\cd w0 x f w' (m.aS f p al ws):=by
 have HG:Hid (m.aS f p al ws=m.none f p ws):=by unfold Hid RM.aS;simp only[hw];rfl
 have la:(ws.length:Int)=2:=by omega
 have y0:=hR.on h (j:=0) (by omega);rw[hw]at y0;have HX:Hid (m.none f p ws={m.drop p (word ws 1)with ba:=(m.drop p (word ws 1)).ba.set (sp p (word ws 1)) 110}):=by unfold Hid RM.none;simp only;rw[jb hf]
 have y1:=hR.on h (j:=1) (by omega);have KA:=fY hC h h1 hO (by omega);obtain⟨hi,-⟩:=h1.lt hC.aW;have i1:((sp p (word ws 1):Nat):Int)<24:=by omega
 obtain⟨vb,vt,hV⟩:=h;obtain⟨c0,c1,c2,c3,c4,c5,c6,c7,c8,c9⟩:=hV.facts;rw[hf]at c1;go_enter Tryz.func94,Tryz.ntmps94
 go_upto_region 31 with(go_at_call 148;refine KA.mono ?_;rintro e w2 ⟨rfl,hM⟩;have y2:=hR.on hM (j:=1) (by omega);have KS:=fc hC (hM.below ((Below.refl w2.heap.size w2).drew)) h1)
 go_region_law (go_simp;go_at_call 149;refine KS.mono ?_;rintro e w3 ⟨rfl,vb3,vt3,qt⟩;obtain⟨a1,a2⟩:=qt.qn hi;have N9:=qt.pX hi 110)
 all_goals go_wp2_with fail
 all_goals go_end0
 all_goals exact⟨rfl,by rw[HG.out,HX.out];exact⟨_,_,N9⟩⟩
end
end Mac
namespace Mac
open Go Go.RowKit Sq Aux PrjJ PrjK PrjL PrjM Go.Proofs.YtmlgajhhnojdjaaGreatDoor.Own RefRa RefP RefC
section
variable {w0 w w1 w2 w3:World} {x gw cw:Nat} {f:Fx} {m:RM} {p:RP} {ws:List B} {t:Nat} {vb vt:Value} {al:List Int}
set_option maxRecDepth 20000 in
set_option maxHeartbeats 2000000 in
theorem Uv (hC:Ctx w0 p f)(h:cd w0 x f w m)(hR:Row w0 ws gw)(hn:ws.length=2)(hw:word ws 0=[105,110])(h1:Wd p (word ws 1))(hF:bY w0 f.vi al)(hu:m.used<al.length)(hO:m.Ok t)(ht:t<=2000000):
  Calls Tryz.prog 94 #[.pointer (some ⟨x,0,none⟩),.slice (some ⟨gw,0,none⟩) ws.length cw] w fun e w'=>e=.returned (.tuple #[])/\cd w0 x f w' (m.aS f p al ws):=by
 have HG:Hid (m.aS f p al ws=m.input p al ws):=by unfold Hid RM.aS;simp only[hw];rfl
 have la:(ws.length:Int)=2:=by omega
 have y0:=hR.on h (j:=0) (by omega);rw[hw]at y0;obtain⟨ad,cp,hvi,tn,Dh,aD⟩:=hF;obtain⟨g,fo,rfl,hg,hc⟩:=aD _ hu;obtain⟨vb,vt,hV⟩:=h;have q1:=(hV.br.cell (p:=⟨g,fo+m.used,none⟩) hg).trans hc;obtain⟨c0,c1,c2,c3,c4,c5,c6,c7,c8,c9⟩:=hV.facts;obtain⟨f1,f2,f3,f4,f5,f6⟩:=hV.eB;rw[hvi]at c6;have hub:=hO.used;have i1:((m.used:Nat):Int)<al.length:=by omega
 have TZ:al.getD m.used 0=al[m.used]:=by rw[jA,jB hu];rfl
 go_enter Tryz.func94,Tryz.ntmps94
 go_upto_region 11 with fail
 go_quiet (fail)
 have Kd:bO w0 x f (w.drewN nq) m vb vt:=hV.below (below_drewN (Below.refl _ _) _);have q2:(w.drewN nq).cell? ⟨g,fo+m.used,none⟩=some (.int .i64 (al.getD m.used 0)):=(Kd.br.cell (p:=⟨g,fo+m.used,none⟩) hg).trans hc;clear hV q1 c0 c1 c2 c3 c4 c5 c6 c7 c8 c9 f1 f2 f3 f4 f5 f6;generalize w.drewN nq=wq at*;obtain⟨c0,c1,c2,c3,c4,c5,c6,c7,c8,c9⟩:=Kd.facts;rw[hvi]at c6;go_upto_region 12 with fail
 go_quiet (fail)
 have Xl:bO w0 x f (wq.drewN nq) m vb vt:=Kd.below (below_drewN (Below.refl _ _) _);clear Kd q2 c0 c1 c2 c3 c4 c5 c6 c7 c8 c9;generalize wq.drewN nq=wz at*;obtain⟨c0,c1,c2,c3,c4,c5,c6,c7,c8,c9⟩:=Xl.facts;obtain⟨f1,f2,f3,f4,f5,f6⟩:=Xl.eB;have eR:bO w0 x f (wz.setCell ⟨x,153,none⟩ (.int .i64 ((m.used:Int)+1))) {m with used:=m.used+1} vb vt:=by
  have h9:=Xl.Ni (m.used+1);rw[show((m.used+1:Nat):Int)=(m.used:Int)+1 from by omega]at h9;exact h9
 have y1:=hR.at eR (j:=1) (by omega);have KB:=qE hC ⟨_,_,eR⟩ h1 al[m.used];go_wp2_with (go_at_call 150;refine KB.mono ?_;rintro e w2 ⟨rfl,hM⟩)
 go_end0
 refine⟨rfl,?_⟩;rw[HG.out];unfold RM.input;rw[TZ];exact hM
end
end Mac
namespace Mac
open Go Go.RowKit Sq Aux PrjJ PrjK PrjL PrjM Go.Proofs.YtmlgajhhnojdjaaGreatDoor.Own RefRa RefP RefC
section
variable {w0 w w1 w2 w3:World} {x gw cw:Nat} {f:Fx} {m:RM} {p:RP} {ws:List B} {t:Nat} {vb vt:Value} {al:List Int}
set_option maxRecDepth 20000 in
set_option maxHeartbeats 2000000 in
theorem QI (hC:Ctx w0 p f)(h:cd w0 x f w m)(hR:Row w0 ws gw)(hn:ws.length=2)(hw:word ws 0=[105,110])(h1:Wd p (word ws 1))(hF:bY w0 f.vi al)(hu:¬m.used<al.length)(hO:m.Ok t)(ht:t<=2000000):
  Calls Tryz.prog 94 #[.pointer (some ⟨x,0,none⟩),.slice (some ⟨gw,0,none⟩) ws.length cw] w fun e w'=>e=.returned (.tuple #[])/\cd w0 x f w' (m.aS f p al ws):=by
 have HG:Hid (m.aS f p al ws=m.input p al ws):=by unfold Hid RM.aS;simp only[hw];rfl
 have la:(ws.length:Int)=2:=by omega
 have y0:=hR.on h (j:=0) (by omega);rw[hw]at y0;obtain⟨ad,cp,hvi,tn,Dh,aD⟩:=hF;obtain⟨vb,vt,hV⟩:=h;obtain⟨c0,c1,c2,c3,c4,c5,c6,c7,c8,c9⟩:=hV.facts;rw[hvi]at c6;have hub:=hO.used;have i1:¬((m.used:Nat):Int)<al.length:=by omega
 have TZ:al.getD m.used 0=0:=by rw[jA,jG (by omega)];rfl
 go_enter Tryz.func94,Tryz.ntmps94
 go_upto_region 11 with fail
 go_quiet (fail)
 have Xl:bO w0 x f (w.drewN nq) m vb vt:=hV.below (below_drewN (Below.refl _ _) _);clear hV c0 c1 c2 c3 c4 c5 c6 c7 c8 c9;generalize w.drewN nq=wz at*;obtain⟨c0,c1,c2,c3,c4,c5,c6,c7,c8,c9⟩:=Xl.facts;obtain⟨f1,f2,f3,f4,f5,f6⟩:=Xl.eB;have eR:bO w0 x f (wz.setCell ⟨x,153,none⟩ (.int .i64 ((m.used:Int)+1))) {m with used:=m.used+1} vb vt:=by
  have h9:=Xl.Ni (m.used+1);rw[show((m.used+1:Nat):Int)=(m.used:Int)+1 from by omega]at h9;exact h9
 have y1:=hR.at eR (j:=1) (by omega);have KB:=qE hC ⟨_,_,eR⟩ h1 0;go_wp2_with (go_at_call 150;refine KB.mono ?_;rintro e w2 ⟨rfl,hM⟩)
 go_end0
 refine⟨rfl,?_⟩;rw[HG.out];unfold RM.input;rw[TZ];exact hM
end
end Mac
end Go.Proofs.YtmlgajhhnojdjaaGreatDoor

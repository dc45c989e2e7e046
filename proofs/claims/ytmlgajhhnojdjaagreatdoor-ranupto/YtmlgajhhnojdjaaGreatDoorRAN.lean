import Derived.Test.YtmlgajhhnojdjaaGreatDoorRAM
namespace Go.Proofs.YtmlgajhhnojdjaaGreatDoor
namespace Mac
open Go Go.RowKit Sq Aux PrjJ PrjK PrjL PrjM Go.Proofs.YtmlgajhhnojdjaaGreatDoor.Own RefRa RefP
structure Row (w0:World)(ws:List B)(gw:Nat):Prop where
 lt:gw<w0.heap.size
 cells:∀j,j<ws.length->w0.cell? ⟨gw,j,none⟩=some (.string (bs (word ws j)))
 wide:ws.length<=1099511627777
section
variable {w0 w w1 w2 w3:World} {x gw cw:Nat} {f:Fx} {m:RM} {p:RP} {ws:List B} {t:Nat} {vb vt:Value}
theorem Row.at (h:Row w0 ws gw)(hV:bO w0 x f w m vb vt){j:Nat}(hj:j<ws.length):w.cell? ⟨gw,j,none⟩=some (.string (bs (word ws j))):=(hV.br.cell (p:=⟨gw,j,none⟩) h.lt).trans (h.cells j hj)
theorem Row.on (h:Row w0 ws gw)(hM:cd w0 x f w m){j:Nat}(hj:j<ws.length):w.cell? ⟨gw,j,none⟩=some (.string (bs (word ws j))):=by obtain⟨vb,vt,hV⟩:=hM;exact h.at hV hj
theorem oW (i j:Nat):(m.bE i).int j=m.int j:=by unfold RM.bE;split<;>rfl
theorem SR {n:Nat}(h:¬n=0):¬((n:Nat):Int)=0:=by omega
set_option maxRecDepth 20000 in
set_option maxHeartbeats 2000000 in
theorem ND (hC:Ctx w0 p f)(h:cd w0 x f w m)(hR:Row w0 ws gw)(hn:ws.length=4)(h2:Wd p (word ws 2))(h3:Wd p (word ws 3))(ho:¬((m.bE (sp p (word ws 2))).bE (sp p (word ws 3))).out=0):
  Calls Tryz.prog 151 #[.pointer (some ⟨x,0,none⟩),.slice (some ⟨gw,0,none⟩) ws.length cw] w fun e w'=>e=.returned (.tuple #[])/\cd w0 x f w' (m.arith p ws):=by
 have Js:=SR ho;have HG:Hid (m.arith p ws=(m.bE (sp p (word ws 2))).bE (sp p (word ws 3))):=by unfold Hid RM.arith;simp only;rw[jb ho]
 have la:(ws.length:Int)=4:=by omega
 have xX:=hR.on h (j:=2) (by omega);have Qk:=cN hC h h2;go_enter Tryz.func151,Tryz.ntmps151
 go_wp2_with (first
  |(go_at_call 147;refine FH.mono ?_;rintro e w2 ⟨rfl,vb2,vt2,eR⟩;obtain⟨c0,c1,c2,c3,c4,c5,c6,c7,c8,c9⟩:=eR.facts;obtain⟨f1,f2,f3,f4,f5,f6⟩:=eR.eB;skip)
  |(go_at_call 147;refine Qk.mono ?_;rintro e w1 ⟨rfl,xM⟩;have hz3:=hR.on xM (j:=3) (by omega);have FH:=cN hC xM h3;rw[oW]at FH))
 try simp only[Exit.inBlock,Exit.then]
 refine bodyPost_ret (results_none rfl _ _ _) rfl ?_;exact⟨rfl,by rw[HG.out];exact⟨_,_,eR⟩⟩
set_option maxRecDepth 20000 in
set_option maxHeartbeats 2000000 in
theorem NA (hC:Ctx w0 p f)(h:cd w0 x f w m)(hR:Row w0 ws gw)(hn:ws.length=4)(h1:Wd p (word ws 1))(h2:Wd p (word ws 2))(h3:Wd p (word ws 3))(h0:word ws 0=[97,100,100])(ho:((m.bE (sp p (word ws 2))).bE (sp p (word ws 3))).out=0):
  Calls Tryz.prog 151 #[.pointer (some ⟨x,0,none⟩),.slice (some ⟨gw,0,none⟩) ws.length cw] w fun e w'=>e=.returned (.tuple #[])/\cd w0 x f w' (m.arith p ws):=by
 have Js:((((m.bE (sp p (word ws 2))).bE (sp p (word ws 3))).out:Nat):Int)=0:=by omega
 have HG:Hid (m.arith p ws=((m.bE (sp p (word ws 2))).bE (sp p (word ws 3))).be (sp p (word ws 1)) (wrap64 (m.int (sp p (word ws 2))+m.int (sp p (word ws 3))))):=by unfold Hid RM.arith;rw[h0];simp only;rw[ja (by rw[ho];decide),ja (fun e=>absurd e.1 (by decide))];rfl
 have la:(ws.length:Int)=4:=by omega
 have xX:=hR.on h (j:=2) (by omega);have Qk:=cN hC h h2;go_enter Tryz.func151,Tryz.ntmps151
 go_wp2_with (first
  |(go_at_call 147;refine FH.mono ?_;rintro e w2 ⟨rfl,vb2,vt2,eR⟩;obtain⟨c0,c1,c2,c3,c4,c5,c6,c7,c8,c9⟩:=eR.facts;obtain⟨f1,f2,f3,f4,f5,f6⟩:=eR.eB;rw[Js]at c8;have y0:=hR.at eR (j:=0) (by omega);rw[h0]at y0;have y1:=hR.at eR (j:=1) (by omega);have KB:=qE hC ⟨_,_,eR⟩ h1 (wrap64 (m.int (sp p (word ws 2))+m.int (sp p (word ws 3)))))
  |(go_at_call 147;refine Qk.mono ?_;rintro e w1 ⟨rfl,xM⟩;have hz3:=hR.on xM (j:=3) (by omega);have FH:=cN hC xM h3;rw[oW]at FH)
  |(go_at_call 150;refine KB.mono ?_;rintro e w9 ⟨rfl,xN⟩))
 go_end0
 exact⟨rfl,by rw[HG.out];exact xN⟩
set_option maxRecDepth 20000 in
set_option maxHeartbeats 2000000 in
theorem NF (hC:Ctx w0 p f)(h:cd w0 x f w m)(hR:Row w0 ws gw)(hn:ws.length=4)(h1:Wd p (word ws 1))(h2:Wd p (word ws 2))(h3:Wd p (word ws 3))(h0:word ws 0=[115,117,98])(ho:((m.bE (sp p (word ws 2))).bE (sp p (word ws 3))).out=0):
  Calls Tryz.prog 151 #[.pointer (some ⟨x,0,none⟩),.slice (some ⟨gw,0,none⟩) ws.length cw] w fun e w'=>e=.returned (.tuple #[])/\cd w0 x f w' (m.arith p ws):=by
 have Js:((((m.bE (sp p (word ws 2))).bE (sp p (word ws 3))).out:Nat):Int)=0:=by omega
 have HG:Hid (m.arith p ws=((m.bE (sp p (word ws 2))).bE (sp p (word ws 3))).be (sp p (word ws 1)) (wrap64 (m.int (sp p (word ws 2))-m.int (sp p (word ws 3))))):=by unfold Hid RM.arith;rw[h0];simp only;rw[ja (by rw[ho];decide),ja (fun e=>absurd e.1 (by decide))];rfl
 have la:(ws.length:Int)=4:=by omega
 have xX:=hR.on h (j:=2) (by omega);have Qk:=cN hC h h2;go_enter Tryz.func151,Tryz.ntmps151
 go_wp2_with (first
  |(go_at_call 147;refine FH.mono ?_;rintro e w2 ⟨rfl,vb2,vt2,eR⟩;obtain⟨c0,c1,c2,c3,c4,c5,c6,c7,c8,c9⟩:=eR.facts;obtain⟨f1,f2,f3,f4,f5,f6⟩:=eR.eB;rw[Js]at c8;have y0:=hR.at eR (j:=0) (by omega);rw[h0]at y0;have y1:=hR.at eR (j:=1) (by omega);have KB:=qE hC ⟨_,_,eR⟩ h1 (wrap64 (m.int (sp p (word ws 2))-m.int (sp p (word ws 3)))))
  |(go_at_call 147;refine Qk.mono ?_;rintro e w1 ⟨rfl,xM⟩;have hz3:=hR.on xM (j:=3) (by omega);have FH:=cN hC xM h3;rw[oW]at FH)
  |(go_at_call 150;refine KB.mono ?_;rintro e w9 ⟨rfl,xN⟩))
 go_end0
 exact⟨rfl,by rw[HG.out];exact xN⟩
set_option maxRecDepth 20000 in
set_option maxHeartbeats 2000000 in
theorem NC (hC:Ctx w0 p f)(h:cd w0 x f w m)(hR:Row w0 ws gw)(hn:ws.length=4)(h1:Wd p (word ws 1))(h2:Wd p (word ws 2))(h3:Wd p (word ws 3))(h0:word ws 0=[109,117,108])(ho:((m.bE (sp p (word ws 2))).bE (sp p (word ws 3))).out=0):
  Calls Tryz.prog 151 #[.pointer (some ⟨x,0,none⟩),.slice (some ⟨gw,0,none⟩) ws.length cw] w fun e w'=>e=.returned (.tuple #[])/\cd w0 x f w' (m.arith p ws):=by
 have Js:((((m.bE (sp p (word ws 2))).bE (sp p (word ws 3))).out:Nat):Int)=0:=by omega
 have HG:Hid (m.arith p ws=((m.bE (sp p (word ws 2))).bE (sp p (word ws 3))).be (sp p (word ws 1)) (wrap64 (m.int (sp p (word ws 2))*m.int (sp p (word ws 3))))):=by unfold Hid RM.arith;rw[h0];simp only;rw[ja (by rw[ho];decide),ja (fun e=>absurd e.1 (by decide))];rfl
 have la:(ws.length:Int)=4:=by omega
 have xX:=hR.on h (j:=2) (by omega);have Qk:=cN hC h h2;go_enter Tryz.func151,Tryz.ntmps151
 go_wp2_with (first
  |(go_at_call 147;refine FH.mono ?_;rintro e w2 ⟨rfl,vb2,vt2,eR⟩;obtain⟨c0,c1,c2,c3,c4,c5,c6,c7,c8,c9⟩:=eR.facts;obtain⟨f1,f2,f3,f4,f5,f6⟩:=eR.eB;rw[Js]at c8;have y0:=hR.at eR (j:=0) (by omega);rw[h0]at y0;have y1:=hR.at eR (j:=1) (by omega);have KB:=qE hC ⟨_,_,eR⟩ h1 (wrap64 (m.int (sp p (word ws 2))*m.int (sp p (word ws 3)))))
  |(go_at_call 147;refine Qk.mono ?_;rintro e w1 ⟨rfl,xM⟩;have hz3:=hR.on xM (j:=3) (by omega);have FH:=cN hC xM h3;rw[oW]at FH)
  |(go_at_call 150;refine KB.mono ?_;rintro e w9 ⟨rfl,xN⟩))
 go_end0
 exact⟨rfl,by rw[HG.out];exact xN⟩
set_option maxRecDepth 20000 in
set_option maxHeartbeats 2000000 in
theorem NB (hC:Ctx w0 p f)(h:cd w0 x f w m)(hR:Row w0 ws gw)(hn:ws.length=4)(h1:Wd p (word ws 1))(h2:Wd p (word ws 2))(h3:Wd p (word ws 3))(h0:word ws 0=[100,105,118])(ho:((m.bE (sp p (word ws 2))).bE (sp p (word ws 3))).out=0)(hd:¬m.int (sp p (word ws 3))=0):
  Calls Tryz.prog 151 #[.pointer (some ⟨x,0,none⟩),.slice (some ⟨gw,0,none⟩) ws.length cw] w fun e w'=>e=.returned (.tuple #[])/\cd w0 x f w' (m.arith p ws):=by
 have Js:((((m.bE (sp p (word ws 2))).bE (sp p (word ws 3))).out:Nat):Int)=0:=by omega
 have HG:Hid (m.arith p ws=((m.bE (sp p (word ws 2))).bE (sp p (word ws 3))).be (sp p (word ws 1)) (wrap64 ((m.int (sp p (word ws 2))).tdiv (m.int (sp p (word ws 3)))))):=by unfold Hid RM.arith;rw[h0];simp only;rw[ja (by rw[ho];decide),ja (fun e=>hd e.2)];rfl
 have la:(ws.length:Int)=4:=by omega
 have xX:=hR.on h (j:=2) (by omega);have Qk:=cN hC h h2;go_enter Tryz.func151,Tryz.ntmps151
 go_wp2_with (first
  |(go_at_call 147;refine FH.mono ?_;rintro e w2 ⟨rfl,vb2,vt2,eR⟩;obtain⟨c0,c1,c2,c3,c4,c5,c6,c7,c8,c9⟩:=eR.facts;obtain⟨f1,f2,f3,f4,f5,f6⟩:=eR.eB;rw[Js]at c8;have y0:=hR.at eR (j:=0) (by omega);rw[h0]at y0;have y1:=hR.at eR (j:=1) (by omega);have KB:=qE hC ⟨_,_,eR⟩ h1 (wrap64 ((m.int (sp p (word ws 2))).tdiv (m.int (sp p (word ws 3))))))
  |(go_at_call 147;refine Qk.mono ?_;rintro e w1 ⟨rfl,xM⟩;have hz3:=hR.on xM (j:=3) (by omega);have FH:=cN hC xM h3;rw[oW]at FH)
  |(go_at_call 150;refine KB.mono ?_;rintro e w9 ⟨rfl,xN⟩))
 go_end0
 exact⟨rfl,by rw[HG.out];exact xN⟩
set_option maxRecDepth 20000 in
set_option maxHeartbeats 2000000 in
theorem JF (hC:Ctx w0 p f)(h:cd w0 x f w m)(hR:Row w0 ws gw)(hn:ws.length=4)(h2:Wd p (word ws 2))(h3:Wd p (word ws 3))(h0:word ws 0=[100,105,118])(ho:((m.bE (sp p (word ws 2))).bE (sp p (word ws 3))).out=0)(hd:m.int (sp p (word ws 3))=0):
  Calls Tryz.prog 151 #[.pointer (some ⟨x,0,none⟩),.slice (some ⟨gw,0,none⟩) ws.length cw] w fun e w'=>e=.returned (.tuple #[])/\cd w0 x f w' (m.arith p ws):=by
 have Js:((((m.bE (sp p (word ws 2))).bE (sp p (word ws 3))).out:Nat):Int)=0:=by omega
 have HG:Hid (m.arith p ws={(m.bE (sp p (word ws 2))).bE (sp p (word ws 3))with out:=4}):=by unfold Hid RM.arith;rw[h0];simp only;rw[ja (by rw[ho];decide),jb ⟨rfl,hd⟩]
 have la:(ws.length:Int)=4:=by omega
 have xX:=hR.on h (j:=2) (by omega);have Qk:=cN hC h h2;go_enter Tryz.func151,Tryz.ntmps151
 go_wp2_with (first
  |(go_at_call 147;refine FH.mono ?_;rintro e w2 ⟨rfl,vb2,vt2,eR⟩;obtain⟨c0,c1,c2,c3,c4,c5,c6,c7,c8,c9⟩:=eR.facts;obtain⟨f1,f2,f3,f4,f5,f6⟩:=eR.eB;rw[Js]at c8;have y0:=hR.at eR (j:=0) (by omega);rw[h0]at y0;have qt:=eR.tG 4)
  |(go_at_call 147;refine Qk.mono ?_;rintro e w1 ⟨rfl,xM⟩;have hz3:=hR.on xM (j:=3) (by omega);have FH:=cN hC xM h3;rw[oW]at FH))
 try simp only[Exit.inBlock,Exit.then]
 refine bodyPost_ret (results_none rfl _ _ _) rfl ?_;exact⟨rfl,by rw[HG.out];exact⟨_,_,qt⟩⟩
theorem rR (hC:Ctx w0 p f)(h:cd w0 x f w m)(hR:Row w0 ws gw)(hn:ws.length=4)(h1:Wd p (word ws 1))(h2:Wd p (word ws 2))(h3:Wd p (word ws 3))(h0:word ws 0=yq\/word ws 0=yt\/word ws 0=yr\/word ws 0=sB):
  Calls Tryz.prog 151 #[.pointer (some ⟨x,0,none⟩),.slice (some ⟨gw,0,none⟩) ws.length cw] w fun e w'=>e=.returned (.tuple #[])/\cd w0 x f w' (m.arith p ws):=by
 by_cases ho:((m.bE (sp p (word ws 2))).bE (sp p (word ws 3))).out=0
 ·rcases h0 with h0|h0|h0|h0
  ·exact NA hC h hR hn h1 h2 h3 h0 ho
  ·exact NF hC h hR hn h1 h2 h3 h0 ho
  ·exact NC hC h hR hn h1 h2 h3 h0 ho
  ·by_cases hd:m.int (sp p (word ws 3))=0
   ·exact JF hC h hR hn h2 h3 h0 ho hd
   ·exact NB hC h hR hn h1 h2 h3 h0 ho hd
 ·exact ND hC h hR hn h2 h3 ho
end
end Mac
namespace Mac
open Go Go.RowKit Sq Aux PrjJ PrjK PrjL PrjM Go.Proofs.YtmlgajhhnojdjaaGreatDoor.Own RefRa RefP RefO
theorem Oo:(Tryz.prog.info? 264).map (fun i=>(i.zero,i.size,i.bytes))=some (some (.agg #[.int .i64 0,.bool false]),2,16):=by kernel_rfl
section
variable {w0 w w1 w2 w3:World} {x:Nat} {f:Fx} {m:RM} {p:RP} {l:B} {t:Nat}
set_option maxRecDepth 20000 in
set_option maxHeartbeats 2000000 in
theorem H9 (hC:Ctx w0 p f)(h:cd w0 x f w m)(hl:Wd p l)(v:Int)(hO:m.Ok t)(ht:t<=3000000):
  Calls Tryz.prog 192 #[.pointer (some ⟨x,0,none⟩),.string (bs l),.int .i64 v] w fun e w'=>e=.returned (.tuple #[])/\cd w0 x f w' (m.made f (sp p l) v):=by
 obtain⟨hi,-⟩:=hl.lt hC.aW;obtain⟨i,Z3,A1,Ez,xX⟩:=info_parts Oo;have hb:=hO.boxes;have hc:=hO.count;have htr:=hO.trace;by_cases hr:f.room<=m.count
 ·have HG:Hid (m.made f (sp p l) v={m with out:=3}):=by unfold Hid RM.made;rw[jb hr]
  obtain⟨vb,vt,hV⟩:=h;obtain⟨c0,c1,c2,c3,c4,c5,c6,c7,c8,c9⟩:=hV.facts;go_enter Tryz.func192,Tryz.ntmps192
  go_upto_region 0 with fail
  go_quiet (fail)
  have Kd:bO w0 x f (w.drewN nq) m vb vt:=hV.below (below_drewN (Below.refl _ _) _);clear hV c0 c1 c2 c3 c4 c5 c6 c7 c8 c9;generalize w.drewN nq=wq at*;obtain⟨f1,f2,f3,f4,f5,f6⟩:=Kd.eB;obtain⟨c0,c1,c2,c3,c4,c5,c6,c7,c8,c9⟩:=Kd.facts;have eR:bO w0 x f (wq.setCell ⟨x,154,none⟩ (.int .i64 3)) {m with out:=3} vb vt:=Kd.tG 3;go_wp2
  try simp only[Exit.inBlock,Exit.then]
  refine bodyPost_ret (results_none rfl _ _ _) rfl ?_;exact⟨rfl,by rw[HG.out];exact⟨vb,vt,eR⟩⟩
 ·have HG:Hid (m.made f (sp p l) v=(let m1:=RM.note {m with boxes:=m.boxes++[(v,true)],count:=m.count+1} 43 ((m.boxes.length+1:Nat):Int);let m2:RM:={m1 with held:=m1.held.set (sp p l) (m.boxes.length+1)};if f.owns=true then{m2 with ba:=m2.ba.set (sp p l) 119}else m2)):=by unfold Hid RM.made;rw[ja hr]
  have i1:((sp p l:Nat):Int)<24:=by omega
  obtain⟨vb,vt,hV⟩:=h;obtain⟨c0,c1,c2,c3,c4,c5,c6,c7,c8,c9⟩:=hV.facts;go_enter Tryz.func192,Tryz.ntmps192
  go_upto_region 0 with fail
  go_quiet (fail)
  have Kd:bO w0 x f (w.drewN nq) m vb vt:=hV.below (below_drewN (Below.refl _ _) _);clear hV c0 c1 c2 c3 c4 c5 c6 c7 c8 c9;generalize w.drewN nq=wq at*;obtain⟨c0,c1,c2,c3,c4,c5,c6,c7,c8,c9⟩:=Kd.facts;have aY:Below wq.heap.size wq (wq.alloc (.cells #[.int .i64 v,.bool true] 264)):=(Below.refl _ _).alloc (jC _) _;have HA:=Kd.below aY;obtain⟨a0,a1,a2,a3,a4,a5,a6,a7,a8,a9⟩:=HA.facts;have qu:w0.heap.size<=(wq.alloc (.cells #[.int .i64 v,.bool true] 264)).heap.size:=by have:=HA.lt;have:=HA.base;omega
  go_wp2_with (first
   |(at_builtin;go_must (refine kh rfl _ _ 92 rfl w0.heap.size 264 i (.agg #[.int .i64 0,.bool false]) 2 16 Tryz.underlying92 Z3 A1 Ez xX rfl (by decide) vb _ _ rfl HA.boxes wq.heap.size [.int .i64 v,.bool true] rfl jD rfl (by intro u' hu;simp at hu;rcases hu with rfl|rfl<;>rfl) (by decide) (by omega) qu ?_);intro g4 c4' w4 hown4 hgrow4 hat4 hlt4;obtain⟨gK,N9⟩:=HA.Jz (b:=(v,true)) hown4 hgrow4;have rf:w4.frozen? ⟨x,148,none⟩=false:=frozen_of_heap gK 148;have r5:w4.cell? ⟨x,148,none⟩=some vb:=(by rw[cell_of_heap gK,List.getElem?_toArray];exact HA.len.jr (f:=f) (vb:=vb) (vt:=vt) 0);obtain⟨b0,b1,b2,b3,b4,b5,b6,b7,b8,b9⟩:=N9.facts;obtain⟨f1,f2,f3,f4,f5,f6⟩:=N9.eB;have Xk:=N9.IW (m.count+1);obtain⟨d0,d1,d2,d3,d4,d5,d6,d7,d8,d9⟩:=Xk.facts;have KN:Calls Tryz.prog 152 #[.pointer (some ⟨x,0,none⟩),.string ⟨#[43]⟩,.int .i64 ((m.boxes.length+1:Nat):Int)] _ _:=gd ⟨_,_,Xk⟩ 43 ((m.boxes.length+1:Nat):Int) (by unfold aO;omega) (by show m.trace.length<=_;omega))
   |(go_at_call 152;refine KN.mono ?_;rintro e w9 ⟨rfl,hM⟩;have KS:=fc hC hM hl)
   |(go_at_call 149;refine KS.mono ?_;rintro e w10 ⟨rfl,vb',vt',Rg⟩;obtain⟨b10,cap10,ev⟩:=vU Rg.boxes;rw[show(RM.note {m with boxes:=m.boxes++[(v,true)],count:=m.count+1} 43 ((m.boxes.length+1:Nat):Int)).boxes.length=m.boxes.length+1 from jV]at ev;generalize hN:m.boxes.length+1=N at*;subst ev;obtain⟨e0,e1,e2,e3,e4,e5,e6,e7,e8,e9⟩:=Rg.facts;obtain⟨h1,h2⟩:=Rg.Et hi;obtain⟨q1,q2⟩:=Rg.qn hi))
  go_upto_region 6 with fail
  go_region_law (fail)
  all_goals
   have hV11:=Rg.below ((Below.refl w10.heap.size w10).drew);have UD:=hV11.zZ hi N;obtain⟨k0,k1,k2,k3,k4,k5,k6,k7,k8,k9⟩:=UD.facts;obtain⟨j1,j2⟩:=UD.qn hi;have hV13:=UD.pX hi 119
  all_goals
   cases js:f.owns
   ·rw[js]at k1;go_wp2_with fail
    go_end0
    refine⟨rfl,?_⟩;rw[HG.out,ja (by rw[js];decide)];exact⟨_,_,UD⟩
   ·rw[js]at k1;go_wp2_with fail
    go_end0
    refine⟨rfl,?_⟩;rw[HG.out,jb js];exact⟨_,_,hV13⟩
set_option maxRecDepth 20000 in
set_option maxHeartbeats 2000000 in
theorem fY (hC:Ctx w0 p f)(h:cd w0 x f w m)(hl:Wd p l)(hO:m.Ok t)(ht:t+2<=3000000):
  Calls Tryz.prog 148 #[.pointer (some ⟨x,0,none⟩),.string (bs l)] w fun e w'=>e=.returned (.tuple #[])/\cd w0 x f w' (m.drop p l):=by
 obtain⟨hi,hi2,Wm,hn2⟩:=hl.lt hC.aW;have KS:=fun w' (hp:bf w' f.a p)=>kz p f.a l w' hp hC.ok hl.len hl.find
 have KL:=fun w'=>zR l w' hl.len
 rw[M0]at KL;unfold RM.drop;have e1:(p.ak l).1=sp p l:=rfl;rw[e1]at KS;generalize sp p l=i at*;generalize (p.ak l).2=n at*;generalize dk l=c at*;obtain⟨vb,vt,hV⟩:=h;obtain⟨c0,c1,c2,c3,c4,c5,c6,c7,c8,c9⟩:=hV.facts;have HP:=hC.prog.below hV.br;go_enter Tryz.func148,Tryz.ntmps148
 go_wp2_with (go_at_call 143;refine(KS _ HP).mono ?_;rintro e w1 ⟨rfl,n1,rfl⟩)
 have HM:Hid (cd w0 x f (w.drewN n1) (m.mh c i 0)):=⟨vb,vt,hV.below (below_drewN (Below.refl _ _) _)⟩;clear hV c0 c1 c2 c3 c4 c5 c6 c7 c8 c9 HP KS e1;go_loopw [6] (fun v6 wr=>∃(j:Nat),j<=n/\v6=.int .i64 ((i+j:Nat):Int)/\Hid (cd w0 x f wr (m.mh c i j))) (fun v _=>i+n-(intOf v).toNat)
 case atStart=>exact⟨0,jQ _,by simp,HM⟩
 case round=>
  obtain⟨j,hj,rfl,HJ⟩:=hrel;clear HM;by_cases aL:j<n
  ·have hOj:=hO.mh c i j (by omega);have hM:=HJ.out;have vE:Hid ((m.mh c i j).ee c (i+j)=m.mh c i (j+1)):=rfl;generalize hmj:m.mh c i j=mj at*;have zm:i+j<24:=by omega
   have i4:((i+j:Nat):Int)<24:=by omega
   have i5:((i+j:Nat):Int)<(i:Int)+n:=by omega
   obtain⟨vb,vt,hV⟩:=hM;obtain⟨a1,a2⟩:=hV.qn zm;by_cases hh:mj.ba.getD (i+j) 0=119
   ·rw[hh]at a1;have KF:=AL ⟨vb,vt,hV⟩ zm hOj (by omega);generalize hk:i+j=k at*;go_wp2_with (first
     |(go_at_call 156;refine KF.mono ?_;rintro e w2 ⟨rfl,vb2,vt2,eR⟩;obtain⟨b1,b2⟩:=eR.qn zm)
     |fail)
    go_upto_region 6 with fail
    go_region_law (go_simp;go_at_call 140;refine(KL _).mono ?_;rintro e w3 ⟨rfl,rfl⟩)
    all_goals
     have qt:=(eR.below ((Below.refl w2.heap.size w2).drew)).pX zm c;go_wp2_with fail
     refine⟨⟨j+1,by omega,by rw[<-Nat.add_assoc,hk];go_num,?_⟩,by simp[intOf];omega⟩;rw[<-vE.out];unfold RM.ee;rw[jb hh];exact⟨_,_,qt⟩
   ·have hh2:¬((mj.ba.getD (i+j) 0).toNat:Int)=119:=fun e=>hh (UInt8.toNat_inj.1 (by rw[show(119:UInt8).toNat=119 from rfl];omega))
    generalize hk:i+j=k at*;have HB:Hid (¬mj.ba.getD k 0=119):=hh;generalize mj.ba.getD k 0=bb at a1 hh2;clear hh;go_upto_region 6 with fail
    go_region_law (go_simp;go_at_call 140;refine(KL _).mono ?_;rintro e w3 ⟨rfl,rfl⟩)
    all_goals
     have qt:=(hV.below ((Below.refl wr.heap.size wr).drew)).pX zm c;go_wp2_with fail
     refine⟨⟨j+1,by omega,by rw[<-Nat.add_assoc,hk];go_num,?_⟩,by simp[intOf];omega⟩;rw[<-vE.out];unfold RM.ee;rw[ja HB.out];exact⟨_,_,qt⟩
  ·have i5:¬((i+j:Nat):Int)<(i:Int)+n:=by omega
   go_wp2
   go_end0
   have e:j=n:=by omega
   subst e;exact⟨rfl,HJ.out⟩
end
end Mac
namespace Mac
open Go Go.RowKit Sq Aux PrjJ PrjK PrjL PrjM Go.Proofs.YtmlgajhhnojdjaaGreatDoor.Own RefRa RefP
section
variable {w0 w w1 w2 w3:World} {x gw cw:Nat} {f:Fx} {m:RM} {p:RP} {ws:List B} {t:Nat} {vb vt:Value}
theorem gZ {i:Nat}(h:m.has.getD i false=true):m.bE i=m:=by unfold RM.bE;rw[jb h]
theorem kQ {i:Nat}(h:¬m.has.getD i false=true):m.bE i={m with out:=5}:=by unfold RM.bE;rw[ja h]
theorem lX {i:Nat}(h:¬m.named i=0):m.boxed i=m:=by unfold RM.boxed;rw[ja h]
theorem rX {i:Nat}(h:m.named i=0):m.boxed i={m with out:=5}:=by unfold RM.boxed;rw[jb h]
set_option maxRecDepth 20000 in
set_option maxHeartbeats 2000000 in
theorem Sy (hC:Ctx w0 p f)(h:cd w0 x f w m)(hR:Row w0 ws gw)(hn:ws.length=3)(h2:Wd p (word ws 2))(hw:word ws 0=[110,101,119])(hh:¬m.has.getD (sp p (word ws 2)) false=true):
  Calls Tryz.prog 153 #[.pointer (some ⟨x,0,none⟩),.slice (some ⟨gw,0,none⟩) ws.length cw] w fun e w'=>e=.returned (.tuple #[])/\cd w0 x f w' (m.new f p ws):=by
 have y0:=hR.on h (j:=0) (by omega);rw[hw]at y0;have z2:=hR.on h (j:=2) (by omega);have KI:=cN hC h h2;rw[kQ hh]at KI;have HG:Hid (m.new f p ws={m with out:=5}):=by unfold Hid;unfold RM.new;simp only;rw[kQ hh,jb (by simp)]
 have la:(ws.length:Int)=3:=by omega
 go_enter Tryz.func153,Tryz.ntmps153
 go_wp2_with (first
  |(go_at_call 147;refine KI.mono ?_;rintro e w1 ⟨rfl,vb1,vt1,lf⟩;obtain⟨c0,c1,c2,c3,c4,c5,c6,c7,c8,c9⟩:=lf.facts;obtain⟨f1,f2,f3,f4,f5,f6⟩:=lf.eB))
 try simp only[Exit.inBlock,Exit.then]
 refine bodyPost_ret (results_none rfl _ _ _) rfl ?_;exact⟨rfl,by rw[HG.out];exact⟨_,_,lf⟩⟩
set_option maxRecDepth 20000 in
set_option maxHeartbeats 2000000 in
theorem Sx (hC:Ctx w0 p f)(h:cd w0 x f w m)(hR:Row w0 ws gw)(hn:ws.length=3)(h1:Wd p (word ws 1))(h2:Wd p (word ws 2))(h0:m.out=0)(hw:word ws 0=[110,101,119])(hh:m.has.getD (sp p (word ws 2)) false=true)(hO:m.Ok t)(ht:t<=2000000)(hf:f.owns=false):
  Calls Tryz.prog 153 #[.pointer (some ⟨x,0,none⟩),.slice (some ⟨gw,0,none⟩) ws.length cw] w fun e w'=>e=.returned (.tuple #[])/\cd w0 x f w' (m.new f p ws):=by
 have y0:=hR.on h (j:=0) (by omega);rw[hw]at y0;have z2:=hR.on h (j:=2) (by omega);have KI:=cN hC h h2;rw[gZ hh]at KI;have HG:Hid (m.new f p ws=m.made f (sp p (word ws 1)) (m.int (sp p (word ws 2)))):=by unfold Hid;unfold RM.new;simp only;rw[gZ hh,ja (by rw[h0];decide),ja (by rw[hf];decide)]
 have la:(ws.length:Int)=3:=by omega
 go_enter Tryz.func153,Tryz.ntmps153
 go_wp2_with (first
  |(go_at_call 147;refine KI.mono ?_;rintro e w1 ⟨rfl,vb1,vt1,lf⟩;obtain⟨c0,c1,c2,c3,c4,c5,c6,c7,c8,c9⟩:=lf.facts;obtain⟨f1,f2,f3,f4,f5,f6⟩:=lf.eB;rw[h0]at c8;rw[hf]at c1;have z1:=hR.at lf (j:=1) (by omega);have KM:=H9 hC ⟨_,_,lf⟩ h1 (m.int (sp p (word ws 2))) hO (by omega))
  |(go_at_call 192;refine KM.mono ?_;rintro e w9 ⟨rfl,xN⟩))
 go_end0
 exact⟨rfl,by rw[HG.out];exact xN⟩
set_option maxRecDepth 20000 in
set_option maxHeartbeats 2000000 in
theorem SA (hC:Ctx w0 p f)(h:cd w0 x f w m)(hR:Row w0 ws gw)(hn:ws.length=3)(h1:Wd p (word ws 1))(h2:Wd p (word ws 2))(h0:m.out=0)(hw:word ws 0=[110,101,119])(hh:m.has.getD (sp p (word ws 2)) false=true)(hO:m.Ok t)(ht:t<=2000000)(hf:f.owns=true):
  Calls Tryz.prog 153 #[.pointer (some ⟨x,0,none⟩),.slice (some ⟨gw,0,none⟩) ws.length cw] w fun e w'=>e=.returned (.tuple #[])/\cd w0 x f w' (m.new f p ws):=by
 have y0:=hR.on h (j:=0) (by omega);rw[hw]at y0;have z2:=hR.on h (j:=2) (by omega);have KI:=cN hC h h2;rw[gZ hh]at KI;have HG:Hid (m.new f p ws=(m.drop p (word ws 1)).made f (sp p (word ws 1)) (m.int (sp p (word ws 2)))):=by unfold Hid;unfold RM.new;simp only;rw[gZ hh,ja (by rw[h0];decide),jb hf]
 have la:(ws.length:Int)=3:=by omega
 go_enter Tryz.func153,Tryz.ntmps153
 go_wp2_with (first
  |(go_at_call 147;refine KI.mono ?_;rintro e w1 ⟨rfl,vb1,vt1,lf⟩;obtain⟨c0,c1,c2,c3,c4,c5,c6,c7,c8,c9⟩:=lf.facts;obtain⟨f1,f2,f3,f4,f5,f6⟩:=lf.eB;rw[h0]at c8;rw[hf]at c1;have z1:=hR.at lf (j:=1) (by omega);have KD:=fY hC ⟨_,_,lf⟩ h1 hO (by omega))
  |(go_at_call 148;refine KD.mono ?_;rintro e w2 ⟨rfl,Ck⟩;have z3:=hR.on Ck (j:=1) (by omega);have KM:=H9 hC Ck h1 (m.int (sp p (word ws 2))) (hO.drop (by omega) h1 hC.aW) (by omega))
  |(go_at_call 192;refine KM.mono ?_;rintro e w9 ⟨rfl,xN⟩))
 go_end0
 exact⟨rfl,by rw[HG.out];exact xN⟩
set_option maxRecDepth 20000 in
set_option maxHeartbeats 2000000 in
theorem OO (hC:Ctx w0 p f)(h:cd w0 x f w m)(hR:Row w0 ws gw)(hn:ws.length=3)(h2:Wd p (word ws 2))(hw:word ws 0=[108,111,97,100])(hO:m.Ok t)(ht:t<=2000000)(hb:m.named (sp p (word ws 2))=0):
  Calls Tryz.prog 153 #[.pointer (some ⟨x,0,none⟩),.slice (some ⟨gw,0,none⟩) ws.length cw] w fun e w'=>e=.returned (.tuple #[])/\cd w0 x f w' (m.load p ws):=by
 have y0:=hR.on h (j:=0) (by omega);rw[hw]at y0;have z2:=hR.on h (j:=2) (by omega);have KS:=fc hC h h2;obtain⟨hi,-⟩:=h2.lt hC.aW;have HG:Hid (m.load p ws={m with out:=5}):=by unfold Hid;unfold RM.load;simp only;rw[rX hb,ja (by simp)]
 have la:(ws.length:Int)=3:=by omega
 go_enter Tryz.func153,Tryz.ntmps153
 go_wp2_with (first
  |(go_at_call 149;refine KS.mono ?_;rintro e w1 ⟨rfl,xM⟩;have KB:=iY xM hi hO (by omega);rw[hb,rX hb]at KB)
  |(go_at_call 193;refine KB.mono ?_;rintro e w2 ⟨rfl,vb2,vt2,eR⟩;obtain⟨c0,c1,c2,c3,c4,c5,c6,c7,c8,c9⟩:=eR.facts;obtain⟨f1,f2,f3,f4,f5,f6⟩:=eR.eB))
 go_end0
 exact⟨rfl,by rw[HG.out];exact⟨_,_,eR⟩⟩
set_option maxRecDepth 20000 in
set_option maxHeartbeats 2000000 in
theorem OP (hC:Ctx w0 p f)(h:cd w0 x f w m)(hR:Row w0 ws gw)(hn:ws.length=3)(h1:Wd p (word ws 1))(h2:Wd p (word ws 2))(h0:m.out=0)(hw:word ws 0=[108,111,97,100])(hO:m.Ok t)(ht:t<=2000000)(hb:¬m.named (sp p (word ws 2))=0):
  Calls Tryz.prog 153 #[.pointer (some ⟨x,0,none⟩),.slice (some ⟨gw,0,none⟩) ws.length cw] w fun e w'=>e=.returned (.tuple #[])/\cd w0 x f w' (m.load p ws):=by
 have y0:=hR.on h (j:=0) (by omega);rw[hw]at y0;have z2:=hR.on h (j:=2) (by omega);have KS:=fc hC h h2;obtain⟨hi,-⟩:=h2.lt hC.aW;have hle:=oV hO (sp p (word ws 2));have hbt:=hO.boxes;have htr:=hO.trace;have Qj:=fun w' (hM:cd w0 x f w' m)=>iY hM hi hO (by omega)
 rw[lX hb]at Qj;have HG:Hid (m.load p ws=(m.note 60 ((m.named (sp p (word ws 2)):Nat):Int)).be (sp p (word ws 1)) (m.box (m.named (sp p (word ws 2)))).1):=by unfold Hid;unfold RM.load;simp only;rw[lX hb,jb h0]
 have la:(ws.length:Int)=3:=by omega
 go_enter Tryz.func153,Tryz.ntmps153
 go_wp2_with (first
  |(go_at_call 149;refine KS.mono ?_;rintro e w1 ⟨rfl,xM⟩;have KB:=Qj _ xM;generalize m.named (sp p (word ws 2))=n at*)
  |(go_at_call 193;refine KB.mono ?_;rintro e w2 ⟨rfl,vb2,vt2,eR⟩;obtain⟨c0,c1,c2,c3,c4,c5,c6,c7,c8,c9⟩:=eR.facts;obtain⟨f1,f2,f3,f4,f5,f6⟩:=eR.eB;rw[h0]at c8;have KN:Calls Tryz.prog 152 #[.pointer (some ⟨x,0,none⟩),.string ⟨#[60]⟩,.int .i64 ((n:Nat):Int)] _ _:=gd ⟨_,_,eR⟩ 60 ((n:Nat):Int) (by unfold aO;omega) (by omega))
  |(go_at_call 152;refine KN.mono ?_;rintro e w3 ⟨rfl,vb3,vt3,qt⟩;obtain⟨g,cap,rfl,kM,hg,q0,q1,q2,q3⟩:=qt.box (n:=n) (by omega) hle;obtain⟨d0,d1,d2,d3,d4,d5,d6,d7,d8,d9⟩:=qt.facts;have z1:=hR.at qt (j:=1) (by omega);have e1:((n:Int)-1).toNat=n-1:=(by omega);have i3:(1:Int)<=n:=(by omega);have i4:(n:Int)<=(m.note 60 ((n:Nat):Int)).boxes.length:=(by show(n:Int)<=m.boxes.length;omega);have i8:IntKind.i64.wrap ((n:Int)-1)=(n:Int)-1:=(by rw[IntKind.wrap_i64];omega);have i6:(0:Int)<=(n:Int)-1:=(by omega);have i7:(n:Int)-1<(m.note 60 ((n:Nat):Int)).boxes.length:=(by omega);have KE:=qE hC ⟨_,_,qt.below ((Below.refl w3.heap.size w3).drew)⟩ h1 (m.box n).1))
 go_upto_region 11 with fail
 go_region_law (go_simp;go_at_call 150;refine KE.mono ?_;rintro e w9 ⟨rfl,xN⟩)
 all_goals go_wp2_with fail
 all_goals go_end0
 all_goals exact⟨rfl,by rw[HG.out];exact xN⟩
set_option maxRecDepth 20000 in
set_option maxHeartbeats 2000000 in
theorem Ma (hC:Ctx w0 p f)(h:cd w0 x f w m)(hR:Row w0 ws gw)(hn:ws.length=3)(h1:Wd p (word ws 1))(h2:Wd p (word ws 2))(h0:m.out=0)(hw:word ws 0=[115,116,111,114,101])(hO:m.Ok t)(ht:t<=2000000)(hb:¬m.named (sp p (word ws 1))=0)(hh:m.has.getD (sp p (word ws 2)) false=true):
  Calls Tryz.prog 153 #[.pointer (some ⟨x,0,none⟩),.slice (some ⟨gw,0,none⟩) ws.length cw] w fun e w'=>e=.returned (.tuple #[])/\cd w0 x f w' (m.store p ws):=by
 have y0:=hR.on h (j:=0) (by omega);rw[hw]at y0;have z1:=hR.on h (j:=1) (by omega);have KS:=fc hC h h1;obtain⟨hi,-⟩:=h1.lt hC.aW;have hle:=oV hO (sp p (word ws 1));have hbt:=hO.boxes;have htr:=hO.trace;have Qj:=fun w' (hM:cd w0 x f w' m)=>iY hM hi hO (by omega)
 rw[lX hb]at Qj;have HG:Hid (m.store p ws={m.note 62 ((m.named (sp p (word ws 1)):Nat):Int)with boxes:=m.boxes.set (m.named (sp p (word ws 1))-1) (m.int (sp p (word ws 2)),(m.box (m.named (sp p (word ws 1)))).2)}):=by unfold Hid;unfold RM.store;simp only;rw[lX hb,gZ hh,jb h0]
 have la:(ws.length:Int)=3:=by omega
 go_enter Tryz.func153,Tryz.ntmps153
 go_wp2_with (first
  |(go_at_call 149;refine KS.mono ?_;rintro e w1 ⟨rfl,xM⟩;have KB:=Qj _ xM;generalize m.named (sp p (word ws 1))=n at*)
  |(go_at_call 193;refine KB.mono ?_;rintro e w2 ⟨rfl,Ck⟩;have z2:=hR.on Ck (j:=2) (by omega);have KI:=cN hC Ck h2;rw[gZ hh]at KI)
  |(go_at_call 147;refine KI.mono ?_;rintro e w3 ⟨rfl,vb2,vt2,eR⟩;obtain⟨c0,c1,c2,c3,c4,c5,c6,c7,c8,c9⟩:=eR.facts;obtain⟨f1,f2,f3,f4,f5,f6⟩:=eR.eB;rw[h0]at c8;have KN:Calls Tryz.prog 152 #[.pointer (some ⟨x,0,none⟩),.string ⟨#[62]⟩,.int .i64 ((n:Nat):Int)] _ _:=gd ⟨_,_,eR⟩ 62 ((n:Nat):Int) (by unfold aO;omega) (by omega))
  |(go_at_call 152;refine KN.mono ?_;rintro e w4 ⟨rfl,vb3,vt3,qt⟩;obtain⟨g,cap,rfl,kM,hg,q0,q1,q2,q3⟩:=qt.box (n:=n) (by omega) hle;obtain⟨d0,d1,d2,d3,d4,d5,d6,d7,d8,d9⟩:=qt.facts;have e1:((n:Int)-1).toNat=n-1:=(by omega);have i3:(1:Int)<=n:=(by omega);have i4:(n:Int)<=(m.note 62 ((n:Nat):Int)).boxes.length:=(by show(n:Int)<=m.boxes.length;omega);have N9:=(qt.tF (n:=n) (by omega) hle).1 (m.int (sp p (word ws 2)))))
 go_end0
 exact⟨rfl,by rw[HG.out];exact⟨_,_,N9⟩⟩
set_option maxRecDepth 20000 in
set_option maxHeartbeats 2000000 in
theorem L8 (hC:Ctx w0 p f)(h:cd w0 x f w m)(hR:Row w0 ws gw)(hn:ws.length=3)(h1:Wd p (word ws 1))(h2:Wd p (word ws 2))(hw:word ws 0=[115,116,111,114,101])(hO:m.Ok t)(ht:t<=2000000)(hb:m.named (sp p (word ws 1))=0):
  Calls Tryz.prog 153 #[.pointer (some ⟨x,0,none⟩),.slice (some ⟨gw,0,none⟩) ws.length cw] w fun e w'=>e=.returned (.tuple #[])/\cd w0 x f w' (m.store p ws):=by
 have y0:=hR.on h (j:=0) (by omega);rw[hw]at y0;have z1:=hR.on h (j:=1) (by omega);have KS:=fc hC h h1;obtain⟨hi,-⟩:=h1.lt hC.aW;have Qj:=fun w' (hM:cd w0 x f w' m)=>iY hM hi hO (by omega)
 rw[rX hb]at Qj;have ho5:¬(RM.bE {m with out:=5} (sp p (word ws 2))).out=0:=by unfold RM.bE;split<;>simp
 have ho6:=SR ho5;have HG:Hid (m.store p ws=RM.bE {m with out:=5} (sp p (word ws 2))):=by unfold Hid;unfold RM.store;simp only;rw[rX hb,ja ho5]
 have la:(ws.length:Int)=3:=by omega
 go_enter Tryz.func153,Tryz.ntmps153
 go_wp2_with (first
  |(go_at_call 149;refine KS.mono ?_;rintro e w1 ⟨rfl,xM⟩;have KB:=Qj _ xM)
  |(go_at_call 193;refine KB.mono ?_;rintro e w2 ⟨rfl,Ck⟩;have z2:=hR.on Ck (j:=2) (by omega);have KI:=cN hC Ck h2)
  |(go_at_call 147;refine KI.mono ?_;rintro e w3 ⟨rfl,vb2,vt2,eR⟩;obtain⟨c0,c1,c2,c3,c4,c5,c6,c7,c8,c9⟩:=eR.facts;obtain⟨f1,f2,f3,f4,f5,f6⟩:=eR.eB))
 go_end0
 exact⟨rfl,by rw[HG.out];exact⟨_,_,eR⟩⟩
set_option maxRecDepth 20000 in
set_option maxHeartbeats 2000000 in
theorem L9 (hC:Ctx w0 p f)(h:cd w0 x f w m)(hR:Row w0 ws gw)(hn:ws.length=3)(h1:Wd p (word ws 1))(h2:Wd p (word ws 2))(hw:word ws 0=[115,116,111,114,101])(hO:m.Ok t)(ht:t<=2000000)(hb:¬m.named (sp p (word ws 1))=0)(hh:¬m.has.getD (sp p (word ws 2)) false=true):
  Calls Tryz.prog 153 #[.pointer (some ⟨x,0,none⟩),.slice (some ⟨gw,0,none⟩) ws.length cw] w fun e w'=>e=.returned (.tuple #[])/\cd w0 x f w' (m.store p ws):=by
 have y0:=hR.on h (j:=0) (by omega);rw[hw]at y0;have z1:=hR.on h (j:=1) (by omega);have KS:=fc hC h h1;obtain⟨hi,-⟩:=h1.lt hC.aW;have Qj:=fun w' (hM:cd w0 x f w' m)=>iY hM hi hO (by omega)
 rw[lX hb]at Qj;have HG:Hid (m.store p ws={m with out:=5}):=by unfold Hid;unfold RM.store;simp only;rw[lX hb,kQ hh,ja (by simp)]
 have la:(ws.length:Int)=3:=by omega
 go_enter Tryz.func153,Tryz.ntmps153
 go_wp2_with (first
  |(go_at_call 149;refine KS.mono ?_;rintro e w1 ⟨rfl,xM⟩;have KB:=Qj _ xM)
  |(go_at_call 193;refine KB.mono ?_;rintro e w2 ⟨rfl,Ck⟩;have z2:=hR.on Ck (j:=2) (by omega);have KI:=cN hC Ck h2;rw[kQ hh]at KI)
  |(go_at_call 147;refine KI.mono ?_;rintro e w3 ⟨rfl,vb2,vt2,eR⟩;obtain⟨c0,c1,c2,c3,c4,c5,c6,c7,c8,c9⟩:=eR.facts;obtain⟨f1,f2,f3,f4,f5,f6⟩:=eR.eB))
 go_end0
 exact⟨rfl,by rw[HG.out];exact⟨_,_,eR⟩⟩
theorem Vp (hC:Ctx w0 p f)(h:cd w0 x f w m)(hR:Row w0 ws gw)(hn:ws.length=3)(h1:Wd p (word ws 1))(h2:Wd p (word ws 2))(h0:m.out=0)(hw:word ws 0=[110,101,119])(hO:m.Ok t)(ht:t<=2000000):
  Calls Tryz.prog 153 #[.pointer (some ⟨x,0,none⟩),.slice (some ⟨gw,0,none⟩) ws.length cw] w fun e w'=>e=.returned (.tuple #[])/\cd w0 x f w' (m.new f p ws):=by
 by_cases hh:m.has.getD (sp p (word ws 2)) false=true
 ·cases hf:f.owns
  ·exact Sx hC h hR hn h1 h2 h0 hw hh hO ht hf
  ·exact SA hC h hR hn h1 h2 h0 hw hh hO ht hf
 ·exact Sy hC h hR hn h2 hw hh
theorem Bi (hC:Ctx w0 p f)(h:cd w0 x f w m)(hR:Row w0 ws gw)(hn:ws.length=3)(h1:Wd p (word ws 1))(h2:Wd p (word ws 2))(h0:m.out=0)(hw:word ws 0=[108,111,97,100])(hO:m.Ok t)(ht:t<=2000000):
  Calls Tryz.prog 153 #[.pointer (some ⟨x,0,none⟩),.slice (some ⟨gw,0,none⟩) ws.length cw] w fun e w'=>e=.returned (.tuple #[])/\cd w0 x f w' (m.load p ws):=by
 by_cases hb:m.named (sp p (word ws 2))=0
 ·exact OO hC h hR hn h2 hw hO ht hb
 ·exact OP hC h hR hn h1 h2 h0 hw hO ht hb
theorem yl (hC:Ctx w0 p f)(h:cd w0 x f w m)(hR:Row w0 ws gw)(hn:ws.length=3)(h1:Wd p (word ws 1))(h2:Wd p (word ws 2))(h0:m.out=0)(hw:word ws 0=[115,116,111,114,101])(hO:m.Ok t)(ht:t<=2000000):
  Calls Tryz.prog 153 #[.pointer (some ⟨x,0,none⟩),.slice (some ⟨gw,0,none⟩) ws.length cw] w fun e w'=>e=.returned (.tuple #[])/\cd w0 x f w' (m.store p ws):=by
 by_cases hb:m.named (sp p (word ws 1))=0
 ·exact L8 hC h hR hn h1 h2 hw hO ht hb
 ·by_cases hh:m.has.getD (sp p (word ws 2)) false=true
  ·exact Ma hC h hR hn h1 h2 h0 hw hO ht hb hh
  ·exact L9 hC h hR hn h1 h2 hw hO ht hb hh
end
end Mac
namespace PrjS
open Go Go.RowKit Sq PrjF PrjG PrjH
def sM (c:UInt8):Bool:= !(c==35)&& !(c==118)&& !(c==102)&& !(c==98)
structure tS (nl nb:Nat)(l:ab):Prop where
 op:l.op<23
 op2:2<=l.op
 places:∀x∈l.places,x.1<nl/\x.2<=3
 cQ:l.places.length=((ag l.op).filter sM).length
 next:∀n∈l.next,n<nb
 ER:l.next.length=((ag l.op).filter (·==98)).length
 flag:0<=l.flag/\l.flag<=1000000000
 number: -1000000000<=l.number/\l.number<=1000000000
theorem tS.mono {nl nl' nb:Nat}{l:ab}(h:tS nl nb l)(hn:nl<=nl'):tS nl' nb l:=
 ⟨h.op,h.op2,fun x hx=>⟨jK (h.places x hx).1 hn,(h.places x hx).2⟩,h.cQ,h.next,h.ER,h.flag,h.number⟩
theorem VI (w:B):((bS w).getD ([],0)).2<=3:=by
 rw[bS];split
 ·simp
 ·repeat (first|(split;simp)|simp)
theorem Dy (w:B): -1000000000<=(dP w).getD 0/\(dP w).getD 0<=1000000000:=by
 cases w with
 |nil=>decide
 |cons c r=>
  rw[dP];split
  ·have:=fX r;cases hd:aA r with
   |none=>simp
   |some n=>
    rw[hd]at this;simp only[Option.getD_some]at this;by_cases hn:n=0
    ·simp[hn]
    ·simp[hn];omega
  ·have:=fX (c::r);constructor<;>omega
theorem eA {ls:List (B×Nat)}{n:B}(h:¬dF ls n<0):(dF ls n).toNat<ls.length:=by
 have:=td ls n 0;change-1<=dF ls n/\dF ls n<_ at this;omega
theorem l7 (ls:List (B×Nat))(nb:Nat):∀(f:B) (ws:List B) (l0 l:ab),cZ ls nb f ws l0=some l->(∀x∈l0.places,x.1<ls.length/\x.2<=3)->(∀n∈l0.next,n<nb)->(0<=l0.flag/\l0.flag<=1000000000)->(-1000000000<=l0.number/\l0.number<=1000000000)->
  l.op=l0.op/\l.num=l0.num/\(∀x∈l.places,x.1<ls.length/\x.2<=3)/\(∀n∈l.next,n<nb)/\l.places.length=l0.places.length+(f.filter sM).length/\l.next.length=l0.next.length+(f.filter (·==98)).length/\(0<=l.flag/\l.flag<=1000000000)/\(-1000000000<=l.number/\l.number<=1000000000)
 |[],ws,l0,l,h,h1,h2,h3,h4=>by
  simp only[cZ,Option.some.injEq]at h;subst h;exact⟨rfl,rfl,h1,h2,rfl,rfl,h3,h4⟩
 |c::f,ws,l0,l,h,h1,h2,h3,h4=>by
  rw[cZ]at h;by_cases c1:c=35\/c=118
  ·rw[jb c1]at h;have ih:=l7 ls nb f (ws.drop 1) _ l h h1 h2 h3 (Dy _);have e1:sM c=false:=by rcases c1 with rfl|rfl<;>rfl
   have e2:(c==98)=false:=by rcases c1 with rfl|rfl<;>rfl
   simpa [List.filter_cons,e1,e2]using ih
  ·rw[ja c1]at h;by_cases c2:c=102
   ·rw[jb c2]at h;have ih:=l7 ls nb f (ws.drop 1) _ l h h1 h2 (fX _) h4;subst c2;have e1:sM 102=false:=rfl;simpa [List.filter_cons,e1]using ih
   ·rw[ja c2]at h;by_cases c3:c=98
    ·rw[jb c3]at h;split at h
     ·cases h
     ·rename_i hn;have hd:=fX (word ws 0);have ih:=l7 ls nb f (ws.drop 1) _ l h h1 (fun n YT=>by
       simp only[List.mem_append,List.mem_singleton]at YT;rcases YT with YT|YT
       ·exact h2 n YT
       ·omega) h3 h4
      subst c3;have e1:sM 98=false:=rfl;obtain⟨i1,i2,i3,i4,i5,i6,i7,i8⟩:=ih;refine⟨i1,i2,i3,i4,by rw[i5];simp[e1],by rw[i6];simp;omega,i7,i8⟩
    ·rw[ja c3]at h;split at h
     ·cases h
     ·rename_i hn;have ih:=l7 ls nb f (ws.drop 1) _ l h (fun x hx=>by
       simp only[List.mem_append,List.mem_singleton]at hx;rcases hx with hx|rfl
       ·exact h1 x hx
       ·exact⟨eA hn,VI _⟩) h2 h3 h4
      simp only[not_or]at c1;have e1:sM c=true:=by simp[sM,c1.1,c1.2,c2,c3]
      have e2:(c==98)=false:=by simp[c3]
      obtain⟨i1,i2,i3,i4,i5,i6,i7,i8⟩:=ih;refine⟨i1,i2,i3,i4,by rw[i5];simp[e1];omega,by rw[i6];simp[e2],i7,i8⟩
theorem Sg {ls:List (B×Nat)}{nb:Nat}{x:Nat×List B}{l:ab}(h:ez ls nb x=some l)(h1:x.1<23)(h2:2<=x.1):tS ls.length nb l:=by
 rw[ez]at h;obtain⟨i1,-,i3,i4,i5,i6,i7,i8⟩:=l7 ls nb _ _ _ _ h (by simp) (by simp) (by simp) (by simp);simp only at i1;exact⟨by rw[i1];exact h1,by rw[i1];exact h2,i3,by rw[i1,i5];simp,i4,by rw[i1,i6];simp,i7,i8⟩
structure Jy (nb:Nat)(q:QP):Prop where
 types:∀x∈q.locals,x.2<=3
 lines:∀b∈q.blocks,∀l∈b,tS q.locals.length nb l
theorem TC {w:B}{n:Nat}(h:gN w=some n):n<4:=by
 have:=(A2 _ _ _ _ h).2.1;simpa [j5]using this
theorem ty_le (w:B):(gN w).getD 0<=3:=by
 cases h:gN w with
 |none=>simp
 |some k=>have:=TC h;simp;omega
theorem oU (nb:Nat):∀(S:List (Nat×List B)) (i:Nat) (q0 q:QP),bc nb S i q0=(q,none)->(∀x∈S,x.1<23)->Jy nb q0->Jy nb q
 |[],i,q0,q,h,_,h0=>by
  simp only[bc,Prod.mk.injEq,and_true]at h;subst h;exact h0
 |x::r,i,q0,q,h,hx,h0=>by
  have hr:∀y∈r,y.1<23:=fun y hy=>hx y (jN _ hy)
  have Jv:=hx x (jM ..);rw[bc]at h;by_cases e0:x.1=0
  ·rw[jb e0]at h;split at h
   ·cases h
   ·refine oU nb r (i+1) _ q h hr ⟨fun y hy=> ?_,fun b hb l hl=>(h0.lines b hb l hl).mono (by simp[QP.addLocal])⟩;simp only[QP.addLocal,List.mem_append,List.mem_singleton]at hy;rcases hy with hy|rfl
    ·exact h0.types y hy
    ·exact ty_le _
  ·rw[ja e0]at h;by_cases e1:x.1=1
   ·rw[jb e1]at h;refine oU nb r (i+1) _ q h hr ⟨h0.types,fun b hb l hl=> ?_⟩;simp only[QP.addBlock,List.mem_append,List.mem_singleton]at hb;rcases hb with hb|rfl
    ·exact h0.lines b hb l hl
    ·cases hl
   ·rw[ja e1]at h;cases hl:ez q0.locals nb x with
    |none=>rw[hl]at h;cases h
    |some l=>
     rw[hl]at h;have ok:=Sg hl Jv (by omega);have ok':tS q0.locals.length nb {l with num:=i}:=⟨ok.op,ok.op2,ok.places,ok.cQ,ok.next,ok.ER,ok.flag,ok.number⟩;refine oU nb r (i+1) _ q h hr ⟨h0.types,fun b hb y hy=> ?_⟩;simp only[QP.addLine,List.mem_append,List.mem_singleton]at hb;rcases hb with hb|rfl
     ·exact h0.lines b (List.dropLast_subset _ hb) y hy
     ·simp only[List.mem_append,List.mem_singleton]at hy;rcases hy with hy|rfl
      ·rw[List.getLastD_eq_getLast?]at hy;cases hq:q0.blocks.getLast? with
       |none=>rw[hq]at hy;simp at hy
       |some b'=>
        rw[hq]at hy;exact h0.lines b' (List.mem_of_getLast? hq) y hy
      ·exact ok'
end PrjS
end Go.Proofs.YtmlgajhhnojdjaaGreatDoor

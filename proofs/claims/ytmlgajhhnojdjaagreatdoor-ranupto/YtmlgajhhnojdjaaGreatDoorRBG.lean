import Derived.Test.YtmlgajhhnojdjaaGreatDoorRBF
import Derived.Deep.DeepFit
namespace Go.Proofs.YtmlgajhhnojdjaaGreatDoor
namespace Mac
open Go Go.RowKit Sq Aux PrjJ PrjK PrjL PrjM Go.Proofs.YtmlgajhhnojdjaaGreatDoor.Own RefRa RefP RefO
theorem Oo:(Tryz.prog.info? 264).map (fun i=>(i.zero,i.size,i.bytes))=some (some (.agg #[.int .i64 0,.bool false]),2,16):=by kernel_rfl
section
variable {w0 w w1 w2 w3:World} {x:Nat} {f:Fx} {m:RM} {p:RP} {l:B} {t:Nat}
set_option maxRecDepth 20000 in
set_option maxHeartbeats 2000000 in
theorem H9 (hC:Ctx w0 p f)(h:cd w0 x f w m)(hl:Wd p l)(v:Int)(hO:m.Ok t)(ht:t<=3000000):
  Calls Tryz.prog 192 #[.pointer (some ⟨x,0,none⟩),.string (bs l),.int .i64 v] w fun e w'=>e=.returned (.tuple #[])/\cd w0 x f w' (m.made f (sp p l) v):=by
 obtain⟨hi,-⟩:=hl.lt hC.aW;obtain⟨i,Z3,A1,Ez,xX⟩:=info_parts Oo;have hb:=hO.boxes;have hc:=hO.count;have htr:=hO.trace;by_cases hr:f.room<=m.count
 ·have HG:Hid (m.made f (sp p l) v={m with out:=3}):=by unfold Hid RM.made;rw[jb hr]
  obtain⟨vb,vt,hV⟩:=h;obtain⟨c0,c1,c2,c3,c4,c5,c6,c7,c8,c9⟩:=hV.facts;go_enter Tryz.func192,Tryz.ntmps192
  go_upto_region 0 with fail
  go_quiet (fail)
  have Kd:bO w0 x f (w.drewN nq) m vb vt:=hV.below (below_drewN (Below.refl _ _) _);clear hV c0 c1 c2 c3 c4 c5 c6 c7 c8 c9;generalize w.drewN nq=wq at*;obtain⟨f1,f2,f3,f4,f5,f6⟩:=Kd.eB;obtain⟨c0,c1,c2,c3,c4,c5,c6,c7,c8,c9⟩:=Kd.facts;have eR:bO w0 x f (wq.setCell ⟨x,154,none⟩ (.int .i64 3)) {m with out:=3} vb vt:=Kd.tG 3;go_wp2
  try simp only[Exit.inBlock,Exit.then]
  refine bodyPost_ret (results_none rfl _ _ _) rfl ?_;exact⟨rfl,by rw[HG.out];exact⟨vb,vt,eR⟩⟩
 ·have HG:Hid (m.made f (sp p l) v=(let m1:=RM.note {m with boxes:=m.boxes++[(v,true)],count:=m.count+1} 43 ((m.boxes.length+1:Nat):Int);let m2:RM:={m1 with held:=m1.held.set (sp p l) (m.boxes.length+1)};if f.owns=true then{m2 with ba:=m2.ba.set (sp p l) 119}else m2)):=by unfold Hid RM.made;rw[ja hr]
  have i1:((sp p l:Nat):Int)<24:=by omega
  obtain⟨vb,vt,hV⟩:=h;obtain⟨c0,c1,c2,c3,c4,c5,c6,c7,c8,c9⟩:=hV.facts;go_enter Tryz.func192,Tryz.ntmps192
  go_upto_region 0 with fail
  go_quiet (fail)
  have Kd:bO w0 x f (w.drewN nq) m vb vt:=hV.below (below_drewN (Below.refl _ _) _);clear hV c0 c1 c2 c3 c4 c5 c6 c7 c8 c9;generalize w.drewN nq=wq at*;obtain⟨c0,c1,c2,c3,c4,c5,c6,c7,c8,c9⟩:=Kd.facts;have aY:Below wq.heap.size wq (wq.alloc (.cells #[.int .i64 v,.bool true] 264)):=(Below.refl _ _).alloc (jC _) _;have HA:=Kd.below aY;obtain⟨a0,a1,a2,a3,a4,a5,a6,a7,a8,a9⟩:=HA.facts;have qu:w0.heap.size<=(wq.alloc (.cells #[.int .i64 v,.bool true] 264)).heap.size:=by have:=HA.lt;have:=HA.base;omega
  go_wp2_with (first
   |(at_builtin;go_must (refine kh rfl _ _ 92 rfl w0.heap.size 264 i (.agg #[.int .i64 0,.bool false]) 2 16 Tryz.underlying92 Z3 A1 Ez xX rfl (by decide) vb _ _ rfl HA.boxes wq.heap.size [.int .i64 v,.bool true] rfl jD rfl (by intro u' hu;simp at hu;rcases hu with rfl|rfl<;>rfl) (by decide) (by omega) qu ?_);intro g4 c4' w4 hown4 hgrow4 hat4 hlt4;obtain⟨gK,N9⟩:=HA.Jz (b:=(v,true)) hown4 hgrow4;have rf:w4.frozen? ⟨x,148,none⟩=false:=frozen_of_heap gK 148;have r5:w4.cell? ⟨x,148,none⟩=some vb:=(by rw[cell_of_heap gK,List.getElem?_toArray];exact HA.len.jr (f:=f) (vb:=vb) (vt:=vt) 0);obtain⟨b0,b1,b2,b3,b4,b5,b6,b7,b8,b9⟩:=N9.facts;obtain⟨f1,f2,f3,f4,f5,f6⟩:=N9.eB;have Xk:=N9.IW (m.count+1);obtain⟨d0,d1,d2,d3,d4,d5,d6,d7,d8,d9⟩:=Xk.facts;have KN:Calls Tryz.prog 152 #[.pointer (some ⟨x,0,none⟩),.string ⟨#[43]⟩,.int .i64 ((m.boxes.length+1:Nat):Int)] _ _:=gd ⟨_,_,Xk⟩ 43 ((m.boxes.length+1:Nat):Int) (by unfold aO;omega) (by show m.trace.length<=_;omega))
   |(go_at_call 152;refine KN.mono ?_;rintro e w9 ⟨rfl,hM⟩;have KS:=fc hC hM hl)
   |(go_at_call 149;refine KS.mono ?_;rintro e w10 ⟨rfl,vb',vt',Rg⟩;obtain⟨b10,cap10,ev⟩:=vU Rg.boxes;rw[show(RM.note {m with boxes:=m.boxes++[(v,true)],count:=m.count+1} 43 ((m.boxes.length+1:Nat):Int)).boxes.length=m.boxes.length+1 from jV]at ev;generalize hN:m.boxes.length+1=N at*;subst ev;obtain⟨e0,e1,e2,e3,e4,e5,e6,e7,e8,e9⟩:=Rg.facts;obtain⟨h1,h2⟩:=Rg.Et hi;obtain⟨q1,q2⟩:=Rg.qn hi))
  go_upto_region 6 with fail
  go_region_law (fail)
  all_goals
   have hV11:=Rg.below ((Below.refl w10.heap.size w10).drew);have UD:=hV11.zZ hi N;obtain⟨k0,k1,k2,k3,k4,k5,k6,k7,k8,k9⟩:=UD.facts;obtain⟨j1,j2⟩:=UD.qn hi;have hV13:=UD.pX hi 119
  all_goals
   cases js:f.owns
   ·rw[js]at k1;go_wp2_with fail
    go_end0
    refine⟨rfl,?_⟩;rw[HG.out,ja (by rw[js];decide)];exact⟨_,_,UD⟩
   ·rw[js]at k1;go_wp2_with fail
    go_end0
    refine⟨rfl,?_⟩;rw[HG.out,jb js];exact⟨_,_,hV13⟩
set_option maxRecDepth 20000 in
set_option maxHeartbeats 2000000 in
theorem fY (hC:Ctx w0 p f)(h:cd w0 x f w m)(hl:Wd p l)(hO:m.Ok t)(ht:t+2<=3000000):
  Calls Tryz.prog 148 #[.pointer (some ⟨x,0,none⟩),.string (bs l)] w fun e w'=>e=.returned (.tuple #[])/\cd w0 x f w' (m.drop p l):=by
 obtain⟨hi,hi2,Wm,hn2⟩:=hl.lt hC.aW;have KS:=fun w' (hp:bf w' f.a p)=>kz p f.a l w' hp hC.ok hl.len hl.find
 have KL:=fun w'=>zR l w' hl.len
 rw[M0]at KL;unfold RM.drop;have e1:(p.ak l).1=sp p l:=rfl;rw[e1]at KS;generalize sp p l=i at*;generalize (p.ak l).2=n at*;generalize dk l=c at*;obtain⟨vb,vt,hV⟩:=h;obtain⟨c0,c1,c2,c3,c4,c5,c6,c7,c8,c9⟩:=hV.facts;have HP:=hC.prog.below hV.br;go_enter Tryz.func148,Tryz.ntmps148
 go_wp2_with (go_at_call 143;refine(KS _ HP).mono ?_;rintro e w1 ⟨rfl,n1,rfl⟩)
 have HM:Hid (cd w0 x f (w.drewN n1) (m.mh c i 0)):=⟨vb,vt,hV.below (below_drewN (Below.refl _ _) _)⟩;clear hV c0 c1 c2 c3 c4 c5 c6 c7 c8 c9 HP KS e1;go_loopw [6] (fun v6 wr=>∃(j:Nat),j<=n/\v6=.int .i64 ((i+j:Nat):Int)/\Hid (cd w0 x f wr (m.mh c i j))) (fun v _=>i+n-(intOf v).toNat)
 case atStart=>exact⟨0,jQ _,by simp,HM⟩
 case round=>
  obtain⟨j,hj,rfl,HJ⟩:=hrel;clear HM;by_cases aL:j<n
  ·have hOj:=hO.mh c i j (by omega);have hM:=HJ.out;have vE:Hid ((m.mh c i j).ee c (i+j)=m.mh c i (j+1)):=rfl;generalize hmj:m.mh c i j=mj at*;have zm:i+j<24:=by omega
   have i4:((i+j:Nat):Int)<24:=by omega
   have i5:((i+j:Nat):Int)<(i:Int)+n:=by omega
   obtain⟨vb,vt,hV⟩:=hM;obtain⟨a1,a2⟩:=hV.qn zm;by_cases hh:mj.ba.getD (i+j) 0=119
   ·rw[hh]at a1;have KF:=AL ⟨vb,vt,hV⟩ zm hOj (by omega);generalize hk:i+j=k at*;go_wp2_with (first
     |(go_at_call 156;refine KF.mono ?_;rintro e w2 ⟨rfl,vb2,vt2,eR⟩;obtain⟨b1,b2⟩:=eR.qn zm)
     |fail)
    go_upto_region 6 with fail
    go_region_law (go_simp;go_at_call 140;refine(KL _).mono ?_;rintro e w3 ⟨rfl,rfl⟩)
    all_goals
     have qt:=(eR.below ((Below.refl w2.heap.size w2).drew)).pX zm c;go_wp2_with fail
     refine⟨⟨j+1,by omega,by rw[<-Nat.add_assoc,hk];go_num,?_⟩,by simp[intOf];omega⟩;rw[<-vE.out];unfold RM.ee;rw[jb hh];exact⟨_,_,qt⟩
   ·have hh2:¬((mj.ba.getD (i+j) 0).toNat:Int)=119:=fun e=>hh (UInt8.toNat_inj.1 (by rw[show(119:UInt8).toNat=119 from rfl];omega))
    generalize hk:i+j=k at*;have HB:Hid (¬mj.ba.getD k 0=119):=hh;generalize mj.ba.getD k 0=bb at a1 hh2;clear hh;go_upto_region 6 with fail
    go_region_law (go_simp;go_at_call 140;refine(KL _).mono ?_;rintro e w3 ⟨rfl,rfl⟩)
    all_goals
     have qt:=(hV.below ((Below.refl wr.heap.size wr).drew)).pX zm c;go_wp2_with fail
     refine⟨⟨j+1,by omega,by rw[<-Nat.add_assoc,hk];go_num,?_⟩,by simp[intOf];omega⟩;rw[<-vE.out];unfold RM.ee;rw[ja HB.out];exact⟨_,_,qt⟩
  ·have i5:¬((i+j:Nat):Int)<(i:Int)+n:=by omega
   go_wp2
   go_end0
   have e:j=n:=by omega
   subst e;exact⟨rfl,HJ.out⟩
end
end Mac
namespace Mac
open Go Go.RowKit Sq Aux PrjJ PrjK PrjL PrjM Go.Proofs.YtmlgajhhnojdjaaGreatDoor.Own RefRa RefP
section
variable {w0 w w1 w2 w3:World} {x gw cw:Nat} {f:Fx} {m:RM} {p:RP} {ws:List B} {t:Nat} {vb vt:Value}
theorem gZ {i:Nat}(h:m.has.getD i false=true):m.bE i=m:=by unfold RM.bE;rw[jb h]
theorem kQ {i:Nat}(h:¬m.has.getD i false=true):m.bE i={m with out:=5}:=by unfold RM.bE;rw[ja h]
theorem lX {i:Nat}(h:¬m.named i=0):m.boxed i=m:=by unfold RM.boxed;rw[ja h]
theorem rX {i:Nat}(h:m.named i=0):m.boxed i={m with out:=5}:=by unfold RM.boxed;rw[jb h]
set_option maxRecDepth 20000 in
set_option maxHeartbeats 2000000 in
theorem Sy (hC:Ctx w0 p f)(h:cd w0 x f w m)(hR:Row w0 ws gw)(hn:ws.length=3)(h2:Wd p (word ws 2))(hw:word ws 0=[110,101,119])(hh:¬m.has.getD (sp p (word ws 2)) false=true):
  Calls Tryz.prog 153 #[.pointer (some ⟨x,0,none⟩),.slice (some ⟨gw,0,none⟩) ws.length cw] w fun e w'=>e=.returned (.tuple #[])/\cd w0 x f w' (m.new f p ws):=by
 have y0:=hR.on h (j:=0) (by omega);rw[hw]at y0;have z2:=hR.on h (j:=2) (by omega);have KI:=cN hC h h2;rw[kQ hh]at KI;have HG:Hid (m.new f p ws={m with out:=5}):=by unfold Hid;unfold RM.new;simp only;rw[kQ hh,jb (by simp)]
 have la:(ws.length:Int)=3:=by omega
 go_enter Tryz.func153,Tryz.ntmps153
 go_wp2_with (first
  |(go_at_call 147;refine KI.mono ?_;rintro e w1 ⟨rfl,vb1,vt1,lf⟩;obtain⟨c0,c1,c2,c3,c4,c5,c6,c7,c8,c9⟩:=lf.facts;obtain⟨f1,f2,f3,f4,f5,f6⟩:=lf.eB))
 try simp only[Exit.inBlock,Exit.then]
 refine bodyPost_ret (results_none rfl _ _ _) rfl ?_;exact⟨rfl,by rw[HG.out];exact⟨_,_,lf⟩⟩
set_option maxRecDepth 20000 in
set_option maxHeartbeats 2000000 in
theorem Sx (hC:Ctx w0 p f)(h:cd w0 x f w m)(hR:Row w0 ws gw)(hn:ws.length=3)(h1:Wd p (word ws 1))(h2:Wd p (word ws 2))(h0:m.out=0)(hw:word ws 0=[110,101,119])(hh:m.has.getD (sp p (word ws 2)) false=true)(hO:m.Ok t)(ht:t<=2000000)(hf:f.owns=false):
  Calls Tryz.prog 153 #[.pointer (some ⟨x,0,none⟩),.slice (some ⟨gw,0,none⟩) ws.length cw] w fun e w'=>e=.returned (.tuple #[])/\cd w0 x f w' (m.new f p ws):=by
 have y0:=hR.on h (j:=0) (by omega);rw[hw]at y0;have z2:=hR.on h (j:=2) (by omega);have KI:=cN hC h h2;rw[gZ hh]at KI;have HG:Hid (m.new f p ws=m.made f (sp p (word ws 1)) (m.int (sp p (word ws 2)))):=by unfold Hid;unfold RM.new;simp only;rw[gZ hh,ja (by rw[h0];decide),ja (by rw[hf];decide)]
 have la:(ws.length:Int)=3:=by omega
 go_enter Tryz.func153,Tryz.ntmps153
 go_wp2_with (first
  |(go_at_call 147;refine KI.mono ?_;rintro e w1 ⟨rfl,vb1,vt1,lf⟩;obtain⟨c0,c1,c2,c3,c4,c5,c6,c7,c8,c9⟩:=lf.facts;obtain⟨f1,f2,f3,f4,f5,f6⟩:=lf.eB;rw[h0]at c8;rw[hf]at c1;have z1:=hR.at lf (j:=1) (by omega);have KM:=H9 hC ⟨_,_,lf⟩ h1 (m.int (sp p (word ws 2))) hO (by omega))
  |(go_at_call 192;refine KM.mono ?_;rintro e w9 ⟨rfl,xN⟩))
 go_end0
 exact⟨rfl,by rw[HG.out];exact xN⟩
set_option maxRecDepth 20000 in
set_option maxHeartbeats 2000000 in
theorem SA (hC:Ctx w0 p f)(h:cd w0 x f w m)(hR:Row w0 ws gw)(hn:ws.length=3)(h1:Wd p (word ws 1))(h2:Wd p (word ws 2))(h0:m.out=0)(hw:word ws 0=[110,101,119])(hh:m.has.getD (sp p (word ws 2)) false=true)(hO:m.Ok t)(ht:t<=2000000)(hf:f.owns=true):
  Calls Tryz.prog 153 #[.pointer (some ⟨x,0,none⟩),.slice (some ⟨gw,0,none⟩) ws.length cw] w fun e w'=>e=.returned (.tuple #[])/\cd w0 x f w' (m.new f p ws):=by
 have y0:=hR.on h (j:=0) (by omega);rw[hw]at y0;have z2:=hR.on h (j:=2) (by omega);have KI:=cN hC h h2;rw[gZ hh]at KI;have HG:Hid (m.new f p ws=(m.drop p (word ws 1)).made f (sp p (word ws 1)) (m.int (sp p (word ws 2)))):=by unfold Hid;unfold RM.new;simp only;rw[gZ hh,ja (by rw[h0];decide),jb hf]
 have la:(ws.length:Int)=3:=by omega
 go_enter Tryz.func153,Tryz.ntmps153
 go_wp2_with (first
  |(go_at_call 147;refine KI.mono ?_;rintro e w1 ⟨rfl,vb1,vt1,lf⟩;obtain⟨c0,c1,c2,c3,c4,c5,c6,c7,c8,c9⟩:=lf.facts;obtain⟨f1,f2,f3,f4,f5,f6⟩:=lf.eB;rw[h0]at c8;rw[hf]at c1;have z1:=hR.at lf (j:=1) (by omega);have KD:=fY hC ⟨_,_,lf⟩ h1 hO (by omega))
  |(go_at_call 148;refine KD.mono ?_;rintro e w2 ⟨rfl,Ck⟩;have z3:=hR.on Ck (j:=1) (by omega);have KM:=H9 hC Ck h1 (m.int (sp p (word ws 2))) (hO.drop (by omega) h1 hC.aW) (by omega))
  |(go_at_call 192;refine KM.mono ?_;rintro e w9 ⟨rfl,xN⟩))
 go_end0
 exact⟨rfl,by rw[HG.out];exact xN⟩
set_option maxRecDepth 20000 in
set_option maxHeartbeats 2000000 in
theorem OO (hC:Ctx w0 p f)(h:cd w0 x f w m)(hR:Row w0 ws gw)(hn:ws.length=3)(h2:Wd p (word ws 2))(hw:word ws 0=[108,111,97,100])(hO:m.Ok t)(ht:t<=2000000)(hb:m.named (sp p (word ws 2))=0):
  Calls Tryz.prog 153 #[.pointer (some ⟨x,0,none⟩),.slice (some ⟨gw,0,none⟩) ws.length cw] w fun e w'=>e=.returned (.tuple #[])/\cd w0 x f w' (m.load p ws):=by
 have y0:=hR.on h (j:=0) (by omega);rw[hw]at y0;have z2:=hR.on h (j:=2) (by omega);have KS:=fc hC h h2;obtain⟨hi,-⟩:=h2.lt hC.aW;have HG:Hid (m.load p ws={m with out:=5}):=by unfold Hid;unfold RM.load;simp only;rw[rX hb,ja (by simp)]
 have la:(ws.length:Int)=3:=by omega
 go_enter Tryz.func153,Tryz.ntmps153
 go_wp2_with (first
  |(go_at_call 149;refine KS.mono ?_;rintro e w1 ⟨rfl,xM⟩;have KB:=iY xM hi hO (by omega);rw[hb,rX hb]at KB)
  |(go_at_call 193;refine KB.mono ?_;rintro e w2 ⟨rfl,vb2,vt2,eR⟩;obtain⟨c0,c1,c2,c3,c4,c5,c6,c7,c8,c9⟩:=eR.facts;obtain⟨f1,f2,f3,f4,f5,f6⟩:=eR.eB))
 go_end0
 exact⟨rfl,by rw[HG.out];exact⟨_,_,eR⟩⟩
set_option maxRecDepth 20000 in
set_option maxHeartbeats 2000000 in
theorem OP (hC:Ctx w0 p f)(h:cd w0 x f w m)(hR:Row w0 ws gw)(hn:ws.length=3)(h1:Wd p (word ws 1))(h2:Wd p (word ws 2))(h0:m.out=0)(hw:word ws 0=[108,111,97,100])(hO:m.Ok t)(ht:t<=2000000)(hb:¬m.named (sp p (word ws 2))=0):
  Calls Tryz.prog 153 #[.pointer (some ⟨x,0,none⟩),.slice (some ⟨gw,0,none⟩) ws.length cw] w fun e w'=>e=.returned (.tuple #[])/\cd w0 x f w' (m.load p ws):=by
 have y0:=hR.on h (j:=0) (by omega);rw[hw]at y0;have z2:=hR.on h (j:=2) (by omega);have KS:=fc hC h h2;obtain⟨hi,-⟩:=h2.lt hC.aW;have hle:=oV hO (sp p (word ws 2));have hbt:=hO.boxes;have htr:=hO.trace;have Qj:=fun w' (hM:cd w0 x f w' m)=>iY hM hi hO (by omega)
 rw[lX hb]at Qj;have HG:Hid (m.load p ws=(m.note 60 ((m.named (sp p (word ws 2)):Nat):Int)).be (sp p (word ws 1)) (m.box (m.named (sp p (word ws 2)))).1):=by unfold Hid;unfold RM.load;simp only;rw[lX hb,jb h0]
 have la:(ws.length:Int)=3:=by omega
 go_enter Tryz.func153,Tryz.ntmps153
 go_wp2_with (first
  |(go_at_call 149;refine KS.mono ?_;rintro e w1 ⟨rfl,xM⟩;have KB:=Qj _ xM;generalize m.named (sp p (word ws 2))=n at*)
  |(go_at_call 193;refine KB.mono ?_;rintro e w2 ⟨rfl,vb2,vt2,eR⟩;obtain⟨c0,c1,c2,c3,c4,c5,c6,c7,c8,c9⟩:=eR.facts;obtain⟨f1,f2,f3,f4,f5,f6⟩:=eR.eB;rw[h0]at c8;have KN:Calls Tryz.prog 152 #[.pointer (some ⟨x,0,none⟩),.string ⟨#[60]⟩,.int .i64 ((n:Nat):Int)] _ _:=gd ⟨_,_,eR⟩ 60 ((n:Nat):Int) (by unfold aO;omega) (by omega))
  |(go_at_call 152;refine KN.mono ?_;rintro e w3 ⟨rfl,vb3,vt3,qt⟩;obtain⟨g,cap,rfl,kM,hg,q0,q1,q2,q3⟩:=qt.box (n:=n) (by omega) hle;obtain⟨d0,d1,d2,d3,d4,d5,d6,d7,d8,d9⟩:=qt.facts;have z1:=hR.at qt (j:=1) (by omega);have e1:((n:Int)-1).toNat=n-1:=(by omega);have i3:(1:Int)<=n:=(by omega);have i4:(n:Int)<=(m.note 60 ((n:Nat):Int)).boxes.length:=(by show(n:Int)<=m.boxes.length;omega);have i8:IntKind.i64.wrap ((n:Int)-1)=(n:Int)-1:=(by rw[IntKind.wrap_i64];omega);have i6:(0:Int)<=(n:Int)-1:=(by omega);have i7:(n:Int)-1<(m.note 60 ((n:Nat):Int)).boxes.length:=(by omega);have KE:=qE hC ⟨_,_,qt.below ((Below.refl w3.heap.size w3).drew)⟩ h1 (m.box n).1))
 go_upto_region 11 with fail
 go_region_law (go_simp;go_at_call 150;refine KE.mono ?_;rintro e w9 ⟨rfl,xN⟩)
 all_goals go_wp2_with fail
 all_goals go_end0
 all_goals exact⟨rfl,by rw[HG.out];exact xN⟩
set_option maxRecDepth 20000 in
set_option maxHeartbeats 2000000 in
theorem Ma (hC:Ctx w0 p f)(h:cd w0 x f w m)(hR:Row w0 ws gw)(hn:ws.length=3)(h1:Wd p (word ws 1))(h2:Wd p (word ws 2))(h0:m.out=0)(hw:word ws 0=[115,116,111,114,101])(hO:m.Ok t)(ht:t<=2000000)(hb:¬m.named (sp p (word ws 1))=0)(hh:m.has.getD (sp p (word ws 2)) false=true):
  Calls Tryz.prog 153 #[.pointer (some ⟨x,0,none⟩),.slice (some ⟨gw,0,none⟩) ws.length cw] w fun e w'=>e=.returned (.tuple #[])/\cd w0 x f w' (m.store p ws):=by
 have y0:=hR.on h (j:=0) (by omega);rw[hw]at y0;have z1:=hR.on h (j:=1) (by omega);have KS:=fc hC h h1;obtain⟨hi,-⟩:=h1.lt hC.aW;have hle:=oV hO (sp p (word ws 1));have hbt:=hO.boxes;have htr:=hO.trace;have Qj:=fun w' (hM:cd w0 x f w' m)=>iY hM hi hO (by omega)
 rw[lX hb]at Qj;have HG:Hid (m.store p ws={m.note 62 ((m.named (sp p (word ws 1)):Nat):Int)with boxes:=m.boxes.set (m.named (sp p (word ws 1))-1) (m.int (sp p (word ws 2)),(m.box (m.named (sp p (word ws 1)))).2)}):=by unfold Hid;unfold RM.store;simp only;rw[lX hb,gZ hh,jb h0]
 have la:(ws.length:Int)=3:=by omega
 go_enter Tryz.func153,Tryz.ntmps153
 go_wp2_with (first
  |(go_at_call 149;refine KS.mono ?_;rintro e w1 ⟨rfl,xM⟩;have KB:=Qj _ xM;generalize m.named (sp p (word ws 1))=n at*)
  |(go_at_call 193;refine KB.mono ?_;rintro e w2 ⟨rfl,Ck⟩;have z2:=hR.on Ck (j:=2) (by omega);have KI:=cN hC Ck h2;rw[gZ hh]at KI)
  |(go_at_call 147;refine KI.mono ?_;rintro e w3 ⟨rfl,vb2,vt2,eR⟩;obtain⟨c0,c1,c2,c3,c4,c5,c6,c7,c8,c9⟩:=eR.facts;obtain⟨f1,f2,f3,f4,f5,f6⟩:=eR.eB;rw[h0]at c8;have KN:Calls Tryz.prog 152 #[.pointer (some ⟨x,0,none⟩),.string ⟨#[62]⟩,.int .i64 ((n:Nat):Int)] _ _:=gd ⟨_,_,eR⟩ 62 ((n:Nat):Int) (by unfold aO;omega) (by omega))
  |(go_at_call 152;refine KN.mono ?_;rintro e w4 ⟨rfl,vb3,vt3,qt⟩;obtain⟨g,cap,rfl,kM,hg,q0,q1,q2,q3⟩:=qt.box (n:=n) (by omega) hle;obtain⟨d0,d1,d2,d3,d4,d5,d6,d7,d8,d9⟩:=qt.facts;have e1:((n:Int)-1).toNat=n-1:=(by omega);have i3:(1:Int)<=n:=(by omega);have i4:(n:Int)<=(m.note 62 ((n:Nat):Int)).boxes.length:=(by show(n:Int)<=m.boxes.length;omega);have N9:=(qt.tF (n:=n) (by omega) hle).1 (m.int (sp p (word ws 2)))))
 go_end0
 exact⟨rfl,by rw[HG.out];exact⟨_,_,N9⟩⟩
set_option maxRecDepth 20000 in
set_option maxHeartbeats 2000000 in
theorem L8 (hC:Ctx w0 p f)(h:cd w0 x f w m)(hR:Row w0 ws gw)(hn:ws.length=3)(h1:Wd p (word ws 1))(h2:Wd p (word ws 2))(hw:word ws 0=[115,116,111,114,101])(hO:m.Ok t)(ht:t<=2000000)(hb:m.named (sp p (word ws 1))=0):
  Calls Tryz.prog 153 #[.pointer (some ⟨x,0,none⟩),.slice (some ⟨gw,0,none⟩) ws.length cw] w fun e w'=>e=.returned (.tuple #[])/\cd w0 x f w' (m.store p ws):=by
 have y0:=hR.on h (j:=0) (by omega);rw[hw]at y0;have z1:=hR.on h (j:=1) (by omega);have KS:=fc hC h h1;obtain⟨hi,-⟩:=h1.lt hC.aW;have Qj:=fun w' (hM:cd w0 x f w' m)=>iY hM hi hO (by omega)
 rw[rX hb]at Qj;have ho5:¬(RM.bE {m with out:=5} (sp p (word ws 2))).out=0:=by unfold RM.bE;split<;>simp
 have ho6:=SR ho5;have HG:Hid (m.store p ws=RM.bE {m with out:=5} (sp p (word ws 2))):=by unfold Hid;unfold RM.store;simp only;rw[rX hb,ja ho5]
 have la:(ws.length:Int)=3:=by omega
 go_enter Tryz.func153,Tryz.ntmps153
 go_wp2_with (first
  |(go_at_call 149;refine KS.mono ?_;rintro e w1 ⟨rfl,xM⟩;have KB:=Qj _ xM)
  |(go_at_call 193;refine KB.mono ?_;rintro e w2 ⟨rfl,Ck⟩;have z2:=hR.on Ck (j:=2) (by omega);have KI:=cN hC Ck h2)
  |(go_at_call 147;refine KI.mono ?_;rintro e w3 ⟨rfl,vb2,vt2,eR⟩;obtain⟨c0,c1,c2,c3,c4,c5,c6,c7,c8,c9⟩:=eR.facts;obtain⟨f1,f2,f3,f4,f5,f6⟩:=eR.eB))
 go_end0
 exact⟨rfl,by rw[HG.out];exact⟨_,_,eR⟩⟩
set_option maxRecDepth 20000 in
set_option maxHeartbeats 2000000 in
theorem L9 (hC:Ctx w0 p f)(h:cd w0 x f w m)(hR:Row w0 ws gw)(hn:ws.length=3)(h1:Wd p (word ws 1))(h2:Wd p (word ws 2))(hw:word ws 0=[115,116,111,114,101])(hO:m.Ok t)(ht:t<=2000000)(hb:¬m.named (sp p (word ws 1))=0)(hh:¬m.has.getD (sp p (word ws 2)) false=true):
  Calls Tryz.prog 153 #[.pointer (some ⟨x,0,none⟩),.slice (some ⟨gw,0,none⟩) ws.length cw] w fun e w'=>e=.returned (.tuple #[])/\cd w0 x f w' (m.store p ws):=by
 have y0:=hR.on h (j:=0) (by omega);rw[hw]at y0;have z1:=hR.on h (j:=1) (by omega);have KS:=fc hC h h1;obtain⟨hi,-⟩:=h1.lt hC.aW;have Qj:=fun w' (hM:cd w0 x f w' m)=>iY hM hi hO (by omega)
 rw[lX hb]at Qj;have HG:Hid (m.store p ws={m with out:=5}):=by unfold Hid;unfold RM.store;simp only;rw[lX hb,kQ hh,ja (by simp)]
 have la:(ws.length:Int)=3:=by omega
 go_enter Tryz.func153,Tryz.ntmps153
 go_wp2_with (first
  |(go_at_call 149;refine KS.mono ?_;rintro e w1 ⟨rfl,xM⟩;have KB:=Qj _ xM)
  |(go_at_call 193;refine KB.mono ?_;rintro e w2 ⟨rfl,Ck⟩;have z2:=hR.on Ck (j:=2) (by omega);have KI:=cN hC Ck h2;rw[kQ hh]at KI)
  |(go_at_call 147;refine KI.mono ?_;rintro e w3 ⟨rfl,vb2,vt2,eR⟩;obtain⟨c0,c1,c2,c3,c4,c5,c6,c7,c8,c9⟩:=eR.facts;obtain⟨f1,f2,f3,f4,f5,f6⟩:=eR.eB))
 go_end0
 exact⟨rfl,by rw[HG.out];exact⟨_,_,eR⟩⟩
theorem Vp (hC:Ctx w0 p f)(h:cd w0 x f w m)(hR:Row w0 ws gw)(hn:ws.length=3)(h1:Wd p (word ws 1))(h2:Wd p (word ws 2))(h0:m.out=0)(hw:word ws 0=[110,101,119])(hO:m.Ok t)(ht:t<=2000000):
  Calls Tryz.prog 153 #[.pointer (some ⟨x,0,none⟩),.slice (some ⟨gw,0,none⟩) ws.length cw] w fun e w'=>e=.returned (.tuple #[])/\cd w0 x f w' (m.new f p ws):=by
 by_cases hh:m.has.getD (sp p (word ws 2)) false=true
 ·cases hf:f.owns
  ·exact Sx hC h hR hn h1 h2 h0 hw hh hO ht hf
  ·exact SA hC h hR hn h1 h2 h0 hw hh hO ht hf
 ·exact Sy hC h hR hn h2 hw hh
theorem Bi (hC:Ctx w0 p f)(h:cd w0 x f w m)(hR:Row w0 ws gw)(hn:ws.length=3)(h1:Wd p (word ws 1))(h2:Wd p (word ws 2))(h0:m.out=0)(hw:word ws 0=[108,111,97,100])(hO:m.Ok t)(ht:t<=2000000):
  Calls Tryz.prog 153 #[.pointer (some ⟨x,0,none⟩),.slice (some ⟨gw,0,none⟩) ws.length cw] w fun e w'=>e=.returned (.tuple #[])/\cd w0 x f w' (m.load p ws):=by
 by_cases hb:m.named (sp p (word ws 2))=0
 ·exact OO hC h hR hn h2 hw hO ht hb
 ·exact OP hC h hR hn h1 h2 h0 hw hO ht hb
theorem yl (hC:Ctx w0 p f)(h:cd w0 x f w m)(hR:Row w0 ws gw)(hn:ws.length=3)(h1:Wd p (word ws 1))(h2:Wd p (word ws 2))(h0:m.out=0)(hw:word ws 0=[115,116,111,114,101])(hO:m.Ok t)(ht:t<=2000000):
  Calls Tryz.prog 153 #[.pointer (some ⟨x,0,none⟩),.slice (some ⟨gw,0,none⟩) ws.length cw] w fun e w'=>e=.returned (.tuple #[])/\cd w0 x f w' (m.store p ws):=by
 by_cases hb:m.named (sp p (word ws 1))=0
 ·exact L8 hC h hR hn h1 h2 hw hO ht hb
 ·by_cases hh:m.has.getD (sp p (word ws 2)) false=true
  ·exact Ma hC h hR hn h1 h2 h0 hw hO ht hb hh
  ·exact L9 hC h hR hn h1 h2 hw hO ht hb hh
end
end Mac
namespace Own
open Go Go.RowKit Sq Aux PrjJ PrjK PrjL PrjM PrjS PrjT FlwA FlwB FlwE
section
variable {x a:Nat} {w w0:World} {vm vt vi:Value} {o:Own}
theorem dp.fd (h:dp w0 x a w o vi vm vt):w.cell? ⟨x,4,none⟩=some vi/\w.frozen? ⟨x,4,none⟩=false:=h.kb.more 1
theorem dp.Ng (h:dp w0 x a w o vi vm vt){vi':Value}{l:List Int}(hf:bY w0 vi' l):dp w0 x a (w.setCell ⟨x,4,none⟩ vi') {o with al:=l} vi' vm vt/\aN x vm vt w vm vt (w.setCell ⟨x,4,none⟩ vi'):=by
 obtain⟨h1,h2⟩:=h.kb.E8 1 vi';exact⟨⟨h1,h.br.trans (h2.below h.kb (jC _) h.br.size),h.ints,h.boxes,hf⟩,h2⟩
theorem bY.tail {v:Int}{r:List Int}{g f c:Nat}(h:bY w0 (.slice (some ⟨g,f,none⟩) (v::r).length c) (v::r)):bY w0 (.slice (some ⟨g,f+1,none⟩) r.length (c-1)) r:=by
 obtain⟨ad,c',e,h1,h2,h3⟩:=h;simp only[Value.slice.injEq]at e;obtain⟨rfl,-,rfl⟩:=e;simp only[List.length_cons]at h1;refine⟨_,_,rfl,by omega,by omega,fun j hj=> ?_⟩;obtain⟨g',f',e,hg,hc⟩:=h3 (j+1) (by simp;omega);simp only[Option.some.injEq,Addr.mk.injEq,and_true]at e;obtain⟨rfl,rfl⟩:=e;exact⟨g,f+1,rfl,hg,by rw[show f+1+j=f+(j+1) by omega,hc];rfl⟩
set_option maxRecDepth 20000 in
theorem QY (h:dp w0 x a w o vi vm vt):
  Calls Tryz.prog 103 #[.pointer (some ⟨x,4,none⟩)] w fun e w'=>e=.returned (.int .i64 (o.al.headD 0))/\∃vi',dp w0 x a w' {o with al:=o.al.tail} vi' vm vt/\aN x vm vt w vm vt w':=by
 obtain⟨c4,f4⟩:=h.fd;have hF:=h.feed;cases lg:o.al with
 |nil=>
  rw[lg]at hF;obtain⟨ad,c,rfl,h1,h2,-⟩:=hF;have hO:{o with al:=([]:List Int)}=o:=by rw[<-lg]
  go_enter Tryz.func103,Tryz.ntmps103
  go_wp2
  go_ret
  exact⟨rfl,_,by rw[List.tail_nil,hO];exact h,aN.refl _ _ _ _⟩
 |cons v r=>
  rw[lg]at hF;have hF':=hF;obtain⟨ad,c,rfl,h1,h2,h3⟩:=hF;obtain⟨g,f,rfl,hg,hc⟩:=h3 0 (by simp);have hT:=bY.tail hF';obtain⟨h5,h6⟩:=h.Ng hT;have c0:w.cell? ⟨g,f,none⟩=some (.int .i64 v):=by
   rw[Nat.add_zero]at hc;exact(h.br.cell (p:=⟨g,f,none⟩) hg).trans hc
  simp only[List.length_cons]at h1 h2 h5 c4;have i0:¬((r.length:Int)+1=0):=by omega
  have i1:(((r.length:Int)+1)==0)=false:=by rw[jZ];omega
  have i2:(1:Int)<=(r.length:Int)+1:=by omega
  have hcI:(r.length:Int)+1<=(c:Int):=by omega
  unfold maxLen at h2;by_cases kq:c=1
  ·subst kq;have hr:r=[]:=List.length_eq_zero_iff.mp (by omega);subst hr;have Zy:bY w0 (.slice (some ⟨g,f,none⟩) 0 0) []:=⟨_,_,rfl,jC _,jQ _,fun j hj=>absurd hj (Nat.not_lt_zero _)⟩;obtain⟨k5,k6⟩:=h.Ng Zy;go_enter Tryz.func103,Tryz.ntmps103
   go_wp2
   go_ret
   exact⟨rfl,_,k5,k6⟩
  ·have oa:¬c-1=0:=by omega
   have hc3:¬c<=1:=by omega
   go_enter Tryz.func103,Tryz.ntmps103
   go_wp2
   go_ret
   exact⟨rfl,_,h5,h6⟩
end
def Own.clear (o:Own)(p:Nat×Nat):Own:={o with boxes:=o.boxes.set (ah p) 0}
def Own.take:List (Nat×Nat)->Own->List Nat×Own
 |[],o=>([],o)
 |p::ps,o=>(o.box p::(Own.take ps (o.clear p)).1,(Own.take ps (o.clear p)).2)
theorem DQ:∀(ps:List (Nat×Nat)) (p:Nat×Nat) (o:Own),Own.take (ps++[p]) o=((Own.take ps o).1++[(Own.take ps o).2.box p],(Own.take ps o).2.clear p)
 |[],_,_=>rfl
 |q::ps,p,o=>by rw[jW,Own.take,DQ ps p,Own.take];rfl
end Own
namespace Own
open Go Go.RowKit Sq Aux PrjJ PrjK PrjL PrjM PrjS PrjT FlwA FlwB FlwE
theorem Yc:(Tryz.prog.info? 3).map (fun i=>(i.zero,i.size,i.bytes))=some (some (.int .i64 0),1,8):=by kernel_rfl
theorem PW {ps:List (Nat×Nat)}{k:Nat}(hk:k<ps.length)(o:Own):Own.take (ps.take (k+1)) o=((Own.take (ps.take k) o).1++[(Own.take (ps.take k) o).2.box (ps.getD k (0,0))],(Own.take (ps.take k) o).2.clear (ps.getD k (0,0))):=by
 have e:ps.take (k+1)=ps.take k++[ps.getD k (0,0)]:=by
  rw[List.take_add_one,jB hk,jA,jB hk];rfl
 rw[e,DQ]
theorem take_len:∀(ps:List (Nat×Nat)) (o:Own),(Own.take ps o).1.length=ps.length
 |[],_=>rfl
 |p::ps,o=>by rw[Own.take];simp[take_len ps]
section
variable {x a:Nat} {w w0 w1:World} {vm vt vi:Value} {o:Own}
theorem aN.qb (h:bw x w w1):aN x vm vt w vm vt w1:=⟨h.os,h.tape,h.output,h.size,fun k hk h1 _ _=>h.block k hk h1,fun _ h=> .inl h,fun _ h=> .inl h⟩
theorem dp.grown (h:dp w0 x a w o vi vm vt){b n:Nat}{v:Value}{xs:List Value}(hb:w0.heap.size<=b)(hr:w.ownsRow b 3 1 v n xs)(hg:w.grownBy w1 v.ownBlock):dp w0 x a w1 o vi vm vt:=by
 refine⟨⟨h.kb.base,h.kb.ty,?_,h.kb.made.kept hg (da h.kb.made hr (by decide)),h.kb.trace.kept hg (da h.kb.trace hr (by decide))⟩,h.br.trans ⟨hg.os,hg.tape,hg.output,hg.size,fun k hk=>hg.block k (jK hk h.br.size) (fun e=> ?_)⟩,h.ints,h.boxes,h.feed⟩
 ·rw[hg.block x h.lt (bj hr h.kb.aJ (by decide))];exact h.kb.aJ
 ·have:=(hr.lt k e.symm).1;omega
theorem Me (h:bw x w w1){w2:World}{b n:Nat}{e:TypeId}{v:Value}{xs:List Value}(hb:w.heap.size<=b)(hr:w1.ownsRow b e 1 v n xs)(hg:w1.grownBy w2 v.ownBlock):bw x w w2:=
 ⟨hg.os.trans h.os,hg.tape.trans h.tape,hg.output.trans h.output,jS h.size hg.size,fun k hk h1=>(hg.block k (jK hk h.size) (fun e=>by have:=(hr.lt k e.symm).1;omega)).trans (h.block k hk h1)⟩
theorem dp.clear (h:dp w0 x a w o vi vm vt)(p:Nat×Nat):dp w0 x a (w.setCell ⟨x,17+ah p,none⟩ (.int .i64 0)) (o.clear p) vi vm vt:=(h.Th (ah p) 0).1
set_option maxRecDepth 20000 in
set_option maxHeartbeats 2000000 in
theorem Dz {z n c:Nat}{ad:Option Addr}{ps:List (Nat×Nat)}(h:dp w0 x a w o vi vm vt)(hp:bP z w (.slice ad n c) ps)(hx:∀p∈ps,p.1<12)(Qb:ps.length<=1000):
  Calls Tryz.prog 96 #[.pointer (some ⟨x,0,none⟩),.slice ad n c] w fun e w'=>∃v,e=.returned v/\w'.ownsRow w.heap.size 3 1 v ps.length (fP (Own.take ps o).1)/\dp w0 x a w' (Own.take ps o).2 vi vm vt/\bw x w w':=by
 have hn:n=ps.length:=by
  obtain⟨ad',c',e⟩:=PrjP.ca hp;simp only[Value.slice.injEq]at e;exact e.2.1
 have hlen:ps.length<=maxLen:=by
  rcases hp.2 with⟨-,h⟩|⟨g,cap,cur,-,-,-,h1,h2,-⟩
  ·omega
  ·omega
 unfold maxLen at hlen;subst hn;obtain⟨i,hi,A1,Ez,xX⟩:=info_parts Yc;go_enter Tryz.func96,Tryz.ntmps96
 go_wp2
 go_loopg [5,10] (ps.length) (fun g v5 v10 wr=>∃(k:Nat),k<=ps.length/\g+k=ps.length/\v10=.int .i64 k/\dp w0 x a wr (Own.take (ps.take k) o).2 vi vm vt/\wr.ownsRow w.heap.size 3 1 v5 k (fP (Own.take (ps.take k) o).1)/\bw x w wr)
 case atStart=>exact⟨0,jQ _,rfl,rfl,h,World.ownsRow_nil _ _ _ _,bw.refl _ _⟩
 case round=>
  obtain⟨k,hk,GI,rfl,hO,hR,hT⟩:=hrel;by_cases aL:k<ps.length
  ·have GQ:bP z wr (.slice ad ps.length c) ps:=gi hp fun g hg=>hT.block g (hp.lt g hg).2 fun e=>by
    subst e;exact au hp h.kb.aJ (by decide) hg
   obtain⟨gp,rfl,-,qm,XD,c1,c2⟩:=db GQ k aL;have zo:=hx (ps.getD k (0,0)) (by simp[aL]);have HS:=PW aL o;generalize ps.getD k (0,0)=p at*;generalize (Own.take (ps.take k) o).2=ok at*;generalize (Own.take (ps.take k) o).1=tk at*;have kf:Below wr.heap.size wr (wr.alloc (.cells #[.int .i64 (p.1:Nat),.int .i64 (p.2:Nat)] 119)):=(Below.refl _ _).alloc (jC _) _;have hOx:=hO.below kf;have KB:=iY hOx p zo;have hkI:(k:Int)<ps.length:=by omega
   obtain⟨ad5,c5,rfl⟩:=PrjP.ca hR;have hszr:w.heap.size<=wr.heap.size:=hT.size;go_upto_region 6 with(first
    |(go_at_call 99;go_fit KB;rintro e w2 ⟨rfl,bU⟩;have mn:Below wr.heap.size wr w2:=kf.trans (bU.mono kf.size);have aY:Below w2.heap.size w2 (w2.alloc (.cells #[.int .i64 ((ok.box p:Nat):Int)] 3)):=(Below.refl _ _).alloc (jC _) _;have Zt:=ay (ay hR mn) aY;have qu:w.heap.size<=(w2.alloc (.cells #[.int .i64 ((ok.box p:Nat):Int)] 3)).heap.size:=(by have:=mn.size;have:=aY.size;omega))
    |(at_builtin;go_must (refine kh rfl _ _ 113 rfl w.heap.size 3 i (.int .i64 0) 1 8 Tryz.underlying113 hi A1 Ez xX rfl (by decide) _ _ _ rfl Zt w2.heap.size [.int .i64 ((ok.box p:Nat):Int)] rfl jD rfl (by intro u' hu;simp at hu;subst hu;rfl) (by decide) (by omega) qu ?_);intro g4 c4 w4 hown4 hgrow4 hat4 hlt4))
   have hO4:dp w0 x a w4 ok vi vm vt:=((hO.below mn).below aY).grown h.br.size Zt hgrow4;have ZA:bw x w w4:=Me ((hT.on mn).on aY) (jC _) Zt hgrow4;have Wr:w2.heap[wr.heap.size]?=some (.cells #[.int .i64 (p.1:Nat),.int .i64 (p.2:Nat)] 119 (0,0)):=(bU.block _ (by simp)).trans jD;have U5:=(aY.block _ (lt_of_heap Wr)).trans Wr;have XS:=(hgrow4.block _ (lt_of_heap U5) (bj Zt U5 (by decide))).trans U5;have q0:w4.cell? ⟨wr.heap.size,0,none⟩=some (.int .i64 (p.1:Nat)):=by rw[cell_of_heap XS];rfl
   have q1:w4.cell? ⟨wr.heap.size,1,none⟩=some (.int .i64 (p.2:Nat)):=by rw[cell_of_heap XS];rfl
   have yV:ah p<24:=by unfold ah;split<;>omega
   have RQ:(ah p:Int)<24:=by omega
   have KS:=kU p w4.drew (by omega);have hrow4:w4.ownsRow w.heap.size 3 1 (.slice (some ⟨g4,0,none⟩) (k+1) c4) (k+1) (fP (tk++[ok.box p])):=by simpa [fP]using hown4
   clear hgrow4 hown4 Zt aY mn bU Wr U5 XS kf hOx KB hR c1 c2;go_region_with (go_at_call 62;go_fit KS;rintro e w5 ⟨rfl,Dd⟩;have Xe:Below w4.heap.size w4 w5:=⟨Dd.os,Dd.tape,Dd.output,Dd.size,Dd.block⟩;have YG:=hO4.below Xe;obtain⟨s1,s2⟩:=YG.bx yV)
   all_goals go_wp2_with fail
   all_goals
    go_roundg (ps.length-(k+1))
    case measure=>omega
    case rel=>
     have hO6:=YG.clear p;have hr5:=ay hrow4 Xe;have hr6:=av hr5 (a:=⟨x,17+ah p,none⟩) (.int .i64 0) (au hr5 YG.kb.aJ (by decide));exact⟨k+1,by omega,by omega,by go_num,by rw[HS];exact hO6,by rw[HS];exact hr6,(ZA.on Xe).setCell _ _⟩
  ·have Dg:k=ps.length:=by omega
   subst Dg;rw[List.take_length]at hO hR;obtain⟨ad5,c5,rfl⟩:=PrjP.ca hR;go_wp2
   go_ret
   exact⟨_,rfl,hR,hO,hT⟩
end
end Own
end Go.Proofs.YtmlgajhhnojdjaaGreatDoor

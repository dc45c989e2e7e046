import Derived.Test.YtmlgajhhnojdjaaGreatDoorRAR
namespace Go.Proofs.YtmlgajhhnojdjaaGreatDoor
namespace Mac
open Go Go.RowKit Sq Aux PrjJ PrjK PrjL PrjM Go.Proofs.YtmlgajhhnojdjaaGreatDoor.Own RefRa RefP
def yp:B:=[97,100,100]
def yr:B:=[115,117,98]
def yq:B:=[109,117,108]
def sA:B:=[100,105,118]
def qn:B:=[115,111,109,101]
def Mz (w:B):Nat:=if w=yp then 3 else if w=yr then 4 else if w=yq then 5 else 6
def RM.arith (p:RP)(m:RM)(ws:List B):RM:=
 let m1:=(m.bD (sp p (word ws 2))).bD (sp p (word ws 3))
 if¬m1.out=0 then m1
 else if word ws 0=sA/\m.int (sp p (word ws 3))=0 then{m1 with out:=4}
 else m1.be (sp p (word ws 1)) (ve (Mz (word ws 0)) (m.int (sp p (word ws 2))) (m.int (sp p (word ws 3))))
def RM.db (m:RM)(c:UInt8)(i:Nat):Nat->RM
 |0=>m
 |n+1=>{RM.db m c i n with aZ:=(RM.db m c i n).aZ.set (i+n) c}
def RM.cT (m:RM)(held:List Nat)(aZ:List UInt8)(j i:Nat):Nat->RM
 |0=>m
 |n+1=>{RM.cT m held aZ j i n with held:=(RM.cT m held aZ j i n).held.set (j+n) (held.getD (i+n) 0),aZ:=(RM.cT m held aZ j i n).aZ.set (j+n) (aZ.getD (i+n) 0)}
def RM.owned (p:RP)(m:RM)(ws:List B):RM:=
 let m1:=m.db (dj (word ws 2)) (sp p (word ws 2)) (p.aj (word ws 2)).2
 let m2:=m1.drop p (word ws 1)
 let m3:=m2.cT m.held m.aZ (sp p (word ws 1)) (sp p (word ws 2)) (p.aj (word ws 2)).2
 if word ws 0=qn then{m3 with aZ:=m3.aZ.set (sp p (word ws 1)) 119}else m3
def RM.Qv (j i:Nat):Nat->Nat->RM->RM×Bool
 |0,_,m=>(m,true)
 |k+1,c,m=>if m.held.getD (i+c) 0=0 then({m with out:=5},false)else RM.Qv j i k (c+1) {m with held:=m.held.set (j+c) (m.held.getD (i+c) 0)}
def RM.V3 (p:RP)(m:RM)(ws:List B):RM:=
 let r:=RM.Qv (sp p (word ws 1)) (sp p (word ws 2)) (p.aj (word ws 2)).2 0 m
 if r.2=false then r.1 else if word ws 0=qn then{r.1 with aZ:=r.1.aZ.set (sp p (word ws 1)) 119}else r.1
def RM.bare (p:RP)(m:RM)(ws:List B):RM:=
 if p.typeOf (word ws 2)=eG then
  if m.aZ.getD (sp p (word ws 2)) 0=0 then{m with out:=5}
  else
   let m1:RM:={m with aZ:=m.aZ.set (sp p (word ws 1)) (m.aZ.getD (sp p (word ws 2)) 0)}
   if m1.aZ.getD (sp p (word ws 2)) 0=110 then m1 else m1.V3 p ws
 else m.V3 p ws
def RM.new (f:Fx)(p:RP)(m:RM)(ws:List B):RM:=
 let m1:=m.bD (sp p (word ws 2))
 if¬m1.out=0 then m1 else RM.made f (if f.owns=true then m1.drop p (word ws 1)else m1) (sp p (word ws 1)) (m.int (sp p (word ws 2)))
def RM.load (p:RP)(m:RM)(ws:List B):RM:=
 let i:=sp p (word ws 2)
 let m1:=m.boxed i
 if m1.out=0 then(m1.note 60 ((m.named i:Nat):Int)).be (sp p (word ws 1)) (m.box (m.named i)).1 else m1
def RM.store (p:RP)(m:RM)(ws:List B):RM:=
 let i:=sp p (word ws 1)
 let m1:=(m.boxed i).bD (sp p (word ws 2))
 if m1.out=0 then{m1.note 62 ((m.named i:Nat):Int)with boxes:=m.boxes.set (m.named i-1) (m.int (sp p (word ws 2)),(m.box (m.named i)).2)}else m1
def RM.none (f:Fx)(p:RP)(m:RM)(ws:List B):RM:=
 let m1:=if f.owns=true then m.drop p (word ws 1)else m
 {m1 with aZ:=m1.aZ.set (sp p (word ws 1)) 110}
def RM.input (p:RP)(ak:List Int)(m:RM)(ws:List B):RM:=RM.be {m with used:=m.used+1} (sp p (word ws 1)) (ak.getD m.used 0)
def RM.tell (p:RP)(m:RM)(ws:List B):RM:=
 let m1:=m.bD (sp p (word ws 1))
 if m1.out=0 then m1.note 111 (m.int (sp p (word ws 1)))else m1
def kW (w:B):Int:=(number w).getD 0
def RM.aR (f:Fx)(p:RP)(ak:List Int)(m:RM)(ws:List B):RM:=
 let w:=word ws 0
 if w=[115,101,116]then m.be (sp p (word ws 1)) (kW (word ws 2))
 else if w=yp\/w=yr\/w=yq\/w=sA then m.arith p ws
 else if w=[105,110]then m.input p ak ws
 else if w=[111,117,116]then m.tell p ws
 else if w=[110,101,119]then m.new f p ws
 else if w=[108,111,97,100]then m.load p ws
 else if w=[115,116,111,114,101]then m.store p ws
 else if w=[109,111,118,101]\/w=qn then(if f.owns=true then m.owned p ws else m.bare p ws)
 else if w=[110,111,110,101]then m.none f p ws
 else if w=[100,114,111,112]then m.drop p (word ws 1)
 else if w=[102,114,101,101]then m.free (sp p (word ws 1))
 else if w=[102,108,97,103]then{m with flags:=m.flags.set (kW (word ws 1)).toNat (word ws 2==[49])}
 else m
def RM.next (p:RP)(m:RM)(ws:List B):RM×B:=
 let w:=word ws 0
 if w=[103,111,116,111]then(m,word ws 1)
 else if w=[105,102]then(m.bD (sp p (word ws 1)),if m.int (sp p (word ws 1))=0 then word ws 3 else word ws 2)
 else if w=bS then(if m.aZ.getD (sp p (word ws 1)) 0=0 then{m with out:=5}else m,if m.aZ.getD (sp p (word ws 1)) 0=110 then word ws 2 else word ws 3)
 else(m,if m.flags.getD (kW (word ws 1)).toNat false=true then word ws 2 else word ws 3)
def RM.fz (p:RP):Nat->RM->RM
 |0,m=>m
 |n+1,m=>RM.fz p n (if word (p.line (p.lets.getD n 0)) 2=mM then m else m.drop p (word (p.line (p.lets.getD n 0)) 1))
def RM.finish (f:Fx)(p:RP)(m:RM)(ws:List B):RM:=
 let m1:=m.bD (sp p (word ws 1))
 if¬m1.out=0 then m1 else
  let m2:RM:={m1 with out:=1,value:=m.int (sp p (word ws 1))}
  if f.owns=true then m2.fz p p.lets.length else m2
def eW (p:RP)(w:B):Nat:=p.blocks.getD (kW w).toNat 0
def eR (f:Fx)(p:RP)(ak:List Int):Nat->Nat->RM->RM
 |0,_,m=>if m.out=0 then{m with out:=2}else m
 |n+1,at',m=>
  if¬m.out=0 then m else
   let i:=if al (p.line at')then at'+1 else at'
   let ws:=p.line i
   if word ws 0=[101,110,100]then m.finish f p ws
   else if ends (word ws 0)=true then eR f p ak n (eW p (m.next p ws).2) (m.next p ws).1
   else eR f p ak n (i+1) (m.aR f p ak ws)
def RM.start:RM:=⟨List.replicate 24 0,List.replicate 24 false,List.replicate 24 0,List.replicate 24 0,List.replicate 50 false,[],0,[],0,0,0⟩
end Mac
namespace Mac
open Go Go.RowKit Sq Aux PrjJ PrjK PrjL PrjM Go.Proofs.YtmlgajhhnojdjaaGreatDoor.Own RefRa RefP
structure Row (w0:World)(ws:List B)(gw:Nat):Prop where
 lt:gw<w0.heap.size
 cells:∀j,j<ws.length->w0.cell? ⟨gw,j,none⟩=some (.string (bs (word ws j)))
 wide:ws.length<=1099511627777
section
variable {w0 w w1 w2 w3:World} {x gw cw:Nat} {f:Fx} {m:RM} {p:RP} {ws:List B} {t:Nat} {vb vt:Value}
theorem Row.at (h:Row w0 ws gw)(hV:bN w0 x f w m vb vt){j:Nat}(hj:j<ws.length):w.cell? ⟨gw,j,none⟩=some (.string (bs (word ws j))):=(hV.bq.cell (p:=⟨gw,j,none⟩) h.lt).trans (h.cells j hj)
theorem Row.on (h:Row w0 ws gw)(hM:ca w0 x f w m){j:Nat}(hj:j<ws.length):w.cell? ⟨gw,j,none⟩=some (.string (bs (word ws j))):=by obtain⟨vb,vt,hV⟩:=hM;exact h.at hV hj
theorem oV (i j:Nat):(m.bD i).int j=m.int j:=by unfold RM.bD;split<;>rfl
theorem SQ {n:Nat}(h:¬n=0):¬((n:Nat):Int)=0:=by omega
set_option maxRecDepth 20000 in
set_option maxHeartbeats 2000000 in
theorem NC (hC:Ctx w0 p f)(h:ca w0 x f w m)(hR:Row w0 ws gw)(hn:ws.length=4)(h2:Wd p (word ws 2))(h3:Wd p (word ws 3))(ho:¬((m.bD (sp p (word ws 2))).bD (sp p (word ws 3))).out=0):
  Calls Tryz.prog 151 #[.pointer (some ⟨x,0,none⟩),.slice (some ⟨gw,0,none⟩) ws.length cw] w fun e w'=>e=.returned (.tuple #[])/\ca w0 x f w' (m.arith p ws):=by
 have Jr:=SQ ho;have HG:Hid (m.arith p ws=(m.bD (sp p (word ws 2))).bD (sp p (word ws 3))):=by unfold Hid RM.arith;simp only;rw[jb ho]
 have kZ:(ws.length:Int)=4:=by omega
 have xW:=hR.on h (j:=2) (by omega);have Qj:=cM hC h h2;go_enter Tryz.func151,Tryz.ntmps151
 go_wp2_with (first
  |(go_at_call 147;refine FG.mono ?_;rintro e w2 ⟨rfl,vb2,vt2,eQ⟩;obtain⟨c0,c1,c2,c3,c4,c5,c6,c7,c8,c9⟩:=eQ.facts;obtain⟨f1,f2,f3,f4,f5,f6⟩:=eQ.eA;skip)
  |(go_at_call 147;refine Qj.mono ?_;rintro e w1 ⟨rfl,xL⟩;have hz3:=hR.on xL (j:=3) (by omega);have FG:=cM hC xL h3;rw[oV]at FG))
 try simp only[Exit.inBlock,Exit.then]
 refine bodyPost_ret (results_none rfl _ _ _) rfl ?_;exact⟨rfl,by rw[HG.out];exact⟨_,_,eQ⟩⟩
set_option maxRecDepth 20000 in
set_option maxHeartbeats 2000000 in
theorem Nz (hC:Ctx w0 p f)(h:ca w0 x f w m)(hR:Row w0 ws gw)(hn:ws.length=4)(h1:Wd p (word ws 1))(h2:Wd p (word ws 2))(h3:Wd p (word ws 3))(h0:word ws 0=[97,100,100])(ho:((m.bD (sp p (word ws 2))).bD (sp p (word ws 3))).out=0):
  Calls Tryz.prog 151 #[.pointer (some ⟨x,0,none⟩),.slice (some ⟨gw,0,none⟩) ws.length cw] w fun e w'=>e=.returned (.tuple #[])/\ca w0 x f w' (m.arith p ws):=by
 have Jr:((((m.bD (sp p (word ws 2))).bD (sp p (word ws 3))).out:Nat):Int)=0:=by omega
 have HG:Hid (m.arith p ws=((m.bD (sp p (word ws 2))).bD (sp p (word ws 3))).be (sp p (word ws 1)) (wrap64 (m.int (sp p (word ws 2))+m.int (sp p (word ws 3))))):=by unfold Hid RM.arith;rw[h0];simp only;rw[ja (by rw[ho];decide),ja (fun e=>absurd e.1 (by decide))];rfl
 have kZ:(ws.length:Int)=4:=by omega
 have xW:=hR.on h (j:=2) (by omega);have Qj:=cM hC h h2;go_enter Tryz.func151,Tryz.ntmps151
 go_wp2_with (first
  |(go_at_call 147;refine FG.mono ?_;rintro e w2 ⟨rfl,vb2,vt2,eQ⟩;obtain⟨c0,c1,c2,c3,c4,c5,c6,c7,c8,c9⟩:=eQ.facts;obtain⟨f1,f2,f3,f4,f5,f6⟩:=eQ.eA;rw[Jr]at c8;have y0:=hR.at eQ (j:=0) (by omega);rw[h0]at y0;have y1:=hR.at eQ (j:=1) (by omega);have KB:=qD hC ⟨_,_,eQ⟩ h1 (wrap64 (m.int (sp p (word ws 2))+m.int (sp p (word ws 3)))))
  |(go_at_call 147;refine Qj.mono ?_;rintro e w1 ⟨rfl,xL⟩;have hz3:=hR.on xL (j:=3) (by omega);have FG:=cM hC xL h3;rw[oV]at FG)
  |(go_at_call 150;refine KB.mono ?_;rintro e w9 ⟨rfl,xM⟩))
 go_end0
 exact⟨rfl,by rw[HG.out];exact xM⟩
set_option maxRecDepth 20000 in
set_option maxHeartbeats 2000000 in
theorem ND (hC:Ctx w0 p f)(h:ca w0 x f w m)(hR:Row w0 ws gw)(hn:ws.length=4)(h1:Wd p (word ws 1))(h2:Wd p (word ws 2))(h3:Wd p (word ws 3))(h0:word ws 0=[115,117,98])(ho:((m.bD (sp p (word ws 2))).bD (sp p (word ws 3))).out=0):
  Calls Tryz.prog 151 #[.pointer (some ⟨x,0,none⟩),.slice (some ⟨gw,0,none⟩) ws.length cw] w fun e w'=>e=.returned (.tuple #[])/\ca w0 x f w' (m.arith p ws):=by
 have Jr:((((m.bD (sp p (word ws 2))).bD (sp p (word ws 3))).out:Nat):Int)=0:=by omega
 have HG:Hid (m.arith p ws=((m.bD (sp p (word ws 2))).bD (sp p (word ws 3))).be (sp p (word ws 1)) (wrap64 (m.int (sp p (word ws 2))-m.int (sp p (word ws 3))))):=by unfold Hid RM.arith;rw[h0];simp only;rw[ja (by rw[ho];decide),ja (fun e=>absurd e.1 (by decide))];rfl
 have kZ:(ws.length:Int)=4:=by omega
 have xW:=hR.on h (j:=2) (by omega);have Qj:=cM hC h h2;go_enter Tryz.func151,Tryz.ntmps151
 go_wp2_with (first
  |(go_at_call 147;refine FG.mono ?_;rintro e w2 ⟨rfl,vb2,vt2,eQ⟩;obtain⟨c0,c1,c2,c3,c4,c5,c6,c7,c8,c9⟩:=eQ.facts;obtain⟨f1,f2,f3,f4,f5,f6⟩:=eQ.eA;rw[Jr]at c8;have y0:=hR.at eQ (j:=0) (by omega);rw[h0]at y0;have y1:=hR.at eQ (j:=1) (by omega);have KB:=qD hC ⟨_,_,eQ⟩ h1 (wrap64 (m.int (sp p (word ws 2))-m.int (sp p (word ws 3)))))
  |(go_at_call 147;refine Qj.mono ?_;rintro e w1 ⟨rfl,xL⟩;have hz3:=hR.on xL (j:=3) (by omega);have FG:=cM hC xL h3;rw[oV]at FG)
  |(go_at_call 150;refine KB.mono ?_;rintro e w9 ⟨rfl,xM⟩))
 go_end0
 exact⟨rfl,by rw[HG.out];exact xM⟩
set_option maxRecDepth 20000 in
set_option maxHeartbeats 2000000 in
theorem NB (hC:Ctx w0 p f)(h:ca w0 x f w m)(hR:Row w0 ws gw)(hn:ws.length=4)(h1:Wd p (word ws 1))(h2:Wd p (word ws 2))(h3:Wd p (word ws 3))(h0:word ws 0=[109,117,108])(ho:((m.bD (sp p (word ws 2))).bD (sp p (word ws 3))).out=0):
  Calls Tryz.prog 151 #[.pointer (some ⟨x,0,none⟩),.slice (some ⟨gw,0,none⟩) ws.length cw] w fun e w'=>e=.returned (.tuple #[])/\ca w0 x f w' (m.arith p ws):=by
 have Jr:((((m.bD (sp p (word ws 2))).bD (sp p (word ws 3))).out:Nat):Int)=0:=by omega
 have HG:Hid (m.arith p ws=((m.bD (sp p (word ws 2))).bD (sp p (word ws 3))).be (sp p (word ws 1)) (wrap64 (m.int (sp p (word ws 2))*m.int (sp p (word ws 3))))):=by unfold Hid RM.arith;rw[h0];simp only;rw[ja (by rw[ho];decide),ja (fun e=>absurd e.1 (by decide))];rfl
 have kZ:(ws.length:Int)=4:=by omega
 have xW:=hR.on h (j:=2) (by omega);have Qj:=cM hC h h2;go_enter Tryz.func151,Tryz.ntmps151
 go_wp2_with (first
  |(go_at_call 147;refine FG.mono ?_;rintro e w2 ⟨rfl,vb2,vt2,eQ⟩;obtain⟨c0,c1,c2,c3,c4,c5,c6,c7,c8,c9⟩:=eQ.facts;obtain⟨f1,f2,f3,f4,f5,f6⟩:=eQ.eA;rw[Jr]at c8;have y0:=hR.at eQ (j:=0) (by omega);rw[h0]at y0;have y1:=hR.at eQ (j:=1) (by omega);have KB:=qD hC ⟨_,_,eQ⟩ h1 (wrap64 (m.int (sp p (word ws 2))*m.int (sp p (word ws 3)))))
  |(go_at_call 147;refine Qj.mono ?_;rintro e w1 ⟨rfl,xL⟩;have hz3:=hR.on xL (j:=3) (by omega);have FG:=cM hC xL h3;rw[oV]at FG)
  |(go_at_call 150;refine KB.mono ?_;rintro e w9 ⟨rfl,xM⟩))
 go_end0
 exact⟨rfl,by rw[HG.out];exact xM⟩
set_option maxRecDepth 20000 in
set_option maxHeartbeats 2000000 in
theorem NA (hC:Ctx w0 p f)(h:ca w0 x f w m)(hR:Row w0 ws gw)(hn:ws.length=4)(h1:Wd p (word ws 1))(h2:Wd p (word ws 2))(h3:Wd p (word ws 3))(h0:word ws 0=[100,105,118])(ho:((m.bD (sp p (word ws 2))).bD (sp p (word ws 3))).out=0)(hd:¬m.int (sp p (word ws 3))=0):
  Calls Tryz.prog 151 #[.pointer (some ⟨x,0,none⟩),.slice (some ⟨gw,0,none⟩) ws.length cw] w fun e w'=>e=.returned (.tuple #[])/\ca w0 x f w' (m.arith p ws):=by
 have Jr:((((m.bD (sp p (word ws 2))).bD (sp p (word ws 3))).out:Nat):Int)=0:=by omega
 have HG:Hid (m.arith p ws=((m.bD (sp p (word ws 2))).bD (sp p (word ws 3))).be (sp p (word ws 1)) (wrap64 ((m.int (sp p (word ws 2))).tdiv (m.int (sp p (word ws 3)))))):=by unfold Hid RM.arith;rw[h0];simp only;rw[ja (by rw[ho];decide),ja (fun e=>hd e.2)];rfl
 have kZ:(ws.length:Int)=4:=by omega
 have xW:=hR.on h (j:=2) (by omega);have Qj:=cM hC h h2;go_enter Tryz.func151,Tryz.ntmps151
 go_wp2_with (first
  |(go_at_call 147;refine FG.mono ?_;rintro e w2 ⟨rfl,vb2,vt2,eQ⟩;obtain⟨c0,c1,c2,c3,c4,c5,c6,c7,c8,c9⟩:=eQ.facts;obtain⟨f1,f2,f3,f4,f5,f6⟩:=eQ.eA;rw[Jr]at c8;have y0:=hR.at eQ (j:=0) (by omega);rw[h0]at y0;have y1:=hR.at eQ (j:=1) (by omega);have KB:=qD hC ⟨_,_,eQ⟩ h1 (wrap64 ((m.int (sp p (word ws 2))).tdiv (m.int (sp p (word ws 3))))))
  |(go_at_call 147;refine Qj.mono ?_;rintro e w1 ⟨rfl,xL⟩;have hz3:=hR.on xL (j:=3) (by omega);have FG:=cM hC xL h3;rw[oV]at FG)
  |(go_at_call 150;refine KB.mono ?_;rintro e w9 ⟨rfl,xM⟩))
 go_end0
 exact⟨rfl,by rw[HG.out];exact xM⟩
set_option maxRecDepth 20000 in
set_option maxHeartbeats 2000000 in
theorem JE (hC:Ctx w0 p f)(h:ca w0 x f w m)(hR:Row w0 ws gw)(hn:ws.length=4)(h2:Wd p (word ws 2))(h3:Wd p (word ws 3))(h0:word ws 0=[100,105,118])(ho:((m.bD (sp p (word ws 2))).bD (sp p (word ws 3))).out=0)(hd:m.int (sp p (word ws 3))=0):
  Calls Tryz.prog 151 #[.pointer (some ⟨x,0,none⟩),.slice (some ⟨gw,0,none⟩) ws.length cw] w fun e w'=>e=.returned (.tuple #[])/\ca w0 x f w' (m.arith p ws):=by
 have Jr:((((m.bD (sp p (word ws 2))).bD (sp p (word ws 3))).out:Nat):Int)=0:=by omega
 have HG:Hid (m.arith p ws={(m.bD (sp p (word ws 2))).bD (sp p (word ws 3))with out:=4}):=by unfold Hid RM.arith;rw[h0];simp only;rw[ja (by rw[ho];decide),jb ⟨rfl,hd⟩]
 have kZ:(ws.length:Int)=4:=by omega
 have xW:=hR.on h (j:=2) (by omega);have Qj:=cM hC h h2;go_enter Tryz.func151,Tryz.ntmps151
 go_wp2_with (first
  |(go_at_call 147;refine FG.mono ?_;rintro e w2 ⟨rfl,vb2,vt2,eQ⟩;obtain⟨c0,c1,c2,c3,c4,c5,c6,c7,c8,c9⟩:=eQ.facts;obtain⟨f1,f2,f3,f4,f5,f6⟩:=eQ.eA;rw[Jr]at c8;have y0:=hR.at eQ (j:=0) (by omega);rw[h0]at y0;have qs:=eQ.tF 4)
  |(go_at_call 147;refine Qj.mono ?_;rintro e w1 ⟨rfl,xL⟩;have hz3:=hR.on xL (j:=3) (by omega);have FG:=cM hC xL h3;rw[oV]at FG))
 try simp only[Exit.inBlock,Exit.then]
 refine bodyPost_ret (results_none rfl _ _ _) rfl ?_;exact⟨rfl,by rw[HG.out];exact⟨_,_,qs⟩⟩
theorem rQ (hC:Ctx w0 p f)(h:ca w0 x f w m)(hR:Row w0 ws gw)(hn:ws.length=4)(h1:Wd p (word ws 1))(h2:Wd p (word ws 2))(h3:Wd p (word ws 3))(h0:word ws 0=yp\/word ws 0=yr\/word ws 0=yq\/word ws 0=sA):
  Calls Tryz.prog 151 #[.pointer (some ⟨x,0,none⟩),.slice (some ⟨gw,0,none⟩) ws.length cw] w fun e w'=>e=.returned (.tuple #[])/\ca w0 x f w' (m.arith p ws):=by
 by_cases ho:((m.bD (sp p (word ws 2))).bD (sp p (word ws 3))).out=0
 ·rcases h0 with h0|h0|h0|h0
  ·exact Nz hC h hR hn h1 h2 h3 h0 ho
  ·exact ND hC h hR hn h1 h2 h3 h0 ho
  ·exact NB hC h hR hn h1 h2 h3 h0 ho
  ·by_cases hd:m.int (sp p (word ws 3))=0
   ·exact JE hC h hR hn h2 h3 h0 ho hd
   ·exact NA hC h hR hn h1 h2 h3 h0 ho hd
 ·exact NC hC h hR hn h2 h3 ho
end
end Mac
namespace Mac
open Go Go.RowKit Sq Aux PrjJ PrjK PrjL PrjM Go.Proofs.YtmlgajhhnojdjaaGreatDoor.Own RefRa RefP RefO
theorem On:(Tryz.prog.info? 264).map (fun i=>(i.zero,i.size,i.bytes))=some (some (.agg #[.int .i64 0,.bool false]),2,16):=by kernel_rfl
section
variable {w0 w w1 w2 w3:World} {x:Nat} {f:Fx} {m:RM} {p:RP} {l:B} {t:Nat}
set_option maxRecDepth 20000 in
set_option maxHeartbeats 2000000 in
theorem H8 (hC:Ctx w0 p f)(h:ca w0 x f w m)(hl:Wd p l)(v:Int)(hO:m.Ok t)(ht:t<=3000000):
  Calls Tryz.prog 192 #[.pointer (some ⟨x,0,none⟩),.string (bs l),.int .i64 v] w fun e w'=>e=.returned (.tuple #[])/\ca w0 x f w' (m.made f (sp p l) v):=by
 obtain⟨hi,-⟩:=hl.lt hC.aV;obtain⟨i,Z2,A0,Ey,xW⟩:=info_parts On;have hb:=hO.boxes;have hc:=hO.count;have htr:=hO.trace;by_cases hr:f.room<=m.count
 ·have HG:Hid (m.made f (sp p l) v={m with out:=3}):=by unfold Hid RM.made;rw[jb hr]
  obtain⟨vb,vt,hV⟩:=h;obtain⟨c0,c1,c2,c3,c4,c5,c6,c7,c8,c9⟩:=hV.facts;go_enter Tryz.func192,Tryz.ntmps192
  go_upto_region 0 with fail
  go_quiet (fail)
  have Kc:bN w0 x f (w.drewN nq) m vb vt:=hV.below (below_drewN (Below.refl _ _) _);clear hV c0 c1 c2 c3 c4 c5 c6 c7 c8 c9;generalize w.drewN nq=wq at*;obtain⟨f1,f2,f3,f4,f5,f6⟩:=Kc.eA;obtain⟨c0,c1,c2,c3,c4,c5,c6,c7,c8,c9⟩:=Kc.facts;have eQ:bN w0 x f (wq.setCell ⟨x,154,none⟩ (.int .i64 3)) {m with out:=3} vb vt:=Kc.tF 3;go_wp2
  try simp only[Exit.inBlock,Exit.then]
  refine bodyPost_ret (results_none rfl _ _ _) rfl ?_;exact⟨rfl,by rw[HG.out];exact⟨vb,vt,eQ⟩⟩
 ·have HG:Hid (m.made f (sp p l) v=(let m1:=RM.note {m with boxes:=m.boxes++[(v,true)],count:=m.count+1} 43 ((m.boxes.length+1:Nat):Int);let m2:RM:={m1 with held:=m1.held.set (sp p l) (m.boxes.length+1)};if f.owns=true then{m2 with aZ:=m2.aZ.set (sp p l) 119}else m2)):=by unfold Hid RM.made;rw[ja hr]
  have i1:((sp p l:Nat):Int)<24:=by omega
  obtain⟨vb,vt,hV⟩:=h;obtain⟨c0,c1,c2,c3,c4,c5,c6,c7,c8,c9⟩:=hV.facts;go_enter Tryz.func192,Tryz.ntmps192
  go_upto_region 0 with fail
  go_quiet (fail)
  have Kc:bN w0 x f (w.drewN nq) m vb vt:=hV.below (below_drewN (Below.refl _ _) _);clear hV c0 c1 c2 c3 c4 c5 c6 c7 c8 c9;generalize w.drewN nq=wq at*;obtain⟨c0,c1,c2,c3,c4,c5,c6,c7,c8,c9⟩:=Kc.facts;have aX:Below wq.heap.size wq (wq.alloc (.cells #[.int .i64 v,.bool true] 264)):=(Below.refl _ _).alloc (jC _) _;have HA:=Kc.below aX;obtain⟨a0,a1,a2,a3,a4,a5,a6,a7,a8,a9⟩:=HA.facts;have qt:w0.heap.size<=(wq.alloc (.cells #[.int .i64 v,.bool true] 264)).heap.size:=by have:=HA.lt;have:=HA.base;omega
  go_wp2_with (first
   |(at_builtin;go_must (refine kg rfl _ _ 92 rfl w0.heap.size 264 i (.agg #[.int .i64 0,.bool false]) 2 16 Tryz.underlying92 Z2 A0 Ey xW rfl (by decide) vb _ _ rfl HA.boxes wq.heap.size [.int .i64 v,.bool true] rfl jD rfl (by intro u' hu;simp at hu;rcases hu with rfl|rfl<;>rfl) (by decide) (by omega) qt ?_);intro g4 c4' w4 hown4 hgrow4 hat4 hlt4;obtain⟨gJ,N8⟩:=HA.Jy (b:=(v,true)) hown4 hgrow4;have rf:w4.frozen? ⟨x,148,none⟩=false:=frozen_of_heap gJ 148;have r5:w4.cell? ⟨x,148,none⟩=some vb:=(by rw[cell_of_heap gJ,List.getElem?_toArray];exact HA.len.jq (f:=f) (vb:=vb) (vt:=vt) 0);obtain⟨b0,b1,b2,b3,b4,b5,b6,b7,b8,b9⟩:=N8.facts;obtain⟨f1,f2,f3,f4,f5,f6⟩:=N8.eA;have Xj:=N8.IV (m.count+1);obtain⟨d0,d1,d2,d3,d4,d5,d6,d7,d8,d9⟩:=Xj.facts;have KN:Calls Tryz.prog 152 #[.pointer (some ⟨x,0,none⟩),.string ⟨#[43]⟩,.int .i64 ((m.boxes.length+1:Nat):Int)] _ _:=ga ⟨_,_,Xj⟩ 43 ((m.boxes.length+1:Nat):Int) (by unfold aN;omega) (by show m.trace.length<=_;omega))
   |(go_at_call 152;refine KN.mono ?_;rintro e w9 ⟨rfl,hM⟩;have KS:=fb hC hM hl)
   |(go_at_call 149;refine KS.mono ?_;rintro e w10 ⟨rfl,vb',vt',Rf⟩;obtain⟨b10,cap10,ev⟩:=vT Rf.boxes;rw[show(RM.note {m with boxes:=m.boxes++[(v,true)],count:=m.count+1} 43 ((m.boxes.length+1:Nat):Int)).boxes.length=m.boxes.length+1 from jV]at ev;generalize hN:m.boxes.length+1=N at*;subst ev;obtain⟨e0,e1,e2,e3,e4,e5,e6,e7,e8,e9⟩:=Rf.facts;obtain⟨h1,h2⟩:=Rf.Es hi;obtain⟨q1,q2⟩:=Rf.qm hi))
  go_upto_region 6 with fail
  go_region_law (fail)
  all_goals
   have hV11:=Rf.below ((Below.refl w10.heap.size w10).drew);have UC:=hV11.zY hi N;obtain⟨k0,k1,k2,k3,k4,k5,k6,k7,k8,k9⟩:=UC.facts;obtain⟨j1,j2⟩:=UC.qm hi;have hV13:=UC.pW hi 119
  all_goals
   cases jr:f.owns
   ·rw[jr]at k1;go_wp2_with fail
    go_end0
    refine⟨rfl,?_⟩;rw[HG.out,ja (by rw[jr];decide)];exact⟨_,_,UC⟩
   ·rw[jr]at k1;go_wp2_with fail
    go_end0
    refine⟨rfl,?_⟩;rw[HG.out,jb jr];exact⟨_,_,hV13⟩
set_option maxRecDepth 20000 in
set_option maxHeartbeats 2000000 in
theorem fX (hC:Ctx w0 p f)(h:ca w0 x f w m)(hl:Wd p l)(hO:m.Ok t)(ht:t+2<=3000000):
  Calls Tryz.prog 148 #[.pointer (some ⟨x,0,none⟩),.string (bs l)] w fun e w'=>e=.returned (.tuple #[])/\ca w0 x f w' (m.drop p l):=by
 obtain⟨hi,hi2,Wl,hn2⟩:=hl.lt hC.aV;have KS:=fun w' (hp:bd w' f.a p)=>ku p f.a l w' hp hC.ok hl.len hl.find
 have KL:=fun w'=>zQ l w' hl.len
 rw[MZ]at KL;unfold RM.drop;have e1:(p.aj l).1=sp p l:=rfl;rw[e1]at KS;generalize sp p l=i at*;generalize (p.aj l).2=n at*;generalize dj l=c at*;obtain⟨vb,vt,hV⟩:=h;obtain⟨c0,c1,c2,c3,c4,c5,c6,c7,c8,c9⟩:=hV.facts;have HP:=hC.prog.below hV.bq;go_enter Tryz.func148,Tryz.ntmps148
 go_wp2_with (go_at_call 143;refine(KS _ HP).mono ?_;rintro e w1 ⟨rfl,n1,rfl⟩)
 have HM:Hid (ca w0 x f (w.drewN n1) (m.mg c i 0)):=⟨vb,vt,hV.below (below_drewN (Below.refl _ _) _)⟩;clear hV c0 c1 c2 c3 c4 c5 c6 c7 c8 c9 HP KS e1;go_loopw [6] (fun v6 wr=>∃(j:Nat),j<=n/\v6=.int .i64 ((i+j:Nat):Int)/\Hid (ca w0 x f wr (m.mg c i j))) (fun v _=>i+n-(intOf v).toNat)
 case atStart=>exact⟨0,jQ _,by simp,HM⟩
 case round=>
  obtain⟨j,hj,rfl,HJ⟩:=hrel;clear HM;by_cases aK:j<n
  ·have hOj:=hO.mg c i j (by omega);have hM:=HJ.out;have vD:Hid ((m.mg c i j).ed c (i+j)=m.mg c i (j+1)):=rfl;generalize hmj:m.mg c i j=mj at*;have zl:i+j<24:=by omega
   have i4:((i+j:Nat):Int)<24:=by omega
   have i5:((i+j:Nat):Int)<(i:Int)+n:=by omega
   obtain⟨vb,vt,hV⟩:=hM;obtain⟨a1,a2⟩:=hV.qm zl;by_cases hh:mj.aZ.getD (i+j) 0=119
   ·rw[hh]at a1;have KF:=AK ⟨vb,vt,hV⟩ zl hOj (by omega);generalize hk:i+j=k at*;go_wp2_with (first
     |(go_at_call 156;refine KF.mono ?_;rintro e w2 ⟨rfl,vb2,vt2,eQ⟩;obtain⟨b1,b2⟩:=eQ.qm zl)
     |fail)
    go_upto_region 6 with fail
    go_region_law (go_simp;go_at_call 140;refine(KL _).mono ?_;rintro e w3 ⟨rfl,rfl⟩)
    all_goals
     have qs:=(eQ.below ((Below.refl w2.heap.size w2).drew)).pW zl c;go_wp2_with fail
     refine⟨⟨j+1,by omega,by rw[<-Nat.add_assoc,hk];go_num,?_⟩,by simp[intOf];omega⟩;rw[<-vD.out];unfold RM.ed;rw[jb hh];exact⟨_,_,qs⟩
   ·have hh2:¬((mj.aZ.getD (i+j) 0).toNat:Int)=119:=fun e=>hh (UInt8.toNat_inj.1 (by rw[show(119:UInt8).toNat=119 from rfl];omega))
    generalize hk:i+j=k at*;have HB:Hid (¬mj.aZ.getD k 0=119):=hh;generalize mj.aZ.getD k 0=bb at a1 hh2;clear hh;go_upto_region 6 with fail
    go_region_law (go_simp;go_at_call 140;refine(KL _).mono ?_;rintro e w3 ⟨rfl,rfl⟩)
    all_goals
     have qs:=(hV.below ((Below.refl wr.heap.size wr).drew)).pW zl c;go_wp2_with fail
     refine⟨⟨j+1,by omega,by rw[<-Nat.add_assoc,hk];go_num,?_⟩,by simp[intOf];omega⟩;rw[<-vD.out];unfold RM.ed;rw[ja HB.out];exact⟨_,_,qs⟩
  ·have i5:¬((i+j:Nat):Int)<(i:Int)+n:=by omega
   go_wp2
   go_end0
   have e:j=n:=by omega
   subst e;exact⟨rfl,HJ.out⟩
end
end Mac
namespace Mac
open Go Go.RowKit Sq Aux PrjJ PrjK PrjL PrjM Go.Proofs.YtmlgajhhnojdjaaGreatDoor.Own RefRa RefP
section
variable {w0 w w1 w2 w3:World} {x gw cw:Nat} {f:Fx} {m:RM} {p:RP} {ws:List B} {t:Nat} {vb vt:Value}
theorem gY {i:Nat}(h:m.has.getD i false=true):m.bD i=m:=by unfold RM.bD;rw[jb h]
theorem kP {i:Nat}(h:¬m.has.getD i false=true):m.bD i={m with out:=5}:=by unfold RM.bD;rw[ja h]
theorem lW {i:Nat}(h:¬m.named i=0):m.boxed i=m:=by unfold RM.boxed;rw[ja h]
theorem rW {i:Nat}(h:m.named i=0):m.boxed i={m with out:=5}:=by unfold RM.boxed;rw[jb h]
set_option maxRecDepth 20000 in
set_option maxHeartbeats 2000000 in
theorem Sx (hC:Ctx w0 p f)(h:ca w0 x f w m)(hR:Row w0 ws gw)(hn:ws.length=3)(h2:Wd p (word ws 2))(hw:word ws 0=[110,101,119])(hh:¬m.has.getD (sp p (word ws 2)) false=true):
  Calls Tryz.prog 153 #[.pointer (some ⟨x,0,none⟩),.slice (some ⟨gw,0,none⟩) ws.length cw] w fun e w'=>e=.returned (.tuple #[])/\ca w0 x f w' (m.new f p ws):=by
 have y0:=hR.on h (j:=0) (by omega);rw[hw]at y0;have z2:=hR.on h (j:=2) (by omega);have KI:=cM hC h h2;rw[kP hh]at KI;have HG:Hid (m.new f p ws={m with out:=5}):=by unfold Hid;unfold RM.new;simp only;rw[kP hh,jb (by simp)]
 have kZ:(ws.length:Int)=3:=by omega
 go_enter Tryz.func153,Tryz.ntmps153
 go_wp2_with (first
  |(go_at_call 147;refine KI.mono ?_;rintro e w1 ⟨rfl,vb1,vt1,ld⟩;obtain⟨c0,c1,c2,c3,c4,c5,c6,c7,c8,c9⟩:=ld.facts;obtain⟨f1,f2,f3,f4,f5,f6⟩:=ld.eA))
 try simp only[Exit.inBlock,Exit.then]
 refine bodyPost_ret (results_none rfl _ _ _) rfl ?_;exact⟨rfl,by rw[HG.out];exact⟨_,_,ld⟩⟩
set_option maxRecDepth 20000 in
set_option maxHeartbeats 2000000 in
theorem Sw (hC:Ctx w0 p f)(h:ca w0 x f w m)(hR:Row w0 ws gw)(hn:ws.length=3)(h1:Wd p (word ws 1))(h2:Wd p (word ws 2))(h0:m.out=0)(hw:word ws 0=[110,101,119])(hh:m.has.getD (sp p (word ws 2)) false=true)(hO:m.Ok t)(ht:t<=2000000)(hf:f.owns=false):
  Calls Tryz.prog 153 #[.pointer (some ⟨x,0,none⟩),.slice (some ⟨gw,0,none⟩) ws.length cw] w fun e w'=>e=.returned (.tuple #[])/\ca w0 x f w' (m.new f p ws):=by
 have y0:=hR.on h (j:=0) (by omega);rw[hw]at y0;have z2:=hR.on h (j:=2) (by omega);have KI:=cM hC h h2;rw[gY hh]at KI;have HG:Hid (m.new f p ws=m.made f (sp p (word ws 1)) (m.int (sp p (word ws 2)))):=by unfold Hid;unfold RM.new;simp only;rw[gY hh,ja (by rw[h0];decide),ja (by rw[hf];decide)]
 have kZ:(ws.length:Int)=3:=by omega
 go_enter Tryz.func153,Tryz.ntmps153
 go_wp2_with (first
  |(go_at_call 147;refine KI.mono ?_;rintro e w1 ⟨rfl,vb1,vt1,ld⟩;obtain⟨c0,c1,c2,c3,c4,c5,c6,c7,c8,c9⟩:=ld.facts;obtain⟨f1,f2,f3,f4,f5,f6⟩:=ld.eA;rw[h0]at c8;rw[hf]at c1;have z1:=hR.at ld (j:=1) (by omega);have KM:=H8 hC ⟨_,_,ld⟩ h1 (m.int (sp p (word ws 2))) hO (by omega))
  |(go_at_call 192;refine KM.mono ?_;rintro e w9 ⟨rfl,xM⟩))
 go_end0
 exact⟨rfl,by rw[HG.out];exact xM⟩
set_option maxRecDepth 20000 in
set_option maxHeartbeats 2000000 in
theorem Sy (hC:Ctx w0 p f)(h:ca w0 x f w m)(hR:Row w0 ws gw)(hn:ws.length=3)(h1:Wd p (word ws 1))(h2:Wd p (word ws 2))(h0:m.out=0)(hw:word ws 0=[110,101,119])(hh:m.has.getD (sp p (word ws 2)) false=true)(hO:m.Ok t)(ht:t<=2000000)(hf:f.owns=true):
  Calls Tryz.prog 153 #[.pointer (some ⟨x,0,none⟩),.slice (some ⟨gw,0,none⟩) ws.length cw] w fun e w'=>e=.returned (.tuple #[])/\ca w0 x f w' (m.new f p ws):=by
 have y0:=hR.on h (j:=0) (by omega);rw[hw]at y0;have z2:=hR.on h (j:=2) (by omega);have KI:=cM hC h h2;rw[gY hh]at KI;have HG:Hid (m.new f p ws=(m.drop p (word ws 1)).made f (sp p (word ws 1)) (m.int (sp p (word ws 2)))):=by unfold Hid;unfold RM.new;simp only;rw[gY hh,ja (by rw[h0];decide),jb hf]
 have kZ:(ws.length:Int)=3:=by omega
 go_enter Tryz.func153,Tryz.ntmps153
 go_wp2_with (first
  |(go_at_call 147;refine KI.mono ?_;rintro e w1 ⟨rfl,vb1,vt1,ld⟩;obtain⟨c0,c1,c2,c3,c4,c5,c6,c7,c8,c9⟩:=ld.facts;obtain⟨f1,f2,f3,f4,f5,f6⟩:=ld.eA;rw[h0]at c8;rw[hf]at c1;have z1:=hR.at ld (j:=1) (by omega);have KD:=fX hC ⟨_,_,ld⟩ h1 hO (by omega))
  |(go_at_call 148;refine KD.mono ?_;rintro e w2 ⟨rfl,Cj⟩;have z3:=hR.on Cj (j:=1) (by omega);have KM:=H8 hC Cj h1 (m.int (sp p (word ws 2))) (hO.drop (by omega) h1 hC.aV) (by omega))
  |(go_at_call 192;refine KM.mono ?_;rintro e w9 ⟨rfl,xM⟩))
 go_end0
 exact⟨rfl,by rw[HG.out];exact xM⟩
set_option maxRecDepth 20000 in
set_option maxHeartbeats 2000000 in
theorem ON (hC:Ctx w0 p f)(h:ca w0 x f w m)(hR:Row w0 ws gw)(hn:ws.length=3)(h2:Wd p (word ws 2))(hw:word ws 0=[108,111,97,100])(hO:m.Ok t)(ht:t<=2000000)(hb:m.named (sp p (word ws 2))=0):
  Calls Tryz.prog 153 #[.pointer (some ⟨x,0,none⟩),.slice (some ⟨gw,0,none⟩) ws.length cw] w fun e w'=>e=.returned (.tuple #[])/\ca w0 x f w' (m.load p ws):=by
 have y0:=hR.on h (j:=0) (by omega);rw[hw]at y0;have z2:=hR.on h (j:=2) (by omega);have KS:=fb hC h h2;obtain⟨hi,-⟩:=h2.lt hC.aV;have HG:Hid (m.load p ws={m with out:=5}):=by unfold Hid;unfold RM.load;simp only;rw[rW hb,ja (by simp)]
 have kZ:(ws.length:Int)=3:=by omega
 go_enter Tryz.func153,Tryz.ntmps153
 go_wp2_with (first
  |(go_at_call 149;refine KS.mono ?_;rintro e w1 ⟨rfl,xL⟩;have KB:=iX xL hi hO (by omega);rw[hb,rW hb]at KB)
  |(go_at_call 193;refine KB.mono ?_;rintro e w2 ⟨rfl,vb2,vt2,eQ⟩;obtain⟨c0,c1,c2,c3,c4,c5,c6,c7,c8,c9⟩:=eQ.facts;obtain⟨f1,f2,f3,f4,f5,f6⟩:=eQ.eA))
 go_end0
 exact⟨rfl,by rw[HG.out];exact⟨_,_,eQ⟩⟩
set_option maxRecDepth 20000 in
set_option maxHeartbeats 2000000 in
theorem OO (hC:Ctx w0 p f)(h:ca w0 x f w m)(hR:Row w0 ws gw)(hn:ws.length=3)(h1:Wd p (word ws 1))(h2:Wd p (word ws 2))(h0:m.out=0)(hw:word ws 0=[108,111,97,100])(hO:m.Ok t)(ht:t<=2000000)(hb:¬m.named (sp p (word ws 2))=0):
  Calls Tryz.prog 153 #[.pointer (some ⟨x,0,none⟩),.slice (some ⟨gw,0,none⟩) ws.length cw] w fun e w'=>e=.returned (.tuple #[])/\ca w0 x f w' (m.load p ws):=by
 have y0:=hR.on h (j:=0) (by omega);rw[hw]at y0;have z2:=hR.on h (j:=2) (by omega);have KS:=fb hC h h2;obtain⟨hi,-⟩:=h2.lt hC.aV;have hle:=oU hO (sp p (word ws 2));have hbt:=hO.boxes;have htr:=hO.trace;have Qi:=fun w' (hM:ca w0 x f w' m)=>iX hM hi hO (by omega)
 rw[lW hb]at Qi;have HG:Hid (m.load p ws=(m.note 60 ((m.named (sp p (word ws 2)):Nat):Int)).be (sp p (word ws 1)) (m.box (m.named (sp p (word ws 2)))).1):=by unfold Hid;unfold RM.load;simp only;rw[lW hb,jb h0]
 have kZ:(ws.length:Int)=3:=by omega
 go_enter Tryz.func153,Tryz.ntmps153
 go_wp2_with (first
  |(go_at_call 149;refine KS.mono ?_;rintro e w1 ⟨rfl,xL⟩;have KB:=Qi _ xL;generalize m.named (sp p (word ws 2))=n at*)
  |(go_at_call 193;refine KB.mono ?_;rintro e w2 ⟨rfl,vb2,vt2,eQ⟩;obtain⟨c0,c1,c2,c3,c4,c5,c6,c7,c8,c9⟩:=eQ.facts;obtain⟨f1,f2,f3,f4,f5,f6⟩:=eQ.eA;rw[h0]at c8;have KN:Calls Tryz.prog 152 #[.pointer (some ⟨x,0,none⟩),.string ⟨#[60]⟩,.int .i64 ((n:Nat):Int)] _ _:=ga ⟨_,_,eQ⟩ 60 ((n:Nat):Int) (by unfold aN;omega) (by omega))
  |(go_at_call 152;refine KN.mono ?_;rintro e w3 ⟨rfl,vb3,vt3,qs⟩;obtain⟨g,cap,rfl,kL,hg,q0,q1,q2,q3⟩:=qs.box (n:=n) (by omega) hle;obtain⟨d0,d1,d2,d3,d4,d5,d6,d7,d8,d9⟩:=qs.facts;have z1:=hR.at qs (j:=1) (by omega);have e1:((n:Int)-1).toNat=n-1:=(by omega);have i3:(1:Int)<=n:=(by omega);have i4:(n:Int)<=(m.note 60 ((n:Nat):Int)).boxes.length:=(by show(n:Int)<=m.boxes.length;omega);have i8:IntKind.i64.wrap ((n:Int)-1)=(n:Int)-1:=(by rw[IntKind.wrap_i64];omega);have i6:(0:Int)<=(n:Int)-1:=(by omega);have i7:(n:Int)-1<(m.note 60 ((n:Nat):Int)).boxes.length:=(by omega);have KE:=qD hC ⟨_,_,qs.below ((Below.refl w3.heap.size w3).drew)⟩ h1 (m.box n).1))
 go_upto_region 11 with fail
 go_region_law (go_simp;go_at_call 150;refine KE.mono ?_;rintro e w9 ⟨rfl,xM⟩)
 all_goals go_wp2_with fail
 all_goals go_end0
 all_goals exact⟨rfl,by rw[HG.out];exact xM⟩
set_option maxRecDepth 20000 in
set_option maxHeartbeats 2000000 in
theorem L9 (hC:Ctx w0 p f)(h:ca w0 x f w m)(hR:Row w0 ws gw)(hn:ws.length=3)(h1:Wd p (word ws 1))(h2:Wd p (word ws 2))(h0:m.out=0)(hw:word ws 0=[115,116,111,114,101])(hO:m.Ok t)(ht:t<=2000000)(hb:¬m.named (sp p (word ws 1))=0)(hh:m.has.getD (sp p (word ws 2)) false=true):
  Calls Tryz.prog 153 #[.pointer (some ⟨x,0,none⟩),.slice (some ⟨gw,0,none⟩) ws.length cw] w fun e w'=>e=.returned (.tuple #[])/\ca w0 x f w' (m.store p ws):=by
 have y0:=hR.on h (j:=0) (by omega);rw[hw]at y0;have z1:=hR.on h (j:=1) (by omega);have KS:=fb hC h h1;obtain⟨hi,-⟩:=h1.lt hC.aV;have hle:=oU hO (sp p (word ws 1));have hbt:=hO.boxes;have htr:=hO.trace;have Qi:=fun w' (hM:ca w0 x f w' m)=>iX hM hi hO (by omega)
 rw[lW hb]at Qi;have HG:Hid (m.store p ws={m.note 62 ((m.named (sp p (word ws 1)):Nat):Int)with boxes:=m.boxes.set (m.named (sp p (word ws 1))-1) (m.int (sp p (word ws 2)),(m.box (m.named (sp p (word ws 1)))).2)}):=by unfold Hid;unfold RM.store;simp only;rw[lW hb,gY hh,jb h0]
 have kZ:(ws.length:Int)=3:=by omega
 go_enter Tryz.func153,Tryz.ntmps153
 go_wp2_with (first
  |(go_at_call 149;refine KS.mono ?_;rintro e w1 ⟨rfl,xL⟩;have KB:=Qi _ xL;generalize m.named (sp p (word ws 1))=n at*)
  |(go_at_call 193;refine KB.mono ?_;rintro e w2 ⟨rfl,Cj⟩;have z2:=hR.on Cj (j:=2) (by omega);have KI:=cM hC Cj h2;rw[gY hh]at KI)
  |(go_at_call 147;refine KI.mono ?_;rintro e w3 ⟨rfl,vb2,vt2,eQ⟩;obtain⟨c0,c1,c2,c3,c4,c5,c6,c7,c8,c9⟩:=eQ.facts;obtain⟨f1,f2,f3,f4,f5,f6⟩:=eQ.eA;rw[h0]at c8;have KN:Calls Tryz.prog 152 #[.pointer (some ⟨x,0,none⟩),.string ⟨#[62]⟩,.int .i64 ((n:Nat):Int)] _ _:=ga ⟨_,_,eQ⟩ 62 ((n:Nat):Int) (by unfold aN;omega) (by omega))
  |(go_at_call 152;refine KN.mono ?_;rintro e w4 ⟨rfl,vb3,vt3,qs⟩;obtain⟨g,cap,rfl,kL,hg,q0,q1,q2,q3⟩:=qs.box (n:=n) (by omega) hle;obtain⟨d0,d1,d2,d3,d4,d5,d6,d7,d8,d9⟩:=qs.facts;have e1:((n:Int)-1).toNat=n-1:=(by omega);have i3:(1:Int)<=n:=(by omega);have i4:(n:Int)<=(m.note 62 ((n:Nat):Int)).boxes.length:=(by show(n:Int)<=m.boxes.length;omega);have N8:=(qs.tE (n:=n) (by omega) hle).1 (m.int (sp p (word ws 2)))))
 go_end0
 exact⟨rfl,by rw[HG.out];exact⟨_,_,N8⟩⟩
set_option maxRecDepth 20000 in
set_option maxHeartbeats 2000000 in
theorem L7 (hC:Ctx w0 p f)(h:ca w0 x f w m)(hR:Row w0 ws gw)(hn:ws.length=3)(h1:Wd p (word ws 1))(h2:Wd p (word ws 2))(hw:word ws 0=[115,116,111,114,101])(hO:m.Ok t)(ht:t<=2000000)(hb:m.named (sp p (word ws 1))=0):
  Calls Tryz.prog 153 #[.pointer (some ⟨x,0,none⟩),.slice (some ⟨gw,0,none⟩) ws.length cw] w fun e w'=>e=.returned (.tuple #[])/\ca w0 x f w' (m.store p ws):=by
 have y0:=hR.on h (j:=0) (by omega);rw[hw]at y0;have z1:=hR.on h (j:=1) (by omega);have KS:=fb hC h h1;obtain⟨hi,-⟩:=h1.lt hC.aV;have Qi:=fun w' (hM:ca w0 x f w' m)=>iX hM hi hO (by omega)
 rw[rW hb]at Qi;have ho5:¬(RM.bD {m with out:=5} (sp p (word ws 2))).out=0:=by unfold RM.bD;split<;>simp
 have ho6:=SQ ho5;have HG:Hid (m.store p ws=RM.bD {m with out:=5} (sp p (word ws 2))):=by unfold Hid;unfold RM.store;simp only;rw[rW hb,ja ho5]
 have kZ:(ws.length:Int)=3:=by omega
 go_enter Tryz.func153,Tryz.ntmps153
 go_wp2_with (first
  |(go_at_call 149;refine KS.mono ?_;rintro e w1 ⟨rfl,xL⟩;have KB:=Qi _ xL)
  |(go_at_call 193;refine KB.mono ?_;rintro e w2 ⟨rfl,Cj⟩;have z2:=hR.on Cj (j:=2) (by omega);have KI:=cM hC Cj h2)
  |(go_at_call 147;refine KI.mono ?_;rintro e w3 ⟨rfl,vb2,vt2,eQ⟩;obtain⟨c0,c1,c2,c3,c4,c5,c6,c7,c8,c9⟩:=eQ.facts;obtain⟨f1,f2,f3,f4,f5,f6⟩:=eQ.eA))
 go_end0
 exact⟨rfl,by rw[HG.out];exact⟨_,_,eQ⟩⟩
set_option maxRecDepth 20000 in
set_option maxHeartbeats 2000000 in
theorem L8 (hC:Ctx w0 p f)(h:ca w0 x f w m)(hR:Row w0 ws gw)(hn:ws.length=3)(h1:Wd p (word ws 1))(h2:Wd p (word ws 2))(hw:word ws 0=[115,116,111,114,101])(hO:m.Ok t)(ht:t<=2000000)(hb:¬m.named (sp p (word ws 1))=0)(hh:¬m.has.getD (sp p (word ws 2)) false=true):
  Calls Tryz.prog 153 #[.pointer (some ⟨x,0,none⟩),.slice (some ⟨gw,0,none⟩) ws.length cw] w fun e w'=>e=.returned (.tuple #[])/\ca w0 x f w' (m.store p ws):=by
 have y0:=hR.on h (j:=0) (by omega);rw[hw]at y0;have z1:=hR.on h (j:=1) (by omega);have KS:=fb hC h h1;obtain⟨hi,-⟩:=h1.lt hC.aV;have Qi:=fun w' (hM:ca w0 x f w' m)=>iX hM hi hO (by omega)
 rw[lW hb]at Qi;have HG:Hid (m.store p ws={m with out:=5}):=by unfold Hid;unfold RM.store;simp only;rw[lW hb,kP hh,ja (by simp)]
 have kZ:(ws.length:Int)=3:=by omega
 go_enter Tryz.func153,Tryz.ntmps153
 go_wp2_with (first
  |(go_at_call 149;refine KS.mono ?_;rintro e w1 ⟨rfl,xL⟩;have KB:=Qi _ xL)
  |(go_at_call 193;refine KB.mono ?_;rintro e w2 ⟨rfl,Cj⟩;have z2:=hR.on Cj (j:=2) (by omega);have KI:=cM hC Cj h2;rw[kP hh]at KI)
  |(go_at_call 147;refine KI.mono ?_;rintro e w3 ⟨rfl,vb2,vt2,eQ⟩;obtain⟨c0,c1,c2,c3,c4,c5,c6,c7,c8,c9⟩:=eQ.facts;obtain⟨f1,f2,f3,f4,f5,f6⟩:=eQ.eA))
 go_end0
 exact⟨rfl,by rw[HG.out];exact⟨_,_,eQ⟩⟩
theorem Vo (hC:Ctx w0 p f)(h:ca w0 x f w m)(hR:Row w0 ws gw)(hn:ws.length=3)(h1:Wd p (word ws 1))(h2:Wd p (word ws 2))(h0:m.out=0)(hw:word ws 0=[110,101,119])(hO:m.Ok t)(ht:t<=2000000):
  Calls Tryz.prog 153 #[.pointer (some ⟨x,0,none⟩),.slice (some ⟨gw,0,none⟩) ws.length cw] w fun e w'=>e=.returned (.tuple #[])/\ca w0 x f w' (m.new f p ws):=by
 by_cases hh:m.has.getD (sp p (word ws 2)) false=true
 ·cases hf:f.owns
  ·exact Sw hC h hR hn h1 h2 h0 hw hh hO ht hf
  ·exact Sy hC h hR hn h1 h2 h0 hw hh hO ht hf
 ·exact Sx hC h hR hn h2 hw hh
theorem Bh (hC:Ctx w0 p f)(h:ca w0 x f w m)(hR:Row w0 ws gw)(hn:ws.length=3)(h1:Wd p (word ws 1))(h2:Wd p (word ws 2))(h0:m.out=0)(hw:word ws 0=[108,111,97,100])(hO:m.Ok t)(ht:t<=2000000):
  Calls Tryz.prog 153 #[.pointer (some ⟨x,0,none⟩),.slice (some ⟨gw,0,none⟩) ws.length cw] w fun e w'=>e=.returned (.tuple #[])/\ca w0 x f w' (m.load p ws):=by
 by_cases hb:m.named (sp p (word ws 2))=0
 ·exact ON hC h hR hn h2 hw hO ht hb
 ·exact OO hC h hR hn h1 h2 h0 hw hO ht hb
theorem yk (hC:Ctx w0 p f)(h:ca w0 x f w m)(hR:Row w0 ws gw)(hn:ws.length=3)(h1:Wd p (word ws 1))(h2:Wd p (word ws 2))(h0:m.out=0)(hw:word ws 0=[115,116,111,114,101])(hO:m.Ok t)(ht:t<=2000000):
  Calls Tryz.prog 153 #[.pointer (some ⟨x,0,none⟩),.slice (some ⟨gw,0,none⟩) ws.length cw] w fun e w'=>e=.returned (.tuple #[])/\ca w0 x f w' (m.store p ws):=by
 by_cases hb:m.named (sp p (word ws 1))=0
 ·exact L7 hC h hR hn h1 h2 hw hO ht hb
 ·by_cases hh:m.has.getD (sp p (word ws 2)) false=true
  ·exact L9 hC h hR hn h1 h2 h0 hw hO ht hb hh
  ·exact L8 hC h hR hn h1 h2 hw hO ht hb hh
end
end Mac
end Go.Proofs.YtmlgajhhnojdjaaGreatDoor

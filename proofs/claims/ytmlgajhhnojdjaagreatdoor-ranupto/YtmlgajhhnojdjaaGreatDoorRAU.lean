import Derived.Test.YtmlgajhhnojdjaaGreatDoorRAT
namespace Go.Proofs.YtmlgajhhnojdjaaGreatDoor
namespace Mac
open Go Go.RowKit Sq Aux PrjJ PrjK PrjL PrjM Go.Proofs.YtmlgajhhnojdjaaGreatDoor.Own RefRa RefP
section
variable {w0 w w1 w2 w3:World} {x gw cw:Nat} {f:Fx} {m:RM} {p:RP} {ws:List B} {t:Nat} {vb vt:Value}
set_option maxRecDepth 20000 in
set_option maxHeartbeats 2000000 in
theorem Gk (hC:Ctx w0 p f)(h:cd w0 x f w m)(hR:Row w0 ws gw)(hn:ws.length=2)(h1:Wd p (word ws 1))(hh:¬m.has.getD (sp p (word ws 1)) false=true):
  Calls Tryz.prog 92 #[.pointer (some ⟨x,0,none⟩),.slice (some ⟨gw,0,none⟩) ws.length cw] w fun e w'=>e=.returned (.tuple #[])/\cd w0 x f w' (m.finish f p ws):=by
 have HG:Hid (m.finish f p ws={m with out:=5}):=by unfold Hid RM.finish;simp only;rw[kQ hh,jb (by simp)]
 have la:(ws.length:Int)=2:=by omega
 have y1:=hR.on h (j:=1) (by omega);have KI:=cN hC h h1;rw[kQ hh]at KI;go_enter Tryz.func92,Tryz.ntmps92
 go_wp2_with (go_at_call 147;refine KI.mono ?_;rintro e w1 ⟨rfl,vb1,vt1,lf⟩;obtain⟨c0,c1,c2,c3,c4,c5,c6,c7,c8,c9⟩:=lf.facts)
 try simp only[Exit.inBlock,Exit.then]
 refine bodyPost_ret (results_none rfl _ _ _) rfl ?_;exact⟨rfl,by rw[HG.out];exact⟨_,_,lf⟩⟩
structure VZ (p:RP):Prop where
 name:∀j,j<p.lets.length->Wd p (word (p.line (p.lets.getD j 0)) 1)
set_option maxRecDepth 20000 in
set_option maxHeartbeats 2000000 in
theorem J3 (hC:Ctx w0 p f)(h:cd w0 x f w m)(hR:Row w0 ws gw)(hn:ws.length=2)(h1:Wd p (word ws 1))(hh:m.has.getD (sp p (word ws 1)) false=true)(h0:m.out=0)(hf:f.owns=true)(hL:VZ p)(hO:m.Ok t)(ht:t<=1000000):
  Calls Tryz.prog 92 #[.pointer (some ⟨x,0,none⟩),.slice (some ⟨gw,0,none⟩) ws.length cw] w fun e w'=>e=.returned (.tuple #[])/\cd w0 x f w' (m.finish f p ws):=by
 have HG:Hid (m.finish f p ws=RM.fA p p.lets.length {m with out:=1,value:=m.int (sp p (word ws 1))}):=by unfold Hid RM.finish;simp only;rw[gZ hh,ja (by rw[h0];decide),jb hf]
 have la:(ws.length:Int)=2:=by omega
 have y1:=hR.on h (j:=1) (by omega);have KI:=cN hC h h1;rw[gZ hh]at KI;go_enter Tryz.func92,Tryz.ntmps92
 go_wp2_with (go_at_call 147;refine KI.mono ?_;rintro e w1 ⟨rfl,vb1,vt1,lf⟩;obtain⟨c0,c1,c2,c3,c4,c5,c6,c7,c8,c9⟩:=lf.facts;rw[h0]at c8;obtain⟨f1,f2,f3,f4,f5,f6⟩:=lf.eB;have eR:=lf.tG 1;have qt:=eR.setValue (m.int (sp p (word ws 1)));obtain⟨lb,lc,l1⟩:=(hC.prog.below qt.br).q9;obtain⟨d0,d1,d2,d3,d4,d5,d6,d7,d8,d9⟩:=qt.facts;obtain⟨lb0,lc0,l0⟩:=(hC.prog.below lf.br).q9)
 have HM:Hid (cd w0 x f ((w1.setCell ⟨x,154,none⟩ (.int .i64 1)).setCell ⟨x,155,none⟩ (.int .i64 (m.int (sp p (word ws 1))))) {m with out:=1,value:=m.int (sp p (word ws 1))}):=⟨_,_,qt⟩;have hOm:RM.Ok {m with out:=1,value:=m.int (sp p (word ws 1))} t:=⟨hO.ints,hO.held,hO.zr,hO.boxes,hO.trace,hO.count,hO.used⟩;have cg:=hC.aW;clear c0 c1 c2 c3 c4 c5 c6 c7 c8 c9 f1 f2 f3 f4 f5 f6 d0 d1 d2 d3 d4 d5 d6 d7 d8 d9 l0 l1 lf eR qt KI hO h0 hh;generalize ({m with out:=1,value:=m.int (sp p (word ws 1))}:RM)=mm at*;go_loopw [5,6] (fun v5 _v6 wr=>∃(k:Nat) (mk:RM),k<=p.lets.length/\v5=.int .i64 ((k:Int)-1)/\Hid (cd w0 x f wr mk)/\mk.Ok (t+2*(p.lets.length-k))/\Hid (RM.fA p k mk=RM.fA p p.lets.length mm)) (fun v _ _=>(intOf v+1).toNat)
 case atStart=>exact⟨p.lets.length,mm,jC _,by congr 1;unfold wrap64;omega,HM,by simpa using hOm,rfl⟩
 case round=>
  obtain⟨k,mk,hk,rfl,HK,hOk,HE⟩:=hrel;clear HM;obtain⟨vb,vt,hV⟩:=HK.out;obtain⟨c0,c1,c2,c3,c4,c5,c6,c7,c8,c9⟩:=hV.facts;rw[hf]at c1;cases k with
  |zero=>
   have i1:¬(0:Int)<=((0:Nat):Int)-1:=by omega
   go_wp2_with fail
   go_end0
   refine⟨rfl,?_⟩;rw[HG.out,<-HE.out];exact HK.out
  |succ k=>
   have i1:((k+1:Nat):Int)-1=(k:Int):=by omega
   rw[i1];have HP:=hC.prog.below hV.br;obtain⟨aL,h3⟩:=hC.ok.lets (p.lets.getD k 0) (by rw[jA,jB (by omega)];exact jL _);obtain⟨g,cap,l1,l2,l3⟩:=HP.EK k (by omega);obtain⟨gg,cap2,gl,dt,k1,k2,k3,k4,k5⟩:=HP.gH (p.lets.getD k 0) aL;have k6:=k5 1 (by omega);have k7:=k5 2 (by omega);rw[h3]at k3;have yW:=hL.name k (by omega);have ly:=hC.ok.size;have vE:Hid (RM.fA p (k+1) mk=RM.fA p k (if word (p.line (p.lets.getD k 0)) 2=mN then mk else mk.drop p (word (p.line (p.lets.getD k 0)) 1))):=rfl;have HOK:Hid (mk.Ok (t+2*(p.lets.length-(k+1)))):=hOk;have HOD:Hid ((mk.drop p (word (p.line (p.lets.getD k 0)) 1)).Ok (t+2*(p.lets.length-(k+1))+2)):=hOk.drop (by omega) yW cg;generalize p.lets.getD k 0=li at*;have i2:((k:Nat):Int)<p.lets.length:=by omega
   have i3:((li:Nat):Int)<p.lines.length:=by omega
   clear k5;by_cases qv:word (p.line li) 2=mN
   ·rw[qv]at k7;go_upto_region 7 with fail
    go_quiet (fail)
    have Kd:bO w0 x f (wr.drewN nq) mk vb vt:=hV.below (below_drewN (Below.refl _ _) _);go_wp2_with fail
    refine⟨⟨k,mk,by omega,by go_num,⟨_,_,Kd⟩,HOK.out.mono (by omega),?_⟩,by simp only[intOf];omega⟩;rw[<-HE.out,vE.out,jb qv];rfl
   ·have ec:¬word (p.line li) 2=[105,110,116]:=qv;go_upto_region 7 with fail
    go_quiet (fail)
    have Kd:bO w0 x f (wr.drewN nq) mk vb vt:=hV.below (below_drewN (Below.refl _ _) _);have KD:=fY hC ⟨_,_,Kd⟩ yW hOk (by omega);go_wp2_with (go_at_call 148;refine KD.mono ?_;rintro e w9 ⟨rfl,xN⟩)
    ·refine⟨⟨k,mk.drop p (word (p.line li) 1),by omega,by go_num,xN,HOD.out.mono (by omega),?_⟩,by simp only[intOf];omega⟩;rw[<-HE.out,vE.out,ja qv];rfl
    ·exfalso;exact ec (by simpa using‹(!word (p.line li) 2==[105,110,116])=false›)
end
end Mac
namespace Mac
open Go Go.RowKit Sq Aux Go.Proofs.YtmlgajhhnojdjaaGreatDoor.Own RefRa
section
variable {f:Fx} {m:RM} {p:RP} {ws:List B} {t:Nat} {al:List Int} {l:B}
theorem Ga (m:RM)(c:UInt8)(k:Nat):(m.ee c k).boxes.length=m.boxes.length:=by
 unfold RM.ee RM.free;simp only;split
 ·split
  ·rfl
  ·simp[RM.note]
 ·rfl
theorem yO (m:RM)(c:UInt8)(k:Nat):∀n,(m.mh c k n).boxes.length=m.boxes.length
 |0=>rfl
 |n+1=>(Ga _ c (k+n)).trans (yO m c k n)
theorem sR (m:RM)(c:UInt8)(i:Nat):∀n,(m.dc c i n).boxes=m.boxes
 |0=>rfl
 |n+1=>sR m c i n
theorem RM.Ok.hows (h:m.Ok t)(c:UInt8)(i:Nat):∀n,(m.dc c i n).Ok t
 |0=>h
 |n+1=>(RM.Ok.hows h c i n).ba _
theorem vj (m:RM)(held:List Nat)(ba:List UInt8)(j i:Nat):∀n,(m.cU held ba j i n).boxes=m.boxes
 |0=>rfl
 |n+1=>vj m held ba j i n
theorem RM.Ok.cU (h:m.Ok t){held:List Nat}(hh:∀j,held.getD j 0<=m.boxes.length)(ba:List UInt8)(j i:Nat):∀n,(m.cU held ba j i n).Ok t
 |0=>h
 |n+1=>by
  have ih:=RM.Ok.cU h hh ba j i n;refine⟨ih.ints,fun k=> ?_,ih.zr,ih.boxes,ih.trace,ih.count,ih.used⟩;show((m.cU held ba j i n).held.set (j+n) (held.getD (i+n) 0)).getD k 0<=(m.cU held ba j i n).boxes.length
  rw[jA,jd];split
  ·split
   ·rw[vj];exact hh _
   ·exact jQ _
  ·rw[<-jA];exact ih.held k
theorem RM.Ok.owned (h:m.Ok t)(ht:t+2<=10000000)(h1:Wd p (word ws 1))(cg:p.lets.length<=12):(m.owned p ws).Ok (t+2):=by
 have h2:=(h.hows (dk (word ws 2)) (sp p (word ws 2)) (p.ak (word ws 2)).2).drop ht h1 cg;have h3:=h2.cU (held:=m.held) (fun j=>by
  show _<=(RM.mh _ _ _ _).boxes.length
  rw[yO,sR];exact h.held j) m.ba (sp p (word ws 1)) (sp p (word ws 2)) (p.ak (word ws 2)).2
 unfold RM.owned;simp only;split
 ·exact h3.ba _
 ·exact h3
theorem RM.Ok.arith (h:m.Ok t):(m.arith p ws).Ok t:=by
 unfold RM.arith;simp only;have h1:=(h.bE (sp p (word ws 2))).bE (sp p (word ws 3));split
 ·exact h1
 ·split
  ·exact h1.outs 4
  ·exact h1.be _ (Ar _ _ _)
theorem RM.Ok.new (h:m.Ok t)(ht:t+3<=10000000)(h1:Wd p (word ws 1))(cg:p.lets.length<=12):(m.new f p ws).Ok (t+3):=by
 unfold RM.new;simp only;have h2:=h.bE (sp p (word ws 2));split
 ·exact h2.mono (by omega)
 ·have hv:aO (m.int (sp p (word ws 2))):=h.ints _;split
  ·exact(h2.drop (by omega) h1 cg).made (by omega) _ hv
  ·exact(h2.made (by omega) _ hv).mono (by omega)
theorem RM.Ok.load (h:m.Ok t)(ht:t<=10000000):(m.load p ws).Ok (t+1):=by
 unfold RM.load;simp only;have h1:=h.boxed (sp p (word ws 2));have h2:=oV h (sp p (word ws 2));have h3:=h.boxes;split
 ·exact(h1.note 60 (zN (t:=t) (by omega) (by omega))).be _ (MC h _)
 ·exact h1.mono (by omega)
theorem RM.Ok.tell (h:m.Ok t):(m.tell p ws).Ok (t+1):=by
 unfold RM.tell;simp only;have h1:=h.bE (sp p (word ws 1));split
 ·exact h1.note 111 (h.ints _)
 ·exact h1.mono (by omega)
theorem RM.Ok.input (h:m.Ok t)(hi:∀n∈al,aO n):(m.input p al ws).Ok (t+1):=by
 unfold RM.input;have h1:RM.Ok {m with used:=m.used+1} (t+1):=⟨h.ints,h.held,h.zr,by have:=h.boxes;show m.boxes.length<=_;omega,by have:=h.trace;show m.trace.length<=_;omega,by have:=h.count;show _<=m.count/\m.count<=_;omega,by have:=h.used;show m.used+1<=_;omega⟩;refine h1.be _ ?_;rw[jA];cases e:al[m.used]? with
 |none=>unfold aO;simp
 |some v=>exact hi v (List.mem_of_getElem? e)
theorem RM.Ok.none (h:m.Ok t)(ht:t+2<=10000000)(h1:Wd p (word ws 1))(cg:p.lets.length<=12):(m.none f p ws).Ok (t+2):=by
 unfold RM.none;simp only;split
 ·exact(h.drop ht h1 cg).ba _
 ·exact(h.mono (by omega)).ba _
theorem Ly (m:RM)(i:Nat):(m.bE i).boxes=m.boxes:=by unfold RM.bE;split<;>rfl
theorem FV (m:RM)(i:Nat):(m.boxed i).boxes=m.boxes:=by unfold RM.boxed;split<;>rfl
theorem RM.Ok.store (h:m.Ok t)(ht:t<=10000000):(m.store p ws).Ok (t+1):=by
 unfold RM.store;simp only;have h1:=(h.boxed (sp p (word ws 1))).bE (sp p (word ws 2));have h2:=oV h (sp p (word ws 1));have h3:=h.boxes;split
 ·have h4:=h1.note 62 (n:=((m.named (sp p (word ws 1)):Nat):Int)) (zN (t:=t) (by omega) (by omega));have hb:((m.boxed (sp p (word ws 1))).bE (sp p (word ws 2))).boxes=m.boxes:=(Ly _ _).trans (FV _ _);refine⟨h4.ints,fun j=> ?_,fun j=> ?_,?_,h4.trace,h4.count,h4.used⟩
  ·have:=h4.held j;show _<=(m.boxes.set _ _).length
   rw[List.length_set];have e:(((m.boxed (sp p (word ws 1))).bE (sp p (word ws 2))).note 62 ((m.named (sp p (word ws 1)):Nat):Int)).boxes=m.boxes:=hb;rw[e]at this;exact this
  ·show aO ((m.boxes.set (m.named (sp p (word ws 1))-1) (m.int (sp p (word ws 2)),(m.box (m.named (sp p (word ws 1)))).2)).getD j (0,false)).1
   rw[jA,jd];split
   ·split
    ·exact h.ints _
    ·unfold aO;simp
   ·rw[<-jA];exact h.zr j
  ·show(m.boxes.set _ _).length<=_
   rw[List.length_set];omega
 ·exact h1.mono (by omega)
end
end Mac
namespace RefU
open Go.RowKit Sq RefA RefO RefP RefQ RefR RefS RefT Aux
attribute [local go_sem ↓] dd cH
structure iU (p:RP)(a:Nat)(s:WS)(ws:List B)(gw:Nat)(w:World):Prop where
 prog:bf w a p
 ok:p.Ok
 ways:s.Ok
 aW:p.lets.length<=12
 row:gw<w.heap.size
 one:1<=ws.length
 cells:∀j,j<ws.length->w.cell? ⟨gw,j,none⟩=some (.string (bs (word ws j)))
 long:∀j,(word ws j).length<=maxLen
 wide:ws.length<=1099511627777
theorem iU.cell {p:RP}{a:Nat}{s:WS}{ws:List B}{gw:Nat}{w:World}(h:iU p a s ws gw w){wr:World}(hb:Below w.heap.size w wr)(j:Nat)(hj:j<ws.length):wr.cell? ⟨gw,j,none⟩=some (.string (bs (word ws j))):=
 (hb.cell (p:=⟨gw,j,none⟩) h.row).trans (h.cells j hj)
theorem ia {tmps:Array Value}{w wr:World}{t:WS}{b:Bool}{R:Ending->World->Prop}(hK:aB wr (w.heap.size+1) aI)(ht:t.Ok)(h6:tmps.getD 6 undef=.pointer (some ⟨w.heap.size+1,0,none⟩))(h7:tmps.getD 7 undef=.bool b)
  (h:R (.returned (.tuple #[t.val,.bool b])) (wr.setCells (w.heap.size+1) 0 t.cells)):bodyPost Tryz.prog Tryz.f84 R Exit.ret {tmps:=tmps,defers:=[]} (wr.setCells (w.heap.size+1) 0 t.cells):=by
 refine bodyPost_ret (eG Tryz.results84 tmps _ _ (w.heap.size+1) t.cells _ h6 (hK.store bF ht).range Tryz.underlying155 rfl (eD ht)) rfl ?_;rw[h7];exact h
set_option maxRecDepth 20000 in
set_option maxHeartbeats 2000000 in
theorem I4 (p:RP)(a:Nat)(s:WS)(ws:List B)(gw cw:Nat)(w:World)(H:iU p a s ws gw w)(hlen:2<=ws.length)(pG:0<=p.find (aj (word ws 1)))(h0:word ws 0=[115,101,116]\/word ws 0=[105,110]):
  Calls Tryz.prog 84 #[.pointer (some ⟨a,0,none⟩),.slice (some ⟨gw,0,none⟩) ws.length cw,s.val] w fun e w'=>e=.returned (.tuple #[(p.step ws s).1.val,.bool (p.step ws s).2])/\Below w.heap.size w w':=by
 have HR:Hid (p.step ws s=(p.now s (word ws 1) [119],true)):=by unfold Hid RP.step;rw[jb h0]
 have lx:=p.oy H.ways (word ws 1) (c:=[119]) (by simp);have la:(1:Int)<ws.length:=by omega
 have yW:=H.wide;rw[HR.out];unfold WS.val;rcases h0 with h0|h0
 all_goals
  go_enter Tryz.func84,Tryz.ntmps84
  go_upto_region 0 with fail
  go_cut [5,6,7] (fun v5 v6 v7 wc=>Kept w wc s/\v5=.pointer (some ⟨w.heap.size,0,none⟩)/\v6=.pointer (some ⟨w.heap.size+1,0,none⟩)/\v7=.bool false)
  case first=>
   go_wp2
   go_meet
   case rel=>exact⟨eg w s,rfl,rfl,rfl⟩
  case rest=>
   obtain⟨hK,rfl,rfl,rfl⟩:=hcut;have mZ:=H.cell hK.br 0 (by omega);rw[h0]at mZ;have kq:=H.cell hK.br 1 (by omega);have H0:Hid (_=_):=h0;clear h0;have cM:Kept w wc.drew s:=hK.below ((Below.refl _ _).drew);have hh:aU wc.drew w.heap.size:=⟨s,H.ways,cM.here⟩;have hv:=bu cM.here;have qy:=kC p a s (word ws 1) [119] wc.drew (H.prog.below cM.br) H.ok H.ways (H.long 1) (by simp) pG H.aW;unfold WS.val at qy;go_wp2_with fail
   go_region_law (go_simp;go_at_call 88;refine qy.mono ?_;rintro e w1 ⟨rfl,aw⟩;have UT:aU w1 (w.heap.size+1):=⟨aI,bF,(cM.below aw).zero⟩;have xT:dh (p.now s (word ws 1) [119]).cells.toArray:=⟨_,lx,rfl⟩)
   all_goals go_wp2_with fail
   all_goals exact ia (cM.below aw).zero lx rfl rfl ⟨rfl,az (cM.below aw).br (by omega) _ _⟩
end RefU
namespace RefV
open Go.RowKit Sq RefA RefO RefP RefQ RefR RefS RefT RefU Aux
attribute [local go_sem ↓] dd cH
set_option maxRecDepth 20000 in
set_option maxHeartbeats 4000000 in
theorem PO (p:RP)(a:Nat)(s:WS)(ws:List B)(gw cw:Nat)(w:World)(H:iU p a s ws gw w)(hlen:2<=ws.length)(pG:0<=p.find (aj (word ws 1)))(h0:word ws 0=[110,111,110,101]):
  Calls Tryz.prog 84 #[.pointer (some ⟨a,0,none⟩),.slice (some ⟨gw,0,none⟩) ws.length cw,s.val] w fun e w'=>e=.returned (.tuple #[(p.step ws s).1.val,.bool (p.step ws s).2])/\Below w.heap.size w w':=by
 have HR:Hid (p.step ws s=(p.now s (word ws 1) [110],true)):=by
  unfold Hid RP.step;simp[h0]
 have lx:=p.oy H.ways (word ws 1) (c:=[110]) (by simp);have mx:(1:Int)<ws.length:=by omega
 have yW:=H.wide;rw[HR.out];unfold WS.val
 skip
 all_goals
  go_enter Tryz.func84,Tryz.ntmps84
  go_upto_region 0 with fail
  go_cut [5,6,7] (fun v5 v6 v7 wc=>Kept w wc s/\v5=.pointer (some ⟨w.heap.size,0,none⟩)/\v6=.pointer (some ⟨w.heap.size+1,0,none⟩)/\v7=.bool false)
  case first=>
   go_wp2
   go_meet
   case rel=>exact⟨eg w s,rfl,rfl,rfl⟩
  case rest=>
   obtain⟨hK,rfl,rfl,rfl⟩:=hcut;have mZ:=H.cell hK.br 0 (by omega);rw[h0]at mZ;have kq:=H.cell hK.br 1 (by omega);have H0:Hid (_=_):=h0;clear h0;have cM:Kept w wc.drew s:=hK.below ((Below.refl _ _).drew);have hh:aU wc.drew w.heap.size:=⟨s,H.ways,cM.here⟩;have hv:=bu cM.here;have qy:=kC p a s (word ws 1) [110] wc.drew (H.prog.below cM.br) H.ok H.ways (H.long 1) (by simp) pG H.aW;unfold WS.val at qy;go_wp2_with fail
   go_region_law (go_simp;go_at_call 88;refine qy.mono ?_;rintro e w1 ⟨rfl,aw⟩;have UT:aU w1 (w.heap.size+1):=⟨aI,bF,(cM.below aw).zero⟩;have xT:dh (p.now s (word ws 1) [110]).cells.toArray:=⟨_,lx,rfl⟩)
   all_goals go_wp2_with fail
   all_goals exact ia (cM.below aw).zero lx rfl rfl ⟨rfl,az (cM.below aw).br (by omega) _ _⟩
set_option maxRecDepth 20000 in
set_option maxHeartbeats 4000000 in
theorem PN (p:RP)(a:Nat)(s:WS)(ws:List B)(gw cw:Nat)(w:World)(H:iU p a s ws gw w)(hlen:3<=ws.length)(pG:0<=p.find (aj (word ws 1)))(FD:0<=p.find (aj (word ws 2)))(h0:word ws 0=[108,111,97,100]):
  Calls Tryz.prog 84 #[.pointer (some ⟨a,0,none⟩),.slice (some ⟨gw,0,none⟩) ws.length cw,s.val] w fun e w'=>e=.returned (.tuple #[(p.step ws s).1.val,.bool (p.step ws s).2])/\Below w.heap.size w w':=by
 have HR:Hid (p.step ws s=(p.now s (word ws 1) [119],p.there s (word ws 2))):=by
  unfold Hid RP.step;simp[h0]
 have lx:=p.oy H.ways (word ws 1) (c:=[119]) (by simp);have mx:(1:Int)<ws.length:=by omega
 have GM:(2:Int)<ws.length:=by omega
 have yW:=H.wide;rw[HR.out];unfold WS.val
 skip
 all_goals
  go_enter Tryz.func84,Tryz.ntmps84
  go_upto_region 0 with fail
  go_cut [5,6,7] (fun v5 v6 v7 wc=>Kept w wc s/\v5=.pointer (some ⟨w.heap.size,0,none⟩)/\v6=.pointer (some ⟨w.heap.size+1,0,none⟩)/\v7=.bool false)
  case first=>
   go_wp2
   go_meet
   case rel=>exact⟨eg w s,rfl,rfl,rfl⟩
  case rest=>
   obtain⟨hK,rfl,rfl,rfl⟩:=hcut;have mZ:=H.cell hK.br 0 (by omega);rw[h0]at mZ;have kq:=H.cell hK.br 1 (by omega);have oa:=H.cell hK.br 2 (by omega);have H0:Hid (_=_):=h0;clear h0;go_upto_region 22 with fail
   go_cut [12] (fun v wc'=>Kept w wc' s/\v=.bool (p.there s (word ws 2)))
   case first=>
    have cM:Kept w wc.drew s:=hK.below ((Below.refl _ _).drew);have hh:aU wc.drew w.heap.size:=⟨s,H.ways,cM.here⟩;have hv:=bu cM.here;have HA:=iK p a s (word ws 2) wc.drew (H.prog.below cM.br) H.ok H.ways (H.long 2) FD H.aW;unfold WS.val at HA;go_region_law (go_simp;go_at_call 138;refine HA.mono ?_;rintro e w1 ⟨rfl,aw⟩)
    all_goals go_wp2_with fail
    all_goals
     go_meet
     case rel=>exact⟨cM.below aw,rfl⟩
   case rest=>
    obtain⟨AR,rfl⟩:=hcut
    replace kq:=H.cell AR.br 1 (by omega)
    have cM:Kept w wc.drew s:=AR.below ((Below.refl _ _).drew);have hh:aU wc.drew w.heap.size:=⟨s,H.ways,cM.here⟩;have hv:=bu cM.here;have qy:=kC p a s (word ws 1) [119] wc.drew (H.prog.below cM.br) H.ok H.ways (H.long 1) (by simp) pG H.aW;unfold WS.val at qy;go_wp2_with fail
    go_region_law (go_simp;go_at_call 88;refine qy.mono ?_;rintro e w1 ⟨rfl,aw⟩;have UT:aU w1 (w.heap.size+1):=⟨aI,bF,(cM.below aw).zero⟩;have xT:dh (p.now s (word ws 1) [119]).cells.toArray:=⟨_,lx,rfl⟩)
    all_goals go_wp2_with fail
    all_goals exact ia (cM.below aw).zero lx rfl rfl ⟨rfl,az (cM.below aw).br (by omega) _ _⟩
set_option maxRecDepth 20000 in
set_option maxHeartbeats 4000000 in
theorem step_drop (p:RP)(a:Nat)(s:WS)(ws:List B)(gw cw:Nat)(w:World)(H:iU p a s ws gw w)(hlen:2<=ws.length)(pG:0<=p.find (aj (word ws 1)))(h0:word ws 0=[100,114,111,112]):
  Calls Tryz.prog 84 #[.pointer (some ⟨a,0,none⟩),.slice (some ⟨gw,0,none⟩) ws.length cw,s.val] w fun e w'=>e=.returned (.tuple #[(p.step ws s).1.val,.bool (p.step ws s).2])/\Below w.heap.size w w':=by
 have HR:Hid (p.step ws s=(p.now s (word ws 1) (left (word ws 1)),cy p s (word ws 1))):=by
  unfold Hid RP.step;simp[h0]
 have sJ:(left (word ws 1)).length<=1000:=by unfold left;split<;>simp
 have lx:=p.oy H.ways (word ws 1) sJ;have mx:(1:Int)<ws.length:=by omega
 have yW:=H.wide;rw[HR.out];unfold WS.val
 skip
 all_goals
  go_enter Tryz.func84,Tryz.ntmps84
  go_upto_region 0 with fail
  go_cut [5,6,7] (fun v5 v6 v7 wc=>Kept w wc s/\v5=.pointer (some ⟨w.heap.size,0,none⟩)/\v6=.pointer (some ⟨w.heap.size+1,0,none⟩)/\v7=.bool false)
  case first=>
   go_wp2
   go_meet
   case rel=>exact⟨eg w s,rfl,rfl,rfl⟩
  case rest=>
   obtain⟨hK,rfl,rfl,rfl⟩:=hcut;have mZ:=H.cell hK.br 0 (by omega);rw[h0]at mZ;have kq:=H.cell hK.br 1 (by omega);have H0:Hid (_=_):=h0;clear h0;go_upto_region 31 with fail
   go_cut [15] (fun v wc'=>Kept w wc' s/\v=.bool (cy p s (word ws 1)))
   case first=>
    have cM:Kept w wc.drew s:=hK.below ((Below.refl _ _).drew);have hh:aU wc.drew w.heap.size:=⟨s,H.ways,cM.here⟩;have hv:=bu cM.here;have HA:=qf p a s (word ws 1) wc.drew (H.prog.below cM.br) H.ok H.ways (H.long 1) pG H.aW;unfold WS.val at HA;go_region_law (go_simp;go_at_call 139;refine HA.mono ?_;rintro e w1 ⟨rfl,aw⟩)
    all_goals go_wp2_with fail
    all_goals
     go_meet
     case rel=>exact⟨cM.below aw,rfl⟩
   case rest=>
    obtain⟨AR,rfl⟩:=hcut
    replace kq:=H.cell AR.br 1 (by omega)
    have cM:Kept w wc.drew s:=AR.below ((Below.refl _ _).drew);have hh:aU wc.drew w.heap.size:=⟨s,H.ways,cM.here⟩;have hv:=bu cM.here;have qy:=kC p a s (word ws 1) (left (word ws 1)) wc.drew (H.prog.below cM.br) H.ok H.ways (H.long 1) sJ pG H.aW;unfold WS.val at qy;go_wp2_with fail
    go_region_law (first
     |(go_simp;go_at_call 140;refine(zR _ _ (H.long 1)).mono ?_;rintro e w' ⟨rfl,rfl⟩)
     |(go_simp;go_at_call 88;refine qy.mono ?_;rintro e w1 ⟨rfl,aw⟩;have UT:aU w1 (w.heap.size+1):=⟨aI,bF,(cM.below aw).zero⟩;have xT:dh (p.now s (word ws 1) (left (word ws 1))).cells.toArray:=⟨_,lx,rfl⟩))
    all_goals go_wp2_with fail
    all_goals exact ia (cM.below aw).zero lx rfl rfl ⟨rfl,az (cM.below aw).br (by omega) _ _⟩
end RefV
namespace RefW
open Go.RowKit Sq RefA RefO RefP RefQ RefR RefS RefT RefU Aux
attribute [local go_sem ↓] dd cH
set_option maxRecDepth 20000 in
set_option maxHeartbeats 4000000 in
theorem xl (p:RP)(a:Nat)(s:WS)(ws:List B)(gw cw:Nat)(w:World)(H:iU p a s ws gw w)(hlen:2<=ws.length)(pG:0<=p.find (aj (word ws 1)))(h0:word ws 0=[111,117,116]\/word ws 0=[105,102]\/word ws 0=[101,110,100]\/word ws 0=[109,97,116,99,104]):
  Calls Tryz.prog 84 #[.pointer (some ⟨a,0,none⟩),.slice (some ⟨gw,0,none⟩) ws.length cw,s.val] w fun e w'=>e=.returned (.tuple #[(p.step ws s).1.val,.bool (p.step ws s).2])/\Below w.heap.size w w':=by
 have HR:Hid (p.step ws s=(s,p.there s (word ws 1))):=by
  unfold Hid RP.step;rcases h0 with h0|h0|h0|h0<;>simp[h0]
 have mx:(1:Int)<ws.length:=by omega
 have yW:=H.wide;rw[HR.out];unfold WS.val;rcases h0 with h0|h0|h0|h0
 all_goals
  go_enter Tryz.func84,Tryz.ntmps84
  go_upto_region 0 with fail
  go_cut [5,6,7] (fun v5 v6 v7 wc=>Kept w wc s/\v5=.pointer (some ⟨w.heap.size,0,none⟩)/\v6=.pointer (some ⟨w.heap.size+1,0,none⟩)/\v7=.bool false)
  case first=>
   go_wp2
   go_meet
   case rel=>exact⟨eg w s,rfl,rfl,rfl⟩
  case rest=>
   obtain⟨hK,rfl,rfl,rfl⟩:=hcut;have mZ:=H.cell hK.br 0 (by omega);rw[h0]at mZ;have kq:=H.cell hK.br 1 (by omega);have H0:Hid (_=_):=h0;clear h0;have cM:Kept w wc.drew s:=hK.below ((Below.refl _ _).drew);have hh:aU wc.drew w.heap.size:=⟨s,H.ways,cM.here⟩;have hv:=bu cM.here;have xT:dh s.cells.toArray:=⟨s,H.ways,rfl⟩;have HA:=iK p a s (word ws 1) wc.drew (H.prog.below cM.br) H.ok H.ways (H.long 1) pG H.aW;unfold WS.val at HA;go_wp2_with fail
   go_region_law (go_simp;go_at_call 138;refine HA.mono ?_;rintro e w1 ⟨rfl,aw⟩;have UT:aU w1 (w.heap.size+1):=⟨aI,bF,(cM.below aw).zero⟩;have hh2:aU w1 w.heap.size:=⟨s,H.ways,(cM.below aw).here⟩;have YY:=bu (cM.below aw).here)
   all_goals go_wp2_with fail
   all_goals exact ia (cM.below aw).zero H.ways rfl rfl ⟨rfl,az (cM.below aw).br (by omega) _ _⟩
end RefW
namespace RefX
open Go.RowKit Sq RefA RefO RefP RefQ RefR RefS RefT RefU Aux
attribute [local go_sem ↓] dd cH
set_option maxRecDepth 20000 in
set_option maxHeartbeats 4000000 in
theorem L7 (p:RP)(a:Nat)(s:WS)(ws:List B)(gw cw:Nat)(w:World)(H:iU p a s ws gw w)(hlen:3<=ws.length)(pG:0<=p.find (aj (word ws 1)))(FD:0<=p.find (aj (word ws 2)))(h0:word ws 0=[115,116,111,114,101]):
  Calls Tryz.prog 84 #[.pointer (some ⟨a,0,none⟩),.slice (some ⟨gw,0,none⟩) ws.length cw,s.val] w fun e w'=>e=.returned (.tuple #[(p.step ws s).1.val,.bool (p.step ws s).2])/\Below w.heap.size w w':=by
 have HR:Hid (p.step ws s=(s,p.there s (word ws 1)&&p.there s (word ws 2))):=by
  unfold Hid RP.step;simp[h0]
 have mx:(1:Int)<ws.length:=by omega
 have GM:(2:Int)<ws.length:=by omega
 have yW:=H.wide;rw[HR.out];unfold WS.val
 skip
 all_goals
  go_enter Tryz.func84,Tryz.ntmps84
  go_upto_region 0 with fail
  go_cut [5,6,7] (fun v5 v6 v7 wc=>Kept w wc s/\v5=.pointer (some ⟨w.heap.size,0,none⟩)/\v6=.pointer (some ⟨w.heap.size+1,0,none⟩)/\v7=.bool false)
  case first=>
   go_wp2
   go_meet
   case rel=>exact⟨eg w s,rfl,rfl,rfl⟩
  case rest=>
   obtain⟨hK,rfl,rfl,rfl⟩:=hcut;have mZ:=H.cell hK.br 0 (by omega);rw[h0]at mZ;have kq:=H.cell hK.br 1 (by omega);have oa:=H.cell hK.br 2 (by omega);have H0:Hid (_=_):=h0;clear h0;go_upto_region 25 with fail
   go_cut [13] (fun v wc'=>Kept w wc' s/\v=.bool (p.there s (word ws 1)))
   case first=>
    have cM:Kept w wc.drew s:=hK.below ((Below.refl _ _).drew);have hh:aU wc.drew w.heap.size:=⟨s,H.ways,cM.here⟩;have hv:=bu cM.here;have HA:=iK p a s (word ws 1) wc.drew (H.prog.below cM.br) H.ok H.ways (H.long 1) pG H.aW;unfold WS.val at HA;go_region_law (go_simp;go_at_call 138;refine HA.mono ?_;rintro e w1 ⟨rfl,aw⟩)
    all_goals go_wp2_with fail
    all_goals
     go_meet
     case rel=>exact⟨cM.below aw,rfl⟩
   case rest=>
    obtain⟨AR,rfl⟩:=hcut
    replace oa:=H.cell AR.br 2 (by omega)
    clear hK;go_upto_region 26 with fail
    go_cut [14] (fun v wc'=>Kept w wc' s/\v=.bool (p.there s (word ws 2)))
    case first=>
     have cM:Kept w wc.drew s:=AR.below ((Below.refl _ _).drew);have hh:aU wc.drew w.heap.size:=⟨s,H.ways,cM.here⟩;have hv:=bu cM.here;have HA:=iK p a s (word ws 2) wc.drew (H.prog.below cM.br) H.ok H.ways (H.long 2) FD H.aW;unfold WS.val at HA;go_region_law (go_simp;go_at_call 138;refine HA.mono ?_;rintro e w1 ⟨rfl,aw⟩)
     all_goals go_wp2_with fail
     all_goals
      go_meet
      case rel=>exact⟨cM.below aw,rfl⟩
    case rest=>
     obtain⟨J8,rfl⟩:=hcut;have xT:dh s.cells.toArray:=⟨s,H.ways,rfl⟩;have hh:aU wc w.heap.size:=⟨s,H.ways,J8.here⟩;have hz:aU wc (w.heap.size+1):=⟨aI,bF,J8.zero⟩;have hv:=bu J8.here;cases hb:p.there s (word ws 1)
     all_goals
      go_wp2
      all_goals exact ia J8.zero H.ways rfl rfl ⟨by rw[hb];rfl,az J8.br (by omega) _ _⟩
end RefX
namespace RefY
open Go.RowKit Sq RefA RefO RefP RefQ RefR RefS RefT RefU Aux
attribute [local go_sem ↓] dd cH
set_option maxRecDepth 20000 in
set_option maxHeartbeats 4000000 in
theorem BP (p:RP)(a:Nat)(s:WS)(ws:List B)(gw cw:Nat)(w:World)(H:iU p a s ws gw w)(pG:0<=p.find (aj (word ws 1)))(FD:0<=p.find (aj (word ws 2)))(h0:word ws 0=[109,111,118,101]\/word ws 0=[115,111,109,101])(Kl:ws.length=3)(ht3:(RP.cK p ws s).1.Ok):
  Calls Tryz.prog 84 #[.pointer (some ⟨a,0,none⟩),.slice (some ⟨gw,0,none⟩) ws.length cw,s.val] w fun e w'=>e=.returned (.tuple #[(p.step ws s).1.val,.bool (p.step ws s).2])/\Below w.heap.size w w':=by
 have HR:Hid (p.step ws s=((RP.cK p ws s).1,(RP.cK p ws s).2)):=by
  unfold Hid RP.step;rcases h0 with h0|h0<;>simp[h0]
 have mx:(1:Int)<ws.length:=by omega
 have GM:(2:Int)<ws.length:=by omega
 have yW:=H.wide;rw[HR.out];unfold WS.val;rw[Kl];rcases h0 with h0|h0
 all_goals
  go_enter Tryz.func84,Tryz.ntmps84
  go_upto_region 0 with fail
  go_cut [5,6,7] (fun v5 v6 v7 wc=>Kept w wc s/\v5=.pointer (some ⟨w.heap.size,0,none⟩)/\v6=.pointer (some ⟨w.heap.size+1,0,none⟩)/\v7=.bool false)
  case first=>
   go_wp2
   go_meet
   case rel=>exact⟨eg w s,rfl,rfl,rfl⟩
  case rest=>
   obtain⟨hK,rfl,rfl,rfl⟩:=hcut;have mZ:=H.cell hK.br 0 (by omega);rw[h0]at mZ;have kq:=H.cell hK.br 1 (by omega);have oa:=H.cell hK.br 2 (by omega);have H0:Hid (_=_):=h0;clear h0;have xT:dh (RP.cK p ws s).1.cells.toArray:=⟨_,ht3,rfl⟩;have hh:aU wc w.heap.size:=⟨s,H.ways,hK.here⟩;have hv:=bu hK.here;have HA:=PX p a s ws gw cw wc (H.prog.below hK.br) H.ok H.ways H.aW (jK H.row hK.br.size) (fun j hj=>H.cell hK.br j (by omega)) H.long pG FD;unfold WS.val at HA;go_wp2_with (go_at_call 141;refine HA.mono ?_;rintro e w1 ⟨rfl,aw⟩;have hz:aU w1 (w.heap.size+1):=⟨aI,bF,(hK.below aw).zero⟩)
   exact ia (hK.below aw).zero ht3 rfl rfl ⟨rfl,az (hK.below aw).br (by omega) _ _⟩
end RefY
namespace RefZ
open Go.RowKit Sq RefA RefO RefP RefQ RefR RefS RefT RefU Aux
attribute [local go_sem ↓] dd cH
attribute [local go_sem ↓] qe oA
attribute [local go_sem] iH gx lM lS iJ
set_option maxRecDepth 20000 in
set_option maxHeartbeats 4000000 in
theorem Ts (p:RP)(a:Nat)(s:WS)(ws:List B)(gw cw:Nat)(w:World)(H:iU p a s ws gw w)(hlen:3<=ws.length)(pG:0<=p.find (aj (word ws 1)))(FD:0<=p.find (aj (word ws 2)))(h0:word ws 0=[110,101,119]):
  Calls Tryz.prog 84 #[.pointer (some ⟨a,0,none⟩),.slice (some ⟨gw,0,none⟩) ws.length cw,s.val] w fun e w'=>e=.returned (.tuple #[(p.step ws s).1.val,.bool (p.step ws s).2])/\Below w.heap.size w w':=by
 have HR:Hid (p.step ws s=(p.now s (word ws 1) [119],p.there s (word ws 2)&&cy p s (word ws 1))):=by
  unfold Hid RP.step;simp[h0]
 have lx:=p.oy H.ways (word ws 1) (c:=[119]) (by simp);have mx:(1:Int)<ws.length:=by omega
 have GM:(2:Int)<ws.length:=by omega
 have yW:=H.wide;rw[HR.out];unfold WS.val
 skip
 all_goals
  go_enter Tryz.func84,Tryz.ntmps84
  go_upto_region 0 with fail
  go_cut [5,6,7] (fun v5 v6 v7 wc=>Kept w wc s/\v5=.pointer (some ⟨w.heap.size,0,none⟩)/\v6=.pointer (some ⟨w.heap.size+1,0,none⟩)/\v7=.bool false)
  case first=>
   go_wp2
   go_meet
   case rel=>exact⟨eg w s,rfl,rfl,rfl⟩
  case rest=>
   obtain⟨hK,rfl,rfl,rfl⟩:=hcut;have mZ:=H.cell hK.br 0 (by omega);rw[h0]at mZ;have kq:=H.cell hK.br 1 (by omega);have oa:=H.cell hK.br 2 (by omega);have H0:Hid (_=_):=h0;clear h0;go_upto_region 18 with fail
   go_cut [10] (fun v wc'=>Kept w wc' s/\v=.bool (p.there s (word ws 2)))
   case first=>
    have cM:Kept w wc.drew s:=hK.below ((Below.refl _ _).drew);have hh:aU wc.drew w.heap.size:=⟨s,H.ways,cM.here⟩;have hv:=bu cM.here;have HA:=iK p a s (word ws 2) wc.drew (H.prog.below cM.br) H.ok H.ways (H.long 2) FD H.aW;unfold WS.val at HA;go_region_law (go_simp;go_at_call 138;refine HA.mono ?_;rintro e w1 ⟨rfl,aw⟩)
    all_goals go_wp2_with fail
    all_goals
     go_meet
     case rel=>exact⟨cM.below aw,rfl⟩
   case rest=>
    obtain⟨AR,rfl⟩:=hcut
    replace kq:=H.cell AR.br 1 (by omega)
    clear hK;go_upto_region 19 with fail
    go_cut [11] (fun v wc'=>Kept w wc' s/\v=.bool (cy p s (word ws 1)))
    case first=>
     have cM:Kept w wc.drew s:=AR.below ((Below.refl _ _).drew);have hh:aU wc.drew w.heap.size:=⟨s,H.ways,cM.here⟩;have hv:=bu cM.here;have HA:=qf p a s (word ws 1) wc.drew (H.prog.below cM.br) H.ok H.ways (H.long 1) pG H.aW;unfold WS.val at HA;go_region_law (go_simp;go_at_call 139;refine HA.mono ?_;rintro e w1 ⟨rfl,aw⟩)
     all_goals go_wp2_with fail
     all_goals
      go_meet
      case rel=>exact⟨cM.below aw,rfl⟩
    case rest=>
     obtain⟨J8,rfl⟩:=hcut
     replace kq:=H.cell J8.br 1 (by omega)
     clear AR;have cM:Kept w wc.drew s:=J8.below ((Below.refl _ _).drew);have hh:aU wc.drew w.heap.size:=⟨s,H.ways,cM.here⟩;have hv:=bu cM.here;have qy:=kC p a s (word ws 1) [119] wc.drew (H.prog.below cM.br) H.ok H.ways (H.long 1) (by simp) pG H.aW;unfold WS.val at qy;cases hb:p.there s (word ws 2)
     all_goals
      have HB:Hid (_=_):=hb;clear hb;go_wp2_with fail
      first|go_region_with (go_at_call 88;refine qy.mono ?_;rintro e w1 ⟨rfl,aw⟩;have UT:aU w1 (w.heap.size+1):=⟨aI,bF,(cM.below aw).zero⟩;have xT:dh (p.now s (word ws 1) [119]).cells.toArray:=⟨_,lx,rfl⟩)|skip
      all_goals go_wp2_with fail
      all_goals exact ia (cM.below aw).zero lx rfl rfl ⟨by rw[HB.out];rfl,az (cM.below aw).br (by omega) _ _⟩
end RefZ
namespace RefZa
open Go.RowKit Sq RefA RefO RefP RefQ RefR RefS RefT RefU Aux
attribute [local go_sem ↓] dd cH
attribute [local go_sem ↓] qe oA
attribute [local go_sem] iH gx lM lS iJ
set_option maxRecDepth 20000 in
set_option maxHeartbeats 4000000 in
theorem p9 (p:RP)(a:Nat)(s:WS)(ws:List B)(gw cw:Nat)(w:World)(H:iU p a s ws gw w)(hlen:4<=ws.length)(pG:0<=p.find (aj (word ws 1)))(FD:0<=p.find (aj (word ws 2)))(hf3:0<=p.find (aj (word ws 3)))(h0:word ws 0=[97,100,100]\/word ws 0=[115,117,98]\/word ws 0=[109,117,108]\/word ws 0=[100,105,118]):
  Calls Tryz.prog 84 #[.pointer (some ⟨a,0,none⟩),.slice (some ⟨gw,0,none⟩) ws.length cw,s.val] w fun e w'=>e=.returned (.tuple #[(p.step ws s).1.val,.bool (p.step ws s).2])/\Below w.heap.size w w':=by
 have HR:Hid (p.step ws s=(p.now s (word ws 1) [119],p.there s (word ws 2)&&p.there s (word ws 3))):=by
  unfold Hid RP.step;rcases h0 with h0|h0|h0|h0<;>simp[h0]
 have lx:=p.oy H.ways (word ws 1) (c:=[119]) (by simp);have mx:(1:Int)<ws.length:=by omega
 have GM:(2:Int)<ws.length:=by omega
 have hln3:(3:Int)<ws.length:=by omega
 have yW:=H.wide;rw[HR.out];unfold WS.val;rcases h0 with h0|h0|h0|h0
 all_goals
  go_enter Tryz.func84,Tryz.ntmps84
  go_upto_region 0 with fail
  go_cut [5,6,7] (fun v5 v6 v7 wc=>Kept w wc s/\v5=.pointer (some ⟨w.heap.size,0,none⟩)/\v6=.pointer (some ⟨w.heap.size+1,0,none⟩)/\v7=.bool false)
  case first=>
   go_wp2
   go_meet
   case rel=>exact⟨eg w s,rfl,rfl,rfl⟩
  case rest=>
   obtain⟨hK,rfl,rfl,rfl⟩:=hcut;have mZ:=H.cell hK.br 0 (by omega);rw[h0]at mZ;have kq:=H.cell hK.br 1 (by omega);have oa:=H.cell hK.br 2 (by omega);have hc3:=H.cell hK.br 3 (by omega);have H0:Hid (_=_):=h0;clear h0;go_upto_region 9 with fail
   go_cut [8] (fun v wc'=>Kept w wc' s/\v=.bool (p.there s (word ws 2)))
   case first=>
    have cM:Kept w wc.drew s:=hK.below ((Below.refl _ _).drew);have hh:aU wc.drew w.heap.size:=⟨s,H.ways,cM.here⟩;have hv:=bu cM.here;have HA:=iK p a s (word ws 2) wc.drew (H.prog.below cM.br) H.ok H.ways (H.long 2) FD H.aW;unfold WS.val at HA;go_region_law (go_simp;go_at_call 138;refine HA.mono ?_;rintro e w1 ⟨rfl,aw⟩)
    all_goals go_wp2_with fail
    all_goals
     go_meet
     case rel=>exact⟨cM.below aw,rfl⟩
   case rest=>
    obtain⟨AR,rfl⟩:=hcut
    replace kq:=H.cell AR.br 1 (by omega)
    replace hc3:=H.cell AR.br 3 (by omega)
    clear hK;go_upto_region 10 with fail
    go_cut [9] (fun v wc'=>Kept w wc' s/\v=.bool (p.there s (word ws 3)))
    case first=>
     have cM:Kept w wc.drew s:=AR.below ((Below.refl _ _).drew);have hh:aU wc.drew w.heap.size:=⟨s,H.ways,cM.here⟩;have hv:=bu cM.here;have HA:=iK p a s (word ws 3) wc.drew (H.prog.below cM.br) H.ok H.ways (H.long 3) hf3 H.aW;unfold WS.val at HA;go_region_law (go_simp;go_at_call 138;refine HA.mono ?_;rintro e w1 ⟨rfl,aw⟩)
     all_goals go_wp2_with fail
     all_goals
      go_meet
      case rel=>exact⟨cM.below aw,rfl⟩
    case rest=>
     obtain⟨J8,rfl⟩:=hcut
     replace kq:=H.cell J8.br 1 (by omega)
     clear AR;have cM:Kept w wc.drew s:=J8.below ((Below.refl _ _).drew);have hh:aU wc.drew w.heap.size:=⟨s,H.ways,cM.here⟩;have hv:=bu cM.here;have qy:=kC p a s (word ws 1) [119] wc.drew (H.prog.below cM.br) H.ok H.ways (H.long 1) (by simp) pG H.aW;unfold WS.val at qy;cases hb:p.there s (word ws 2)
     all_goals
      have HB:Hid (_=_):=hb;clear hb;go_wp2_with fail
      first|go_region_with (go_at_call 88;refine qy.mono ?_;rintro e w1 ⟨rfl,aw⟩;have UT:aU w1 (w.heap.size+1):=⟨aI,bF,(cM.below aw).zero⟩;have xT:dh (p.now s (word ws 1) [119]).cells.toArray:=⟨_,lx,rfl⟩)|skip
      all_goals go_wp2_with fail
      all_goals exact ia (cM.below aw).zero lx rfl rfl ⟨by rw[HB.out];rfl,az (cM.below aw).br (by omega) _ _⟩
end RefZa
end Go.Proofs.YtmlgajhhnojdjaaGreatDoor

import Derived.Test.YtmlgajhhnojdjaaGreatDoorRAX
namespace Go.Proofs.YtmlgajhhnojdjaaGreatDoor
namespace Aux
open Go Go.RowKit Sq RefR
theorem KQ:(Tryz.prog.info? 155).map (fun i=>(i.zero.map Value.cells,i.size,i.bytes))=some (some aI.cells.toArray,25,392):=by kernel_rfl
theorem Mk:Tryz.prog.underlying 152=some (.slice 155):=by kernel_rfl
theorem Bl (w:World)(n:Nat):aT (w.alloc (.cells (madeCells aI.cells.toArray (n*25)) 155)) w.heap.size (List.replicate n aI):=by
 refine⟨madeCells aI.cells.toArray (n*25),by show(w.heap.push _)[w.heap.size]?=_;simp,by rw[size_madeCells];simp;omega,fun i j hi hj=> ?_⟩;rw[List.length_replicate]at hi;rw[zU];have hs:aI.cells.toArray.size=25:=by decide
 have Jr:j<aI.cells.toArray.size:=by rw[hs];exact hj
 have e:(i*25+j)%aI.cells.toArray.size=j:=by rw[hs];omega
 unfold madeCells;rw[Array.getElem?_map,Array.getElem?_range,jb (by omega),Option.map_some,e];rw[getElem!_pos _ j Jr];have:aI.cells[j]?=some aI.cells[j]:=jB _;rw[this];simp
theorem CE (n:Nat)(hn:n<=4000)(w:World):(Instr.makeSlice 152 (.int .i64 (n:Int)) (.int .i64 (n:Int))).run Tryz.prog w=.ok (.slice (some ⟨w.heap.size,0,none⟩) n n) (w.alloc (.cells (madeCells aI.cells.toArray (n*25)) 155)):=by
 obtain⟨i,hi,hx⟩:=Option.map_eq_some_iff.1 KQ;simp only[Prod.mk.injEq]at hx;obtain⟨hz,hs,hb⟩:=hx;obtain⟨z,hz,hc⟩:=Option.map_eq_some_iff.1 hz;have:=run_make (P:=Tryz.prog) w 152 155 i z Mk hi hz .i64 .i64 n n (by omega) (Int.le_refl _) (by rw[hb];omega) (by omega);rw[hs,hc]at this;simpa using this
theorem zI (w:World):qh (w.alloc (.cells #[.bool false,.string ⟨#[]⟩,.string ⟨#[]⟩,.string ⟨#[]⟩,.string ⟨#[]⟩,.string ⟨#[]⟩,.string ⟨#[]⟩,.string ⟨#[]⟩,.string ⟨#[]⟩,.string ⟨#[]⟩,.string ⟨#[]⟩,.string ⟨#[]⟩,.string ⟨#[]⟩,.string ⟨#[]⟩,.string ⟨#[]⟩,.string ⟨#[]⟩,.string ⟨#[]⟩,.string ⟨#[]⟩,.string ⟨#[]⟩,.string ⟨#[]⟩,.string ⟨#[]⟩,.string ⟨#[]⟩,.string ⟨#[]⟩,.string ⟨#[]⟩,.string ⟨#[]⟩] 155)) w.heap.size 0:=aB.eC (aB.new w aI) bF
theorem z6 (w:World){t:WS}(ht:t.Ok):aB ((w.alloc (.cells #[.bool false,.string ⟨#[]⟩,.string ⟨#[]⟩,.string ⟨#[]⟩,.string ⟨#[]⟩,.string ⟨#[]⟩,.string ⟨#[]⟩,.string ⟨#[]⟩,.string ⟨#[]⟩,.string ⟨#[]⟩,.string ⟨#[]⟩,.string ⟨#[]⟩,.string ⟨#[]⟩,.string ⟨#[]⟩,.string ⟨#[]⟩,.string ⟨#[]⟩,.string ⟨#[]⟩,.string ⟨#[]⟩,.string ⟨#[]⟩,.string ⟨#[]⟩,.string ⟨#[]⟩,.string ⟨#[]⟩,.string ⟨#[]⟩,.string ⟨#[]⟩,.string ⟨#[]⟩] 155)).setCells w.heap.size 0 t.cells) w.heap.size t:=(aB.new w aI).store bF ht
theorem fH {w0 w:World}{B:Nat}(h:Below B w0 w)(hB:B<=w.heap.size)(cs:List Value):Below B w0 ((w.alloc (.cells #[.bool false,.string ⟨#[]⟩,.string ⟨#[]⟩,.string ⟨#[]⟩,.string ⟨#[]⟩,.string ⟨#[]⟩,.string ⟨#[]⟩,.string ⟨#[]⟩,.string ⟨#[]⟩,.string ⟨#[]⟩,.string ⟨#[]⟩,.string ⟨#[]⟩,.string ⟨#[]⟩,.string ⟨#[]⟩,.string ⟨#[]⟩,.string ⟨#[]⟩,.string ⟨#[]⟩,.string ⟨#[]⟩,.string ⟨#[]⟩,.string ⟨#[]⟩,.string ⟨#[]⟩,.string ⟨#[]⟩,.string ⟨#[]⟩,.string ⟨#[]⟩,.string ⟨#[]⟩] 155)).setCells w.heap.size 0 cs):=az (h.alloc hB _) hB 0 cs
end Aux
namespace RefU
open Go.RowKit Sq RefA RefO RefP RefQ RefR RefS RefT Aux
attribute [local go_sem ↓] dd cH
structure iU (p:RP)(a:Nat)(s:WS)(ws:List B)(gw:Nat)(w:World):Prop where
 prog:bf w a p
 ok:p.Ok
 ways:s.Ok
 aW:p.lets.length<=12
 row:gw<w.heap.size
 one:1<=ws.length
 cells:∀j,j<ws.length->w.cell? ⟨gw,j,none⟩=some (.string (bs (word ws j)))
 long:∀j,(word ws j).length<=maxLen
 wide:ws.length<=1099511627777
theorem iU.cell {p:RP}{a:Nat}{s:WS}{ws:List B}{gw:Nat}{w:World}(h:iU p a s ws gw w){wr:World}(hb:Below w.heap.size w wr)(j:Nat)(hj:j<ws.length):wr.cell? ⟨gw,j,none⟩=some (.string (bs (word ws j))):=
 (hb.cell (p:=⟨gw,j,none⟩) h.row).trans (h.cells j hj)
theorem ia {tmps:Array Value}{w wr:World}{t:WS}{b:Bool}{R:Ending->World->Prop}(hK:aB wr (w.heap.size+1) aI)(ht:t.Ok)(h6:tmps.getD 6 undef=.pointer (some ⟨w.heap.size+1,0,none⟩))(h7:tmps.getD 7 undef=.bool b)
  (h:R (.returned (.tuple #[t.val,.bool b])) (wr.setCells (w.heap.size+1) 0 t.cells)):bodyPost Tryz.prog Tryz.f84 R Exit.ret {tmps:=tmps,defers:=[]} (wr.setCells (w.heap.size+1) 0 t.cells):=by
 refine bodyPost_ret (eG Tryz.results84 tmps _ _ (w.heap.size+1) t.cells _ h6 (hK.store bF ht).range Tryz.underlying155 rfl (eD ht)) rfl ?_;rw[h7];exact h
set_option maxRecDepth 20000 in
set_option maxHeartbeats 2000000 in
theorem I4 (p:RP)(a:Nat)(s:WS)(ws:List B)(gw cw:Nat)(w:World)(H:iU p a s ws gw w)(hlen:2<=ws.length)(pG:0<=p.find (aj (word ws 1)))(h0:word ws 0=[115,101,116]\/word ws 0=[105,110]):
  Calls Tryz.prog 84 #[.pointer (some ⟨a,0,none⟩),.slice (some ⟨gw,0,none⟩) ws.length cw,s.val] w fun e w'=>e=.returned (.tuple #[(p.step ws s).1.val,.bool (p.step ws s).2])/\Below w.heap.size w w':=by
 have HR:Hid (p.step ws s=(p.now s (word ws 1) [119],true)):=by unfold Hid RP.step;rw[jb h0]
 have lx:=p.oy H.ways (word ws 1) (c:=[119]) (by simp);have la:(1:Int)<ws.length:=by omega
 have yW:=H.wide;rw[HR.out];unfold WS.val;rcases h0 with h0|h0
 all_goals
  go_enter Tryz.func84,Tryz.ntmps84
  go_upto_region 0 with fail
  go_cut [5,6,7] (fun v5 v6 v7 wc=>Kept w wc s/\v5=.pointer (some ⟨w.heap.size,0,none⟩)/\v6=.pointer (some ⟨w.heap.size+1,0,none⟩)/\v7=.bool false)
  case first=>
   go_wp2
   go_meet
   case rel=>exact⟨eg w s,rfl,rfl,rfl⟩
  case rest=>
   obtain⟨hK,rfl,rfl,rfl⟩:=hcut;have mZ:=H.cell hK.br 0 (by omega);rw[h0]at mZ;have kq:=H.cell hK.br 1 (by omega);have H0:Hid (_=_):=h0;clear h0;have cM:Kept w wc.drew s:=hK.below ((Below.refl _ _).drew);have hh:aU wc.drew w.heap.size:=⟨s,H.ways,cM.here⟩;have hv:=bu cM.here;have qy:=kC p a s (word ws 1) [119] wc.drew (H.prog.below cM.br) H.ok H.ways (H.long 1) (by simp) pG H.aW;unfold WS.val at qy;go_wp2_with fail
   go_region_law (go_simp;go_at_call 88;refine qy.mono ?_;rintro e w1 ⟨rfl,aw⟩;have UT:aU w1 (w.heap.size+1):=⟨aI,bF,(cM.below aw).zero⟩;have xT:dh (p.now s (word ws 1) [119]).cells.toArray:=⟨_,lx,rfl⟩)
   all_goals go_wp2_with fail
   all_goals exact ia (cM.below aw).zero lx rfl rfl ⟨rfl,az (cM.below aw).br (by omega) _ _⟩
end RefU
namespace RefV
open Go.RowKit Sq RefA RefO RefP RefQ RefR RefS RefT RefU Aux
attribute [local go_sem ↓] dd cH
set_option maxRecDepth 20000 in
set_option maxHeartbeats 4000000 in
theorem PO (p:RP)(a:Nat)(s:WS)(ws:List B)(gw cw:Nat)(w:World)(H:iU p a s ws gw w)(hlen:2<=ws.length)(pG:0<=p.find (aj (word ws 1)))(h0:word ws 0=[110,111,110,101]):
  Calls Tryz.prog 84 #[.pointer (some ⟨a,0,none⟩),.slice (some ⟨gw,0,none⟩) ws.length cw,s.val] w fun e w'=>e=.returned (.tuple #[(p.step ws s).1.val,.bool (p.step ws s).2])/\Below w.heap.size w w':=by
 have HR:Hid (p.step ws s=(p.now s (word ws 1) [110],true)):=by
  unfold Hid RP.step;simp[h0]
 have lx:=p.oy H.ways (word ws 1) (c:=[110]) (by simp);have mx:(1:Int)<ws.length:=by omega
 have yW:=H.wide;rw[HR.out];unfold WS.val
 skip
 all_goals
  go_enter Tryz.func84,Tryz.ntmps84
  go_upto_region 0 with fail
  go_cut [5,6,7] (fun v5 v6 v7 wc=>Kept w wc s/\v5=.pointer (some ⟨w.heap.size,0,none⟩)/\v6=.pointer (some ⟨w.heap.size+1,0,none⟩)/\v7=.bool false)
  case first=>
   go_wp2
   go_meet
   case rel=>exact⟨eg w s,rfl,rfl,rfl⟩
  case rest=>
   obtain⟨hK,rfl,rfl,rfl⟩:=hcut;have mZ:=H.cell hK.br 0 (by omega);rw[h0]at mZ;have kq:=H.cell hK.br 1 (by omega);have H0:Hid (_=_):=h0;clear h0;have cM:Kept w wc.drew s:=hK.below ((Below.refl _ _).drew);have hh:aU wc.drew w.heap.size:=⟨s,H.ways,cM.here⟩;have hv:=bu cM.here;have qy:=kC p a s (word ws 1) [110] wc.drew (H.prog.below cM.br) H.ok H.ways (H.long 1) (by simp) pG H.aW;unfold WS.val at qy;go_wp2_with fail
   go_region_law (go_simp;go_at_call 88;refine qy.mono ?_;rintro e w1 ⟨rfl,aw⟩;have UT:aU w1 (w.heap.size+1):=⟨aI,bF,(cM.below aw).zero⟩;have xT:dh (p.now s (word ws 1) [110]).cells.toArray:=⟨_,lx,rfl⟩)
   all_goals go_wp2_with fail
   all_goals exact ia (cM.below aw).zero lx rfl rfl ⟨rfl,az (cM.below aw).br (by omega) _ _⟩
set_option maxRecDepth 20000 in
set_option maxHeartbeats 4000000 in
theorem PN (p:RP)(a:Nat)(s:WS)(ws:List B)(gw cw:Nat)(w:World)(H:iU p a s ws gw w)(hlen:3<=ws.length)(pG:0<=p.find (aj (word ws 1)))(FD:0<=p.find (aj (word ws 2)))(h0:word ws 0=[108,111,97,100]):
  Calls Tryz.prog 84 #[.pointer (some ⟨a,0,none⟩),.slice (some ⟨gw,0,none⟩) ws.length cw,s.val] w fun e w'=>e=.returned (.tuple #[(p.step ws s).1.val,.bool (p.step ws s).2])/\Below w.heap.size w w':=by
 have HR:Hid (p.step ws s=(p.now s (word ws 1) [119],p.there s (word ws 2))):=by
  unfold Hid RP.step;simp[h0]
 have lx:=p.oy H.ways (word ws 1) (c:=[119]) (by simp);have mx:(1:Int)<ws.length:=by omega
 have GM:(2:Int)<ws.length:=by omega
 have yW:=H.wide;rw[HR.out];unfold WS.val
 skip
 all_goals
  go_enter Tryz.func84,Tryz.ntmps84
  go_upto_region 0 with fail
  go_cut [5,6,7] (fun v5 v6 v7 wc=>Kept w wc s/\v5=.pointer (some ⟨w.heap.size,0,none⟩)/\v6=.pointer (some ⟨w.heap.size+1,0,none⟩)/\v7=.bool false)
  case first=>
   go_wp2
   go_meet
   case rel=>exact⟨eg w s,rfl,rfl,rfl⟩
  case rest=>
   obtain⟨hK,rfl,rfl,rfl⟩:=hcut;have mZ:=H.cell hK.br 0 (by omega);rw[h0]at mZ;have kq:=H.cell hK.br 1 (by omega);have oa:=H.cell hK.br 2 (by omega);have H0:Hid (_=_):=h0;clear h0;go_upto_region 22 with fail
   go_cut [12] (fun v wc'=>Kept w wc' s/\v=.bool (p.there s (word ws 2)))
   case first=>
    have cM:Kept w wc.drew s:=hK.below ((Below.refl _ _).drew);have hh:aU wc.drew w.heap.size:=⟨s,H.ways,cM.here⟩;have hv:=bu cM.here;have HA:=iK p a s (word ws 2) wc.drew (H.prog.below cM.br) H.ok H.ways (H.long 2) FD H.aW;unfold WS.val at HA;go_region_law (go_simp;go_at_call 138;refine HA.mono ?_;rintro e w1 ⟨rfl,aw⟩)
    all_goals go_wp2_with fail
    all_goals
     go_meet
     case rel=>exact⟨cM.below aw,rfl⟩
   case rest=>
    obtain⟨AR,rfl⟩:=hcut
    replace kq:=H.cell AR.br 1 (by omega)
    have cM:Kept w wc.drew s:=AR.below ((Below.refl _ _).drew);have hh:aU wc.drew w.heap.size:=⟨s,H.ways,cM.here⟩;have hv:=bu cM.here;have qy:=kC p a s (word ws 1) [119] wc.drew (H.prog.below cM.br) H.ok H.ways (H.long 1) (by simp) pG H.aW;unfold WS.val at qy;go_wp2_with fail
    go_region_law (go_simp;go_at_call 88;refine qy.mono ?_;rintro e w1 ⟨rfl,aw⟩;have UT:aU w1 (w.heap.size+1):=⟨aI,bF,(cM.below aw).zero⟩;have xT:dh (p.now s (word ws 1) [119]).cells.toArray:=⟨_,lx,rfl⟩)
    all_goals go_wp2_with fail
    all_goals exact ia (cM.below aw).zero lx rfl rfl ⟨rfl,az (cM.below aw).br (by omega) _ _⟩
set_option maxRecDepth 20000 in
set_option maxHeartbeats 4000000 in
theorem step_drop (p:RP)(a:Nat)(s:WS)(ws:List B)(gw cw:Nat)(w:World)(H:iU p a s ws gw w)(hlen:2<=ws.length)(pG:0<=p.find (aj (word ws 1)))(h0:word ws 0=[100,114,111,112]):
  Calls Tryz.prog 84 #[.pointer (some ⟨a,0,none⟩),.slice (some ⟨gw,0,none⟩) ws.length cw,s.val] w fun e w'=>e=.returned (.tuple #[(p.step ws s).1.val,.bool (p.step ws s).2])/\Below w.heap.size w w':=by
 have HR:Hid (p.step ws s=(p.now s (word ws 1) (left (word ws 1)),cy p s (word ws 1))):=by
  unfold Hid RP.step;simp[h0]
 have sJ:(left (word ws 1)).length<=1000:=by unfold left;split<;>simp
 have lx:=p.oy H.ways (word ws 1) sJ;have mx:(1:Int)<ws.length:=by omega
 have yW:=H.wide;rw[HR.out];unfold WS.val
 skip
 all_goals
  go_enter Tryz.func84,Tryz.ntmps84
  go_upto_region 0 with fail
  go_cut [5,6,7] (fun v5 v6 v7 wc=>Kept w wc s/\v5=.pointer (some ⟨w.heap.size,0,none⟩)/\v6=.pointer (some ⟨w.heap.size+1,0,none⟩)/\v7=.bool false)
  case first=>
   go_wp2
   go_meet
   case rel=>exact⟨eg w s,rfl,rfl,rfl⟩
  case rest=>
   obtain⟨hK,rfl,rfl,rfl⟩:=hcut;have mZ:=H.cell hK.br 0 (by omega);rw[h0]at mZ;have kq:=H.cell hK.br 1 (by omega);have H0:Hid (_=_):=h0;clear h0;go_upto_region 31 with fail
   go_cut [15] (fun v wc'=>Kept w wc' s/\v=.bool (cy p s (word ws 1)))
   case first=>
    have cM:Kept w wc.drew s:=hK.below ((Below.refl _ _).drew);have hh:aU wc.drew w.heap.size:=⟨s,H.ways,cM.here⟩;have hv:=bu cM.here;have HA:=qf p a s (word ws 1) wc.drew (H.prog.below cM.br) H.ok H.ways (H.long 1) pG H.aW;unfold WS.val at HA;go_region_law (go_simp;go_at_call 139;refine HA.mono ?_;rintro e w1 ⟨rfl,aw⟩)
    all_goals go_wp2_with fail
    all_goals
     go_meet
     case rel=>exact⟨cM.below aw,rfl⟩
   case rest=>
    obtain⟨AR,rfl⟩:=hcut
    replace kq:=H.cell AR.br 1 (by omega)
    have cM:Kept w wc.drew s:=AR.below ((Below.refl _ _).drew);have hh:aU wc.drew w.heap.size:=⟨s,H.ways,cM.here⟩;have hv:=bu cM.here;have qy:=kC p a s (word ws 1) (left (word ws 1)) wc.drew (H.prog.below cM.br) H.ok H.ways (H.long 1) sJ pG H.aW;unfold WS.val at qy;go_wp2_with fail
    go_region_law (first
     |(go_simp;go_at_call 140;refine(zR _ _ (H.long 1)).mono ?_;rintro e w' ⟨rfl,rfl⟩)
     |(go_simp;go_at_call 88;refine qy.mono ?_;rintro e w1 ⟨rfl,aw⟩;have UT:aU w1 (w.heap.size+1):=⟨aI,bF,(cM.below aw).zero⟩;have xT:dh (p.now s (word ws 1) (left (word ws 1))).cells.toArray:=⟨_,lx,rfl⟩))
    all_goals go_wp2_with fail
    all_goals exact ia (cM.below aw).zero lx rfl rfl ⟨rfl,az (cM.below aw).br (by omega) _ _⟩
end RefV
namespace RefW
open Go.RowKit Sq RefA RefO RefP RefQ RefR RefS RefT RefU Aux
attribute [local go_sem ↓] dd cH
set_option maxRecDepth 20000 in
set_option maxHeartbeats 4000000 in
theorem xl (p:RP)(a:Nat)(s:WS)(ws:List B)(gw cw:Nat)(w:World)(H:iU p a s ws gw w)(hlen:2<=ws.length)(pG:0<=p.find (aj (word ws 1)))(h0:word ws 0=[111,117,116]\/word ws 0=[105,102]\/word ws 0=[101,110,100]\/word ws 0=[109,97,116,99,104]):
  Calls Tryz.prog 84 #[.pointer (some ⟨a,0,none⟩),.slice (some ⟨gw,0,none⟩) ws.length cw,s.val] w fun e w'=>e=.returned (.tuple #[(p.step ws s).1.val,.bool (p.step ws s).2])/\Below w.heap.size w w':=by
 have HR:Hid (p.step ws s=(s,p.there s (word ws 1))):=by
  unfold Hid RP.step;rcases h0 with h0|h0|h0|h0<;>simp[h0]
 have mx:(1:Int)<ws.length:=by omega
 have yW:=H.wide;rw[HR.out];unfold WS.val;rcases h0 with h0|h0|h0|h0
 all_goals
  go_enter Tryz.func84,Tryz.ntmps84
  go_upto_region 0 with fail
  go_cut [5,6,7] (fun v5 v6 v7 wc=>Kept w wc s/\v5=.pointer (some ⟨w.heap.size,0,none⟩)/\v6=.pointer (some ⟨w.heap.size+1,0,none⟩)/\v7=.bool false)
  case first=>
   go_wp2
   go_meet
   case rel=>exact⟨eg w s,rfl,rfl,rfl⟩
  case rest=>
   obtain⟨hK,rfl,rfl,rfl⟩:=hcut;have mZ:=H.cell hK.br 0 (by omega);rw[h0]at mZ;have kq:=H.cell hK.br 1 (by omega);have H0:Hid (_=_):=h0;clear h0;have cM:Kept w wc.drew s:=hK.below ((Below.refl _ _).drew);have hh:aU wc.drew w.heap.size:=⟨s,H.ways,cM.here⟩;have hv:=bu cM.here;have xT:dh s.cells.toArray:=⟨s,H.ways,rfl⟩;have HA:=iK p a s (word ws 1) wc.drew (H.prog.below cM.br) H.ok H.ways (H.long 1) pG H.aW;unfold WS.val at HA;go_wp2_with fail
   go_region_law (go_simp;go_at_call 138;refine HA.mono ?_;rintro e w1 ⟨rfl,aw⟩;have UT:aU w1 (w.heap.size+1):=⟨aI,bF,(cM.below aw).zero⟩;have hh2:aU w1 w.heap.size:=⟨s,H.ways,(cM.below aw).here⟩;have YY:=bu (cM.below aw).here)
   all_goals go_wp2_with fail
   all_goals exact ia (cM.below aw).zero H.ways rfl rfl ⟨rfl,az (cM.below aw).br (by omega) _ _⟩
end RefW
namespace RefX
open Go.RowKit Sq RefA RefO RefP RefQ RefR RefS RefT RefU Aux
attribute [local go_sem ↓] dd cH
set_option maxRecDepth 20000 in
set_option maxHeartbeats 4000000 in
theorem L7 (p:RP)(a:Nat)(s:WS)(ws:List B)(gw cw:Nat)(w:World)(H:iU p a s ws gw w)(hlen:3<=ws.length)(pG:0<=p.find (aj (word ws 1)))(FD:0<=p.find (aj (word ws 2)))(h0:word ws 0=[115,116,111,114,101]):
  Calls Tryz.prog 84 #[.pointer (some ⟨a,0,none⟩),.slice (some ⟨gw,0,none⟩) ws.length cw,s.val] w fun e w'=>e=.returned (.tuple #[(p.step ws s).1.val,.bool (p.step ws s).2])/\Below w.heap.size w w':=by
 have HR:Hid (p.step ws s=(s,p.there s (word ws 1)&&p.there s (word ws 2))):=by
  unfold Hid RP.step;simp[h0]
 have mx:(1:Int)<ws.length:=by omega
 have GM:(2:Int)<ws.length:=by omega
 have yW:=H.wide;rw[HR.out];unfold WS.val
 skip
 all_goals
  go_enter Tryz.func84,Tryz.ntmps84
  go_upto_region 0 with fail
  go_cut [5,6,7] (fun v5 v6 v7 wc=>Kept w wc s/\v5=.pointer (some ⟨w.heap.size,0,none⟩)/\v6=.pointer (some ⟨w.heap.size+1,0,none⟩)/\v7=.bool false)
  case first=>
   go_wp2
   go_meet
   case rel=>exact⟨eg w s,rfl,rfl,rfl⟩
  case rest=>
   obtain⟨hK,rfl,rfl,rfl⟩:=hcut;have mZ:=H.cell hK.br 0 (by omega);rw[h0]at mZ;have kq:=H.cell hK.br 1 (by omega);have oa:=H.cell hK.br 2 (by omega);have H0:Hid (_=_):=h0;clear h0;go_upto_region 25 with fail
   go_cut [13] (fun v wc'=>Kept w wc' s/\v=.bool (p.there s (word ws 1)))
   case first=>
    have cM:Kept w wc.drew s:=hK.below ((Below.refl _ _).drew);have hh:aU wc.drew w.heap.size:=⟨s,H.ways,cM.here⟩;have hv:=bu cM.here;have HA:=iK p a s (word ws 1) wc.drew (H.prog.below cM.br) H.ok H.ways (H.long 1) pG H.aW;unfold WS.val at HA;go_region_law (go_simp;go_at_call 138;refine HA.mono ?_;rintro e w1 ⟨rfl,aw⟩)
    all_goals go_wp2_with fail
    all_goals
     go_meet
     case rel=>exact⟨cM.below aw,rfl⟩
   case rest=>
    obtain⟨AR,rfl⟩:=hcut
    replace oa:=H.cell AR.br 2 (by omega)
    clear hK;go_upto_region 26 with fail
    go_cut [14] (fun v wc'=>Kept w wc' s/\v=.bool (p.there s (word ws 2)))
    case first=>
     have cM:Kept w wc.drew s:=AR.below ((Below.refl _ _).drew);have hh:aU wc.drew w.heap.size:=⟨s,H.ways,cM.here⟩;have hv:=bu cM.here;have HA:=iK p a s (word ws 2) wc.drew (H.prog.below cM.br) H.ok H.ways (H.long 2) FD H.aW;unfold WS.val at HA;go_region_law (go_simp;go_at_call 138;refine HA.mono ?_;rintro e w1 ⟨rfl,aw⟩)
     all_goals go_wp2_with fail
     all_goals
      go_meet
      case rel=>exact⟨cM.below aw,rfl⟩
    case rest=>
     obtain⟨J8,rfl⟩:=hcut;have xT:dh s.cells.toArray:=⟨s,H.ways,rfl⟩;have hh:aU wc w.heap.size:=⟨s,H.ways,J8.here⟩;have hz:aU wc (w.heap.size+1):=⟨aI,bF,J8.zero⟩;have hv:=bu J8.here;cases hb:p.there s (word ws 1)
     all_goals
      go_wp2
      all_goals exact ia J8.zero H.ways rfl rfl ⟨by rw[hb];rfl,az J8.br (by omega) _ _⟩
end RefX
namespace RefY
open Go.RowKit Sq RefA RefO RefP RefQ RefR RefS RefT RefU Aux
attribute [local go_sem ↓] dd cH
set_option maxRecDepth 20000 in
set_option maxHeartbeats 4000000 in
theorem BP (p:RP)(a:Nat)(s:WS)(ws:List B)(gw cw:Nat)(w:World)(H:iU p a s ws gw w)(pG:0<=p.find (aj (word ws 1)))(FD:0<=p.find (aj (word ws 2)))(h0:word ws 0=[109,111,118,101]\/word ws 0=[115,111,109,101])(Kl:ws.length=3)(ht3:(RP.cK p ws s).1.Ok):
  Calls Tryz.prog 84 #[.pointer (some ⟨a,0,none⟩),.slice (some ⟨gw,0,none⟩) ws.length cw,s.val] w fun e w'=>e=.returned (.tuple #[(p.step ws s).1.val,.bool (p.step ws s).2])/\Below w.heap.size w w':=by
 have HR:Hid (p.step ws s=((RP.cK p ws s).1,(RP.cK p ws s).2)):=by
  unfold Hid RP.step;rcases h0 with h0|h0<;>simp[h0]
 have mx:(1:Int)<ws.length:=by omega
 have GM:(2:Int)<ws.length:=by omega
 have yW:=H.wide;rw[HR.out];unfold WS.val;rw[Kl];rcases h0 with h0|h0
 all_goals
  go_enter Tryz.func84,Tryz.ntmps84
  go_upto_region 0 with fail
  go_cut [5,6,7] (fun v5 v6 v7 wc=>Kept w wc s/\v5=.pointer (some ⟨w.heap.size,0,none⟩)/\v6=.pointer (some ⟨w.heap.size+1,0,none⟩)/\v7=.bool false)
  case first=>
   go_wp2
   go_meet
   case rel=>exact⟨eg w s,rfl,rfl,rfl⟩
  case rest=>
   obtain⟨hK,rfl,rfl,rfl⟩:=hcut;have mZ:=H.cell hK.br 0 (by omega);rw[h0]at mZ;have kq:=H.cell hK.br 1 (by omega);have oa:=H.cell hK.br 2 (by omega);have H0:Hid (_=_):=h0;clear h0;have xT:dh (RP.cK p ws s).1.cells.toArray:=⟨_,ht3,rfl⟩;have hh:aU wc w.heap.size:=⟨s,H.ways,hK.here⟩;have hv:=bu hK.here;have HA:=PX p a s ws gw cw wc (H.prog.below hK.br) H.ok H.ways H.aW (jK H.row hK.br.size) (fun j hj=>H.cell hK.br j (by omega)) H.long pG FD;unfold WS.val at HA;go_wp2_with (go_at_call 141;refine HA.mono ?_;rintro e w1 ⟨rfl,aw⟩;have hz:aU w1 (w.heap.size+1):=⟨aI,bF,(hK.below aw).zero⟩)
   exact ia (hK.below aw).zero ht3 rfl rfl ⟨rfl,az (hK.below aw).br (by omega) _ _⟩
end RefY
namespace RefZ
open Go.RowKit Sq RefA RefO RefP RefQ RefR RefS RefT RefU Aux
attribute [local go_sem ↓] dd cH
attribute [local go_sem ↓] qe oA
attribute [local go_sem] iH gx lM lS iJ
set_option maxRecDepth 20000 in
set_option maxHeartbeats 4000000 in
theorem Ts (p:RP)(a:Nat)(s:WS)(ws:List B)(gw cw:Nat)(w:World)(H:iU p a s ws gw w)(hlen:3<=ws.length)(pG:0<=p.find (aj (word ws 1)))(FD:0<=p.find (aj (word ws 2)))(h0:word ws 0=[110,101,119]):
  Calls Tryz.prog 84 #[.pointer (some ⟨a,0,none⟩),.slice (some ⟨gw,0,none⟩) ws.length cw,s.val] w fun e w'=>e=.returned (.tuple #[(p.step ws s).1.val,.bool (p.step ws s).2])/\Below w.heap.size w w':=by
 have HR:Hid (p.step ws s=(p.now s (word ws 1) [119],p.there s (word ws 2)&&cy p s (word ws 1))):=by
  unfold Hid RP.step;simp[h0]
 have lx:=p.oy H.ways (word ws 1) (c:=[119]) (by simp);have mx:(1:Int)<ws.length:=by omega
 have GM:(2:Int)<ws.length:=by omega
 have yW:=H.wide;rw[HR.out];unfold WS.val
 skip
 all_goals
  go_enter Tryz.func84,Tryz.ntmps84
  go_upto_region 0 with fail
  go_cut [5,6,7] (fun v5 v6 v7 wc=>Kept w wc s/\v5=.pointer (some ⟨w.heap.size,0,none⟩)/\v6=.pointer (some ⟨w.heap.size+1,0,none⟩)/\v7=.bool false)
  case first=>
   go_wp2
   go_meet
   case rel=>exact⟨eg w s,rfl,rfl,rfl⟩
  case rest=>
   obtain⟨hK,rfl,rfl,rfl⟩:=hcut;have mZ:=H.cell hK.br 0 (by omega);rw[h0]at mZ;have kq:=H.cell hK.br 1 (by omega);have oa:=H.cell hK.br 2 (by omega);have H0:Hid (_=_):=h0;clear h0;go_upto_region 18 with fail
   go_cut [10] (fun v wc'=>Kept w wc' s/\v=.bool (p.there s (word ws 2)))
   case first=>
    have cM:Kept w wc.drew s:=hK.below ((Below.refl _ _).drew);have hh:aU wc.drew w.heap.size:=⟨s,H.ways,cM.here⟩;have hv:=bu cM.here;have HA:=iK p a s (word ws 2) wc.drew (H.prog.below cM.br) H.ok H.ways (H.long 2) FD H.aW;unfold WS.val at HA;go_region_law (go_simp;go_at_call 138;refine HA.mono ?_;rintro e w1 ⟨rfl,aw⟩)
    all_goals go_wp2_with fail
    all_goals
     go_meet
     case rel=>exact⟨cM.below aw,rfl⟩
   case rest=>
    obtain⟨AR,rfl⟩:=hcut
    replace kq:=H.cell AR.br 1 (by omega)
    clear hK;go_upto_region 19 with fail
    go_cut [11] (fun v wc'=>Kept w wc' s/\v=.bool (cy p s (word ws 1)))
    case first=>
     have cM:Kept w wc.drew s:=AR.below ((Below.refl _ _).drew);have hh:aU wc.drew w.heap.size:=⟨s,H.ways,cM.here⟩;have hv:=bu cM.here;have HA:=qf p a s (word ws 1) wc.drew (H.prog.below cM.br) H.ok H.ways (H.long 1) pG H.aW;unfold WS.val at HA;go_region_law (go_simp;go_at_call 139;refine HA.mono ?_;rintro e w1 ⟨rfl,aw⟩)
     all_goals go_wp2_with fail
     all_goals
      go_meet
      case rel=>exact⟨cM.below aw,rfl⟩
    case rest=>
     obtain⟨J8,rfl⟩:=hcut
     replace kq:=H.cell J8.br 1 (by omega)
     clear AR;have cM:Kept w wc.drew s:=J8.below ((Below.refl _ _).drew);have hh:aU wc.drew w.heap.size:=⟨s,H.ways,cM.here⟩;have hv:=bu cM.here;have qy:=kC p a s (word ws 1) [119] wc.drew (H.prog.below cM.br) H.ok H.ways (H.long 1) (by simp) pG H.aW;unfold WS.val at qy;cases hb:p.there s (word ws 2)
     all_goals
      have HB:Hid (_=_):=hb;clear hb;go_wp2_with fail
      first|go_region_with (go_at_call 88;refine qy.mono ?_;rintro e w1 ⟨rfl,aw⟩;have UT:aU w1 (w.heap.size+1):=⟨aI,bF,(cM.below aw).zero⟩;have xT:dh (p.now s (word ws 1) [119]).cells.toArray:=⟨_,lx,rfl⟩)|skip
      all_goals go_wp2_with fail
      all_goals exact ia (cM.below aw).zero lx rfl rfl ⟨by rw[HB.out];rfl,az (cM.below aw).br (by omega) _ _⟩
end RefZ
end Go.Proofs.YtmlgajhhnojdjaaGreatDoor

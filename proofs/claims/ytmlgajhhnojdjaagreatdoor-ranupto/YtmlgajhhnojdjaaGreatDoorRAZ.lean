import Derived.Test.YtmlgajhhnojdjaaGreatDoorRAY
namespace Go.Proofs.YtmlgajhhnojdjaaGreatDoor
namespace RefZa
open Go.RowKit Sq RefA RefO RefP RefQ RefR RefS RefT RefU Aux
attribute [local go_sem ↓] dd cH
attribute [local go_sem ↓] qe oA
attribute [local go_sem] iH gx lM lS iJ
set_option maxRecDepth 20000 in
set_option maxHeartbeats 4000000 in
theorem p9 (p:RP)(a:Nat)(s:WS)(ws:List B)(gw cw:Nat)(w:World)(H:iU p a s ws gw w)(hlen:4<=ws.length)(pG:0<=p.find (aj (word ws 1)))(FD:0<=p.find (aj (word ws 2)))(hf3:0<=p.find (aj (word ws 3)))(h0:word ws 0=[97,100,100]\/word ws 0=[115,117,98]\/word ws 0=[109,117,108]\/word ws 0=[100,105,118]):
  Calls Tryz.prog 84 #[.pointer (some ⟨a,0,none⟩),.slice (some ⟨gw,0,none⟩) ws.length cw,s.val] w fun e w'=>e=.returned (.tuple #[(p.step ws s).1.val,.bool (p.step ws s).2])/\Below w.heap.size w w':=by
 have HR:Hid (p.step ws s=(p.now s (word ws 1) [119],p.there s (word ws 2)&&p.there s (word ws 3))):=by
  unfold Hid RP.step;rcases h0 with h0|h0|h0|h0<;>simp[h0]
 have lx:=p.oy H.ways (word ws 1) (c:=[119]) (by simp);have mx:(1:Int)<ws.length:=by omega
 have GM:(2:Int)<ws.length:=by omega
 have hln3:(3:Int)<ws.length:=by omega
 have yW:=H.wide;rw[HR.out];unfold WS.val;rcases h0 with h0|h0|h0|h0
 all_goals
  go_enter Tryz.func84,Tryz.ntmps84
  go_upto_region 0 with fail
  go_cut [5,6,7] (fun v5 v6 v7 wc=>Kept w wc s/\v5=.pointer (some ⟨w.heap.size,0,none⟩)/\v6=.pointer (some ⟨w.heap.size+1,0,none⟩)/\v7=.bool false)
  case first=>
   go_wp2
   go_meet
   case rel=>exact⟨eg w s,rfl,rfl,rfl⟩
  case rest=>
   obtain⟨hK,rfl,rfl,rfl⟩:=hcut;have mZ:=H.cell hK.br 0 (by omega);rw[h0]at mZ;have kq:=H.cell hK.br 1 (by omega);have oa:=H.cell hK.br 2 (by omega);have hc3:=H.cell hK.br 3 (by omega);have H0:Hid (_=_):=h0;clear h0;go_upto_region 9 with fail
   go_cut [8] (fun v wc'=>Kept w wc' s/\v=.bool (p.there s (word ws 2)))
   case first=>
    have cM:Kept w wc.drew s:=hK.below ((Below.refl _ _).drew);have hh:aU wc.drew w.heap.size:=⟨s,H.ways,cM.here⟩;have hv:=bu cM.here;have HA:=iK p a s (word ws 2) wc.drew (H.prog.below cM.br) H.ok H.ways (H.long 2) FD H.aW;unfold WS.val at HA;go_region_law (go_simp;go_at_call 138;refine HA.mono ?_;rintro e w1 ⟨rfl,aw⟩)
    all_goals go_wp2_with fail
    all_goals
     go_meet
     case rel=>exact⟨cM.below aw,rfl⟩
   case rest=>
    obtain⟨AR,rfl⟩:=hcut
    replace kq:=H.cell AR.br 1 (by omega)
    replace hc3:=H.cell AR.br 3 (by omega)
    clear hK;go_upto_region 10 with fail
    go_cut [9] (fun v wc'=>Kept w wc' s/\v=.bool (p.there s (word ws 3)))
    case first=>
     have cM:Kept w wc.drew s:=AR.below ((Below.refl _ _).drew);have hh:aU wc.drew w.heap.size:=⟨s,H.ways,cM.here⟩;have hv:=bu cM.here;have HA:=iK p a s (word ws 3) wc.drew (H.prog.below cM.br) H.ok H.ways (H.long 3) hf3 H.aW;unfold WS.val at HA;go_region_law (go_simp;go_at_call 138;refine HA.mono ?_;rintro e w1 ⟨rfl,aw⟩)
     all_goals go_wp2_with fail
     all_goals
      go_meet
      case rel=>exact⟨cM.below aw,rfl⟩
    case rest=>
     obtain⟨J8,rfl⟩:=hcut
     replace kq:=H.cell J8.br 1 (by omega)
     clear AR;have cM:Kept w wc.drew s:=J8.below ((Below.refl _ _).drew);have hh:aU wc.drew w.heap.size:=⟨s,H.ways,cM.here⟩;have hv:=bu cM.here;have qy:=kC p a s (word ws 1) [119] wc.drew (H.prog.below cM.br) H.ok H.ways (H.long 1) (by simp) pG H.aW;unfold WS.val at qy;cases hb:p.there s (word ws 2)
     all_goals
      have HB:Hid (_=_):=hb;clear hb;go_wp2_with fail
      first|go_region_with (go_at_call 88;refine qy.mono ?_;rintro e w1 ⟨rfl,aw⟩;have UT:aU w1 (w.heap.size+1):=⟨aI,bF,(cM.below aw).zero⟩;have xT:dh (p.now s (word ws 1) [119]).cells.toArray:=⟨_,lx,rfl⟩)|skip
      all_goals go_wp2_with fail
      all_goals exact ia (cM.below aw).zero lx rfl rfl ⟨by rw[HB.out];rfl,az (cM.below aw).br (by omega) _ _⟩
end RefZa
end Go.Proofs.YtmlgajhhnojdjaaGreatDoor

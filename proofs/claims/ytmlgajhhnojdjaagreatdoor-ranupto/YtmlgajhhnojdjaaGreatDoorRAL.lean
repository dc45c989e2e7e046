import Derived.Test.YtmlgajhhnojdjaaGreatDoorRAK
import Derived.Deep.RegionHeld3
namespace Go.Proofs.YtmlgajhhnojdjaaGreatDoor
namespace RefT
open Go.RowKit Sq RefA RefC RefG RefH RefO RefP RefQ RefR RefS Aux
attribute [local go_sem ↓] dc cG
structure Kept (w:World)(wr:World)(s:WS):Prop where
 here:aA wr w.heap.size s
 zero:aA wr (w.heap.size+1) aH
 bq:Below w.heap.size w wr
theorem Kept.below {w wr w':World}{s:WS}(h:Kept w wr s)(hb:Below wr.heap.size wr w'):Kept w w' s:=⟨h.here.below hb,h.zero.below hb,h.bq.trans (hb.mono h.bq.size)⟩
theorem Kept.drewN {w wr:World}{s:WS}(h:Kept w wr s)(n:Nat):Kept w (wr.drewN n) s:=h.below (below_drewN (Below.refl _ _) n)
theorem Kept.store {w wr:World}{s t:WS}(h:Kept w wr s)(hs:s.Ok)(ht:t.Ok):Kept w (wr.setCells w.heap.size 0 t.cells) t:=
 ⟨h.here.store hs ht,h.zero.other (by omega) _ _,ay h.bq (jC _) _ _⟩
theorem ef (w:World)(s:WS):Kept w ((w.alloc (.cells s.cells.toArray 155)).alloc (.cells aH.cells.toArray 155)) s:=
 ⟨(aA.new w s).below (bF _ _),by simpa using aA.new (w.alloc (.cells s.cells.toArray 155)) aH,((Below.refl _ _).alloc (jC _) _).alloc (by simp) _⟩
def RP.taken (p:RP)(s:WS)(ws:List B):WS:=p.now (p.now s (word ws 2) (left (word ws 2))) (word ws 1) [119]
def RP.cJ (p:RP)(ws:List B)(s:WS):WS×Bool:=
 (if word ws 0=[109,111,118,101]/\p.typeOf (word ws 1)=[111,112,116]then p.now (RP.taken p s ws) (word ws 1) (s.at (p.aj (word ws 2)).1)else RP.taken p s ws,
  p.there s (word ws 2)&&(cx p (p.now s (word ws 2) (left (word ws 2))) (word ws 1)||(word ws 0==[115,111,109,101])))
set_option maxRecDepth 20000 in
set_option maxHeartbeats 4000000 in
theorem PW (p:RP)(a:Nat)(s:WS)(ws:List B)(gw cw:Nat)(w:World)(hp:bd w a p)(cd:p.Ok)(hs:s.Ok)(cf:p.lets.length<=12)
  (UR:gw<w.heap.size) (hws:∀j,j<3->w.cell? ⟨gw,j,none⟩=some (.string (bs (word ws j)))) (hl:∀j,(word ws j).length<=maxLen)
  (pF:0<=p.find (ai (word ws 1))) (FC:0<=p.find (ai (word ws 2))):
  Calls Tryz.prog 141 #[.pointer (some ⟨a,0,none⟩),.slice (some ⟨gw,0,none⟩) 3 cw,s.val] w fun e w'=>e=.returned (.tuple #[(RP.cJ p ws s).1.val,.bool (RP.cJ p ws s).2])/\Below w.heap.size w w':=by
 have HC:Hid (∀j wr,j<3->Below w.heap.size w wr->wr.cell? ⟨gw,j,none⟩=some (.string (bs (word ws j)))):=fun j wr hj hb=>(hb.cell (p:=⟨gw,j,none⟩) UR).trans (hws j hj)
 obtain⟨j2,XH,hjl2,_⟩:=RP.ez FC;obtain⟨hb21,hb22⟩:=RP.gq XH;have Zk:(p.aj (word ws 2)).1<24:=by omega
 have HRES:Hid (RP.cJ p ws s=_):=rfl;have sI:(left (word ws 2)).length<=1000:=by unfold left;split<;>simp
 have lv:=p.ox hs (word ws 2) sI;have B9:=p.ox lv (word ws 1) (c:=[119]) (by simp);have hwas:=hs.fc (p.aj (word ws 2)).1;have XW:=p.ox B9 (word ws 1) hwas;clear hws XH hb21 hb22 hjl2;unfold WS.val;go_enter Tryz.func141,Tryz.ntmps141
 go_upto_region 0 with fail
 go_cut [5,6,7] (fun v5 v6 v7 wc=>Kept w wc s/\v5=.pointer (some ⟨w.heap.size,0,none⟩)/\v6=.pointer (some ⟨w.heap.size+1,0,none⟩)/\v7=.bool false)
 case first=>
  go_wp2
  go_meet
  case rel=>exact⟨ef w s,rfl,rfl,rfl⟩
 case rest=>
  obtain⟨hK,rfl,rfl,rfl⟩:=hcut;go_upto_region 1 with fail
  go_cut [8] (fun v wc=>Kept w wc s/\v=.bool (p.there s (word ws 2)))
  case first=>
   have mZ:=HC.out 2 _ (by omega) hK.bq;have cL:Kept w wc.drew s:=hK.below ((Below.refl _ _).drew);have hh:aT wc.drew w.heap.size:=⟨s,hs,cL.here⟩;have hv:=bt cL.here;have HTh:=iJ p a s (word ws 2) wc.drew (hp.below cL.bq) cd hs (hl 2) FC cf;unfold WS.val at HTh;go_region_law (go_simp;go_at_call 138;refine HTh.mono ?_;rintro e w1 ⟨rfl,av⟩)
   all_goals go_wp2_with fail
   all_goals
    go_meet
    case rel=>exact⟨cL.below av,rfl⟩
  case rest=>
   obtain⟨AQ,rfl⟩:=hcut;clear hK;have mZ:=HC.out 2 _ (by omega) AQ.bq;have Qe:=ku p a (word ws 2) _ (hp.below AQ.bq) cd (hl 2) FC;have TW:=AQ.here.cell hs _ Zk;have zl:((p.aj (word ws 2)).1:Int)<24:=by omega
   go_upto_region 4 with(go_at_call 143;refine Qe.mono ?_;rintro e w' ⟨rfl,n2,rfl⟩)
   have J7:=AQ.drewN n2;clear TW mZ Qe AQ;generalize hW:World.drewN _ n2=W at*;clear hW;generalize hs1':p.now s (word ws 2) (left (word ws 2))=s1 at*;have HS1:Hid (_=_):=hs1';go_cut [] (fun wc'=>Kept w wc' s1)
   case first=>
    have cL:Kept w W.drew s:=J7.below ((Below.refl _ _).drew);have mZ:=HC.out 2 _ (by omega) J7.bq;have hh:aT W.drew w.heap.size:=⟨s,hs,cL.here⟩;have hv:=bt cL.here;have qx:=kB p a s (word ws 2) (left (word ws 2)) W.drew (hp.below cL.bq) cd hs (hl 2) sI FC cf;rw[hs1']at qx;unfold WS.val at qx;clear hs1';go_region_law (first
     |(go_simp;go_at_call 140;refine(zQ _ _ (hl 2)).mono ?_;rintro e w' ⟨rfl,rfl⟩)
     |(go_simp;go_at_call 88;refine qx.mono ?_;rintro e w1 ⟨rfl,av⟩;have US:aT w1 w.heap.size:=⟨s,hs,(cL.below av).here⟩;have xS:df s1.cells.toArray:=⟨s1,lv,rfl⟩))
    all_goals go_wp2_with fail
    all_goals
     go_meet
     case rel=>exact(cL.below av).store hs lv
   case rest=>
    rename_i hcutOld;have hK3:=hcut;clear hcut J7;go_upto_region 5 with fail
    go_cut [12] (fun v wc=>Kept w wc s1/\v=.bool (cx p s1 (word ws 1)))
    case first=>
     have ko:=HC.out 1 _ (by omega) hK3.bq;have cL:=hK3.below ((Below.refl _ _).drew);have hh:aT wc.drew w.heap.size:=⟨s1,lv,cL.here⟩;have hv:=bt cL.here;have HWr:=qe p a s1 (word ws 1) wc.drew (hp.below cL.bq) cd lv (hl 1) pF cf;unfold WS.val at HWr;go_region_law (go_simp;go_at_call 139;refine HWr.mono ?_;rintro e w1 ⟨rfl,av⟩)
     all_goals go_wp2_with fail
     all_goals
      go_meet
      case rel=>exact⟨cL.below av,rfl⟩
    case rest=>
     obtain⟨hK4,rfl⟩:=hcut;clear hK3;have ko:=HC.out 1 _ (by omega) hK4.bq;have HT:=iA p a (word ws 1) _ (hp.below hK4.bq) cd (hl 1) pF;go_upto_region 7 with(go_at_call 113;refine HT.mono ?_;rintro e w' ⟨rfl,n3,rfl⟩)
     have hK5:=hK4.drewN n3;clear ko HT hK4;generalize AS:World.drewN _ n3=W2 at*;clear AS;generalize RN:p.now s1 (word ws 1) [119]=s2 at*;have HS2:Hid (_=_):=RN;go_cut [] (fun wc'=>Kept w wc' s2)
     case first=>
      have cL:=hK5.below ((Below.refl _ _).drew);have ko:=HC.out 1 _ (by omega) hK5.bq;have hh:aT W2.drew w.heap.size:=⟨s1,lv,cL.here⟩;have hv:=bt cL.here;have qx:=kB p a s1 (word ws 1) [119] W2.drew (hp.below cL.bq) cd lv (hl 1) (by simp) pF cf;rw[RN]at qx;unfold WS.val at qx;clear RN;go_region_law (go_simp;go_at_call 88;refine qx.mono ?_;rintro e w1 ⟨rfl,av⟩;have US:aT w1 w.heap.size:=⟨s1,lv,(cL.below av).here⟩;have xS:df s2.cells.toArray:=⟨s2,B9,rfl⟩)
      all_goals go_wp2_with fail
      all_goals
       go_meet
       case rel=>exact(cL.below av).store lv B9
     case rest=>
      have hK6:=hcut;clear hcut hK5;have mY:=HC.out 0 _ (by omega) hK6.bq;go_upto_region 8 with fail
      go_cut [66] (fun v wc'=>Kept w wc' s2/\v=.bool ((word ws 0==[109,111,118,101])&&(p.typeOf (word ws 1)==[111,112,116])))
      case first=>
       go_wp2
       all_goals
        go_meet
        case rel=>exact⟨hK6,by simp[*]⟩
      case rest=>
       obtain⟨hK7,rfl⟩:=hcut;clear hK6 mY;have Zd:Hid ((RP.cJ p ws s).1=if((word ws 0==[109,111,118,101])&&(p.typeOf (word ws 1)==[111,112,116]))=true then p.now s2 (word ws 1) (s.at (p.aj (word ws 2)).1)else s2):=by
        unfold Hid RP.cJ RP.taken;rw[HS1.out,HS2.out];simp only[Bool.and_eq_true,beq_iff_eq]
       have HX2:Hid ((RP.cJ p ws s).2=(p.there s (word ws 2)&&(cx p s1 (word ws 1)||(word ws 0==[115,111,109,101])))):=by
        unfold Hid RP.cJ;rw[HS1.out]
       generalize ((word ws 0==[109,111,118,101])&&(p.typeOf (word ws 1)==[111,112,116]))=bb at*;have HOK3:Hid ((RP.cJ p ws s).1.Ok):=by unfold Hid;rw[Zd.out];split;exact XW;exact B9
       clear HRES HS1 HS2 hs1' RN;go_upto_if 66 with fail
       go_cut [] (fun wc'=>Kept w wc' (RP.cJ p ws s).1)
       case first=>
        cases bb
        ·have HX3:Hid ((RP.cJ p ws s).1=s2):=by unfold Hid;rw[Zd.out,ja (by decide)]
         go_wp2
         go_meet
         case rel=>rw[HX3.out];exact hK7
        ·have HX3:Hid ((RP.cJ p ws s).1=p.now s2 (word ws 1) (s.at (p.aj (word ws 2)).1)):=by unfold Hid;rw[Zd.out,jb rfl]
         generalize hs3':p.now s2 (word ws 1) (s.at (p.aj (word ws 2)).1)=s3 at*;have ko:=HC.out 1 _ (by omega) hK7.bq;have cL:=hK7.below ((Below.refl _ _).drew);have hh:aT wc.drew w.heap.size:=⟨s2,B9,cL.here⟩;have hv:=bt cL.here;have qx:=kB p a s2 (word ws 1) (s.at (p.aj (word ws 2)).1) wc.drew (hp.below cL.bq) cd B9 (hl 1) hwas pF cf;rw[hs3']at qx;unfold WS.val at qx;clear hs3' Zd;go_wp2_with fail
         go_region_law (go_simp;go_at_call 88;refine qx.mono ?_;rintro e w1 ⟨rfl,av⟩;have US:aT w1 w.heap.size:=⟨s2,B9,(cL.below av).here⟩;have xS:df s3.cells.toArray:=⟨s3,XW,rfl⟩)
         all_goals go_wp2_with fail
         all_goals
          go_meet
          case rel=>rw[HX3.out];exact(cL.below av).store B9 XW
       case rest=>
        have hK8:=hcut;clear hcut hK7 Zd;have UA:=HOK3.out;have mY:=HC.out 0 _ (by omega) hK8.bq;have cL:=hK8.below ((Below.refl _ _).drew);have hh:aT wc.drew w.heap.size:=⟨(RP.cJ p ws s).1,UA,cL.here⟩;have hz:aT wc.drew (w.heap.size+1):=⟨aH,bE,cL.zero⟩;have hv:=bt cL.here;have xS:df (RP.cJ p ws s).1.cells.toArray:=⟨(RP.cJ p ws s).1,UA,rfl⟩;have hc0':(wc.drew.setCells (w.heap.size+1) 0 (RP.cJ p ws s).1.cells).cell? ⟨gw,0,none⟩=some (.string (bs (word ws 0))):=by
         rw[World.cell?_setCells_out _ _ _ _ _ (fun e _=>by simp at e;omega)];exact mY
        cases hthere:p.there s (word ws 2)<;>cases YY:cx p s1 (word ws 1)
        all_goals
         rw[hthere,YY]at HX2;clear hthere YY;go_wp2_with fail
         go_region
         all_goals go_wp2_with fail
         all_goals
          refine bodyPost_ret (eF Tryz.results141 _ _ _ (w.heap.size+1) (RP.cJ p ws s).1.cells _ rfl (cL.zero.store bE UA).range Tryz.underlying155 rfl (eC UA)) rfl ⟨?_,ay cL.bq (by omega) _ _⟩;rw[HX2.out];rfl
end RefT
end Go.Proofs.YtmlgajhhnojdjaaGreatDoor

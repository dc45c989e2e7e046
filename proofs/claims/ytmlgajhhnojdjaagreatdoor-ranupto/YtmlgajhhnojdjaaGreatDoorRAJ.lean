import Derived.Test.YtmlgajhhnojdjaaGreatDoorRAF
namespace Go.Proofs.YtmlgajhhnojdjaaGreatDoor
namespace RefR
open Go.RowKit Sq RefA RefC RefG RefH RefO RefP Aux
theorem Ot:(Tryz.prog.info? 155).map (·.size)=some 25:=by kernel_rfl
theorem eC {s:WS}(h:s.Ok):(Tryz.prog.info? 155).map (·.size)=some s.cells.length:=by rw[WS.cS h];exact Ot
theorem ou {s:WS}(h:s.Ok):(Tryz.prog.info? 155).map (·.size)=some s.cells.toArray.size:=by simpa using eC h
set_option maxRecDepth 20000 in
set_option maxHeartbeats 1000000 in
theorem kB (p:RP)(a:Nat)(s:WS)(l c:B)(w:World)(hp:bd w a p)(cd:p.Ok)(hs:s.Ok)(hl:l.length<=maxLen)(hc:c.length<=1000)(hf:0<=p.find (ai l))(cf:p.lets.length<=12):
  Calls Tryz.prog 88 #[.pointer (some ⟨a,0,none⟩),s.val,.string (bs l),.string (bs c)] w fun e w'=>e=.returned (p.now s l c).val/\Below w.heap.size w w':=by
 obtain⟨j,hj,ot,_⟩:=RP.ez hf;obtain⟨av,bT⟩:=RP.gq hj;have Zk:(p.aj l).1+(p.aj l).2<=24:=by omega
 have TR:Below w.heap.size w ((w.alloc (.cells s.cells.toArray 155)).alloc (.cells aH.cells.toArray 155)):=((Below.refl _ _).alloc (jC _) _).alloc (by simp) _;have hA:aA ((w.alloc (.cells s.cells.toArray 155)).alloc (.cells aH.cells.toArray 155)) w.heap.size s:=(aA.new w s).below (bF _ _);have hZ:aA ((w.alloc (.cells s.cells.toArray 155)).alloc (.cells aH.cells.toArray 155)) (w.heap.size+1) aH:=by
  have:=aA.new (w.alloc (.cells s.cells.toArray 155)) aH;simpa using this
 have Qe:=ku p a l _ (hp.below TR) cd hl hf;have Za:Hid (p.now s l c=og c ((p.aj l).1+(p.aj l).2-(p.aj l).1) (p.aj l).1 s):=by unfold Hid RP.now;rw[Nat.add_sub_cancel_left]
 have HOK:Hid ((p.now s l c).Ok):=p.ox hs l hc;unfold WS.val;clear hf hj av ot hp;go_enter Tryz.func88,Tryz.ntmps88
 go_wp2_with fail
 refine Qe.mono ?_;rintro e w' ⟨rfl,n1,rfl⟩
 replace TR:=below_drewN TR n1
 replace hA:=hA.drewN n1
 replace hZ:=hZ.drewN n1
 clear Qe;generalize World.drewN _ n1=W at*;go_wp2
 generalize (p.aj l).1=i0 at*;generalize (p.aj l).2=m0 at*;go_loopg [11] (m0) (fun gk i wr=>∃(k:Nat) (sk:WS),k<=i0+m0/\gk+k=i0+m0/\i=.int .i64 k/\aA wr w.heap.size sk/\aA wr (w.heap.size+1) aH/\Below w.heap.size w wr/\Hid (sk.Ok)/\Hid (p.now s l c=og c (i0+m0-k) k sk))
 case atStart=>exact⟨i0,s,by omega,by omega,rfl,hA,hZ,TR,hs,Za⟩
 case round=>
  clear hA hZ TR Za;obtain⟨k,sk,hk,GH,rfl,hA,hZ,hB,WR,HI⟩:=hrel;by_cases aK:k<i0+m0
  ·have HS:Hid (_=_):=LA c i0 m0 k sk aK;have TW:=hA.cell WR.out k (by omega);have hfk:=hA.frozen (1+k);have zl:(k:Int)<24:=by omega
   go_wp2
   go_roundg (i0+m0-(k+1))
   case rel=>
    exact⟨k+1,WS.set sk k c,by omega,by omega,by go_num,hA.set k c,hZ.setOther (by simp) _,hB.setCell (jC _) _,WS.Ti WR.out k hc,by rw[HI.out,HS.out];rfl⟩
   case measure=>omega
  ·have HX:Hid (p.now s l c=sk):=by unfold Hid;rw[HI.out,show i0+m0-k=0 by omega];rfl
   have hr:=hA.range;have ht:wr.there (w.heap.size+1) 0 sk.cells.toArray.size:=by
    have:=hZ.there bE;have hlen:=WS.cS WR.out
    rwa [<-hlen,<-List.size_toArray]at this
   go_wp2_with (first
    |(refine wpList_load_mid rfl 155 _ rfl w.heap.size 0 rfl sk.cells _ hr Tryz.underlying155 rfl (eC WR.out) ?_)
    |(refine wpList_store_mid rfl 155 _ _ rfl (w.heap.size+1) 0 sk.cells.toArray rfl rfl ht (ou WR.out) (all_oneCell_toArray (WS.xD sk)) ?_))
   refine bodyPost_ret (dP Tryz.results88 _ _ _ (w.heap.size+1) sk.cells _ rfl (hZ.store bE WR.out).range Tryz.underlying155 rfl (eC WR.out)) rfl ⟨?_,ay hB (by omega) _ _⟩;rw[HX.out]
end RefR
namespace RefS
open Go.RowKit Sq RefA RefC RefG RefH RefO RefP RefR Aux
def cx (p:RP)(s:WS)(l:B):Bool:= !(partOf l==115)||only (s.at (p.aj l).1) [119,104]
theorem Fu (p:RP)(s:WS)(l:B):cx p s l=((!(((partOf l).toNat:Int)==115))||only (s.at (p.aj l).1) [119,104]):=by
 have e3:=qb (partOf l) 115 (by omega);simp only[Int.cast_ofNat_Int]at e3;rw[cx,e3];rfl
set_option maxRecDepth 20000 in
set_option maxHeartbeats 1000000 in
theorem qe (p:RP)(a:Nat)(s:WS)(l:B)(w:World)(hp:bd w a p)(cd:p.Ok)(hs:s.Ok)(hl:l.length<=maxLen)(hf:0<=p.find (ai l))(cf:p.lets.length<=12):
  Calls Tryz.prog 139 #[.pointer (some ⟨a,0,none⟩),s.val,.string (bs l)] w fun e w'=>e=.returned (.bool (cx p s l))/\Below w.heap.size w w':=by
 obtain⟨j,hj,ot,_⟩:=RP.ez hf;obtain⟨av,bT⟩:=RP.gq hj;have Zk:(p.aj l).1<24:=by omega
 have TR:Below w.heap.size w (w.alloc (.cells s.cells.toArray 155)):=bF _ _;have hA:=aA.new w s;have Qe:=ku p a l _ (hp.below TR) cd hl hf;have HWR:Hid (_=_):=Fu p s l;have xQ:=hs.fc;unfold WS.val;clear hf hj av ot hp;go_enter Tryz.func139,Tryz.ntmps139
 go_wp2_with fail
 refine Qe.mono ?_;rintro e w' ⟨rfl,n1,rfl⟩
 replace TR:=below_drewN TR n1
 replace hA:=hA.drewN n1
 clear Qe;generalize World.drewN _ n1=W at*;generalize (p.aj l).1=i0 at*;have TW:=hA.cell hs i0 Zk;have zl:(i0:Int)<24:=by omega
 have HO:=Iv (bs (s.at i0)) (bs [119,104]) W (by rw[dQ];exact xQ i0) (by simp);rw[aD,aD]at HO;go_wp2_with (first
  |(go_at_call 186;refine HO.mono ?_;rintro e w' ⟨rfl,n2,rfl⟩)
  |(go_at_call 159;refine(vW l _ hl).mono ?_;rintro e w' ⟨rfl,rfl⟩))
 all_goals
  go_ret
  refine⟨aO ?_,below_drewN TR _⟩;rw[HWR.out];simp[*]
end RefS
end Go.Proofs.YtmlgajhhnojdjaaGreatDoor

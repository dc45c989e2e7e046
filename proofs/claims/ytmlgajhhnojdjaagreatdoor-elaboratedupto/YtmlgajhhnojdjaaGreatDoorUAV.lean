import Derived.Test.YtmlgajhhnojdjaaGreatDoorUAU
set_option maxHeartbeats 8000000
namespace Go.Proofs.YtmlgajhhnojdjaaGreatDoor
namespace Ex
open Go Go.RowKit Sq Aux PrjJ PrjK PrjL PrjM PrjR FlwA FlwE Go.Proofs.YtmlgajhhnojdjaaGreatDoor.Own
section
variable {x a:Nat} {w w0:World} {vm vt vi v u:Value} {b:Br} {q:QP}
set_option maxRecDepth 20000 in
theorem Ce (h:dM w0 x a w b vi vm vt)(hq:PQ w0 a q v u)(bU:q.locals.length<=12)(p:Nat×Nat)(hp:p.1<q.locals.length):
  Calls Tryz.prog 173 #[.pointer (some ⟨x,0,none⟩),.agg #[.int .i64 (p.1:Nat),.int .i64 (p.2:Nat)]] w fun e w'=>e=.returned (.bool (bA q p))/\Below w.heap.size w w':=by
 have aF:Below w.heap.size w (w.alloc (.cells #[.int .i64 (p.1:Nat),.int .i64 (p.2:Nat)] 119)):=(Below.refl _ _).alloc (jC _) _;have HA:=h.below aF;have c1:=HA.prog;have hqA:=hq.below HA.aZ;have hqD:PQ (w.alloc (.cells #[.int .i64 (p.1:Nat),.int .i64 (p.2:Nat)] 119)).drew a q v u:=hqA.below ((Below.refl _ _).drew);have KK:=mA q p v u a (w.alloc (.cells #[.int .i64 (p.1:Nat),.int .i64 (p.2:Nat)] 119)).drew hqD.aM hqD.loc (by omega) hp;have hk:(((q.aJ p:Nat):Int)==3)=bA q p:=by unfold bA;rw[jX];simp;omega
 have HK:Hid (_=_):=hk;clear hk;go_enter Tryz.func173,Tryz.ntmps173
 go_wp2
 go_region_with (go_at_call 207;refine KK.mono ?_;rintro e w1 ⟨rfl,aG⟩;have bH:Below (w.alloc (.cells #[.int .i64 (p.1:Nat),.int .i64 (p.2:Nat)] 119)).heap.size (w.alloc (.cells #[.int .i64 (p.1:Nat),.int .i64 (p.2:Nat)] 119)) w1:=⟨aG.os,aG.tape,aG.output,aG.size,aG.block⟩)
 all_goals go_wp2_with fail
 all_goals
  go_ret
  exact⟨congrArg (fun z=>Ending.returned (.bool z)) HK.out,aF.trans (bH.mono aF.size)⟩
theorem Kx {n m:Nat}(h:n=m):Ending.returned (.pointer (some ⟨x,n,none⟩))=.returned (.pointer (some ⟨x,m,none⟩)):=by rw[h]
set_option maxRecDepth 20000 in
theorem yE (h:dM w0 x a w b vi vm vt)(hq:PQ w0 a q v u)(bU:q.locals.length<=12)(p:Nat×Nat)(hp:p.1<q.locals.length):
  Calls Tryz.prog 121 #[.pointer (some ⟨x,0,none⟩),.agg #[.int .i64 (p.1:Nat),.int .i64 (p.2:Nat)]] w fun e w'=>e=.returned (.pointer (some ⟨x,5+cellOf q p*2,none⟩))/\Below w.heap.size w w':=by
 have aF:Below w.heap.size w (w.alloc (.cells #[.int .i64 (p.1:Nat),.int .i64 (p.2:Nat)] 119)):=(Below.refl _ _).alloc (jC _) _;have HA:=h.below aF;have jx:(w.alloc (.cells #[.int .i64 (p.1:Nat),.int .i64 (p.2:Nat)] 119)).heap[w.heap.size]?=some (.cells #[.int .i64 (p.1:Nat),.int .i64 (p.2:Nat)] 119 (0,0)):=jD;have kd:(w.alloc (.cells #[.int .i64 (p.1:Nat),.int .i64 (p.2:Nat)] 119)).heap.size=w.heap.size+1:=by simp
 have KI:=Ce HA hq bU p hp;have lH:ae p<24:=by unfold ae;split<;>omega
 have NR:(ae p:Int)<24:=by omega
 have hpi:(p.1:Int)<12:=by omega
 have KS:=fun W=>dc p W (by omega)
 cases ht:bA q p
 ·have HT:Hid (cellOf q p=ae p):=by unfold Hid cellOf;rw[ht];rfl
  rw[ht]at KI;clear ht;go_enter Tryz.func121,Tryz.ntmps121
  go_upto_region 3 with(go_at_call 173;refine KI.mono ?_;rintro e w1 ⟨rfl,aG⟩;have Xz:=(aG.block w.heap.size (by omega)).trans jx;have c0:w1.cell? ⟨w.heap.size,0,none⟩=some (.int .i64 (p.1:Nat)):=(by rw[cell_of_heap Xz];rfl);have c1:w1.cell? ⟨w.heap.size,1,none⟩=some (.int .i64 (p.2:Nat)):=(by rw[cell_of_heap Xz];rfl))
  go_region_with (go_at_call 62;refine(KS _).mono ?_;rintro e w2 ⟨rfl,bH⟩;have cT:Below w1.heap.size w1 w2:=⟨bH.os,bH.tape,bH.output,bH.size,bH.block⟩)
  all_goals go_wp2_with fail
  all_goals
   go_ret
   exact⟨Kx (by rw[HT.out]),aF.trans ((aG.trans (cT.mono aG.size)).mono aF.size)⟩
 ·have HT:Hid (cellOf q p=24+p.1):=by unfold Hid cellOf;rw[ht];rfl
  rw[ht]at KI;clear ht;go_enter Tryz.func121,Tryz.ntmps121
  go_upto_region 2 with(go_at_call 173;refine KI.mono ?_;rintro e w1 ⟨rfl,aG⟩;have Xz:=(aG.block w.heap.size (by omega)).trans jx;have c0:w1.cell? ⟨w.heap.size,0,none⟩=some (.int .i64 (p.1:Nat)):=(by rw[cell_of_heap Xz];rfl);have c1:w1.cell? ⟨w.heap.size,1,none⟩=some (.int .i64 (p.2:Nat)):=(by rw[cell_of_heap Xz];rfl))
  go_region
  all_goals go_wp2_with fail
  all_goals
   go_ret
   have hB:=aF.trans (aG.mono aF.size);exact⟨Kx (by rw[HT.out];omega),⟨hB.os,hB.tape,hB.output,hB.size,hB.block⟩⟩
set_option maxRecDepth 20000 in
theorem dL (h:dM w0 x a w b vi vm vt)(hq:PQ w0 a q v u)(bU:q.locals.length<=12)(p:Nat×Nat)(hp:p.1<q.locals.length):
  Calls Tryz.prog 74 #[.pointer (some ⟨x,0,none⟩),.agg #[.int .i64 (p.1:Nat),.int .i64 (p.2:Nat)]] w fun e w'=>e=.returned (.int .i64 (b.val q p))/\Below w.heap.size w w':=by
 have aF:Below w.heap.size w (w.alloc (.cells #[.int .i64 (p.1:Nat),.int .i64 (p.2:Nat)] 119)):=(Below.refl _ _).alloc (jC _) _;have HA:=h.below aF;have KC:=yE HA hq bU p hp;have hc:cellOf q p<36:=qm (by omega);go_enter Tryz.func74,Tryz.ntmps74
 go_wp2_with (go_at_call 121;refine KC.mono ?_;rintro e w1 ⟨rfl,aG⟩;obtain⟨d0,d1,-,-⟩:=(HA.below aG).cellAt hc)
 go_ret
 exact⟨rfl,aF.trans (aG.mono aF.size)⟩
set_option maxRecDepth 20000 in
theorem qx (h:dM w0 x a w b vi vm vt)(hq:PQ w0 a q v u)(bU:q.locals.length<=12)(p:Nat×Nat)(hp:p.1<q.locals.length):
  Calls Tryz.prog 122 #[.pointer (some ⟨x,0,none⟩),.agg #[.int .i64 (p.1:Nat),.int .i64 (p.2:Nat)]] w fun e w'=>e=.returned (.int .i64 (b.val q p))/\Below w.heap.size w w':=by
 have aF:Below w.heap.size w (w.alloc (.cells #[.int .i64 (p.1:Nat),.int .i64 (p.2:Nat)] 119)):=(Below.refl _ _).alloc (jC _) _;have HA:=h.below aF;have KC:=dL HA hq bU p hp;go_enter Tryz.func122,Tryz.ntmps122
 go_wp2_with (go_at_call 74;refine KC.mono ?_;rintro e w1 ⟨rfl,aG⟩)
 go_ret
 exact⟨rfl,aF.trans (aG.mono aF.size)⟩
set_option maxRecDepth 20000 in
theorem fw (h:dM w0 x a w b vi vm vt)(hq:PQ w0 a q v u)(bU:q.locals.length<=12)(p:Nat×Nat)(hp:p.1<q.locals.length)(n:Int):
  Calls Tryz.prog 76 #[.pointer (some ⟨x,0,none⟩),.agg #[.int .i64 (p.1:Nat),.int .i64 (p.2:Nat)],.int .i64 n] w fun e w'=>e=.returned (.tuple #[])/\dM w0 x a w' (b.write q p n) vi vm vt/\aA x vm vt w vm vt w':=by
 have aF:Below w.heap.size w (w.alloc (.cells #[.int .i64 (p.1:Nat),.int .i64 (p.2:Nat)] 119)):=(Below.refl _ _).alloc (jC _) _;have HA:=h.below aF;have KC:=yE HA hq bU p hp;have hc:cellOf q p<36:=qm (by omega);go_enter Tryz.func76,Tryz.ntmps76
 go_wp2_with (go_at_call 121;refine KC.mono ?_;rintro e w1 ⟨rfl,aG⟩;have H1:=HA.below aG;obtain⟨d0,d1,f0,f1⟩:=H1.cellAt hc;obtain⟨h5,r5⟩:=H1.setCell hc true n)
 go_end0
 exact⟨rfl,h5,(aA.of (aF.trans (aG.mono aF.size))).trans r5⟩
end
end Ex
namespace Ex
open Go Go.RowKit Sq Aux PrjJ PrjK PrjL PrjM PrjR PrjT FlwA FlwE Go.Proofs.YtmlgajhhnojdjaaGreatDoor.Own
def Br.empty (b:Br)(q:QP)(ps:List (Nat×Nat)):Bool:=ps.any fun p=> !(b.cell q p).1
def Br.dead (b:Br)(q:QP)(p:Nat×Nat):Bool:= !(b.cell q p).1|| !(b.yd.at (b.val q p).toNat).2
section
variable {x a:Nat} {w w0:World} {vm vt vi v u:Value} {b:Br} {q:QP}
set_option maxRecDepth 20000 in
theorem km (h:dM w0 x a w b vi vm vt)(hq:PQ w0 a q v u)(bU:q.locals.length<=12){z n c:Nat}{ad:Option Addr}{ps:List (Nat×Nat)}(hp:aI z w (.slice ad n c) ps)(hx:∀p∈ps,p.1<q.locals.length):
  Calls Tryz.prog 119 #[.pointer (some ⟨x,0,none⟩),.slice ad n c] w fun e w'=>e=.returned (.bool (b.empty q ps))/\Below w.heap.size w w':=by
 have hn:n=ps.length:=by
  obtain⟨ad',c',e⟩:=PrjP.bG hp;simp only[Value.slice.injEq]at e;exact e.2.1
 have hlen:ps.length<=maxLen:=by
  rcases hp.2 with⟨-,h⟩|⟨g,cap,cur,-,-,-,h1,h2,-⟩
  ·omega
  ·omega
 unfold maxLen at hlen;subst hn;go_enter Tryz.func119,Tryz.ntmps119
 go_wp2
 go_loopg [9] (ps.length) (fun g v9 wr=>∃(k:Nat),k<=ps.length/\g+k=ps.length/\v9=.int .i64 k/\Below w.heap.size w wr/\Hid (b.empty q ps=b.empty q (ps.drop k)))
 case atStart=>exact⟨0,jQ _,rfl,rfl,Below.refl _ _,rfl⟩
 case round=>
  obtain⟨k,hk,Ca,rfl,hB,HI⟩:=hrel;by_cases bg:k<ps.length
  ·have yi:aI z wr (.slice ad ps.length c) ps:=aw hp hB;obtain⟨gp,rfl,-,gP,G4,c1,c2⟩:=bK yi k bg;have j6:=hx (ps.getD k (0,0)) (by simp[bg]);have fy:b.empty q (ps.drop k)=(!(b.cell q (ps.getD k (0,0))).1||b.empty q (ps.drop (k+1))):=by
    rw[jE bg,jA,jB bg];rfl
   have HS:Hid (_=_):=HI.out.trans fy;clear fy;generalize ps.getD k (0,0)=p at*;have eT:Below wr.heap.size wr (wr.alloc (.cells #[.int .i64 (p.1:Nat),.int .i64 (p.2:Nat)] 119)):=(Below.refl _ _).alloc (jC _) _;have H1:=(h.below hB).below eT;have KC:=yE H1 hq bU p j6;have hc:cellOf q p<36:=qm (by omega);cases hf:(b.cell q p).1
   ·have HF:Hid (b.empty q ps=true):=by unfold Hid;rw[HS.out,hf];rfl
    go_wp2_with (go_at_call 121;refine KC.mono ?_;rintro e w1 ⟨rfl,aG⟩;obtain⟨d0,d1,-,-⟩:=(H1.below aG).cellAt hc;replace d0:=d0.trans (congrArg (fun z=>some (Value.bool z)) hf))
    go_ret
    exact⟨by rw[HF.out];rfl,hB.trans ((eT.trans (aG.mono eT.size)).mono hB.size)⟩
   ·have HF:Hid (b.empty q ps=b.empty q (ps.drop (k+1))):=by unfold Hid;rw[HS.out,hf];rfl
    go_wp2_with (go_at_call 121;refine KC.mono ?_;rintro e w1 ⟨rfl,aG⟩;obtain⟨d0,d1,-,-⟩:=(H1.below aG).cellAt hc;replace d0:=d0.trans (congrArg (fun z=>some (Value.bool z)) hf))
    go_roundg (ps.length-(k+1))
    case measure=>omega
    case rel=>exact⟨k+1,by omega,by omega,by go_num,hB.trans ((eT.trans (aG.mono eT.size)).mono hB.size),HF⟩
  ·have hx:b.empty q ps=false:=by rw[HI.out,jT (by omega)];rfl
   have HX:Hid (_=_):=hx;clear hx;go_wp2
   go_ret
   exact⟨by rw[HX.out];rfl,hB⟩
theorem oG (w:World)(p:Nat×Nat):aI w.heap.size (w.alloc (.cells #[.int .i64 (p.1:Nat),.int .i64 (p.2:Nat)] 119)) (.slice (some ⟨w.heap.size,0,none⟩) 1 1) [p]:=gK w [p] (by simp)
set_option maxRecDepth 20000 in
theorem yJ (h:dM w0 x a w b vi vm vt)(hq:PQ w0 a q v u)(bU:q.locals.length<=12)(p:Nat×Nat)(hp:p.1<q.locals.length)(ho:b.yd.Ok)(eT:(b.cell q p).1=true->1<=b.val q p/\b.val q p<=b.yd.made.length):
  Calls Tryz.prog 120 #[.pointer (some ⟨x,0,none⟩),.agg #[.int .i64 (p.1:Nat),.int .i64 (p.2:Nat)]] w fun e w'=>e=.returned (.bool (b.dead q p))/\Below w.heap.size w w':=by
 have aF:Below w.heap.size w (w.alloc (.cells #[.int .i64 (p.1:Nat),.int .i64 (p.2:Nat)] 119)):=(Below.refl _ _).alloc (jC _) _;have HA:=h.below aF;obtain⟨W,hW⟩:∃W,w.alloc (.cells #[.int .i64 (p.1:Nat),.int .i64 (p.2:Nat)] 119)=W:=⟨_,rfl⟩;have iO:Below W.heap.size W (W.alloc (.cells #[.int .i64 (p.1:Nat),.int .i64 (p.2:Nat)] 119)).drew:=((Below.refl _ _).alloc (jC _) _).drew;have hpD:aI W.heap.size (W.alloc (.cells #[.int .i64 (p.1:Nat),.int .i64 (p.2:Nat)] 119)).drew (.slice (some ⟨W.heap.size,0,none⟩) 1 1) [p]:=aw (oG W p) ((Below.refl _ _).drew);have KE:=km ((hW▸HA).below iO) hq bU hpD (fun y hy=>by rw[jI.1 hy];exact hp);have KN:=fun(W':World) (hb:Below W.heap.size W W')=>qx ((hW▸HA).below hb) hq bU p hp
 have jx:W.heap[w.heap.size]?=some (.cells #[.int .i64 (p.1:Nat),.int .i64 (p.2:Nat)] 119 (0,0)):=by rw[<-hW];exact jD
 have y0:W.cell? ⟨w.heap.size,0,none⟩=some (.int .i64 (p.1:Nat)):=by rw[cell_of_heap jx];rfl
 have y1:W.cell? ⟨w.heap.size,1,none⟩=some (.int .i64 (p.2:Nat)):=by rw[cell_of_heap jx];rfl
 have lj:w.heap.size<W.heap.size:=by rw[<-hW];simp
 have AH:∀W',Below W.heap.size W W'->W'.cell? ⟨w.heap.size,0,none⟩=some (.int .i64 (p.1:Nat))/\W'.cell? ⟨w.heap.size,1,none⟩=some (.int .i64 (p.2:Nat)):=fun W' hb=>⟨(hb.cell (p:=⟨w.heap.size,0,none⟩) lj).trans y0,(hb.cell (p:=⟨w.heap.size,1,none⟩) lj).trans y1⟩
 have VA:b.empty q [p]= !(b.cell q p).1:=by simp[Br.empty]
 cases hf:(b.cell q p).1
 ·rw[hf]at VA;simp only[VA,Bool.not_false]at KE;have HD:Hid (b.dead q p=true):=by unfold Hid Br.dead;rw[hf];rfl
  clear VA hf;go_enter Tryz.func120,Tryz.ntmps120
  go_wp2
  first
  |(go_region_with (go_at_call 119;refine KE.mono ?_;rintro e w1 ⟨rfl,aG⟩;have xI:Hid (Below _ _ _):=iO.trans (aG.mono iO.size)))
  |fail
  all_goals go_wp2_with fail
  all_goals
   go_ret
   exact⟨by rw[HD.out];rfl,(hW▸aF).trans (xI.out.mono (Nat.le_of_lt lj))⟩
 ·have hn:=eT hf;obtain⟨n,hnv⟩:∃n:Nat,b.val q p=n:=⟨(b.val q p).toNat,by omega⟩;have KL:=fun(W':World) (hb:Below W.heap.size W W')=>II (((hW▸HA).below hb).eG) n (by omega) (by omega) ho
  rw[hf]at VA;simp only[VA,Bool.not_true]at KE;rw[hnv]at KN;have HD:Hid (b.dead q p= !(b.yd.at n).2):=by unfold Hid Br.dead;rw[hf,hnv];rfl
  clear VA hf hn eT;go_enter Tryz.func120,Tryz.ntmps120
  go_wp2
  go_region_held3 (fun W'=>W'.cell? ⟨w.heap.size,0,none⟩=some (.int .i64 (p.1:Nat))/\W'.cell? ⟨w.heap.size,1,none⟩=some (.int .i64 (p.2:Nat))) (go_keep)
   (first
   |(go_at_call 119;refine KE.mono ?_;rintro e w1 ⟨rfl,aG⟩;have bH:=iO.trans (aG.mono iO.size);obtain⟨z0,z1⟩:=AH _ bH)
   |(go_at_call 122;refine(KN _ bH).mono ?_;rintro e w3 ⟨rfl,cT⟩;have A7:=bH.trans (cT.mono bH.size);obtain⟨z2,z3⟩:=AH _ A7)
   |(go_at_call 172;refine(KL _ A7).mono ?_;rintro e w5 ⟨rfl,rfl⟩))
  all_goals go_wp2_with fail
  all_goals
   go_ret
   exact⟨by rw[HD.out];rfl,(hW▸aF).trans (A7.mono (Nat.le_of_lt lj))⟩
end
end Ex
namespace Ex
open Go Go.RowKit Sq Aux PrjJ PrjK PrjL PrjM PrjR PrjS PrjT FlwA FlwE Go.Proofs.YtmlgajhhnojdjaaGreatDoor.Own
def Br.calc (b:Br)(q:QP)(l:ab):Br:=b.write q (l.places.getD 0 (0,0)) (ml l.op (b.val q (l.places.getD 1 (0,0))) (b.val q (l.places.getD 2 (0,0))))
theorem rE:(Tryz.prog.info? 119).map (fun i=>i.size)=some 2:=by kernel_rfl
set_option maxRecDepth 20000 in
theorem lS (p:Nat×Nat)(w:World):Calls Tryz.prog 124 #[.agg #[.int .i64 (p.1:Nat),.int .i64 (p.2:Nat)]] w fun e w'=>e=.returned (.agg #[.int .i64 (p.1:Nat),.int .i64 3])/\Below w.heap.size w w':=by
 have aF:Below w.heap.size w (w.alloc (.cells #[.int .i64 (p.1:Nat),.int .i64 (p.2:Nat)] 119)):=(Below.refl _ _).alloc (jC _) _;go_enter Tryz.func124,Tryz.ntmps124
 go_wp2
 have hh:((w.alloc (.cells #[.int .i64 (p.1:Nat),.int .i64 (p.2:Nat)] 119)).alloc (.cells #[.int .i64 (p.1:Nat),.int .i64 3] 119)).heap[w.heap.size+1]?=some (.cells #[.int .i64 (p.1:Nat),.int .i64 3] 119 (0,0)):=by
  have e:w.heap.size+1=(w.alloc (.cells #[.int .i64 (p.1:Nat),.int .i64 (p.2:Nat)] 119)).heap.size:=by simp
  rw[e];exact jD
 refine bodyPost_ret (bZ Tryz.results124 _ _ _ (w.heap.size+1) [.int .i64 (p.1:Nat),.int .i64 3] _ rfl (fun j u hu=>by rw[Nat.zero_add,cell_of_heap hh];simpa using hu) Tryz.underlying119 rfl rE) rfl ?_;exact⟨rfl,aF.alloc aF.size _⟩
section
variable {x a:Nat} {w w0 w1:World} {vm vt vi vm1 vt1:Value} {b:Br}
theorem dM.fresh (h:dM w0 x a w b vi vm vt){k:Nat}(hk:w.heap.size<=k):k≠x/\vm.ownBlock≠some k/\vt.ownBlock≠some k:=by
 have h1:=h.lt;refine⟨by omega,fun e=> ?_,fun e=> ?_⟩
 ·have:=(h.eG.made.lt k e).2;omega
 ·have:=(h.eG.trace.lt k e).2;omega
theorem aK (h:aA x vm vt w vm1 vt1 w1){k:Nat}(hk:k<w.heap.size)(hf:k≠x/\vm.ownBlock≠some k/\vt.ownBlock≠some k)(o:Nat):w1.cell? ⟨k,o,none⟩=w.cell? ⟨k,o,none⟩:=by
 have:=h.block k hk hf.1 hf.2.1 hf.2.2;simp only[World.cell?,this]
end
section
variable {x a:Nat} {w w0:World} {vm vt vi v u:Value} {b:Br} {q:QP}
set_option maxRecDepth 20000 in
theorem gH (h:dM w0 x a w b vi vm vt)(hq:PQ w0 a q v u)(bU:q.locals.length<=12){z nb:Nat}{l:ab}{ap an:Option Addr}{cp cn:Nat}(hl:aC z w0 l (.slice ap l.places.length cp) (.slice an l.next.length cn))(hk:fY q.locals.length nb l)
  (ho:l.op=3\/l.op=4\/l.op=5\/l.op=6) (hd:l.op=6->¬b.val q (l.places.getD 2 (0,0))=0) (hr:∀p,bC (b.val q p)):
  Calls Tryz.prog 75 #[.pointer (some ⟨x,0,none⟩),.agg #[.int .i64 (l.num:Nat),.int .i64 (l.op:Nat),.slice ap l.places.length cp,.int .i64 l.number,.int .i64 l.flag,.slice an l.next.length cn]] w fun e w'=>e=.returned (.tuple #[])/\dM w0 x a w' (b.calc q l) vi vm vt/\aA x vm vt w vm vt w':=by
 have hlen:l.places.length=3:=by rcases ho with e|e|e|e<;>(rw[hk.bt,e];rfl)
 have aF:Below w.heap.size w (w.alloc (.cells #[.int .i64 (l.num:Nat),.int .i64 (l.op:Nat),.slice ap l.places.length cp,.int .i64 l.number,.int .i64 l.flag,.slice an l.next.length cn] 115)):=(Below.refl _ _).alloc (jC _) _;obtain⟨g,rfl,gP,hg,c1,c2⟩:=ax hl hlen 0 (by omega);obtain⟨g',e',-,-,c3,c4⟩:=ax hl hlen 1 (by omega);simp only[Option.some.injEq,Addr.mk.injEq,and_true]at e';subst e';obtain⟨g',e',-,-,c5,c6⟩:=ax hl hlen 2 (by omega);simp only[Option.some.injEq,Addr.mk.injEq,and_true]at e';subst e';have hx:∀j,j<3->(l.places.getD j (0,0)).1<q.locals.length:=fun j hj=>
  (hk.places (l.places.getD j (0,0)) (by rw[jA,jB (by omega)];exact jL _)).1
 have x0:=hx 0 (by omega);have x1:=hx 1 (by omega);have x2:=hx 2 (by omega);have KC:=fun w'=>pn l.op (b.val q (l.places.getD 1 (0,0))) (b.val q (l.places.getD 2 (0,0))) w' hd ho (hr _) (hr _)
 have YC:=fun(W:World) (hb:Below w.heap.size w W)=>dL (h.below hb) hq bU (l.places.getD 1 (0,0)) x1
 have YD:=fun(W:World) (hb:Below w.heap.size w W)=>dL (h.below hb) hq bU (l.places.getD 2 (0,0)) x2
 have KW:=fun(W:World) (hb:Below w.heap.size w W) (n:Int)=>fw (h.below hb) hq bU (l.places.getD 0 (0,0)) x0 n
 have hb:∀W,Below w0.heap.size w0 W->(W.cell? ⟨g,0,none⟩=some (.int .i64 ((l.places.getD 0 (0,0)).1:Nat))/\W.cell? ⟨g,1,none⟩=some (.int .i64 ((l.places.getD 0 (0,0)).2:Nat))/\W.cell? ⟨g,2,none⟩=some (.int .i64 ((l.places.getD 1 (0,0)).1:Nat))/\W.cell? ⟨g,3,none⟩=some (.int .i64 ((l.places.getD 1 (0,0)).2:Nat))/\W.cell? ⟨g,4,none⟩=some (.int .i64 ((l.places.getD 2 (0,0)).1:Nat))/\W.cell? ⟨g,5,none⟩=some (.int .i64 ((l.places.getD 2 (0,0)).2:Nat))):=fun W hW=>
  ⟨(hW.cell (p:=⟨g,0,none⟩) hg).trans c1,(hW.cell (p:=⟨g,1,none⟩) hg).trans c2,(hW.cell (p:=⟨g,2,none⟩) hg).trans c3,(hW.cell (p:=⟨g,3,none⟩) hg).trans c4,(hW.cell (p:=⟨g,4,none⟩) hg).trans c5,(hW.cell (p:=⟨g,5,none⟩) hg).trans c6⟩
 have HCA:Hid (b.calc q l=b.write q (l.places.getD 0 (0,0)) (ml l.op (b.val q (l.places.getD 1 (0,0))) (b.val q (l.places.getD 2 (0,0))))):=rfl;obtain⟨d0,d1,d2,d3,d4,d5⟩:=hb _ (h.aZ.trans (aF.mono h.aZ.size));have HF:=h.fresh (jC _);rw[hlen]at aF d0 d1 d2 d3 d4 d5⊢;clear hx c1 c2 c3 c4 c5 c6 hl hk hr hd ho;generalize l.places.getD 0 (0,0)=p0 at*;generalize l.places.getD 1 (0,0)=p1 at*;generalize l.places.getD 2 (0,0)=p2 at*;generalize ml l.op (b.val q p1) (b.val q p2)=cv at*;clear hlen;have Rr:∀W,Below (w.alloc (.cells #[.int .i64 (l.num:Nat),.int .i64 (l.op:Nat),.slice (some ⟨g,0,none⟩) 3 cp,.int .i64 l.number,.int .i64 l.flag,.slice an l.next.length cn] 115)).heap.size (w.alloc (.cells #[.int .i64 (l.num:Nat),.int .i64 (l.op:Nat),.slice (some ⟨g,0,none⟩) 3 cp,.int .i64 l.number,.int .i64 l.flag,.slice an l.next.length cn] 115)) W->W.cell? ⟨w.heap.size,1,none⟩=some (.int .i64 (l.op:Nat)):=fun W hW=>(hW.cell (p:=⟨w.heap.size,1,none⟩) (by simp)).trans (by rw[cell_of_heap jD];rfl)
 go_enter Tryz.func75,Tryz.ntmps75
 have iO:Below w.heap.size w (w.alloc (.cells #[.int .i64 (l.num:Nat),.int .i64 (l.op:Nat),.slice (some ⟨g,0,none⟩) 3 cp,.int .i64 l.number,.int .i64 l.flag,.slice an l.next.length cn] 115)).drew:=aF.drew;have y0:=Rr _ (Below.refl _ _);go_wp2
 go_region_held3 (fun W=>W.cell? ⟨g,0,none⟩=some (.int .i64 (p0.1:Nat))/\W.cell? ⟨g,1,none⟩=some (.int .i64 (p0.2:Nat))/\W.cell? ⟨g,2,none⟩=some (.int .i64 (p1.1:Nat))/\W.cell? ⟨g,3,none⟩=some (.int .i64 (p1.2:Nat))/\W.cell? ⟨g,4,none⟩=some (.int .i64 (p2.1:Nat))/\W.cell? ⟨g,5,none⟩=some (.int .i64 (p2.2:Nat))/\W.cell? ⟨w.heap.size,1,none⟩=some (.int .i64 (l.op:Nat))) (go_keep)
  (first
  |(go_at_call 95;go_fit (KC _);rintro e w3 ⟨rfl,rfl⟩)
  |(go_at_call 76;go_fit (KW _ bH cv);rintro e w4 ⟨rfl,h4,r4⟩;obtain⟨z0,z1,z2,z3,z4,z5⟩:=hb _ h4.aZ;have z6:=(aK r4 (show w.heap.size<_ from(by have:=dT.size;simp at this;omega)) HF 1).trans y2)
  |(go_at_call 74;go_fit (YD _ aG);rintro e w2 ⟨rfl,h2⟩;have bH:Below w.heap.size w w2:=aG.trans (h2.mono aG.size);have dT:=dH.trans (h2.mono dH.size);have y2:=Rr _ dT;obtain⟨v0,v1,v2,v3,v4,v5⟩:=hb _ (h.aZ.trans (bH.mono h.aZ.size)))
  |(go_at_call 74;go_fit (YC _ iO);rintro e w1 ⟨rfl,h1⟩;have aG:Below w.heap.size w w1:=iO.trans (h1.mono iO.size);have dH:Below (w.alloc (.cells #[.int .i64 (l.num:Nat),.int .i64 (l.op:Nat),.slice (some ⟨g,0,none⟩) 3 cp,.int .i64 l.number,.int .i64 l.flag,.slice an l.next.length cn] 115)).heap.size (w.alloc (.cells #[.int .i64 (l.num:Nat),.int .i64 (l.op:Nat),.slice (some ⟨g,0,none⟩) 3 cp,.int .i64 l.number,.int .i64 l.flag,.slice an l.next.length cn] 115)) w1:=⟨h1.os,h1.tape,h1.output,h1.size,h1.block⟩;have y1:=Rr _ dH;obtain⟨u0,u1,u2,u3,u4,u5⟩:=hb _ (h.aZ.trans (aG.mono h.aZ.size))))
 all_goals go_wp2_with fail
 all_goals
  go_end0
  exact⟨rfl,by rw[HCA.out];exact h4,(aA.of bH).trans r4⟩
end
end Ex
namespace Ex
open Go Go.RowKit Sq Aux PrjJ PrjK PrjL PrjM PrjR PrjS PrjT FlwA FlwE Go.Proofs.YtmlgajhhnojdjaaGreatDoor.Own
def Br.other (b:Br)(q:QP)(l:ab):Bool:=if l.op=19 then b.val q (l.places.getD 0 (0,0))==0 else if l.op=20 then b.val q (l.places.getD 0 (0,0))==1 else if l.op=21 then !(b.flags.getD l.flag.toNat false)else false
section
variable {x a:Nat} {w w0:World} {vm vt vi v u:Value} {b:Br} {q:QP}
set_option maxRecDepth 20000 in
theorem pU (h:dM w0 x a w b vi vm vt)(hq:PQ w0 a q v u)(bU:q.locals.length<=12){z nb:Nat}{l:ab}{ap an:Option Addr}{cp cn:Nat}(jy:aC z w0 l (.slice ap l.places.length cp) (.slice an l.next.length cn))(hk:fY q.locals.length nb l)
  (ho:l.op=18\/l.op=19\/l.op=20\/l.op=21) (lf:l.op=21->0<=l.flag/\l.flag<50) (hn:(if b.other q l then 1 else 0)<l.next.length):
  Calls Tryz.prog 77 #[.pointer (some ⟨x,0,none⟩),.agg #[.int .i64 (l.num:Nat),.int .i64 (l.op:Nat),.slice ap l.places.length cp,.int .i64 l.number,.int .i64 l.flag,.slice an l.next.length cn]] w fun e w'=>
   e=.returned (.int .i64 ((l.next.getD (if b.other q l then 1 else 0) 0:Nat):Int))/\Below w.heap.size w w':=by
 have hl:=PrjM.aC.below jy h.aZ;have aF:Below w.heap.size w (w.alloc (.cells #[.int .i64 (l.num:Nat),.int .i64 (l.op:Nat),.slice ap l.places.length cp,.int .i64 l.number,.int .i64 l.flag,.slice an l.next.length cn] 115)):=(Below.refl _ _).alloc (jC _) _;have HA:=h.below aF;have KW:=fun(W:World) (hW:Below w.heap.size w W)=>K8 (hl.below hW) (b.other q l) hn
 unfold lnV at KW;have dj:(w.alloc (.cells #[.int .i64 (l.num:Nat),.int .i64 (l.op:Nat),.slice ap l.places.length cp,.int .i64 l.number,.int .i64 l.flag,.slice an l.next.length cn] 115)).heap[w.heap.size]?=some (.cells #[.int .i64 (l.num:Nat),.int .i64 (l.op:Nat),.slice ap l.places.length cp,.int .i64 l.number,.int .i64 l.flag,.slice an l.next.length cn] 115 (0,0)):=jD;generalize hR:l.next.getD (if b.other q l then 1 else 0) 0=r at KW⊢;have NQ:(l.op=18\/l.op=21)\/(l.op=19\/l.op=20):=by omega
 rcases NQ with NQ|NQ
 ·rcases NQ with ak|ak
  ·have mx:b.other q l=false:=by rw[Br.other,ja (by omega),ja (by omega),ja (by omega)]
   rw[mx]at KW;have b1:(((l.op:Nat):Int)==19)=false:=by rw[ak];rfl
   have b2:(((l.op:Nat):Int)==20)=false:=by rw[ak];rfl
   have b3:(((l.op:Nat):Int)==21)=false:=by rw[ak];rfl
   clear hn hR mx ho ak hk hl lf;go_enter Tryz.func77,Tryz.ntmps77
   go_wp2_with (go_at_call 100;go_fit (KW _ aF);rintro e w1 ⟨rfl,h1⟩)
   go_ret
   exact⟨rfl,aF.trans (h1.mono aF.size)⟩
  ·have mx:b.other q l= !(b.flags.getD l.flag.toNat false):=by rw[Br.other,ja (by omega),ja (by omega),jb ak]
   rw[mx]at KW;have b1:(((l.op:Nat):Int)==19)=false:=by rw[ak];rfl
   have b2:(((l.op:Nat):Int)==20)=false:=by rw[ak];rfl
   have b3:(((l.op:Nat):Int)==21)=true:=by rw[ak];rfl
   obtain⟨f1,f2⟩:=lf ak;have Tg:l.flag.toNat<50:=by omega
   have cF:=(HA.Oq Tg).1;clear hn hR mx ho ak hk hl lf;go_enter Tryz.func77,Tryz.ntmps77
   go_upto_region 8 with fail
   go_quiet (fail)
   go_wp2_with (go_at_call 100;go_fit (KW _ (below_drewN aF _));rintro e w1 ⟨rfl,h1⟩)
   go_ret
   exact⟨rfl,(below_drewN aF _).trans (h1.mono aF.size)⟩
 ·have hlen:1<=l.places.length:=by rcases NQ with e|e<;>(rw[hk.bt,e];decide)
  obtain⟨g,e,-,gP,hg,c1,c2⟩:=bK hl.places 0 (by omega);subst e;have hx:=(hk.places (l.places.getD 0 (0,0)) (by rw[jA,jB (by omega)];exact jL _)).1;have d1:=(aF.cell (p:=⟨g,0,none⟩) hg).trans c1;have d2:=(aF.cell (p:=⟨g,1,none⟩) hg).trans c2;have hlI:(0:Int)<l.places.length:=by omega
  have KN:=dL HA hq bU (l.places.getD 0 (0,0)) hx;rcases NQ with ak|ak
  ·have mx:b.other q l=(b.val q (l.places.getD 0 (0,0))==0):=by rw[Br.other,jb (by omega)]
   rw[mx]at KW;have b1:(((l.op:Nat):Int)==19)=true:=by rw[ak];rfl
   have b2:(((l.op:Nat):Int)==20)=false:=by rw[ak];rfl
   have b3:(((l.op:Nat):Int)==21)=false:=by rw[ak];rfl
   clear hn hR mx ho c1 c2 ak hk hl lf;generalize l.places.getD 0 (0,0)=p at*;go_enter Tryz.func77,Tryz.ntmps77
   go_wp2_with (first
    |(go_at_call 74;go_fit KN;rintro e w2 ⟨rfl,h2⟩;have bH:=aF.trans (h2.mono aF.size);have eN:=(h2.block _ (lt_of_heap dj)).trans dj;have m0:w2.cell? ⟨w.heap.size,0,none⟩=_:=cell_of_heap eN 0;have m1:w2.cell? ⟨w.heap.size,1,none⟩=_:=cell_of_heap eN 1;have m2:w2.cell? ⟨w.heap.size,2,none⟩=_:=cell_of_heap eN 2;have m3:w2.cell? ⟨w.heap.size,3,none⟩=_:=cell_of_heap eN 3;have m4:w2.cell? ⟨w.heap.size,4,none⟩=_:=cell_of_heap eN 4;have m5:w2.cell? ⟨w.heap.size,5,none⟩=_:=cell_of_heap eN 5;simp at m0 m1 m2 m3 m4 m5)
    |(go_at_call 100;go_fit (KW _ bH);rintro e w1 ⟨rfl,h1⟩))
   go_ret
   exact⟨rfl,bH.trans (h1.mono bH.size)⟩
  ·have mx:b.other q l=(b.val q (l.places.getD 0 (0,0))==1):=by rw[Br.other,ja (by omega),jb (by omega)]
   rw[mx]at KW;have b1:(((l.op:Nat):Int)==19)=false:=by rw[ak];rfl
   have b2:(((l.op:Nat):Int)==20)=true:=by rw[ak];rfl
   have b3:(((l.op:Nat):Int)==21)=false:=by rw[ak];rfl
   clear hn hR mx ho c1 c2 ak hk hl lf;generalize l.places.getD 0 (0,0)=p at*;go_enter Tryz.func77,Tryz.ntmps77
   go_wp2_with (first
    |(go_at_call 74;go_fit KN;rintro e w2 ⟨rfl,h2⟩;have bH:=aF.trans (h2.mono aF.size);have eN:=(h2.block _ (lt_of_heap dj)).trans dj;have m0:w2.cell? ⟨w.heap.size,0,none⟩=_:=cell_of_heap eN 0;have m1:w2.cell? ⟨w.heap.size,1,none⟩=_:=cell_of_heap eN 1;have m2:w2.cell? ⟨w.heap.size,2,none⟩=_:=cell_of_heap eN 2;have m3:w2.cell? ⟨w.heap.size,3,none⟩=_:=cell_of_heap eN 3;have m4:w2.cell? ⟨w.heap.size,4,none⟩=_:=cell_of_heap eN 4;have m5:w2.cell? ⟨w.heap.size,5,none⟩=_:=cell_of_heap eN 5;simp at m0 m1 m2 m3 m4 m5)
    |(go_at_call 100;go_fit (KW _ bH);rintro e w1 ⟨rfl,h1⟩))
   go_ret
   exact⟨rfl,bH.trans (h1.mono bH.size)⟩
end
end Ex
namespace Ex
open Go Go.RowKit Sq Aux PrjJ PrjK PrjL PrjM PrjR PrjS PrjT FlwA FlwE Go.Proofs.YtmlgajhhnojdjaaGreatDoor.Own
def Br.dS (q:QP)(ts fs:List (Nat×Nat)):Nat->Br->Br
 |0,b=>b
 |k+1,b=>(Br.dS q ts fs k b).write q (ts.getD k (0,0)) ((Br.dS q ts fs k b).val q (fs.getD k (0,0)))
def Br.fE (b:Br)(q:QP)(t f:Nat×Nat):Br:=Br.dS q (QP.ai q t) (QP.ai q f) (QP.ai q f).length b
def Br.move (b:Br)(q:QP)(t f:Nat×Nat):Br:=
 if bA q f=true/\(b.fE q t f).val q f=1 then(b.fE q t f).write q (t.1,3) ((b.fE q t f).val q (f.1,3))else b.fE q t f
section
variable {x a:Nat} {w w0 w1:World} {vm vt vi v u:Value} {b:Br} {q:QP}
theorem xq {z:Nat}{v:Value}{ps:List (Nat×Nat)}(hp:aI z w v ps)(r:aA x vm vt w vm vt w1)(hf:∀g,v.ownBlock=some g->g≠x/\vm.ownBlock≠some g/\vt.ownBlock≠some g):aI z w1 v ps:=
 eO hp fun g hg=>r.block g (hp.lt g hg).2 (hf g hg).1 (hf g hg).2.1 (hf g hg).2.2
theorem tT (q:QP)(p:Nat×Nat)(hp:p.1<q.locals.length):∀y∈QP.ai q p,y.1<q.locals.length:=fun y hy=>by
 unfold QP.ai at hy;split at hy<;>simp at hy
 ·rcases hy with rfl|rfl<;>exact hp
 ·rw[hy];exact hp
theorem B7 (q:QP)(p:Nat×Nat):(QP.ai q p).length<=2:=by unfold QP.ai;split<;>simp
set_option maxRecDepth 20000 in
theorem sQ (h:dM w0 x a w b vi vm vt)(hq:PQ w0 a q v u)(bU:q.locals.length<=12)(t f:Nat×Nat)(ht:t.1<q.locals.length)(hf:f.1<q.locals.length)(hl:(QP.ai q t).length=(QP.ai q f).length):
  Calls Tryz.prog 123 #[.pointer (some ⟨x,0,none⟩),.agg #[.int .i64 (t.1:Nat),.int .i64 (t.2:Nat)],.agg #[.int .i64 (f.1:Nat),.int .i64 (f.2:Nat)]] w fun e w'=>e=.returned (.tuple #[])/\dM w0 x a w' (b.move q t f) vi vm vt/\aA x vm vt w vm vt w':=by
 obtain⟨W,hW⟩:∃W,(w.alloc (.cells #[.int .i64 (t.1:Nat),.int .i64 (t.2:Nat)] 119)).alloc (.cells #[.int .i64 (f.1:Nat),.int .i64 (f.2:Nat)] 119)=W:=⟨_,rfl⟩;have aG:Below w.heap.size w (w.alloc (.cells #[.int .i64 (t.1:Nat),.int .i64 (t.2:Nat)] 119)):=(Below.refl _ _).alloc (jC _) _;have iQ:(w.alloc (.cells #[.int .i64 (t.1:Nat),.int .i64 (t.2:Nat)] 119)).heap.size=w.heap.size+1:=by simp
 have rA:Below w.heap.size w W:=by rw[<-hW];exact aG.alloc aG.size _
 have Y2:W.heap.size=w.heap.size+2:=by rw[<-hW];simp
 have hT:W.heap[w.heap.size]?=some (.cells #[.int .i64 (t.1:Nat),.int .i64 (t.2:Nat)] 119 (0,0)):=by
  rw[<-hW];exact((((Below.refl _ (w.alloc (.cells #[.int .i64 (t.1:Nat),.int .i64 (t.2:Nat)] 119))).alloc (jC _) _).block _ (by omega))).trans jD
 have hF:W.heap[w.heap.size+1]?=some (.cells #[.int .i64 (f.1:Nat),.int .i64 (f.2:Nat)] 119 (0,0)):=by
  rw[<-hW,<-iQ];exact jD
 have HW:=h.below rA;have ez:∀k,w.heap.size<=k->k≠x/\vm.ownBlock≠some k/\vt.ownBlock≠some k:=fun k hk=>h.fresh hk
 have HC:Hid (∀W' vm' vt',aA x vm vt W vm' vt' W'->W'.cell? ⟨w.heap.size,0,none⟩=some (.int .i64 (t.1:Nat))/\W'.cell? ⟨w.heap.size,1,none⟩=some (.int .i64 (t.2:Nat))/\W'.cell? ⟨w.heap.size+1,0,none⟩=some (.int .i64 (f.1:Nat))/\W'.cell? ⟨w.heap.size+1,1,none⟩=some (.int .i64 (f.2:Nat))):=fun W' vm' vt' r=>
  ⟨(aK r (by omega) (ez _ (jC _)) 0).trans (by rw[cell_of_heap hT];rfl),(aK r (by omega) (ez _ (jC _)) 1).trans (by rw[cell_of_heap hT];rfl),(aK r (by omega) (ez _ (by omega)) 0).trans (by rw[cell_of_heap hF];rfl),(aK r (by omega) (ez _ (by omega)) 1).trans (by rw[cell_of_heap hF];rfl)⟩
 obtain⟨y0,y1,y2,y3⟩:=HC.out W vm vt (aA.refl _ _ _ _);have c3:=HW.prog;have KH:=fun(p:Nat×Nat) (hp:p.1<q.locals.length) (W':World) (hb:Below W.heap.size W W')=>c8 q p v u a W' (hq.below (HW.below hb).aZ).aM (hq.below (HW.below hb).aZ).loc hp
 have hdW:Below W.heap.size W W.drew:=(Below.refl _ _).drew;go_enter Tryz.func123,Tryz.ntmps123
 go_upto_region 1 with fail
 try rw[hW]
 clear hW;go_region_held3 (fun W'=>W'.cell? ⟨w.heap.size,0,none⟩=some (.int .i64 (t.1:Nat))/\W'.cell? ⟨w.heap.size,1,none⟩=some (.int .i64 (t.2:Nat))/\W'.cell? ⟨x,3,none⟩=some (.pointer (some ⟨a,0,none⟩))) (go_keep)
  (first
  |(go_at_call 102;go_fit (KH t ht _ hdW);rintro e w1 ⟨g1,k1,rfl,AY,ir⟩;have dH:Below W.heap.size W w1:=⟨ir.os,ir.tape,ir.output,ir.size,ir.block⟩;obtain⟨z0,z1,z2,z3⟩:=HC.out w1 vm vt (aA.of dH);have c4:=(HW.below dH).prog;clear ir))
 have Uq:Below W.heap.size W w1.drew:=dH.drew;go_upto_region 2 with fail
 go_region_held3 (fun W'=>W'.cell? ⟨w.heap.size+1,0,none⟩=some (.int .i64 (f.1:Nat))/\W'.cell? ⟨w.heap.size+1,1,none⟩=some (.int .i64 (f.2:Nat))/\W'.cell? ⟨x,3,none⟩=some (.pointer (some ⟨a,0,none⟩))) (go_keep)
  (first
  |(go_at_call 102;go_fit (KH f hf _ Uq);rintro e w2 ⟨g2,k2,rfl,me,kN⟩;have dT:Below w1.heap.size w1 w2:=⟨kN.os,kN.tape,kN.output,kN.size,kN.block⟩;have OE:=dH.trans (dT.mono dH.size);obtain⟨z4,z5,z6,z7⟩:=HC.out w2 vm vt (aA.of OE);have c5:=(HW.below OE).prog;clear kN))
 have gF:=HW.below OE;have AZ:aI W.heap.size w2 (.slice (some ⟨g1,0,none⟩) (QP.ai q f).length k1) (QP.ai q t):=aw (hl▸AY) dT;have G3:w.heap.size<=g1:=by have:=(AY.lt g1 rfl).1;simp at this;omega
 have OQ:w.heap.size<=g2:=by have:=(me.lt g2 rfl).1;have:=dH.size;simp at*;omega
 have hxt:=tT q t ht;have hxf:=tT q f hf;have HMV:Hid (b.fE q t f=Br.dS q (QP.ai q t) (QP.ai q f) (QP.ai q f).length b):=rfl;have ZM:=B7 q f;have Zh:Hid (aA x vm vt w vm vt w2):=aA.of (rA.trans (OE.mono rA.size));clear KH AY Uq hdW z0 z1 z2 z3 c4 y0 y1 y2 y3 c3 hT hF aG iQ z4 z5 z6 z7 c5;generalize hTS:QP.ai q t=ts at*;generalize hFS:QP.ai q f=fs at*;clear hTS hFS;go_wp2
 go_loopg [22] (fs.length) (fun g v22 wr=>∃(k:Nat),k<=fs.length/\g+k=fs.length/\v22=.int .i64 k/\dM w0 x a wr (Br.dS q ts fs k b) vi vm vt/\aA x vm vt w2 vm vt wr)
 case atStart=>exact⟨0,jQ _,rfl,rfl,gF,aA.refl _ _ _ _⟩
 case round=>
  obtain⟨k,hk,Ca,rfl,hO,hR⟩:=hrel;by_cases bg:k<fs.length
  ·have hpt:=xq AZ hR (fun g hg=>ez g (by simp only[Value.ownBlock,Option.some.injEq]at hg;omega));have hpf:=xq me hR (fun g hg=>ez g (by simp only[Value.ownBlock,Option.some.injEq]at hg;omega));obtain⟨ga,ea,-,hca,NL,q1,q2⟩:=bK hpt k (by omega);simp only[Option.some.injEq,Addr.mk.injEq,and_true]at ea;subst ea;obtain⟨gb,eb,-,B8,B9,q3,q4⟩:=bK hpf k bg;simp only[Option.some.injEq,Addr.mk.injEq,and_true]at eb;subst eb;have x1:=hxt (ts.getD k (0,0)) (by rw[jA,jB (by omega)];exact jL _);have x2:=hxf (fs.getD k (0,0)) (by rw[jA,jB (by omega)];exact jL _);have HS:Hid (Br.dS q ts fs (k+1) b=(Br.dS q ts fs k b).write q (ts.getD k (0,0)) ((Br.dS q ts fs k b).val q (fs.getD k (0,0)))):=rfl;generalize ts.getD k (0,0)=pt at*;generalize fs.getD k (0,0)=pf at*;generalize Br.dS q ts fs k b=bk at*;have eT:Below wr.heap.size wr (wr.alloc (.cells #[.int .i64 (pf.1:Nat),.int .i64 (pf.2:Nat)] 119)):=(Below.refl _ _).alloc (jC _) _;have hhx:(wr.alloc (.cells #[.int .i64 (pf.1:Nat),.int .i64 (pf.2:Nat)] 119)).heap[wr.heap.size]?=some (.cells #[.int .i64 (pf.1:Nat),.int .i64 (pf.2:Nat)] 119 (0,0)):=jD;have hsx:(wr.alloc (.cells #[.int .i64 (pf.1:Nat),.int .i64 (pf.2:Nat)] 119)).heap.size=wr.heap.size+1:=by simp
   have hkI:(k:Int)<fs.length:=by omega
   have iO:Below wr.heap.size wr (wr.alloc (.cells #[.int .i64 (pf.1:Nat),.int .i64 (pf.2:Nat)] 119)).drew:=eT.drew;have KV:=dL (hO.below iO) hq bU pf x2;have KW:=fun(W':World) (hb:Below wr.heap.size wr W')=>fw (hO.below hb) hq bU pt x1 (bk.val q pf)
   have YX:=hO.fresh (jC _);have hfg:=ez g1 G3;have p1:=(eT.cell (p:=⟨g1,k*2,none⟩) NL).trans q1;have p2:=(eT.cell (p:=⟨g1,k*2+1,none⟩) NL).trans q2;go_upto_region 5 with fail
   go_region_held3 (fun W'=>W'.cell? ⟨g1,k*2,none⟩=some (.int .i64 (pt.1:Nat))/\W'.cell? ⟨g1,k*2+1,none⟩=some (.int .i64 (pt.2:Nat))/\W'.cell? ⟨wr.heap.size,0,none⟩=some (.int .i64 (pf.1:Nat))/\W'.cell? ⟨wr.heap.size,1,none⟩=some (.int .i64 (pf.2:Nat))) (go_keep)
    (first
    |(go_at_call 74;go_fit KV;rintro e w3 ⟨rfl,cT⟩;have qR:Below wr.heap.size wr w3:=iO.trans (cT.mono iO.size);have hh3:=(cT.block wr.heap.size (by simp)).trans hhx;have o1:=(qR.cell (p:=⟨g1,k*2,none⟩) NL).trans q1;have o2:=(qR.cell (p:=⟨g1,k*2+1,none⟩) NL).trans q2;have o3:w3.cell? ⟨wr.heap.size,0,none⟩=some (.int .i64 (pf.1:Nat)):=(by rw[cell_of_heap hh3];rfl);have o4:w3.cell? ⟨wr.heap.size,1,none⟩=some (.int .i64 (pf.2:Nat)):=(by rw[cell_of_heap hh3];rfl);have Yg:wr.heap.size<w3.heap.size:=lt_of_heap hh3)
    |(go_at_call 76;go_fit (KW _ qR);rintro e w4 ⟨rfl,h4,r4⟩;have j1:=(aK r4 (jK NL qR.size) hfg (k*2)).trans o1;have j2:=(aK r4 (jK NL qR.size) hfg (k*2+1)).trans o2;have j3:=(aK r4 Yg YX 0).trans o3;have j4:=(aK r4 Yg YX 1).trans o4))
   all_goals go_wp2_with fail
   all_goals
    go_roundg (fs.length-(k+1))
    case measure=>omega
    case rel=>exact⟨k+1,by omega,by omega,by go_num,by rw[HS.out];exact h4,hR.trans ((aA.of qR).trans r4)⟩
  ·have mY:k=fs.length:=by omega
   subst mY;rw[<-HMV.out]at hO;have Vc:Hid (b.move q t f=if bA q f=true/\(b.fE q t f).val q f=1 then(b.fE q t f).write q (t.1,3) ((b.fE q t f).val q (f.1,3))else b.fE q t f):=rfl;generalize b.fE q t f=bm at*;have ZR:aA x vm vt W vm vt wr:=(aA.of OE).trans hR;obtain⟨z4,z5,z6,z7⟩:=HC.out wr vm vt ZR;have UL:w.heap.size+1<wr.heap.size:=by have:=ZR.size;omega
   have Va:Hid (∀W',Below wr.heap.size wr W'->W'.cell? ⟨w.heap.size,0,none⟩=some (.int .i64 (t.1:Nat))/\W'.cell? ⟨w.heap.size,1,none⟩=some (.int .i64 (t.2:Nat))/\W'.cell? ⟨w.heap.size+1,0,none⟩=some (.int .i64 (f.1:Nat))/\W'.cell? ⟨w.heap.size+1,1,none⟩=some (.int .i64 (f.2:Nat))):=fun W' hb=>HC.out W' vm vt (ZR.trans (aA.of hb))
   have KI:=Ce hO hq bU f hf;have KV:=fun(W':World) (hb:Below wr.heap.size wr W')=>dL (hO.below hb) hq bU f hf
   clear AZ me hxt hxf HMV hl ZM;cases hit:bA q f
   ·rw[hit]at KI;have HE:Hid (b.move q t f=bm):=by unfold Hid;rw[Vc.out,ja (by rw[hit];simp)]
    clear Vc hit KV;go_wp2_with (go_at_call 173;go_fit KI;rintro e w5 ⟨rfl,fM⟩)
    go_end0
    exact⟨rfl,by rw[HE.out];exact hO.below fM,Zh.out.trans (hR.trans (aA.of fM))⟩
   ·rw[hit]at KI;by_cases NS:bm.val q f=1
    ·have HE:Hid (b.move q t f=bm.write q (t.1,3) (bm.val q (f.1,3))):=by unfold Hid;rw[Vc.out,jb ⟨hit,NS⟩]
     have bv:(bm.val q f==1)=true:=by rw[NS];rfl
     clear Vc hit NS;go_upto_region 8 with(first
      |(go_at_call 173;go_fit KI;rintro e w5 ⟨rfl,fM⟩;obtain⟨o0,o1,o2,o3⟩:=Va.out _ fM)
      |(go_at_call 74;go_fit (KV _ fM);rintro e w6 ⟨rfl,ot⟩;have ov:=fM.trans (ot.mono fM.size);obtain⟨j0,j1,j2,j3⟩:=Va.out _ ov))
     have KCt:=fun W'=>lS t W'
     have KCf:=fun W'=>lS f W'
     have KX:=fun(W':World) (hb:Below wr.heap.size wr W')=>dL (hO.below hb) hq bU (f.1,3) hf
     have KY:=fun(W':World) (hb:Below wr.heap.size wr W')=>fw (hO.below hb) hq bU (t.1,3) ht (bm.val q (f.1,3))
     generalize bm.val q (f.1,3)=cv at*;have hd6:Below wr.heap.size wr w6.drew:=ov.drew;have Is:=ez w.heap.size (jC _);have RG:=ez (w.heap.size+1) (by omega);go_region_held3 (fun W'=>W'.cell? ⟨w.heap.size,0,none⟩=some (.int .i64 (t.1:Nat))/\W'.cell? ⟨w.heap.size,1,none⟩=some (.int .i64 (t.2:Nat))/\W'.cell? ⟨w.heap.size+1,0,none⟩=some (.int .i64 (f.1:Nat))/\W'.cell? ⟨w.heap.size+1,1,none⟩=some (.int .i64 (f.2:Nat))) (go_keep)
      (first
      |(go_at_call 124;have _:=Db;go_fit (KCf _);rintro e w8 ⟨rfl,Z0⟩;have YS:=Db.trans (Z0.mono Db.size);obtain⟨l0,l1,l2,l3⟩:=Va.out _ YS)
      |(go_at_call 124;go_fit (KCt _);rintro e w7 ⟨rfl,Rz⟩;have Db:=hd6.trans (Rz.mono hd6.size);obtain⟨i0,i1,i2,i3⟩:=Va.out _ Db)
      |(go_at_call 74;go_fit (KX _ YS);rintro e w9 ⟨rfl,Z1⟩;have Ug:=YS.trans (Z1.mono YS.size);obtain⟨m0,m1,m2,m3⟩:=Va.out _ Ug)
      |(go_at_call 76;go_fit (KY _ Ug);rintro e w10 ⟨rfl,Vi,r10⟩;have n0:=(aK r10 (jK (by omega) Ug.size) Is 0).trans m0;have n1:=(aK r10 (jK (by omega) Ug.size) Is 1).trans m1;have n2:=(aK r10 (jK UL Ug.size) RG 0).trans m2;have n3:=(aK r10 (jK UL Ug.size) RG 1).trans m3))
     all_goals go_wp2_with fail
     all_goals
      go_end0
      exact⟨rfl,by rw[HE.out];exact Vi,Zh.out.trans (hR.trans ((aA.of Ug).trans r10))⟩
    ·have HE:Hid (b.move q t f=bm):=by unfold Hid;rw[Vc.out,ja (fun e=>NS e.2)]
     have bv:(bm.val q f==1)=false:=by rw[jZ];exact NS
     clear Vc hit NS;go_wp2_with (first
      |(go_at_call 173;go_fit KI;rintro e w5 ⟨rfl,fM⟩;obtain⟨o0,o1,o2,o3⟩:=Va.out _ fM)
      |(go_at_call 74;go_fit (KV _ fM);rintro e w6 ⟨rfl,ot⟩;have ov:=fM.trans (ot.mono fM.size)))
     go_end0
     exact⟨rfl,by rw[HE.out];exact hO.below ov,Zh.out.trans (hR.trans (aA.of ov))⟩
end
end Ex
end Go.Proofs.YtmlgajhhnojdjaaGreatDoor

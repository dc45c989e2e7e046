import Derived.Test.YtmlgajhhnojdjaaGreatDoorUAV
set_option maxHeartbeats 8000000
namespace Go.Proofs.YtmlgajhhnojdjaaGreatDoor
namespace Ex
open Go Go.RowKit Sq Aux PrjJ PrjK PrjL PrjM PrjR PrjS PrjT FlwA FlwE Go.Proofs.YtmlgajhhnojdjaaGreatDoor.Own
section
variable {x a:Nat} {w w0:World} {vm vt vi v u:Value} {b:Br} {q:QP}
set_option maxRecDepth 20000 in
theorem Hu (h:dM w0 x a w b vi vm vt)(hq:PQ w0 a q v u)(bU:q.locals.length<=12){z nb:Nat}{l:ab}{ap an:Option Addr}{cp cn:Nat}(hl:aC z w0 l (.slice ap l.places.length cp) (.slice an l.next.length cn))(hk:fY q.locals.length nb l)(ak:l.op=2):
  Calls Tryz.prog 78 #[.pointer (some ⟨x,0,none⟩),.agg #[.int .i64 (l.num:Nat),.int .i64 (l.op:Nat),.slice ap l.places.length cp,.int .i64 l.number,.int .i64 l.flag,.slice an l.next.length cn]] w fun e w'=>e=.returned (.tuple #[])/\∃vi' vm' vt',dM w0 x a w' (b.write q (l.places.getD 0 (0,0)) l.number) vi' vm' vt'/\aA x vm vt w vm' vt' w':=by
 have hlen:l.places.length=1:=by rw[hk.bt,ak];rfl
 obtain⟨g,rfl,gP,hg,c0,c1⟩:=ax hl hlen 0 (by omega);have x0:=(hk.places (l.places.getD 0 (0,0)) (by rw[jA,jB (by omega)];exact jL _)).1;have hb:∀W,Below w0.heap.size w0 W->(W.cell? ⟨g,0,none⟩=some (.int .i64 ((l.places.getD 0 (0,0)).1:Nat))/\W.cell? ⟨g,1,none⟩=some (.int .i64 ((l.places.getD 0 (0,0)).2:Nat))):=fun W hW=>⟨(hW.cell (p:=⟨g,0,none⟩) hg).trans c0,(hW.cell (p:=⟨g,1,none⟩) hg).trans c1⟩
 have aF:Below w.heap.size w (w.alloc (.cells #[.int .i64 (l.num:Nat),.int .i64 (l.op:Nat),.slice (some ⟨g,0,none⟩) 1 cp,.int .i64 l.number,.int .i64 l.flag,.slice an l.next.length cn] 115)):=(Below.refl _ _).alloc (jC _) _;have jx:(w.alloc (.cells #[.int .i64 (l.num:Nat),.int .i64 (l.op:Nat),.slice (some ⟨g,0,none⟩) 1 cp,.int .i64 l.number,.int .i64 l.flag,.slice an l.next.length cn] 115)).heap[w.heap.size]?=some (.cells #[.int .i64 (l.num:Nat),.int .i64 (l.op:Nat),.slice (some ⟨g,0,none⟩) 1 cp,.int .i64 l.number,.int .i64 l.flag,.slice an l.next.length cn] 115 (0,0)):=jD;have kd:(w.alloc (.cells #[.int .i64 (l.num:Nat),.int .i64 (l.op:Nat),.slice (some ⟨g,0,none⟩) 1 cp,.int .i64 l.number,.int .i64 l.flag,.slice an l.next.length cn] 115)).heap.size=w.heap.size+1:=by simp
 have HA:=h.below aF;have ez:=h.fresh (jC _);have HL:Hid (∀W vm' vt',aA x vm vt (w.alloc (.cells #[.int .i64 (l.num:Nat),.int .i64 (l.op:Nat),.slice (some ⟨g,0,none⟩) 1 cp,.int .i64 l.number,.int .i64 l.flag,.slice an l.next.length cn] 115)) vm' vt' W->W.cell? ⟨w.heap.size,1,none⟩=some (.int .i64 (l.op:Nat))/\W.cell? ⟨w.heap.size,3,none⟩=some (.int .i64 l.number)/\W.cell? ⟨w.heap.size,4,none⟩=some (.int .i64 l.flag)):=fun W vm' vt' r=>⟨(aK r (by omega) ez 1).trans (by rw[cell_of_heap jx];rfl),(aK r (by omega) ez 3).trans (by rw[cell_of_heap jx];rfl),(aK r (by omega) ez 4).trans (by rw[cell_of_heap jx];rfl)⟩
 obtain⟨d0,d1⟩:=hb _ HA.aZ;rw[hlen];have b2:(((l.op:Nat):Int)==2)=true:=by rw[ak];rfl
 have KW:=fun(W:World) (hb:Below w.heap.size w W)=>fw (h.below hb) hq bU (l.places.getD 0 (0,0)) x0 l.number
 clear hl hk ak hlen c0 c1;generalize l.places.getD 0 (0,0)=p0 at*;have iO:Below w.heap.size w (w.alloc (.cells #[.int .i64 (l.num:Nat),.int .i64 (l.op:Nat),.slice (some ⟨g,0,none⟩) 1 cp,.int .i64 l.number,.int .i64 l.flag,.slice an l.next.length cn] 115)).drew:=aF.drew;have hdA:Below (w.alloc (.cells #[.int .i64 (l.num:Nat),.int .i64 (l.op:Nat),.slice (some ⟨g,0,none⟩) 1 cp,.int .i64 l.number,.int .i64 l.flag,.slice an l.next.length cn] 115)).heap.size (w.alloc (.cells #[.int .i64 (l.num:Nat),.int .i64 (l.op:Nat),.slice (some ⟨g,0,none⟩) 1 cp,.int .i64 l.number,.int .i64 l.flag,.slice an l.next.length cn] 115)) (w.alloc (.cells #[.int .i64 (l.num:Nat),.int .i64 (l.op:Nat),.slice (some ⟨g,0,none⟩) 1 cp,.int .i64 l.number,.int .i64 l.flag,.slice an l.next.length cn] 115)).drew:=(Below.refl _ _).drew;obtain⟨y1,y3,y4⟩:=HL.out _ _ _ (aA.refl _ _ _ _);go_enter Tryz.func78,Tryz.ntmps78
 go_upto_region 4 with fail
 go_region_held3 (fun W'=>W'.cell? ⟨g,0,none⟩=some (.int .i64 (p0.1:Nat))/\W'.cell? ⟨g,1,none⟩=some (.int .i64 (p0.2:Nat))/\W'.cell? ⟨w.heap.size,3,none⟩=some (.int .i64 l.number)) (go_keep)
  (first
  |(go_at_call 76;go_fit (KW _ iO);rintro e w4 ⟨rfl,h4,r4⟩;obtain⟨z0,z1⟩:=hb _ h4.aZ;obtain⟨z2,z3,z4⟩:=HL.out _ _ _ ((aA.of hdA).trans r4)))
 all_goals go_wp2_with fail
 all_goals
  go_end0
  exact⟨rfl,_,_,_,h4,(aA.of iO).trans r4⟩
theorem dM.fd (h:dM w0 x a w b vi vm vt):w.cell? ⟨x,4,none⟩=some vi/\w.frozen? ⟨x,4,none⟩=false:=h.eG.more 1
theorem dM.td (h:dM w0 x a w b vi vm vt){vi':Value}{l:List Int}(hf:cy w0 vi' l):dM w0 x a (w.setCell ⟨x,4,none⟩ vi') {b with aO:=l} vi' vm vt/\aA x vm vt w vm vt (w.setCell ⟨x,4,none⟩ vi'):=by
 obtain⟨h1,h2⟩:=h.eG.oK 1 vi';exact⟨⟨h1,h.aZ.trans (h2.below h.eG (jC _) h.aZ.size),h.cs,h.flags,hf⟩,h2⟩
set_option maxRecDepth 20000 in
theorem yQ (h:dM w0 x a w b vi vm vt):
  Calls Tryz.prog 103 #[.pointer (some ⟨x,4,none⟩)] w fun e w'=>e=.returned (.int .i64 (b.aO.headD 0))/\∃vi',dM w0 x a w' {b with aO:=b.aO.tail} vi' vm vt/\aA x vm vt w vm vt w':=by
 obtain⟨c4,f4⟩:=h.fd;have hF:=h.feed;cases lu:b.aO with
 |nil=>
  rw[lu]at hF;obtain⟨ad,c,rfl,h1,h2,-⟩:=hF;have hO:{b with aO:=([]:List Int)}=b:=by rw[<-lu]
  go_enter Tryz.func103,Tryz.ntmps103
  go_wp2
  go_ret
  exact⟨rfl,_,by rw[List.tail_nil,hO];exact h,aA.refl _ _ _ _⟩
 |cons v r=>
  rw[lu]at hF;have ZE:=hF;obtain⟨ad,c,rfl,h1,h2,h3⟩:=hF;obtain⟨g,f,rfl,hg,hc⟩:=h3 0 (by simp);have hT:=cy.tail ZE;obtain⟨h5,h6⟩:=h.td hT;have c0:w.cell? ⟨g,f,none⟩=some (.int .i64 v):=by
   rw[Nat.add_zero]at hc;exact(h.aZ.cell (p:=⟨g,f,none⟩) hg).trans hc
  simp only[List.length_cons]at h1 h2 h5 c4;have i0:¬((r.length:Int)+1=0):=by omega
  have i1:(((r.length:Int)+1)==0)=false:=by rw[jZ];omega
  have i2:(1:Int)<=(r.length:Int)+1:=by omega
  have hcI:(r.length:Int)+1<=(c:Int):=by omega
  unfold maxLen at h2;by_cases xU:c=1
  ·subst xU;have hr:r=[]:=List.length_eq_zero_iff.mp (by omega);subst hr;have Ua:cy w0 (.slice (some ⟨g,f,none⟩) 0 0) []:=⟨_,_,rfl,jC _,jQ _,fun j hj=>absurd hj (Nat.not_lt_zero _)⟩;obtain⟨k5,k6⟩:=h.td Ua;go_enter Tryz.func103,Tryz.ntmps103
   go_wp2
   go_ret
   exact⟨rfl,_,k5,k6⟩
  ·have AG:¬c-1=0:=by omega
   have hc3:¬c<=1:=by omega
   go_enter Tryz.func103,Tryz.ntmps103
   go_wp2
   go_ret
   exact⟨rfl,_,h5,h6⟩
set_option maxRecDepth 20000 in
theorem yN (h:dM w0 x a w b vi vm vt)(hq:PQ w0 a q v u)(bU:q.locals.length<=12){z nb:Nat}{l:ab}{ap an:Option Addr}{cp cn:Nat}(hl:aC z w0 l (.slice ap l.places.length cp) (.slice an l.next.length cn))(hk:fY q.locals.length nb l)(ak:l.op=3\/l.op=4\/l.op=5)(hr:∀p,bC (b.val q p)):
  Calls Tryz.prog 78 #[.pointer (some ⟨x,0,none⟩),.agg #[.int .i64 (l.num:Nat),.int .i64 (l.op:Nat),.slice ap l.places.length cp,.int .i64 l.number,.int .i64 l.flag,.slice an l.next.length cn]] w fun e w'=>e=.returned (.tuple #[])/\∃vi' vm' vt',dM w0 x a w' (b.calc q l) vi' vm' vt'/\aA x vm vt w vm' vt' w':=by
 have hlen:l.places.length=3:=by rcases ak with e|e|e<;>(rw[hk.bt,e];rfl)
 obtain⟨g,rfl,gP,hg,c0,c1⟩:=ax hl hlen 0 (by omega);obtain⟨g',e',-,-,c2,c3⟩:=ax hl hlen 1 (by omega);simp only[Option.some.injEq,Addr.mk.injEq,and_true]at e';subst e';obtain⟨g',e',-,-,c4,c5⟩:=ax hl hlen 2 (by omega);simp only[Option.some.injEq,Addr.mk.injEq,and_true]at e';subst e';have x0:=(hk.places (l.places.getD 0 (0,0)) (by rw[jA,jB (by omega)];exact jL _)).1;have x1:=(hk.places (l.places.getD 1 (0,0)) (by rw[jA,jB (by omega)];exact jL _)).1;have x2:=(hk.places (l.places.getD 2 (0,0)) (by rw[jA,jB (by omega)];exact jL _)).1;have hb:∀W,Below w0.heap.size w0 W->(W.cell? ⟨g,0,none⟩=some (.int .i64 ((l.places.getD 0 (0,0)).1:Nat))/\W.cell? ⟨g,1,none⟩=some (.int .i64 ((l.places.getD 0 (0,0)).2:Nat))/\W.cell? ⟨g,2,none⟩=some (.int .i64 ((l.places.getD 1 (0,0)).1:Nat))/\W.cell? ⟨g,3,none⟩=some (.int .i64 ((l.places.getD 1 (0,0)).2:Nat))/\W.cell? ⟨g,4,none⟩=some (.int .i64 ((l.places.getD 2 (0,0)).1:Nat))/\W.cell? ⟨g,5,none⟩=some (.int .i64 ((l.places.getD 2 (0,0)).2:Nat))):=fun W hW=>⟨(hW.cell (p:=⟨g,0,none⟩) hg).trans c0,(hW.cell (p:=⟨g,1,none⟩) hg).trans c1,(hW.cell (p:=⟨g,2,none⟩) hg).trans c2,(hW.cell (p:=⟨g,3,none⟩) hg).trans c3,(hW.cell (p:=⟨g,4,none⟩) hg).trans c4,(hW.cell (p:=⟨g,5,none⟩) hg).trans c5⟩
 have aF:Below w.heap.size w (w.alloc (.cells #[.int .i64 (l.num:Nat),.int .i64 (l.op:Nat),.slice (some ⟨g,0,none⟩) 3 cp,.int .i64 l.number,.int .i64 l.flag,.slice an l.next.length cn] 115)):=(Below.refl _ _).alloc (jC _) _;have jx:(w.alloc (.cells #[.int .i64 (l.num:Nat),.int .i64 (l.op:Nat),.slice (some ⟨g,0,none⟩) 3 cp,.int .i64 l.number,.int .i64 l.flag,.slice an l.next.length cn] 115)).heap[w.heap.size]?=some (.cells #[.int .i64 (l.num:Nat),.int .i64 (l.op:Nat),.slice (some ⟨g,0,none⟩) 3 cp,.int .i64 l.number,.int .i64 l.flag,.slice an l.next.length cn] 115 (0,0)):=jD;have kd:(w.alloc (.cells #[.int .i64 (l.num:Nat),.int .i64 (l.op:Nat),.slice (some ⟨g,0,none⟩) 3 cp,.int .i64 l.number,.int .i64 l.flag,.slice an l.next.length cn] 115)).heap.size=w.heap.size+1:=by simp
 have HA:=h.below aF;have ez:=h.fresh (jC _);have HL:Hid (∀W vm' vt',aA x vm vt (w.alloc (.cells #[.int .i64 (l.num:Nat),.int .i64 (l.op:Nat),.slice (some ⟨g,0,none⟩) 3 cp,.int .i64 l.number,.int .i64 l.flag,.slice an l.next.length cn] 115)) vm' vt' W->W.cell? ⟨w.heap.size,1,none⟩=some (.int .i64 (l.op:Nat))/\W.cell? ⟨w.heap.size,3,none⟩=some (.int .i64 l.number)/\W.cell? ⟨w.heap.size,4,none⟩=some (.int .i64 l.flag)):=fun W vm' vt' r=>⟨(aK r (by omega) ez 1).trans (by rw[cell_of_heap jx];rfl),(aK r (by omega) ez 3).trans (by rw[cell_of_heap jx];rfl),(aK r (by omega) ez 4).trans (by rw[cell_of_heap jx];rfl)⟩
 obtain⟨d0,d1,d2,d3,d4,d5⟩:=hb _ HA.aZ;rw[hlen];have b2:(((l.op:Nat):Int)==2)=false:=by rw[jZ];omega
 have KC:=gH (b:=b) HA hq bU hl hk (by omega) (fun e=>by omega) hr;rw[hlen]at KC;obtain⟨y1,y3,y4⟩:=HL.out _ _ _ (aA.refl _ _ _ _);have L7:((((l.op:Nat):Int)==3)=true)\/((((l.op:Nat):Int)==3)=false/\(((l.op:Nat):Int)==4)=true)\/((((l.op:Nat):Int)==3)=false/\(((l.op:Nat):Int)==4)=false/\(((l.op:Nat):Int)==5)=true):=by
  rcases ak with e|e|e<;>rw[e]<;>simp
 clear hl hk ak hlen c0 c1 c2 c3 c4 c5 hr;rcases L7 with b3|⟨b3,b4⟩|⟨b3,b4,b5⟩
 all_goals
  go_enter Tryz.func78,Tryz.ntmps78
  go_wp2_with (go_at_call 75;go_fit KC;rintro e w4 ⟨rfl,h4,r4⟩)
  go_end0
  exact⟨rfl,_,_,_,h4,(aA.of aF).trans r4⟩
set_option maxRecDepth 20000 in
theorem Oh (h:dM w0 x a w b vi vm vt)(hq:PQ w0 a q v u)(bU:q.locals.length<=12){z nb:Nat}{l:ab}{ap an:Option Addr}{cp cn:Nat}(hl:aC z w0 l (.slice ap l.places.length cp) (.slice an l.next.length cn))(hk:fY q.locals.length nb l)(ak:l.op=7):
  Calls Tryz.prog 78 #[.pointer (some ⟨x,0,none⟩),.agg #[.int .i64 (l.num:Nat),.int .i64 (l.op:Nat),.slice ap l.places.length cp,.int .i64 l.number,.int .i64 l.flag,.slice an l.next.length cn]] w fun e w'=>e=.returned (.tuple #[])/\∃vi' vm' vt',dM w0 x a w' (({b with aO:=b.aO.tail}:Br).write q (l.places.getD 0 (0,0)) (b.aO.headD 0)) vi' vm' vt'/\aA x vm vt w vm' vt' w':=by
 have hlen:l.places.length=1:=by rw[hk.bt,ak];rfl
 obtain⟨g,rfl,gP,hg,c0,c1⟩:=ax hl hlen 0 (by omega);have x0:=(hk.places (l.places.getD 0 (0,0)) (by rw[jA,jB (by omega)];exact jL _)).1;have hb:∀W,Below w0.heap.size w0 W->(W.cell? ⟨g,0,none⟩=some (.int .i64 ((l.places.getD 0 (0,0)).1:Nat))/\W.cell? ⟨g,1,none⟩=some (.int .i64 ((l.places.getD 0 (0,0)).2:Nat))):=fun W hW=>⟨(hW.cell (p:=⟨g,0,none⟩) hg).trans c0,(hW.cell (p:=⟨g,1,none⟩) hg).trans c1⟩
 have aF:Below w.heap.size w (w.alloc (.cells #[.int .i64 (l.num:Nat),.int .i64 (l.op:Nat),.slice (some ⟨g,0,none⟩) 1 cp,.int .i64 l.number,.int .i64 l.flag,.slice an l.next.length cn] 115)):=(Below.refl _ _).alloc (jC _) _;have jx:(w.alloc (.cells #[.int .i64 (l.num:Nat),.int .i64 (l.op:Nat),.slice (some ⟨g,0,none⟩) 1 cp,.int .i64 l.number,.int .i64 l.flag,.slice an l.next.length cn] 115)).heap[w.heap.size]?=some (.cells #[.int .i64 (l.num:Nat),.int .i64 (l.op:Nat),.slice (some ⟨g,0,none⟩) 1 cp,.int .i64 l.number,.int .i64 l.flag,.slice an l.next.length cn] 115 (0,0)):=jD;have kd:(w.alloc (.cells #[.int .i64 (l.num:Nat),.int .i64 (l.op:Nat),.slice (some ⟨g,0,none⟩) 1 cp,.int .i64 l.number,.int .i64 l.flag,.slice an l.next.length cn] 115)).heap.size=w.heap.size+1:=by simp
 have HA:=h.below aF;have ez:=h.fresh (jC _);have HL:Hid (∀W vm' vt',aA x vm vt (w.alloc (.cells #[.int .i64 (l.num:Nat),.int .i64 (l.op:Nat),.slice (some ⟨g,0,none⟩) 1 cp,.int .i64 l.number,.int .i64 l.flag,.slice an l.next.length cn] 115)) vm' vt' W->W.cell? ⟨w.heap.size,1,none⟩=some (.int .i64 (l.op:Nat))/\W.cell? ⟨w.heap.size,3,none⟩=some (.int .i64 l.number)/\W.cell? ⟨w.heap.size,4,none⟩=some (.int .i64 l.flag)):=fun W vm' vt' r=>⟨(aK r (by omega) ez 1).trans (by rw[cell_of_heap jx];rfl),(aK r (by omega) ez 3).trans (by rw[cell_of_heap jx];rfl),(aK r (by omega) ez 4).trans (by rw[cell_of_heap jx];rfl)⟩
 obtain⟨d0,d1⟩:=hb _ HA.aZ;rw[hlen];have b2:(((l.op:Nat):Int)==2)=false:=by rw[ak];rfl
 have b3:(((l.op:Nat):Int)==3)=false:=by rw[ak];rfl
 have b4:(((l.op:Nat):Int)==4)=false:=by rw[ak];rfl
 have b5:(((l.op:Nat):Int)==5)=false:=by rw[ak];rfl
 have b7:(((l.op:Nat):Int)==7)=true:=by rw[ak];rfl
 have KF:=fun(W:World) (hb:Below w.heap.size w W)=>yQ (h.below hb)
 have KW:=fun(W:World) (vi':Value) (hW:dM w0 x a W {b with aO:=b.aO.tail} vi' vm vt)=>fw hW hq bU (l.places.getD 0 (0,0)) x0 (b.aO.headD 0)
 generalize b.aO.headD 0=hv at*;clear hl hk ak hlen c0 c1;generalize l.places.getD 0 (0,0)=p0 at*;have iO:Below w.heap.size w (w.alloc (.cells #[.int .i64 (l.num:Nat),.int .i64 (l.op:Nat),.slice (some ⟨g,0,none⟩) 1 cp,.int .i64 l.number,.int .i64 l.flag,.slice an l.next.length cn] 115)).drew:=aF.drew;go_enter Tryz.func78,Tryz.ntmps78
 go_upto_region 10 with fail
 go_region_held3 (fun W'=>W'.cell? ⟨g,0,none⟩=some (.int .i64 (p0.1:Nat))/\W'.cell? ⟨g,1,none⟩=some (.int .i64 (p0.2:Nat))) (go_keep)
  (first
  |(go_at_call 103;go_fit (KF _ iO);rintro e w3 ⟨rfl,vi3,h3,r3⟩;obtain⟨o0,o1⟩:=hb _ h3.aZ)
  |(go_at_call 76;go_fit (KW _ _ h3);rintro e w4 ⟨rfl,h4,r4⟩;obtain⟨z0,z1⟩:=hb _ h4.aZ))
 all_goals go_wp2_with fail
 all_goals
  go_end0
  exact⟨rfl,_,_,_,h4,(aA.of iO).trans (r3.trans r4)⟩
set_option maxRecDepth 20000 in
theorem Ht (h:dM w0 x a w b vi vm vt)(hq:PQ w0 a q v u)(bU:q.locals.length<=12){z nb:Nat}{l:ab}{ap an:Option Addr}{cp cn:Nat}(hl:aC z w0 l (.slice ap l.places.length cp) (.slice an l.next.length cn))(hk:fY q.locals.length nb l)(ak:l.op=8)(hr:∀p,bC (b.val q p))(ok:b.yd.Ok)(iD:Pow w0)(iG:11<=w0.heap.size):
  Calls Tryz.prog 78 #[.pointer (some ⟨x,0,none⟩),.agg #[.int .i64 (l.num:Nat),.int .i64 (l.op:Nat),.slice ap l.places.length cp,.int .i64 l.number,.int .i64 l.flag,.slice an l.next.length cn]] w fun e w'=>e=.returned (.tuple #[])/\∃vi' vm' vt',dM w0 x a w' ({b with yd:=b.yd.note 111 (b.val q (l.places.getD 0 (0,0)))}) vi' vm' vt'/\aA x vm vt w vm' vt' w':=by
 have hlen:l.places.length=1:=by rw[hk.bt,ak];rfl
 obtain⟨g,rfl,gP,hg,c0,c1⟩:=ax hl hlen 0 (by omega);have x0:=(hk.places (l.places.getD 0 (0,0)) (by rw[jA,jB (by omega)];exact jL _)).1;have hb:∀W,Below w0.heap.size w0 W->(W.cell? ⟨g,0,none⟩=some (.int .i64 ((l.places.getD 0 (0,0)).1:Nat))/\W.cell? ⟨g,1,none⟩=some (.int .i64 ((l.places.getD 0 (0,0)).2:Nat))):=fun W hW=>⟨(hW.cell (p:=⟨g,0,none⟩) hg).trans c0,(hW.cell (p:=⟨g,1,none⟩) hg).trans c1⟩
 have aF:Below w.heap.size w (w.alloc (.cells #[.int .i64 (l.num:Nat),.int .i64 (l.op:Nat),.slice (some ⟨g,0,none⟩) 1 cp,.int .i64 l.number,.int .i64 l.flag,.slice an l.next.length cn] 115)):=(Below.refl _ _).alloc (jC _) _;have jx:(w.alloc (.cells #[.int .i64 (l.num:Nat),.int .i64 (l.op:Nat),.slice (some ⟨g,0,none⟩) 1 cp,.int .i64 l.number,.int .i64 l.flag,.slice an l.next.length cn] 115)).heap[w.heap.size]?=some (.cells #[.int .i64 (l.num:Nat),.int .i64 (l.op:Nat),.slice (some ⟨g,0,none⟩) 1 cp,.int .i64 l.number,.int .i64 l.flag,.slice an l.next.length cn] 115 (0,0)):=jD;have kd:(w.alloc (.cells #[.int .i64 (l.num:Nat),.int .i64 (l.op:Nat),.slice (some ⟨g,0,none⟩) 1 cp,.int .i64 l.number,.int .i64 l.flag,.slice an l.next.length cn] 115)).heap.size=w.heap.size+1:=by simp
 have HA:=h.below aF;have ez:=h.fresh (jC _);have HL:Hid (∀W vm' vt',aA x vm vt (w.alloc (.cells #[.int .i64 (l.num:Nat),.int .i64 (l.op:Nat),.slice (some ⟨g,0,none⟩) 1 cp,.int .i64 l.number,.int .i64 l.flag,.slice an l.next.length cn] 115)) vm' vt' W->W.cell? ⟨w.heap.size,1,none⟩=some (.int .i64 (l.op:Nat))/\W.cell? ⟨w.heap.size,3,none⟩=some (.int .i64 l.number)/\W.cell? ⟨w.heap.size,4,none⟩=some (.int .i64 l.flag)):=fun W vm' vt' r=>⟨(aK r (by omega) ez 1).trans (by rw[cell_of_heap jx];rfl),(aK r (by omega) ez 3).trans (by rw[cell_of_heap jx];rfl),(aK r (by omega) ez 4).trans (by rw[cell_of_heap jx];rfl)⟩
 obtain⟨d0,d1⟩:=hb _ HA.aZ;rw[hlen];have b2:(((l.op:Nat):Int)==2)=false:=by rw[ak];rfl
 have b3:(((l.op:Nat):Int)==3)=false:=by rw[ak];rfl
 have b4:(((l.op:Nat):Int)==4)=false:=by rw[ak];rfl
 have b5:(((l.op:Nat):Int)==5)=false:=by rw[ak];rfl
 have b7:(((l.op:Nat):Int)==7)=false:=by rw[ak];rfl
 have b8:(((l.op:Nat):Int)==8)=true:=by rw[ak];rfl
 have KV:=fun(W:World) (hb:Below w.heap.size w W)=>dL (h.below hb) hq bU (l.places.getD 0 (0,0)) x0
 have KP:=fun(W:World) (hb:Below w.heap.size w W)=>Ab (h.below hb).eG (b.val q (l.places.getD 0 (0,0))) (hr _) (iD.below (h.below hb).aZ iG) ok
 clear hl hk ak hlen c0 c1 hr;generalize l.places.getD 0 (0,0)=p0 at*;have iO:Below w.heap.size w (w.alloc (.cells #[.int .i64 (l.num:Nat),.int .i64 (l.op:Nat),.slice (some ⟨g,0,none⟩) 1 cp,.int .i64 l.number,.int .i64 l.flag,.slice an l.next.length cn] 115)).drew:=aF.drew;go_enter Tryz.func78,Tryz.ntmps78
 go_upto_region 12 with fail
 go_region_held3 (fun W'=>W'.cell? ⟨g,0,none⟩=some (.int .i64 (p0.1:Nat))/\W'.cell? ⟨g,1,none⟩=some (.int .i64 (p0.2:Nat))) (go_keep)
  (first
  |(go_at_call 74;go_fit (KV _ iO);rintro e w3 ⟨rfl,sC⟩;have cT:=iO.trans (sC.mono iO.size);obtain⟨o0,o1⟩:=hb _ (h.below cT).aZ)
  |(go_at_call 104;go_fit (KP _ cT);rintro e w4 ⟨rfl,vm4,vt4,y4,r4⟩;have h4:=(h.below cT).qe y4 r4;obtain⟨z0,z1⟩:=hb _ h4.aZ))
 all_goals go_wp2_with fail
 all_goals
  go_end0
  exact⟨rfl,_,_,_,h4,(aA.of cT).trans r4⟩
set_option maxRecDepth 20000 in
theorem CY (h:dM w0 x a w b vi vm vt)(hq:PQ w0 a q v u)(bU:q.locals.length<=12){z nb:Nat}{l:ab}{ap an:Option Addr}{cp cn:Nat}(hl:aC z w0 l (.slice ap l.places.length cp) (.slice an l.next.length cn))(hk:fY q.locals.length nb l)(ak:l.op=10)(_hr:∀p,bC (b.val q p))(ok:b.yd.Ok)(iD:Pow w0)(iG:11<=w0.heap.size)(eT:1<=b.val q (l.places.getD 1 (0,0))/\b.val q (l.places.getD 1 (0,0))<=b.yd.made.length):
  Calls Tryz.prog 78 #[.pointer (some ⟨x,0,none⟩),.agg #[.int .i64 (l.num:Nat),.int .i64 (l.op:Nat),.slice ap l.places.length cp,.int .i64 l.number,.int .i64 l.flag,.slice an l.next.length cn]] w fun e w'=>e=.returned (.tuple #[])/\∃vi' vm' vt',dM w0 x a w' (({b with yd:=b.yd.load (b.val q (l.places.getD 1 (0,0))).toNat}:Br).write q (l.places.getD 0 (0,0)) (b.yd.at (b.val q (l.places.getD 1 (0,0))).toNat).1) vi' vm' vt'/\aA x vm vt w vm' vt' w':=by
 have hlen:l.places.length=2:=by rw[hk.bt,ak];rfl
 obtain⟨g,rfl,gP,hg,c0,c1⟩:=ax hl hlen 0 (by omega);obtain⟨g',e',-,-,c2,c3⟩:=ax hl hlen 1 (by omega);simp only[Option.some.injEq,Addr.mk.injEq,and_true]at e';subst e';have x0:=(hk.places (l.places.getD 0 (0,0)) (by rw[jA,jB (by omega)];exact jL _)).1;have x1:=(hk.places (l.places.getD 1 (0,0)) (by rw[jA,jB (by omega)];exact jL _)).1;have hb:∀W,Below w0.heap.size w0 W->(W.cell? ⟨g,0,none⟩=some (.int .i64 ((l.places.getD 0 (0,0)).1:Nat))/\W.cell? ⟨g,1,none⟩=some (.int .i64 ((l.places.getD 0 (0,0)).2:Nat))/\W.cell? ⟨g,2,none⟩=some (.int .i64 ((l.places.getD 1 (0,0)).1:Nat))/\W.cell? ⟨g,3,none⟩=some (.int .i64 ((l.places.getD 1 (0,0)).2:Nat))):=fun W hW=>⟨(hW.cell (p:=⟨g,0,none⟩) hg).trans c0,(hW.cell (p:=⟨g,1,none⟩) hg).trans c1,(hW.cell (p:=⟨g,2,none⟩) hg).trans c2,(hW.cell (p:=⟨g,3,none⟩) hg).trans c3⟩
 have aF:Below w.heap.size w (w.alloc (.cells #[.int .i64 (l.num:Nat),.int .i64 (l.op:Nat),.slice (some ⟨g,0,none⟩) 2 cp,.int .i64 l.number,.int .i64 l.flag,.slice an l.next.length cn] 115)):=(Below.refl _ _).alloc (jC _) _;have jx:(w.alloc (.cells #[.int .i64 (l.num:Nat),.int .i64 (l.op:Nat),.slice (some ⟨g,0,none⟩) 2 cp,.int .i64 l.number,.int .i64 l.flag,.slice an l.next.length cn] 115)).heap[w.heap.size]?=some (.cells #[.int .i64 (l.num:Nat),.int .i64 (l.op:Nat),.slice (some ⟨g,0,none⟩) 2 cp,.int .i64 l.number,.int .i64 l.flag,.slice an l.next.length cn] 115 (0,0)):=jD;have kd:(w.alloc (.cells #[.int .i64 (l.num:Nat),.int .i64 (l.op:Nat),.slice (some ⟨g,0,none⟩) 2 cp,.int .i64 l.number,.int .i64 l.flag,.slice an l.next.length cn] 115)).heap.size=w.heap.size+1:=by simp
 have HA:=h.below aF;have ez:=h.fresh (jC _);have HL:Hid (∀W vm' vt',aA x vm vt (w.alloc (.cells #[.int .i64 (l.num:Nat),.int .i64 (l.op:Nat),.slice (some ⟨g,0,none⟩) 2 cp,.int .i64 l.number,.int .i64 l.flag,.slice an l.next.length cn] 115)) vm' vt' W->W.cell? ⟨w.heap.size,1,none⟩=some (.int .i64 (l.op:Nat))/\W.cell? ⟨w.heap.size,3,none⟩=some (.int .i64 l.number)/\W.cell? ⟨w.heap.size,4,none⟩=some (.int .i64 l.flag)):=fun W vm' vt' r=>⟨(aK r (by omega) ez 1).trans (by rw[cell_of_heap jx];rfl),(aK r (by omega) ez 3).trans (by rw[cell_of_heap jx];rfl),(aK r (by omega) ez 4).trans (by rw[cell_of_heap jx];rfl)⟩
 obtain⟨d0,d1,d2,d3⟩:=hb _ HA.aZ;rw[hlen];have b2:(((l.op:Nat):Int)==2)=false:=by rw[ak];rfl
 have b3:(((l.op:Nat):Int)==3)=false:=by rw[ak];rfl
 have b4:(((l.op:Nat):Int)==4)=false:=by rw[ak];rfl
 have b5:(((l.op:Nat):Int)==5)=false:=by rw[ak];rfl
 have b7:(((l.op:Nat):Int)==7)=false:=by rw[ak];rfl
 have b8:(((l.op:Nat):Int)==8)=false:=by rw[ak];rfl
 have b10:(((l.op:Nat):Int)==10)=true:=by rw[ak];rfl
 obtain⟨m,hm⟩:∃m:Nat,b.val q (l.places.getD 1 (0,0))=m:=⟨(b.val q (l.places.getD 1 (0,0))).toNat,by omega⟩;have Tp:(b.val q (l.places.getD 1 (0,0))).toNat=m:=by omega
 rw[Tp];have KN:=fun(W:World) (hb:Below w.heap.size w W)=>qx (h.below hb) hq bU (l.places.getD 1 (0,0)) x1
 rw[hm]at KN;have KL:=fun(W:World) (hb:Below w.heap.size w W)=>FI (h.below hb).eG m (by omega) (by omega) (iD.below (h.below hb).aZ iG) ok
 have KW:=fun(W:World) (vm' vt':Value) (hW:dM w0 x a W {b with yd:=b.yd.load m} vi vm' vt')=>fw hW hq bU (l.places.getD 0 (0,0)) x0 (b.yd.at m).1
 clear hl hk ak hlen c0 c1 c2 c3 _hr hm Tp eT;generalize l.places.getD 0 (0,0)=p0 at*;generalize l.places.getD 1 (0,0)=p1 at*;have iO:Below w.heap.size w (w.alloc (.cells #[.int .i64 (l.num:Nat),.int .i64 (l.op:Nat),.slice (some ⟨g,0,none⟩) 2 cp,.int .i64 l.number,.int .i64 l.flag,.slice an l.next.length cn] 115)).drew:=aF.drew;go_enter Tryz.func78,Tryz.ntmps78
 go_upto_region 14 with fail
 go_region_held3 (fun W'=>W'.cell? ⟨g,0,none⟩=some (.int .i64 (p0.1:Nat))/\W'.cell? ⟨g,1,none⟩=some (.int .i64 (p0.2:Nat))/\W'.cell? ⟨g,2,none⟩=some (.int .i64 (p1.1:Nat))/\W'.cell? ⟨g,3,none⟩=some (.int .i64 (p1.2:Nat))) (go_keep)
  (first
  |(go_at_call 122;go_fit (KN _ iO);rintro e w3 ⟨rfl,sC⟩;have cT:=iO.trans (sC.mono iO.size);obtain⟨o0,o1,o2,o3⟩:=hb _ (h.below cT).aZ)
  |(go_at_call 105;go_fit (KL _ cT);rintro e w4 ⟨rfl,vm4,vt4,y4,r4⟩;have h4:=(h.below cT).qe y4 r4;obtain⟨z0,z1,z2,z3⟩:=hb _ h4.aZ)
  |(go_at_call 76;go_fit (KW _ _ _ h4);rintro e w5 ⟨rfl,h5,r5⟩;obtain⟨t0,t1,t2,t3⟩:=hb _ h5.aZ))
 all_goals go_wp2_with fail
 all_goals
  go_end0
  exact⟨rfl,_,_,_,h5,(aA.of cT).trans (r4.trans r5)⟩
set_option maxRecDepth 20000 in
theorem yO (h:dM w0 x a w b vi vm vt)(hq:PQ w0 a q v u)(bU:q.locals.length<=12){z nb:Nat}{l:ab}{ap an:Option Addr}{cp cn:Nat}(hl:aC z w0 l (.slice ap l.places.length cp) (.slice an l.next.length cn))(hk:fY q.locals.length nb l)(ak:l.op=11)(_hr:∀p,bC (b.val q p))(ok:b.yd.Ok)(iD:Pow w0)(iG:11<=w0.heap.size)(eT:1<=b.val q (l.places.getD 0 (0,0))/\b.val q (l.places.getD 0 (0,0))<=b.yd.made.length):
  Calls Tryz.prog 78 #[.pointer (some ⟨x,0,none⟩),.agg #[.int .i64 (l.num:Nat),.int .i64 (l.op:Nat),.slice ap l.places.length cp,.int .i64 l.number,.int .i64 l.flag,.slice an l.next.length cn]] w fun e w'=>e=.returned (.tuple #[])/\∃vi' vm' vt',dM w0 x a w' ({b with yd:=b.yd.store (b.val q (l.places.getD 0 (0,0))).toNat (b.val q (l.places.getD 1 (0,0)))}) vi' vm' vt'/\aA x vm vt w vm' vt' w':=by
 have hlen:l.places.length=2:=by rw[hk.bt,ak];rfl
 obtain⟨g,rfl,gP,hg,c0,c1⟩:=ax hl hlen 0 (by omega);obtain⟨g',e',-,-,c2,c3⟩:=ax hl hlen 1 (by omega);simp only[Option.some.injEq,Addr.mk.injEq,and_true]at e';subst e';have x0:=(hk.places (l.places.getD 0 (0,0)) (by rw[jA,jB (by omega)];exact jL _)).1;have x1:=(hk.places (l.places.getD 1 (0,0)) (by rw[jA,jB (by omega)];exact jL _)).1;have hb:∀W,Below w0.heap.size w0 W->(W.cell? ⟨g,0,none⟩=some (.int .i64 ((l.places.getD 0 (0,0)).1:Nat))/\W.cell? ⟨g,1,none⟩=some (.int .i64 ((l.places.getD 0 (0,0)).2:Nat))/\W.cell? ⟨g,2,none⟩=some (.int .i64 ((l.places.getD 1 (0,0)).1:Nat))/\W.cell? ⟨g,3,none⟩=some (.int .i64 ((l.places.getD 1 (0,0)).2:Nat))):=fun W hW=>⟨(hW.cell (p:=⟨g,0,none⟩) hg).trans c0,(hW.cell (p:=⟨g,1,none⟩) hg).trans c1,(hW.cell (p:=⟨g,2,none⟩) hg).trans c2,(hW.cell (p:=⟨g,3,none⟩) hg).trans c3⟩
 have aF:Below w.heap.size w (w.alloc (.cells #[.int .i64 (l.num:Nat),.int .i64 (l.op:Nat),.slice (some ⟨g,0,none⟩) 2 cp,.int .i64 l.number,.int .i64 l.flag,.slice an l.next.length cn] 115)):=(Below.refl _ _).alloc (jC _) _;have jx:(w.alloc (.cells #[.int .i64 (l.num:Nat),.int .i64 (l.op:Nat),.slice (some ⟨g,0,none⟩) 2 cp,.int .i64 l.number,.int .i64 l.flag,.slice an l.next.length cn] 115)).heap[w.heap.size]?=some (.cells #[.int .i64 (l.num:Nat),.int .i64 (l.op:Nat),.slice (some ⟨g,0,none⟩) 2 cp,.int .i64 l.number,.int .i64 l.flag,.slice an l.next.length cn] 115 (0,0)):=jD;have kd:(w.alloc (.cells #[.int .i64 (l.num:Nat),.int .i64 (l.op:Nat),.slice (some ⟨g,0,none⟩) 2 cp,.int .i64 l.number,.int .i64 l.flag,.slice an l.next.length cn] 115)).heap.size=w.heap.size+1:=by simp
 have HA:=h.below aF;have ez:=h.fresh (jC _);have HL:Hid (∀W vm' vt',aA x vm vt (w.alloc (.cells #[.int .i64 (l.num:Nat),.int .i64 (l.op:Nat),.slice (some ⟨g,0,none⟩) 2 cp,.int .i64 l.number,.int .i64 l.flag,.slice an l.next.length cn] 115)) vm' vt' W->W.cell? ⟨w.heap.size,1,none⟩=some (.int .i64 (l.op:Nat))/\W.cell? ⟨w.heap.size,3,none⟩=some (.int .i64 l.number)/\W.cell? ⟨w.heap.size,4,none⟩=some (.int .i64 l.flag)):=fun W vm' vt' r=>⟨(aK r (by omega) ez 1).trans (by rw[cell_of_heap jx];rfl),(aK r (by omega) ez 3).trans (by rw[cell_of_heap jx];rfl),(aK r (by omega) ez 4).trans (by rw[cell_of_heap jx];rfl)⟩
 obtain⟨d0,d1,d2,d3⟩:=hb _ HA.aZ;rw[hlen];have b2:(((l.op:Nat):Int)==2)=false:=by rw[ak];rfl
 have b3:(((l.op:Nat):Int)==3)=false:=by rw[ak];rfl
 have b4:(((l.op:Nat):Int)==4)=false:=by rw[ak];rfl
 have b5:(((l.op:Nat):Int)==5)=false:=by rw[ak];rfl
 have b7:(((l.op:Nat):Int)==7)=false:=by rw[ak];rfl
 have b8:(((l.op:Nat):Int)==8)=false:=by rw[ak];rfl
 have b10:(((l.op:Nat):Int)==10)=false:=by rw[ak];rfl
 have b11:(((l.op:Nat):Int)==11)=true:=by rw[ak];rfl
 obtain⟨m,hm⟩:∃m:Nat,b.val q (l.places.getD 0 (0,0))=m:=⟨(b.val q (l.places.getD 0 (0,0))).toNat,by omega⟩;have Tp:(b.val q (l.places.getD 0 (0,0))).toNat=m:=by omega
 rw[Tp];have KN:=fun(W:World) (hb:Below w.heap.size w W)=>qx (h.below hb) hq bU (l.places.getD 0 (0,0)) x0
 rw[hm]at KN;have KV:=fun(W:World) (hb:Below w.heap.size w W)=>dL (h.below hb) hq bU (l.places.getD 1 (0,0)) x1
 have KS:=fun(W:World) (hb:Below w.heap.size w W)=>CE (h.below hb).eG m (by omega) (by omega) (b.val q (l.places.getD 1 (0,0))) (iD.below (h.below hb).aZ iG) ok
 clear hl hk ak hlen c0 c1 c2 c3 _hr hm Tp eT;generalize l.places.getD 0 (0,0)=p0 at*;generalize l.places.getD 1 (0,0)=p1 at*;have iO:Below w.heap.size w (w.alloc (.cells #[.int .i64 (l.num:Nat),.int .i64 (l.op:Nat),.slice (some ⟨g,0,none⟩) 2 cp,.int .i64 l.number,.int .i64 l.flag,.slice an l.next.length cn] 115)).drew:=aF.drew;go_enter Tryz.func78,Tryz.ntmps78
 go_upto_region 16 with fail
 go_region_held3 (fun W'=>W'.cell? ⟨g,0,none⟩=some (.int .i64 (p0.1:Nat))/\W'.cell? ⟨g,1,none⟩=some (.int .i64 (p0.2:Nat))/\W'.cell? ⟨g,2,none⟩=some (.int .i64 (p1.1:Nat))/\W'.cell? ⟨g,3,none⟩=some (.int .i64 (p1.2:Nat))) (go_keep)
  (first
  |(go_at_call 122;go_fit (KN _ iO);rintro e w3 ⟨rfl,sC⟩;have cT:=iO.trans (sC.mono iO.size);obtain⟨o0,o1,o2,o3⟩:=hb _ (h.below cT).aZ)
  |(go_at_call 74;go_fit (KV _ cT);rintro e w6 ⟨rfl,ov⟩;have ot:=cT.trans (ov.mono cT.size);obtain⟨t0,t1,t2,t3⟩:=hb _ (h.below ot).aZ)
  |(go_at_call 106;go_fit (KS _ ot);rintro e w4 ⟨rfl,vm4,vt4,y4,r4⟩;have h4:=(h.below ot).qe y4 r4;obtain⟨z0,z1,z2,z3⟩:=hb _ h4.aZ))
 all_goals go_wp2_with fail
 all_goals
  go_end0
  exact⟨rfl,_,_,_,h4,(aA.of ot).trans r4⟩
set_option maxRecDepth 20000 in
theorem Ri (h:dM w0 x a w b vi vm vt)(hq:PQ w0 a q v u)(bU:q.locals.length<=12){z nb:Nat}{l:ab}{ap an:Option Addr}{cp cn:Nat}(hl:aC z w0 l (.slice ap l.places.length cp) (.slice an l.next.length cn))(hk:fY q.locals.length nb l)(ak:l.op=16)(_hr:∀p,bC (b.val q p))(ok:b.yd.Ok)(iD:Pow w0)(iG:11<=w0.heap.size)(eT:1<=b.val q (l.places.getD 0 (0,0))/\b.val q (l.places.getD 0 (0,0))<=b.yd.made.length):
  Calls Tryz.prog 78 #[.pointer (some ⟨x,0,none⟩),.agg #[.int .i64 (l.num:Nat),.int .i64 (l.op:Nat),.slice ap l.places.length cp,.int .i64 l.number,.int .i64 l.flag,.slice an l.next.length cn]] w fun e w'=>e=.returned (.tuple #[])/\∃vi' vm' vt',dM w0 x a w' ({b with yd:=b.yd.free (b.val q (l.places.getD 0 (0,0))).toNat}) vi' vm' vt'/\aA x vm vt w vm' vt' w':=by
 have hlen:l.places.length=1:=by rw[hk.bt,ak];rfl
 obtain⟨g,rfl,gP,hg,c0,c1⟩:=ax hl hlen 0 (by omega);have x0:=(hk.places (l.places.getD 0 (0,0)) (by rw[jA,jB (by omega)];exact jL _)).1;have hb:∀W,Below w0.heap.size w0 W->(W.cell? ⟨g,0,none⟩=some (.int .i64 ((l.places.getD 0 (0,0)).1:Nat))/\W.cell? ⟨g,1,none⟩=some (.int .i64 ((l.places.getD 0 (0,0)).2:Nat))):=fun W hW=>⟨(hW.cell (p:=⟨g,0,none⟩) hg).trans c0,(hW.cell (p:=⟨g,1,none⟩) hg).trans c1⟩
 have aF:Below w.heap.size w (w.alloc (.cells #[.int .i64 (l.num:Nat),.int .i64 (l.op:Nat),.slice (some ⟨g,0,none⟩) 1 cp,.int .i64 l.number,.int .i64 l.flag,.slice an l.next.length cn] 115)):=(Below.refl _ _).alloc (jC _) _;have jx:(w.alloc (.cells #[.int .i64 (l.num:Nat),.int .i64 (l.op:Nat),.slice (some ⟨g,0,none⟩) 1 cp,.int .i64 l.number,.int .i64 l.flag,.slice an l.next.length cn] 115)).heap[w.heap.size]?=some (.cells #[.int .i64 (l.num:Nat),.int .i64 (l.op:Nat),.slice (some ⟨g,0,none⟩) 1 cp,.int .i64 l.number,.int .i64 l.flag,.slice an l.next.length cn] 115 (0,0)):=jD;have kd:(w.alloc (.cells #[.int .i64 (l.num:Nat),.int .i64 (l.op:Nat),.slice (some ⟨g,0,none⟩) 1 cp,.int .i64 l.number,.int .i64 l.flag,.slice an l.next.length cn] 115)).heap.size=w.heap.size+1:=by simp
 have HA:=h.below aF;have ez:=h.fresh (jC _);have HL:Hid (∀W vm' vt',aA x vm vt (w.alloc (.cells #[.int .i64 (l.num:Nat),.int .i64 (l.op:Nat),.slice (some ⟨g,0,none⟩) 1 cp,.int .i64 l.number,.int .i64 l.flag,.slice an l.next.length cn] 115)) vm' vt' W->W.cell? ⟨w.heap.size,1,none⟩=some (.int .i64 (l.op:Nat))/\W.cell? ⟨w.heap.size,3,none⟩=some (.int .i64 l.number)/\W.cell? ⟨w.heap.size,4,none⟩=some (.int .i64 l.flag)):=fun W vm' vt' r=>⟨(aK r (by omega) ez 1).trans (by rw[cell_of_heap jx];rfl),(aK r (by omega) ez 3).trans (by rw[cell_of_heap jx];rfl),(aK r (by omega) ez 4).trans (by rw[cell_of_heap jx];rfl)⟩
 obtain⟨d0,d1⟩:=hb _ HA.aZ;rw[hlen];have b2:(((l.op:Nat):Int)==2)=false:=by rw[ak];rfl
 have b3:(((l.op:Nat):Int)==3)=false:=by rw[ak];rfl
 have b4:(((l.op:Nat):Int)==4)=false:=by rw[ak];rfl
 have b5:(((l.op:Nat):Int)==5)=false:=by rw[ak];rfl
 have b7:(((l.op:Nat):Int)==7)=false:=by rw[ak];rfl
 have b8:(((l.op:Nat):Int)==8)=false:=by rw[ak];rfl
 have b10:(((l.op:Nat):Int)==10)=false:=by rw[ak];rfl
 have b11:(((l.op:Nat):Int)==11)=false:=by rw[ak];rfl
 have b16:(((l.op:Nat):Int)==16)=true:=by rw[ak];rfl
 obtain⟨m,hm⟩:∃m:Nat,b.val q (l.places.getD 0 (0,0))=m:=⟨(b.val q (l.places.getD 0 (0,0))).toNat,by omega⟩;have Tp:(b.val q (l.places.getD 0 (0,0))).toNat=m:=by omega
 rw[Tp];have KN:=fun(W:World) (hb:Below w.heap.size w W)=>qx (h.below hb) hq bU (l.places.getD 0 (0,0)) x0
 rw[hm]at KN;have KS:=fun(W:World) (hb:Below w.heap.size w W)=>sy (h.below hb).eG m (by omega) (by omega) (iD.below (h.below hb).aZ iG) ok iG
 clear hl hk ak hlen c0 c1 _hr hm Tp eT;generalize l.places.getD 0 (0,0)=p0 at*;have iO:Below w.heap.size w (w.alloc (.cells #[.int .i64 (l.num:Nat),.int .i64 (l.op:Nat),.slice (some ⟨g,0,none⟩) 1 cp,.int .i64 l.number,.int .i64 l.flag,.slice an l.next.length cn] 115)).drew:=aF.drew;go_enter Tryz.func78,Tryz.ntmps78
 go_upto_region 18 with fail
 go_region_held3 (fun W'=>W'.cell? ⟨g,0,none⟩=some (.int .i64 (p0.1:Nat))/\W'.cell? ⟨g,1,none⟩=some (.int .i64 (p0.2:Nat))) (go_keep)
  (first
  |(go_at_call 122;go_fit (KN _ iO);rintro e w3 ⟨rfl,sC⟩;have cT:=iO.trans (sC.mono iO.size);obtain⟨o0,o1⟩:=hb _ (h.below cT).aZ)
  |(go_at_call 97;go_fit (KS _ cT);rintro e w4 ⟨rfl,vm4,vt4,y4,r4⟩;have h4:=(h.below cT).qe y4 r4;obtain⟨z0,z1⟩:=hb _ h4.aZ))
 all_goals go_wp2_with fail
 all_goals
  go_end0
  exact⟨rfl,_,_,_,h4,(aA.of cT).trans r4⟩
set_option maxRecDepth 20000 in
theorem CZ (h:dM w0 x a w b vi vm vt)(hq:PQ w0 a q v u)(bU:q.locals.length<=12){z nb:Nat}{l:ab}{ap an:Option Addr}{cp cn:Nat}(hl:aC z w0 l (.slice ap l.places.length cp) (.slice an l.next.length cn))(hk:fY q.locals.length nb l)(ak:l.op=12)(G5:(QP.ai q (l.places.getD 0 (0,0))).length=(QP.ai q (l.places.getD 1 (0,0))).length):
  Calls Tryz.prog 78 #[.pointer (some ⟨x,0,none⟩),.agg #[.int .i64 (l.num:Nat),.int .i64 (l.op:Nat),.slice ap l.places.length cp,.int .i64 l.number,.int .i64 l.flag,.slice an l.next.length cn]] w fun e w'=>e=.returned (.tuple #[])/\∃vi' vm' vt',dM w0 x a w' (b.move q (l.places.getD 0 (0,0)) (l.places.getD 1 (0,0))) vi' vm' vt'/\aA x vm vt w vm' vt' w':=by
 have hlen:l.places.length=2:=by rw[hk.bt,ak];rfl
 obtain⟨g,rfl,gP,hg,c0,c1⟩:=ax hl hlen 0 (by omega);obtain⟨g',e',-,-,c2,c3⟩:=ax hl hlen 1 (by omega);simp only[Option.some.injEq,Addr.mk.injEq,and_true]at e';subst e';have x0:=(hk.places (l.places.getD 0 (0,0)) (by rw[jA,jB (by omega)];exact jL _)).1;have x1:=(hk.places (l.places.getD 1 (0,0)) (by rw[jA,jB (by omega)];exact jL _)).1;have hb:∀W,Below w0.heap.size w0 W->(W.cell? ⟨g,0,none⟩=some (.int .i64 ((l.places.getD 0 (0,0)).1:Nat))/\W.cell? ⟨g,1,none⟩=some (.int .i64 ((l.places.getD 0 (0,0)).2:Nat))/\W.cell? ⟨g,2,none⟩=some (.int .i64 ((l.places.getD 1 (0,0)).1:Nat))/\W.cell? ⟨g,3,none⟩=some (.int .i64 ((l.places.getD 1 (0,0)).2:Nat))):=fun W hW=>⟨(hW.cell (p:=⟨g,0,none⟩) hg).trans c0,(hW.cell (p:=⟨g,1,none⟩) hg).trans c1,(hW.cell (p:=⟨g,2,none⟩) hg).trans c2,(hW.cell (p:=⟨g,3,none⟩) hg).trans c3⟩
 have aF:Below w.heap.size w (w.alloc (.cells #[.int .i64 (l.num:Nat),.int .i64 (l.op:Nat),.slice (some ⟨g,0,none⟩) 2 cp,.int .i64 l.number,.int .i64 l.flag,.slice an l.next.length cn] 115)):=(Below.refl _ _).alloc (jC _) _;have jx:(w.alloc (.cells #[.int .i64 (l.num:Nat),.int .i64 (l.op:Nat),.slice (some ⟨g,0,none⟩) 2 cp,.int .i64 l.number,.int .i64 l.flag,.slice an l.next.length cn] 115)).heap[w.heap.size]?=some (.cells #[.int .i64 (l.num:Nat),.int .i64 (l.op:Nat),.slice (some ⟨g,0,none⟩) 2 cp,.int .i64 l.number,.int .i64 l.flag,.slice an l.next.length cn] 115 (0,0)):=jD;have kd:(w.alloc (.cells #[.int .i64 (l.num:Nat),.int .i64 (l.op:Nat),.slice (some ⟨g,0,none⟩) 2 cp,.int .i64 l.number,.int .i64 l.flag,.slice an l.next.length cn] 115)).heap.size=w.heap.size+1:=by simp
 have HA:=h.below aF;have ez:=h.fresh (jC _);have HL:Hid (∀W vm' vt',aA x vm vt (w.alloc (.cells #[.int .i64 (l.num:Nat),.int .i64 (l.op:Nat),.slice (some ⟨g,0,none⟩) 2 cp,.int .i64 l.number,.int .i64 l.flag,.slice an l.next.length cn] 115)) vm' vt' W->W.cell? ⟨w.heap.size,1,none⟩=some (.int .i64 (l.op:Nat))/\W.cell? ⟨w.heap.size,3,none⟩=some (.int .i64 l.number)/\W.cell? ⟨w.heap.size,4,none⟩=some (.int .i64 l.flag)):=fun W vm' vt' r=>⟨(aK r (by omega) ez 1).trans (by rw[cell_of_heap jx];rfl),(aK r (by omega) ez 3).trans (by rw[cell_of_heap jx];rfl),(aK r (by omega) ez 4).trans (by rw[cell_of_heap jx];rfl)⟩
 obtain⟨d0,d1,d2,d3⟩:=hb _ HA.aZ;rw[hlen];have b2:(((l.op:Nat):Int)==2)=false:=by rw[ak];rfl
 have b3:(((l.op:Nat):Int)==3)=false:=by rw[ak];rfl
 have b4:(((l.op:Nat):Int)==4)=false:=by rw[ak];rfl
 have b5:(((l.op:Nat):Int)==5)=false:=by rw[ak];rfl
 have b7:(((l.op:Nat):Int)==7)=false:=by rw[ak];rfl
 have b8:(((l.op:Nat):Int)==8)=false:=by rw[ak];rfl
 have b10:(((l.op:Nat):Int)==10)=false:=by rw[ak];rfl
 have b11:(((l.op:Nat):Int)==11)=false:=by rw[ak];rfl
 have b16:(((l.op:Nat):Int)==16)=false:=by rw[ak];rfl
 have b12:(((l.op:Nat):Int)==12)=true:=by rw[ak];rfl
 have KM:=fun(W:World) (hb:Below w.heap.size w W)=>sQ (h.below hb) hq bU (l.places.getD 0 (0,0)) (l.places.getD 1 (0,0)) x0 x1 G5
 clear hl hk ak hlen c0 c1 c2 c3 G5;generalize l.places.getD 0 (0,0)=p0 at*;generalize l.places.getD 1 (0,0)=p1 at*;have iO:Below w.heap.size w (w.alloc (.cells #[.int .i64 (l.num:Nat),.int .i64 (l.op:Nat),.slice (some ⟨g,0,none⟩) 2 cp,.int .i64 l.number,.int .i64 l.flag,.slice an l.next.length cn] 115)).drew:=aF.drew;go_enter Tryz.func78,Tryz.ntmps78
 go_upto_region 20 with fail
 go_region_held3 (fun W'=>W'.cell? ⟨g,0,none⟩=some (.int .i64 (p0.1:Nat))/\W'.cell? ⟨g,1,none⟩=some (.int .i64 (p0.2:Nat))/\W'.cell? ⟨g,2,none⟩=some (.int .i64 (p1.1:Nat))/\W'.cell? ⟨g,3,none⟩=some (.int .i64 (p1.2:Nat))) (go_keep)
  (first
  |(go_at_call 123;go_fit (KM _ iO);rintro e w4 ⟨rfl,h4,r4⟩;obtain⟨z0,z1,z2,z3⟩:=hb _ h4.aZ))
 all_goals go_wp2_with fail
 all_goals
  go_end0
  exact⟨rfl,_,_,_,h4,(aA.of iO).trans r4⟩
set_option maxRecDepth 20000 in
theorem C0 (h:dM w0 x a w b vi vm vt)(hq:PQ w0 a q v u)(bU:q.locals.length<=12){z nb:Nat}{l:ab}{ap an:Option Addr}{cp cn:Nat}(hl:aC z w0 l (.slice ap l.places.length cp) (.slice an l.next.length cn))(hk:fY q.locals.length nb l)(ak:l.op=13):
  Calls Tryz.prog 78 #[.pointer (some ⟨x,0,none⟩),.agg #[.int .i64 (l.num:Nat),.int .i64 (l.op:Nat),.slice ap l.places.length cp,.int .i64 l.number,.int .i64 l.flag,.slice an l.next.length cn]] w fun e w'=>e=.returned (.tuple #[])/\∃vi' vm' vt',dM w0 x a w' (b.write q (l.places.getD 0 (0,0)) 0) vi' vm' vt'/\aA x vm vt w vm' vt' w':=by
 have hlen:l.places.length=1:=by rw[hk.bt,ak];rfl
 obtain⟨g,rfl,gP,hg,c0,c1⟩:=ax hl hlen 0 (by omega);have x0:=(hk.places (l.places.getD 0 (0,0)) (by rw[jA,jB (by omega)];exact jL _)).1;have hb:∀W,Below w0.heap.size w0 W->(W.cell? ⟨g,0,none⟩=some (.int .i64 ((l.places.getD 0 (0,0)).1:Nat))/\W.cell? ⟨g,1,none⟩=some (.int .i64 ((l.places.getD 0 (0,0)).2:Nat))):=fun W hW=>⟨(hW.cell (p:=⟨g,0,none⟩) hg).trans c0,(hW.cell (p:=⟨g,1,none⟩) hg).trans c1⟩
 have aF:Below w.heap.size w (w.alloc (.cells #[.int .i64 (l.num:Nat),.int .i64 (l.op:Nat),.slice (some ⟨g,0,none⟩) 1 cp,.int .i64 l.number,.int .i64 l.flag,.slice an l.next.length cn] 115)):=(Below.refl _ _).alloc (jC _) _;have jx:(w.alloc (.cells #[.int .i64 (l.num:Nat),.int .i64 (l.op:Nat),.slice (some ⟨g,0,none⟩) 1 cp,.int .i64 l.number,.int .i64 l.flag,.slice an l.next.length cn] 115)).heap[w.heap.size]?=some (.cells #[.int .i64 (l.num:Nat),.int .i64 (l.op:Nat),.slice (some ⟨g,0,none⟩) 1 cp,.int .i64 l.number,.int .i64 l.flag,.slice an l.next.length cn] 115 (0,0)):=jD;have kd:(w.alloc (.cells #[.int .i64 (l.num:Nat),.int .i64 (l.op:Nat),.slice (some ⟨g,0,none⟩) 1 cp,.int .i64 l.number,.int .i64 l.flag,.slice an l.next.length cn] 115)).heap.size=w.heap.size+1:=by simp
 have HA:=h.below aF;have ez:=h.fresh (jC _);have HL:Hid (∀W vm' vt',aA x vm vt (w.alloc (.cells #[.int .i64 (l.num:Nat),.int .i64 (l.op:Nat),.slice (some ⟨g,0,none⟩) 1 cp,.int .i64 l.number,.int .i64 l.flag,.slice an l.next.length cn] 115)) vm' vt' W->W.cell? ⟨w.heap.size,1,none⟩=some (.int .i64 (l.op:Nat))/\W.cell? ⟨w.heap.size,3,none⟩=some (.int .i64 l.number)/\W.cell? ⟨w.heap.size,4,none⟩=some (.int .i64 l.flag)):=fun W vm' vt' r=>⟨(aK r (by omega) ez 1).trans (by rw[cell_of_heap jx];rfl),(aK r (by omega) ez 3).trans (by rw[cell_of_heap jx];rfl),(aK r (by omega) ez 4).trans (by rw[cell_of_heap jx];rfl)⟩
 obtain⟨d0,d1⟩:=hb _ HA.aZ;rw[hlen];have b2:(((l.op:Nat):Int)==2)=false:=by rw[ak];rfl
 have b3:(((l.op:Nat):Int)==3)=false:=by rw[ak];rfl
 have b4:(((l.op:Nat):Int)==4)=false:=by rw[ak];rfl
 have b5:(((l.op:Nat):Int)==5)=false:=by rw[ak];rfl
 have b7:(((l.op:Nat):Int)==7)=false:=by rw[ak];rfl
 have b8:(((l.op:Nat):Int)==8)=false:=by rw[ak];rfl
 have b10:(((l.op:Nat):Int)==10)=false:=by rw[ak];rfl
 have b11:(((l.op:Nat):Int)==11)=false:=by rw[ak];rfl
 have b16:(((l.op:Nat):Int)==16)=false:=by rw[ak];rfl
 have b12:(((l.op:Nat):Int)==12)=false:=by rw[ak];rfl
 have b13:(((l.op:Nat):Int)==13)=true:=by rw[ak];rfl
 have KW:=fw HA hq bU (l.places.getD 0 (0,0)) x0 0;clear hl hk ak hlen c0 c1;generalize l.places.getD 0 (0,0)=p0 at*;go_enter Tryz.func78,Tryz.ntmps78
 go_wp2_with (go_at_call 76;go_fit KW;rintro e w4 ⟨rfl,h4,r4⟩)
 go_end0
 exact⟨rfl,_,_,_,h4,(aA.of aF).trans r4⟩
set_option maxRecDepth 20000 in
theorem C1 (h:dM w0 x a w b vi vm vt)(hq:PQ w0 a q v u)(bU:q.locals.length<=12){z nb:Nat}{l:ab}{ap an:Option Addr}{cp cn:Nat}(hl:aC z w0 l (.slice ap l.places.length cp) (.slice an l.next.length cn))(hk:fY q.locals.length nb l)(ak:l.op=14):
  Calls Tryz.prog 78 #[.pointer (some ⟨x,0,none⟩),.agg #[.int .i64 (l.num:Nat),.int .i64 (l.op:Nat),.slice ap l.places.length cp,.int .i64 l.number,.int .i64 l.flag,.slice an l.next.length cn]] w fun e w'=>e=.returned (.tuple #[])/\∃vi' vm' vt',dM w0 x a w' ((b.write q (l.places.getD 0 (0,0)) 1).write q ((l.places.getD 0 (0,0)).1,3) ((b.write q (l.places.getD 0 (0,0)) 1).val q (l.places.getD 1 (0,0)))) vi' vm' vt'/\aA x vm vt w vm' vt' w':=by
 have hlen:l.places.length=2:=by rw[hk.bt,ak];rfl
 obtain⟨g,rfl,gP,hg,c0,c1⟩:=ax hl hlen 0 (by omega);obtain⟨g',e',-,-,c2,c3⟩:=ax hl hlen 1 (by omega);simp only[Option.some.injEq,Addr.mk.injEq,and_true]at e';subst e';have x0:=(hk.places (l.places.getD 0 (0,0)) (by rw[jA,jB (by omega)];exact jL _)).1;have x1:=(hk.places (l.places.getD 1 (0,0)) (by rw[jA,jB (by omega)];exact jL _)).1;have hb:∀W,Below w0.heap.size w0 W->(W.cell? ⟨g,0,none⟩=some (.int .i64 ((l.places.getD 0 (0,0)).1:Nat))/\W.cell? ⟨g,1,none⟩=some (.int .i64 ((l.places.getD 0 (0,0)).2:Nat))/\W.cell? ⟨g,2,none⟩=some (.int .i64 ((l.places.getD 1 (0,0)).1:Nat))/\W.cell? ⟨g,3,none⟩=some (.int .i64 ((l.places.getD 1 (0,0)).2:Nat))):=fun W hW=>⟨(hW.cell (p:=⟨g,0,none⟩) hg).trans c0,(hW.cell (p:=⟨g,1,none⟩) hg).trans c1,(hW.cell (p:=⟨g,2,none⟩) hg).trans c2,(hW.cell (p:=⟨g,3,none⟩) hg).trans c3⟩
 have aF:Below w.heap.size w (w.alloc (.cells #[.int .i64 (l.num:Nat),.int .i64 (l.op:Nat),.slice (some ⟨g,0,none⟩) 2 cp,.int .i64 l.number,.int .i64 l.flag,.slice an l.next.length cn] 115)):=(Below.refl _ _).alloc (jC _) _;have jx:(w.alloc (.cells #[.int .i64 (l.num:Nat),.int .i64 (l.op:Nat),.slice (some ⟨g,0,none⟩) 2 cp,.int .i64 l.number,.int .i64 l.flag,.slice an l.next.length cn] 115)).heap[w.heap.size]?=some (.cells #[.int .i64 (l.num:Nat),.int .i64 (l.op:Nat),.slice (some ⟨g,0,none⟩) 2 cp,.int .i64 l.number,.int .i64 l.flag,.slice an l.next.length cn] 115 (0,0)):=jD;have kd:(w.alloc (.cells #[.int .i64 (l.num:Nat),.int .i64 (l.op:Nat),.slice (some ⟨g,0,none⟩) 2 cp,.int .i64 l.number,.int .i64 l.flag,.slice an l.next.length cn] 115)).heap.size=w.heap.size+1:=by simp
 have HA:=h.below aF;have ez:=h.fresh (jC _);have HL:Hid (∀W vm' vt',aA x vm vt (w.alloc (.cells #[.int .i64 (l.num:Nat),.int .i64 (l.op:Nat),.slice (some ⟨g,0,none⟩) 2 cp,.int .i64 l.number,.int .i64 l.flag,.slice an l.next.length cn] 115)) vm' vt' W->W.cell? ⟨w.heap.size,1,none⟩=some (.int .i64 (l.op:Nat))/\W.cell? ⟨w.heap.size,3,none⟩=some (.int .i64 l.number)/\W.cell? ⟨w.heap.size,4,none⟩=some (.int .i64 l.flag)):=fun W vm' vt' r=>⟨(aK r (by omega) ez 1).trans (by rw[cell_of_heap jx];rfl),(aK r (by omega) ez 3).trans (by rw[cell_of_heap jx];rfl),(aK r (by omega) ez 4).trans (by rw[cell_of_heap jx];rfl)⟩
 obtain⟨d0,d1,d2,d3⟩:=hb _ HA.aZ;rw[hlen];have b2:(((l.op:Nat):Int)==2)=false:=by rw[ak];rfl
 have b3:(((l.op:Nat):Int)==3)=false:=by rw[ak];rfl
 have b4:(((l.op:Nat):Int)==4)=false:=by rw[ak];rfl
 have b5:(((l.op:Nat):Int)==5)=false:=by rw[ak];rfl
 have b7:(((l.op:Nat):Int)==7)=false:=by rw[ak];rfl
 have b8:(((l.op:Nat):Int)==8)=false:=by rw[ak];rfl
 have b10:(((l.op:Nat):Int)==10)=false:=by rw[ak];rfl
 have b11:(((l.op:Nat):Int)==11)=false:=by rw[ak];rfl
 have b16:(((l.op:Nat):Int)==16)=false:=by rw[ak];rfl
 have b12:(((l.op:Nat):Int)==12)=false:=by rw[ak];rfl
 have b13:(((l.op:Nat):Int)==13)=false:=by rw[ak];rfl
 have b14:(((l.op:Nat):Int)==14)=true:=by rw[ak];rfl
 have KW:=fw HA hq bU (l.places.getD 0 (0,0)) x0 1;have KC:=fun W=>lS (l.places.getD 0 (0,0)) W
 have KV:=fun(W:World) (hW:dM w0 x a W (b.write q (l.places.getD 0 (0,0)) 1) vi vm vt)=>dL hW hq bU (l.places.getD 1 (0,0)) x1
 have KX:=fun(W:World) (hW:dM w0 x a W (b.write q (l.places.getD 0 (0,0)) 1) vi vm vt)=>fw hW hq bU ((l.places.getD 0 (0,0)).1,3) x0 ((b.write q (l.places.getD 0 (0,0)) 1).val q (l.places.getD 1 (0,0)))
 generalize b.write q (l.places.getD 0 (0,0)) 1=bw at*;clear hl hk ak hlen c0 c1 c2 c3;generalize l.places.getD 0 (0,0)=p0 at*;generalize l.places.getD 1 (0,0)=p1 at*;generalize bw.val q p1=cv at*;go_enter Tryz.func78,Tryz.ntmps78
 go_upto_region 25 with(go_at_call 76;go_fit KW;rintro e w4 ⟨rfl,h4,r4⟩;obtain⟨z0,z1,z2,z3⟩:=hb _ h4.aZ)
 have hd4:Below w4.heap.size w4 w4.drew:=(Below.refl _ _).drew;go_region_held3 (fun W'=>W'.cell? ⟨g,0,none⟩=some (.int .i64 (p0.1:Nat))/\W'.cell? ⟨g,1,none⟩=some (.int .i64 (p0.2:Nat))/\W'.cell? ⟨g,2,none⟩=some (.int .i64 (p1.1:Nat))/\W'.cell? ⟨g,3,none⟩=some (.int .i64 (p1.2:Nat))) (go_keep)
  (first
  |(go_at_call 124;go_fit (KC _);rintro e w5 ⟨rfl,tU⟩;have fM:=hd4.trans (tU.mono hd4.size);have h5:=h4.below fM;obtain⟨o0,o1,o2,o3⟩:=hb _ h5.aZ)
  |(go_at_call 74;go_fit (KV _ h5);rintro e w6 ⟨rfl,ot⟩;have h6:=h5.below ot;obtain⟨t0,t1,t2,t3⟩:=hb _ h6.aZ)
  |(go_at_call 76;go_fit (KX _ h6);rintro e w7 ⟨rfl,h7,r7⟩;obtain⟨s0,s1,s2,s3⟩:=hb _ h7.aZ))
 all_goals go_wp2_with fail
 all_goals
  go_end0
  exact⟨rfl,_,_,_,h7,(aA.of aF).trans (r4.trans ((aA.of fM).trans ((aA.of ot).trans r7)))⟩
set_option maxRecDepth 20000 in
theorem Rh (h:dM w0 x a w b vi vm vt)(_hq:PQ w0 a q v u)(_hls:q.locals.length<=12){z nb:Nat}{l:ab}{ap an:Option Addr}{cp cn:Nat}(_hl:aC z w0 l (.slice ap l.places.length cp) (.slice an l.next.length cn))(hk:fY q.locals.length nb l)(ak:l.op=17)(lf:0<=l.flag/\l.flag<50):
  Calls Tryz.prog 78 #[.pointer (some ⟨x,0,none⟩),.agg #[.int .i64 (l.num:Nat),.int .i64 (l.op:Nat),.slice ap l.places.length cp,.int .i64 l.number,.int .i64 l.flag,.slice an l.next.length cn]] w fun e w'=>e=.returned (.tuple #[])/\∃vi' vm' vt',dM w0 x a w' ({b with flags:=b.flags.set l.flag.toNat (l.number==1)}) vi' vm' vt'/\aA x vm vt w vm' vt' w':=by
 have hlen:l.places.length=0:=by rw[hk.bt,ak];rfl
 have aF:Below w.heap.size w (w.alloc (.cells #[.int .i64 (l.num:Nat),.int .i64 (l.op:Nat),.slice ap 0 cp,.int .i64 l.number,.int .i64 l.flag,.slice an l.next.length cn] 115)):=(Below.refl _ _).alloc (jC _) _;have jx:(w.alloc (.cells #[.int .i64 (l.num:Nat),.int .i64 (l.op:Nat),.slice ap 0 cp,.int .i64 l.number,.int .i64 l.flag,.slice an l.next.length cn] 115)).heap[w.heap.size]?=some (.cells #[.int .i64 (l.num:Nat),.int .i64 (l.op:Nat),.slice ap 0 cp,.int .i64 l.number,.int .i64 l.flag,.slice an l.next.length cn] 115 (0,0)):=jD;have kd:(w.alloc (.cells #[.int .i64 (l.num:Nat),.int .i64 (l.op:Nat),.slice ap 0 cp,.int .i64 l.number,.int .i64 l.flag,.slice an l.next.length cn] 115)).heap.size=w.heap.size+1:=by simp
 have HA:=h.below aF;have ez:=h.fresh (jC _);have HL:Hid (∀W vm' vt',aA x vm vt (w.alloc (.cells #[.int .i64 (l.num:Nat),.int .i64 (l.op:Nat),.slice ap 0 cp,.int .i64 l.number,.int .i64 l.flag,.slice an l.next.length cn] 115)) vm' vt' W->W.cell? ⟨w.heap.size,1,none⟩=some (.int .i64 (l.op:Nat))/\W.cell? ⟨w.heap.size,3,none⟩=some (.int .i64 l.number)/\W.cell? ⟨w.heap.size,4,none⟩=some (.int .i64 l.flag)):=fun W vm' vt' r=>⟨(aK r (by omega) ez 1).trans (by rw[cell_of_heap jx];rfl),(aK r (by omega) ez 3).trans (by rw[cell_of_heap jx];rfl),(aK r (by omega) ez 4).trans (by rw[cell_of_heap jx];rfl)⟩
 rw[hlen];have b2:(((l.op:Nat):Int)==2)=false:=by rw[ak];rfl
 have b3:(((l.op:Nat):Int)==3)=false:=by rw[ak];rfl
 have b4:(((l.op:Nat):Int)==4)=false:=by rw[ak];rfl
 have b5:(((l.op:Nat):Int)==5)=false:=by rw[ak];rfl
 have b7:(((l.op:Nat):Int)==7)=false:=by rw[ak];rfl
 have b8:(((l.op:Nat):Int)==8)=false:=by rw[ak];rfl
 have b10:(((l.op:Nat):Int)==10)=false:=by rw[ak];rfl
 have b11:(((l.op:Nat):Int)==11)=false:=by rw[ak];rfl
 have b16:(((l.op:Nat):Int)==16)=false:=by rw[ak];rfl
 have b12:(((l.op:Nat):Int)==12)=false:=by rw[ak];rfl
 have b13:(((l.op:Nat):Int)==13)=false:=by rw[ak];rfl
 have b14:(((l.op:Nat):Int)==14)=false:=by rw[ak];rfl
 have b17:(((l.op:Nat):Int)==17)=true:=by rw[ak];rfl
 have Tg:l.flag.toNat<50:=by omega
 obtain⟨f1,f2⟩:=lf;obtain⟨cF,cG⟩:=HA.Oq Tg;obtain⟨h5,r5⟩:=HA.SI l.flag.toNat (l.number==1);clear _hl hk ak hlen;go_enter Tryz.func78,Tryz.ntmps78
 go_upto_region 27 with fail
 go_region
 all_goals go_wp2_with fail
 all_goals
  go_end0
  exact⟨rfl,_,_,_,h5.below ((Below.refl _ _).drew),(aA.of aF).trans (r5.trans (aA.of ((Below.refl _ _).drew)))⟩
end
end Ex
end Go.Proofs.YtmlgajhhnojdjaaGreatDoor

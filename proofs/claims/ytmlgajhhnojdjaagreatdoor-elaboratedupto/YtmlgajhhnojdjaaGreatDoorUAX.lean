import Derived.Test.YtmlgajhhnojdjaaGreatDoorUAW
set_option maxHeartbeats 8000000
namespace Go.Proofs.YtmlgajhhnojdjaaGreatDoor
namespace Ex
open Go Go.RowKit Sq Aux PrjJ PrjK PrjL PrjM PrjR PrjS PrjT FlwA FlwE Go.Proofs.YtmlgajhhnojdjaaGreatDoor.Own
section
variable {x a:Nat} {w w0:World} {vm vt vi v u:Value} {b:Br} {q:QP}
set_option maxRecDepth 20000 in
theorem CQ (h:dM w0 x a w b vi vm vt)(hq:PQ w0 a q v u)(bU:q.locals.length<=12){z nb:Nat}{l:ab}{ap an:Option Addr}{cp cn:Nat}(hl:aC z w0 l (.slice ap l.places.length cp) (.slice an l.next.length cn))(hk:fY q.locals.length nb l)(ak:l.op=8\/l.op=19\/l.op=20\/l.op=22):
  Calls Tryz.prog 73 #[.pointer (some ⟨x,0,none⟩),.agg #[.int .i64 (l.num:Nat),.int .i64 (l.op:Nat),.slice ap l.places.length cp,.int .i64 l.number,.int .i64 l.flag,.slice an l.next.length cn]] w fun e w'=>e=.returned (.bool (b.empty q [l.places.getD 0 (0,0)]))/\Below w.heap.size w w':=by
 have hlen:l.places.length=1:=by rcases ak with e|e|e|e<;>(rw[hk.bt,e];rfl)
 obtain⟨g,rfl,gP,hg,c0,c1⟩:=ax hl hlen 0 (by omega);have x0:=(hk.places (l.places.getD 0 (0,0)) (by rw[jA,jB (by omega)];exact jL _)).1;have hb:∀W,Below w0.heap.size w0 W->(W.cell? ⟨g,0,none⟩=some (.int .i64 ((l.places.getD 0 (0,0)).1:Nat))/\W.cell? ⟨g,1,none⟩=some (.int .i64 ((l.places.getD 0 (0,0)).2:Nat))):=fun W hW=>⟨(hW.cell (p:=⟨g,0,none⟩) hg).trans c0,(hW.cell (p:=⟨g,1,none⟩) hg).trans c1⟩
 have aF:Below w.heap.size w (w.alloc (.cells #[.int .i64 (l.num:Nat),.int .i64 (l.op:Nat),.slice (some ⟨g,0,none⟩) 1 cp,.int .i64 l.number,.int .i64 l.flag,.slice an l.next.length cn] 115)):=(Below.refl _ _).alloc (jC _) _;have HA:=h.below aF;obtain⟨d0,d1⟩:=hb _ HA.aZ;rw[hlen];have XY:=oG (w.alloc (.cells #[.int .i64 (l.num:Nat),.int .i64 (l.op:Nat),.slice (some ⟨g,0,none⟩) 1 cp,.int .i64 l.number,.int .i64 l.flag,.slice an l.next.length cn] 115)) (l.places.getD 0 (0,0));have OI:Below (w.alloc (.cells #[.int .i64 (l.num:Nat),.int .i64 (l.op:Nat),.slice (some ⟨g,0,none⟩) 1 cp,.int .i64 l.number,.int .i64 l.flag,.slice an l.next.length cn] 115)).heap.size (w.alloc (.cells #[.int .i64 (l.num:Nat),.int .i64 (l.op:Nat),.slice (some ⟨g,0,none⟩) 1 cp,.int .i64 l.number,.int .i64 l.flag,.slice an l.next.length cn] 115)) ((w.alloc (.cells #[.int .i64 (l.num:Nat),.int .i64 (l.op:Nat),.slice (some ⟨g,0,none⟩) 1 cp,.int .i64 l.number,.int .i64 l.flag,.slice an l.next.length cn] 115)).alloc (.cells #[.int .i64 ((l.places.getD 0 (0,0)).1:Nat),.int .i64 ((l.places.getD 0 (0,0)).2:Nat)] 119)):=(Below.refl _ _).alloc (jC _) _;have KE:=km (HA.below OI) hq bU XY (fun y hy=>by rw[jI.1 hy];exact x0);have kd:(w.alloc (.cells #[.int .i64 (l.num:Nat),.int .i64 (l.op:Nat),.slice (some ⟨g,0,none⟩) 1 cp,.int .i64 l.number,.int .i64 l.flag,.slice an l.next.length cn] 115)).heap.size=w.heap.size+1:=by simp
 rw[kd]at KE;generalize b.empty q [l.places.getD 0 (0,0)]=r at*;have iO:Below w.heap.size w (w.alloc (.cells #[.int .i64 (l.num:Nat),.int .i64 (l.op:Nat),.slice (some ⟨g,0,none⟩) 1 cp,.int .i64 l.number,.int .i64 l.flag,.slice an l.next.length cn] 115)).drew:=aF.drew;have It:((((l.op:Nat):Int)==3)=false/\(((l.op:Nat):Int)==4)=false/\(((l.op:Nat):Int)==5)=false/\(((l.op:Nat):Int)==6)=false/\(((l.op:Nat):Int)==8)=true)\/((((l.op:Nat):Int)==3)=false/\(((l.op:Nat):Int)==4)=false/\(((l.op:Nat):Int)==5)=false/\(((l.op:Nat):Int)==6)=false/\(((l.op:Nat):Int)==8)=false/\(((l.op:Nat):Int)==19)=true)\/((((l.op:Nat):Int)==3)=false/\(((l.op:Nat):Int)==4)=false/\(((l.op:Nat):Int)==5)=false/\(((l.op:Nat):Int)==6)=false/\(((l.op:Nat):Int)==8)=false/\(((l.op:Nat):Int)==19)=false/\(((l.op:Nat):Int)==20)=true)\/((((l.op:Nat):Int)==3)=false/\(((l.op:Nat):Int)==4)=false/\(((l.op:Nat):Int)==5)=false/\(((l.op:Nat):Int)==6)=false/\(((l.op:Nat):Int)==8)=false/\(((l.op:Nat):Int)==19)=false/\(((l.op:Nat):Int)==20)=false/\(((l.op:Nat):Int)==22)=true):=by
  rcases ak with e|e|e|e<;>rw[e]<;>simp
 clear hl hk ak hlen c0 c1;generalize l.places.getD 0 (0,0)=p0 at*;rcases It with⟨b3,b4,b5,b6,b8⟩|⟨b3,b4,b5,b6,b8,b19⟩|⟨b3,b4,b5,b6,b8,b19,rl⟩|⟨b3,b4,b5,b6,b8,b19,rl,b22⟩
 all_goals
  go_enter Tryz.func73,Tryz.ntmps73
  go_wp2_with (go_at_call 119;go_fit KE;rintro e w3 ⟨rfl,cT⟩)
  go_ret
  exact⟨rfl,aF.trans ((OI.trans (cT.mono OI.size)).mono aF.size)⟩
set_option maxRecDepth 20000 in
theorem AS (h:dM w0 x a w b vi vm vt)(hq:PQ w0 a q v u)(bU:q.locals.length<=12){z nb:Nat}{l:ab}{ap an:Option Addr}{cp cn:Nat}(hl:aC z w0 l (.slice ap l.places.length cp) (.slice an l.next.length cn))(hk:fY q.locals.length nb l)(ak:l.op=9\/l.op=14):
  Calls Tryz.prog 73 #[.pointer (some ⟨x,0,none⟩),.agg #[.int .i64 (l.num:Nat),.int .i64 (l.op:Nat),.slice ap l.places.length cp,.int .i64 l.number,.int .i64 l.flag,.slice an l.next.length cn]] w fun e w'=>e=.returned (.bool (b.empty q [l.places.getD 1 (0,0)]))/\Below w.heap.size w w':=by
 have hlen:l.places.length=2:=by rcases ak with e|e<;>(rw[hk.bt,e];rfl)
 obtain⟨g,rfl,gP,hg,c0,c1⟩:=ax hl hlen 0 (by omega);obtain⟨g',e',-,-,c2,c3⟩:=ax hl hlen 1 (by omega);simp only[Option.some.injEq,Addr.mk.injEq,and_true]at e';subst e';have x0:=(hk.places (l.places.getD 0 (0,0)) (by rw[jA,jB (by omega)];exact jL _)).1;have x1:=(hk.places (l.places.getD 1 (0,0)) (by rw[jA,jB (by omega)];exact jL _)).1;have hb:∀W,Below w0.heap.size w0 W->(W.cell? ⟨g,0,none⟩=some (.int .i64 ((l.places.getD 0 (0,0)).1:Nat))/\W.cell? ⟨g,1,none⟩=some (.int .i64 ((l.places.getD 0 (0,0)).2:Nat))/\W.cell? ⟨g,2,none⟩=some (.int .i64 ((l.places.getD 1 (0,0)).1:Nat))/\W.cell? ⟨g,3,none⟩=some (.int .i64 ((l.places.getD 1 (0,0)).2:Nat))):=fun W hW=>⟨(hW.cell (p:=⟨g,0,none⟩) hg).trans c0,(hW.cell (p:=⟨g,1,none⟩) hg).trans c1,(hW.cell (p:=⟨g,2,none⟩) hg).trans c2,(hW.cell (p:=⟨g,3,none⟩) hg).trans c3⟩
 have aF:Below w.heap.size w (w.alloc (.cells #[.int .i64 (l.num:Nat),.int .i64 (l.op:Nat),.slice (some ⟨g,0,none⟩) 2 cp,.int .i64 l.number,.int .i64 l.flag,.slice an l.next.length cn] 115)):=(Below.refl _ _).alloc (jC _) _;have HA:=h.below aF;obtain⟨d0,d1,d2,d3⟩:=hb _ HA.aZ;rw[hlen];have XY:=oG (w.alloc (.cells #[.int .i64 (l.num:Nat),.int .i64 (l.op:Nat),.slice (some ⟨g,0,none⟩) 2 cp,.int .i64 l.number,.int .i64 l.flag,.slice an l.next.length cn] 115)) (l.places.getD 1 (0,0));have OI:Below (w.alloc (.cells #[.int .i64 (l.num:Nat),.int .i64 (l.op:Nat),.slice (some ⟨g,0,none⟩) 2 cp,.int .i64 l.number,.int .i64 l.flag,.slice an l.next.length cn] 115)).heap.size (w.alloc (.cells #[.int .i64 (l.num:Nat),.int .i64 (l.op:Nat),.slice (some ⟨g,0,none⟩) 2 cp,.int .i64 l.number,.int .i64 l.flag,.slice an l.next.length cn] 115)) ((w.alloc (.cells #[.int .i64 (l.num:Nat),.int .i64 (l.op:Nat),.slice (some ⟨g,0,none⟩) 2 cp,.int .i64 l.number,.int .i64 l.flag,.slice an l.next.length cn] 115)).alloc (.cells #[.int .i64 ((l.places.getD 1 (0,0)).1:Nat),.int .i64 ((l.places.getD 1 (0,0)).2:Nat)] 119)):=(Below.refl _ _).alloc (jC _) _;have KE:=km (HA.below OI) hq bU XY (fun y hy=>by rw[jI.1 hy];exact x1);have kd:(w.alloc (.cells #[.int .i64 (l.num:Nat),.int .i64 (l.op:Nat),.slice (some ⟨g,0,none⟩) 2 cp,.int .i64 l.number,.int .i64 l.flag,.slice an l.next.length cn] 115)).heap.size=w.heap.size+1:=by simp
 rw[kd]at KE;generalize b.empty q [l.places.getD 1 (0,0)]=r at*;have iO:Below w.heap.size w (w.alloc (.cells #[.int .i64 (l.num:Nat),.int .i64 (l.op:Nat),.slice (some ⟨g,0,none⟩) 2 cp,.int .i64 l.number,.int .i64 l.flag,.slice an l.next.length cn] 115)).drew:=aF.drew;have It:((((l.op:Nat):Int)==3)=false/\(((l.op:Nat):Int)==4)=false/\(((l.op:Nat):Int)==5)=false/\(((l.op:Nat):Int)==6)=false/\(((l.op:Nat):Int)==8)=false/\(((l.op:Nat):Int)==19)=false/\(((l.op:Nat):Int)==20)=false/\(((l.op:Nat):Int)==22)=false/\(((l.op:Nat):Int)==9)=true)\/((((l.op:Nat):Int)==3)=false/\(((l.op:Nat):Int)==4)=false/\(((l.op:Nat):Int)==5)=false/\(((l.op:Nat):Int)==6)=false/\(((l.op:Nat):Int)==8)=false/\(((l.op:Nat):Int)==19)=false/\(((l.op:Nat):Int)==20)=false/\(((l.op:Nat):Int)==22)=false/\(((l.op:Nat):Int)==9)=false/\(((l.op:Nat):Int)==14)=true):=by
  rcases ak with e|e<;>rw[e]<;>simp
 clear hl hk ak hlen c0 c1 c2 c3;generalize l.places.getD 0 (0,0)=p0 at*;generalize l.places.getD 1 (0,0)=p1 at*;rcases It with⟨b3,b4,b5,b6,b8,b19,rl,b22,b9⟩|⟨b3,b4,b5,b6,b8,b19,rl,b22,b9,b14⟩
 all_goals
  go_enter Tryz.func73,Tryz.ntmps73
  go_wp2_with (go_at_call 119;go_fit KE;rintro e w3 ⟨rfl,cT⟩)
  go_ret
  exact⟨rfl,aF.trans ((OI.trans (cT.mono OI.size)).mono aF.size)⟩
set_option maxRecDepth 20000 in
theorem Hp (h:dM w0 x a w b vi vm vt)(hq:PQ w0 a q v u)(bU:q.locals.length<=12){z nb:Nat}{l:ab}{ap an:Option Addr}{cp cn:Nat}(hl:aC z w0 l (.slice ap l.places.length cp) (.slice an l.next.length cn))(hk:fY q.locals.length nb l)(ak:l.op=3\/l.op=4\/l.op=5\/l.op=6):
  Calls Tryz.prog 73 #[.pointer (some ⟨x,0,none⟩),.agg #[.int .i64 (l.num:Nat),.int .i64 (l.op:Nat),.slice ap l.places.length cp,.int .i64 l.number,.int .i64 l.flag,.slice an l.next.length cn]] w fun e w'=>e=.returned (.bool (b.empty q [l.places.getD 1 (0,0),l.places.getD 2 (0,0)]))/\Below w.heap.size w w':=by
 have hlen:l.places.length=3:=by rcases ak with e|e|e|e<;>(rw[hk.bt,e];rfl)
 obtain⟨g,rfl,gP,hg,c0,c1⟩:=ax hl hlen 0 (by omega);obtain⟨g',e',-,-,c2,c3⟩:=ax hl hlen 1 (by omega);simp only[Option.some.injEq,Addr.mk.injEq,and_true]at e';subst e';obtain⟨g',e',-,-,c4,c5⟩:=ax hl hlen 2 (by omega);simp only[Option.some.injEq,Addr.mk.injEq,and_true]at e';subst e';have x0:=(hk.places (l.places.getD 0 (0,0)) (by rw[jA,jB (by omega)];exact jL _)).1;have x1:=(hk.places (l.places.getD 1 (0,0)) (by rw[jA,jB (by omega)];exact jL _)).1;have x2:=(hk.places (l.places.getD 2 (0,0)) (by rw[jA,jB (by omega)];exact jL _)).1;have hb:∀W,Below w0.heap.size w0 W->(W.cell? ⟨g,0,none⟩=some (.int .i64 ((l.places.getD 0 (0,0)).1:Nat))/\W.cell? ⟨g,1,none⟩=some (.int .i64 ((l.places.getD 0 (0,0)).2:Nat))/\W.cell? ⟨g,2,none⟩=some (.int .i64 ((l.places.getD 1 (0,0)).1:Nat))/\W.cell? ⟨g,3,none⟩=some (.int .i64 ((l.places.getD 1 (0,0)).2:Nat))/\W.cell? ⟨g,4,none⟩=some (.int .i64 ((l.places.getD 2 (0,0)).1:Nat))/\W.cell? ⟨g,5,none⟩=some (.int .i64 ((l.places.getD 2 (0,0)).2:Nat))):=fun W hW=>⟨(hW.cell (p:=⟨g,0,none⟩) hg).trans c0,(hW.cell (p:=⟨g,1,none⟩) hg).trans c1,(hW.cell (p:=⟨g,2,none⟩) hg).trans c2,(hW.cell (p:=⟨g,3,none⟩) hg).trans c3,(hW.cell (p:=⟨g,4,none⟩) hg).trans c4,(hW.cell (p:=⟨g,5,none⟩) hg).trans c5⟩
 have aF:Below w.heap.size w (w.alloc (.cells #[.int .i64 (l.num:Nat),.int .i64 (l.op:Nat),.slice (some ⟨g,0,none⟩) 3 cp,.int .i64 l.number,.int .i64 l.flag,.slice an l.next.length cn] 115)):=(Below.refl _ _).alloc (jC _) _;have HA:=h.below aF;obtain⟨d0,d1,d2,d3,d4,d5⟩:=hb _ HA.aZ;rw[hlen];have XY:=gK (w.alloc (.cells #[.int .i64 (l.num:Nat),.int .i64 (l.op:Nat),.slice (some ⟨g,0,none⟩) 3 cp,.int .i64 l.number,.int .i64 l.flag,.slice an l.next.length cn] 115)) [l.places.getD 1 (0,0),l.places.getD 2 (0,0)] (by simp);have OI:Below (w.alloc (.cells #[.int .i64 (l.num:Nat),.int .i64 (l.op:Nat),.slice (some ⟨g,0,none⟩) 3 cp,.int .i64 l.number,.int .i64 l.flag,.slice an l.next.length cn] 115)).heap.size (w.alloc (.cells #[.int .i64 (l.num:Nat),.int .i64 (l.op:Nat),.slice (some ⟨g,0,none⟩) 3 cp,.int .i64 l.number,.int .i64 l.flag,.slice an l.next.length cn] 115)) ((w.alloc (.cells #[.int .i64 (l.num:Nat),.int .i64 (l.op:Nat),.slice (some ⟨g,0,none⟩) 3 cp,.int .i64 l.number,.int .i64 l.flag,.slice an l.next.length cn] 115)).alloc (.cells (bf [l.places.getD 1 (0,0),l.places.getD 2 (0,0)]).toArray 119)).drew:=((Below.refl _ _).alloc (jC _) _).drew
 have KE:Calls Tryz.prog 119 #[.pointer (some ⟨x,0,none⟩),.slice (some ⟨(w.alloc (.cells #[.int .i64 (l.num:Nat),.int .i64 (l.op:Nat),.slice (some ⟨g,0,none⟩) 3 cp,.int .i64 l.number,.int .i64 l.flag,.slice an l.next.length cn] 115)).heap.size,0,none⟩) 2 2] ((w.alloc (.cells #[.int .i64 (l.num:Nat),.int .i64 (l.op:Nat),.slice (some ⟨g,0,none⟩) 3 cp,.int .i64 l.number,.int .i64 l.flag,.slice an l.next.length cn] 115)).alloc (.cells #[.int .i64 ((l.places.getD 1 (0,0)).1:Nat),.int .i64 ((l.places.getD 1 (0,0)).2:Nat),.int .i64 ((l.places.getD 2 (0,0)).1:Nat),.int .i64 ((l.places.getD 2 (0,0)).2:Nat)] 119)).drew _:=km (HA.below OI) hq bU (aw XY ((Below.refl _ _).drew)) (fun y hy=>by
  simp only[List.mem_cons,List.not_mem_nil,or_false]at hy;rcases hy with rfl|rfl
  ·exact x1
  ·exact x2)
 have kd:(w.alloc (.cells #[.int .i64 (l.num:Nat),.int .i64 (l.op:Nat),.slice (some ⟨g,0,none⟩) 3 cp,.int .i64 l.number,.int .i64 l.flag,.slice an l.next.length cn] 115)).heap.size=w.heap.size+1:=by simp
 rw[kd]at KE;generalize b.empty q [l.places.getD 1 (0,0),l.places.getD 2 (0,0)]=r at*;have iO:Below w.heap.size w (w.alloc (.cells #[.int .i64 (l.num:Nat),.int .i64 (l.op:Nat),.slice (some ⟨g,0,none⟩) 3 cp,.int .i64 l.number,.int .i64 l.flag,.slice an l.next.length cn] 115)).drew:=aF.drew;have It:((((l.op:Nat):Int)==3)=true)\/((((l.op:Nat):Int)==3)=false/\(((l.op:Nat):Int)==4)=true)\/((((l.op:Nat):Int)==3)=false/\(((l.op:Nat):Int)==4)=false/\(((l.op:Nat):Int)==5)=true)\/((((l.op:Nat):Int)==3)=false/\(((l.op:Nat):Int)==4)=false/\(((l.op:Nat):Int)==5)=false/\(((l.op:Nat):Int)==6)=true):=by
  rcases ak with e|e|e|e<;>rw[e]<;>simp
 clear hl hk ak hlen c0 c1 c2 c3 c4 c5;generalize l.places.getD 0 (0,0)=p0 at*;generalize l.places.getD 1 (0,0)=p1 at*;generalize l.places.getD 2 (0,0)=p2 at*;rcases It with b3|⟨b3,b4⟩|⟨b3,b4,b5⟩|⟨b3,b4,b5,b6⟩
 all_goals
  go_enter Tryz.func73,Tryz.ntmps73
  go_upto_region 7 with fail
  go_region_held3 (fun W'=>W'.cell? ⟨g,2,none⟩=some (.int .i64 (p1.1:Nat))/\W'.cell? ⟨g,3,none⟩=some (.int .i64 (p1.2:Nat))/\W'.cell? ⟨g,4,none⟩=some (.int .i64 (p2.1:Nat))/\W'.cell? ⟨g,5,none⟩=some (.int .i64 (p2.2:Nat))) (go_keep)
   (first
   |(go_at_call 119;go_fit KE;rintro e w3 ⟨rfl,cT⟩;have qR:=aF.trans ((OI.trans (cT.mono OI.size)).mono aF.size);obtain⟨o0,o1,o2,o3,o4,o5⟩:=hb _ (h.below qR).aZ))
  all_goals go_wp2_with fail
  all_goals
   go_ret
   exact⟨rfl,qR⟩
set_option maxRecDepth 20000 in
theorem Er (h:dM w0 x a w b vi vm vt)(hq:PQ w0 a q v u)(bU:q.locals.length<=12){z nb:Nat}{l:ab}{ap an:Option Addr}{cp cn:Nat}(hl:aC z w0 l (.slice ap l.places.length cp) (.slice an l.next.length cn))(hk:fY q.locals.length nb l)(ak:l.op=12):
  Calls Tryz.prog 73 #[.pointer (some ⟨x,0,none⟩),.agg #[.int .i64 (l.num:Nat),.int .i64 (l.op:Nat),.slice ap l.places.length cp,.int .i64 l.number,.int .i64 l.flag,.slice an l.next.length cn]] w fun e w'=>e=.returned (.bool (b.empty q (QP.ai q (l.places.getD 1 (0,0)))))/\Below w.heap.size w w':=by
 have hlen:l.places.length=2:=by rw[hk.bt,ak];rfl
 obtain⟨g,rfl,gP,hg,c0,c1⟩:=ax hl hlen 0 (by omega);obtain⟨g',e',-,-,c2,c3⟩:=ax hl hlen 1 (by omega);simp only[Option.some.injEq,Addr.mk.injEq,and_true]at e';subst e';have x0:=(hk.places (l.places.getD 0 (0,0)) (by rw[jA,jB (by omega)];exact jL _)).1;have x1:=(hk.places (l.places.getD 1 (0,0)) (by rw[jA,jB (by omega)];exact jL _)).1;have hb:∀W,Below w0.heap.size w0 W->(W.cell? ⟨g,0,none⟩=some (.int .i64 ((l.places.getD 0 (0,0)).1:Nat))/\W.cell? ⟨g,1,none⟩=some (.int .i64 ((l.places.getD 0 (0,0)).2:Nat))/\W.cell? ⟨g,2,none⟩=some (.int .i64 ((l.places.getD 1 (0,0)).1:Nat))/\W.cell? ⟨g,3,none⟩=some (.int .i64 ((l.places.getD 1 (0,0)).2:Nat))):=fun W hW=>⟨(hW.cell (p:=⟨g,0,none⟩) hg).trans c0,(hW.cell (p:=⟨g,1,none⟩) hg).trans c1,(hW.cell (p:=⟨g,2,none⟩) hg).trans c2,(hW.cell (p:=⟨g,3,none⟩) hg).trans c3⟩
 have aF:Below w.heap.size w (w.alloc (.cells #[.int .i64 (l.num:Nat),.int .i64 (l.op:Nat),.slice (some ⟨g,0,none⟩) 2 cp,.int .i64 l.number,.int .i64 l.flag,.slice an l.next.length cn] 115)):=(Below.refl _ _).alloc (jC _) _;have HA:=h.below aF;obtain⟨d0,d1,d2,d3⟩:=hb _ HA.aZ;rw[hlen];have KH:=fun(W:World) (hb:Below w.heap.size w W)=>c8 q (l.places.getD 1 (0,0)) v u a W (hq.below (h.below hb).aZ).aM (hq.below (h.below hb).aZ).loc x1
 have KE:=fun(W:World) (hb:Below w.heap.size w W) (z n c:Nat) (ad:Option Addr) (hp:aI z W (.slice ad n c) (QP.ai q (l.places.getD 1 (0,0))))=>km (h.below hb) hq bU hp (tT q _ x1)
 generalize QP.ai q (l.places.getD 1 (0,0))=hs at*;generalize b.empty q hs=r at*;have iO:Below w.heap.size w (w.alloc (.cells #[.int .i64 (l.num:Nat),.int .i64 (l.op:Nat),.slice (some ⟨g,0,none⟩) 2 cp,.int .i64 l.number,.int .i64 l.flag,.slice an l.next.length cn] 115)).drew:=aF.drew;have It:((((l.op:Nat):Int)==3)=false/\(((l.op:Nat):Int)==4)=false/\(((l.op:Nat):Int)==5)=false/\(((l.op:Nat):Int)==6)=false/\(((l.op:Nat):Int)==8)=false/\(((l.op:Nat):Int)==19)=false/\(((l.op:Nat):Int)==20)=false/\(((l.op:Nat):Int)==22)=false/\(((l.op:Nat):Int)==9)=false/\(((l.op:Nat):Int)==14)=false/\(((l.op:Nat):Int)==12)=true):=by
  rw[ak];simp
 clear hl hk ak hlen c0 c1 c2 c3;generalize l.places.getD 0 (0,0)=p0 at*;generalize l.places.getD 1 (0,0)=p1 at*;obtain⟨b3,b4,b5,b6,b8,b19,rl,b22,b9,b14,b12⟩:=It;go_enter Tryz.func73,Tryz.ntmps73
 have c3:=HA.prog;go_upto_region 17 with fail
 go_region_held3 (fun W'=>W'.cell? ⟨g,2,none⟩=some (.int .i64 (p1.1:Nat))/\W'.cell? ⟨g,3,none⟩=some (.int .i64 (p1.2:Nat))/\W'.cell? ⟨x,3,none⟩=some (.pointer (some ⟨a,0,none⟩))) (go_keep)
  (first
  |(go_at_call 102;go_fit (KH _ iO);rintro e w3 ⟨g3,k3,rfl,S7,sC⟩;have cT:=iO.trans (sC.mono iO.size);obtain⟨o0,o1,o2,o3⟩:=hb _ (h.below cT).aZ;have c4:=(h.below cT).prog)
  |(go_at_call 119;go_fit (KE _ cT _ _ _ _ S7);rintro e w4 ⟨rfl,Ry⟩;have A7:=cT.trans (Ry.mono cT.size);obtain⟨z0,z1,z2,z3⟩:=hb _ (h.below A7).aZ;have c5:=(h.below A7).prog))
 all_goals go_wp2_with fail
 all_goals
  go_ret
  exact⟨rfl,A7⟩
set_option maxRecDepth 20000 in
theorem Ep (h:dM w0 x a w b vi vm vt)(hq:PQ w0 a q v u)(bU:q.locals.length<=12){z nb:Nat}{l:ab}{ap an:Option Addr}{cp cn:Nat}(hl:aC z w0 l (.slice ap l.places.length cp) (.slice an l.next.length cn))(hk:fY q.locals.length nb l)(ak:l.op=10)(ho:b.yd.Ok)(eT:(b.cell q (l.places.getD 1 (0,0))).1=true->1<=b.val q (l.places.getD 1 (0,0))/\b.val q (l.places.getD 1 (0,0))<=b.yd.made.length):
  Calls Tryz.prog 73 #[.pointer (some ⟨x,0,none⟩),.agg #[.int .i64 (l.num:Nat),.int .i64 (l.op:Nat),.slice ap l.places.length cp,.int .i64 l.number,.int .i64 l.flag,.slice an l.next.length cn]] w fun e w'=>e=.returned (.bool (b.dead q (l.places.getD 1 (0,0))))/\Below w.heap.size w w':=by
 have hlen:l.places.length=2:=by rw[hk.bt,ak];rfl
 obtain⟨g,rfl,gP,hg,c0,c1⟩:=ax hl hlen 0 (by omega);obtain⟨g',e',-,-,c2,c3⟩:=ax hl hlen 1 (by omega);simp only[Option.some.injEq,Addr.mk.injEq,and_true]at e';subst e';have x0:=(hk.places (l.places.getD 0 (0,0)) (by rw[jA,jB (by omega)];exact jL _)).1;have x1:=(hk.places (l.places.getD 1 (0,0)) (by rw[jA,jB (by omega)];exact jL _)).1;have hb:∀W,Below w0.heap.size w0 W->(W.cell? ⟨g,0,none⟩=some (.int .i64 ((l.places.getD 0 (0,0)).1:Nat))/\W.cell? ⟨g,1,none⟩=some (.int .i64 ((l.places.getD 0 (0,0)).2:Nat))/\W.cell? ⟨g,2,none⟩=some (.int .i64 ((l.places.getD 1 (0,0)).1:Nat))/\W.cell? ⟨g,3,none⟩=some (.int .i64 ((l.places.getD 1 (0,0)).2:Nat))):=fun W hW=>⟨(hW.cell (p:=⟨g,0,none⟩) hg).trans c0,(hW.cell (p:=⟨g,1,none⟩) hg).trans c1,(hW.cell (p:=⟨g,2,none⟩) hg).trans c2,(hW.cell (p:=⟨g,3,none⟩) hg).trans c3⟩
 have aF:Below w.heap.size w (w.alloc (.cells #[.int .i64 (l.num:Nat),.int .i64 (l.op:Nat),.slice (some ⟨g,0,none⟩) 2 cp,.int .i64 l.number,.int .i64 l.flag,.slice an l.next.length cn] 115)):=(Below.refl _ _).alloc (jC _) _;have HA:=h.below aF;obtain⟨d0,d1,d2,d3⟩:=hb _ HA.aZ;rw[hlen];have KD:=yJ HA hq bU (l.places.getD 1 (0,0)) x1 ho eT;generalize b.dead q (l.places.getD 1 (0,0))=r at*;clear eT;have iO:Below w.heap.size w (w.alloc (.cells #[.int .i64 (l.num:Nat),.int .i64 (l.op:Nat),.slice (some ⟨g,0,none⟩) 2 cp,.int .i64 l.number,.int .i64 l.flag,.slice an l.next.length cn] 115)).drew:=aF.drew;have It:((((l.op:Nat):Int)==3)=false/\(((l.op:Nat):Int)==4)=false/\(((l.op:Nat):Int)==5)=false/\(((l.op:Nat):Int)==6)=false/\(((l.op:Nat):Int)==8)=false/\(((l.op:Nat):Int)==19)=false/\(((l.op:Nat):Int)==20)=false/\(((l.op:Nat):Int)==22)=false/\(((l.op:Nat):Int)==9)=false/\(((l.op:Nat):Int)==14)=false/\(((l.op:Nat):Int)==12)=false/\(((l.op:Nat):Int)==10)=true):=by
  rw[ak];simp
 clear hl hk ak hlen c0 c1 c2 c3;generalize l.places.getD 0 (0,0)=p0 at*;generalize l.places.getD 1 (0,0)=p1 at*;obtain⟨b3,b4,b5,b6,b8,b19,rl,b22,b9,b14,b12,b10⟩:=It;go_enter Tryz.func73,Tryz.ntmps73
 go_wp2_with (go_at_call 120;go_fit KD;rintro e w3 ⟨rfl,cT⟩)
 go_ret
 exact⟨rfl,aF.trans (cT.mono aF.size)⟩
set_option maxRecDepth 20000 in
theorem Eo (h:dM w0 x a w b vi vm vt)(hq:PQ w0 a q v u)(bU:q.locals.length<=12){z nb:Nat}{l:ab}{ap an:Option Addr}{cp cn:Nat}(hl:aC z w0 l (.slice ap l.places.length cp) (.slice an l.next.length cn))(hk:fY q.locals.length nb l)(ak:l.op=16)(ho:b.yd.Ok)(eT:(b.cell q (l.places.getD 0 (0,0))).1=true->1<=b.val q (l.places.getD 0 (0,0))/\b.val q (l.places.getD 0 (0,0))<=b.yd.made.length):
  Calls Tryz.prog 73 #[.pointer (some ⟨x,0,none⟩),.agg #[.int .i64 (l.num:Nat),.int .i64 (l.op:Nat),.slice ap l.places.length cp,.int .i64 l.number,.int .i64 l.flag,.slice an l.next.length cn]] w fun e w'=>e=.returned (.bool (b.dead q (l.places.getD 0 (0,0))))/\Below w.heap.size w w':=by
 have hlen:l.places.length=1:=by rw[hk.bt,ak];rfl
 obtain⟨g,rfl,gP,hg,c0,c1⟩:=ax hl hlen 0 (by omega);have x0:=(hk.places (l.places.getD 0 (0,0)) (by rw[jA,jB (by omega)];exact jL _)).1;have hb:∀W,Below w0.heap.size w0 W->(W.cell? ⟨g,0,none⟩=some (.int .i64 ((l.places.getD 0 (0,0)).1:Nat))/\W.cell? ⟨g,1,none⟩=some (.int .i64 ((l.places.getD 0 (0,0)).2:Nat))):=fun W hW=>⟨(hW.cell (p:=⟨g,0,none⟩) hg).trans c0,(hW.cell (p:=⟨g,1,none⟩) hg).trans c1⟩
 have aF:Below w.heap.size w (w.alloc (.cells #[.int .i64 (l.num:Nat),.int .i64 (l.op:Nat),.slice (some ⟨g,0,none⟩) 1 cp,.int .i64 l.number,.int .i64 l.flag,.slice an l.next.length cn] 115)):=(Below.refl _ _).alloc (jC _) _;have HA:=h.below aF;obtain⟨d0,d1⟩:=hb _ HA.aZ;rw[hlen];have KD:=yJ HA hq bU (l.places.getD 0 (0,0)) x0 ho eT;generalize b.dead q (l.places.getD 0 (0,0))=r at*;clear eT;have iO:Below w.heap.size w (w.alloc (.cells #[.int .i64 (l.num:Nat),.int .i64 (l.op:Nat),.slice (some ⟨g,0,none⟩) 1 cp,.int .i64 l.number,.int .i64 l.flag,.slice an l.next.length cn] 115)).drew:=aF.drew;have It:((((l.op:Nat):Int)==3)=false/\(((l.op:Nat):Int)==4)=false/\(((l.op:Nat):Int)==5)=false/\(((l.op:Nat):Int)==6)=false/\(((l.op:Nat):Int)==8)=false/\(((l.op:Nat):Int)==19)=false/\(((l.op:Nat):Int)==20)=false/\(((l.op:Nat):Int)==22)=false/\(((l.op:Nat):Int)==9)=false/\(((l.op:Nat):Int)==14)=false/\(((l.op:Nat):Int)==12)=false/\(((l.op:Nat):Int)==10)=false/\(((l.op:Nat):Int)==11)=false/\(((l.op:Nat):Int)==16)=true):=by
  rw[ak];simp
 clear hl hk ak hlen c0 c1;generalize l.places.getD 0 (0,0)=p0 at*;obtain⟨b3,b4,b5,b6,b8,b19,rl,b22,b9,b14,b12,b10,b11,b16⟩:=It;go_enter Tryz.func73,Tryz.ntmps73
 go_wp2_with (go_at_call 120;go_fit KD;rintro e w3 ⟨rfl,cT⟩)
 go_ret
 exact⟨rfl,aF.trans (cT.mono aF.size)⟩
set_option maxRecDepth 20000 in
theorem CR (h:dM w0 x a w b vi vm vt)(hq:PQ w0 a q v u)(bU:q.locals.length<=12){z nb:Nat}{l:ab}{ap an:Option Addr}{cp cn:Nat}(hl:aC z w0 l (.slice ap l.places.length cp) (.slice an l.next.length cn))(hk:fY q.locals.length nb l)(ak:l.op=11)(ho:b.yd.Ok)(eT:(b.cell q (l.places.getD 0 (0,0))).1=true->1<=b.val q (l.places.getD 0 (0,0))/\b.val q (l.places.getD 0 (0,0))<=b.yd.made.length):
  Calls Tryz.prog 73 #[.pointer (some ⟨x,0,none⟩),.agg #[.int .i64 (l.num:Nat),.int .i64 (l.op:Nat),.slice ap l.places.length cp,.int .i64 l.number,.int .i64 l.flag,.slice an l.next.length cn]] w fun e w'=>e=.returned (.bool (b.dead q (l.places.getD 0 (0,0))||b.empty q [l.places.getD 1 (0,0)]))/\Below w.heap.size w w':=by
 have hlen:l.places.length=2:=by rw[hk.bt,ak];rfl
 obtain⟨g,rfl,gP,hg,c0,c1⟩:=ax hl hlen 0 (by omega);obtain⟨g',e',-,-,c2,c3⟩:=ax hl hlen 1 (by omega);simp only[Option.some.injEq,Addr.mk.injEq,and_true]at e';subst e';have x0:=(hk.places (l.places.getD 0 (0,0)) (by rw[jA,jB (by omega)];exact jL _)).1;have x1:=(hk.places (l.places.getD 1 (0,0)) (by rw[jA,jB (by omega)];exact jL _)).1;have hb:∀W,Below w0.heap.size w0 W->(W.cell? ⟨g,0,none⟩=some (.int .i64 ((l.places.getD 0 (0,0)).1:Nat))/\W.cell? ⟨g,1,none⟩=some (.int .i64 ((l.places.getD 0 (0,0)).2:Nat))/\W.cell? ⟨g,2,none⟩=some (.int .i64 ((l.places.getD 1 (0,0)).1:Nat))/\W.cell? ⟨g,3,none⟩=some (.int .i64 ((l.places.getD 1 (0,0)).2:Nat))):=fun W hW=>⟨(hW.cell (p:=⟨g,0,none⟩) hg).trans c0,(hW.cell (p:=⟨g,1,none⟩) hg).trans c1,(hW.cell (p:=⟨g,2,none⟩) hg).trans c2,(hW.cell (p:=⟨g,3,none⟩) hg).trans c3⟩
 have aF:Below w.heap.size w (w.alloc (.cells #[.int .i64 (l.num:Nat),.int .i64 (l.op:Nat),.slice (some ⟨g,0,none⟩) 2 cp,.int .i64 l.number,.int .i64 l.flag,.slice an l.next.length cn] 115)):=(Below.refl _ _).alloc (jC _) _;have HA:=h.below aF;obtain⟨d0,d1,d2,d3⟩:=hb _ HA.aZ;rw[hlen];have KD:=yJ HA hq bU (l.places.getD 0 (0,0)) x0 ho eT;have KE:=fun(W:World) (hb:Below w.heap.size w W)=>km ((h.below hb).below ((Below.refl _ _).alloc (jC _) _)) hq bU (oG W (l.places.getD 1 (0,0))) (fun y hy=>by rw[jI.1 hy];exact x1)
 generalize b.empty q [l.places.getD 1 (0,0)]=r at*;generalize b.dead q (l.places.getD 0 (0,0))=d at*;clear eT;have iO:Below w.heap.size w (w.alloc (.cells #[.int .i64 (l.num:Nat),.int .i64 (l.op:Nat),.slice (some ⟨g,0,none⟩) 2 cp,.int .i64 l.number,.int .i64 l.flag,.slice an l.next.length cn] 115)).drew:=aF.drew;have It:((((l.op:Nat):Int)==3)=false/\(((l.op:Nat):Int)==4)=false/\(((l.op:Nat):Int)==5)=false/\(((l.op:Nat):Int)==6)=false/\(((l.op:Nat):Int)==8)=false/\(((l.op:Nat):Int)==19)=false/\(((l.op:Nat):Int)==20)=false/\(((l.op:Nat):Int)==22)=false/\(((l.op:Nat):Int)==9)=false/\(((l.op:Nat):Int)==14)=false/\(((l.op:Nat):Int)==12)=false/\(((l.op:Nat):Int)==10)=false/\(((l.op:Nat):Int)==11)=true):=by
  rw[ak];simp
 clear hl hk ak hlen c0 c1 c2 c3;generalize l.places.getD 0 (0,0)=p0 at*;generalize l.places.getD 1 (0,0)=p1 at*;obtain⟨b3,b4,b5,b6,b8,b19,rl,b22,b9,b14,b12,b10,b11⟩:=It;go_enter Tryz.func73,Tryz.ntmps73
 cases d
 ·go_wp2_with (first
   |(go_at_call 120;go_fit KD;rintro e w3 ⟨rfl,sC⟩;have cT:=aF.trans (sC.mono aF.size);obtain⟨o0,o1,o2,o3⟩:=hb _ (h.below cT).aZ)
   |(go_at_call 119;go_fit (KE _ cT);rintro e w4 ⟨rfl,A7⟩))
  go_ret
  exact⟨rfl,cT.trans ((((Below.refl _ _).alloc (jC _) _).trans (A7.mono (by simp))).mono cT.size)⟩
 ·go_wp2_with (go_at_call 120;go_fit KD;rintro e w3 ⟨rfl,cT⟩)
  go_ret
  exact⟨rfl,aF.trans (cT.mono aF.size)⟩
set_option maxRecDepth 20000 in
theorem Es {l:ab}{ap an:Option Addr}{cp cn:Nat}(ak:l.op=2\/l.op=7\/l.op=13\/l.op=17\/l.op=18\/l.op=21):
  Calls Tryz.prog 73 #[.pointer (some ⟨x,0,none⟩),.agg #[.int .i64 (l.num:Nat),.int .i64 (l.op:Nat),.slice ap l.places.length cp,.int .i64 l.number,.int .i64 l.flag,.slice an l.next.length cn]] w fun e w'=>e=.returned (.bool false)/\Below w.heap.size w w':=by
 have aF:Below w.heap.size w (w.alloc (.cells #[.int .i64 (l.num:Nat),.int .i64 (l.op:Nat),.slice ap l.places.length cp,.int .i64 l.number,.int .i64 l.flag,.slice an l.next.length cn] 115)):=(Below.refl _ _).alloc (jC _) _;have b3:(((l.op:Nat):Int)==3)=false:=by rw[jZ];omega
 have b4:(((l.op:Nat):Int)==4)=false:=by rw[jZ];omega
 have b5:(((l.op:Nat):Int)==5)=false:=by rw[jZ];omega
 have b6:(((l.op:Nat):Int)==6)=false:=by rw[jZ];omega
 have b8:(((l.op:Nat):Int)==8)=false:=by rw[jZ];omega
 have b19:(((l.op:Nat):Int)==19)=false:=by rw[jZ];omega
 have rl:(((l.op:Nat):Int)==20)=false:=by rw[jZ];omega
 have b22:(((l.op:Nat):Int)==22)=false:=by rw[jZ];omega
 have b9:(((l.op:Nat):Int)==9)=false:=by rw[jZ];omega
 have b14:(((l.op:Nat):Int)==14)=false:=by rw[jZ];omega
 have b12:(((l.op:Nat):Int)==12)=false:=by rw[jZ];omega
 have b10:(((l.op:Nat):Int)==10)=false:=by rw[jZ];omega
 have b11:(((l.op:Nat):Int)==11)=false:=by rw[jZ];omega
 have b16:(((l.op:Nat):Int)==16)=false:=by rw[jZ];omega
 clear ak;go_enter Tryz.func73,Tryz.ntmps73
 go_wp2
 go_ret
 exact⟨rfl,aF⟩
end
end Ex
namespace Ex
open Go Go.RowKit Sq Aux PrjJ PrjK PrjL PrjM PrjR PrjS PrjT FlwA FlwE Go.Proofs.YtmlgajhhnojdjaaGreatDoor.Own
def Br.cz (q:QP)(b:Br)(l:ab):Br:=
 if l.op=2 then b.write q (ag l 0) l.number
 else if l.op=3\/l.op=4\/l.op=5 then b.calc q l
 else if l.op=7 then({b with aO:=b.aO.tail}:Br).write q (ag l 0) (b.aO.headD 0)
 else if l.op=8 then{b with yd:=b.yd.note 111 (b.val q (ag l 0))}
 else if l.op=10 then({b with yd:=b.yd.load (b.val q (ag l 1)).toNat}:Br).write q (ag l 0) (b.yd.at (b.val q (ag l 1)).toNat).1
 else if l.op=11 then{b with yd:=b.yd.store (b.val q (ag l 0)).toNat (b.val q (ag l 1))}
 else if l.op=16 then{b with yd:=b.yd.free (b.val q (ag l 0)).toNat}
 else if l.op=12 then b.move q (ag l 0) (ag l 1)
 else if l.op=13 then b.write q (ag l 0) 0
 else if l.op=14 then(b.write q (ag l 0) 1).write q ((ag l 0).1,3) ((b.write q (ag l 0) 1).val q (ag l 1))
 else if l.op=17 then{b with flags:=b.flags.set l.flag.toNat (l.number==1)}
 else b
def Br.breaks (q:QP)(b:Br)(l:ab):Bool:=
 if l.op=3\/l.op=4\/l.op=5\/l.op=6 then b.empty q [ag l 1,ag l 2]
 else if l.op=8\/l.op=19\/l.op=20\/l.op=22 then b.empty q [ag l 0]
 else if l.op=9\/l.op=14 then b.empty q [ag l 1]
 else if l.op=12 then b.empty q (QP.ai q (ag l 1))
 else if l.op=10 then b.dead q (ag l 1)
 else if l.op=11 then b.dead q (ag l 0)||b.empty q [ag l 1]
 else if l.op=16 then b.dead q (ag l 0)
 else false
def Br.new (b:Br)(q:QP)(p:Nat×Nat)(v:Int):Br:=({b with yd:=b.yd.build v}:Br).write q p ((b.yd.made.length+1:Nat):Int)
def da (q:QP)(room:Int):Nat->List ab->Br->Option (Nat×Int×Br)
 |_,[],_=>none
 |0,_::_,b=>some (2,0,b)
 |f+1,l::ls,b=>
  if b.breaks q l=true then some (5,0,b)
  else if l.op=6 then(if b.val q (ag l 2)=0 then some (4,0,b)else da q room f ls (b.calc q l))
  else if l.op=9 then(if b.yd.live≥room then some (3,0,b)else da q room f ls (b.new q (ag l 0) (b.val q (ag l 1))))
  else if l.op=18\/l.op=19\/l.op=20\/l.op=21 then(if ls=[]then da q room f (q.blocks.getD (l.next.getD (if b.other q l then 1 else 0) 0) []) b else none)
  else if l.op=22 then some (1,b.val q (ag l 0),b)
  else da q room f ls (b.cz q l)
def Br.start (aO:List Int):Br:=⟨⟨[],0,[]⟩,aO,List.replicate 36 (false,0),List.replicate 50 false⟩
def Br.Bx (q:QP)(b:Br):Prop:=∀k,k<24->¬q.bN (k/2)=0->(b.cs.getD k (false,0)).1=true->1<=(b.cs.getD k (false,0)).2/\(b.cs.getD k (false,0)).2<=b.yd.made.length
section
variable {x a:Nat} {w w0:World} {vm vt vi v u:Value} {b:Br} {q:QP}
structure QX (q:QP)(b:Br)(l:ab):Prop where
 op:l.op=2\/l.op=3\/l.op=4\/l.op=5\/l.op=7\/l.op=8\/l.op=10\/l.op=11\/l.op=16\/l.op=12\/l.op=13\/l.op=14\/l.op=17
 flag:l.op=17->0<=l.flag/\l.flag<50
 hl:l.op=12->(QP.ai q (ag l 0)).length=(QP.ai q (ag l 1)).length
 b0:l.op=11\/l.op=16->1<=b.val q (ag l 0)/\b.val q (ag l 0)<=b.yd.made.length
 b1:l.op=10->1<=b.val q (ag l 1)/\b.val q (ag l 1)<=b.yd.made.length
theorem Hs (h:dM w0 x a w b vi vm vt)(hq:PQ w0 a q v u)(bU:q.locals.length<=12){z nb:Nat}{l:ab}{ap an:Option Addr}{cp cn:Nat}(hl:aC z w0 l (.slice ap l.places.length cp) (.slice an l.next.length cn))(hk:fY q.locals.length nb l)(hd:QX q b l)(hr:∀p,bC (b.val q p))(ok:b.yd.Ok)(iD:Pow w0)(iG:11<=w0.heap.size):
  Calls Tryz.prog 78 #[.pointer (some ⟨x,0,none⟩),.agg #[.int .i64 (l.num:Nat),.int .i64 (l.op:Nat),.slice ap l.places.length cp,.int .i64 l.number,.int .i64 l.flag,.slice an l.next.length cn]] w fun e w'=>e=.returned (.tuple #[])/\∃vi' vm' vt',dM w0 x a w' (b.cz q l) vi' vm' vt'/\aA x vm vt w vm' vt' w':=by
 obtain⟨ak,h1,h2,h3,h4⟩:=hd;unfold Br.cz;rcases ak with e|e|e|e|e|e|e|e|e|e|e|e|e
 ·rw[jb e];exact Hu h hq bU hl hk e
 ·rw[ja (by omega),jb (by omega)];exact yN h hq bU hl hk (by omega) hr
 ·rw[ja (by omega),jb (by omega)];exact yN h hq bU hl hk (by omega) hr
 ·rw[ja (by omega),jb (by omega)];exact yN h hq bU hl hk (by omega) hr
 ·rw[ja (by omega),ja (by omega),jb (by omega)];exact Oh h hq bU hl hk e
 ·rw[ja (by omega),ja (by omega),ja (by omega),jb (by omega)];exact Ht h hq bU hl hk e hr ok iD iG
 ·rw[ja (by omega),ja (by omega),ja (by omega),ja (by omega),jb (by omega)];exact CY h hq bU hl hk e hr ok iD iG (h4 e)
 ·rw[ja (by omega),ja (by omega),ja (by omega),ja (by omega),ja (by omega),jb (by omega)];exact yO h hq bU hl hk e hr ok iD iG (h3 (.inl e))
 ·rw[ja (by omega),ja (by omega),ja (by omega),ja (by omega),ja (by omega),ja (by omega),jb (by omega)];exact Ri h hq bU hl hk e hr ok iD iG (h3 (.inr e))
 ·rw[ja (by omega),ja (by omega),ja (by omega),ja (by omega),ja (by omega),ja (by omega),ja (by omega),jb (by omega)];exact CZ h hq bU hl hk e (h2 e)
 ·rw[ja (by omega),ja (by omega),ja (by omega),ja (by omega),ja (by omega),ja (by omega),ja (by omega),ja (by omega),jb (by omega)];exact C0 h hq bU hl hk e
 ·rw[ja (by omega),ja (by omega),ja (by omega),ja (by omega),ja (by omega),ja (by omega),ja (by omega),ja (by omega),ja (by omega),jb (by omega)];exact C1 h hq bU hl hk e
 ·rw[ja (by omega),ja (by omega),ja (by omega),ja (by omega),ja (by omega),ja (by omega),ja (by omega),ja (by omega),ja (by omega),ja (by omega),jb (by omega)];exact Rh h hq bU hl hk e (h1 e)
theorem Ho (h:dM w0 x a w b vi vm vt)(hq:PQ w0 a q v u)(bU:q.locals.length<=12){z nb:Nat}{l:ab}{ap an:Option Addr}{cp cn:Nat}(hl:aC z w0 l (.slice ap l.places.length cp) (.slice an l.next.length cn))(hk:fY q.locals.length nb l)(ho:b.yd.Ok)(lT:¬l.op=15)
  (lo:l.op=11\/l.op=16->(b.cell q (ag l 0)).1=true->1<=b.val q (ag l 0)/\b.val q (ag l 0)<=b.yd.made.length) (aG:l.op=10->(b.cell q (ag l 1)).1=true->1<=b.val q (ag l 1)/\b.val q (ag l 1)<=b.yd.made.length):
  Calls Tryz.prog 73 #[.pointer (some ⟨x,0,none⟩),.agg #[.int .i64 (l.num:Nat),.int .i64 (l.op:Nat),.slice ap l.places.length cp,.int .i64 l.number,.int .i64 l.flag,.slice an l.next.length cn]] w fun e w'=>e=.returned (.bool (b.breaks q l))/\Below w.heap.size w w':=by
 have o1:=hk.op;have o2:=hk.Kp;unfold Br.breaks;by_cases e1:l.op=3\/l.op=4\/l.op=5\/l.op=6
 ·rw[jb e1];exact Hp h hq bU hl hk e1
 rw[ja e1];by_cases e2:l.op=8\/l.op=19\/l.op=20\/l.op=22
 ·rw[jb e2];exact CQ h hq bU hl hk e2
 rw[ja e2];by_cases e3:l.op=9\/l.op=14
 ·rw[jb e3];exact AS h hq bU hl hk e3
 rw[ja e3];by_cases e4:l.op=12
 ·rw[jb e4];exact Er h hq bU hl hk e4
 rw[ja e4];by_cases e5:l.op=10
 ·rw[jb e5];exact Ep h hq bU hl hk e5 ho (aG e5)
 rw[ja e5];by_cases e6:l.op=11
 ·rw[jb e6];exact CR h hq bU hl hk e6 ho (lo (.inl e6))
 rw[ja e6];by_cases e7:l.op=16
 ·rw[jb e7];exact Eo h hq bU hl hk e7 ho (lo (.inr e7))
 rw[ja e7];exact Es (by omega)
end
end Ex
end Go.Proofs.YtmlgajhhnojdjaaGreatDoor

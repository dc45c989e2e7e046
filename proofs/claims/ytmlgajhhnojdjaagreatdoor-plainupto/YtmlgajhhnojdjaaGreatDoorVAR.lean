import Derived.Test.YtmlgajhhnojdjaaGreatDoorVAQ
set_option maxHeartbeats 8000000
namespace Go.Proofs.YtmlgajhhnojdjaaGreatDoor
namespace Own
open Go Go.RowKit Sq Aux PrjJ PrjK PrjL PrjM PrjS PrjT FlwA FlwB FlwD FlwE
section
variable {x a:Nat} {w w0 w1:World} {vm vt vi vm1 vt1:Value} {o:Own}
set_option maxRecDepth 20000 in
theorem Kj (h:cg w0 x a w o vi vm vt){z nl nb:Nat}{l:ab}{ap an:Option Addr}{cp cn:Nat}(hl:aE z w l (.slice ap l.places.length cp) (.slice an l.next.length cn))(hk:iB nl nb l)(iE:nl<=12)(aH:l.op=12){t:Nat}(hs:o.yd.Sz t)(ht:t+100<=9000000)(lB:Pow w0)(ly:11<=w0.heap.size)(jv:o.Bx){q:QP}{v u:Value}(hq:PQ w0 a q v u)(hnq:nl=q.locals.length)(JV:(QP.ai q (l.places.getD 0 (0,0))).length=(QP.ai q (l.places.getD 1 (0,0))).length):
  Calls Tryz.prog 65 #[.pointer (some ⟨x,0,none⟩),.agg #[.int .i64 (l.num:Nat),.int .i64 (l.op:Nat),.slice ap l.places.length cp,.int .i64 l.number,.int .i64 l.flag,.slice an l.next.length cn]] w fun e w'=>e=.returned (.tuple #[])/\(∃vm' vt',cg w0 x a w' (o.move (QP.ai q (l.places.getD 0 (0,0))) (QP.ai q (l.places.getD 1 (0,0)))) vi vm' vt'/\aI x vm vt w vm' vt' w'):=by
 have hlen:l.places.length=2:=by rw[hk.cP,aH];rfl
 have aO:Below w.heap.size w (w.alloc (.cells #[.int .i64 (l.num:Nat),.int .i64 (l.op:Nat),.slice ap l.places.length cp,.int .i64 l.number,.int .i64 l.flag,.slice an l.next.length cn] 115)):=(Below.refl _ _).alloc (jC _) _;obtain⟨g,rfl,kC,hg,-,-⟩:=aS hl hlen 0 (by omega);have dL:w.ownsRow z 119 2 (.slice (some ⟨g,0,none⟩) l.places.length cp) l.places.length (aM l.places):=hl.places;have ef:=al dL aO;have pc:∀W:World,W.ownsRow z 119 2 (.slice (some ⟨g,0,none⟩) l.places.length cp) l.places.length (aM l.places)->W.cell? ⟨g,0,none⟩=some (.int .i64 ((l.places.getD 0 (0,0)).1:Nat))/\W.cell? ⟨g,1,none⟩=some (.int .i64 ((l.places.getD 0 (0,0)).2:Nat))/\W.cell? ⟨g,2,none⟩=some (.int .i64 ((l.places.getD 1 (0,0)).1:Nat))/\W.cell? ⟨g,3,none⟩=some (.int .i64 ((l.places.getD 1 (0,0)).2:Nat)):=fun W hW=>⟨(bc hW (j:=0) (by omega)).1,(bc hW (j:=0) (by omega)).2,(bc hW (j:=1) (by omega)).1,(bc hW (j:=1) (by omega)).2⟩
 have hx:∀j,j<2->(l.places.getD j (0,0)).1<nl:=fun j hj=>(hk.places (l.places.getD j (0,0)) (by rw[jA,jB (by omega)];exact jL _)).1
 have x0:=hx 0 (by omega);have x1:=hx 1 (by omega);have HA:=h.below aO;have Dt:Hid (_):=ef;have HP:Hid (_):=dL;have PC:Hid (_):=pc;have hd:=pc _ ef;rw[hlen]at aO HA hd;rw[hlen];clear hx hl hk pc dL ef;have b2:(((l.op:Nat):Int)==2)=false:=by rw[aH];rfl
 have b3:(((l.op:Nat):Int)==3)=false:=by rw[aH];rfl
 have b4:(((l.op:Nat):Int)==4)=false:=by rw[aH];rfl
 have b5:(((l.op:Nat):Int)==5)=false:=by rw[aH];rfl
 have b7:(((l.op:Nat):Int)==7)=false:=by rw[aH];rfl
 have b8:(((l.op:Nat):Int)==8)=false:=by rw[aH];rfl
 have b10:(((l.op:Nat):Int)==10)=false:=by rw[aH];rfl
 have b11:(((l.op:Nat):Int)==11)=false:=by rw[aH];rfl
 have b12:(((l.op:Nat):Int)==12)=true:=by rw[aH];rfl
 have b14:(((l.op:Nat):Int)==14)=false:=by rw[aH];rfl
 have b13:(((l.op:Nat):Int)==13)=false:=by rw[aH];rfl
 have b15:(((l.op:Nat):Int)==15)=false:=by rw[aH];rfl
 generalize l.places.getD 0 (0,0)=p0 at*;generalize l.places.getD 1 (0,0)=p1 at*;clear aH;obtain⟨d0,d1,d2,d3⟩:=hd;have x0i:(p0.1:Int)<12:=by omega
 have rT:∀{vm2 vt2:Value} {W:World},aI x vm vt (w.alloc (.cells #[.int .i64 (l.num:Nat),.int .i64 (l.op:Nat),.slice (some ⟨g,0,none⟩) 2 cp,.int .i64 l.number,.int .i64 l.flag,.slice an l.next.length cn] 115)) vm2 vt2 W->W.ownsRow z 119 2 (.slice (some ⟨g,0,none⟩) l.places.length cp) l.places.length (aM l.places):=fun hr=>HA.bE (by have:=Dt.out;rw[hlen]at this;rw[hlen];exact this) (.inr rfl) hr
 have x0q:p0.1<q.locals.length:=by omega
 have x1q:p1.1<q.locals.length:=by omega
 have NV:=dt (q:=q) (x:=p0) (n:=12) (by omega);have NW:=dt (q:=q) (x:=p1) (n:=12) (by omega);have Ul:(QP.ai q p0).length<=2:=by unfold QP.ai;split<;>simp
 have m3:=HA.prog;have PJ:=fun(W:World) (hW:cg w0 x a W o vi vm vt)=>cC q p0 v u a W (hq.below hW.bz).aD (hq.below hW.bz).loc x0q
 have M9:=fun(W:World) (hW:cg w0 x a W o vi vm vt)=>cC q p1 v u a W (hq.below hW.bz).aD (hq.below hW.bz).loc x1q
 have KM:=fun(W:World) (hW:cg w0 x a W o vi vm vt) (z1 z2 g1 g2 c1 c2:Nat) (z6:ay z1 W (.slice (some ⟨g1,0,none⟩) (QP.ai q p0).length c1) (QP.ai q p0)) (k8:ay z2 W (.slice (some ⟨g2,0,none⟩) (QP.ai q p1).length c2) (QP.ai q p1))=>AT hW z6 k8 NV NW (by omega) JV jv hs (by omega) lB ly
 clear JV;clear hlen;go_enter Tryz.func65,Tryz.ntmps65
 go_wp2
 go_region_held3 (fun W=>W.cell? ⟨g,0,none⟩=some (.int .i64 (p0.1:Nat))/\W.cell? ⟨g,1,none⟩=some (.int .i64 (p0.2:Nat))/\W.cell? ⟨g,2,none⟩=some (.int .i64 (p1.1:Nat))/\W.cell? ⟨g,3,none⟩=some (.int .i64 (p1.2:Nat))/\W.cell? ⟨x,3,none⟩=some (.pointer (some ⟨a,0,none⟩))) (go_keep)
  (first
  |(go_at_call 107;have _:=tk0;go_fit (KM _ fB _ _ g1 g2 c1 c2 Ce k8);rintro e w3 ⟨rfl,vm3,vt3,h3,r3⟩;obtain⟨k0,k1,k2,k3⟩:=PC.out _ (rT (r2a.trans r3));have m4:=h3.prog)
  |(go_at_call 107;have _:=tk1;go_fit (KM _ fB _ _ g2 g1 c2 c1 k8 Ce);rintro e w3 ⟨rfl,vm3,vt3,h3,r3⟩;obtain⟨k0,k1,k2,k3⟩:=PC.out _ (rT (r2a.trans r3));have m4:=h3.prog)
  |(go_at_call 102;have _:=tk0;go_fit (M9 _ gh);rintro e w2 ⟨g2,c2,rfl,k8,h2⟩;have fB:=gh.below h2;have r2a:=r1a.trans (aI.of h2 (x:=x) (vm:=vm) (vt:=vt));obtain⟨f0,f1,f2,f3⟩:=PC.out _ (rT r2a);have m2:=fB.prog;have Ce:=al z6 h2)
  |(go_at_call 102;have _:=tk1;go_fit (PJ _ gh);rintro e w2 ⟨g2,c2,rfl,k8,h2⟩;have fB:=gh.below h2;have r2a:=r1a.trans (aI.of h2 (x:=x) (vm:=vm) (vt:=vt));obtain⟨f0,f1,f2,f3⟩:=PC.out _ (rT r2a);have m2:=fB.prog;have Ce:=al z6 h2)
  |(go_at_call 102;go_fit (PJ _ HA.drew);rintro e w1 ⟨g1,c1,rfl,z6,h1⟩;have gh:=HA.drew.below h1;have r1a:aI x vm vt (w.alloc (.cells #[.int .i64 (l.num:Nat),.int .i64 (l.op:Nat),.slice (some ⟨g,0,none⟩) 2 cp,.int .i64 l.number,.int .i64 l.flag,.slice an l.next.length cn] 115)) vm vt w1:=(aI.of (fj _)).trans (aI.of h1);obtain⟨e0,e1,e2,e3⟩:=PC.out _ (rT r1a);have m1:=gh.prog;have tk0:True:=trivial)
  |(go_at_call 102;go_fit (M9 _ HA.drew);rintro e w1 ⟨g1,c1,rfl,z6,h1⟩;have gh:=HA.drew.below h1;have r1a:aI x vm vt (w.alloc (.cells #[.int .i64 (l.num:Nat),.int .i64 (l.op:Nat),.slice (some ⟨g,0,none⟩) 2 cp,.int .i64 l.number,.int .i64 l.flag,.slice an l.next.length cn] 115)) vm vt w1:=(aI.of (fj _)).trans (aI.of h1);obtain⟨e0,e1,e2,e3⟩:=PC.out _ (rT r1a);have m1:=gh.prog;have tk1:True:=trivial))
 all_goals go_wp2_with fail
 all_goals
  go_end0
  exact⟨rfl,vm3,vt3,h3,((aI.of aO).trans r2a).trans r3⟩
set_option maxRecDepth 20000 in
theorem Kl (h:cg w0 x a w o vi vm vt){z nl nb:Nat}{l:ab}{ap an:Option Addr}{cp cn:Nat}(hl:aE z w l (.slice ap l.places.length cp) (.slice an l.next.length cn))(hk:iB nl nb l)(iE:nl<=12)(aH:l.op=14){t:Nat}(hs:o.yd.Sz t)(ht:t+100<=9000000)(lB:Pow w0)(ly:11<=w0.heap.size)(jv:o.Bx){q:QP}{v u:Value}(hq:PQ w0 a q v u)(hnq:nl=q.locals.length)(JV:(QP.ai q (l.places.getD 0 (0,0))).length=(QP.ai q (l.places.getD 1 (0,0))).length):
  Calls Tryz.prog 65 #[.pointer (some ⟨x,0,none⟩),.agg #[.int .i64 (l.num:Nat),.int .i64 (l.op:Nat),.slice ap l.places.length cp,.int .i64 l.number,.int .i64 l.flag,.slice an l.next.length cn]] w fun e w'=>e=.returned (.tuple #[])/\(∃vm' vt',cg w0 x a w' (o.move (QP.ai q (l.places.getD 0 (0,0))) (QP.ai q (l.places.getD 1 (0,0)))) vi vm' vt'/\aI x vm vt w vm' vt' w'):=by
 have hlen:l.places.length=2:=by rw[hk.cP,aH];rfl
 have aO:Below w.heap.size w (w.alloc (.cells #[.int .i64 (l.num:Nat),.int .i64 (l.op:Nat),.slice ap l.places.length cp,.int .i64 l.number,.int .i64 l.flag,.slice an l.next.length cn] 115)):=(Below.refl _ _).alloc (jC _) _;obtain⟨g,rfl,kC,hg,-,-⟩:=aS hl hlen 0 (by omega);have dL:w.ownsRow z 119 2 (.slice (some ⟨g,0,none⟩) l.places.length cp) l.places.length (aM l.places):=hl.places;have ef:=al dL aO;have pc:∀W:World,W.ownsRow z 119 2 (.slice (some ⟨g,0,none⟩) l.places.length cp) l.places.length (aM l.places)->W.cell? ⟨g,0,none⟩=some (.int .i64 ((l.places.getD 0 (0,0)).1:Nat))/\W.cell? ⟨g,1,none⟩=some (.int .i64 ((l.places.getD 0 (0,0)).2:Nat))/\W.cell? ⟨g,2,none⟩=some (.int .i64 ((l.places.getD 1 (0,0)).1:Nat))/\W.cell? ⟨g,3,none⟩=some (.int .i64 ((l.places.getD 1 (0,0)).2:Nat)):=fun W hW=>⟨(bc hW (j:=0) (by omega)).1,(bc hW (j:=0) (by omega)).2,(bc hW (j:=1) (by omega)).1,(bc hW (j:=1) (by omega)).2⟩
 have hx:∀j,j<2->(l.places.getD j (0,0)).1<nl:=fun j hj=>(hk.places (l.places.getD j (0,0)) (by rw[jA,jB (by omega)];exact jL _)).1
 have x0:=hx 0 (by omega);have x1:=hx 1 (by omega);have HA:=h.below aO;have Dt:Hid (_):=ef;have HP:Hid (_):=dL;have PC:Hid (_):=pc;have hd:=pc _ ef;rw[hlen]at aO HA hd;rw[hlen];clear hx hl hk pc dL ef;have b2:(((l.op:Nat):Int)==2)=false:=by rw[aH];rfl
 have b3:(((l.op:Nat):Int)==3)=false:=by rw[aH];rfl
 have b4:(((l.op:Nat):Int)==4)=false:=by rw[aH];rfl
 have b5:(((l.op:Nat):Int)==5)=false:=by rw[aH];rfl
 have b7:(((l.op:Nat):Int)==7)=false:=by rw[aH];rfl
 have b8:(((l.op:Nat):Int)==8)=false:=by rw[aH];rfl
 have b10:(((l.op:Nat):Int)==10)=false:=by rw[aH];rfl
 have b11:(((l.op:Nat):Int)==11)=false:=by rw[aH];rfl
 have b12:(((l.op:Nat):Int)==12)=false:=by rw[aH];rfl
 have b14:(((l.op:Nat):Int)==14)=true:=by rw[aH];rfl
 have b13:(((l.op:Nat):Int)==13)=false:=by rw[aH];rfl
 have b15:(((l.op:Nat):Int)==15)=false:=by rw[aH];rfl
 generalize l.places.getD 0 (0,0)=p0 at*;generalize l.places.getD 1 (0,0)=p1 at*;clear aH;obtain⟨d0,d1,d2,d3⟩:=hd;have x0i:(p0.1:Int)<12:=by omega
 have rT:∀{vm2 vt2:Value} {W:World},aI x vm vt (w.alloc (.cells #[.int .i64 (l.num:Nat),.int .i64 (l.op:Nat),.slice (some ⟨g,0,none⟩) 2 cp,.int .i64 l.number,.int .i64 l.flag,.slice an l.next.length cn] 115)) vm2 vt2 W->W.ownsRow z 119 2 (.slice (some ⟨g,0,none⟩) l.places.length cp) l.places.length (aM l.places):=fun hr=>HA.bE (by have:=Dt.out;rw[hlen]at this;rw[hlen];exact this) (.inr rfl) hr
 have x0q:p0.1<q.locals.length:=by omega
 have x1q:p1.1<q.locals.length:=by omega
 have NV:=dt (q:=q) (x:=p0) (n:=12) (by omega);have NW:=dt (q:=q) (x:=p1) (n:=12) (by omega);have Ul:(QP.ai q p0).length<=2:=by unfold QP.ai;split<;>simp
 have m3:=HA.prog;have PJ:=fun(W:World) (hW:cg w0 x a W o vi vm vt)=>cC q p0 v u a W (hq.below hW.bz).aD (hq.below hW.bz).loc x0q
 have M9:=fun(W:World) (hW:cg w0 x a W o vi vm vt)=>cC q p1 v u a W (hq.below hW.bz).aD (hq.below hW.bz).loc x1q
 have KM:=fun(W:World) (hW:cg w0 x a W o vi vm vt) (z1 z2 g1 g2 c1 c2:Nat) (z6:ay z1 W (.slice (some ⟨g1,0,none⟩) (QP.ai q p0).length c1) (QP.ai q p0)) (k8:ay z2 W (.slice (some ⟨g2,0,none⟩) (QP.ai q p1).length c2) (QP.ai q p1))=>AT hW z6 k8 NV NW (by omega) JV jv hs (by omega) lB ly
 clear JV;clear hlen;go_enter Tryz.func65,Tryz.ntmps65
 go_wp2
 go_region_held3 (fun W=>W.cell? ⟨g,0,none⟩=some (.int .i64 (p0.1:Nat))/\W.cell? ⟨g,1,none⟩=some (.int .i64 (p0.2:Nat))/\W.cell? ⟨g,2,none⟩=some (.int .i64 (p1.1:Nat))/\W.cell? ⟨g,3,none⟩=some (.int .i64 (p1.2:Nat))/\W.cell? ⟨x,3,none⟩=some (.pointer (some ⟨a,0,none⟩))) (go_keep)
  (first
  |(go_at_call 107;have _:=tk0;go_fit (KM _ fB _ _ g1 g2 c1 c2 Ce k8);rintro e w3 ⟨rfl,vm3,vt3,h3,r3⟩;obtain⟨k0,k1,k2,k3⟩:=PC.out _ (rT (r2a.trans r3));have m4:=h3.prog)
  |(go_at_call 107;have _:=tk1;go_fit (KM _ fB _ _ g2 g1 c2 c1 k8 Ce);rintro e w3 ⟨rfl,vm3,vt3,h3,r3⟩;obtain⟨k0,k1,k2,k3⟩:=PC.out _ (rT (r2a.trans r3));have m4:=h3.prog)
  |(go_at_call 102;have _:=tk0;go_fit (M9 _ gh);rintro e w2 ⟨g2,c2,rfl,k8,h2⟩;have fB:=gh.below h2;have r2a:=r1a.trans (aI.of h2 (x:=x) (vm:=vm) (vt:=vt));obtain⟨f0,f1,f2,f3⟩:=PC.out _ (rT r2a);have m2:=fB.prog;have Ce:=al z6 h2)
  |(go_at_call 102;have _:=tk1;go_fit (PJ _ gh);rintro e w2 ⟨g2,c2,rfl,k8,h2⟩;have fB:=gh.below h2;have r2a:=r1a.trans (aI.of h2 (x:=x) (vm:=vm) (vt:=vt));obtain⟨f0,f1,f2,f3⟩:=PC.out _ (rT r2a);have m2:=fB.prog;have Ce:=al z6 h2)
  |(go_at_call 102;go_fit (PJ _ HA.drew);rintro e w1 ⟨g1,c1,rfl,z6,h1⟩;have gh:=HA.drew.below h1;have r1a:aI x vm vt (w.alloc (.cells #[.int .i64 (l.num:Nat),.int .i64 (l.op:Nat),.slice (some ⟨g,0,none⟩) 2 cp,.int .i64 l.number,.int .i64 l.flag,.slice an l.next.length cn] 115)) vm vt w1:=(aI.of (fj _)).trans (aI.of h1);obtain⟨e0,e1,e2,e3⟩:=PC.out _ (rT r1a);have m1:=gh.prog;have tk0:True:=trivial)
  |(go_at_call 102;go_fit (M9 _ HA.drew);rintro e w1 ⟨g1,c1,rfl,z6,h1⟩;have gh:=HA.drew.below h1;have r1a:aI x vm vt (w.alloc (.cells #[.int .i64 (l.num:Nat),.int .i64 (l.op:Nat),.slice (some ⟨g,0,none⟩) 2 cp,.int .i64 l.number,.int .i64 l.flag,.slice an l.next.length cn] 115)) vm vt w1:=(aI.of (fj _)).trans (aI.of h1);obtain⟨e0,e1,e2,e3⟩:=PC.out _ (rT r1a);have m1:=gh.prog;have tk1:True:=trivial))
 all_goals go_wp2_with fail
 all_goals
  go_end0
  exact⟨rfl,vm3,vt3,h3,((aI.of aO).trans r2a).trans r3⟩
end
end Own
namespace Own
open Go Go.RowKit Sq Aux PrjJ PrjK PrjL PrjM PrjS PrjT FlwA FlwB FlwD FlwE
section
variable {x a:Nat} {w w0 w1:World} {vm vt vi vm1 vt1:Value} {o:Own}
set_option maxRecDepth 20000 in
theorem yc (h:cg w0 x a w o vi vm vt){z nl nb:Nat}{l:ab}{ap an:Option Addr}{cp cn:Nat}(hl:aE z w l (.slice ap l.places.length cp) (.slice an l.next.length cn))(hk:iB nl nb l)(iE:nl<=12)
  (aH:l.op=3\/l.op=4\/l.op=5) (hr:∀n∈o.ints,cY n):
  Calls Tryz.prog 65 #[.pointer (some ⟨x,0,none⟩),.agg #[.int .i64 (l.num:Nat),.int .i64 (l.op:Nat),.slice ap l.places.length cp,.int .i64 l.number,.int .i64 l.flag,.slice an l.next.length cn]] w fun e w'=>
   e=.returned (.tuple #[])/\cg w0 x a w' (o.calc l) vi vm vt/\aI x vm vt w vm vt w':=by
 have aO:Below w.heap.size w (w.alloc (.cells #[.int .i64 (l.num:Nat),.int .i64 (l.op:Nat),.slice ap l.places.length cp,.int .i64 l.number,.int .i64 l.flag,.slice an l.next.length cn] 115)):=(Below.refl _ _).alloc (jC _) _;have KC:=mR (h.below aO) (hl.below aO) hk iE (by omega) (fun e=>by omega) hr;have hC:Hid (({o with ints:=o.ints.set (ab.pl l 0).1 (qM l.op (o.num (ab.pl l 1)) (o.num (ab.pl l 2)))}:Own)=o.calc l):=rfl;rw[hC.out]at KC;clear hl hk hC;rcases aH with e|e|e
 all_goals
  have b2:(((l.op:Nat):Int)==2)=false:=by rw[e];rfl
  have b3:(((l.op:Nat):Int)==3)=decide (l.op=3):=by rw[e];rfl
  have b4:(((l.op:Nat):Int)==4)=decide (l.op=4):=by rw[e];rfl
  have b5:(((l.op:Nat):Int)==5)=decide (l.op=5):=by rw[e];rfl
  simp only[e]at b3 b4 b5;simp only[Nat.reduceEqDiff,decide_true,decide_false]at b3 b4 b5;rw[<-e]at b3 b4 b5;clear e;go_enter Tryz.func65,Tryz.ntmps65
  go_wp2_with (go_at_call 59;go_fit KC;rintro e w2 ⟨rfl,h2,r2⟩)
  go_end0
  exact⟨rfl,h2,(aI.of aO).trans r2⟩
def kB (op:Nat):Prop:=op=2\/op=3\/op=4\/op=5\/op=7\/op=8\/op=10\/op=11\/op=12\/op=13\/op=14\/op=15
theorem Nj (h:cg w0 x a w o vi vm vt){z nb t:Nat}{q:QP}{v u:Value}{l:ab}{ap an:Option Addr}{cp cn:Nat}(hl:aE z w l (.slice ap l.places.length cp) (.slice an l.next.length cn))(hk:iB q.locals.length nb l)(iE:q.locals.length<=12)
  (aH:kB l.op) (lA:o.In t) (ht:t<=900000) (mX:o.rL l=true) (hq:PQ w0 a q v u) (JV:l.op=12\/l.op=14->(QP.ai q (aw l 0)).length=(QP.ai q (aw l 1)).length) (lB:Pow w0) (ly:11<=w0.heap.size):
  Calls Tryz.prog 65 #[.pointer (some ⟨x,0,none⟩),.agg #[.int .i64 (l.num:Nat),.int .i64 (l.op:Nat),.slice ap l.places.length cp,.int .i64 l.number,.int .i64 l.flag,.slice an l.next.length cn]] w fun e w'=>
   e=.returned (.tuple #[])/\∃vi' vm' vt',cg w0 x a w' (o.gJ q l) vi' vm' vt'/\aI x vm vt w vm' vt' w':=by
 have hs:=lA.sz (by omega);have JZ:t+100<=9000000:=by omega
 unfold aw at JV;rcases aH with e|e|e|e|e|e|e|e|e|e|e|e
 ·have hd:o.gJ q l={o with ints:=o.ints.set (l.places.getD 0 (0,0)).1 l.number}:=by unfold Own.gJ;rw[jb e];rfl
  rw[hd];exact(Nl h hl hk iE e).mono fun e w' ⟨h0,h1,h2⟩=>⟨h0,vi,vm,vt,h1,h2⟩
 ·have hd:o.gJ q l=o.calc l:=by unfold Own.gJ;rw[ja (by omega),jb (by omega)]
  rw[hd];exact(yc h hl hk iE (by omega) lA.oP).mono fun e w' ⟨h0,h1,h2⟩=>⟨h0,vi,vm,vt,h1,h2⟩
 ·have hd:o.gJ q l=o.calc l:=by unfold Own.gJ;rw[ja (by omega),jb (by omega)]
  rw[hd];exact(yc h hl hk iE (by omega) lA.oP).mono fun e w' ⟨h0,h1,h2⟩=>⟨h0,vi,vm,vt,h1,h2⟩
 ·have hd:o.gJ q l=o.calc l:=by unfold Own.gJ;rw[ja (by omega),jb (by omega)]
  rw[hd];exact(yc h hl hk iE (by omega) lA.oP).mono fun e w' ⟨h0,h1,h2⟩=>⟨h0,vi,vm,vt,h1,h2⟩
 ·have hd:o.gJ q l={o with cX:=o.cX.tail,ints:=o.ints.set (l.places.getD 0 (0,0)).1 (o.cX.headD 0)}:=by unfold Own.gJ;rw[ja (by omega),ja (by omega),jb e];rfl
  rw[hd];exact(PO h hl hk iE e).mono fun e w' ⟨h0,⟨vi',h1⟩,h2⟩=>⟨h0,vi',vm,vt,h1,h2⟩
 ·have hd:o.gJ q l={o with yd:=o.yd.note 111 (o.num (l.places.getD 0 (0,0)))}:=by unfold Own.gJ;rw[ja (by omega),ja (by omega),ja (by omega),jb e];rfl
  rw[hd];exact(Nk h hl hk iE e hs JZ lB ly lA.oP).mono fun e w' ⟨h0,vm',vt',h1,h2⟩=>⟨h0,vi,vm',vt',h1,h2⟩
 ·have hd:o.gJ q l={o with yd:=o.yd.load (o.box (l.places.getD 1 (0,0))),ints:=o.ints.set (l.places.getD 0 (0,0)).1 (o.yd.at (o.box (l.places.getD 1 (0,0)))).1}:=by unfold Own.gJ;rw[ja (by omega),ja (by omega),ja (by omega),ja (by omega),jb e];rfl
  have hn:1<=o.box (l.places.getD 1 (0,0)):=by unfold Own.rL at mX;rw[jb e]at mX;exact of_decide_eq_true mX
  rw[hd];exact(Ki h hl hk iE e hs JZ lB ly lA.bx hn).mono fun e w' ⟨h0,vm',vt',h1,h2⟩=>⟨h0,vi,vm',vt',h1,h2⟩
 ·have hd:o.gJ q l={o with yd:=o.yd.store (o.box (l.places.getD 0 (0,0))) (o.num (l.places.getD 1 (0,0)))}:=by unfold Own.gJ;rw[ja (by omega),ja (by omega),ja (by omega),ja (by omega),ja (by omega),jb e];rfl
  have hn:1<=o.box (l.places.getD 0 (0,0)):=by unfold Own.rL at mX;rw[ja (by omega),jb e]at mX;exact of_decide_eq_true mX
  rw[hd];exact(Hf h hl hk iE e hs JZ lB ly lA.bx hn).mono fun e w' ⟨h0,vm',vt',h1,h2⟩=>⟨h0,vi,vm',vt',h1,h2⟩
 ·have hd:o.gJ q l=o.move (QP.ai q (l.places.getD 0 (0,0))) (QP.ai q (l.places.getD 1 (0,0))):=by unfold Own.gJ;rw[ja (by omega),ja (by omega),ja (by omega),ja (by omega),ja (by omega),ja (by omega),jb (by omega)];rfl
  rw[hd];exact(Kj h hl hk iE e hs JZ lB ly lA.bx hq rfl (JV (.inl e))).mono fun e w' ⟨h0,vm',vt',h1,h2⟩=>⟨h0,vi,vm',vt',h1,h2⟩
 ·have hd:o.gJ q l=o.drop (QP.ai q (l.places.getD 0 (0,0))):=by unfold Own.gJ;rw[ja (by omega),ja (by omega),ja (by omega),ja (by omega),ja (by omega),ja (by omega),ja (by omega),jb (by omega)];rfl
  rw[hd];exact(Kk h hl hk iE e hs JZ lB ly lA.bx hq rfl).mono fun e w' ⟨h0,vm',vt',h1,h2⟩=>⟨h0,vi,vm',vt',h1,h2⟩
 ·have hd:o.gJ q l=o.move (QP.ai q (l.places.getD 0 (0,0))) (QP.ai q (l.places.getD 1 (0,0))):=by unfold Own.gJ;rw[ja (by omega),ja (by omega),ja (by omega),ja (by omega),ja (by omega),ja (by omega),jb (by omega)];rfl
  rw[hd];exact(Kl h hl hk iE e hs JZ lB ly lA.bx hq rfl (JV (.inr e))).mono fun e w' ⟨h0,vm',vt',h1,h2⟩=>⟨h0,vi,vm',vt',h1,h2⟩
 ·have hd:o.gJ q l=o.drop (QP.ai q (l.places.getD 0 (0,0))):=by unfold Own.gJ;rw[ja (by omega),ja (by omega),ja (by omega),ja (by omega),ja (by omega),ja (by omega),ja (by omega),jb (by omega)];rfl
  rw[hd];exact(Kh h hl hk iE e hs JZ lB ly lA.bx hq rfl).mono fun e w' ⟨h0,vm',vt',h1,h2⟩=>⟨h0,vi,vm',vt',h1,h2⟩
end
end Own
namespace RunA
open Go Sq PrjS
def Whole (b:List ab):Prop:=∃ls l,b=ls++[l]/\18<=l.op/\∀m∈ls,m.op<18
structure Vg (raw:Bool)(o:di)(q:QP):Prop where
 none:o.sec=0->q.blocks=[]
 kp:o.sec=1->∃bs b,q.blocks=bs++[b]/\(∀c∈bs,Whole c)/\∀m∈b,m.op<18
 UX:o.sec=2->∀c∈q.blocks,Whole c
 has:∀b∈q.blocks,∀l∈b,fK raw l.op=true
 sec:o.sec<=2
theorem tm {ls:List (B×Nat)}{nb:Nat}{x:Nat×List B}{l:ab}(h:cU ls nb x=some l):l.op=x.1:=by
 rw[cU]at h;obtain⟨i1,-⟩:=gQ ls nb _ _ _ _ h (by simp) (by simp) (by simp) (by simp);exact i1
theorem oq {raw:Bool}{o:di}{op:Nat}(h:(aq raw o op).2=true):fK raw op=true:=by
 unfold aq at h;split at h
 ·cases h
 ·rename_i hh;simpa using hh
theorem Jj (raw:Bool)(nb:Nat):∀(ls:List (List B)) (o:di) (i j:Nat) (q0 q:QP),(ar raw ls o i).2.2=none->aJ nb (ar raw ls o i).1 j q0=(q,none)->Vg raw o q0->Vg raw (ar raw ls o i).2.1 q
 |[],o,i,j,q0,q,_,h,hs=>by
  simp only[ar,aJ,Prod.mk.injEq,and_true]at h;rw[<-h];exact hs
 |ws::r,o,i,j,q0,q,hn,h,hs=>by
  rw[ar]at hn h⊢;cases hx:bW ws with
  |none=>rw[hx]at hn;cases hn
  |some x=>
   rw[hx]at hn h;simp only at hn h⊢;by_cases ha:(aq raw o x.1).2=true
   ·rw[jb ha]at hn h⊢;have ih:=fun q1 hl mZ=>Jj raw nb r (aq raw o x.1).1 (i+1) (j+1) q1 q hn hl mZ
    have EV:=oq ha;have lo:=lE raw o x.1 hs.sec;rw[aJ]at h;have Ad:¬fK raw x.1=false:=by rw[EV];decide
    by_cases e0:x.1=0
    ·rw[jb e0]at h;split at h
     ·simp at h
     ·refine ih _ h ?_;have e:(aq raw o x.1).1=⟨o.sec,o.locals+1,o.blocks⟩:=by rw[aq,ja Ad,jb e0]
      rw[e];exact⟨hs.none,hs.kp,hs.UX,hs.has,hs.sec⟩
    ·rw[ja e0]at h;by_cases e1:x.1=1
     ·rw[jb e1]at h;refine ih _ h ?_;have e:aq raw o x.1=(⟨1,o.locals,o.blocks+1⟩,decide (0<o.locals)&& !(o.sec==1)&&decide (o.blocks+1<=if raw then 2000 else 20)):=by rw[aq,ja Ad,ja e0,jb e1]
      rw[e]at ha;simp only[Bool.and_eq_true,Bool.not_eq_true',beq_eq_false_iff_ne]at ha;rw[e];have Wm:=hs.sec;refine⟨fun h=>(by cases h),fun _=>⟨q0.blocks,[],rfl,fun c hc=> ?_,fun m hm=>(by cases hm)⟩,fun h=>(by cases h),fun b hb l hl=> ?_,by simp⟩
      ·by_cases h0:o.sec=0
       ·rw[hs.none h0]at hc;cases hc
       ·exact hs.UX (by have:=ha.1.2;omega) c hc
      ·simp only[QP.addBlock,List.mem_append,List.mem_singleton]at hb;rcases hb with hb|rfl
       ·exact hs.has b hb l hl
       ·cases hl
     ·rw[ja e1]at h;cases hl:cU q0.locals nb x with
      |none=>rw[hl]at h;simp at h
      |some l=>
       rw[hl]at h;have aH:=tm hl;by_cases h1:o.sec=1
       ·obtain⟨bs,b,hb,hw,ho⟩:=hs.kp h1;have rD:(q0.addLine {l with num:=j}).blocks=bs++[b++[{l with num:=j}]]:=by
         simp only[QP.addLine,hb];simp
        have MA:∀b∈(q0.addLine {l with num:=j}).blocks,∀l∈b,fK raw l.op=true:=fun c hc m hm=>by
         rw[rD]at hc;simp only[List.mem_append,List.mem_singleton]at hc;rcases hc with hc|rfl
         ·exact hs.has c (by rw[hb];simp[hc]) m hm
         ·simp only[List.mem_append,List.mem_singleton]at hm;rcases hm with hm|rfl
          ·exact hs.has b (by rw[hb];simp) m hm
          ·show fK raw l.op=true;rw[aH];exact EV
        refine ih _ h ?_;by_cases iN:18<=x.1
        ·have e:(aq raw o x.1).1=⟨2,o.locals,o.blocks⟩:=by rw[aq,ja Ad,ja e0,ja e1,ja (by simp[h1]),jb iN]
         rw[e];refine⟨fun h=>(by cases h),fun h=>(by cases h),fun _ c hc=> ?_,MA,by simp⟩;rw[rD]at hc;simp only[List.mem_append,List.mem_singleton]at hc;rcases hc with hc|rfl
         ·exact hw c hc
         ·exact⟨b,_,rfl,by show 18<=l.op;omega,ho⟩
        ·have e:(aq raw o x.1).1=o:=by rw[aq,ja Ad,ja e0,ja e1,ja (by simp[h1]),ja iN]
         rw[e];refine⟨fun h=>by omega,fun _=>⟨bs,_,rD,hw,fun m hm=> ?_⟩,fun h=>by omega,MA,hs.sec⟩;simp only[List.mem_append,List.mem_singleton]at hm;rcases hm with hm|rfl
         ·exact ho m hm
         ·show l.op<18;omega
       ·exfalso;rw[aq,ja Ad,ja e0,ja e1,jb h1]at ha;cases ha
   ·rw[ja ha]at hn;cases hn
structure Shape (q:QP):Prop where
 whole:∀b,b<q.blocks.length->Whole (q.blocks.getD b [])
 has:∀b,∀l∈q.blocks.getD b [],fK false l.op=true
 fits:∀b,∀l∈q.blocks.getD b [],q.fits l=true
theorem eW {L:List (List ab)}{b:Nat}{l:ab}(h:l∈L.getD b []):L.getD b []∈L:=by
 rw[jA]at h⊢;cases hb:L[b]? with
 |none=>rw[hb]at h;cases h
 |some c=>exact List.mem_of_getElem? hb
theorem oT {text:B}{q:QP}(h:ax text false=(some q,0,0)):Shape q:=by
 by_cases hlong:(split 10 text).length>(if false=true then 4000 else 120)
 ·rw[ax,jb hlong]at h;cases h
 ·rw[ax,ja hlong]at h;split at h
  ·cases h
  ·rename_i qm;split at h
   ·cases h
   ·rename_i lo;split at h
    ·cases h
    ·rename_i ld;split at h
     ·cases h
     ·rename_i hmis;simp only[Prod.mk.injEq,Option.some.injEq,and_true]at h;have hs:=Jj false (countB (ar false (ba text) ⟨0,0,0⟩ 0).1) (ba text) ⟨0,0,0⟩ 0 0 QP.empty q qm (by rw[<-h,<-ld]) ⟨fun _=>rfl,fun h=>(by cases h),fun h=>(by cases h),fun b hb=>by simp[QP.empty]at hb,by simp⟩;rw[h]at hmis;refine⟨fun b hb=>hs.UX (by simpa using lo) _ (by simp[hb]),fun b l hl=>hs.has _ (eW hl) l hl,fun b l hl=> ?_⟩;simp only[QP.misfit,Option.map_eq_none_iff,List.find?_eq_none,Bool.not_eq_true',Bool.not_eq_false]at hmis;exact hmis l (List.mem_flatten.mpr ⟨_,eW hl,hl⟩)
end RunA
namespace FlwF
open Go Go.RowKit Sq Aux PrjJ PrjK FlwB
def fa (w:World)(b o:Nat):Prop:=∃s:List Nat,s.length=24/\w.rangeAt b o (ag s)
def fE (w:World)(b o:Nat):Prop:=w.there b o 24
def kg (w:World)(b o:Nat):Array Value:=((List.range 24).map fun j=>(w.cell? ⟨b,o+j,none⟩).getD undef).toArray
def J5 (xs:Array Value):Prop:=∃s:List Nat,s.length=24/\xs=(ag s).toArray
theorem cv (s:List Nat):(ag s).length=s.length:=by simp[ag]
theorem y4 {w:World}{b o:Nat}{s:List Nat}(hl:s.length=24)(h:w.rangeAt b o (ag s)):kg w b o=(ag s).toArray:=by
 unfold kg;congr 1;apply List.ext_getElem?
 intro j;rw[jJ];by_cases hj:j<24
 ·rw[List.getElem?_range hj];have rI:j<(ag s).length:=by rw[cv];omega
  have:=h j (ag s)[j] (jB rI);rw[Option.map_some,this,jB rI];rfl
 ·rw[jG (by simp;omega),jG (by rw[cv];omega)];rfl
theorem oI {s:List Nat}(h:s.length=24):(Tryz.prog.info? 209).map (·.size)=some (ag s).length:=by
 rw[cv,h];kernel_rfl
theorem OC (s:List Nat):∀u∈ag s,u.oneCell'=true:=by
 intro u hu;simp only[ag,List.mem_map]at hu;obtain⟨n,-,rfl⟩:=hu;rfl
theorem CN (w:World)(b o:Nat)(h:fa w b o):(loadVar 209 ⟨b,o,none⟩).run Tryz.prog w=.ok (.agg (kg w b o)) w:=by
 obtain⟨s,hs,hw⟩:=h;rw[y4 hs hw];exact run_loadVar_mid w b o 209 (ag s) _ hw Tryz.underlying209 rfl (oI hs)
theorem Bw (w:World)(b o:Nat)(xs:Array Value)(h:fE w b o)(hx:J5 xs):(storeVar 209 ⟨b,o,none⟩ (.agg xs)).run Tryz.prog w=.ok () (w.setCells b o xs.toList):=by
 obtain⟨t,ht,rfl⟩:=hx;refine run_storeVar_mid w b o 209 (ag t).toArray ?_ ?_ (all_oneCell_toArray (OC t))
 ·have:=h;unfold fE at this;rw[List.size_toArray,cv,ht];exact this
 ·have:=oI ht;rw[List.size_toArray];exact this
def yR:Value->Nat
 | .pointer (some ad)=>ad.off
 |_=>0
def Mf (w:World)(v:Value):Prop:=∃b o,v=.pointer (some ⟨b,o,none⟩)/\fa w b o
def Dy (w:World)(v:Value):Prop:=∃b o,v=.pointer (some ⟨b,o,none⟩)/\fE w b o
def GR (v:Value):Prop:=∃xs,v=.agg xs/\J5 xs
def yQ:Value->Nat
 | .pointer (some ad)=>ad.block
 |_=>0
def Mj:Value->Array Value
 | .agg xs=>xs
 |_=> #[]
@[simp] theorem oR (ad : Addr) : yR (.pointer (some ad)) = ad.off := rfl
@[simp] theorem oQ (ad : Addr) : yQ (.pointer (some ad)) = ad.block := rfl
@[simp] theorem Ep (xs : Array Value) : Mj (.agg xs) = xs := rfl
@[simp] theorem PB (w : World) (b o : Nat) : Mf w (.pointer (some ⟨b, o, none⟩)) = fa w b o := propext ⟨fun ⟨_, _, e, h⟩ => by cases e; exact h, fun h => ⟨b, o, rfl, h⟩⟩
@[simp] theorem MZ (w : World) (b o : Nat) : Dy w (.pointer (some ⟨b, o, none⟩)) = fE w b o := propext ⟨fun ⟨_, _, e, h⟩ => by cases e; exact h, fun h => ⟨b, o, rfl, h⟩⟩
@[simp] theorem OK (xs : Array Value) : GR (.agg xs) = J5 xs := by simp [GR]
section
variable (d:Option Tmp) (x y:Operand) (t:TypeId) (ps:String) (af:Array Edge) (g:Option (Nat×Bool)) (a:Act) (w:World) (K:Act->World->Prop) (Q:Exit->Act->World->Prop)
theorem bY (h:Mf w (a.eval x)):Oper.wp Tryz.prog {dst:=d,op:=Op.load 209 x,type:=t,pos:=ps,after:=af,guard:=g} a w K Q=K (a.put d (.agg (kg w (yQ (a.eval x)) (yR (a.eval x))))) w:=by
 obtain⟨b,o,hb,hh⟩:=h;have:=CN w b o hh;unfold Oper.wp execOp;simp only[hb,Instr.loadAt,Instr.sureAddr,Sem.run_bind,Sem.run_pure,Result.andThen_ok,this,oQ,oR];rfl
theorem bJ (h:Dy w (a.eval x))(h':GR (a.eval y)):Oper.wp Tryz.prog {dst:=d,op:=Op.store 209 x y,type:=t,pos:=ps,after:=af,guard:=g} a w K Q=K (a.put d undef) (w.setCells (yQ (a.eval x)) (yR (a.eval x)) (Mj (a.eval y)).toList):=by
 obtain⟨b,o,hb,hh⟩:=h;obtain⟨xs,hy,hx⟩:=h';have:=Bw w b o xs hh hx;unfold Oper.wp execOp;simp only[hb,hy,Instr.storeAt,Instr.sureAddr,Sem.run_bind,Sem.run_pure,Result.andThen_ok,this,oQ,oR,Ep];rfl
end
theorem aj.range {w:World}{b:Nat}{s:List Nat}(h:aj w b s):w.rangeAt b 0 (ag s):=fun j v hv=>by
 rw[Nat.zero_add,cell_of_heap h.2];simpa using hv
theorem aj.has {w:World}{b:Nat}{s:List Nat}(h:aj w b s):fa w b 0:=⟨s,h.1,aj.range h⟩
theorem aj.room {w:World}{b:Nat}{s:List Nat}(h:aj w b s):fE w b 0:=fun j hj=>by
 rw[Nat.zero_add,aj.cell h j hj,aj.frozen h];exact⟨rfl,rfl⟩
theorem aj.of {w:World}{b:Nat}{s:List Nat}(h:aj w b s):kg w b 0=(ag s).toArray:=y4 h.1 (aj.range h)
theorem aj.new (w:World){s:List Nat}(h:s.length=24):aj (w.alloc (.cells (ag s).toArray 209)) w.heap.size s:=⟨h,jD⟩
theorem aj.store {w:World}{b:Nat}{s t:List Nat}(h:aj w b s)(ht:t.length=24):aj (w.setCells b 0 (ag t)) b t:=by
 obtain⟨cs',h1,h2,h3⟩:=eK b (ag t) 0 w _ _ _ h.2;refine⟨ht,?_⟩;rw[h1];congr 2;apply Array.ext_getElem?
 intro j;rw[h3];have l1:(ag s).length=24:=by rw[cv];exact h.1
 have l2:(ag t).length=24:=by rw[cv];exact ht
 by_cases hj:j<24
 ·rw[jb (by simp[l1,l2,hj])];simp
 ·rw[ja (by simp[l2];omega)];simp[l1,l2,Nat.le_of_not_lt hj]
theorem oi {w w':World}{b:Nat}(_h:aW b w w')(_o:Nat):∀(vs:List Value) (o:Nat) (w':World),aW b w w'->aW b w (w'.setCells b o vs)
 |[],_,_,h=>h
 |v::r,o,w',h=>by rw[World.setCells];exact oi h o r (o+1) _ (h.setCell o v)
def ak:List Nat:=List.replicate 24 0
theorem fu {s:List Nat}(h:s.length=24):J5 (ag s).toArray:=⟨s,h,rfl⟩
end FlwF
end Go.Proofs.YtmlgajhhnojdjaaGreatDoor

import Derived.Test.YtmlgajhhnojdjaaGreatDoorRAU
import Derived.Test.YtmlgajhhnojdjaaGreatDoorRAM
namespace Go.Proofs.YtmlgajhhnojdjaaGreatDoor
namespace Own
open Go Go.RowKit Sq Aux PrjJ PrjK PrjL PrjM PrjS PrjT FlwA FlwB FlwD FlwE
section
variable {x a:Nat} {w w0 w1:World} {vm vt vi vm1 vt1:Value} {o:Own}
set_option maxRecDepth 20000 in
set_option maxHeartbeats 4000000 in
theorem Ur (h:dn w0 x a w o vi vm vt){z nl nb:Nat}{l:aa}{ap an:Option Addr}{cp cn:Nat}(hl:bp z w l (.slice ap l.places.length cp) (.slice an l.next.length cn))(hk:tR nl nb l)(lg:nl<=12)(aw:l.op=12){t:Nat}(hs:o.yd.Sz t)(ht:t+100<=9000000)(qv:Pow w0)(oL:11<=w0.heap.size)(ke:o.Bx){q:QP}{v u:Value}(hq:PQ w0 a q v u)(hnq:nl=q.locals.length)(T6:(QP.ab q (l.places.getD 0 (0,0))).length=(QP.ab q (l.places.getD 1 (0,0))).length):
  Calls Tryz.prog 65 #[.pointer (some ⟨x,0,none⟩),.agg #[.int .i64 (l.num:Nat),.int .i64 (l.op:Nat),.slice ap l.places.length cp,.int .i64 l.number,.int .i64 l.flag,.slice an l.next.length cn]] w fun e w'=>e=.returned (.tuple #[])/\(∃vm' vt',dn w0 x a w' (o.move (QP.ab q (l.places.getD 0 (0,0))) (QP.ab q (l.places.getD 1 (0,0)))) vi vm' vt'/\aM x vm vt w vm' vt' w'):=by
 have hlen:l.places.length=2:=by rw[hk.cP,aw];rfl
 have aX:Below w.heap.size w (w.alloc (.cells #[.int .i64 (l.num:Nat),.int .i64 (l.op:Nat),.slice ap l.places.length cp,.int .i64 l.number,.int .i64 l.flag,.slice an l.next.length cn] 115)):=(Below.refl _ _).alloc (jC _) _;obtain⟨g,rfl,ql,hg,-,-⟩:=bm hl hlen 0 (by omega);have gK:w.ownsRow z 119 2 (.slice (some ⟨g,0,none⟩) l.places.length cp) l.places.length (bK l.places):=hl.places;have fY:=ax gK aX;have pc:∀W:World,W.ownsRow z 119 2 (.slice (some ⟨g,0,none⟩) l.places.length cp) l.places.length (bK l.places)->W.cell? ⟨g,0,none⟩=some (.int .i64 ((l.places.getD 0 (0,0)).1:Nat))/\W.cell? ⟨g,1,none⟩=some (.int .i64 ((l.places.getD 0 (0,0)).2:Nat))/\W.cell? ⟨g,2,none⟩=some (.int .i64 ((l.places.getD 1 (0,0)).1:Nat))/\W.cell? ⟨g,3,none⟩=some (.int .i64 ((l.places.getD 1 (0,0)).2:Nat)):=fun W hW=>⟨(bB hW (j:=0) (by omega)).1,(bB hW (j:=0) (by omega)).2,(bB hW (j:=1) (by omega)).1,(bB hW (j:=1) (by omega)).2⟩
 have hx:∀j,j<2->(l.places.getD j (0,0)).1<nl:=fun j hj=>(hk.places (l.places.getD j (0,0)) (by rw[jA,jB (by omega)];exact jL _)).1
 have x0:=hx 0 (by omega);have x1:=hx 1 (by omega);have HA:=h.below aX;have Mp:Hid (_):=fY;have HP:Hid (_):=gK;have PC:Hid (_):=pc;have hd:=pc _ fY;rw[hlen]at aX HA hd;rw[hlen];clear hx hl hk pc gK fY;have b2:(((l.op:Nat):Int)==2)=false:=by rw[aw];rfl
 have b3:(((l.op:Nat):Int)==3)=false:=by rw[aw];rfl
 have b4:(((l.op:Nat):Int)==4)=false:=by rw[aw];rfl
 have b5:(((l.op:Nat):Int)==5)=false:=by rw[aw];rfl
 have b7:(((l.op:Nat):Int)==7)=false:=by rw[aw];rfl
 have b8:(((l.op:Nat):Int)==8)=false:=by rw[aw];rfl
 have b10:(((l.op:Nat):Int)==10)=false:=by rw[aw];rfl
 have b11:(((l.op:Nat):Int)==11)=false:=by rw[aw];rfl
 have b12:(((l.op:Nat):Int)==12)=true:=by rw[aw];rfl
 have b14:(((l.op:Nat):Int)==14)=false:=by rw[aw];rfl
 have b13:(((l.op:Nat):Int)==13)=false:=by rw[aw];rfl
 have b15:(((l.op:Nat):Int)==15)=false:=by rw[aw];rfl
 generalize l.places.getD 0 (0,0)=p0 at*;generalize l.places.getD 1 (0,0)=p1 at*;clear aw;obtain⟨d0,d1,d2,d3⟩:=hd;have x0i:(p0.1:Int)<12:=by omega
 have zv:∀{vm2 vt2:Value} {W:World},aM x vm vt (w.alloc (.cells #[.int .i64 (l.num:Nat),.int .i64 (l.op:Nat),.slice (some ⟨g,0,none⟩) 2 cp,.int .i64 l.number,.int .i64 l.flag,.slice an l.next.length cn] 115)) vm2 vt2 W->W.ownsRow z 119 2 (.slice (some ⟨g,0,none⟩) l.places.length cp) l.places.length (bK l.places):=fun hr=>HA.de (by have:=Mp.out;rw[hlen]at this;rw[hlen];exact this) (.inr rfl) hr
 have x0q:p0.1<q.locals.length:=by omega
 have x1q:p1.1<q.locals.length:=by omega
 have XF:=cC (q:=q) (x:=p0) (n:=12) (by omega);have XG:=cC (q:=q) (x:=p1) (n:=12) (by omega);have hlq:(QP.ab q p0).length<=2:=by unfold QP.ab;split<;>simp
 have m3:=HA.prog;have Ze:=fun(W:World) (hW:dn w0 x a W o vi vm vt)=>ee q p0 v u a W (hq.below hW.bq).aI (hq.below hW.bq).loc x0q
 have Zf:=fun(W:World) (hW:dn w0 x a W o vi vm vt)=>ee q p1 v u a W (hq.below hW.bq).aI (hq.below hW.bq).loc x1q
 have KM:=fun(W:World) (hW:dn w0 x a W o vi vm vt) (z1 z2 g1 g2 c1 c2:Nat) (Gy:bO z1 W (.slice (some ⟨g1,0,none⟩) (QP.ab q p0).length c1) (QP.ab q p0)) (zj:bO z2 W (.slice (some ⟨g2,0,none⟩) (QP.ab q p1).length c2) (QP.ab q p1))=>Ib hW Gy zj XF XG (by omega) T6 ke hs (by omega) qv oL
 clear T6;clear hlen;go_enter Tryz.func65,Tryz.ntmps65
 go_wp2
 go_region_held3 (fun W=>W.cell? ⟨g,0,none⟩=some (.int .i64 (p0.1:Nat))/\W.cell? ⟨g,1,none⟩=some (.int .i64 (p0.2:Nat))/\W.cell? ⟨g,2,none⟩=some (.int .i64 (p1.1:Nat))/\W.cell? ⟨g,3,none⟩=some (.int .i64 (p1.2:Nat))/\W.cell? ⟨x,3,none⟩=some (.pointer (some ⟨a,0,none⟩))) (go_keep)
  (first
  |(go_at_call 107;have _:=tk0;go_fit (KM _ iM _ _ g1 g2 c1 c2 J8 zj);rintro e w3 ⟨rfl,vm3,vt3,h3,r3⟩;obtain⟨k0,k1,k2,k3⟩:=PC.out _ (zv (r2a.trans r3));have m4:=h3.prog)
  |(go_at_call 107;have _:=tk1;go_fit (KM _ iM _ _ g2 g1 c2 c1 zj J8);rintro e w3 ⟨rfl,vm3,vt3,h3,r3⟩;obtain⟨k0,k1,k2,k3⟩:=PC.out _ (zv (r2a.trans r3));have m4:=h3.prog)
  |(go_at_call 102;have _:=tk0;go_fit (Zf _ mn);rintro e w2 ⟨g2,c2,rfl,zj,h2⟩;have iM:=mn.below h2;have r2a:=r1a.trans (aM.of h2 (x:=x) (vm:=vm) (vt:=vt));obtain⟨f0,f1,f2,f3⟩:=PC.out _ (zv r2a);have m2:=iM.prog;have J8:=ax Gy h2)
  |(go_at_call 102;have _:=tk1;go_fit (Ze _ mn);rintro e w2 ⟨g2,c2,rfl,zj,h2⟩;have iM:=mn.below h2;have r2a:=r1a.trans (aM.of h2 (x:=x) (vm:=vm) (vt:=vt));obtain⟨f0,f1,f2,f3⟩:=PC.out _ (zv r2a);have m2:=iM.prog;have J8:=ax Gy h2)
  |(go_at_call 102;go_fit (Ze _ HA.drew);rintro e w1 ⟨g1,c1,rfl,Gy,h1⟩;have mn:=HA.drew.below h1;have r1a:aM x vm vt (w.alloc (.cells #[.int .i64 (l.num:Nat),.int .i64 (l.op:Nat),.slice (some ⟨g,0,none⟩) 2 cp,.int .i64 l.number,.int .i64 l.flag,.slice an l.next.length cn] 115)) vm vt w1:=(aM.of (iZ _)).trans (aM.of h1);obtain⟨e0,e1,e2,e3⟩:=PC.out _ (zv r1a);have m1:=mn.prog;have tk0:True:=trivial)
  |(go_at_call 102;go_fit (Zf _ HA.drew);rintro e w1 ⟨g1,c1,rfl,Gy,h1⟩;have mn:=HA.drew.below h1;have r1a:aM x vm vt (w.alloc (.cells #[.int .i64 (l.num:Nat),.int .i64 (l.op:Nat),.slice (some ⟨g,0,none⟩) 2 cp,.int .i64 l.number,.int .i64 l.flag,.slice an l.next.length cn] 115)) vm vt w1:=(aM.of (iZ _)).trans (aM.of h1);obtain⟨e0,e1,e2,e3⟩:=PC.out _ (zv r1a);have m1:=mn.prog;have tk1:True:=trivial))
 all_goals go_wp2_with fail
 all_goals
  go_end0
  exact⟨rfl,vm3,vt3,h3,((aM.of aX).trans r2a).trans r3⟩
set_option maxRecDepth 20000 in
set_option maxHeartbeats 4000000 in
theorem Ut (h:dn w0 x a w o vi vm vt){z nl nb:Nat}{l:aa}{ap an:Option Addr}{cp cn:Nat}(hl:bp z w l (.slice ap l.places.length cp) (.slice an l.next.length cn))(hk:tR nl nb l)(lg:nl<=12)(aw:l.op=14){t:Nat}(hs:o.yd.Sz t)(ht:t+100<=9000000)(qv:Pow w0)(oL:11<=w0.heap.size)(ke:o.Bx){q:QP}{v u:Value}(hq:PQ w0 a q v u)(hnq:nl=q.locals.length)(T6:(QP.ab q (l.places.getD 0 (0,0))).length=(QP.ab q (l.places.getD 1 (0,0))).length):
  Calls Tryz.prog 65 #[.pointer (some ⟨x,0,none⟩),.agg #[.int .i64 (l.num:Nat),.int .i64 (l.op:Nat),.slice ap l.places.length cp,.int .i64 l.number,.int .i64 l.flag,.slice an l.next.length cn]] w fun e w'=>e=.returned (.tuple #[])/\(∃vm' vt',dn w0 x a w' (o.move (QP.ab q (l.places.getD 0 (0,0))) (QP.ab q (l.places.getD 1 (0,0)))) vi vm' vt'/\aM x vm vt w vm' vt' w'):=by
 have hlen:l.places.length=2:=by rw[hk.cP,aw];rfl
 have aX:Below w.heap.size w (w.alloc (.cells #[.int .i64 (l.num:Nat),.int .i64 (l.op:Nat),.slice ap l.places.length cp,.int .i64 l.number,.int .i64 l.flag,.slice an l.next.length cn] 115)):=(Below.refl _ _).alloc (jC _) _;obtain⟨g,rfl,ql,hg,-,-⟩:=bm hl hlen 0 (by omega);have gK:w.ownsRow z 119 2 (.slice (some ⟨g,0,none⟩) l.places.length cp) l.places.length (bK l.places):=hl.places;have fY:=ax gK aX;have pc:∀W:World,W.ownsRow z 119 2 (.slice (some ⟨g,0,none⟩) l.places.length cp) l.places.length (bK l.places)->W.cell? ⟨g,0,none⟩=some (.int .i64 ((l.places.getD 0 (0,0)).1:Nat))/\W.cell? ⟨g,1,none⟩=some (.int .i64 ((l.places.getD 0 (0,0)).2:Nat))/\W.cell? ⟨g,2,none⟩=some (.int .i64 ((l.places.getD 1 (0,0)).1:Nat))/\W.cell? ⟨g,3,none⟩=some (.int .i64 ((l.places.getD 1 (0,0)).2:Nat)):=fun W hW=>⟨(bB hW (j:=0) (by omega)).1,(bB hW (j:=0) (by omega)).2,(bB hW (j:=1) (by omega)).1,(bB hW (j:=1) (by omega)).2⟩
 have hx:∀j,j<2->(l.places.getD j (0,0)).1<nl:=fun j hj=>(hk.places (l.places.getD j (0,0)) (by rw[jA,jB (by omega)];exact jL _)).1
 have x0:=hx 0 (by omega);have x1:=hx 1 (by omega);have HA:=h.below aX;have Mp:Hid (_):=fY;have HP:Hid (_):=gK;have PC:Hid (_):=pc;have hd:=pc _ fY;rw[hlen]at aX HA hd;rw[hlen];clear hx hl hk pc gK fY;have b2:(((l.op:Nat):Int)==2)=false:=by rw[aw];rfl
 have b3:(((l.op:Nat):Int)==3)=false:=by rw[aw];rfl
 have b4:(((l.op:Nat):Int)==4)=false:=by rw[aw];rfl
 have b5:(((l.op:Nat):Int)==5)=false:=by rw[aw];rfl
 have b7:(((l.op:Nat):Int)==7)=false:=by rw[aw];rfl
 have b8:(((l.op:Nat):Int)==8)=false:=by rw[aw];rfl
 have b10:(((l.op:Nat):Int)==10)=false:=by rw[aw];rfl
 have b11:(((l.op:Nat):Int)==11)=false:=by rw[aw];rfl
 have b12:(((l.op:Nat):Int)==12)=false:=by rw[aw];rfl
 have b14:(((l.op:Nat):Int)==14)=true:=by rw[aw];rfl
 have b13:(((l.op:Nat):Int)==13)=false:=by rw[aw];rfl
 have b15:(((l.op:Nat):Int)==15)=false:=by rw[aw];rfl
 generalize l.places.getD 0 (0,0)=p0 at*;generalize l.places.getD 1 (0,0)=p1 at*;clear aw;obtain⟨d0,d1,d2,d3⟩:=hd;have x0i:(p0.1:Int)<12:=by omega
 have zv:∀{vm2 vt2:Value} {W:World},aM x vm vt (w.alloc (.cells #[.int .i64 (l.num:Nat),.int .i64 (l.op:Nat),.slice (some ⟨g,0,none⟩) 2 cp,.int .i64 l.number,.int .i64 l.flag,.slice an l.next.length cn] 115)) vm2 vt2 W->W.ownsRow z 119 2 (.slice (some ⟨g,0,none⟩) l.places.length cp) l.places.length (bK l.places):=fun hr=>HA.de (by have:=Mp.out;rw[hlen]at this;rw[hlen];exact this) (.inr rfl) hr
 have x0q:p0.1<q.locals.length:=by omega
 have x1q:p1.1<q.locals.length:=by omega
 have XF:=cC (q:=q) (x:=p0) (n:=12) (by omega);have XG:=cC (q:=q) (x:=p1) (n:=12) (by omega);have hlq:(QP.ab q p0).length<=2:=by unfold QP.ab;split<;>simp
 have m3:=HA.prog;have Ze:=fun(W:World) (hW:dn w0 x a W o vi vm vt)=>ee q p0 v u a W (hq.below hW.bq).aI (hq.below hW.bq).loc x0q
 have Zf:=fun(W:World) (hW:dn w0 x a W o vi vm vt)=>ee q p1 v u a W (hq.below hW.bq).aI (hq.below hW.bq).loc x1q
 have KM:=fun(W:World) (hW:dn w0 x a W o vi vm vt) (z1 z2 g1 g2 c1 c2:Nat) (Gy:bO z1 W (.slice (some ⟨g1,0,none⟩) (QP.ab q p0).length c1) (QP.ab q p0)) (zj:bO z2 W (.slice (some ⟨g2,0,none⟩) (QP.ab q p1).length c2) (QP.ab q p1))=>Ib hW Gy zj XF XG (by omega) T6 ke hs (by omega) qv oL
 clear T6;clear hlen;go_enter Tryz.func65,Tryz.ntmps65
 go_wp2
 go_region_held3 (fun W=>W.cell? ⟨g,0,none⟩=some (.int .i64 (p0.1:Nat))/\W.cell? ⟨g,1,none⟩=some (.int .i64 (p0.2:Nat))/\W.cell? ⟨g,2,none⟩=some (.int .i64 (p1.1:Nat))/\W.cell? ⟨g,3,none⟩=some (.int .i64 (p1.2:Nat))/\W.cell? ⟨x,3,none⟩=some (.pointer (some ⟨a,0,none⟩))) (go_keep)
  (first
  |(go_at_call 107;have _:=tk0;go_fit (KM _ iM _ _ g1 g2 c1 c2 J8 zj);rintro e w3 ⟨rfl,vm3,vt3,h3,r3⟩;obtain⟨k0,k1,k2,k3⟩:=PC.out _ (zv (r2a.trans r3));have m4:=h3.prog)
  |(go_at_call 107;have _:=tk1;go_fit (KM _ iM _ _ g2 g1 c2 c1 zj J8);rintro e w3 ⟨rfl,vm3,vt3,h3,r3⟩;obtain⟨k0,k1,k2,k3⟩:=PC.out _ (zv (r2a.trans r3));have m4:=h3.prog)
  |(go_at_call 102;have _:=tk0;go_fit (Zf _ mn);rintro e w2 ⟨g2,c2,rfl,zj,h2⟩;have iM:=mn.below h2;have r2a:=r1a.trans (aM.of h2 (x:=x) (vm:=vm) (vt:=vt));obtain⟨f0,f1,f2,f3⟩:=PC.out _ (zv r2a);have m2:=iM.prog;have J8:=ax Gy h2)
  |(go_at_call 102;have _:=tk1;go_fit (Ze _ mn);rintro e w2 ⟨g2,c2,rfl,zj,h2⟩;have iM:=mn.below h2;have r2a:=r1a.trans (aM.of h2 (x:=x) (vm:=vm) (vt:=vt));obtain⟨f0,f1,f2,f3⟩:=PC.out _ (zv r2a);have m2:=iM.prog;have J8:=ax Gy h2)
  |(go_at_call 102;go_fit (Ze _ HA.drew);rintro e w1 ⟨g1,c1,rfl,Gy,h1⟩;have mn:=HA.drew.below h1;have r1a:aM x vm vt (w.alloc (.cells #[.int .i64 (l.num:Nat),.int .i64 (l.op:Nat),.slice (some ⟨g,0,none⟩) 2 cp,.int .i64 l.number,.int .i64 l.flag,.slice an l.next.length cn] 115)) vm vt w1:=(aM.of (iZ _)).trans (aM.of h1);obtain⟨e0,e1,e2,e3⟩:=PC.out _ (zv r1a);have m1:=mn.prog;have tk0:True:=trivial)
  |(go_at_call 102;go_fit (Zf _ HA.drew);rintro e w1 ⟨g1,c1,rfl,Gy,h1⟩;have mn:=HA.drew.below h1;have r1a:aM x vm vt (w.alloc (.cells #[.int .i64 (l.num:Nat),.int .i64 (l.op:Nat),.slice (some ⟨g,0,none⟩) 2 cp,.int .i64 l.number,.int .i64 l.flag,.slice an l.next.length cn] 115)) vm vt w1:=(aM.of (iZ _)).trans (aM.of h1);obtain⟨e0,e1,e2,e3⟩:=PC.out _ (zv r1a);have m1:=mn.prog;have tk1:True:=trivial))
 all_goals go_wp2_with fail
 all_goals
  go_end0
  exact⟨rfl,vm3,vt3,h3,((aM.of aX).trans r2a).trans r3⟩
end
end Own
namespace Own
open Go Go.RowKit Sq Aux PrjJ PrjK PrjL PrjM PrjS PrjT FlwA FlwB FlwD FlwE
section
variable {x a:Nat} {w w0 w1:World} {vm vt vi vm1 vt1:Value} {o:Own}
set_option maxRecDepth 20000 in
set_option maxHeartbeats 1000000 in
theorem Ec (h:dn w0 x a w o vi vm vt){z nl nb:Nat}{l:aa}{ap an:Option Addr}{cp cn:Nat}(hl:bp z w l (.slice ap l.places.length cp) (.slice an l.next.length cn))(hk:tR nl nb l)(lg:nl<=12)
  (aw:l.op=3\/l.op=4\/l.op=5) (hr:∀n∈o.ints,aN n):
  Calls Tryz.prog 65 #[.pointer (some ⟨x,0,none⟩),.agg #[.int .i64 (l.num:Nat),.int .i64 (l.op:Nat),.slice ap l.places.length cp,.int .i64 l.number,.int .i64 l.flag,.slice an l.next.length cn]] w fun e w'=>
   e=.returned (.tuple #[])/\dn w0 x a w' (o.calc l) vi vm vt/\aM x vm vt w vm vt w':=by
 have aX:Below w.heap.size w (w.alloc (.cells #[.int .i64 (l.num:Nat),.int .i64 (l.op:Nat),.slice ap l.places.length cp,.int .i64 l.number,.int .i64 l.flag,.slice an l.next.length cn] 115)):=(Below.refl _ _).alloc (jC _) _;have KC:=sC (h.below aX) (hl.below aX) hk lg (by omega) (fun e=>by omega) hr;have hC:Hid (({o with ints:=o.ints.set (aa.pl l 0).1 (ve l.op (o.num (aa.pl l 1)) (o.num (aa.pl l 2)))}:Own)=o.calc l):=rfl;rw[hC.out]at KC;clear hl hk hC;rcases aw with e|e|e
 all_goals
  have b2:(((l.op:Nat):Int)==2)=false:=by rw[e];rfl
  have b3:(((l.op:Nat):Int)==3)=decide (l.op=3):=by rw[e];rfl
  have b4:(((l.op:Nat):Int)==4)=decide (l.op=4):=by rw[e];rfl
  have b5:(((l.op:Nat):Int)==5)=decide (l.op=5):=by rw[e];rfl
  simp only[e]at b3 b4 b5;simp only[Nat.reduceEqDiff,decide_true,decide_false]at b3 b4 b5;rw[<-e]at b3 b4 b5;clear e;go_enter Tryz.func65,Tryz.ntmps65
  go_wp2_with (go_at_call 59;go_fit KC;rintro e w2 ⟨rfl,h2,r2⟩)
  go_end0
  exact⟨rfl,h2,(aM.of aX).trans r2⟩
def km (op:Nat):Prop:=op=2\/op=3\/op=4\/op=5\/op=7\/op=8\/op=10\/op=11\/op=12\/op=13\/op=14\/op=15
theorem W6 (h:dn w0 x a w o vi vm vt){z nb t:Nat}{q:QP}{v u:Value}{l:aa}{ap an:Option Addr}{cp cn:Nat}(hl:bp z w l (.slice ap l.places.length cp) (.slice an l.next.length cn))(hk:tR q.locals.length nb l)(lg:q.locals.length<=12)
  (aw:km l.op) (lf:o.In t) (ht:t<=900000) (sJ:o.bD l=true) (hq:PQ w0 a q v u) (T6:l.op=12\/l.op=14->(QP.ab q (ah l 0)).length=(QP.ab q (ah l 1)).length) (qv:Pow w0) (oL:11<=w0.heap.size):
  Calls Tryz.prog 65 #[.pointer (some ⟨x,0,none⟩),.agg #[.int .i64 (l.num:Nat),.int .i64 (l.op:Nat),.slice ap l.places.length cp,.int .i64 l.number,.int .i64 l.flag,.slice an l.next.length cn]] w fun e w'=>
   e=.returned (.tuple #[])/\∃vi' vm' vt',dn w0 x a w' (o.fy q l) vi' vm' vt'/\aM x vm vt w vm' vt' w':=by
 have hs:=lf.sz (by omega);have Ol:t+100<=9000000:=by omega
 unfold ah at T6;rcases aw with e|e|e|e|e|e|e|e|e|e|e|e
 ·have hd:o.fy q l={o with ints:=o.ints.set (l.places.getD 0 (0,0)).1 l.number}:=by unfold Own.fy;rw[jb e];rfl
  rw[hd];exact(W8 h hl hk lg e).mono fun e w' ⟨h0,h1,h2⟩=>⟨h0,vi,vm,vt,h1,h2⟩
 ·have hd:o.fy q l=o.calc l:=by unfold Own.fy;rw[ja (by omega),jb (by omega)]
  rw[hd];exact(Ec h hl hk lg (by omega) lf.rj).mono fun e w' ⟨h0,h1,h2⟩=>⟨h0,vi,vm,vt,h1,h2⟩
 ·have hd:o.fy q l=o.calc l:=by unfold Own.fy;rw[ja (by omega),jb (by omega)]
  rw[hd];exact(Ec h hl hk lg (by omega) lf.rj).mono fun e w' ⟨h0,h1,h2⟩=>⟨h0,vi,vm,vt,h1,h2⟩
 ·have hd:o.fy q l=o.calc l:=by unfold Own.fy;rw[ja (by omega),jb (by omega)]
  rw[hd];exact(Ec h hl hk lg (by omega) lf.rj).mono fun e w' ⟨h0,h1,h2⟩=>⟨h0,vi,vm,vt,h1,h2⟩
 ·have hd:o.fy q l={o with ak:=o.ak.tail,ints:=o.ints.set (l.places.getD 0 (0,0)).1 (o.ak.headD 0)}:=by unfold Own.fy;rw[ja (by omega),ja (by omega),jb e];rfl
  rw[hd];exact(Zj h hl hk lg e).mono fun e w' ⟨h0,⟨vi',h1⟩,h2⟩=>⟨h0,vi',vm,vt,h1,h2⟩
 ·have hd:o.fy q l={o with yd:=o.yd.note 111 (o.num (l.places.getD 0 (0,0)))}:=by unfold Own.fy;rw[ja (by omega),ja (by omega),ja (by omega),jb e];rfl
  rw[hd];exact(W7 h hl hk lg e hs Ol qv oL lf.rj).mono fun e w' ⟨h0,vm',vt',h1,h2⟩=>⟨h0,vi,vm',vt',h1,h2⟩
 ·have hd:o.fy q l={o with yd:=o.yd.load (o.box (l.places.getD 1 (0,0))),ints:=o.ints.set (l.places.getD 0 (0,0)).1 (o.yd.at (o.box (l.places.getD 1 (0,0)))).1}:=by unfold Own.fy;rw[ja (by omega),ja (by omega),ja (by omega),ja (by omega),jb e];rfl
  have hn:1<=o.box (l.places.getD 1 (0,0)):=by unfold Own.bD at sJ;rw[jb e]at sJ;exact of_decide_eq_true sJ
  rw[hd];exact(Uq h hl hk lg e hs Ol qv oL lf.bx hn).mono fun e w' ⟨h0,vm',vt',h1,h2⟩=>⟨h0,vi,vm',vt',h1,h2⟩
 ·have hd:o.fy q l={o with yd:=o.yd.store (o.box (l.places.getD 0 (0,0))) (o.num (l.places.getD 1 (0,0)))}:=by unfold Own.fy;rw[ja (by omega),ja (by omega),ja (by omega),ja (by omega),ja (by omega),jb e];rfl
  have hn:1<=o.box (l.places.getD 0 (0,0)):=by unfold Own.bD at sJ;rw[ja (by omega),jb e]at sJ;exact of_decide_eq_true sJ
  rw[hd];exact(QE h hl hk lg e hs Ol qv oL lf.bx hn).mono fun e w' ⟨h0,vm',vt',h1,h2⟩=>⟨h0,vi,vm',vt',h1,h2⟩
 ·have hd:o.fy q l=o.move (QP.ab q (l.places.getD 0 (0,0))) (QP.ab q (l.places.getD 1 (0,0))):=by unfold Own.fy;rw[ja (by omega),ja (by omega),ja (by omega),ja (by omega),ja (by omega),ja (by omega),jb (by omega)];rfl
  rw[hd];exact(Ur h hl hk lg e hs Ol qv oL lf.bx hq rfl (T6 (.inl e))).mono fun e w' ⟨h0,vm',vt',h1,h2⟩=>⟨h0,vi,vm',vt',h1,h2⟩
 ·have hd:o.fy q l=o.drop (QP.ab q (l.places.getD 0 (0,0))):=by unfold Own.fy;rw[ja (by omega),ja (by omega),ja (by omega),ja (by omega),ja (by omega),ja (by omega),ja (by omega),jb (by omega)];rfl
  rw[hd];exact(Us h hl hk lg e hs Ol qv oL lf.bx hq rfl).mono fun e w' ⟨h0,vm',vt',h1,h2⟩=>⟨h0,vi,vm',vt',h1,h2⟩
 ·have hd:o.fy q l=o.move (QP.ab q (l.places.getD 0 (0,0))) (QP.ab q (l.places.getD 1 (0,0))):=by unfold Own.fy;rw[ja (by omega),ja (by omega),ja (by omega),ja (by omega),ja (by omega),ja (by omega),jb (by omega)];rfl
  rw[hd];exact(Ut h hl hk lg e hs Ol qv oL lf.bx hq rfl (T6 (.inr e))).mono fun e w' ⟨h0,vm',vt',h1,h2⟩=>⟨h0,vi,vm',vt',h1,h2⟩
 ·have hd:o.fy q l=o.drop (QP.ab q (l.places.getD 0 (0,0))):=by unfold Own.fy;rw[ja (by omega),ja (by omega),ja (by omega),ja (by omega),ja (by omega),ja (by omega),ja (by omega),jb (by omega)];rfl
  rw[hd];exact(Up h hl hk lg e hs Ol qv oL lf.bx hq rfl).mono fun e w' ⟨h0,vm',vt',h1,h2⟩=>⟨h0,vi,vm',vt',h1,h2⟩
end
end Own
namespace Own
open Go Go.RowKit Go.Shelf Sq Aux PrjJ PrjK PrjL PrjM PrjR PrjS PrjT FlwA FlwB FlwD FlwE
attribute [local go_sem] Oper.semAt_some
theorem Gb (q:QP){N:Nat}:∀(ys:List (Fin N)) {o:Own} {t:Nat},o.In t->t+2*ys.length<=1000000->(yM q ys o).In (t+2*ys.length)
 |[],_,_,h,_=>h
 |y::ys,o,t,h,ht=>by
  have h2:=mo q (y.val,0);rw[jY]at ht;rw[jY,show t+2*(ys.length+1)=(t+2)+2*ys.length by omega];exact Gb q ys ((h.drop (QP.ab q (y.val,0)) (by omega)).mono (by omega)) (by omega)
theorem JW (q:QP){N:Nat}(ys:List (Fin N))(y:Fin N)(o:Own):yM q (ys++[y]) o=(yM q ys o).drop (QP.ab q (y.val,0)):=by simp[yM]
section
variable {x a:Nat} {w w0:World} {vm vt vi:Value} {o:Own}
set_option maxRecDepth 100000 in
set_option maxHeartbeats 4000000 in
theorem Ga (h:dn w0 x a w o vi vm vt){q:QP}{v u:Value}{t:Nat}(hq:PQ w0 a q v u)(zL:0<q.locals.length)(hl12:q.locals.length<=12)(lf:o.In t)(ht:t<=900000)(qv:Pow w0)(oL:11<=w0.heap.size):
  Calls Tryz.prog 64 #[.pointer (some ⟨x,0,none⟩)] w fun e w'=>e=.returned (.tuple #[])/\∃vm' vt',dn w0 x a w' (o.dM q q.locals.length) vi vm' vt'/\aM x vm vt w vm' vt' w':=by
 refine(callsIn_wide (n:=3)).1 ?_;obtain⟨g,cap,rfl,kL,hg,-⟩:=sd hq.loc 0 zL;have YP:∀j,j<q.locals.length->w0.cell? ⟨g,j*2,none⟩=some (.string (bs (q.locals.getD j ([],0)).1))/\w0.cell? ⟨g,j*2+1,none⟩=some (.int .i64 ((q.locals.getD j ([],0)).2:Nat)):=fun j hj=>by
  obtain⟨g',cap',e,-,-,c1,c2⟩:=sd hq.loc j hj;simp only[Value.slice.injEq,Option.some.injEq,Addr.mk.injEq,and_true,true_and]at e;obtain⟨rfl,-⟩:=e;exact⟨c1,c2⟩
 have av:Below w.heap.size w (w.alloc (.cells #[.pointer (some ⟨x,0,none⟩)] 170)):=(Below.refl _ _).alloc (jC _) _;have H1:=h.below av;have m1:=H1.prog;have Q1:=hq.below H1.bq;have m2:(w.alloc (.cells #[.pointer (some ⟨x,0,none⟩)] 170)).cell? ⟨a,0,none⟩=some (.slice (some ⟨g,0,none⟩) q.locals.length cap):=by rw[cell_of_heap Q1.aI];rfl
 refine callsIn_of_wp_marks Tryz.func64 rfl trivial ?_ rfl;simp only[Tryz.ntmps64,List.size_toArray,List.length_cons,List.length_nil,Nat.reduceAdd,Nat.reduceSub,Array.replicate_succ,Array.replicate_zero,List.push_toArray,List.append_toArray,List.nil_append,List.cons_append]
 gi_wp2_with (refine⟨trivial,?_⟩;gi_at_call 101;refine(Ui _ _ trivial rfl _ _ _ _).mono ?_;rintro e w' ⟨rfl,rfl⟩)
 have bT:Below w.heap.size w ((w.alloc (.cells #[.pointer (some ⟨x,0,none⟩)] 170)).alloc (.cells #[.slice (some ⟨g,0,none⟩) q.locals.length cap] 107)):=av.alloc av.size _;have H2:=h.below bT;have lu:((w.alloc (.cells #[.pointer (some ⟨x,0,none⟩)] 170)).alloc (.cells #[.slice (some ⟨g,0,none⟩) q.locals.length cap] 107)).heap[w.heap.size]?=some (.cells #[.pointer (some ⟨x,0,none⟩)] 170 (0,0)):=by
  rw[Below.heap_alloc _ _ _ (by simp)];exact jD
 have ml:((w.alloc (.cells #[.pointer (some ⟨x,0,none⟩)] 170)).alloc (.cells #[.slice (some ⟨g,0,none⟩) q.locals.length cap] 107)).heap[w.heap.size+1]?=some (.cells #[.slice (some ⟨g,0,none⟩) q.locals.length cap] 107 (0,0)):=by
  have:=World.alloc_heap_new (w.alloc (.cells #[.pointer (some ⟨x,0,none⟩)] 170)) (.cells #[.slice (some ⟨g,0,none⟩) q.locals.length cap] 107)
  rwa [World.size_alloc]at this
 have mZ:((w.alloc (.cells #[.pointer (some ⟨x,0,none⟩)] 170)).alloc (.cells #[.slice (some ⟨g,0,none⟩) q.locals.length cap] 107)).cell? ⟨w.heap.size+1,0,none⟩=some (.slice (some ⟨g,0,none⟩) q.locals.length cap):=by rw[cell_of_heap ml];rfl
 have B9:((w.alloc (.cells #[.pointer (some ⟨x,0,none⟩)] 170)).alloc (.cells #[.slice (some ⟨g,0,none⟩) q.locals.length cap] 107)).heap.size=w.heap.size+2:=by simp
 have qS:=h.bq.size;obtain⟨W1,ti⟩:∃W1,((w.alloc (.cells #[.pointer (some ⟨x,0,none⟩)] 170)).alloc (.cells #[.slice (some ⟨g,0,none⟩) q.locals.length cap] 107))=W1:=⟨_,rfl⟩;rw[ti]at bT H2 lu ml mZ B9⊢;refine wpIn_rangeFunc_ownF rfl (by decide) (gf:=157) (lb:= #[.pointer (some ⟨w.heap.size+1,0,none⟩)]) rfl trivial (enters_of Tryz.func157 (by kernel_rfl) rfl)
  (JG _ _ trivial rfl (by decide) (w.heap.size+1) w0.heap.size g cap q.locals (by omega) hg kL W1 (by omega) (by omega) mZ (fun j hj=>⟨(H2.bq.cell (p:=⟨g,j*2,none⟩) hg).trans (YP j hj).1,(H2.bq.cell (p:=⟨g,j*2+1,none⟩) hg).trans (YP j hj).2⟩))
  (fun h1 h2=>⟨h1.1.trans h2.1,h2.2.trans h1.2⟩)
  (fun W l ob ob' hl hk hc _=>⟨belowK_b (w:=W1) (by omega) W l ob ob' hl hk hc (by assumption),by
   have ea:W1.heap.size<=l:=hl;simp only[World.cell?];rw[World.putObj_heap_other (by show w.heap.size+1≠l;omega)]⟩)
  (Below.refl _ _) (fun _=>rfl)
  (fun pre W=>∃vm' vt',dn w0 x a W (yM q pre o) vi vm' vt'/\aM x vm vt W1 vm' vt' W/\W.heap[w.heap.size]?=some (.cells #[.pointer (some ⟨x,0,none⟩)] 170 (0,0))/\W.heap[w.heap.size+1]?=some (.cells #[.slice (some ⟨g,0,none⟩) q.locals.length cap] 107 (0,0)))
  (fun _ _ _=>False)
  (fun pre W W' row hs T0 hr=>by
   obtain⟨vm',vt',i1,i2,i3,i4⟩:=hs;have Kp:∀r,row=some r->∃ob:Obj,W.heap[r]?=some ob/\ob.isCells=false:=fun r e=>(hr r e).2
   refine⟨vm',vt',i1.FJ T0 (fun r e=>⟨by have:=(hr r e).1;omega,(hr r e).2⟩),i2.FJ T0 (fun r e=>(hr r e).1),?_,?_⟩
   ·rw[T0.block _ (lt_of_heap i3) (vf i3 Kp)];exact i3
   ·rw[T0.block _ (lt_of_heap i4) (vf i4 Kp)];exact i4)
  (fun _ _ _ _ _ hs _ _=>hs)
  ⟨vm,vt,H2,aM.refl _ _ _ _,lu,ml⟩
  (fun y=>{tmps:= #[.pointer (some ⟨x,0,none⟩),.pointer (some ⟨w.heap.size,0,none⟩),.int .i64 (y.val:Int),.pointer (some ⟨x,0,none⟩),.pointer (some ⟨x,0,none⟩),.pointer (some ⟨x,3,none⟩),.pointer (some ⟨a,0,none⟩),.pointer (some ⟨a,0,none⟩),.pointer (some ⟨a,0,none⟩),.slice (some ⟨g,0,none⟩) q.locals.length cap,.func (.func 157) #[] #[.pointer (some ⟨w.heap.size+1,0,none⟩)],.int .i64 (y.val:Int),Ye q.locals y.val,undef,undef,undef,undef,undef,undef,undef,undef,undef],defers:=[]}) ?assign ?body ?done ?stop
 case assign=>
  intro l y W K hK;unfold Uv
  gi_wp2
  exact hK
 case body=>
  rintro l pre y W ⟨vm',vt',i1,i2,i3,i4⟩ gK;have hd:1<=3-1-1:=by omega
  have hmx:Tryz.prog.follows .mixedOrders=true:=by kernel_rfl
  have c1:W.cell? ⟨w.heap.size,0,none⟩=some (.pointer (some ⟨x,0,none⟩)):=by rw[cell_of_heap i3];rfl
  have c3:=i1.prog;have i1d:=i1.drew;have QW:=hq.below i1d.bq;have hyl:y.val<q.locals.length:=y.isLt;have KH:Calls Tryz.prog 102 #[.pointer (some ⟨a,0,none⟩),.agg #[.int .i64 (y.val:Int),.int .i64 0]] W.drew _:=ee q (y.val,0) _ u a W.drew QW.aI QW.loc hyl;have hdi:=Gb q pre lf (by omega);have hin2:=cC (q:=q) (x:=(y.val,0)) (n:=12) (by show y.val<12;omega);have T6:=mo q (y.val,0);have KD:=fun(V:World) (hV:dn w0 x a V (yM q pre o) vi vm' vt') (zz gg cc:Nat) (hP:bO zz V (.slice (some ⟨gg,0,none⟩) (QP.ab q (y.val,0)).length cc) (QP.ab q (y.val,0)))=>fX hV hP hin2 (by omega) hdi.bx (hdi.sz (by omega)) (by omega) qv oL
  have hds:=JW q pre y o
  gi_wp2
  gi_region_with_o (first
   |(refine⟨trivial,?_⟩;gi_at_call 102;refine(CallsIn.inRound l (callsIn_wide.2 KH)).mono ?_;rintro e w2 ⟨g2,c2,rfl,zj,h2⟩;have iM:=i1d.below h2;have d1:w2.cell? ⟨w.heap.size,0,none⟩=some (.pointer (some ⟨x,0,none⟩)):=(h2.cell (p:=⟨w.heap.size,0,none⟩) (lt_of_heap i3)).trans c1)
   |(refine⟨trivial,?_⟩;gi_at_call 60;refine(CallsIn.inRound l (callsIn_wide.2 (KD _ iM _ g2 c2 zj))).mono ?_;rintro e w3 ⟨rfl,vm3,vt3,h3,r3⟩))
  all_goals gi_wp2
  all_goals
   have r:aM x vm' vt' W vm3 vt3 w3:=((aM.of (iZ W)).trans (aM.of h2)).trans r3;have j3:=i1.SP r i3 (by decide) (by decide) (by decide);have j4:=i1.SP r i4 (by decide) (by decide) (by decide);exact⟨r.keeps i1,⟨r.below i1.ka (jC _) i1.bq.size,by rw[cell_of_heap j4,cell_of_heap i4]⟩,vm3,vt3,by rw[hds];exact h3,i2.trans r,j3,j4⟩
 case done=>
  rintro D ys W hD rfl ⟨vm',vt',i1,i2,i3,i4⟩ hK;have xR:=C3 q (N:=q.locals.length) o q.locals.length (jC _);rw[Nat.sub_self,Own.dM]at xR;rw[xR]at i1
  gi_wp2
  refine⟨by simp,.inl ⟨_,_,rfl,run_takeDeferred hK,?_⟩⟩;have hab:∀r,some D=some r->W1.heap.size<=r/\∃ob:Obj,W.heap[r]?=some ob/\ob.isCells=false:=fun r e=>by cases e;exact⟨hD,_,hK,rfl⟩
  exact⟨_,results_none rfl _ _ _,rfl,vm',vt',i1.FJ (grownBy_putObj' W D _) (fun r e=>⟨by have:=(hab r e).1;omega,(hab r e).2⟩),((aM.of bT).trans i2).FJ (grownBy_putObj' W D _) (fun r e=>by have:=(hab r e).1;omega)⟩
 case stop=>
  rintro D c pre W _ _ hx _;exact hx.elim
end
end Own
namespace Own
open Go Go.RowKit Sq Aux PrjJ PrjK PrjL PrjM FlwA FlwB
def bL (u v:Value):List Value:=[.slice none 0 0,.int .i64 0,.slice none 0 0,u,v]++List.replicate 36 (.int .i64 0)
def Wy (v:Value):Prop:=∃p,v=.pointer p
def isSl (v:Value):Prop:=∃ad l c,v=.slice ad l c
@[simp] theorem Y2 (p : Option Addr) : Wy (.pointer p) = True := eq_true ⟨p, rfl⟩
@[simp] theorem isSl_sl (ad : Option Addr) (l c : Nat) : isSl (.slice ad l c) = True := eq_true ⟨ad, l, c, rfl⟩
theorem CC (p ad:Option Addr)(l c:Nat)(w:World):(Instr.build 104 #[(1,.pointer p),(2,.slice ad l c)]).run Tryz.prog w=.ok (.agg (bL (.pointer p) (.slice ad l c)).toArray) w:=by
 kernel_rfl
theorem CB (w:World):(Instr.alloc 104 true (.tuple #[])).run Tryz.prog w=.ok (.pointer (some ⟨w.heap.size,0,none⟩)) (w.alloc (.cells (bL (.pointer none) (.slice none 0 0)).toArray 104)):=by
 kernel_rfl
theorem vU (u v:Value):(bL u v).length=41:=rfl
theorem Kw:(Tryz.prog.info? 104).map (·.size)=some 41:=by kernel_rfl
def Wx (v:Value):Prop:=∃p ad l c,v=.agg (bL (.pointer p) (.slice ad l c)).toArray
@[simp] theorem Y1 (p ad : Option Addr) (l c : Nat) : Wx (.agg (bL (.pointer p) (.slice ad l c)).toArray) = True := eq_true ⟨p, ad, l, c, rfl⟩
def JD:Value->List Value
 | .agg xs=>xs.toList
 |_=>[]
@[simp] theorem Zg (u v : Value) : JD (.agg (bL u v).toArray) = bL u v := rfl
def Mu (w:World)(v:Value):Prop:=∃b,v=.pointer (some ⟨b,0,none⟩)/\w.there b 0 41
def MA:Value->Nat
 | .pointer (some ad)=>ad.block
 |_=>0
@[simp] theorem YC (ad : Addr) : MA (.pointer (some ad)) = ad.block := rfl
theorem VE (p ad:Option Addr)(l c:Nat):∀u∈bL (.pointer p) (.slice ad l c),u.oneCell'=true:=by
 intro u hu;simp only[bL,List.cons_append,List.nil_append,List.mem_cons,List.mem_replicate]at hu;rcases hu with rfl|rfl|rfl|rfl|rfl|⟨-,rfl⟩<;>rfl
section
variable (d:Option Tmp) (x y:Operand) (t:TypeId) (ps:String) (af:Array Edge) (g:Option (Nat×Bool)) (a:Act) (w:World) (K:Act->World->Prop) (Q:Exit->Act->World->Prop)
theorem Fp (h:Wy (a.eval x))(h':isSl (a.eval y)):Oper.wp Tryz.prog {dst:=d,op:=Op.build 104 #[(1,x),(2,y)],type:=t,pos:=ps,after:=af,guard:=g} a w K Q=K (a.put d (.agg (bL (a.eval x) (a.eval y)).toArray)) w:=by
 obtain⟨p,hp⟩:=h;obtain⟨ad,l,c,hs⟩:=h';have:=CC p ad l c w;unfold Oper.wp execOp;simp only[List.map_toArray,List.map_cons,List.map_nil,hp,hs,Sem.run_bind,Sem.run_pure,Result.andThen_ok,this];rfl
theorem Fo:Oper.wp Tryz.prog {dst:=d,op:=Op.alloc 104,type:=t,pos:=ps,after:=af,guard:=g} a w K Q=K (a.put d (.pointer (some ⟨w.heap.size,0,none⟩))) (w.alloc (.cells (bL (.pointer none) (.slice none 0 0)).toArray 104)):=by
 have:=CB w;unfold Oper.wp execOp;simp only[Sem.run_bind,Sem.run_pure,Result.andThen_ok,this];rfl
theorem Ft (h:Mu w (a.eval x))(h':Wx (a.eval y)):Oper.wp Tryz.prog {dst:=d,op:=Op.store 104 x y,type:=t,pos:=ps,after:=af,guard:=g} a w K Q=K (a.put d undef) (w.setCells (MA (a.eval x)) 0 (JD (a.eval y))):=by
 obtain⟨b,hb,hh⟩:=h;obtain⟨p,ad,l,c,hy⟩:=h';have:=run_storeAt_mid (P:=Tryz.prog) w b 0 104 (bL (.pointer p) (.slice ad l c)).toArray hh Kw (all_oneCell_toArray (VE p ad l c));unfold Oper.wp execOp;simp only[hb,hy,Sem.run_bind,Sem.run_pure,Result.andThen_ok,this];rfl
theorem IP (w:World)(u v:Value):Mu (w.alloc (.cells (bL u v).toArray 104)) (.pointer (some ⟨w.heap.size,0,none⟩)):=by
 refine⟨_,rfl,fun j hj=> ?_⟩;have h:(w.alloc (.cells (bL u v).toArray 104)).heap[w.heap.size]?=some (.cells (bL u v).toArray 104 (0,0)):=jD;refine⟨?_,frozen_of_heap h _⟩;rw[cell_of_heap h,Nat.zero_add];simp only[List.getElem?_toArray];rw[jB (by rw[vU];exact hj)];rfl
end
theorem ES (w:World)(u v u' v':Value):((w.alloc (.cells (bL u v).toArray 104)).setCells w.heap.size 0 (bL u' v')).heap[w.heap.size]?=some (.cells (bL u' v').toArray 104 (0,0))/\Below w.heap.size w ((w.alloc (.cells (bL u v).toArray 104)).setCells w.heap.size 0 (bL u' v')):=by
 have h:(w.alloc (.cells (bL u v).toArray 104)).heap[w.heap.size]?=some (.cells (bL u v).toArray 104 (0,0)):=jD;refine⟨?_,ay ((Below.refl _ _).alloc (jC _) _) (jC _) _ _⟩;obtain⟨cs',h1,h2,h3⟩:=eK w.heap.size (bL u' v') 0 _ _ _ _ h;have e:cs'=(bL u' v').toArray:=by
  apply Array.ext_getElem?
  intro j;rw[h3];by_cases hj:j<41
  ·rw[jb (by simp[vU];exact hj)];simp
  ·rw[ja (by simp[vU];omega),Array.getElem?_eq_none (by simp[vU];omega),Array.getElem?_eq_none (by simp[vU];omega)]
 rw[h1,e]
end Own
namespace RunA
open Go Sq PrjS
def Whole (b:List aa):Prop:=∃ls l,b=ls++[l]/\18<=l.op/\∀m∈ls,m.op<18
structure Shp (raw:Bool)(o:fj)(q:QP):Prop where
 none:o.sec=0->q.blocks=[]
 sx:o.sec=1->∃bs b,q.blocks=bs++[b]/\(∀c∈bs,Whole c)/\∀m∈b,m.op<18
 whl:o.sec=2->∀c∈q.blocks,Whole c
 has:∀b∈q.blocks,∀l∈b,pD raw l.op=true
 sec:o.sec<=2
theorem Sg {ls:List (B×Nat)}{nb:Nat}{x:Nat×List B}{l:aa}(h:ey ls nb x=some l):l.op=x.1:=by
 rw[ey]at h;obtain⟨i1,-⟩:=l6 ls nb _ _ _ _ h (by simp) (by simp) (by simp) (by simp);exact i1
theorem JC {raw:Bool}{o:fj}{op:Nat}(h:(aP raw o op).2=true):pD raw op=true:=by
 unfold aP at h;split at h
 ·cases h
 ·rename_i hh;simpa using hh
theorem Tl (raw:Bool)(nb:Nat):∀(ls:List (List B)) (o:fj) (i j:Nat) (q0 q:QP),(aF raw ls o i).2.2=none->ba nb (aF raw ls o i).1 j q0=(q,none)->Shp raw o q0->Shp raw (aF raw ls o i).2.1 q
 |[],o,i,j,q0,q,_,h,hs=>by
  simp only[aF,ba,Prod.mk.injEq,and_true]at h;rw[<-h];exact hs
 |ws::r,o,i,j,q0,q,hn,h,hs=>by
  rw[aF]at hn h⊢;cases hx:eP ws with
  |none=>rw[hx]at hn;cases hn
  |some x=>
   rw[hx]at hn h;simp only at hn h⊢;by_cases ha:(aP raw o x.1).2=true
   ·rw[jb ha]at hn h⊢;have ih:=fun q1 hl lv=>Tl raw nb r (aP raw o x.1).1 (i+1) (j+1) q1 q hn hl lv
    have Z0:=JC ha;have xV:=qA raw o x.1 hs.sec;rw[ba]at h;have hnh:¬pD raw x.1=false:=by rw[Z0];decide
    by_cases e0:x.1=0
    ·rw[jb e0]at h;split at h
     ·simp at h
     ·refine ih _ h ?_;have e:(aP raw o x.1).1=⟨o.sec,o.locals+1,o.blocks⟩:=by rw[aP,ja hnh,jb e0]
      rw[e];exact⟨hs.none,hs.sx,hs.whl,hs.has,hs.sec⟩
    ·rw[ja e0]at h;by_cases e1:x.1=1
     ·rw[jb e1]at h;refine ih _ h ?_;have e:aP raw o x.1=(⟨1,o.locals,o.blocks+1⟩,decide (0<o.locals)&& !(o.sec==1)&&decide (o.blocks+1<=if raw then 2000 else 20)):=by rw[aP,ja hnh,ja e0,jb e1]
      rw[e]at ha;simp only[Bool.and_eq_true,Bool.not_eq_true',beq_eq_false_iff_ne]at ha;rw[e];have hsec':=hs.sec;refine⟨fun h=>(by cases h),fun _=>⟨q0.blocks,[],rfl,fun c hc=> ?_,fun m hm=>(by cases hm)⟩,fun h=>(by cases h),fun b hb l hl=> ?_,by simp⟩
      ·by_cases h0:o.sec=0
       ·rw[hs.none h0]at hc;cases hc
       ·exact hs.whl (by have:=ha.1.2;omega) c hc
      ·simp only[QP.addBlock,List.mem_append,List.mem_singleton]at hb;rcases hb with hb|rfl
       ·exact hs.has b hb l hl
       ·cases hl
     ·rw[ja e1]at h;cases hl:ey q0.locals nb x with
      |none=>rw[hl]at h;simp at h
      |some l=>
       rw[hl]at h;have aw:=Sg hl;by_cases h1:o.sec=1
       ·obtain⟨bs,b,hb,hw,ho⟩:=hs.sx h1;have Kd:(q0.addLine {l with num:=j}).blocks=bs++[b++[{l with num:=j}]]:=by
         simp only[QP.addLine,hb];simp
        have Wh:∀b∈(q0.addLine {l with num:=j}).blocks,∀l∈b,pD raw l.op=true:=fun c hc m hm=>by
         rw[Kd]at hc;simp only[List.mem_append,List.mem_singleton]at hc;rcases hc with hc|rfl
         ·exact hs.has c (by rw[hb];simp[hc]) m hm
         ·simp only[List.mem_append,List.mem_singleton]at hm;rcases hm with hm|rfl
          ·exact hs.has b (by rw[hb];simp) m hm
          ·show pD raw l.op=true;rw[aw];exact Z0
        refine ih _ h ?_;by_cases sv:18<=x.1
        ·have e:(aP raw o x.1).1=⟨2,o.locals,o.blocks⟩:=by rw[aP,ja hnh,ja e0,ja e1,ja (by simp[h1]),jb sv]
         rw[e];refine⟨fun h=>(by cases h),fun h=>(by cases h),fun _ c hc=> ?_,Wh,by simp⟩;rw[Kd]at hc;simp only[List.mem_append,List.mem_singleton]at hc;rcases hc with hc|rfl
         ·exact hw c hc
         ·exact⟨b,_,rfl,by show 18<=l.op;omega,ho⟩
        ·have e:(aP raw o x.1).1=o:=by rw[aP,ja hnh,ja e0,ja e1,ja (by simp[h1]),ja sv]
         rw[e];refine⟨fun h=>by omega,fun _=>⟨bs,_,Kd,hw,fun m hm=> ?_⟩,fun h=>by omega,Wh,hs.sec⟩;simp only[List.mem_append,List.mem_singleton]at hm;rcases hm with hm|rfl
         ·exact ho m hm
         ·show l.op<18;omega
       ·exfalso;rw[aP,ja hnh,ja e0,ja e1,jb h1]at ha;cases ha
   ·rw[ja ha]at hn;cases hn
structure Shape (q:QP):Prop where
 whole:∀b,b<q.blocks.length->Whole (q.blocks.getD b [])
 has:∀b,∀l∈q.blocks.getD b [],pD false l.op=true
 fits:∀b,∀l∈q.blocks.getD b [],q.fits l=true
theorem lZ {L:List (List aa)}{b:Nat}{l:aa}(h:l∈L.getD b []):L.getD b []∈L:=by
 rw[jA]at h⊢;cases hb:L[b]? with
 |none=>rw[hb]at h;cases h
 |some c=>exact List.mem_of_getElem? hb
theorem tB {text:B}{q:QP}(h:bc text false=(some q,0,0)):Shape q:=by
 by_cases di:(split 10 text).length>(if false=true then 4000 else 120)
 ·rw[bc,jb di]at h;cases h
 ·rw[bc,ja di]at h;split at h
  ·cases h
  ·rename_i tN;split at h
   ·cases h
   ·rename_i xV;split at h
    ·cases h
    ·rename_i yT;split at h
     ·cases h
     ·rename_i hmis;simp only[Prod.mk.injEq,Option.some.injEq,and_true]at h;have hs:=Tl false (countB (aF false (aY text) ⟨0,0,0⟩ 0).1) (aY text) ⟨0,0,0⟩ 0 0 QP.empty q tN (by rw[<-h,<-yT]) ⟨fun _=>rfl,fun h=>(by cases h),fun h=>(by cases h),fun b hb=>by simp[QP.empty]at hb,by simp⟩;rw[h]at hmis;refine⟨fun b hb=>hs.whl (by simpa using xV) _ (by simp[hb]),fun b l hl=>hs.has _ (lZ hl) l hl,fun b l hl=> ?_⟩;simp only[QP.misfit,Option.map_eq_none_iff,List.find?_eq_none,Bool.not_eq_true',Bool.not_eq_false]at hmis;exact hmis l (List.mem_flatten.mpr ⟨_,lZ hl,hl⟩)
end RunA
end Go.Proofs.YtmlgajhhnojdjaaGreatDoor

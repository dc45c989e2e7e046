import Derived.Test.YtmlgajhhnojdjaaGreatDoorRBI
namespace Go.Proofs.YtmlgajhhnojdjaaGreatDoor
namespace Own
open Go Go.RowKit Sq Aux PrjJ PrjK PrjL PrjM PrjS PrjT FlwA FlwB FlwD FlwE
section
variable {x a:Nat} {w w0 w1:World} {vm vt vi vm1 vt1:Value} {o:Own}
set_option maxRecDepth 20000 in
set_option maxHeartbeats 4000000 in
theorem Us (h:dp w0 x a w o vi vm vt){z nl nb:Nat}{l:ab}{ap an:Option Addr}{cp cn:Nat}(hl:bq z w l (.slice ap l.places.length cp) (.slice an l.next.length cn))(hk:tS nl nb l)(lh:nl<=12)(ax:l.op=12){t:Nat}(hs:o.yd.Sz t)(ht:t+100<=9000000)(qw:Pow w0)(oM:11<=w0.heap.size)(kf:o.Bx){q:QP}{v u:Value}(hq:PQ w0 a q v u)(hnq:nl=q.locals.length)(T7:(QP.ae q (l.places.getD 0 (0,0))).length=(QP.ae q (l.places.getD 1 (0,0))).length):
  Calls Tryz.prog 65 #[.pointer (some ⟨x,0,none⟩),.agg #[.int .i64 (l.num:Nat),.int .i64 (l.op:Nat),.slice ap l.places.length cp,.int .i64 l.number,.int .i64 l.flag,.slice an l.next.length cn]] w fun e w'=>e=.returned (.tuple #[])/\(∃vm' vt',dp w0 x a w' (o.move (QP.ae q (l.places.getD 0 (0,0))) (QP.ae q (l.places.getD 1 (0,0)))) vi vm' vt'/\aN x vm vt w vm' vt' w'):=by
 have hlen:l.places.length=2:=by rw[hk.cQ,ax];rfl
 have aY:Below w.heap.size w (w.alloc (.cells #[.int .i64 (l.num:Nat),.int .i64 (l.op:Nat),.slice ap l.places.length cp,.int .i64 l.number,.int .i64 l.flag,.slice an l.next.length cn] 115)):=(Below.refl _ _).alloc (jC _) _;obtain⟨g,rfl,qm,hg,-,-⟩:=bo hl hlen 0 (by omega);have gM:w.ownsRow z 119 2 (.slice (some ⟨g,0,none⟩) l.places.length cp) l.places.length (bL l.places):=hl.places;have fZ:=ay gM aY;have pc:∀W:World,W.ownsRow z 119 2 (.slice (some ⟨g,0,none⟩) l.places.length cp) l.places.length (bL l.places)->W.cell? ⟨g,0,none⟩=some (.int .i64 ((l.places.getD 0 (0,0)).1:Nat))/\W.cell? ⟨g,1,none⟩=some (.int .i64 ((l.places.getD 0 (0,0)).2:Nat))/\W.cell? ⟨g,2,none⟩=some (.int .i64 ((l.places.getD 1 (0,0)).1:Nat))/\W.cell? ⟨g,3,none⟩=some (.int .i64 ((l.places.getD 1 (0,0)).2:Nat)):=fun W hW=>⟨(bC hW (j:=0) (by omega)).1,(bC hW (j:=0) (by omega)).2,(bC hW (j:=1) (by omega)).1,(bC hW (j:=1) (by omega)).2⟩
 have hx:∀j,j<2->(l.places.getD j (0,0)).1<nl:=fun j hj=>(hk.places (l.places.getD j (0,0)) (by rw[jA,jB (by omega)];exact jL _)).1
 have x0:=hx 0 (by omega);have x1:=hx 1 (by omega);have HA:=h.below aY;have Mq:Hid (_):=fZ;have HP:Hid (_):=gM;have PC:Hid (_):=pc;have hd:=pc _ fZ;rw[hlen]at aY HA hd;rw[hlen];clear hx hl hk pc gM fZ;have b2:(((l.op:Nat):Int)==2)=false:=by rw[ax];rfl
 have b3:(((l.op:Nat):Int)==3)=false:=by rw[ax];rfl
 have b4:(((l.op:Nat):Int)==4)=false:=by rw[ax];rfl
 have b5:(((l.op:Nat):Int)==5)=false:=by rw[ax];rfl
 have b7:(((l.op:Nat):Int)==7)=false:=by rw[ax];rfl
 have b8:(((l.op:Nat):Int)==8)=false:=by rw[ax];rfl
 have b10:(((l.op:Nat):Int)==10)=false:=by rw[ax];rfl
 have b11:(((l.op:Nat):Int)==11)=false:=by rw[ax];rfl
 have b12:(((l.op:Nat):Int)==12)=true:=by rw[ax];rfl
 have b14:(((l.op:Nat):Int)==14)=false:=by rw[ax];rfl
 have b13:(((l.op:Nat):Int)==13)=false:=by rw[ax];rfl
 have b15:(((l.op:Nat):Int)==15)=false:=by rw[ax];rfl
 generalize l.places.getD 0 (0,0)=p0 at*;generalize l.places.getD 1 (0,0)=p1 at*;clear ax;obtain⟨d0,d1,d2,d3⟩:=hd;have x0i:(p0.1:Int)<12:=by omega
 have zw:∀{vm2 vt2:Value} {W:World},aN x vm vt (w.alloc (.cells #[.int .i64 (l.num:Nat),.int .i64 (l.op:Nat),.slice (some ⟨g,0,none⟩) 2 cp,.int .i64 l.number,.int .i64 l.flag,.slice an l.next.length cn] 115)) vm2 vt2 W->W.ownsRow z 119 2 (.slice (some ⟨g,0,none⟩) l.places.length cp) l.places.length (bL l.places):=fun hr=>HA.df (by have:=Mq.out;rw[hlen]at this;rw[hlen];exact this) (.inr rfl) hr
 have x0q:p0.1<q.locals.length:=by omega
 have x1q:p1.1<q.locals.length:=by omega
 have XG:=cD (q:=q) (x:=p0) (n:=12) (by omega);have XH:=cD (q:=q) (x:=p1) (n:=12) (by omega);have hlq:(QP.ae q p0).length<=2:=by unfold QP.ae;split<;>simp
 have m3:=HA.prog;have Zf:=fun(W:World) (hW:dp w0 x a W o vi vm vt)=>ef q p0 v u a W (hq.below hW.br).aJ (hq.below hW.br).loc x0q
 have Zg:=fun(W:World) (hW:dp w0 x a W o vi vm vt)=>ef q p1 v u a W (hq.below hW.br).aJ (hq.below hW.br).loc x1q
 have KM:=fun(W:World) (hW:dp w0 x a W o vi vm vt) (z1 z2 g1 g2 c1 c2:Nat) (Gz:bP z1 W (.slice (some ⟨g1,0,none⟩) (QP.ae q p0).length c1) (QP.ae q p0)) (zk:bP z2 W (.slice (some ⟨g2,0,none⟩) (QP.ae q p1).length c2) (QP.ae q p1))=>Ic hW Gz zk XG XH (by omega) T7 kf hs (by omega) qw oM
 clear T7;clear hlen;go_enter Tryz.func65,Tryz.ntmps65
 go_wp2
 go_region_held3 (fun W=>W.cell? ⟨g,0,none⟩=some (.int .i64 (p0.1:Nat))/\W.cell? ⟨g,1,none⟩=some (.int .i64 (p0.2:Nat))/\W.cell? ⟨g,2,none⟩=some (.int .i64 (p1.1:Nat))/\W.cell? ⟨g,3,none⟩=some (.int .i64 (p1.2:Nat))/\W.cell? ⟨x,3,none⟩=some (.pointer (some ⟨a,0,none⟩))) (go_keep)
  (first
  |(go_at_call 107;have _:=tk0;go_fit (KM _ iN _ _ g1 g2 c1 c2 J9 zk);rintro e w3 ⟨rfl,vm3,vt3,h3,r3⟩;obtain⟨k0,k1,k2,k3⟩:=PC.out _ (zw (r2a.trans r3));have m4:=h3.prog)
  |(go_at_call 107;have _:=tk1;go_fit (KM _ iN _ _ g2 g1 c2 c1 zk J9);rintro e w3 ⟨rfl,vm3,vt3,h3,r3⟩;obtain⟨k0,k1,k2,k3⟩:=PC.out _ (zw (r2a.trans r3));have m4:=h3.prog)
  |(go_at_call 102;have _:=tk0;go_fit (Zg _ mo);rintro e w2 ⟨g2,c2,rfl,zk,h2⟩;have iN:=mo.below h2;have r2a:=r1a.trans (aN.of h2 (x:=x) (vm:=vm) (vt:=vt));obtain⟨f0,f1,f2,f3⟩:=PC.out _ (zw r2a);have m2:=iN.prog;have J9:=ay Gz h2)
  |(go_at_call 102;have _:=tk1;go_fit (Zf _ mo);rintro e w2 ⟨g2,c2,rfl,zk,h2⟩;have iN:=mo.below h2;have r2a:=r1a.trans (aN.of h2 (x:=x) (vm:=vm) (vt:=vt));obtain⟨f0,f1,f2,f3⟩:=PC.out _ (zw r2a);have m2:=iN.prog;have J9:=ay Gz h2)
  |(go_at_call 102;go_fit (Zf _ HA.drew);rintro e w1 ⟨g1,c1,rfl,Gz,h1⟩;have mo:=HA.drew.below h1;have r1a:aN x vm vt (w.alloc (.cells #[.int .i64 (l.num:Nat),.int .i64 (l.op:Nat),.slice (some ⟨g,0,none⟩) 2 cp,.int .i64 l.number,.int .i64 l.flag,.slice an l.next.length cn] 115)) vm vt w1:=(aN.of (jh _)).trans (aN.of h1);obtain⟨e0,e1,e2,e3⟩:=PC.out _ (zw r1a);have m1:=mo.prog;have tk0:True:=trivial)
  |(go_at_call 102;go_fit (Zg _ HA.drew);rintro e w1 ⟨g1,c1,rfl,Gz,h1⟩;have mo:=HA.drew.below h1;have r1a:aN x vm vt (w.alloc (.cells #[.int .i64 (l.num:Nat),.int .i64 (l.op:Nat),.slice (some ⟨g,0,none⟩) 2 cp,.int .i64 l.number,.int .i64 l.flag,.slice an l.next.length cn] 115)) vm vt w1:=(aN.of (jh _)).trans (aN.of h1);obtain⟨e0,e1,e2,e3⟩:=PC.out _ (zw r1a);have m1:=mo.prog;have tk1:True:=trivial))
 all_goals go_wp2_with fail
 all_goals
  go_end0
  exact⟨rfl,vm3,vt3,h3,((aN.of aY).trans r2a).trans r3⟩
set_option maxRecDepth 20000 in
set_option maxHeartbeats 4000000 in
theorem Uu (h:dp w0 x a w o vi vm vt){z nl nb:Nat}{l:ab}{ap an:Option Addr}{cp cn:Nat}(hl:bq z w l (.slice ap l.places.length cp) (.slice an l.next.length cn))(hk:tS nl nb l)(lh:nl<=12)(ax:l.op=14){t:Nat}(hs:o.yd.Sz t)(ht:t+100<=9000000)(qw:Pow w0)(oM:11<=w0.heap.size)(kf:o.Bx){q:QP}{v u:Value}(hq:PQ w0 a q v u)(hnq:nl=q.locals.length)(T7:(QP.ae q (l.places.getD 0 (0,0))).length=(QP.ae q (l.places.getD 1 (0,0))).length):
  Calls Tryz.prog 65 #[.pointer (some ⟨x,0,none⟩),.agg #[.int .i64 (l.num:Nat),.int .i64 (l.op:Nat),.slice ap l.places.length cp,.int .i64 l.number,.int .i64 l.flag,.slice an l.next.length cn]] w fun e w'=>e=.returned (.tuple #[])/\(∃vm' vt',dp w0 x a w' (o.move (QP.ae q (l.places.getD 0 (0,0))) (QP.ae q (l.places.getD 1 (0,0)))) vi vm' vt'/\aN x vm vt w vm' vt' w'):=by
 have hlen:l.places.length=2:=by rw[hk.cQ,ax];rfl
 have aY:Below w.heap.size w (w.alloc (.cells #[.int .i64 (l.num:Nat),.int .i64 (l.op:Nat),.slice ap l.places.length cp,.int .i64 l.number,.int .i64 l.flag,.slice an l.next.length cn] 115)):=(Below.refl _ _).alloc (jC _) _;obtain⟨g,rfl,qm,hg,-,-⟩:=bo hl hlen 0 (by omega);have gM:w.ownsRow z 119 2 (.slice (some ⟨g,0,none⟩) l.places.length cp) l.places.length (bL l.places):=hl.places;have fZ:=ay gM aY;have pc:∀W:World,W.ownsRow z 119 2 (.slice (some ⟨g,0,none⟩) l.places.length cp) l.places.length (bL l.places)->W.cell? ⟨g,0,none⟩=some (.int .i64 ((l.places.getD 0 (0,0)).1:Nat))/\W.cell? ⟨g,1,none⟩=some (.int .i64 ((l.places.getD 0 (0,0)).2:Nat))/\W.cell? ⟨g,2,none⟩=some (.int .i64 ((l.places.getD 1 (0,0)).1:Nat))/\W.cell? ⟨g,3,none⟩=some (.int .i64 ((l.places.getD 1 (0,0)).2:Nat)):=fun W hW=>⟨(bC hW (j:=0) (by omega)).1,(bC hW (j:=0) (by omega)).2,(bC hW (j:=1) (by omega)).1,(bC hW (j:=1) (by omega)).2⟩
 have hx:∀j,j<2->(l.places.getD j (0,0)).1<nl:=fun j hj=>(hk.places (l.places.getD j (0,0)) (by rw[jA,jB (by omega)];exact jL _)).1
 have x0:=hx 0 (by omega);have x1:=hx 1 (by omega);have HA:=h.below aY;have Mq:Hid (_):=fZ;have HP:Hid (_):=gM;have PC:Hid (_):=pc;have hd:=pc _ fZ;rw[hlen]at aY HA hd;rw[hlen];clear hx hl hk pc gM fZ;have b2:(((l.op:Nat):Int)==2)=false:=by rw[ax];rfl
 have b3:(((l.op:Nat):Int)==3)=false:=by rw[ax];rfl
 have b4:(((l.op:Nat):Int)==4)=false:=by rw[ax];rfl
 have b5:(((l.op:Nat):Int)==5)=false:=by rw[ax];rfl
 have b7:(((l.op:Nat):Int)==7)=false:=by rw[ax];rfl
 have b8:(((l.op:Nat):Int)==8)=false:=by rw[ax];rfl
 have b10:(((l.op:Nat):Int)==10)=false:=by rw[ax];rfl
 have b11:(((l.op:Nat):Int)==11)=false:=by rw[ax];rfl
 have b12:(((l.op:Nat):Int)==12)=false:=by rw[ax];rfl
 have b14:(((l.op:Nat):Int)==14)=true:=by rw[ax];rfl
 have b13:(((l.op:Nat):Int)==13)=false:=by rw[ax];rfl
 have b15:(((l.op:Nat):Int)==15)=false:=by rw[ax];rfl
 generalize l.places.getD 0 (0,0)=p0 at*;generalize l.places.getD 1 (0,0)=p1 at*;clear ax;obtain⟨d0,d1,d2,d3⟩:=hd;have x0i:(p0.1:Int)<12:=by omega
 have zw:∀{vm2 vt2:Value} {W:World},aN x vm vt (w.alloc (.cells #[.int .i64 (l.num:Nat),.int .i64 (l.op:Nat),.slice (some ⟨g,0,none⟩) 2 cp,.int .i64 l.number,.int .i64 l.flag,.slice an l.next.length cn] 115)) vm2 vt2 W->W.ownsRow z 119 2 (.slice (some ⟨g,0,none⟩) l.places.length cp) l.places.length (bL l.places):=fun hr=>HA.df (by have:=Mq.out;rw[hlen]at this;rw[hlen];exact this) (.inr rfl) hr
 have x0q:p0.1<q.locals.length:=by omega
 have x1q:p1.1<q.locals.length:=by omega
 have XG:=cD (q:=q) (x:=p0) (n:=12) (by omega);have XH:=cD (q:=q) (x:=p1) (n:=12) (by omega);have hlq:(QP.ae q p0).length<=2:=by unfold QP.ae;split<;>simp
 have m3:=HA.prog;have Zf:=fun(W:World) (hW:dp w0 x a W o vi vm vt)=>ef q p0 v u a W (hq.below hW.br).aJ (hq.below hW.br).loc x0q
 have Zg:=fun(W:World) (hW:dp w0 x a W o vi vm vt)=>ef q p1 v u a W (hq.below hW.br).aJ (hq.below hW.br).loc x1q
 have KM:=fun(W:World) (hW:dp w0 x a W o vi vm vt) (z1 z2 g1 g2 c1 c2:Nat) (Gz:bP z1 W (.slice (some ⟨g1,0,none⟩) (QP.ae q p0).length c1) (QP.ae q p0)) (zk:bP z2 W (.slice (some ⟨g2,0,none⟩) (QP.ae q p1).length c2) (QP.ae q p1))=>Ic hW Gz zk XG XH (by omega) T7 kf hs (by omega) qw oM
 clear T7;clear hlen;go_enter Tryz.func65,Tryz.ntmps65
 go_wp2
 go_region_held3 (fun W=>W.cell? ⟨g,0,none⟩=some (.int .i64 (p0.1:Nat))/\W.cell? ⟨g,1,none⟩=some (.int .i64 (p0.2:Nat))/\W.cell? ⟨g,2,none⟩=some (.int .i64 (p1.1:Nat))/\W.cell? ⟨g,3,none⟩=some (.int .i64 (p1.2:Nat))/\W.cell? ⟨x,3,none⟩=some (.pointer (some ⟨a,0,none⟩))) (go_keep)
  (first
  |(go_at_call 107;have _:=tk0;go_fit (KM _ iN _ _ g1 g2 c1 c2 J9 zk);rintro e w3 ⟨rfl,vm3,vt3,h3,r3⟩;obtain⟨k0,k1,k2,k3⟩:=PC.out _ (zw (r2a.trans r3));have m4:=h3.prog)
  |(go_at_call 107;have _:=tk1;go_fit (KM _ iN _ _ g2 g1 c2 c1 zk J9);rintro e w3 ⟨rfl,vm3,vt3,h3,r3⟩;obtain⟨k0,k1,k2,k3⟩:=PC.out _ (zw (r2a.trans r3));have m4:=h3.prog)
  |(go_at_call 102;have _:=tk0;go_fit (Zg _ mo);rintro e w2 ⟨g2,c2,rfl,zk,h2⟩;have iN:=mo.below h2;have r2a:=r1a.trans (aN.of h2 (x:=x) (vm:=vm) (vt:=vt));obtain⟨f0,f1,f2,f3⟩:=PC.out _ (zw r2a);have m2:=iN.prog;have J9:=ay Gz h2)
  |(go_at_call 102;have _:=tk1;go_fit (Zf _ mo);rintro e w2 ⟨g2,c2,rfl,zk,h2⟩;have iN:=mo.below h2;have r2a:=r1a.trans (aN.of h2 (x:=x) (vm:=vm) (vt:=vt));obtain⟨f0,f1,f2,f3⟩:=PC.out _ (zw r2a);have m2:=iN.prog;have J9:=ay Gz h2)
  |(go_at_call 102;go_fit (Zf _ HA.drew);rintro e w1 ⟨g1,c1,rfl,Gz,h1⟩;have mo:=HA.drew.below h1;have r1a:aN x vm vt (w.alloc (.cells #[.int .i64 (l.num:Nat),.int .i64 (l.op:Nat),.slice (some ⟨g,0,none⟩) 2 cp,.int .i64 l.number,.int .i64 l.flag,.slice an l.next.length cn] 115)) vm vt w1:=(aN.of (jh _)).trans (aN.of h1);obtain⟨e0,e1,e2,e3⟩:=PC.out _ (zw r1a);have m1:=mo.prog;have tk0:True:=trivial)
  |(go_at_call 102;go_fit (Zg _ HA.drew);rintro e w1 ⟨g1,c1,rfl,Gz,h1⟩;have mo:=HA.drew.below h1;have r1a:aN x vm vt (w.alloc (.cells #[.int .i64 (l.num:Nat),.int .i64 (l.op:Nat),.slice (some ⟨g,0,none⟩) 2 cp,.int .i64 l.number,.int .i64 l.flag,.slice an l.next.length cn] 115)) vm vt w1:=(aN.of (jh _)).trans (aN.of h1);obtain⟨e0,e1,e2,e3⟩:=PC.out _ (zw r1a);have m1:=mo.prog;have tk1:True:=trivial))
 all_goals go_wp2_with fail
 all_goals
  go_end0
  exact⟨rfl,vm3,vt3,h3,((aN.of aY).trans r2a).trans r3⟩
end
end Own
namespace Own
open Go Go.RowKit Sq Aux PrjJ PrjK PrjL PrjM PrjS PrjT FlwA FlwB FlwD FlwE
section
variable {x a:Nat} {w w0 w1:World} {vm vt vi vm1 vt1:Value} {o:Own}
set_option maxRecDepth 20000 in
set_option maxHeartbeats 1000000 in
theorem Ed (h:dp w0 x a w o vi vm vt){z nl nb:Nat}{l:ab}{ap an:Option Addr}{cp cn:Nat}(hl:bq z w l (.slice ap l.places.length cp) (.slice an l.next.length cn))(hk:tS nl nb l)(lh:nl<=12)
  (ax:l.op=3\/l.op=4\/l.op=5) (hr:∀n∈o.ints,aO n):
  Calls Tryz.prog 65 #[.pointer (some ⟨x,0,none⟩),.agg #[.int .i64 (l.num:Nat),.int .i64 (l.op:Nat),.slice ap l.places.length cp,.int .i64 l.number,.int .i64 l.flag,.slice an l.next.length cn]] w fun e w'=>
   e=.returned (.tuple #[])/\dp w0 x a w' (o.calc l) vi vm vt/\aN x vm vt w vm vt w':=by
 have aY:Below w.heap.size w (w.alloc (.cells #[.int .i64 (l.num:Nat),.int .i64 (l.op:Nat),.slice ap l.places.length cp,.int .i64 l.number,.int .i64 l.flag,.slice an l.next.length cn] 115)):=(Below.refl _ _).alloc (jC _) _;have KC:=sD (h.below aY) (hl.below aY) hk lh (by omega) (fun e=>by omega) hr;have hC:Hid (({o with ints:=o.ints.set (ab.pl l 0).1 (vf l.op (o.num (ab.pl l 1)) (o.num (ab.pl l 2)))}:Own)=o.calc l):=rfl;rw[hC.out]at KC;clear hl hk hC;rcases ax with e|e|e
 all_goals
  have b2:(((l.op:Nat):Int)==2)=false:=by rw[e];rfl
  have b3:(((l.op:Nat):Int)==3)=decide (l.op=3):=by rw[e];rfl
  have b4:(((l.op:Nat):Int)==4)=decide (l.op=4):=by rw[e];rfl
  have b5:(((l.op:Nat):Int)==5)=decide (l.op=5):=by rw[e];rfl
  simp only[e]at b3 b4 b5;simp only[Nat.reduceEqDiff,decide_true,decide_false]at b3 b4 b5;rw[<-e]at b3 b4 b5;clear e;go_enter Tryz.func65,Tryz.ntmps65
  go_wp2_with (go_at_call 59;go_fit KC;rintro e w2 ⟨rfl,h2,r2⟩)
  go_end0
  exact⟨rfl,h2,(aN.of aY).trans r2⟩
def ko (op:Nat):Prop:=op=2\/op=3\/op=4\/op=5\/op=7\/op=8\/op=10\/op=11\/op=12\/op=13\/op=14\/op=15
theorem W7 (h:dp w0 x a w o vi vm vt){z nb t:Nat}{q:QP}{v u:Value}{l:ab}{ap an:Option Addr}{cp cn:Nat}(hl:bq z w l (.slice ap l.places.length cp) (.slice an l.next.length cn))(hk:tS q.locals.length nb l)(lh:q.locals.length<=12)
  (ax:ko l.op) (lg:o.In t) (ht:t<=900000) (sK:o.bE l=true) (hq:PQ w0 a q v u) (T7:l.op=12\/l.op=14->(QP.ae q (ai l 0)).length=(QP.ae q (ai l 1)).length) (qw:Pow w0) (oM:11<=w0.heap.size):
  Calls Tryz.prog 65 #[.pointer (some ⟨x,0,none⟩),.agg #[.int .i64 (l.num:Nat),.int .i64 (l.op:Nat),.slice ap l.places.length cp,.int .i64 l.number,.int .i64 l.flag,.slice an l.next.length cn]] w fun e w'=>
   e=.returned (.tuple #[])/\∃vi' vm' vt',dp w0 x a w' (o.fz q l) vi' vm' vt'/\aN x vm vt w vm' vt' w':=by
 have hs:=lg.sz (by omega);have Om:t+100<=9000000:=by omega
 unfold ai at T7;rcases ax with e|e|e|e|e|e|e|e|e|e|e|e
 ·have hd:o.fz q l={o with ints:=o.ints.set (l.places.getD 0 (0,0)).1 l.number}:=by unfold Own.fz;rw[jb e];rfl
  rw[hd];exact(W9 h hl hk lh e).mono fun e w' ⟨h0,h1,h2⟩=>⟨h0,vi,vm,vt,h1,h2⟩
 ·have hd:o.fz q l=o.calc l:=by unfold Own.fz;rw[ja (by omega),jb (by omega)]
  rw[hd];exact(Ed h hl hk lh (by omega) lg.rk).mono fun e w' ⟨h0,h1,h2⟩=>⟨h0,vi,vm,vt,h1,h2⟩
 ·have hd:o.fz q l=o.calc l:=by unfold Own.fz;rw[ja (by omega),jb (by omega)]
  rw[hd];exact(Ed h hl hk lh (by omega) lg.rk).mono fun e w' ⟨h0,h1,h2⟩=>⟨h0,vi,vm,vt,h1,h2⟩
 ·have hd:o.fz q l=o.calc l:=by unfold Own.fz;rw[ja (by omega),jb (by omega)]
  rw[hd];exact(Ed h hl hk lh (by omega) lg.rk).mono fun e w' ⟨h0,h1,h2⟩=>⟨h0,vi,vm,vt,h1,h2⟩
 ·have hd:o.fz q l={o with al:=o.al.tail,ints:=o.ints.set (l.places.getD 0 (0,0)).1 (o.al.headD 0)}:=by unfold Own.fz;rw[ja (by omega),ja (by omega),jb e];rfl
  rw[hd];exact(Zk h hl hk lh e).mono fun e w' ⟨h0,⟨vi',h1⟩,h2⟩=>⟨h0,vi',vm,vt,h1,h2⟩
 ·have hd:o.fz q l={o with yd:=o.yd.note 111 (o.num (l.places.getD 0 (0,0)))}:=by unfold Own.fz;rw[ja (by omega),ja (by omega),ja (by omega),jb e];rfl
  rw[hd];exact(W8 h hl hk lh e hs Om qw oM lg.rk).mono fun e w' ⟨h0,vm',vt',h1,h2⟩=>⟨h0,vi,vm',vt',h1,h2⟩
 ·have hd:o.fz q l={o with yd:=o.yd.load (o.box (l.places.getD 1 (0,0))),ints:=o.ints.set (l.places.getD 0 (0,0)).1 (o.yd.at (o.box (l.places.getD 1 (0,0)))).1}:=by unfold Own.fz;rw[ja (by omega),ja (by omega),ja (by omega),ja (by omega),jb e];rfl
  have hn:1<=o.box (l.places.getD 1 (0,0)):=by unfold Own.bE at sK;rw[jb e]at sK;exact of_decide_eq_true sK
  rw[hd];exact(Ur h hl hk lh e hs Om qw oM lg.bx hn).mono fun e w' ⟨h0,vm',vt',h1,h2⟩=>⟨h0,vi,vm',vt',h1,h2⟩
 ·have hd:o.fz q l={o with yd:=o.yd.store (o.box (l.places.getD 0 (0,0))) (o.num (l.places.getD 1 (0,0)))}:=by unfold Own.fz;rw[ja (by omega),ja (by omega),ja (by omega),ja (by omega),ja (by omega),jb e];rfl
  have hn:1<=o.box (l.places.getD 0 (0,0)):=by unfold Own.bE at sK;rw[ja (by omega),jb e]at sK;exact of_decide_eq_true sK
  rw[hd];exact(QF h hl hk lh e hs Om qw oM lg.bx hn).mono fun e w' ⟨h0,vm',vt',h1,h2⟩=>⟨h0,vi,vm',vt',h1,h2⟩
 ·have hd:o.fz q l=o.move (QP.ae q (l.places.getD 0 (0,0))) (QP.ae q (l.places.getD 1 (0,0))):=by unfold Own.fz;rw[ja (by omega),ja (by omega),ja (by omega),ja (by omega),ja (by omega),ja (by omega),jb (by omega)];rfl
  rw[hd];exact(Us h hl hk lh e hs Om qw oM lg.bx hq rfl (T7 (.inl e))).mono fun e w' ⟨h0,vm',vt',h1,h2⟩=>⟨h0,vi,vm',vt',h1,h2⟩
 ·have hd:o.fz q l=o.drop (QP.ae q (l.places.getD 0 (0,0))):=by unfold Own.fz;rw[ja (by omega),ja (by omega),ja (by omega),ja (by omega),ja (by omega),ja (by omega),ja (by omega),jb (by omega)];rfl
  rw[hd];exact(Ut h hl hk lh e hs Om qw oM lg.bx hq rfl).mono fun e w' ⟨h0,vm',vt',h1,h2⟩=>⟨h0,vi,vm',vt',h1,h2⟩
 ·have hd:o.fz q l=o.move (QP.ae q (l.places.getD 0 (0,0))) (QP.ae q (l.places.getD 1 (0,0))):=by unfold Own.fz;rw[ja (by omega),ja (by omega),ja (by omega),ja (by omega),ja (by omega),ja (by omega),jb (by omega)];rfl
  rw[hd];exact(Uu h hl hk lh e hs Om qw oM lg.bx hq rfl (T7 (.inr e))).mono fun e w' ⟨h0,vm',vt',h1,h2⟩=>⟨h0,vi,vm',vt',h1,h2⟩
 ·have hd:o.fz q l=o.drop (QP.ae q (l.places.getD 0 (0,0))):=by unfold Own.fz;rw[ja (by omega),ja (by omega),ja (by omega),ja (by omega),ja (by omega),ja (by omega),ja (by omega),jb (by omega)];rfl
  rw[hd];exact(Uq h hl hk lh e hs Om qw oM lg.bx hq rfl).mono fun e w' ⟨h0,vm',vt',h1,h2⟩=>⟨h0,vi,vm',vt',h1,h2⟩
end
end Own
namespace Own
open Go Go.RowKit Go.Shelf Sq Aux PrjJ PrjK PrjL PrjM PrjR PrjS PrjT FlwA FlwB FlwD FlwE
attribute [local go_sem] Oper.semAt_some
theorem Gc (q:QP){N:Nat}:∀(ys:List (Fin N)) {o:Own} {t:Nat},o.In t->t+2*ys.length<=1000000->(yN q ys o).In (t+2*ys.length)
 |[],_,_,h,_=>h
 |y::ys,o,t,h,ht=>by
  have h2:=mq q (y.val,0);rw[jY]at ht;rw[jY,show t+2*(ys.length+1)=(t+2)+2*ys.length by omega];exact Gc q ys ((h.drop (QP.ae q (y.val,0)) (by omega)).mono (by omega)) (by omega)
theorem JX (q:QP){N:Nat}(ys:List (Fin N))(y:Fin N)(o:Own):yN q (ys++[y]) o=(yN q ys o).drop (QP.ae q (y.val,0)):=by simp[yN]
section
variable {x a:Nat} {w w0:World} {vm vt vi:Value} {o:Own}
set_option maxRecDepth 100000 in
set_option maxHeartbeats 4000000 in
theorem Gb (h:dp w0 x a w o vi vm vt){q:QP}{v u:Value}{t:Nat}(hq:PQ w0 a q v u)(zM:0<q.locals.length)(hl12:q.locals.length<=12)(lg:o.In t)(ht:t<=900000)(qw:Pow w0)(oM:11<=w0.heap.size):
  Calls Tryz.prog 64 #[.pointer (some ⟨x,0,none⟩)] w fun e w'=>e=.returned (.tuple #[])/\∃vm' vt',dp w0 x a w' (o.dN q q.locals.length) vi vm' vt'/\aN x vm vt w vm' vt' w':=by
 refine(callsIn_wide (n:=3)).1 ?_;obtain⟨g,cap,rfl,kM,hg,-⟩:=se hq.loc 0 zM;have YQ:∀j,j<q.locals.length->w0.cell? ⟨g,j*2,none⟩=some (.string (bs (q.locals.getD j ([],0)).1))/\w0.cell? ⟨g,j*2+1,none⟩=some (.int .i64 ((q.locals.getD j ([],0)).2:Nat)):=fun j hj=>by
  obtain⟨g',cap',e,-,-,c1,c2⟩:=se hq.loc j hj;simp only[Value.slice.injEq,Option.some.injEq,Addr.mk.injEq,and_true,true_and]at e;obtain⟨rfl,-⟩:=e;exact⟨c1,c2⟩
 have aw:Below w.heap.size w (w.alloc (.cells #[.pointer (some ⟨x,0,none⟩)] 170)):=(Below.refl _ _).alloc (jC _) _;have H1:=h.below aw;have m1:=H1.prog;have Q1:=hq.below H1.br;have m2:(w.alloc (.cells #[.pointer (some ⟨x,0,none⟩)] 170)).cell? ⟨a,0,none⟩=some (.slice (some ⟨g,0,none⟩) q.locals.length cap):=by rw[cell_of_heap Q1.aJ];rfl
 refine callsIn_of_wp_marks Tryz.func64 rfl trivial ?_ rfl;simp only[Tryz.ntmps64,List.size_toArray,List.length_cons,List.length_nil,Nat.reduceAdd,Nat.reduceSub,Array.replicate_succ,Array.replicate_zero,List.push_toArray,List.append_toArray,List.nil_append,List.cons_append]
 gi_wp2_with (refine⟨trivial,?_⟩;gi_at_call 101;refine(Uj _ _ trivial rfl _ _ _ _).mono ?_;rintro e w' ⟨rfl,rfl⟩)
 have bU:Below w.heap.size w ((w.alloc (.cells #[.pointer (some ⟨x,0,none⟩)] 170)).alloc (.cells #[.slice (some ⟨g,0,none⟩) q.locals.length cap] 107)):=aw.alloc aw.size _;have H2:=h.below bU;have lv:((w.alloc (.cells #[.pointer (some ⟨x,0,none⟩)] 170)).alloc (.cells #[.slice (some ⟨g,0,none⟩) q.locals.length cap] 107)).heap[w.heap.size]?=some (.cells #[.pointer (some ⟨x,0,none⟩)] 170 (0,0)):=by
  rw[Below.heap_alloc _ _ _ (by simp)];exact jD
 have mn:((w.alloc (.cells #[.pointer (some ⟨x,0,none⟩)] 170)).alloc (.cells #[.slice (some ⟨g,0,none⟩) q.locals.length cap] 107)).heap[w.heap.size+1]?=some (.cells #[.slice (some ⟨g,0,none⟩) q.locals.length cap] 107 (0,0)):=by
  have:=World.alloc_heap_new (w.alloc (.cells #[.pointer (some ⟨x,0,none⟩)] 170)) (.cells #[.slice (some ⟨g,0,none⟩) q.locals.length cap] 107)
  rwa [World.size_alloc]at this
 have oa:((w.alloc (.cells #[.pointer (some ⟨x,0,none⟩)] 170)).alloc (.cells #[.slice (some ⟨g,0,none⟩) q.locals.length cap] 107)).cell? ⟨w.heap.size+1,0,none⟩=some (.slice (some ⟨g,0,none⟩) q.locals.length cap):=by rw[cell_of_heap mn];rfl
 have Ca:((w.alloc (.cells #[.pointer (some ⟨x,0,none⟩)] 170)).alloc (.cells #[.slice (some ⟨g,0,none⟩) q.locals.length cap] 107)).heap.size=w.heap.size+2:=by simp
 have qT:=h.br.size;obtain⟨W1,tj⟩:∃W1,((w.alloc (.cells #[.pointer (some ⟨x,0,none⟩)] 170)).alloc (.cells #[.slice (some ⟨g,0,none⟩) q.locals.length cap] 107))=W1:=⟨_,rfl⟩;rw[tj]at bU H2 lv mn oa Ca⊢;refine wpIn_rangeFunc_ownF rfl (by decide) (gf:=157) (lb:= #[.pointer (some ⟨w.heap.size+1,0,none⟩)]) rfl trivial (enters_of Tryz.func157 (by kernel_rfl) rfl)
  (JH _ _ trivial rfl (by decide) (w.heap.size+1) w0.heap.size g cap q.locals (by omega) hg kM W1 (by omega) (by omega) oa (fun j hj=>⟨(H2.br.cell (p:=⟨g,j*2,none⟩) hg).trans (YQ j hj).1,(H2.br.cell (p:=⟨g,j*2+1,none⟩) hg).trans (YQ j hj).2⟩))
  (fun h1 h2=>⟨h1.1.trans h2.1,h2.2.trans h1.2⟩)
  (fun W l ob ob' hl hk hc _=>⟨belowK_b (w:=W1) (by omega) W l ob ob' hl hk hc (by assumption),by
   have ec:W1.heap.size<=l:=hl;simp only[World.cell?];rw[World.putObj_heap_other (by show w.heap.size+1≠l;omega)]⟩)
  (Below.refl _ _) (fun _=>rfl)
  (fun pre W=>∃vm' vt',dp w0 x a W (yN q pre o) vi vm' vt'/\aN x vm vt W1 vm' vt' W/\W.heap[w.heap.size]?=some (.cells #[.pointer (some ⟨x,0,none⟩)] 170 (0,0))/\W.heap[w.heap.size+1]?=some (.cells #[.slice (some ⟨g,0,none⟩) q.locals.length cap] 107 (0,0)))
  (fun _ _ _=>False)
  (fun pre W W' row hs T6 hr=>by
   obtain⟨vm',vt',i1,i2,i3,i4⟩:=hs;have Kq:∀r,row=some r->∃ob:Obj,W.heap[r]?=some ob/\ob.isCells=false:=fun r e=>(hr r e).2
   refine⟨vm',vt',i1.FK T6 (fun r e=>⟨by have:=(hr r e).1;omega,(hr r e).2⟩),i2.FK T6 (fun r e=>(hr r e).1),?_,?_⟩
   ·rw[T6.block _ (lt_of_heap i3) (vg i3 Kq)];exact i3
   ·rw[T6.block _ (lt_of_heap i4) (vg i4 Kq)];exact i4)
  (fun _ _ _ _ _ hs _ _=>hs)
  ⟨vm,vt,H2,aN.refl _ _ _ _,lv,mn⟩
  (fun y=>{tmps:= #[.pointer (some ⟨x,0,none⟩),.pointer (some ⟨w.heap.size,0,none⟩),.int .i64 (y.val:Int),.pointer (some ⟨x,0,none⟩),.pointer (some ⟨x,0,none⟩),.pointer (some ⟨x,3,none⟩),.pointer (some ⟨a,0,none⟩),.pointer (some ⟨a,0,none⟩),.pointer (some ⟨a,0,none⟩),.slice (some ⟨g,0,none⟩) q.locals.length cap,.func (.func 157) #[] #[.pointer (some ⟨w.heap.size+1,0,none⟩)],.int .i64 (y.val:Int),Yf q.locals y.val,undef,undef,undef,undef,undef,undef,undef,undef,undef],defers:=[]}) ?assign ?body ?done ?stop
 case assign=>
  intro l y W K hK;unfold Uw
  gi_wp2
  exact hK
 case body=>
  rintro l pre y W ⟨vm',vt',i1,i2,i3,i4⟩ gM;have hd:1<=3-1-1:=by omega
  have hmx:Tryz.prog.follows .mixedOrders=true:=by kernel_rfl
  have c1:W.cell? ⟨w.heap.size,0,none⟩=some (.pointer (some ⟨x,0,none⟩)):=by rw[cell_of_heap i3];rfl
  have c3:=i1.prog;have i1d:=i1.drew;have QW:=hq.below i1d.br;have hyl:y.val<q.locals.length:=y.isLt;have KH:Calls Tryz.prog 102 #[.pointer (some ⟨a,0,none⟩),.agg #[.int .i64 (y.val:Int),.int .i64 0]] W.drew _:=ef q (y.val,0) _ u a W.drew QW.aJ QW.loc hyl;have hdi:=Gc q pre lg (by omega);have hin2:=cD (q:=q) (x:=(y.val,0)) (n:=12) (by show y.val<12;omega);have T7:=mq q (y.val,0);have KD:=fun(V:World) (hV:dp w0 x a V (yN q pre o) vi vm' vt') (zz gg cc:Nat) (hP:bP zz V (.slice (some ⟨gg,0,none⟩) (QP.ae q (y.val,0)).length cc) (QP.ae q (y.val,0)))=>fY hV hP hin2 (by omega) hdi.bx (hdi.sz (by omega)) (by omega) qw oM
  have hds:=JX q pre y o
  gi_wp2
  gi_region_with_o (first
   |(refine⟨trivial,?_⟩;gi_at_call 102;refine(CallsIn.inRound l (callsIn_wide.2 KH)).mono ?_;rintro e w2 ⟨g2,c2,rfl,zk,h2⟩;have iN:=i1d.below h2;have d1:w2.cell? ⟨w.heap.size,0,none⟩=some (.pointer (some ⟨x,0,none⟩)):=(h2.cell (p:=⟨w.heap.size,0,none⟩) (lt_of_heap i3)).trans c1)
   |(refine⟨trivial,?_⟩;gi_at_call 60;refine(CallsIn.inRound l (callsIn_wide.2 (KD _ iN _ g2 c2 zk))).mono ?_;rintro e w3 ⟨rfl,vm3,vt3,h3,r3⟩))
  all_goals gi_wp2
  all_goals
   have r:aN x vm' vt' W vm3 vt3 w3:=((aN.of (jh W)).trans (aN.of h2)).trans r3;have j3:=i1.SQ r i3 (by decide) (by decide) (by decide);have j4:=i1.SQ r i4 (by decide) (by decide) (by decide);exact⟨r.keeps i1,⟨r.below i1.kb (jC _) i1.br.size,by rw[cell_of_heap j4,cell_of_heap i4]⟩,vm3,vt3,by rw[hds];exact h3,i2.trans r,j3,j4⟩
 case done=>
  rintro D ys W hD rfl ⟨vm',vt',i1,i2,i3,i4⟩ hK;have xS:=C4 q (N:=q.locals.length) o q.locals.length (jC _);rw[Nat.sub_self,Own.dN]at xS;rw[xS]at i1
  gi_wp2
  refine⟨by simp,.inl ⟨_,_,rfl,run_takeDeferred hK,?_⟩⟩;have hab:∀r,some D=some r->W1.heap.size<=r/\∃ob:Obj,W.heap[r]?=some ob/\ob.isCells=false:=fun r e=>by cases e;exact⟨hD,_,hK,rfl⟩
  exact⟨_,results_none rfl _ _ _,rfl,vm',vt',i1.FK (grownBy_putObj' W D _) (fun r e=>⟨by have:=(hab r e).1;omega,(hab r e).2⟩),((aN.of bU).trans i2).FK (grownBy_putObj' W D _) (fun r e=>by have:=(hab r e).1;omega)⟩
 case stop=>
  rintro D c pre W _ _ hx _;exact hx.elim
end
end Own
namespace Aux
open Go
def goTo (P:Program)(c:Code)(Q:Exit->Act->World->Prop):Exit->Act->World->Prop
 | .goto l,a,w=>∃r,findLabel c l=some r/\r.wp P (Exit.noGoto Q) a w
 |e,a,w=>Q e a w
section
variable {P:Program} {a:Act} {w:World} {Q:Exit->Act->World->Prop} {c:Code}
theorem Jj (h:c.wp P (goTo P c Q) a w):(Code.scope c).wp P Q a w:=by
 intro b k cs;obtain⟨e,a₁,w₁,hq,zl⟩:=h b (.inScope c::k) cs;cases e with
 |normal=>exact⟨.normal,a₁,w₁,hq,.head step_scope (Steps.trans zl (.one step_inScope))⟩
 |exit id=>exact⟨.exit id,a₁,w₁,hq,fun k' hk=> .head step_scope (zl k' (by simp[exitTo,hk]))⟩
 |goto l=>
  obtain⟨r,hf,hr⟩:=hq;have hg:gotoIn l (.inScope c::k)=some (.code r:: .inScope c::k):=by simp[gotoIn,hf]
  obtain⟨e₂,a₂,w₂,hq₂,zl₂⟩:=hr b (.inScope c::k) cs;have h1:=zl _ hg;cases e₂ with
  |normal=>exact⟨.normal,a₂,w₂,hq₂,.head step_scope (Steps.trans h1 (Steps.trans zl₂ (.one step_inScope)))⟩
  |exit id=>exact⟨.exit id,a₂,w₂,hq₂,fun k' hk=> .head step_scope (Steps.trans h1 (zl₂ k' (by simp[exitTo,hk])))⟩
  |goto l'=>exact hq₂.elim
  |ret=>exact⟨_,a₂,w₂,hq₂,.of_steps (.head step_scope h1) zl₂⟩
  |panic ch=>exact⟨_,a₂,w₂,hq₂,.of_steps (.head step_scope h1) zl₂⟩
  |outgrown=>exact⟨_,a₂,w₂,hq₂,.of_steps (.head step_scope h1) zl₂⟩
 |ret=>exact⟨_,a₁,w₁,hq,.of_steps (.one step_scope) zl⟩
 |panic ch=>exact⟨_,a₁,w₁,hq,.of_steps (.one step_scope) zl⟩
 |outgrown=>exact⟨_,a₁,w₁,hq,.of_steps (.one step_scope) zl⟩
def xZ (J:Nat->Act->World->Prop)(Q:Exit->Act->World->Prop):Exit->Act->World->Prop
 | .goto l,a,w=>J l a w
 |e,a,w=>Q e a w
theorem Cv {J:Nat->Act->World->Prop}:xZ J Q .normal a w=Q .normal a w:=rfl
theorem Hc {J:Nat->Act->World->Prop}(id:Nat):xZ J Q (.exit id) a w=Q (.exit id) a w:=rfl
theorem Ld {J:Nat->Act->World->Prop}:xZ J Q .ret a w=Q .ret a w:=rfl
theorem EE {J:Nat->Act->World->Prop}(ch:List PanicEntry):xZ J Q (.panic ch) a w=Q (.panic ch) a w:=rfl
theorem Hd {J:Nat->Act->World->Prop}(l:Nat):xZ J Q (.goto l) a w=J l a w:=rfl
theorem Jk (h:∀J:Nat->Act->World->Prop,(∀l r a w,findLabel c l=some r->r.wp P (Exit.noGoto Q) a w->J l a w)->c.wp P (xZ J Q) a w):(Code.scope c).wp P Q a w:=by
 refine Jj ?_;have:=h (fun l a w=>∃r,findLabel c l=some r/\r.wp P (Exit.noGoto Q) a w) (fun l r a w h1 h2=>⟨r,h1,h2⟩);refine Code.wp_mono (fun e a w he=> ?_) this;cases e<;>exact he
end
end Aux
namespace Own
open Go Go.RowKit Sq Aux PrjJ PrjK PrjL PrjM FlwA FlwB
def bM (u v:Value):List Value:=[.slice none 0 0,.int .i64 0,.slice none 0 0,u,v]++List.replicate 36 (.int .i64 0)
def Wz (v:Value):Prop:=∃p,v=.pointer p
def isSl (v:Value):Prop:=∃ad l c,v=.slice ad l c
@[simp] theorem Y3 (p : Option Addr) : Wz (.pointer p) = True := eq_true ⟨p, rfl⟩
@[simp] theorem isSl_sl (ad : Option Addr) (l c : Nat) : isSl (.slice ad l c) = True := eq_true ⟨ad, l, c, rfl⟩
theorem CD (p ad:Option Addr)(l c:Nat)(w:World):(Instr.build 104 #[(1,.pointer p),(2,.slice ad l c)]).run Tryz.prog w=.ok (.agg (bM (.pointer p) (.slice ad l c)).toArray) w:=by
 kernel_rfl
theorem CC (w:World):(Instr.alloc 104 true (.tuple #[])).run Tryz.prog w=.ok (.pointer (some ⟨w.heap.size,0,none⟩)) (w.alloc (.cells (bM (.pointer none) (.slice none 0 0)).toArray 104)):=by
 kernel_rfl
theorem vV (u v:Value):(bM u v).length=41:=rfl
theorem Kx:(Tryz.prog.info? 104).map (·.size)=some 41:=by kernel_rfl
def Wy (v:Value):Prop:=∃p ad l c,v=.agg (bM (.pointer p) (.slice ad l c)).toArray
@[simp] theorem Y2 (p ad : Option Addr) (l c : Nat) : Wy (.agg (bM (.pointer p) (.slice ad l c)).toArray) = True := eq_true ⟨p, ad, l, c, rfl⟩
def JE:Value->List Value
 | .agg xs=>xs.toList
 |_=>[]
@[simp] theorem Zh (u v : Value) : JE (.agg (bM u v).toArray) = bM u v := rfl
def Mv (w:World)(v:Value):Prop:=∃b,v=.pointer (some ⟨b,0,none⟩)/\w.there b 0 41
def MB:Value->Nat
 | .pointer (some ad)=>ad.block
 |_=>0
@[simp] theorem YD (ad : Addr) : MB (.pointer (some ad)) = ad.block := rfl
theorem VF (p ad:Option Addr)(l c:Nat):∀u∈bM (.pointer p) (.slice ad l c),u.oneCell'=true:=by
 intro u hu;simp only[bM,List.cons_append,List.nil_append,List.mem_cons,List.mem_replicate]at hu;rcases hu with rfl|rfl|rfl|rfl|rfl|⟨-,rfl⟩<;>rfl
section
variable (d:Option Tmp) (x y:Operand) (t:TypeId) (ps:String) (af:Array Edge) (g:Option (Nat×Bool)) (a:Act) (w:World) (K:Act->World->Prop) (Q:Exit->Act->World->Prop)
theorem Fq (h:Wz (a.eval x))(h':isSl (a.eval y)):Oper.wp Tryz.prog {dst:=d,op:=Op.build 104 #[(1,x),(2,y)],type:=t,pos:=ps,after:=af,guard:=g} a w K Q=K (a.put d (.agg (bM (a.eval x) (a.eval y)).toArray)) w:=by
 obtain⟨p,hp⟩:=h;obtain⟨ad,l,c,hs⟩:=h';have:=CD p ad l c w;unfold Oper.wp execOp;simp only[List.map_toArray,List.map_cons,List.map_nil,hp,hs,Sem.run_bind,Sem.run_pure,Result.andThen_ok,this];rfl
theorem Fp:Oper.wp Tryz.prog {dst:=d,op:=Op.alloc 104,type:=t,pos:=ps,after:=af,guard:=g} a w K Q=K (a.put d (.pointer (some ⟨w.heap.size,0,none⟩))) (w.alloc (.cells (bM (.pointer none) (.slice none 0 0)).toArray 104)):=by
 have:=CC w;unfold Oper.wp execOp;simp only[Sem.run_bind,Sem.run_pure,Result.andThen_ok,this];rfl
theorem Fu (h:Mv w (a.eval x))(h':Wy (a.eval y)):Oper.wp Tryz.prog {dst:=d,op:=Op.store 104 x y,type:=t,pos:=ps,after:=af,guard:=g} a w K Q=K (a.put d undef) (w.setCells (MB (a.eval x)) 0 (JE (a.eval y))):=by
 obtain⟨b,hb,hh⟩:=h;obtain⟨p,ad,l,c,hy⟩:=h';have:=run_storeAt_mid (P:=Tryz.prog) w b 0 104 (bM (.pointer p) (.slice ad l c)).toArray hh Kx (all_oneCell_toArray (VF p ad l c));unfold Oper.wp execOp;simp only[hb,hy,Sem.run_bind,Sem.run_pure,Result.andThen_ok,this];rfl
theorem IQ (w:World)(u v:Value):Mv (w.alloc (.cells (bM u v).toArray 104)) (.pointer (some ⟨w.heap.size,0,none⟩)):=by
 refine⟨_,rfl,fun j hj=> ?_⟩;have h:(w.alloc (.cells (bM u v).toArray 104)).heap[w.heap.size]?=some (.cells (bM u v).toArray 104 (0,0)):=jD;refine⟨?_,frozen_of_heap h _⟩;rw[cell_of_heap h,Nat.zero_add];simp only[List.getElem?_toArray];rw[jB (by rw[vV];exact hj)];rfl
end
theorem ET (w:World)(u v u' v':Value):((w.alloc (.cells (bM u v).toArray 104)).setCells w.heap.size 0 (bM u' v')).heap[w.heap.size]?=some (.cells (bM u' v').toArray 104 (0,0))/\Below w.heap.size w ((w.alloc (.cells (bM u v).toArray 104)).setCells w.heap.size 0 (bM u' v')):=by
 have h:(w.alloc (.cells (bM u v).toArray 104)).heap[w.heap.size]?=some (.cells (bM u v).toArray 104 (0,0)):=jD;refine⟨?_,az ((Below.refl _ _).alloc (jC _) _) (jC _) _ _⟩;obtain⟨cs',h1,h2,h3⟩:=eL w.heap.size (bM u' v') 0 _ _ _ _ h;have e:cs'=(bM u' v').toArray:=by
  apply Array.ext_getElem?
  intro j;rw[h3];by_cases hj:j<41
  ·rw[jb (by simp[vV];exact hj)];simp
  ·rw[ja (by simp[vV];omega),Array.getElem?_eq_none (by simp[vV];omega),Array.getElem?_eq_none (by simp[vV];omega)]
 rw[h1,e]
end Own
end Go.Proofs.YtmlgajhhnojdjaaGreatDoor

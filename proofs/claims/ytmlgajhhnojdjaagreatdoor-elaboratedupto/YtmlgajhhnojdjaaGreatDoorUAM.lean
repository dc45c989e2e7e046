import Derived.Test.YtmlgajhhnojdjaaGreatDoorUAL
set_option maxHeartbeats 8000000
namespace Go.Proofs.YtmlgajhhnojdjaaGreatDoor
namespace Own
open Go Go.RowKit Sq Aux PrjJ PrjK PrjL PrjM PrjS PrjT FlwA FlwB FlwD FlwE
section
variable {x a:Nat} {w w0 w1:World} {vm vt vi vm1 vt1:Value} {o:Own}
set_option maxRecDepth 20000 in
theorem CZ (h:dq w0 x a w o vi vm vt){z nl nb:Nat}{l:ab}{ap an:Option Addr}{cp cn:Nat}(hl:aC z w l (.slice ap l.places.length cp) (.slice an l.next.length cn))(hk:fY nl nb l)(iP:nl<=12)(ak:l.op=12){t:Nat}(hs:o.yd.Sz t)(ht:t+100<=9000000)(iD:Pow w0)(iG:11<=w0.heap.size)(eT:o.Bx){q:QP}{v u:Value}(hq:PQ w0 a q v u)(hnq:nl=q.locals.length)(G5:(QP.ai q (l.places.getD 0 (0,0))).length=(QP.ai q (l.places.getD 1 (0,0))).length):
  Calls Tryz.prog 65 #[.pointer (some ⟨x,0,none⟩),.agg #[.int .i64 (l.num:Nat),.int .i64 (l.op:Nat),.slice ap l.places.length cp,.int .i64 l.number,.int .i64 l.flag,.slice an l.next.length cn]] w fun e w'=>e=.returned (.tuple #[])/\(∃vm' vt',dq w0 x a w' (o.move (QP.ai q (l.places.getD 0 (0,0))) (QP.ai q (l.places.getD 1 (0,0)))) vi vm' vt'/\aA x vm vt w vm' vt' w'):=by
 have hlen:l.places.length=2:=by rw[hk.bt,ak];rfl
 have aF:Below w.heap.size w (w.alloc (.cells #[.int .i64 (l.num:Nat),.int .i64 (l.op:Nat),.slice ap l.places.length cp,.int .i64 l.number,.int .i64 l.flag,.slice an l.next.length cn] 115)):=(Below.refl _ _).alloc (jC _) _;obtain⟨g,rfl,gP,hg,-,-⟩:=ax hl hlen 0 (by omega);have ee:w.ownsRow z 119 2 (.slice (some ⟨g,0,none⟩) l.places.length cp) l.places.length (bf l.places):=hl.places;have fP:=aw ee aF;have pc:∀W:World,W.ownsRow z 119 2 (.slice (some ⟨g,0,none⟩) l.places.length cp) l.places.length (bf l.places)->W.cell? ⟨g,0,none⟩=some (.int .i64 ((l.places.getD 0 (0,0)).1:Nat))/\W.cell? ⟨g,1,none⟩=some (.int .i64 ((l.places.getD 0 (0,0)).2:Nat))/\W.cell? ⟨g,2,none⟩=some (.int .i64 ((l.places.getD 1 (0,0)).1:Nat))/\W.cell? ⟨g,3,none⟩=some (.int .i64 ((l.places.getD 1 (0,0)).2:Nat)):=fun W hW=>⟨(aV hW (j:=0) (by omega)).1,(aV hW (j:=0) (by omega)).2,(aV hW (j:=1) (by omega)).1,(aV hW (j:=1) (by omega)).2⟩
 have hx:∀j,j<2->(l.places.getD j (0,0)).1<nl:=fun j hj=>(hk.places (l.places.getD j (0,0)) (by rw[jA,jB (by omega)];exact jL _)).1
 have x0:=hx 0 (by omega);have x1:=hx 1 (by omega);have HA:=h.below aF;have JK:Hid (_):=fP;have HP:Hid (_):=ee;have PC:Hid (_):=pc;have hd:=pc _ fP;rw[hlen]at aF HA hd;rw[hlen];clear hx hl hk pc ee fP;have b2:(((l.op:Nat):Int)==2)=false:=by rw[ak];rfl
 have b3:(((l.op:Nat):Int)==3)=false:=by rw[ak];rfl
 have b4:(((l.op:Nat):Int)==4)=false:=by rw[ak];rfl
 have b5:(((l.op:Nat):Int)==5)=false:=by rw[ak];rfl
 have b7:(((l.op:Nat):Int)==7)=false:=by rw[ak];rfl
 have b8:(((l.op:Nat):Int)==8)=false:=by rw[ak];rfl
 have b10:(((l.op:Nat):Int)==10)=false:=by rw[ak];rfl
 have b11:(((l.op:Nat):Int)==11)=false:=by rw[ak];rfl
 have b12:(((l.op:Nat):Int)==12)=true:=by rw[ak];rfl
 have b14:(((l.op:Nat):Int)==14)=false:=by rw[ak];rfl
 have b13:(((l.op:Nat):Int)==13)=false:=by rw[ak];rfl
 have b15:(((l.op:Nat):Int)==15)=false:=by rw[ak];rfl
 generalize l.places.getD 0 (0,0)=p0 at*;generalize l.places.getD 1 (0,0)=p1 at*;clear ak;obtain⟨d0,d1,d2,d3⟩:=hd;have x0i:(p0.1:Int)<12:=by omega
 have x9:∀{vm2 vt2:Value} {W:World},aA x vm vt (w.alloc (.cells #[.int .i64 (l.num:Nat),.int .i64 (l.op:Nat),.slice (some ⟨g,0,none⟩) 2 cp,.int .i64 l.number,.int .i64 l.flag,.slice an l.next.length cn] 115)) vm2 vt2 W->W.ownsRow z 119 2 (.slice (some ⟨g,0,none⟩) l.places.length cp) l.places.length (bf l.places):=fun hr=>HA.cj (by have:=JK.out;rw[hlen]at this;rw[hlen];exact this) (.inr rfl) hr
 have x0q:p0.1<q.locals.length:=by omega
 have x1q:p1.1<q.locals.length:=by omega
 have Uv:=cP (q:=q) (x:=p0) (n:=12) (by omega);have Uw:=cP (q:=q) (x:=p1) (n:=12) (by omega);have hlq:(QP.ai q p0).length<=2:=by unfold QP.ai;split<;>simp
 have m3:=HA.prog;have V6:=fun(W:World) (hW:dq w0 x a W o vi vm vt)=>c8 q p0 v u a W (hq.below hW.aZ).aM (hq.below hW.aZ).loc x0q
 have TO:=fun(W:World) (hW:dq w0 x a W o vi vm vt)=>c8 q p1 v u a W (hq.below hW.aZ).aM (hq.below hW.aZ).loc x1q
 have KM:=fun(W:World) (hW:dq w0 x a W o vi vm vt) (z1 z2 g1 g2 c1 c2:Nat) (AY:aI z1 W (.slice (some ⟨g1,0,none⟩) (QP.ai q p0).length c1) (QP.ai q p0)) (me:aI z2 W (.slice (some ⟨g2,0,none⟩) (QP.ai q p1).length c2) (QP.ai q p1))=>sQ hW AY me Uv Uw (by omega) G5 eT hs (by omega) iD iG
 clear G5;clear hlen;go_enter Tryz.func65,Tryz.ntmps65
 go_wp2
 go_region_held3 (fun W=>W.cell? ⟨g,0,none⟩=some (.int .i64 (p0.1:Nat))/\W.cell? ⟨g,1,none⟩=some (.int .i64 (p0.2:Nat))/\W.cell? ⟨g,2,none⟩=some (.int .i64 (p1.1:Nat))/\W.cell? ⟨g,3,none⟩=some (.int .i64 (p1.2:Nat))/\W.cell? ⟨x,3,none⟩=some (.pointer (some ⟨a,0,none⟩))) (go_keep)
  (first
  |(go_at_call 107;have _:=tk0;go_fit (KM _ gF _ _ g1 g2 c1 c2 AZ me);rintro e w3 ⟨rfl,vm3,vt3,h3,r3⟩;obtain⟨k0,k1,k2,k3⟩:=PC.out _ (x9 (r2a.trans r3));have m4:=h3.prog)
  |(go_at_call 107;have _:=tk1;go_fit (KM _ gF _ _ g2 g1 c2 c1 me AZ);rintro e w3 ⟨rfl,vm3,vt3,h3,r3⟩;obtain⟨k0,k1,k2,k3⟩:=PC.out _ (x9 (r2a.trans r3));have m4:=h3.prog)
  |(go_at_call 102;have _:=tk0;go_fit (TO _ eJ);rintro e w2 ⟨g2,c2,rfl,me,h2⟩;have gF:=eJ.below h2;have r2a:=r1a.trans (aA.of h2 (x:=x) (vm:=vm) (vt:=vt));obtain⟨f0,f1,f2,f3⟩:=PC.out _ (x9 r2a);have m2:=gF.prog;have AZ:=aw AY h2)
  |(go_at_call 102;have _:=tk1;go_fit (V6 _ eJ);rintro e w2 ⟨g2,c2,rfl,me,h2⟩;have gF:=eJ.below h2;have r2a:=r1a.trans (aA.of h2 (x:=x) (vm:=vm) (vt:=vt));obtain⟨f0,f1,f2,f3⟩:=PC.out _ (x9 r2a);have m2:=gF.prog;have AZ:=aw AY h2)
  |(go_at_call 102;go_fit (V6 _ HA.drew);rintro e w1 ⟨g1,c1,rfl,AY,h1⟩;have eJ:=HA.drew.below h1;have r1a:aA x vm vt (w.alloc (.cells #[.int .i64 (l.num:Nat),.int .i64 (l.op:Nat),.slice (some ⟨g,0,none⟩) 2 cp,.int .i64 l.number,.int .i64 l.flag,.slice an l.next.length cn] 115)) vm vt w1:=(aA.of (ic _)).trans (aA.of h1);obtain⟨e0,e1,e2,e3⟩:=PC.out _ (x9 r1a);have m1:=eJ.prog;have tk0:True:=trivial)
  |(go_at_call 102;go_fit (TO _ HA.drew);rintro e w1 ⟨g1,c1,rfl,AY,h1⟩;have eJ:=HA.drew.below h1;have r1a:aA x vm vt (w.alloc (.cells #[.int .i64 (l.num:Nat),.int .i64 (l.op:Nat),.slice (some ⟨g,0,none⟩) 2 cp,.int .i64 l.number,.int .i64 l.flag,.slice an l.next.length cn] 115)) vm vt w1:=(aA.of (ic _)).trans (aA.of h1);obtain⟨e0,e1,e2,e3⟩:=PC.out _ (x9 r1a);have m1:=eJ.prog;have tk1:True:=trivial))
 all_goals go_wp2_with fail
 all_goals
  go_end0
  exact⟨rfl,vm3,vt3,h3,((aA.of aF).trans r2a).trans r3⟩
set_option maxRecDepth 20000 in
theorem C1 (h:dq w0 x a w o vi vm vt){z nl nb:Nat}{l:ab}{ap an:Option Addr}{cp cn:Nat}(hl:aC z w l (.slice ap l.places.length cp) (.slice an l.next.length cn))(hk:fY nl nb l)(iP:nl<=12)(ak:l.op=14){t:Nat}(hs:o.yd.Sz t)(ht:t+100<=9000000)(iD:Pow w0)(iG:11<=w0.heap.size)(eT:o.Bx){q:QP}{v u:Value}(hq:PQ w0 a q v u)(hnq:nl=q.locals.length)(G5:(QP.ai q (l.places.getD 0 (0,0))).length=(QP.ai q (l.places.getD 1 (0,0))).length):
  Calls Tryz.prog 65 #[.pointer (some ⟨x,0,none⟩),.agg #[.int .i64 (l.num:Nat),.int .i64 (l.op:Nat),.slice ap l.places.length cp,.int .i64 l.number,.int .i64 l.flag,.slice an l.next.length cn]] w fun e w'=>e=.returned (.tuple #[])/\(∃vm' vt',dq w0 x a w' (o.move (QP.ai q (l.places.getD 0 (0,0))) (QP.ai q (l.places.getD 1 (0,0)))) vi vm' vt'/\aA x vm vt w vm' vt' w'):=by
 have hlen:l.places.length=2:=by rw[hk.bt,ak];rfl
 have aF:Below w.heap.size w (w.alloc (.cells #[.int .i64 (l.num:Nat),.int .i64 (l.op:Nat),.slice ap l.places.length cp,.int .i64 l.number,.int .i64 l.flag,.slice an l.next.length cn] 115)):=(Below.refl _ _).alloc (jC _) _;obtain⟨g,rfl,gP,hg,-,-⟩:=ax hl hlen 0 (by omega);have ee:w.ownsRow z 119 2 (.slice (some ⟨g,0,none⟩) l.places.length cp) l.places.length (bf l.places):=hl.places;have fP:=aw ee aF;have pc:∀W:World,W.ownsRow z 119 2 (.slice (some ⟨g,0,none⟩) l.places.length cp) l.places.length (bf l.places)->W.cell? ⟨g,0,none⟩=some (.int .i64 ((l.places.getD 0 (0,0)).1:Nat))/\W.cell? ⟨g,1,none⟩=some (.int .i64 ((l.places.getD 0 (0,0)).2:Nat))/\W.cell? ⟨g,2,none⟩=some (.int .i64 ((l.places.getD 1 (0,0)).1:Nat))/\W.cell? ⟨g,3,none⟩=some (.int .i64 ((l.places.getD 1 (0,0)).2:Nat)):=fun W hW=>⟨(aV hW (j:=0) (by omega)).1,(aV hW (j:=0) (by omega)).2,(aV hW (j:=1) (by omega)).1,(aV hW (j:=1) (by omega)).2⟩
 have hx:∀j,j<2->(l.places.getD j (0,0)).1<nl:=fun j hj=>(hk.places (l.places.getD j (0,0)) (by rw[jA,jB (by omega)];exact jL _)).1
 have x0:=hx 0 (by omega);have x1:=hx 1 (by omega);have HA:=h.below aF;have JK:Hid (_):=fP;have HP:Hid (_):=ee;have PC:Hid (_):=pc;have hd:=pc _ fP;rw[hlen]at aF HA hd;rw[hlen];clear hx hl hk pc ee fP;have b2:(((l.op:Nat):Int)==2)=false:=by rw[ak];rfl
 have b3:(((l.op:Nat):Int)==3)=false:=by rw[ak];rfl
 have b4:(((l.op:Nat):Int)==4)=false:=by rw[ak];rfl
 have b5:(((l.op:Nat):Int)==5)=false:=by rw[ak];rfl
 have b7:(((l.op:Nat):Int)==7)=false:=by rw[ak];rfl
 have b8:(((l.op:Nat):Int)==8)=false:=by rw[ak];rfl
 have b10:(((l.op:Nat):Int)==10)=false:=by rw[ak];rfl
 have b11:(((l.op:Nat):Int)==11)=false:=by rw[ak];rfl
 have b12:(((l.op:Nat):Int)==12)=false:=by rw[ak];rfl
 have b14:(((l.op:Nat):Int)==14)=true:=by rw[ak];rfl
 have b13:(((l.op:Nat):Int)==13)=false:=by rw[ak];rfl
 have b15:(((l.op:Nat):Int)==15)=false:=by rw[ak];rfl
 generalize l.places.getD 0 (0,0)=p0 at*;generalize l.places.getD 1 (0,0)=p1 at*;clear ak;obtain⟨d0,d1,d2,d3⟩:=hd;have x0i:(p0.1:Int)<12:=by omega
 have x9:∀{vm2 vt2:Value} {W:World},aA x vm vt (w.alloc (.cells #[.int .i64 (l.num:Nat),.int .i64 (l.op:Nat),.slice (some ⟨g,0,none⟩) 2 cp,.int .i64 l.number,.int .i64 l.flag,.slice an l.next.length cn] 115)) vm2 vt2 W->W.ownsRow z 119 2 (.slice (some ⟨g,0,none⟩) l.places.length cp) l.places.length (bf l.places):=fun hr=>HA.cj (by have:=JK.out;rw[hlen]at this;rw[hlen];exact this) (.inr rfl) hr
 have x0q:p0.1<q.locals.length:=by omega
 have x1q:p1.1<q.locals.length:=by omega
 have Uv:=cP (q:=q) (x:=p0) (n:=12) (by omega);have Uw:=cP (q:=q) (x:=p1) (n:=12) (by omega);have hlq:(QP.ai q p0).length<=2:=by unfold QP.ai;split<;>simp
 have m3:=HA.prog;have V6:=fun(W:World) (hW:dq w0 x a W o vi vm vt)=>c8 q p0 v u a W (hq.below hW.aZ).aM (hq.below hW.aZ).loc x0q
 have TO:=fun(W:World) (hW:dq w0 x a W o vi vm vt)=>c8 q p1 v u a W (hq.below hW.aZ).aM (hq.below hW.aZ).loc x1q
 have KM:=fun(W:World) (hW:dq w0 x a W o vi vm vt) (z1 z2 g1 g2 c1 c2:Nat) (AY:aI z1 W (.slice (some ⟨g1,0,none⟩) (QP.ai q p0).length c1) (QP.ai q p0)) (me:aI z2 W (.slice (some ⟨g2,0,none⟩) (QP.ai q p1).length c2) (QP.ai q p1))=>sQ hW AY me Uv Uw (by omega) G5 eT hs (by omega) iD iG
 clear G5;clear hlen;go_enter Tryz.func65,Tryz.ntmps65
 go_wp2
 go_region_held3 (fun W=>W.cell? ⟨g,0,none⟩=some (.int .i64 (p0.1:Nat))/\W.cell? ⟨g,1,none⟩=some (.int .i64 (p0.2:Nat))/\W.cell? ⟨g,2,none⟩=some (.int .i64 (p1.1:Nat))/\W.cell? ⟨g,3,none⟩=some (.int .i64 (p1.2:Nat))/\W.cell? ⟨x,3,none⟩=some (.pointer (some ⟨a,0,none⟩))) (go_keep)
  (first
  |(go_at_call 107;have _:=tk0;go_fit (KM _ gF _ _ g1 g2 c1 c2 AZ me);rintro e w3 ⟨rfl,vm3,vt3,h3,r3⟩;obtain⟨k0,k1,k2,k3⟩:=PC.out _ (x9 (r2a.trans r3));have m4:=h3.prog)
  |(go_at_call 107;have _:=tk1;go_fit (KM _ gF _ _ g2 g1 c2 c1 me AZ);rintro e w3 ⟨rfl,vm3,vt3,h3,r3⟩;obtain⟨k0,k1,k2,k3⟩:=PC.out _ (x9 (r2a.trans r3));have m4:=h3.prog)
  |(go_at_call 102;have _:=tk0;go_fit (TO _ eJ);rintro e w2 ⟨g2,c2,rfl,me,h2⟩;have gF:=eJ.below h2;have r2a:=r1a.trans (aA.of h2 (x:=x) (vm:=vm) (vt:=vt));obtain⟨f0,f1,f2,f3⟩:=PC.out _ (x9 r2a);have m2:=gF.prog;have AZ:=aw AY h2)
  |(go_at_call 102;have _:=tk1;go_fit (V6 _ eJ);rintro e w2 ⟨g2,c2,rfl,me,h2⟩;have gF:=eJ.below h2;have r2a:=r1a.trans (aA.of h2 (x:=x) (vm:=vm) (vt:=vt));obtain⟨f0,f1,f2,f3⟩:=PC.out _ (x9 r2a);have m2:=gF.prog;have AZ:=aw AY h2)
  |(go_at_call 102;go_fit (V6 _ HA.drew);rintro e w1 ⟨g1,c1,rfl,AY,h1⟩;have eJ:=HA.drew.below h1;have r1a:aA x vm vt (w.alloc (.cells #[.int .i64 (l.num:Nat),.int .i64 (l.op:Nat),.slice (some ⟨g,0,none⟩) 2 cp,.int .i64 l.number,.int .i64 l.flag,.slice an l.next.length cn] 115)) vm vt w1:=(aA.of (ic _)).trans (aA.of h1);obtain⟨e0,e1,e2,e3⟩:=PC.out _ (x9 r1a);have m1:=eJ.prog;have tk0:True:=trivial)
  |(go_at_call 102;go_fit (TO _ HA.drew);rintro e w1 ⟨g1,c1,rfl,AY,h1⟩;have eJ:=HA.drew.below h1;have r1a:aA x vm vt (w.alloc (.cells #[.int .i64 (l.num:Nat),.int .i64 (l.op:Nat),.slice (some ⟨g,0,none⟩) 2 cp,.int .i64 l.number,.int .i64 l.flag,.slice an l.next.length cn] 115)) vm vt w1:=(aA.of (ic _)).trans (aA.of h1);obtain⟨e0,e1,e2,e3⟩:=PC.out _ (x9 r1a);have m1:=eJ.prog;have tk1:True:=trivial))
 all_goals go_wp2_with fail
 all_goals
  go_end0
  exact⟨rfl,vm3,vt3,h3,((aA.of aF).trans r2a).trans r3⟩
end
end Own
namespace Own
open Go Go.RowKit Sq Aux PrjJ PrjK PrjL PrjM PrjS PrjT FlwA FlwB FlwD FlwE
section
variable {x a:Nat} {w w0 w1:World} {vm vt vi vm1 vt1:Value} {o:Own}
set_option maxRecDepth 20000 in
theorem CX (h:dq w0 x a w o vi vm vt){z nl nb:Nat}{l:ab}{ap an:Option Addr}{cp cn:Nat}(hl:aC z w l (.slice ap l.places.length cp) (.slice an l.next.length cn))(hk:fY nl nb l)(iP:nl<=12)
  (ak:l.op=3\/l.op=4\/l.op=5) (hr:∀n∈o.ints,bC n):
  Calls Tryz.prog 65 #[.pointer (some ⟨x,0,none⟩),.agg #[.int .i64 (l.num:Nat),.int .i64 (l.op:Nat),.slice ap l.places.length cp,.int .i64 l.number,.int .i64 l.flag,.slice an l.next.length cn]] w fun e w'=>
   e=.returned (.tuple #[])/\dq w0 x a w' (o.calc l) vi vm vt/\aA x vm vt w vm vt w':=by
 have aF:Below w.heap.size w (w.alloc (.cells #[.int .i64 (l.num:Nat),.int .i64 (l.op:Nat),.slice ap l.places.length cp,.int .i64 l.number,.int .i64 l.flag,.slice an l.next.length cn] 115)):=(Below.refl _ _).alloc (jC _) _;have KC:=gH (h.below aF) (hl.below aF) hk iP (by omega) (fun e=>by omega) hr;have hC:Hid (({o with ints:=o.ints.set (ab.pl l 0).1 (ml l.op (o.num (ab.pl l 1)) (o.num (ab.pl l 2)))}:Own)=o.calc l):=rfl;rw[hC.out]at KC;clear hl hk hC;rcases ak with e|e|e
 all_goals
  have b2:(((l.op:Nat):Int)==2)=false:=by rw[e];rfl
  have b3:(((l.op:Nat):Int)==3)=decide (l.op=3):=by rw[e];rfl
  have b4:(((l.op:Nat):Int)==4)=decide (l.op=4):=by rw[e];rfl
  have b5:(((l.op:Nat):Int)==5)=decide (l.op=5):=by rw[e];rfl
  simp only[e]at b3 b4 b5;simp only[Nat.reduceEqDiff,decide_true,decide_false]at b3 b4 b5;rw[<-e]at b3 b4 b5;clear e;go_enter Tryz.func65,Tryz.ntmps65
  go_wp2_with (go_at_call 59;go_fit KC;rintro e w2 ⟨rfl,h2,r2⟩)
  go_end0
  exact⟨rfl,h2,(aA.of aF).trans r2⟩
def ik (op:Nat):Prop:=op=2\/op=3\/op=4\/op=5\/op=7\/op=8\/op=10\/op=11\/op=12\/op=13\/op=14\/op=15
theorem Hs (h:dq w0 x a w o vi vm vt){z nb t:Nat}{q:QP}{v u:Value}{l:ab}{ap an:Option Addr}{cp cn:Nat}(hl:aC z w l (.slice ap l.places.length cp) (.slice an l.next.length cn))(hk:fY q.locals.length nb l)(iP:q.locals.length<=12)
  (ak:ik l.op) (lu:o.In t) (ht:t<=900000) (qT:o.rO l=true) (hq:PQ w0 a q v u) (G5:l.op=12\/l.op=14->(QP.ai q (ag l 0)).length=(QP.ai q (ag l 1)).length) (iD:Pow w0) (iG:11<=w0.heap.size):
  Calls Tryz.prog 65 #[.pointer (some ⟨x,0,none⟩),.agg #[.int .i64 (l.num:Nat),.int .i64 (l.op:Nat),.slice ap l.places.length cp,.int .i64 l.number,.int .i64 l.flag,.slice an l.next.length cn]] w fun e w'=>
   e=.returned (.tuple #[])/\∃vi' vm' vt',dq w0 x a w' (o.cz q l) vi' vm' vt'/\aA x vm vt w vm' vt' w':=by
 have hs:=lu.sz (by omega);have G8:t+100<=9000000:=by omega
 unfold ag at G5;rcases ak with e|e|e|e|e|e|e|e|e|e|e|e
 ·have hd:o.cz q l={o with ints:=o.ints.set (l.places.getD 0 (0,0)).1 l.number}:=by unfold Own.cz;rw[jb e];rfl
  rw[hd];exact(Hu h hl hk iP e).mono fun e w' ⟨h0,h1,h2⟩=>⟨h0,vi,vm,vt,h1,h2⟩
 ·have hd:o.cz q l=o.calc l:=by unfold Own.cz;rw[ja (by omega),jb (by omega)]
  rw[hd];exact(CX h hl hk iP (by omega) lu.jr).mono fun e w' ⟨h0,h1,h2⟩=>⟨h0,vi,vm,vt,h1,h2⟩
 ·have hd:o.cz q l=o.calc l:=by unfold Own.cz;rw[ja (by omega),jb (by omega)]
  rw[hd];exact(CX h hl hk iP (by omega) lu.jr).mono fun e w' ⟨h0,h1,h2⟩=>⟨h0,vi,vm,vt,h1,h2⟩
 ·have hd:o.cz q l=o.calc l:=by unfold Own.cz;rw[ja (by omega),jb (by omega)]
  rw[hd];exact(CX h hl hk iP (by omega) lu.jr).mono fun e w' ⟨h0,h1,h2⟩=>⟨h0,vi,vm,vt,h1,h2⟩
 ·have hd:o.cz q l={o with aO:=o.aO.tail,ints:=o.ints.set (l.places.getD 0 (0,0)).1 (o.aO.headD 0)}:=by unfold Own.cz;rw[ja (by omega),ja (by omega),jb e];rfl
  rw[hd];exact(Oh h hl hk iP e).mono fun e w' ⟨h0,⟨vi',h1⟩,h2⟩=>⟨h0,vi',vm,vt,h1,h2⟩
 ·have hd:o.cz q l={o with yd:=o.yd.note 111 (o.num (l.places.getD 0 (0,0)))}:=by unfold Own.cz;rw[ja (by omega),ja (by omega),ja (by omega),jb e];rfl
  rw[hd];exact(Ht h hl hk iP e hs G8 iD iG lu.jr).mono fun e w' ⟨h0,vm',vt',h1,h2⟩=>⟨h0,vi,vm',vt',h1,h2⟩
 ·have hd:o.cz q l={o with yd:=o.yd.load (o.box (l.places.getD 1 (0,0))),ints:=o.ints.set (l.places.getD 0 (0,0)).1 (o.yd.at (o.box (l.places.getD 1 (0,0)))).1}:=by unfold Own.cz;rw[ja (by omega),ja (by omega),ja (by omega),ja (by omega),jb e];rfl
  have hn:1<=o.box (l.places.getD 1 (0,0)):=by unfold Own.rO at qT;rw[jb e]at qT;exact of_decide_eq_true qT
  rw[hd];exact(CY h hl hk iP e hs G8 iD iG lu.bx hn).mono fun e w' ⟨h0,vm',vt',h1,h2⟩=>⟨h0,vi,vm',vt',h1,h2⟩
 ·have hd:o.cz q l={o with yd:=o.yd.store (o.box (l.places.getD 0 (0,0))) (o.num (l.places.getD 1 (0,0)))}:=by unfold Own.cz;rw[ja (by omega),ja (by omega),ja (by omega),ja (by omega),ja (by omega),jb e];rfl
  have hn:1<=o.box (l.places.getD 0 (0,0)):=by unfold Own.rO at qT;rw[ja (by omega),jb e]at qT;exact of_decide_eq_true qT
  rw[hd];exact(yO h hl hk iP e hs G8 iD iG lu.bx hn).mono fun e w' ⟨h0,vm',vt',h1,h2⟩=>⟨h0,vi,vm',vt',h1,h2⟩
 ·have hd:o.cz q l=o.move (QP.ai q (l.places.getD 0 (0,0))) (QP.ai q (l.places.getD 1 (0,0))):=by unfold Own.cz;rw[ja (by omega),ja (by omega),ja (by omega),ja (by omega),ja (by omega),ja (by omega),jb (by omega)];rfl
  rw[hd];exact(CZ h hl hk iP e hs G8 iD iG lu.bx hq rfl (G5 (.inl e))).mono fun e w' ⟨h0,vm',vt',h1,h2⟩=>⟨h0,vi,vm',vt',h1,h2⟩
 ·have hd:o.cz q l=o.drop (QP.ai q (l.places.getD 0 (0,0))):=by unfold Own.cz;rw[ja (by omega),ja (by omega),ja (by omega),ja (by omega),ja (by omega),ja (by omega),ja (by omega),jb (by omega)];rfl
  rw[hd];exact(C0 h hl hk iP e hs G8 iD iG lu.bx hq rfl).mono fun e w' ⟨h0,vm',vt',h1,h2⟩=>⟨h0,vi,vm',vt',h1,h2⟩
 ·have hd:o.cz q l=o.move (QP.ai q (l.places.getD 0 (0,0))) (QP.ai q (l.places.getD 1 (0,0))):=by unfold Own.cz;rw[ja (by omega),ja (by omega),ja (by omega),ja (by omega),ja (by omega),ja (by omega),jb (by omega)];rfl
  rw[hd];exact(C1 h hl hk iP e hs G8 iD iG lu.bx hq rfl (G5 (.inr e))).mono fun e w' ⟨h0,vm',vt',h1,h2⟩=>⟨h0,vi,vm',vt',h1,h2⟩
 ·have hd:o.cz q l=o.drop (QP.ai q (l.places.getD 0 (0,0))):=by unfold Own.cz;rw[ja (by omega),ja (by omega),ja (by omega),ja (by omega),ja (by omega),ja (by omega),ja (by omega),jb (by omega)];rfl
  rw[hd];exact(Rg h hl hk iP e hs G8 iD iG lu.bx hq rfl).mono fun e w' ⟨h0,vm',vt',h1,h2⟩=>⟨h0,vi,vm',vt',h1,h2⟩
end
end Own
namespace RunA
open Go Sq PrjS
def Whole (b:List ab):Prop:=∃ls l,b=ls++[l]/\18<=l.op/\∀m∈ls,m.op<18
structure Shp (raw:Bool)(o:eA)(q:QP):Prop where
 none:o.sec=0->q.blocks=[]
 mZ:o.sec=1->∃bs b,q.blocks=bs++[b]/\(∀c∈bs,Whole c)/\∀m∈b,m.op<18
 Y9:o.sec=2->∀c∈q.blocks,Whole c
 has:∀b∈q.blocks,∀l∈b,iq raw l.op=true
 sec:o.sec<=2
theorem zC {ls:List (B×Nat)}{nb:Nat}{x:Nat×List B}{l:ab}(h:dw ls nb x=some l):l.op=x.1:=by
 rw[dw]at h;obtain⟨i1,-⟩:=kt ls nb _ _ _ _ h (by simp) (by simp) (by simp) (by simp);exact i1
theorem yw {raw:Bool}{o:eA}{op:Nat}(h:(aD raw o op).2=true):iq raw op=true:=by
 unfold aD at h;split at h
 ·cases h
 ·rename_i hh;simpa using hh
theorem Jn (raw:Bool)(nb:Nat):∀(ls:List (List B)) (o:eA) (i j:Nat) (q0 q:QP),(ay raw ls o i).2.2=none->aR nb (ay raw ls o i).1 j q0=(q,none)->Shp raw o q0->Shp raw (ay raw ls o i).2.1 q
 |[],o,i,j,q0,q,_,h,hs=>by
  simp only[ay,aR,Prod.mk.injEq,and_true]at h;rw[<-h];exact hs
 |ws::r,o,i,j,q0,q,hn,h,hs=>by
  rw[ay]at hn h⊢;cases hx:db ws with
  |none=>rw[hx]at hn;cases hn
  |some x=>
   rw[hx]at hn h;simp only at hn h⊢;by_cases ha:(aD raw o x.1).2=true
   ·rw[jb ha]at hn h⊢;have ih:=fun q1 hl iQ=>Jn raw nb r (aD raw o x.1).1 (i+1) (j+1) q1 q hn hl iQ
    have RI:=yw ha;have pN:=pg raw o x.1 hs.sec;rw[aR]at h;have Pc:¬iq raw x.1=false:=by rw[RI];decide
    by_cases e0:x.1=0
    ·rw[jb e0]at h;split at h
     ·simp at h
     ·refine ih _ h ?_;have e:(aD raw o x.1).1=⟨o.sec,o.locals+1,o.blocks⟩:=by rw[aD,ja Pc,jb e0]
      rw[e];exact⟨hs.none,hs.mZ,hs.Y9,hs.has,hs.sec⟩
    ·rw[ja e0]at h;by_cases e1:x.1=1
     ·rw[jb e1]at h;refine ih _ h ?_;have e:aD raw o x.1=(⟨1,o.locals,o.blocks+1⟩,decide (0<o.locals)&& !(o.sec==1)&&decide (o.blocks+1<=if raw then 2000 else 20)):=by rw[aD,ja Pc,ja e0,jb e1]
      rw[e]at ha;simp only[Bool.and_eq_true,Bool.not_eq_true',beq_eq_false_iff_ne]at ha;rw[e];have hsec':=hs.sec;refine⟨fun h=>(by cases h),fun _=>⟨q0.blocks,[],rfl,fun c hc=> ?_,fun m hm=>(by cases hm)⟩,fun h=>(by cases h),fun b hb l hl=> ?_,by simp⟩
      ·by_cases h0:o.sec=0
       ·rw[hs.none h0]at hc;cases hc
       ·exact hs.Y9 (by have:=ha.1.2;omega) c hc
      ·simp only[QP.addBlock,List.mem_append,List.mem_singleton]at hb;rcases hb with hb|rfl
       ·exact hs.has b hb l hl
       ·cases hl
     ·rw[ja e1]at h;cases hl:dw q0.locals nb x with
      |none=>rw[hl]at h;simp at h
      |some l=>
       rw[hl]at h;have ak:=zC hl;by_cases h1:o.sec=1
       ·obtain⟨bs,b,hb,hw,ho⟩:=hs.mZ h1;have E0:(q0.addLine {l with num:=j}).blocks=bs++[b++[{l with num:=j}]]:=by
         simp only[QP.addLine,hb];simp
        have Ti:∀b∈(q0.addLine {l with num:=j}).blocks,∀l∈b,iq raw l.op=true:=fun c hc m hm=>by
         rw[E0]at hc;simp only[List.mem_append,List.mem_singleton]at hc;rcases hc with hc|rfl
         ·exact hs.has c (by rw[hb];simp[hc]) m hm
         ·simp only[List.mem_append,List.mem_singleton]at hm;rcases hm with hm|rfl
          ·exact hs.has b (by rw[hb];simp) m hm
          ·show iq raw l.op=true;rw[ak];exact RI
        refine ih _ h ?_;by_cases kK:18<=x.1
        ·have e:(aD raw o x.1).1=⟨2,o.locals,o.blocks⟩:=by rw[aD,ja Pc,ja e0,ja e1,ja (by simp[h1]),jb kK]
         rw[e];refine⟨fun h=>(by cases h),fun h=>(by cases h),fun _ c hc=> ?_,Ti,by simp⟩;rw[E0]at hc;simp only[List.mem_append,List.mem_singleton]at hc;rcases hc with hc|rfl
         ·exact hw c hc
         ·exact⟨b,_,rfl,by show 18<=l.op;omega,ho⟩
        ·have e:(aD raw o x.1).1=o:=by rw[aD,ja Pc,ja e0,ja e1,ja (by simp[h1]),ja kK]
         rw[e];refine⟨fun h=>by omega,fun _=>⟨bs,_,E0,hw,fun m hm=> ?_⟩,fun h=>by omega,Ti,hs.sec⟩;simp only[List.mem_append,List.mem_singleton]at hm;rcases hm with hm|rfl
         ·exact ho m hm
         ·show l.op<18;omega
       ·exfalso;rw[aD,ja Pc,ja e0,ja e1,jb h1]at ha;cases ha
   ·rw[ja ha]at hn;cases hn
structure Shape (q:QP):Prop where
 whole:∀b,b<q.blocks.length->Whole (q.blocks.getD b [])
 has:∀b,∀l∈q.blocks.getD b [],iq false l.op=true
 fits:∀b,∀l∈q.blocks.getD b [],q.fits l=true
theorem dn {L:List (List ab)}{b:Nat}{l:ab}(h:l∈L.getD b []):L.getD b []∈L:=by
 rw[jA]at h⊢;cases hb:L[b]? with
 |none=>rw[hb]at h;cases h
 |some c=>exact List.mem_of_getElem? hb
theorem oI {text:B}{q:QP}(h:az text false=(some q,0,0)):Shape q:=by
 by_cases hlong:(split 10 text).length>(if false=true then 4000 else 120)
 ·rw[az,jb hlong]at h;cases h
 ·rw[az,ja hlong]at h;split at h
  ·cases h
  ·rename_i xX;split at h
   ·cases h
   ·rename_i pN;split at h
    ·cases h
    ·rename_i mu;split at h
     ·cases h
     ·rename_i Dh;simp only[Prod.mk.injEq,Option.some.injEq,and_true]at h;have hs:=Jn false (countB (ay false (br text) ⟨0,0,0⟩ 0).1) (br text) ⟨0,0,0⟩ 0 0 QP.empty q xX (by rw[<-h,<-mu]) ⟨fun _=>rfl,fun h=>(by cases h),fun h=>(by cases h),fun b hb=>by simp[QP.empty]at hb,by simp⟩;rw[h]at Dh;refine⟨fun b hb=>hs.Y9 (by simpa using pN) _ (by simp[hb]),fun b l hl=>hs.has _ (dn hl) l hl,fun b l hl=> ?_⟩;simp only[QP.misfit,Option.map_eq_none_iff,List.find?_eq_none,Bool.not_eq_true',Bool.not_eq_false]at Dh;exact Dh l (List.mem_flatten.mpr ⟨_,dn hl,hl⟩)
end RunA
namespace FlwF
open Go Go.RowKit Sq Aux PrjJ PrjK FlwB
def gV (w:World)(b o:Nat):Prop:=∃s:List Nat,s.length=24/\w.rangeAt b o (aj s)
def iH (w:World)(b o:Nat):Prop:=w.there b o 24
def mQ (w:World)(b o:Nat):Array Value:=((List.range 24).map fun j=>(w.cell? ⟨b,o+j,none⟩).getD undef).toArray
def Q2 (xs:Array Value):Prop:=∃s:List Nat,s.length=24/\xs=(aj s).toArray
theorem dx (s:List Nat):(aj s).length=s.length:=by simp[aj]
theorem DT {w:World}{b o:Nat}{s:List Nat}(hl:s.length=24)(h:w.rangeAt b o (aj s)):mQ w b o=(aj s).toArray:=by
 unfold mQ;congr 1;apply List.ext_getElem?
 intro j;rw[jJ];by_cases hj:j<24
 ·rw[List.getElem?_range hj];have xW:j<(aj s).length:=by rw[dx];omega
  have:=h j (aj s)[j] (jB xW);rw[Option.map_some,this,jB xW];rfl
 ·rw[jG (by simp;omega),jG (by rw[dx];omega)];rfl
theorem rG {s:List Nat}(h:s.length=24):(Tryz.prog.info? 209).map (·.size)=some (aj s).length:=by
 rw[dx,h];kernel_rfl
theorem U5 (s:List Nat):∀u∈aj s,u.oneCell'=true:=by
 intro u hu;simp only[aj,List.mem_map]at hu;obtain⟨n,-,rfl⟩:=hu;rfl
theorem I0 (w:World)(b o:Nat)(h:gV w b o):(loadVar 209 ⟨b,o,none⟩).run Tryz.prog w=.ok (.agg (mQ w b o)) w:=by
 obtain⟨s,hs,hw⟩:=h;rw[DT hs hw];exact run_loadVar_mid w b o 209 (aj s) _ hw Tryz.underlying209 rfl (rG hs)
theorem GF (w:World)(b o:Nat)(xs:Array Value)(h:iH w b o)(hx:Q2 xs):(storeVar 209 ⟨b,o,none⟩ (.agg xs)).run Tryz.prog w=.ok () (w.setCells b o xs.toList):=by
 obtain⟨t,ht,rfl⟩:=hx;refine run_storeVar_mid w b o 209 (aj t).toArray ?_ ?_ (all_oneCell_toArray (U5 t))
 ·have:=h;unfold iH at this;rw[List.size_toArray,dx,ht];exact this
 ·have:=rG ht;rw[List.size_toArray];exact this
def DE:Value->Nat
 | .pointer (some ad)=>ad.off
 |_=>0
def SX (w:World)(v:Value):Prop:=∃b o,v=.pointer (some ⟨b,o,none⟩)/\gV w b o
def JN (w:World)(v:Value):Prop:=∃b o,v=.pointer (some ⟨b,o,none⟩)/\iH w b o
def NU (v:Value):Prop:=∃xs,v=.agg xs/\Q2 xs
def DD:Value->Nat
 | .pointer (some ad)=>ad.block
 |_=>0
def S0:Value->Array Value
 | .agg xs=>xs
 |_=> #[]
@[simp] theorem rR (ad : Addr) : DE (.pointer (some ad)) = ad.off := rfl
@[simp] theorem rQ (ad : Addr) : DD (.pointer (some ad)) = ad.block := rfl
@[simp] theorem Ld (xs : Array Value) : S0 (.agg xs) = xs := rfl
@[simp] theorem VY (w : World) (b o : Nat) : SX w (.pointer (some ⟨b, o, none⟩)) = gV w b o := propext ⟨fun ⟨_, _, e, h⟩ => by cases e; exact h, fun h => ⟨b, o, rfl, h⟩⟩
@[simp] theorem TI (w : World) (b o : Nat) : JN w (.pointer (some ⟨b, o, none⟩)) = iH w b o := propext ⟨fun ⟨_, _, e, h⟩ => by cases e; exact h, fun h => ⟨b, o, rfl, h⟩⟩
@[simp] theorem Vf (xs : Array Value) : NU (.agg xs) = Q2 xs := by simp [NU]
section
variable (d:Option Tmp) (x y:Operand) (t:TypeId) (ps:String) (af:Array Edge) (g:Option (Nat×Bool)) (a:Act) (w:World) (K:Act->World->Prop) (Q:Exit->Act->World->Prop)
theorem dd (h:SX w (a.eval x)):Oper.wp Tryz.prog {dst:=d,op:=Op.load 209 x,type:=t,pos:=ps,after:=af,guard:=g} a w K Q=K (a.put d (.agg (mQ w (DD (a.eval x)) (DE (a.eval x))))) w:=by
 obtain⟨b,o,hb,hh⟩:=h;have:=I0 w b o hh;unfold Oper.wp execOp;simp only[hb,Instr.loadAt,Instr.sureAddr,Sem.run_bind,Sem.run_pure,Result.andThen_ok,this,rQ,rR];rfl
theorem cO (h:JN w (a.eval x))(h':NU (a.eval y)):Oper.wp Tryz.prog {dst:=d,op:=Op.store 209 x y,type:=t,pos:=ps,after:=af,guard:=g} a w K Q=K (a.put d undef) (w.setCells (DD (a.eval x)) (DE (a.eval x)) (S0 (a.eval y)).toList):=by
 obtain⟨b,o,hb,hh⟩:=h;obtain⟨xs,hy,hx⟩:=h';have:=GF w b o xs hh hx;unfold Oper.wp execOp;simp only[hb,hy,Instr.storeAt,Instr.sureAddr,Sem.run_bind,Sem.run_pure,Result.andThen_ok,this,rQ,rR,Ld];rfl
end
theorem av.range {w:World}{b:Nat}{s:List Nat}(h:av w b s):w.rangeAt b 0 (aj s):=fun j v hv=>by
 rw[Nat.zero_add,cell_of_heap h.2];simpa using hv
theorem av.has {w:World}{b:Nat}{s:List Nat}(h:av w b s):gV w b 0:=⟨s,h.1,av.range h⟩
theorem av.room {w:World}{b:Nat}{s:List Nat}(h:av w b s):iH w b 0:=fun j hj=>by
 rw[Nat.zero_add,av.cell h j hj,av.frozen h];exact⟨rfl,rfl⟩
theorem av.of {w:World}{b:Nat}{s:List Nat}(h:av w b s):mQ w b 0=(aj s).toArray:=DT h.1 (av.range h)
theorem av.new (w:World){s:List Nat}(h:s.length=24):av (w.alloc (.cells (aj s).toArray 209)) w.heap.size s:=⟨h,jD⟩
theorem av.store {w:World}{b:Nat}{s t:List Nat}(h:av w b s)(ht:t.length=24):av (w.setCells b 0 (aj t)) b t:=by
 obtain⟨cs',h1,h2,h3⟩:=fv b (aj t) 0 w _ _ _ h.2;refine⟨ht,?_⟩;rw[h1];congr 2;apply Array.ext_getElem?
 intro j;rw[h3];have l1:(aj s).length=24:=by rw[dx];exact h.1
 have l2:(aj t).length=24:=by rw[dx];exact ht
 by_cases hj:j<24
 ·rw[jb (by simp[l1,l2,hj])];simp
 ·rw[ja (by simp[l2];omega)];simp[l1,l2,Nat.le_of_not_lt hj]
theorem q9 {w w':World}{b:Nat}(_h:bD b w w')(_o:Nat):∀(vs:List Value) (o:Nat) (w':World),bD b w w'->bD b w (w'.setCells b o vs)
 |[],_,_,h=>h
 |v::r,o,w',h=>by rw[World.setCells];exact q9 h o r (o+1) _ (h.setCell o v)
def au:List Nat:=List.replicate 24 0
theorem iu {s:List Nat}(h:s.length=24):Q2 (aj s).toArray:=⟨s,h,rfl⟩
end FlwF
end Go.Proofs.YtmlgajhhnojdjaaGreatDoor

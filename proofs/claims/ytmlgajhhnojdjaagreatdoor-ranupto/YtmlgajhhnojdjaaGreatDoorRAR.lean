import Derived.Test.YtmlgajhhnojdjaaGreatDoorRAQ
namespace Go.Proofs.YtmlgajhhnojdjaaGreatDoor
namespace Own
open Go Go.RowKit Sq Aux PrjJ PrjK PrjL PrjM PrjS PrjT FlwA FlwB FlwD FlwE
section
variable {x a:Nat} {w w0 w1:World} {vm vt vi vm1 vt1:Value} {o:Own}
theorem dp.prog (h:dp w0 x a w o vi vm vt):w.cell? ⟨x,3,none⟩=some (.pointer (some ⟨a,0,none⟩)):=(h.kb.more 0).1
set_option maxRecDepth 20000 in
set_option maxHeartbeats 4000000 in
theorem QF (h:dp w0 x a w o vi vm vt){z nl nb:Nat}{l:ab}{ap an:Option Addr}{cp cn:Nat}(hl:bq z w l (.slice ap l.places.length cp) (.slice an l.next.length cn))(hk:tS nl nb l)(lh:nl<=12)(ax:l.op=11){t:Nat}(hs:o.yd.Sz t)(ht:t+100<=9000000)(qw:Pow w0)(oM:11<=w0.heap.size)(kf:o.Bx)(ec:1<=o.box (l.places.getD 0 (0,0))):
  Calls Tryz.prog 65 #[.pointer (some ⟨x,0,none⟩),.agg #[.int .i64 (l.num:Nat),.int .i64 (l.op:Nat),.slice ap l.places.length cp,.int .i64 l.number,.int .i64 l.flag,.slice an l.next.length cn]] w fun e w'=>e=.returned (.tuple #[])/\(∃vm' vt',dp w0 x a w' {o with yd:=o.yd.store (o.box (l.places.getD 0 (0,0))) (o.num (l.places.getD 1 (0,0)))} vi vm' vt'/\aN x vm vt w vm' vt' w'):=by
 have hlen:l.places.length=2:=by rw[hk.cQ,ax];rfl
 have aY:Below w.heap.size w (w.alloc (.cells #[.int .i64 (l.num:Nat),.int .i64 (l.op:Nat),.slice ap l.places.length cp,.int .i64 l.number,.int .i64 l.flag,.slice an l.next.length cn] 115)):=(Below.refl _ _).alloc (jC _) _;obtain⟨g,rfl,qm,hg,-,-⟩:=bo hl hlen 0 (by omega);have gM:w.ownsRow z 119 2 (.slice (some ⟨g,0,none⟩) l.places.length cp) l.places.length (bL l.places):=hl.places;have fZ:=ay gM aY;have pc:∀W:World,W.ownsRow z 119 2 (.slice (some ⟨g,0,none⟩) l.places.length cp) l.places.length (bL l.places)->W.cell? ⟨g,0,none⟩=some (.int .i64 ((l.places.getD 0 (0,0)).1:Nat))/\W.cell? ⟨g,1,none⟩=some (.int .i64 ((l.places.getD 0 (0,0)).2:Nat))/\W.cell? ⟨g,2,none⟩=some (.int .i64 ((l.places.getD 1 (0,0)).1:Nat))/\W.cell? ⟨g,3,none⟩=some (.int .i64 ((l.places.getD 1 (0,0)).2:Nat)):=fun W hW=>⟨(bC hW (j:=0) (by omega)).1,(bC hW (j:=0) (by omega)).2,(bC hW (j:=1) (by omega)).1,(bC hW (j:=1) (by omega)).2⟩
 have hx:∀j,j<2->(l.places.getD j (0,0)).1<nl:=fun j hj=>(hk.places (l.places.getD j (0,0)) (by rw[jA,jB (by omega)];exact jL _)).1
 have x0:=hx 0 (by omega);have x1:=hx 1 (by omega);have HA:=h.below aY;have Mq:Hid (_):=fZ;have HP:Hid (_):=gM;have PC:Hid (_):=pc;have hd:=pc _ fZ;rw[hlen]at aY HA hd;rw[hlen];clear hx hl hk pc gM fZ;have b2:(((l.op:Nat):Int)==2)=false:=by rw[ax];rfl
 have b3:(((l.op:Nat):Int)==3)=false:=by rw[ax];rfl
 have b4:(((l.op:Nat):Int)==4)=false:=by rw[ax];rfl
 have b5:(((l.op:Nat):Int)==5)=false:=by rw[ax];rfl
 have b7:(((l.op:Nat):Int)==7)=false:=by rw[ax];rfl
 have b8:(((l.op:Nat):Int)==8)=false:=by rw[ax];rfl
 have b10:(((l.op:Nat):Int)==10)=false:=by rw[ax];rfl
 have b11:(((l.op:Nat):Int)==11)=true:=by rw[ax];rfl
 have b12:(((l.op:Nat):Int)==12)=false:=by rw[ax];rfl
 have b14:(((l.op:Nat):Int)==14)=false:=by rw[ax];rfl
 have b13:(((l.op:Nat):Int)==13)=false:=by rw[ax];rfl
 have b15:(((l.op:Nat):Int)==15)=false:=by rw[ax];rfl
 generalize l.places.getD 0 (0,0)=p0 at*;generalize l.places.getD 1 (0,0)=p1 at*;clear ax;obtain⟨d0,d1,d2,d3⟩:=hd;have x0i:(p0.1:Int)<12:=by omega
 have zw:∀{vm2 vt2:Value} {W:World},aN x vm vt (w.alloc (.cells #[.int .i64 (l.num:Nat),.int .i64 (l.op:Nat),.slice (some ⟨g,0,none⟩) 2 cp,.int .i64 l.number,.int .i64 l.flag,.slice an l.next.length cn] 115)) vm2 vt2 W->W.ownsRow z 119 2 (.slice (some ⟨g,0,none⟩) l.places.length cp) l.places.length (bL l.places):=fun hr=>HA.df (by have:=Mq.out;rw[hlen]at this;rw[hlen];exact this) (.inr rfl) hr
 have hle:=Aq kf p0;have KB:=fun(W:World) (hW:dp w0 x a W o vi vm vt)=>iY hW p0 (by omega)
 have KN:=fun(W:World) (hW:dp w0 x a W o vi vm vt)=>ej hW p1 (by omega)
 have KL:=fun(W:World) (hW:dp w0 x a W o vi vm vt)=>yl hW.kb (o.box p0) ec hle (o.num p1) (qw.below hW.br oM) (hs.ok (by omega))
 generalize o.box p0=n at*;generalize o.num p1=v at*;clear hlen;go_enter Tryz.func65,Tryz.ntmps65
 go_wp2
 go_region_with (first
  |(go_at_call 106;go_fit (KL _ iN);rintro e w3 ⟨rfl,vm3,vt3,h3,r3⟩)
  |(go_at_call 58;go_fit (KN _ mo);rintro e w2 ⟨rfl,h2⟩;have iN:=mo.below h2;have r2a:=r1a.trans (aN.of h2 (x:=x) (vm:=vm) (vt:=vt));obtain⟨f0,f1,f2,f3⟩:=PC.out _ (zw r2a))
  |(go_at_call 99;go_fit (KB _ mo);rintro e w2 ⟨rfl,h2⟩;have iN:=mo.below h2;have r2a:=r1a.trans (aN.of h2 (x:=x) (vm:=vm) (vt:=vt));obtain⟨f0,f1,f2,f3⟩:=PC.out _ (zw r2a))
  |(go_at_call 99;go_fit (KB _ HA.drew);rintro e w1 ⟨rfl,h1⟩;have mo:=HA.drew.below h1;have r1a:aN x vm vt (w.alloc (.cells #[.int .i64 (l.num:Nat),.int .i64 (l.op:Nat),.slice (some ⟨g,0,none⟩) 2 cp,.int .i64 l.number,.int .i64 l.flag,.slice an l.next.length cn] 115)) vm vt w1:=(aN.of (jh _)).trans (aN.of h1);obtain⟨e0,e1,e2,e3⟩:=PC.out _ (zw r1a))
  |(go_at_call 58;go_fit (KN _ HA.drew);rintro e w1 ⟨rfl,h1⟩;have mo:=HA.drew.below h1;have r1a:aN x vm vt (w.alloc (.cells #[.int .i64 (l.num:Nat),.int .i64 (l.op:Nat),.slice (some ⟨g,0,none⟩) 2 cp,.int .i64 l.number,.int .i64 l.flag,.slice an l.next.length cn] 115)) vm vt w1:=(aN.of (jh _)).trans (aN.of h1);obtain⟨e0,e1,e2,e3⟩:=PC.out _ (zw r1a)))
 all_goals go_wp2_with fail
 all_goals
  go_end0
  exact⟨rfl,vm3,vt3,iN.zv h3 r3,((aN.of aY).trans r2a).trans r3⟩
set_option maxRecDepth 20000 in
set_option maxHeartbeats 4000000 in
theorem Ut (h:dp w0 x a w o vi vm vt){z nl nb:Nat}{l:ab}{ap an:Option Addr}{cp cn:Nat}(hl:bq z w l (.slice ap l.places.length cp) (.slice an l.next.length cn))(hk:tS nl nb l)(lh:nl<=12)(ax:l.op=13){t:Nat}(hs:o.yd.Sz t)(ht:t+100<=9000000)(qw:Pow w0)(oM:11<=w0.heap.size)(kf:o.Bx){q:QP}{v u:Value}(hq:PQ w0 a q v u)(hnq:nl=q.locals.length):
  Calls Tryz.prog 65 #[.pointer (some ⟨x,0,none⟩),.agg #[.int .i64 (l.num:Nat),.int .i64 (l.op:Nat),.slice ap l.places.length cp,.int .i64 l.number,.int .i64 l.flag,.slice an l.next.length cn]] w fun e w'=>e=.returned (.tuple #[])/\(∃vm' vt',dp w0 x a w' (o.drop (QP.ae q (l.places.getD 0 (0,0)))) vi vm' vt'/\aN x vm vt w vm' vt' w'):=by
 have hlen:l.places.length=1:=by rw[hk.cQ,ax];rfl
 have aY:Below w.heap.size w (w.alloc (.cells #[.int .i64 (l.num:Nat),.int .i64 (l.op:Nat),.slice ap l.places.length cp,.int .i64 l.number,.int .i64 l.flag,.slice an l.next.length cn] 115)):=(Below.refl _ _).alloc (jC _) _;obtain⟨g,rfl,qm,hg,-,-⟩:=bo hl hlen 0 (by omega);have gM:w.ownsRow z 119 2 (.slice (some ⟨g,0,none⟩) l.places.length cp) l.places.length (bL l.places):=hl.places;have fZ:=ay gM aY;have pc:∀W:World,W.ownsRow z 119 2 (.slice (some ⟨g,0,none⟩) l.places.length cp) l.places.length (bL l.places)->W.cell? ⟨g,0,none⟩=some (.int .i64 ((l.places.getD 0 (0,0)).1:Nat))/\W.cell? ⟨g,1,none⟩=some (.int .i64 ((l.places.getD 0 (0,0)).2:Nat)):=fun W hW=>⟨(bC hW (j:=0) (by omega)).1,(bC hW (j:=0) (by omega)).2⟩
 have hx:∀j,j<1->(l.places.getD j (0,0)).1<nl:=fun j hj=>(hk.places (l.places.getD j (0,0)) (by rw[jA,jB (by omega)];exact jL _)).1
 have x0:=hx 0 (by omega);have HA:=h.below aY;have Mq:Hid (_):=fZ;have HP:Hid (_):=gM;have PC:Hid (_):=pc;have hd:=pc _ fZ;rw[hlen]at aY HA hd;rw[hlen];clear hx hl hk pc gM fZ;have b2:(((l.op:Nat):Int)==2)=false:=by rw[ax];rfl
 have b3:(((l.op:Nat):Int)==3)=false:=by rw[ax];rfl
 have b4:(((l.op:Nat):Int)==4)=false:=by rw[ax];rfl
 have b5:(((l.op:Nat):Int)==5)=false:=by rw[ax];rfl
 have b7:(((l.op:Nat):Int)==7)=false:=by rw[ax];rfl
 have b8:(((l.op:Nat):Int)==8)=false:=by rw[ax];rfl
 have b10:(((l.op:Nat):Int)==10)=false:=by rw[ax];rfl
 have b11:(((l.op:Nat):Int)==11)=false:=by rw[ax];rfl
 have b12:(((l.op:Nat):Int)==12)=false:=by rw[ax];rfl
 have b14:(((l.op:Nat):Int)==14)=false:=by rw[ax];rfl
 have b13:(((l.op:Nat):Int)==13)=true:=by rw[ax];rfl
 have b15:(((l.op:Nat):Int)==15)=false:=by rw[ax];rfl
 generalize l.places.getD 0 (0,0)=p0 at*;clear ax;obtain⟨d0,d1⟩:=hd;have x0i:(p0.1:Int)<12:=by omega
 have x0q:p0.1<q.locals.length:=by omega
 have lg:=cD (q:=q) (x:=p0) (n:=12) (by omega);have hlq:(QP.ae q p0).length<=2:=by unfold QP.ae;split<;>simp
 have HQ:=hq.below HA.drew.br;have m3:=HA.prog;have KH:=ef q p0 v u a _ HQ.aJ HQ.loc x0q;have KD:=fun(W:World) (hW:dp w0 x a W o vi vm vt) (zz gg cc:Nat) (hP:bP zz W (.slice (some ⟨gg,0,none⟩) (QP.ae q p0).length cc) (QP.ae q p0))=>fY hW hP lg (by omega) kf hs (by omega) qw oM
 clear hlen;go_enter Tryz.func65,Tryz.ntmps65
 go_wp2
 go_region_with (first
  |(go_at_call 102;go_fit KH;rintro e w2 ⟨g2,c2,rfl,zk,h2⟩;have iN:=HA.drew.below h2;have r2a:aN x vm vt (w.alloc (.cells #[.int .i64 (l.num:Nat),.int .i64 (l.op:Nat),.slice (some ⟨g,0,none⟩) 1 cp,.int .i64 l.number,.int .i64 l.flag,.slice an l.next.length cn] 115)) vm vt w2:=(aN.of (jh _)).trans (aN.of h2))
  |(go_at_call 60;go_fit (KD _ iN _ g2 c2 zk);rintro e w3 ⟨rfl,vm3,vt3,h3,r3⟩))
 all_goals go_wp2_with fail
 all_goals
  go_end0
  exact⟨rfl,vm3,vt3,h3,((aN.of aY).trans r2a).trans r3⟩
set_option maxRecDepth 20000 in
set_option maxHeartbeats 4000000 in
theorem Uq (h:dp w0 x a w o vi vm vt){z nl nb:Nat}{l:ab}{ap an:Option Addr}{cp cn:Nat}(hl:bq z w l (.slice ap l.places.length cp) (.slice an l.next.length cn))(hk:tS nl nb l)(lh:nl<=12)(ax:l.op=15){t:Nat}(hs:o.yd.Sz t)(ht:t+100<=9000000)(qw:Pow w0)(oM:11<=w0.heap.size)(kf:o.Bx){q:QP}{v u:Value}(hq:PQ w0 a q v u)(hnq:nl=q.locals.length):
  Calls Tryz.prog 65 #[.pointer (some ⟨x,0,none⟩),.agg #[.int .i64 (l.num:Nat),.int .i64 (l.op:Nat),.slice ap l.places.length cp,.int .i64 l.number,.int .i64 l.flag,.slice an l.next.length cn]] w fun e w'=>e=.returned (.tuple #[])/\(∃vm' vt',dp w0 x a w' (o.drop (QP.ae q (l.places.getD 0 (0,0)))) vi vm' vt'/\aN x vm vt w vm' vt' w'):=by
 have hlen:l.places.length=1:=by rw[hk.cQ,ax];rfl
 have aY:Below w.heap.size w (w.alloc (.cells #[.int .i64 (l.num:Nat),.int .i64 (l.op:Nat),.slice ap l.places.length cp,.int .i64 l.number,.int .i64 l.flag,.slice an l.next.length cn] 115)):=(Below.refl _ _).alloc (jC _) _;obtain⟨g,rfl,qm,hg,-,-⟩:=bo hl hlen 0 (by omega);have gM:w.ownsRow z 119 2 (.slice (some ⟨g,0,none⟩) l.places.length cp) l.places.length (bL l.places):=hl.places;have fZ:=ay gM aY;have pc:∀W:World,W.ownsRow z 119 2 (.slice (some ⟨g,0,none⟩) l.places.length cp) l.places.length (bL l.places)->W.cell? ⟨g,0,none⟩=some (.int .i64 ((l.places.getD 0 (0,0)).1:Nat))/\W.cell? ⟨g,1,none⟩=some (.int .i64 ((l.places.getD 0 (0,0)).2:Nat)):=fun W hW=>⟨(bC hW (j:=0) (by omega)).1,(bC hW (j:=0) (by omega)).2⟩
 have hx:∀j,j<1->(l.places.getD j (0,0)).1<nl:=fun j hj=>(hk.places (l.places.getD j (0,0)) (by rw[jA,jB (by omega)];exact jL _)).1
 have x0:=hx 0 (by omega);have HA:=h.below aY;have Mq:Hid (_):=fZ;have HP:Hid (_):=gM;have PC:Hid (_):=pc;have hd:=pc _ fZ;rw[hlen]at aY HA hd;rw[hlen];clear hx hl hk pc gM fZ;have b2:(((l.op:Nat):Int)==2)=false:=by rw[ax];rfl
 have b3:(((l.op:Nat):Int)==3)=false:=by rw[ax];rfl
 have b4:(((l.op:Nat):Int)==4)=false:=by rw[ax];rfl
 have b5:(((l.op:Nat):Int)==5)=false:=by rw[ax];rfl
 have b7:(((l.op:Nat):Int)==7)=false:=by rw[ax];rfl
 have b8:(((l.op:Nat):Int)==8)=false:=by rw[ax];rfl
 have b10:(((l.op:Nat):Int)==10)=false:=by rw[ax];rfl
 have b11:(((l.op:Nat):Int)==11)=false:=by rw[ax];rfl
 have b12:(((l.op:Nat):Int)==12)=false:=by rw[ax];rfl
 have b14:(((l.op:Nat):Int)==14)=false:=by rw[ax];rfl
 have b13:(((l.op:Nat):Int)==13)=false:=by rw[ax];rfl
 have b15:(((l.op:Nat):Int)==15)=true:=by rw[ax];rfl
 generalize l.places.getD 0 (0,0)=p0 at*;clear ax;obtain⟨d0,d1⟩:=hd;have x0i:(p0.1:Int)<12:=by omega
 have x0q:p0.1<q.locals.length:=by omega
 have lg:=cD (q:=q) (x:=p0) (n:=12) (by omega);have hlq:(QP.ae q p0).length<=2:=by unfold QP.ae;split<;>simp
 have HQ:=hq.below HA.drew.br;have m3:=HA.prog;have KH:=ef q p0 v u a _ HQ.aJ HQ.loc x0q;have KD:=fun(W:World) (hW:dp w0 x a W o vi vm vt) (zz gg cc:Nat) (hP:bP zz W (.slice (some ⟨gg,0,none⟩) (QP.ae q p0).length cc) (QP.ae q p0))=>fY hW hP lg (by omega) kf hs (by omega) qw oM
 clear hlen;go_enter Tryz.func65,Tryz.ntmps65
 go_wp2
 go_region_with (first
  |(go_at_call 102;go_fit KH;rintro e w2 ⟨g2,c2,rfl,zk,h2⟩;have iN:=HA.drew.below h2;have r2a:aN x vm vt (w.alloc (.cells #[.int .i64 (l.num:Nat),.int .i64 (l.op:Nat),.slice (some ⟨g,0,none⟩) 1 cp,.int .i64 l.number,.int .i64 l.flag,.slice an l.next.length cn] 115)) vm vt w2:=(aN.of (jh _)).trans (aN.of h2))
  |(go_at_call 60;go_fit (KD _ iN _ g2 c2 zk);rintro e w3 ⟨rfl,vm3,vt3,h3,r3⟩))
 all_goals go_wp2_with fail
 all_goals
  go_end0
  exact⟨rfl,vm3,vt3,h3,((aN.of aY).trans r2a).trans r3⟩
end
end Own
namespace Own
open Go Go.RowKit Sq Aux PrjJ PrjK PrjL PrjM PrjS PrjT FlwA FlwB FlwD FlwE
section
variable {x a:Nat} {w w0 w1:World} {vm vt vi vm1 vt1:Value} {o:Own}
set_option maxRecDepth 20000 in
set_option maxHeartbeats 4000000 in
theorem Us (h:dp w0 x a w o vi vm vt){z nl nb:Nat}{l:ab}{ap an:Option Addr}{cp cn:Nat}(hl:bq z w l (.slice ap l.places.length cp) (.slice an l.next.length cn))(hk:tS nl nb l)(lh:nl<=12)(ax:l.op=12){t:Nat}(hs:o.yd.Sz t)(ht:t+100<=9000000)(qw:Pow w0)(oM:11<=w0.heap.size)(kf:o.Bx){q:QP}{v u:Value}(hq:PQ w0 a q v u)(hnq:nl=q.locals.length)(T7:(QP.ae q (l.places.getD 0 (0,0))).length=(QP.ae q (l.places.getD 1 (0,0))).length):
  Calls Tryz.prog 65 #[.pointer (some ⟨x,0,none⟩),.agg #[.int .i64 (l.num:Nat),.int .i64 (l.op:Nat),.slice ap l.places.length cp,.int .i64 l.number,.int .i64 l.flag,.slice an l.next.length cn]] w fun e w'=>e=.returned (.tuple #[])/\(∃vm' vt',dp w0 x a w' (o.move (QP.ae q (l.places.getD 0 (0,0))) (QP.ae q (l.places.getD 1 (0,0)))) vi vm' vt'/\aN x vm vt w vm' vt' w'):=by
 have hlen:l.places.length=2:=by rw[hk.cQ,ax];rfl
 have aY:Below w.heap.size w (w.alloc (.cells #[.int .i64 (l.num:Nat),.int .i64 (l.op:Nat),.slice ap l.places.length cp,.int .i64 l.number,.int .i64 l.flag,.slice an l.next.length cn] 115)):=(Below.refl _ _).alloc (jC _) _;obtain⟨g,rfl,qm,hg,-,-⟩:=bo hl hlen 0 (by omega);have gM:w.ownsRow z 119 2 (.slice (some ⟨g,0,none⟩) l.places.length cp) l.places.length (bL l.places):=hl.places;have fZ:=ay gM aY;have pc:∀W:World,W.ownsRow z 119 2 (.slice (some ⟨g,0,none⟩) l.places.length cp) l.places.length (bL l.places)->W.cell? ⟨g,0,none⟩=some (.int .i64 ((l.places.getD 0 (0,0)).1:Nat))/\W.cell? ⟨g,1,none⟩=some (.int .i64 ((l.places.getD 0 (0,0)).2:Nat))/\W.cell? ⟨g,2,none⟩=some (.int .i64 ((l.places.getD 1 (0,0)).1:Nat))/\W.cell? ⟨g,3,none⟩=some (.int .i64 ((l.places.getD 1 (0,0)).2:Nat)):=fun W hW=>⟨(bC hW (j:=0) (by omega)).1,(bC hW (j:=0) (by omega)).2,(bC hW (j:=1) (by omega)).1,(bC hW (j:=1) (by omega)).2⟩
 have hx:∀j,j<2->(l.places.getD j (0,0)).1<nl:=fun j hj=>(hk.places (l.places.getD j (0,0)) (by rw[jA,jB (by omega)];exact jL _)).1
 have x0:=hx 0 (by omega);have x1:=hx 1 (by omega);have HA:=h.below aY;have Mq:Hid (_):=fZ;have HP:Hid (_):=gM;have PC:Hid (_):=pc;have hd:=pc _ fZ;rw[hlen]at aY HA hd;rw[hlen];clear hx hl hk pc gM fZ;have b2:(((l.op:Nat):Int)==2)=false:=by rw[ax];rfl
 have b3:(((l.op:Nat):Int)==3)=false:=by rw[ax];rfl
 have b4:(((l.op:Nat):Int)==4)=false:=by rw[ax];rfl
 have b5:(((l.op:Nat):Int)==5)=false:=by rw[ax];rfl
 have b7:(((l.op:Nat):Int)==7)=false:=by rw[ax];rfl
 have b8:(((l.op:Nat):Int)==8)=false:=by rw[ax];rfl
 have b10:(((l.op:Nat):Int)==10)=false:=by rw[ax];rfl
 have b11:(((l.op:Nat):Int)==11)=false:=by rw[ax];rfl
 have b12:(((l.op:Nat):Int)==12)=true:=by rw[ax];rfl
 have b14:(((l.op:Nat):Int)==14)=false:=by rw[ax];rfl
 have b13:(((l.op:Nat):Int)==13)=false:=by rw[ax];rfl
 have b15:(((l.op:Nat):Int)==15)=false:=by rw[ax];rfl
 generalize l.places.getD 0 (0,0)=p0 at*;generalize l.places.getD 1 (0,0)=p1 at*;clear ax;obtain⟨d0,d1,d2,d3⟩:=hd;have x0i:(p0.1:Int)<12:=by omega
 have zw:∀{vm2 vt2:Value} {W:World},aN x vm vt (w.alloc (.cells #[.int .i64 (l.num:Nat),.int .i64 (l.op:Nat),.slice (some ⟨g,0,none⟩) 2 cp,.int .i64 l.number,.int .i64 l.flag,.slice an l.next.length cn] 115)) vm2 vt2 W->W.ownsRow z 119 2 (.slice (some ⟨g,0,none⟩) l.places.length cp) l.places.length (bL l.places):=fun hr=>HA.df (by have:=Mq.out;rw[hlen]at this;rw[hlen];exact this) (.inr rfl) hr
 have x0q:p0.1<q.locals.length:=by omega
 have x1q:p1.1<q.locals.length:=by omega
 have XG:=cD (q:=q) (x:=p0) (n:=12) (by omega);have XH:=cD (q:=q) (x:=p1) (n:=12) (by omega);have hlq:(QP.ae q p0).length<=2:=by unfold QP.ae;split<;>simp
 have m3:=HA.prog;have Zf:=fun(W:World) (hW:dp w0 x a W o vi vm vt)=>ef q p0 v u a W (hq.below hW.br).aJ (hq.below hW.br).loc x0q
 have Zg:=fun(W:World) (hW:dp w0 x a W o vi vm vt)=>ef q p1 v u a W (hq.below hW.br).aJ (hq.below hW.br).loc x1q
 have KM:=fun(W:World) (hW:dp w0 x a W o vi vm vt) (z1 z2 g1 g2 c1 c2:Nat) (Gz:bP z1 W (.slice (some ⟨g1,0,none⟩) (QP.ae q p0).length c1) (QP.ae q p0)) (zk:bP z2 W (.slice (some ⟨g2,0,none⟩) (QP.ae q p1).length c2) (QP.ae q p1))=>Ic hW Gz zk XG XH (by omega) T7 kf hs (by omega) qw oM
 clear T7;clear hlen;go_enter Tryz.func65,Tryz.ntmps65
 go_wp2
 go_region_held3 (fun W=>W.cell? ⟨g,0,none⟩=some (.int .i64 (p0.1:Nat))/\W.cell? ⟨g,1,none⟩=some (.int .i64 (p0.2:Nat))/\W.cell? ⟨g,2,none⟩=some (.int .i64 (p1.1:Nat))/\W.cell? ⟨g,3,none⟩=some (.int .i64 (p1.2:Nat))/\W.cell? ⟨x,3,none⟩=some (.pointer (some ⟨a,0,none⟩))) (go_keep)
  (first
  |(go_at_call 107;have _:=tk0;go_fit (KM _ iN _ _ g1 g2 c1 c2 J9 zk);rintro e w3 ⟨rfl,vm3,vt3,h3,r3⟩;obtain⟨k0,k1,k2,k3⟩:=PC.out _ (zw (r2a.trans r3));have m4:=h3.prog)
  |(go_at_call 107;have _:=tk1;go_fit (KM _ iN _ _ g2 g1 c2 c1 zk J9);rintro e w3 ⟨rfl,vm3,vt3,h3,r3⟩;obtain⟨k0,k1,k2,k3⟩:=PC.out _ (zw (r2a.trans r3));have m4:=h3.prog)
  |(go_at_call 102;have _:=tk0;go_fit (Zg _ mo);rintro e w2 ⟨g2,c2,rfl,zk,h2⟩;have iN:=mo.below h2;have r2a:=r1a.trans (aN.of h2 (x:=x) (vm:=vm) (vt:=vt));obtain⟨f0,f1,f2,f3⟩:=PC.out _ (zw r2a);have m2:=iN.prog;have J9:=ay Gz h2)
  |(go_at_call 102;have _:=tk1;go_fit (Zf _ mo);rintro e w2 ⟨g2,c2,rfl,zk,h2⟩;have iN:=mo.below h2;have r2a:=r1a.trans (aN.of h2 (x:=x) (vm:=vm) (vt:=vt));obtain⟨f0,f1,f2,f3⟩:=PC.out _ (zw r2a);have m2:=iN.prog;have J9:=ay Gz h2)
  |(go_at_call 102;go_fit (Zf _ HA.drew);rintro e w1 ⟨g1,c1,rfl,Gz,h1⟩;have mo:=HA.drew.below h1;have r1a:aN x vm vt (w.alloc (.cells #[.int .i64 (l.num:Nat),.int .i64 (l.op:Nat),.slice (some ⟨g,0,none⟩) 2 cp,.int .i64 l.number,.int .i64 l.flag,.slice an l.next.length cn] 115)) vm vt w1:=(aN.of (jh _)).trans (aN.of h1);obtain⟨e0,e1,e2,e3⟩:=PC.out _ (zw r1a);have m1:=mo.prog;have tk0:True:=trivial)
  |(go_at_call 102;go_fit (Zg _ HA.drew);rintro e w1 ⟨g1,c1,rfl,Gz,h1⟩;have mo:=HA.drew.below h1;have r1a:aN x vm vt (w.alloc (.cells #[.int .i64 (l.num:Nat),.int .i64 (l.op:Nat),.slice (some ⟨g,0,none⟩) 2 cp,.int .i64 l.number,.int .i64 l.flag,.slice an l.next.length cn] 115)) vm vt w1:=(aN.of (jh _)).trans (aN.of h1);obtain⟨e0,e1,e2,e3⟩:=PC.out _ (zw r1a);have m1:=mo.prog;have tk1:True:=trivial))
 all_goals go_wp2_with fail
 all_goals
  go_end0
  exact⟨rfl,vm3,vt3,h3,((aN.of aY).trans r2a).trans r3⟩
set_option maxRecDepth 20000 in
set_option maxHeartbeats 4000000 in
theorem Uu (h:dp w0 x a w o vi vm vt){z nl nb:Nat}{l:ab}{ap an:Option Addr}{cp cn:Nat}(hl:bq z w l (.slice ap l.places.length cp) (.slice an l.next.length cn))(hk:tS nl nb l)(lh:nl<=12)(ax:l.op=14){t:Nat}(hs:o.yd.Sz t)(ht:t+100<=9000000)(qw:Pow w0)(oM:11<=w0.heap.size)(kf:o.Bx){q:QP}{v u:Value}(hq:PQ w0 a q v u)(hnq:nl=q.locals.length)(T7:(QP.ae q (l.places.getD 0 (0,0))).length=(QP.ae q (l.places.getD 1 (0,0))).length):
  Calls Tryz.prog 65 #[.pointer (some ⟨x,0,none⟩),.agg #[.int .i64 (l.num:Nat),.int .i64 (l.op:Nat),.slice ap l.places.length cp,.int .i64 l.number,.int .i64 l.flag,.slice an l.next.length cn]] w fun e w'=>e=.returned (.tuple #[])/\(∃vm' vt',dp w0 x a w' (o.move (QP.ae q (l.places.getD 0 (0,0))) (QP.ae q (l.places.getD 1 (0,0)))) vi vm' vt'/\aN x vm vt w vm' vt' w'):=by
 have hlen:l.places.length=2:=by rw[hk.cQ,ax];rfl
 have aY:Below w.heap.size w (w.alloc (.cells #[.int .i64 (l.num:Nat),.int .i64 (l.op:Nat),.slice ap l.places.length cp,.int .i64 l.number,.int .i64 l.flag,.slice an l.next.length cn] 115)):=(Below.refl _ _).alloc (jC _) _;obtain⟨g,rfl,qm,hg,-,-⟩:=bo hl hlen 0 (by omega);have gM:w.ownsRow z 119 2 (.slice (some ⟨g,0,none⟩) l.places.length cp) l.places.length (bL l.places):=hl.places;have fZ:=ay gM aY;have pc:∀W:World,W.ownsRow z 119 2 (.slice (some ⟨g,0,none⟩) l.places.length cp) l.places.length (bL l.places)->W.cell? ⟨g,0,none⟩=some (.int .i64 ((l.places.getD 0 (0,0)).1:Nat))/\W.cell? ⟨g,1,none⟩=some (.int .i64 ((l.places.getD 0 (0,0)).2:Nat))/\W.cell? ⟨g,2,none⟩=some (.int .i64 ((l.places.getD 1 (0,0)).1:Nat))/\W.cell? ⟨g,3,none⟩=some (.int .i64 ((l.places.getD 1 (0,0)).2:Nat)):=fun W hW=>⟨(bC hW (j:=0) (by omega)).1,(bC hW (j:=0) (by omega)).2,(bC hW (j:=1) (by omega)).1,(bC hW (j:=1) (by omega)).2⟩
 have hx:∀j,j<2->(l.places.getD j (0,0)).1<nl:=fun j hj=>(hk.places (l.places.getD j (0,0)) (by rw[jA,jB (by omega)];exact jL _)).1
 have x0:=hx 0 (by omega);have x1:=hx 1 (by omega);have HA:=h.below aY;have Mq:Hid (_):=fZ;have HP:Hid (_):=gM;have PC:Hid (_):=pc;have hd:=pc _ fZ;rw[hlen]at aY HA hd;rw[hlen];clear hx hl hk pc gM fZ;have b2:(((l.op:Nat):Int)==2)=false:=by rw[ax];rfl
 have b3:(((l.op:Nat):Int)==3)=false:=by rw[ax];rfl
 have b4:(((l.op:Nat):Int)==4)=false:=by rw[ax];rfl
 have b5:(((l.op:Nat):Int)==5)=false:=by rw[ax];rfl
 have b7:(((l.op:Nat):Int)==7)=false:=by rw[ax];rfl
 have b8:(((l.op:Nat):Int)==8)=false:=by rw[ax];rfl
 have b10:(((l.op:Nat):Int)==10)=false:=by rw[ax];rfl
 have b11:(((l.op:Nat):Int)==11)=false:=by rw[ax];rfl
 have b12:(((l.op:Nat):Int)==12)=false:=by rw[ax];rfl
 have b14:(((l.op:Nat):Int)==14)=true:=by rw[ax];rfl
 have b13:(((l.op:Nat):Int)==13)=false:=by rw[ax];rfl
 have b15:(((l.op:Nat):Int)==15)=false:=by rw[ax];rfl
 generalize l.places.getD 0 (0,0)=p0 at*;generalize l.places.getD 1 (0,0)=p1 at*;clear ax;obtain⟨d0,d1,d2,d3⟩:=hd;have x0i:(p0.1:Int)<12:=by omega
 have zw:∀{vm2 vt2:Value} {W:World},aN x vm vt (w.alloc (.cells #[.int .i64 (l.num:Nat),.int .i64 (l.op:Nat),.slice (some ⟨g,0,none⟩) 2 cp,.int .i64 l.number,.int .i64 l.flag,.slice an l.next.length cn] 115)) vm2 vt2 W->W.ownsRow z 119 2 (.slice (some ⟨g,0,none⟩) l.places.length cp) l.places.length (bL l.places):=fun hr=>HA.df (by have:=Mq.out;rw[hlen]at this;rw[hlen];exact this) (.inr rfl) hr
 have x0q:p0.1<q.locals.length:=by omega
 have x1q:p1.1<q.locals.length:=by omega
 have XG:=cD (q:=q) (x:=p0) (n:=12) (by omega);have XH:=cD (q:=q) (x:=p1) (n:=12) (by omega);have hlq:(QP.ae q p0).length<=2:=by unfold QP.ae;split<;>simp
 have m3:=HA.prog;have Zf:=fun(W:World) (hW:dp w0 x a W o vi vm vt)=>ef q p0 v u a W (hq.below hW.br).aJ (hq.below hW.br).loc x0q
 have Zg:=fun(W:World) (hW:dp w0 x a W o vi vm vt)=>ef q p1 v u a W (hq.below hW.br).aJ (hq.below hW.br).loc x1q
 have KM:=fun(W:World) (hW:dp w0 x a W o vi vm vt) (z1 z2 g1 g2 c1 c2:Nat) (Gz:bP z1 W (.slice (some ⟨g1,0,none⟩) (QP.ae q p0).length c1) (QP.ae q p0)) (zk:bP z2 W (.slice (some ⟨g2,0,none⟩) (QP.ae q p1).length c2) (QP.ae q p1))=>Ic hW Gz zk XG XH (by omega) T7 kf hs (by omega) qw oM
 clear T7;clear hlen;go_enter Tryz.func65,Tryz.ntmps65
 go_wp2
 go_region_held3 (fun W=>W.cell? ⟨g,0,none⟩=some (.int .i64 (p0.1:Nat))/\W.cell? ⟨g,1,none⟩=some (.int .i64 (p0.2:Nat))/\W.cell? ⟨g,2,none⟩=some (.int .i64 (p1.1:Nat))/\W.cell? ⟨g,3,none⟩=some (.int .i64 (p1.2:Nat))/\W.cell? ⟨x,3,none⟩=some (.pointer (some ⟨a,0,none⟩))) (go_keep)
  (first
  |(go_at_call 107;have _:=tk0;go_fit (KM _ iN _ _ g1 g2 c1 c2 J9 zk);rintro e w3 ⟨rfl,vm3,vt3,h3,r3⟩;obtain⟨k0,k1,k2,k3⟩:=PC.out _ (zw (r2a.trans r3));have m4:=h3.prog)
  |(go_at_call 107;have _:=tk1;go_fit (KM _ iN _ _ g2 g1 c2 c1 zk J9);rintro e w3 ⟨rfl,vm3,vt3,h3,r3⟩;obtain⟨k0,k1,k2,k3⟩:=PC.out _ (zw (r2a.trans r3));have m4:=h3.prog)
  |(go_at_call 102;have _:=tk0;go_fit (Zg _ mo);rintro e w2 ⟨g2,c2,rfl,zk,h2⟩;have iN:=mo.below h2;have r2a:=r1a.trans (aN.of h2 (x:=x) (vm:=vm) (vt:=vt));obtain⟨f0,f1,f2,f3⟩:=PC.out _ (zw r2a);have m2:=iN.prog;have J9:=ay Gz h2)
  |(go_at_call 102;have _:=tk1;go_fit (Zf _ mo);rintro e w2 ⟨g2,c2,rfl,zk,h2⟩;have iN:=mo.below h2;have r2a:=r1a.trans (aN.of h2 (x:=x) (vm:=vm) (vt:=vt));obtain⟨f0,f1,f2,f3⟩:=PC.out _ (zw r2a);have m2:=iN.prog;have J9:=ay Gz h2)
  |(go_at_call 102;go_fit (Zf _ HA.drew);rintro e w1 ⟨g1,c1,rfl,Gz,h1⟩;have mo:=HA.drew.below h1;have r1a:aN x vm vt (w.alloc (.cells #[.int .i64 (l.num:Nat),.int .i64 (l.op:Nat),.slice (some ⟨g,0,none⟩) 2 cp,.int .i64 l.number,.int .i64 l.flag,.slice an l.next.length cn] 115)) vm vt w1:=(aN.of (jh _)).trans (aN.of h1);obtain⟨e0,e1,e2,e3⟩:=PC.out _ (zw r1a);have m1:=mo.prog;have tk0:True:=trivial)
  |(go_at_call 102;go_fit (Zg _ HA.drew);rintro e w1 ⟨g1,c1,rfl,Gz,h1⟩;have mo:=HA.drew.below h1;have r1a:aN x vm vt (w.alloc (.cells #[.int .i64 (l.num:Nat),.int .i64 (l.op:Nat),.slice (some ⟨g,0,none⟩) 2 cp,.int .i64 l.number,.int .i64 l.flag,.slice an l.next.length cn] 115)) vm vt w1:=(aN.of (jh _)).trans (aN.of h1);obtain⟨e0,e1,e2,e3⟩:=PC.out _ (zw r1a);have m1:=mo.prog;have tk1:True:=trivial))
 all_goals go_wp2_with fail
 all_goals
  go_end0
  exact⟨rfl,vm3,vt3,h3,((aN.of aY).trans r2a).trans r3⟩
end
end Own
namespace Own
open Go Go.RowKit Sq Aux PrjJ PrjK PrjL PrjM PrjS PrjT FlwA FlwB FlwD FlwE
section
variable {x a:Nat} {w w0 w1:World} {vm vt vi vm1 vt1:Value} {o:Own}
set_option maxRecDepth 20000 in
set_option maxHeartbeats 1000000 in
theorem Ed (h:dp w0 x a w o vi vm vt){z nl nb:Nat}{l:ab}{ap an:Option Addr}{cp cn:Nat}(hl:bq z w l (.slice ap l.places.length cp) (.slice an l.next.length cn))(hk:tS nl nb l)(lh:nl<=12)
  (ax:l.op=3\/l.op=4\/l.op=5) (hr:∀n∈o.ints,aO n):
  Calls Tryz.prog 65 #[.pointer (some ⟨x,0,none⟩),.agg #[.int .i64 (l.num:Nat),.int .i64 (l.op:Nat),.slice ap l.places.length cp,.int .i64 l.number,.int .i64 l.flag,.slice an l.next.length cn]] w fun e w'=>
   e=.returned (.tuple #[])/\dp w0 x a w' (o.calc l) vi vm vt/\aN x vm vt w vm vt w':=by
 have aY:Below w.heap.size w (w.alloc (.cells #[.int .i64 (l.num:Nat),.int .i64 (l.op:Nat),.slice ap l.places.length cp,.int .i64 l.number,.int .i64 l.flag,.slice an l.next.length cn] 115)):=(Below.refl _ _).alloc (jC _) _;have KC:=sD (h.below aY) (hl.below aY) hk lh (by omega) (fun e=>by omega) hr;have hC:Hid (({o with ints:=o.ints.set (ab.pl l 0).1 (vf l.op (o.num (ab.pl l 1)) (o.num (ab.pl l 2)))}:Own)=o.calc l):=rfl;rw[hC.out]at KC;clear hl hk hC;rcases ax with e|e|e
 all_goals
  have b2:(((l.op:Nat):Int)==2)=false:=by rw[e];rfl
  have b3:(((l.op:Nat):Int)==3)=decide (l.op=3):=by rw[e];rfl
  have b4:(((l.op:Nat):Int)==4)=decide (l.op=4):=by rw[e];rfl
  have b5:(((l.op:Nat):Int)==5)=decide (l.op=5):=by rw[e];rfl
  simp only[e]at b3 b4 b5;simp only[Nat.reduceEqDiff,decide_true,decide_false]at b3 b4 b5;rw[<-e]at b3 b4 b5;clear e;go_enter Tryz.func65,Tryz.ntmps65
  go_wp2_with (go_at_call 59;go_fit KC;rintro e w2 ⟨rfl,h2,r2⟩)
  go_end0
  exact⟨rfl,h2,(aN.of aY).trans r2⟩
def ko (op:Nat):Prop:=op=2\/op=3\/op=4\/op=5\/op=7\/op=8\/op=10\/op=11\/op=12\/op=13\/op=14\/op=15
theorem W7 (h:dp w0 x a w o vi vm vt){z nb t:Nat}{q:QP}{v u:Value}{l:ab}{ap an:Option Addr}{cp cn:Nat}(hl:bq z w l (.slice ap l.places.length cp) (.slice an l.next.length cn))(hk:tS q.locals.length nb l)(lh:q.locals.length<=12)
  (ax:ko l.op) (lg:o.In t) (ht:t<=900000) (sK:o.bE l=true) (hq:PQ w0 a q v u) (T7:l.op=12\/l.op=14->(QP.ae q (ai l 0)).length=(QP.ae q (ai l 1)).length) (qw:Pow w0) (oM:11<=w0.heap.size):
  Calls Tryz.prog 65 #[.pointer (some ⟨x,0,none⟩),.agg #[.int .i64 (l.num:Nat),.int .i64 (l.op:Nat),.slice ap l.places.length cp,.int .i64 l.number,.int .i64 l.flag,.slice an l.next.length cn]] w fun e w'=>
   e=.returned (.tuple #[])/\∃vi' vm' vt',dp w0 x a w' (o.fz q l) vi' vm' vt'/\aN x vm vt w vm' vt' w':=by
 have hs:=lg.sz (by omega);have Om:t+100<=9000000:=by omega
 unfold ai at T7;rcases ax with e|e|e|e|e|e|e|e|e|e|e|e
 ·have hd:o.fz q l={o with ints:=o.ints.set (l.places.getD 0 (0,0)).1 l.number}:=by unfold Own.fz;rw[jb e];rfl
  rw[hd];exact(W9 h hl hk lh e).mono fun e w' ⟨h0,h1,h2⟩=>⟨h0,vi,vm,vt,h1,h2⟩
 ·have hd:o.fz q l=o.calc l:=by unfold Own.fz;rw[ja (by omega),jb (by omega)]
  rw[hd];exact(Ed h hl hk lh (by omega) lg.rk).mono fun e w' ⟨h0,h1,h2⟩=>⟨h0,vi,vm,vt,h1,h2⟩
 ·have hd:o.fz q l=o.calc l:=by unfold Own.fz;rw[ja (by omega),jb (by omega)]
  rw[hd];exact(Ed h hl hk lh (by omega) lg.rk).mono fun e w' ⟨h0,h1,h2⟩=>⟨h0,vi,vm,vt,h1,h2⟩
 ·have hd:o.fz q l=o.calc l:=by unfold Own.fz;rw[ja (by omega),jb (by omega)]
  rw[hd];exact(Ed h hl hk lh (by omega) lg.rk).mono fun e w' ⟨h0,h1,h2⟩=>⟨h0,vi,vm,vt,h1,h2⟩
 ·have hd:o.fz q l={o with al:=o.al.tail,ints:=o.ints.set (l.places.getD 0 (0,0)).1 (o.al.headD 0)}:=by unfold Own.fz;rw[ja (by omega),ja (by omega),jb e];rfl
  rw[hd];exact(Zk h hl hk lh e).mono fun e w' ⟨h0,⟨vi',h1⟩,h2⟩=>⟨h0,vi',vm,vt,h1,h2⟩
 ·have hd:o.fz q l={o with yd:=o.yd.note 111 (o.num (l.places.getD 0 (0,0)))}:=by unfold Own.fz;rw[ja (by omega),ja (by omega),ja (by omega),jb e];rfl
  rw[hd];exact(W8 h hl hk lh e hs Om qw oM lg.rk).mono fun e w' ⟨h0,vm',vt',h1,h2⟩=>⟨h0,vi,vm',vt',h1,h2⟩
 ·have hd:o.fz q l={o with yd:=o.yd.load (o.box (l.places.getD 1 (0,0))),ints:=o.ints.set (l.places.getD 0 (0,0)).1 (o.yd.at (o.box (l.places.getD 1 (0,0)))).1}:=by unfold Own.fz;rw[ja (by omega),ja (by omega),ja (by omega),ja (by omega),jb e];rfl
  have hn:1<=o.box (l.places.getD 1 (0,0)):=by unfold Own.bE at sK;rw[jb e]at sK;exact of_decide_eq_true sK
  rw[hd];exact(Ur h hl hk lh e hs Om qw oM lg.bx hn).mono fun e w' ⟨h0,vm',vt',h1,h2⟩=>⟨h0,vi,vm',vt',h1,h2⟩
 ·have hd:o.fz q l={o with yd:=o.yd.store (o.box (l.places.getD 0 (0,0))) (o.num (l.places.getD 1 (0,0)))}:=by unfold Own.fz;rw[ja (by omega),ja (by omega),ja (by omega),ja (by omega),ja (by omega),jb e];rfl
  have hn:1<=o.box (l.places.getD 0 (0,0)):=by unfold Own.bE at sK;rw[ja (by omega),jb e]at sK;exact of_decide_eq_true sK
  rw[hd];exact(QF h hl hk lh e hs Om qw oM lg.bx hn).mono fun e w' ⟨h0,vm',vt',h1,h2⟩=>⟨h0,vi,vm',vt',h1,h2⟩
 ·have hd:o.fz q l=o.move (QP.ae q (l.places.getD 0 (0,0))) (QP.ae q (l.places.getD 1 (0,0))):=by unfold Own.fz;rw[ja (by omega),ja (by omega),ja (by omega),ja (by omega),ja (by omega),ja (by omega),jb (by omega)];rfl
  rw[hd];exact(Us h hl hk lh e hs Om qw oM lg.bx hq rfl (T7 (.inl e))).mono fun e w' ⟨h0,vm',vt',h1,h2⟩=>⟨h0,vi,vm',vt',h1,h2⟩
 ·have hd:o.fz q l=o.drop (QP.ae q (l.places.getD 0 (0,0))):=by unfold Own.fz;rw[ja (by omega),ja (by omega),ja (by omega),ja (by omega),ja (by omega),ja (by omega),ja (by omega),jb (by omega)];rfl
  rw[hd];exact(Ut h hl hk lh e hs Om qw oM lg.bx hq rfl).mono fun e w' ⟨h0,vm',vt',h1,h2⟩=>⟨h0,vi,vm',vt',h1,h2⟩
 ·have hd:o.fz q l=o.move (QP.ae q (l.places.getD 0 (0,0))) (QP.ae q (l.places.getD 1 (0,0))):=by unfold Own.fz;rw[ja (by omega),ja (by omega),ja (by omega),ja (by omega),ja (by omega),ja (by omega),jb (by omega)];rfl
  rw[hd];exact(Uu h hl hk lh e hs Om qw oM lg.bx hq rfl (T7 (.inr e))).mono fun e w' ⟨h0,vm',vt',h1,h2⟩=>⟨h0,vi,vm',vt',h1,h2⟩
 ·have hd:o.fz q l=o.drop (QP.ae q (l.places.getD 0 (0,0))):=by unfold Own.fz;rw[ja (by omega),ja (by omega),ja (by omega),ja (by omega),ja (by omega),ja (by omega),ja (by omega),jb (by omega)];rfl
  rw[hd];exact(Uq h hl hk lh e hs Om qw oM lg.bx hq rfl).mono fun e w' ⟨h0,vm',vt',h1,h2⟩=>⟨h0,vi,vm',vt',h1,h2⟩
end
end Own
end Go.Proofs.YtmlgajhhnojdjaaGreatDoor

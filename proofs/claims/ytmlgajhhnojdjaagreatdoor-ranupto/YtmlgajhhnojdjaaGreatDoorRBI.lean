import Derived.Test.YtmlgajhhnojdjaaGreatDoorRBH
namespace Go.Proofs.YtmlgajhhnojdjaaGreatDoor
namespace Own
open Go Go.RowKit Sq Aux PrjJ PrjK PrjL PrjM PrjS FlwA FlwE
def ab.pl (l:ab)(j:Nat):Nat×Nat:=l.places.getD j (0,0)
section
variable {x a:Nat} {w w0:World} {vm vt vi:Value} {o:Own}
set_option maxRecDepth 20000 in
set_option maxHeartbeats 4000000 in
theorem sD (h:dp w0 x a w o vi vm vt){z nl nb:Nat}{l:ab}{ap an:Option Addr}{cp cn:Nat}(hl:bq z w l (.slice ap l.places.length cp) (.slice an l.next.length cn))(hk:tS nl nb l)(lh:nl<=12)
  (ho:l.op=3\/l.op=4\/l.op=5\/l.op=6) (hd:l.op=6->¬o.num (ab.pl l 2)=0) (hr:∀n∈o.ints,aO n):
  Calls Tryz.prog 59 #[.pointer (some ⟨x,0,none⟩),.agg #[.int .i64 (l.num:Nat),.int .i64 (l.op:Nat),.slice ap l.places.length cp,.int .i64 l.number,.int .i64 l.flag,.slice an l.next.length cn]] w fun e w'=>
   e=.returned (.tuple #[])/\dp w0 x a w' {o with ints:=o.ints.set (ab.pl l 0).1 (vf l.op (o.num (ab.pl l 1)) (o.num (ab.pl l 2)))} vi vm vt/\aN x vm vt w vm vt w':=by
 have hlen:l.places.length=3:=by rcases ho with e|e|e|e<;>(rw[hk.cQ,e];rfl)
 have aY:Below w.heap.size w (w.alloc (.cells #[.int .i64 (l.num:Nat),.int .i64 (l.op:Nat),.slice ap l.places.length cp,.int .i64 l.number,.int .i64 l.flag,.slice an l.next.length cn] 115)):=(Below.refl _ _).alloc (jC _) _;obtain⟨g,rfl,qm,hg,c1,c2⟩:=bo hl hlen 0 (by omega);obtain⟨g',e',-,-,c3,c4⟩:=bo hl hlen 1 (by omega);simp only[Option.some.injEq,Addr.mk.injEq,and_true]at e';subst e';obtain⟨g',e',-,-,c5,c6⟩:=bo hl hlen 2 (by omega);simp only[Option.some.injEq,Addr.mk.injEq,and_true]at e';subst e';have HPL:Hid (_):=hl.places;have hx:∀j,j<3->(ab.pl l j).1<12:=fun j hj=>by
  have:=(hk.places (l.places.getD j (0,0)) (by rw[jA,jB (by omega)];exact jL _)).1;show(l.places.getD j (0,0)).1<12
  omega
 have x0:=hx 0 (by omega);have x1:=hx 1 (by omega);have x2:=hx 2 (by omega);have hri:∀p:Nat×Nat,p.1<12->aO (o.num p):=fun p hp=>hr _ (by
  unfold Own.num;rw[jA,jB (by rw[h.ints];exact hp)];exact jL _)
 have r1:=hri _ x1;have r2:=hri _ x2;have KC:=fun w'=>As l.op (o.num (ab.pl l 1)) (o.num (ab.pl l 2)) w' hd ho r1 r2
 unfold ab.pl at*;have HA:=h.below aY;have KN1:=fun(W:World) (hb:Below w.heap.size w W)=>ej (h.below hb) (l.places.getD 1 (0,0)) x1
 have KN2:=fun(W:World) (hb:Below w.heap.size w W)=>ej (h.below hb) (l.places.getD 2 (0,0)) x2
 have hb:∀W,Below w.heap.size w W->(W.cell? ⟨g,0,none⟩=some (.int .i64 ((l.places.getD 0 (0,0)).1:Nat))/\W.cell? ⟨g,2,none⟩=some (.int .i64 ((l.places.getD 1 (0,0)).1:Nat))/\W.cell? ⟨g,3,none⟩=some (.int .i64 ((l.places.getD 1 (0,0)).2:Nat))/\W.cell? ⟨g,4,none⟩=some (.int .i64 ((l.places.getD 2 (0,0)).1:Nat))/\W.cell? ⟨g,5,none⟩=some (.int .i64 ((l.places.getD 2 (0,0)).2:Nat))):=fun W hW=>
  ⟨(hW.cell (p:=⟨g,0,none⟩) hg).trans c1,(hW.cell (p:=⟨g,2,none⟩) hg).trans c3,(hW.cell (p:=⟨g,3,none⟩) hg).trans c4,(hW.cell (p:=⟨g,4,none⟩) hg).trans c5,(hW.cell (p:=⟨g,5,none⟩) hg).trans c6⟩
 obtain⟨d0,d2,d3,d4,d5⟩:=hb _ aY;have x0i:((l.places.getD 0 (0,0)).1:Int)<12:=by omega
 rw[hlen]at aY d0 d2 d3 d4 d5 HA⊢;clear hx c1 c2 c3 c4 c5 c6 hl hk;generalize l.places.getD 0 (0,0)=p0 at*;generalize l.places.getD 1 (0,0)=p1 at*;generalize l.places.getD 2 (0,0)=p2 at*;clear hlen;go_enter Tryz.func59,Tryz.ntmps59
 go_wp2
 have YM:Below w.heap.size w (w.alloc (.cells #[.int .i64 (l.num:Nat),.int .i64 (l.op:Nat),.slice (some ⟨g,0,none⟩) 3 cp,.int .i64 l.number,.int .i64 l.flag,.slice an l.next.length cn] 115)).drew:=⟨aY.os,aY.tape,aY.output,aY.size,aY.block⟩;have Zq:∀W,Below (w.alloc (.cells #[.int .i64 (l.num:Nat),.int .i64 (l.op:Nat),.slice (some ⟨g,0,none⟩) 3 cp,.int .i64 l.number,.int .i64 l.flag,.slice an l.next.length cn] 115)).heap.size (w.alloc (.cells #[.int .i64 (l.num:Nat),.int .i64 (l.op:Nat),.slice (some ⟨g,0,none⟩) 3 cp,.int .i64 l.number,.int .i64 l.flag,.slice an l.next.length cn] 115)) W->W.cell? ⟨w.heap.size,1,none⟩=some (.int .i64 (l.op:Nat)):=fun W hW=>(hW.cell (p:=⟨w.heap.size,1,none⟩) (by simp)).trans (by rw[cell_of_heap jD];rfl)
 have Y0:x≠g:=fun e=>by
  have h1:=h.kb.aJ;rw[e]at h1;exact au HPL.out h1 (by decide) rfl
 have hxw:x≠w.heap.size:=by have:=h.lt;omega
 have hgx:g≠x:=fun e=>Y0 e.symm
 have hwx:w.heap.size≠x:=fun e=>hxw e.symm
 have y0:=Zq _ (Below.refl _ _);go_region_held3 (fun W=>W.cell? ⟨g,0,none⟩=some (.int .i64 (p0.1:Nat))/\W.cell? ⟨g,2,none⟩=some (.int .i64 (p1.1:Nat))/\W.cell? ⟨g,3,none⟩=some (.int .i64 (p1.2:Nat))/\W.cell? ⟨g,4,none⟩=some (.int .i64 (p2.1:Nat))/\W.cell? ⟨g,5,none⟩=some (.int .i64 (p2.2:Nat))/\W.cell? ⟨w.heap.size,1,none⟩=some (.int .i64 (l.op:Nat))) (go_keep)
  (first
  |(go_at_call 95;go_fit (KC _);rintro e w3 ⟨rfl,rfl⟩)
  |(go_at_call 58;go_fit (KN2 _ aw);rintro e w2 ⟨rfl,h2⟩;have bU:Below w.heap.size w w2:=aw.trans (h2.mono aw.size);have y2:=Zq _ (lv.trans (h2.mono lv.size));obtain⟨v0,v2,v3,v4,v5⟩:=hb _ bU;obtain⟨q1,q2⟩:=(h.below bU).int x0)
  |(go_at_call 58;go_fit (KN1 _ aw);rintro e w2 ⟨rfl,h2⟩;have bU:Below w.heap.size w w2:=aw.trans (h2.mono aw.size);have y2:=Zq _ (lv.trans (h2.mono lv.size));obtain⟨v0,v2,v3,v4,v5⟩:=hb _ bU;obtain⟨q1,q2⟩:=(h.below bU).int x0)
  |(go_at_call 58;go_fit (KN1 _ YM);rintro e w1 ⟨rfl,h1⟩;have aw:Below w.heap.size w w1:=YM.trans (h1.mono YM.size);have lv:Below (w.alloc (.cells #[.int .i64 (l.num:Nat),.int .i64 (l.op:Nat),.slice (some ⟨g,0,none⟩) 3 cp,.int .i64 l.number,.int .i64 l.flag,.slice an l.next.length cn] 115)).heap.size (w.alloc (.cells #[.int .i64 (l.num:Nat),.int .i64 (l.op:Nat),.slice (some ⟨g,0,none⟩) 3 cp,.int .i64 l.number,.int .i64 l.flag,.slice an l.next.length cn] 115)) w1:=⟨h1.os,h1.tape,h1.output,h1.size,h1.block⟩;have y1:=Zq _ lv;obtain⟨u0,u2,u3,u4,u5⟩:=hb _ aw)
  |(go_at_call 58;go_fit (KN2 _ YM);rintro e w1 ⟨rfl,h1⟩;have aw:Below w.heap.size w w1:=YM.trans (h1.mono YM.size);have lv:Below (w.alloc (.cells #[.int .i64 (l.num:Nat),.int .i64 (l.op:Nat),.slice (some ⟨g,0,none⟩) 3 cp,.int .i64 l.number,.int .i64 l.flag,.slice an l.next.length cn] 115)).heap.size (w.alloc (.cells #[.int .i64 (l.num:Nat),.int .i64 (l.op:Nat),.slice (some ⟨g,0,none⟩) 3 cp,.int .i64 l.number,.int .i64 l.flag,.slice an l.next.length cn] 115)) w1:=⟨h1.os,h1.tape,h1.output,h1.size,h1.block⟩;have y1:=Zq _ lv;obtain⟨u0,u2,u3,u4,u5⟩:=hb _ aw))
 all_goals go_wp2_with fail
 all_goals
  go_end0
  obtain⟨h5,r5⟩:=(h.below bU).setInt (j:=p0.1) x0 (vf l.op (o.num p1) (o.num p2));exact⟨rfl,h5,(aN.of bU).trans r5⟩
end
end Own
namespace Own
open Go Go.RowKit Sq Aux PrjJ PrjK PrjL PrjM PrjS PrjT FlwA FlwB FlwE
section
variable {x a:Nat} {w w0 w1:World} {vm vt vi vm1 vt1:Value} {o:Own}
theorem jh (w:World):Below w.heap.size w w.drew:=⟨rfl,rfl,rfl,jC _,fun _ _=>rfl⟩
theorem dp.drew (h:dp w0 x a w o vi vm vt):dp w0 x a w.drew o vi vm vt:=h.below (jh w)
theorem aN.drew (h:aN x vm vt w vm1 vt1 w1):aN x vm vt w vm1 vt1 w1.drew:=h.trans (aN.of (jh w1))
theorem bC {z g cp:Nat}{l:ab}{W:World}(h:W.ownsRow z 119 2 (.slice (some ⟨g,0,none⟩) l.places.length cp) l.places.length (bL l.places)){j:Nat}(hj:j<l.places.length):
  W.cell? ⟨g,j*2,none⟩=some (.int .i64 ((l.places.getD j (0,0)).1:Nat))/\W.cell? ⟨g,j*2+1,none⟩=some (.int .i64 ((l.places.getD j (0,0)).2:Nat)):=by
 obtain⟨g',e,-,-,-,c1,c2⟩:=db h j hj;simp only[Option.some.injEq,Addr.mk.injEq,and_true]at e;subst e;exact⟨c1,c2⟩
set_option maxRecDepth 20000 in
set_option maxHeartbeats 4000000 in
theorem W9 (h:dp w0 x a w o vi vm vt){z nl nb:Nat}{l:ab}{ap an:Option Addr}{cp cn:Nat}(hl:bq z w l (.slice ap l.places.length cp) (.slice an l.next.length cn))(hk:tS nl nb l)(lh:nl<=12)(ax:l.op=2):
  Calls Tryz.prog 65 #[.pointer (some ⟨x,0,none⟩),.agg #[.int .i64 (l.num:Nat),.int .i64 (l.op:Nat),.slice ap l.places.length cp,.int .i64 l.number,.int .i64 l.flag,.slice an l.next.length cn]] w fun e w'=>e=.returned (.tuple #[])/\dp w0 x a w' {o with ints:=o.ints.set (l.places.getD 0 (0,0)).1 l.number} vi vm vt/\aN x vm vt w vm vt w':=by
 have hlen:l.places.length=1:=by rw[hk.cQ,ax];rfl
 have aY:Below w.heap.size w (w.alloc (.cells #[.int .i64 (l.num:Nat),.int .i64 (l.op:Nat),.slice ap l.places.length cp,.int .i64 l.number,.int .i64 l.flag,.slice an l.next.length cn] 115)):=(Below.refl _ _).alloc (jC _) _;obtain⟨g,rfl,qm,hg,-,-⟩:=bo hl hlen 0 (by omega);have gM:w.ownsRow z 119 2 (.slice (some ⟨g,0,none⟩) l.places.length cp) l.places.length (bL l.places):=hl.places;have fZ:=ay gM aY;have pc:∀W:World,W.ownsRow z 119 2 (.slice (some ⟨g,0,none⟩) l.places.length cp) l.places.length (bL l.places)->W.cell? ⟨g,0,none⟩=some (.int .i64 ((l.places.getD 0 (0,0)).1:Nat))/\W.cell? ⟨g,1,none⟩=some (.int .i64 ((l.places.getD 0 (0,0)).2:Nat)):=fun W hW=>⟨(bC hW (j:=0) (by omega)).1,(bC hW (j:=0) (by omega)).2⟩
 have hx:∀j,j<1->(l.places.getD j (0,0)).1<nl:=fun j hj=>(hk.places (l.places.getD j (0,0)) (by rw[jA,jB (by omega)];exact jL _)).1
 have x0:=hx 0 (by omega);have HA:=h.below aY;have Mq:Hid (_):=fZ;have HP:Hid (_):=gM;have PC:Hid (_):=pc;have hd:=pc _ fZ;rw[hlen]at aY HA hd;rw[hlen];clear hx hl hk pc gM fZ;have b2:(((l.op:Nat):Int)==2)=true:=by rw[ax];rfl
 have b3:(((l.op:Nat):Int)==3)=false:=by rw[ax];rfl
 have b4:(((l.op:Nat):Int)==4)=false:=by rw[ax];rfl
 have b5:(((l.op:Nat):Int)==5)=false:=by rw[ax];rfl
 have b7:(((l.op:Nat):Int)==7)=false:=by rw[ax];rfl
 have b8:(((l.op:Nat):Int)==8)=false:=by rw[ax];rfl
 have b10:(((l.op:Nat):Int)==10)=false:=by rw[ax];rfl
 have b11:(((l.op:Nat):Int)==11)=false:=by rw[ax];rfl
 have b12:(((l.op:Nat):Int)==12)=false:=by rw[ax];rfl
 have b14:(((l.op:Nat):Int)==14)=false:=by rw[ax];rfl
 have b13:(((l.op:Nat):Int)==13)=false:=by rw[ax];rfl
 have b15:(((l.op:Nat):Int)==15)=false:=by rw[ax];rfl
 generalize l.places.getD 0 (0,0)=p0 at*;clear ax;obtain⟨d0,d1⟩:=hd;have x0i:(p0.1:Int)<12:=by omega
 obtain⟨i1,i2⟩:=HA.int (j:=p0.1) (by omega);clear hlen;go_enter Tryz.func65,Tryz.ntmps65
 go_wp2
 go_region
 all_goals go_wp2_with fail
 all_goals
  go_end0
  obtain⟨h1,h2⟩:=HA.setInt (j:=p0.1) (by omega) l.number;exact⟨rfl,h1.drew,((aN.of aY).trans h2).drew⟩
set_option maxRecDepth 20000 in
set_option maxHeartbeats 4000000 in
theorem Zk (h:dp w0 x a w o vi vm vt){z nl nb:Nat}{l:ab}{ap an:Option Addr}{cp cn:Nat}(hl:bq z w l (.slice ap l.places.length cp) (.slice an l.next.length cn))(hk:tS nl nb l)(lh:nl<=12)(ax:l.op=7):
  Calls Tryz.prog 65 #[.pointer (some ⟨x,0,none⟩),.agg #[.int .i64 (l.num:Nat),.int .i64 (l.op:Nat),.slice ap l.places.length cp,.int .i64 l.number,.int .i64 l.flag,.slice an l.next.length cn]] w fun e w'=>e=.returned (.tuple #[])/\(∃vi',dp w0 x a w' {o with al:=o.al.tail,ints:=o.ints.set (l.places.getD 0 (0,0)).1 (o.al.headD 0)} vi' vm vt)/\aN x vm vt w vm vt w':=by
 have hlen:l.places.length=1:=by rw[hk.cQ,ax];rfl
 have aY:Below w.heap.size w (w.alloc (.cells #[.int .i64 (l.num:Nat),.int .i64 (l.op:Nat),.slice ap l.places.length cp,.int .i64 l.number,.int .i64 l.flag,.slice an l.next.length cn] 115)):=(Below.refl _ _).alloc (jC _) _;obtain⟨g,rfl,qm,hg,-,-⟩:=bo hl hlen 0 (by omega);have gM:w.ownsRow z 119 2 (.slice (some ⟨g,0,none⟩) l.places.length cp) l.places.length (bL l.places):=hl.places;have fZ:=ay gM aY;have pc:∀W:World,W.ownsRow z 119 2 (.slice (some ⟨g,0,none⟩) l.places.length cp) l.places.length (bL l.places)->W.cell? ⟨g,0,none⟩=some (.int .i64 ((l.places.getD 0 (0,0)).1:Nat))/\W.cell? ⟨g,1,none⟩=some (.int .i64 ((l.places.getD 0 (0,0)).2:Nat)):=fun W hW=>⟨(bC hW (j:=0) (by omega)).1,(bC hW (j:=0) (by omega)).2⟩
 have hx:∀j,j<1->(l.places.getD j (0,0)).1<nl:=fun j hj=>(hk.places (l.places.getD j (0,0)) (by rw[jA,jB (by omega)];exact jL _)).1
 have x0:=hx 0 (by omega);have HA:=h.below aY;have Mq:Hid (_):=fZ;have HP:Hid (_):=gM;have PC:Hid (_):=pc;have hd:=pc _ fZ;rw[hlen]at aY HA hd;rw[hlen];clear hx hl hk pc gM fZ;have b2:(((l.op:Nat):Int)==2)=false:=by rw[ax];rfl
 have b3:(((l.op:Nat):Int)==3)=false:=by rw[ax];rfl
 have b4:(((l.op:Nat):Int)==4)=false:=by rw[ax];rfl
 have b5:(((l.op:Nat):Int)==5)=false:=by rw[ax];rfl
 have b7:(((l.op:Nat):Int)==7)=true:=by rw[ax];rfl
 have b8:(((l.op:Nat):Int)==8)=false:=by rw[ax];rfl
 have b10:(((l.op:Nat):Int)==10)=false:=by rw[ax];rfl
 have b11:(((l.op:Nat):Int)==11)=false:=by rw[ax];rfl
 have b12:(((l.op:Nat):Int)==12)=false:=by rw[ax];rfl
 have b14:(((l.op:Nat):Int)==14)=false:=by rw[ax];rfl
 have b13:(((l.op:Nat):Int)==13)=false:=by rw[ax];rfl
 have b15:(((l.op:Nat):Int)==15)=false:=by rw[ax];rfl
 generalize l.places.getD 0 (0,0)=p0 at*;clear ax;obtain⟨d0,d1⟩:=hd;have x0i:(p0.1:Int)<12:=by omega
 have zw:∀{vm2 vt2:Value} {W:World},aN x vm vt (w.alloc (.cells #[.int .i64 (l.num:Nat),.int .i64 (l.op:Nat),.slice (some ⟨g,0,none⟩) 1 cp,.int .i64 l.number,.int .i64 l.flag,.slice an l.next.length cn] 115)) vm2 vt2 W->W.ownsRow z 119 2 (.slice (some ⟨g,0,none⟩) l.places.length cp) l.places.length (bL l.places):=fun hr=>HA.df (by have:=Mq.out;rw[hlen]at this;rw[hlen];exact this) (.inr rfl) hr
 have KF:=QY HA.drew;generalize hv:o.al.headD 0=v at KF⊢;clear hv;clear hlen;go_enter Tryz.func65,Tryz.ntmps65
 go_wp2
 go_region_with (go_at_call 103;go_fit KF;rintro e w2 ⟨rfl,vi',h2,r2⟩;have r2':=(aN.of (jh (w.alloc (.cells #[.int .i64 (l.num:Nat),.int .i64 (l.op:Nat),.slice (some ⟨g,0,none⟩) 1 cp,.int .i64 l.number,.int .i64 l.flag,.slice an l.next.length cn] 115)))).trans r2;obtain⟨i1,i2⟩:=h2.int (j:=p0.1) (by omega);obtain⟨e0,e1⟩:=PC.out _ (zw r2'))
 all_goals go_wp2_with fail
 all_goals
  go_end0
  obtain⟨h3,h4⟩:=h2.setInt (j:=p0.1) (by omega) v;exact⟨rfl,⟨vi',h3⟩,((aN.of aY).trans r2').trans h4⟩
set_option maxRecDepth 20000 in
set_option maxHeartbeats 4000000 in
theorem W8 (h:dp w0 x a w o vi vm vt){z nl nb:Nat}{l:ab}{ap an:Option Addr}{cp cn:Nat}(hl:bq z w l (.slice ap l.places.length cp) (.slice an l.next.length cn))(hk:tS nl nb l)(lh:nl<=12)(ax:l.op=8){t:Nat}(hs:o.yd.Sz t)(ht:t+100<=9000000)(qw:Pow w0)(oM:11<=w0.heap.size)(hr:∀n∈o.ints,aO n):
  Calls Tryz.prog 65 #[.pointer (some ⟨x,0,none⟩),.agg #[.int .i64 (l.num:Nat),.int .i64 (l.op:Nat),.slice ap l.places.length cp,.int .i64 l.number,.int .i64 l.flag,.slice an l.next.length cn]] w fun e w'=>e=.returned (.tuple #[])/\(∃vm' vt',dp w0 x a w' {o with yd:=o.yd.note 111 (o.num (l.places.getD 0 (0,0)))} vi vm' vt'/\aN x vm vt w vm' vt' w'):=by
 have hlen:l.places.length=1:=by rw[hk.cQ,ax];rfl
 have aY:Below w.heap.size w (w.alloc (.cells #[.int .i64 (l.num:Nat),.int .i64 (l.op:Nat),.slice ap l.places.length cp,.int .i64 l.number,.int .i64 l.flag,.slice an l.next.length cn] 115)):=(Below.refl _ _).alloc (jC _) _;obtain⟨g,rfl,qm,hg,-,-⟩:=bo hl hlen 0 (by omega);have gM:w.ownsRow z 119 2 (.slice (some ⟨g,0,none⟩) l.places.length cp) l.places.length (bL l.places):=hl.places;have fZ:=ay gM aY;have pc:∀W:World,W.ownsRow z 119 2 (.slice (some ⟨g,0,none⟩) l.places.length cp) l.places.length (bL l.places)->W.cell? ⟨g,0,none⟩=some (.int .i64 ((l.places.getD 0 (0,0)).1:Nat))/\W.cell? ⟨g,1,none⟩=some (.int .i64 ((l.places.getD 0 (0,0)).2:Nat)):=fun W hW=>⟨(bC hW (j:=0) (by omega)).1,(bC hW (j:=0) (by omega)).2⟩
 have hx:∀j,j<1->(l.places.getD j (0,0)).1<nl:=fun j hj=>(hk.places (l.places.getD j (0,0)) (by rw[jA,jB (by omega)];exact jL _)).1
 have x0:=hx 0 (by omega);have HA:=h.below aY;have Mq:Hid (_):=fZ;have HP:Hid (_):=gM;have PC:Hid (_):=pc;have hd:=pc _ fZ;rw[hlen]at aY HA hd;rw[hlen];clear hx hl hk pc gM fZ;have b2:(((l.op:Nat):Int)==2)=false:=by rw[ax];rfl
 have b3:(((l.op:Nat):Int)==3)=false:=by rw[ax];rfl
 have b4:(((l.op:Nat):Int)==4)=false:=by rw[ax];rfl
 have b5:(((l.op:Nat):Int)==5)=false:=by rw[ax];rfl
 have b7:(((l.op:Nat):Int)==7)=false:=by rw[ax];rfl
 have b8:(((l.op:Nat):Int)==8)=true:=by rw[ax];rfl
 have b10:(((l.op:Nat):Int)==10)=false:=by rw[ax];rfl
 have b11:(((l.op:Nat):Int)==11)=false:=by rw[ax];rfl
 have b12:(((l.op:Nat):Int)==12)=false:=by rw[ax];rfl
 have b14:(((l.op:Nat):Int)==14)=false:=by rw[ax];rfl
 have b13:(((l.op:Nat):Int)==13)=false:=by rw[ax];rfl
 have b15:(((l.op:Nat):Int)==15)=false:=by rw[ax];rfl
 generalize l.places.getD 0 (0,0)=p0 at*;clear ax;obtain⟨d0,d1⟩:=hd;have x0i:(p0.1:Int)<12:=by omega
 have zw:∀{vm2 vt2:Value} {W:World},aN x vm vt (w.alloc (.cells #[.int .i64 (l.num:Nat),.int .i64 (l.op:Nat),.slice (some ⟨g,0,none⟩) 1 cp,.int .i64 l.number,.int .i64 l.flag,.slice an l.next.length cn] 115)) vm2 vt2 W->W.ownsRow z 119 2 (.slice (some ⟨g,0,none⟩) l.places.length cp) l.places.length (bL l.places):=fun hr=>HA.df (by have:=Mq.out;rw[hlen]at this;rw[hlen];exact this) (.inr rfl) hr
 have KN:=ej HA.drew p0 (by omega);have hnr:aO (o.num p0):=hr _ (by unfold Own.num;rw[jA,jB (by rw[h.ints];omega)];exact jL _);have KO:=fun(W:World) (hW:dp w0 x a W o vi vm vt)=>LO hW.kb (o.num p0) hnr (qw.below hW.br oM) (hs.ok (by omega))
 clear hlen;go_enter Tryz.func65,Tryz.ntmps65
 go_wp2
 go_region_with (first
  |(go_at_call 58;go_fit KN;rintro e w2 ⟨rfl,h2⟩;have iN:=HA.drew.below h2;have r2:=((aN.of aY).drew (vm:=vm) (vt:=vt) (x:=x)).trans (aN.of h2))
  |(go_at_call 104;go_fit (KO _ iN);rintro e w3 ⟨rfl,vm3,vt3,h3,r3⟩))
 all_goals go_wp2_with fail
 all_goals
  go_end0
  exact⟨rfl,vm3,vt3,iN.zv h3 r3,r2.trans r3⟩
set_option maxRecDepth 20000 in
set_option maxHeartbeats 4000000 in
theorem Ur (h:dp w0 x a w o vi vm vt){z nl nb:Nat}{l:ab}{ap an:Option Addr}{cp cn:Nat}(hl:bq z w l (.slice ap l.places.length cp) (.slice an l.next.length cn))(hk:tS nl nb l)(lh:nl<=12)(ax:l.op=10){t:Nat}(hs:o.yd.Sz t)(ht:t+100<=9000000)(qw:Pow w0)(oM:11<=w0.heap.size)(kf:o.Bx)(ec:1<=o.box (l.places.getD 1 (0,0))):
  Calls Tryz.prog 65 #[.pointer (some ⟨x,0,none⟩),.agg #[.int .i64 (l.num:Nat),.int .i64 (l.op:Nat),.slice ap l.places.length cp,.int .i64 l.number,.int .i64 l.flag,.slice an l.next.length cn]] w fun e w'=>e=.returned (.tuple #[])/\(∃vm' vt',dp w0 x a w' {o with yd:=o.yd.load (o.box (l.places.getD 1 (0,0))),ints:=o.ints.set (l.places.getD 0 (0,0)).1 (o.yd.at (o.box (l.places.getD 1 (0,0)))).1} vi vm' vt'/\aN x vm vt w vm' vt' w'):=by
 have hlen:l.places.length=2:=by rw[hk.cQ,ax];rfl
 have aY:Below w.heap.size w (w.alloc (.cells #[.int .i64 (l.num:Nat),.int .i64 (l.op:Nat),.slice ap l.places.length cp,.int .i64 l.number,.int .i64 l.flag,.slice an l.next.length cn] 115)):=(Below.refl _ _).alloc (jC _) _;obtain⟨g,rfl,qm,hg,-,-⟩:=bo hl hlen 0 (by omega);have gM:w.ownsRow z 119 2 (.slice (some ⟨g,0,none⟩) l.places.length cp) l.places.length (bL l.places):=hl.places;have fZ:=ay gM aY;have pc:∀W:World,W.ownsRow z 119 2 (.slice (some ⟨g,0,none⟩) l.places.length cp) l.places.length (bL l.places)->W.cell? ⟨g,0,none⟩=some (.int .i64 ((l.places.getD 0 (0,0)).1:Nat))/\W.cell? ⟨g,1,none⟩=some (.int .i64 ((l.places.getD 0 (0,0)).2:Nat))/\W.cell? ⟨g,2,none⟩=some (.int .i64 ((l.places.getD 1 (0,0)).1:Nat))/\W.cell? ⟨g,3,none⟩=some (.int .i64 ((l.places.getD 1 (0,0)).2:Nat)):=fun W hW=>⟨(bC hW (j:=0) (by omega)).1,(bC hW (j:=0) (by omega)).2,(bC hW (j:=1) (by omega)).1,(bC hW (j:=1) (by omega)).2⟩
 have hx:∀j,j<2->(l.places.getD j (0,0)).1<nl:=fun j hj=>(hk.places (l.places.getD j (0,0)) (by rw[jA,jB (by omega)];exact jL _)).1
 have x0:=hx 0 (by omega);have x1:=hx 1 (by omega);have HA:=h.below aY;have Mq:Hid (_):=fZ;have HP:Hid (_):=gM;have PC:Hid (_):=pc;have hd:=pc _ fZ;rw[hlen]at aY HA hd;rw[hlen];clear hx hl hk pc gM fZ;have b2:(((l.op:Nat):Int)==2)=false:=by rw[ax];rfl
 have b3:(((l.op:Nat):Int)==3)=false:=by rw[ax];rfl
 have b4:(((l.op:Nat):Int)==4)=false:=by rw[ax];rfl
 have b5:(((l.op:Nat):Int)==5)=false:=by rw[ax];rfl
 have b7:(((l.op:Nat):Int)==7)=false:=by rw[ax];rfl
 have b8:(((l.op:Nat):Int)==8)=false:=by rw[ax];rfl
 have b10:(((l.op:Nat):Int)==10)=true:=by rw[ax];rfl
 have b11:(((l.op:Nat):Int)==11)=false:=by rw[ax];rfl
 have b12:(((l.op:Nat):Int)==12)=false:=by rw[ax];rfl
 have b14:(((l.op:Nat):Int)==14)=false:=by rw[ax];rfl
 have b13:(((l.op:Nat):Int)==13)=false:=by rw[ax];rfl
 have b15:(((l.op:Nat):Int)==15)=false:=by rw[ax];rfl
 generalize l.places.getD 0 (0,0)=p0 at*;generalize l.places.getD 1 (0,0)=p1 at*;clear ax;obtain⟨d0,d1,d2,d3⟩:=hd;have x0i:(p0.1:Int)<12:=by omega
 have zw:∀{vm2 vt2:Value} {W:World},aN x vm vt (w.alloc (.cells #[.int .i64 (l.num:Nat),.int .i64 (l.op:Nat),.slice (some ⟨g,0,none⟩) 2 cp,.int .i64 l.number,.int .i64 l.flag,.slice an l.next.length cn] 115)) vm2 vt2 W->W.ownsRow z 119 2 (.slice (some ⟨g,0,none⟩) l.places.length cp) l.places.length (bL l.places):=fun hr=>HA.df (by have:=Mq.out;rw[hlen]at this;rw[hlen];exact this) (.inr rfl) hr
 have hle:=Aq kf p1;have KB:=iY HA.drew p1 (by omega);have KL:=fun(W:World) (hW:dp w0 x a W o vi vm vt)=>Bi hW.kb (o.box p1) ec hle (qw.below hW.br oM) (hs.ok (by omega))
 generalize o.box p1=n at*;clear hlen;go_enter Tryz.func65,Tryz.ntmps65
 go_wp2
 go_region_with (first
  |(go_at_call 99;go_fit KB;rintro e w2 ⟨rfl,h2⟩;have iN:=HA.drew.below h2;have r2a:aN x vm vt (w.alloc (.cells #[.int .i64 (l.num:Nat),.int .i64 (l.op:Nat),.slice (some ⟨g,0,none⟩) 2 cp,.int .i64 l.number,.int .i64 l.flag,.slice an l.next.length cn] 115)) vm vt w2:=(aN.of (jh _)).trans (aN.of h2);obtain⟨e0,e1,e2,e3⟩:=PC.out _ (zw r2a))
  |(go_at_call 105;go_fit (KL _ iN);rintro e w3 ⟨rfl,vm3,vt3,h3,r3⟩;have V9:=iN.zv h3 r3;obtain⟨f0,f1,f2,f3⟩:=PC.out _ (zw (r2a.trans r3));obtain⟨i1,i2⟩:=V9.int (j:=p0.1) (by omega)))
 all_goals go_wp2_with fail
 all_goals
  go_end0
  obtain⟨h4,r4⟩:=V9.setInt (j:=p0.1) (by omega) (o.yd.at n).1;exact⟨rfl,vm3,vt3,h4,(((aN.of aY).trans r2a).trans r3).trans r4⟩
end
end Own
namespace Own
open Go Go.RowKit Sq Aux PrjJ PrjK PrjL PrjM PrjS PrjT FlwA FlwB FlwD FlwE
section
variable {x a:Nat} {w w0 w1:World} {vm vt vi vm1 vt1:Value} {o:Own}
theorem dp.prog (h:dp w0 x a w o vi vm vt):w.cell? ⟨x,3,none⟩=some (.pointer (some ⟨a,0,none⟩)):=(h.kb.more 0).1
set_option maxRecDepth 20000 in
set_option maxHeartbeats 4000000 in
theorem QF (h:dp w0 x a w o vi vm vt){z nl nb:Nat}{l:ab}{ap an:Option Addr}{cp cn:Nat}(hl:bq z w l (.slice ap l.places.length cp) (.slice an l.next.length cn))(hk:tS nl nb l)(lh:nl<=12)(ax:l.op=11){t:Nat}(hs:o.yd.Sz t)(ht:t+100<=9000000)(qw:Pow w0)(oM:11<=w0.heap.size)(kf:o.Bx)(ec:1<=o.box (l.places.getD 0 (0,0))):
  Calls Tryz.prog 65 #[.pointer (some ⟨x,0,none⟩),.agg #[.int .i64 (l.num:Nat),.int .i64 (l.op:Nat),.slice ap l.places.length cp,.int .i64 l.number,.int .i64 l.flag,.slice an l.next.length cn]] w fun e w'=>e=.returned (.tuple #[])/\(∃vm' vt',dp w0 x a w' {o with yd:=o.yd.store (o.box (l.places.getD 0 (0,0))) (o.num (l.places.getD 1 (0,0)))} vi vm' vt'/\aN x vm vt w vm' vt' w'):=by
 have hlen:l.places.length=2:=by rw[hk.cQ,ax];rfl
 have aY:Below w.heap.size w (w.alloc (.cells #[.int .i64 (l.num:Nat),.int .i64 (l.op:Nat),.slice ap l.places.length cp,.int .i64 l.number,.int .i64 l.flag,.slice an l.next.length cn] 115)):=(Below.refl _ _).alloc (jC _) _;obtain⟨g,rfl,qm,hg,-,-⟩:=bo hl hlen 0 (by omega);have gM:w.ownsRow z 119 2 (.slice (some ⟨g,0,none⟩) l.places.length cp) l.places.length (bL l.places):=hl.places;have fZ:=ay gM aY;have pc:∀W:World,W.ownsRow z 119 2 (.slice (some ⟨g,0,none⟩) l.places.length cp) l.places.length (bL l.places)->W.cell? ⟨g,0,none⟩=some (.int .i64 ((l.places.getD 0 (0,0)).1:Nat))/\W.cell? ⟨g,1,none⟩=some (.int .i64 ((l.places.getD 0 (0,0)).2:Nat))/\W.cell? ⟨g,2,none⟩=some (.int .i64 ((l.places.getD 1 (0,0)).1:Nat))/\W.cell? ⟨g,3,none⟩=some (.int .i64 ((l.places.getD 1 (0,0)).2:Nat)):=fun W hW=>⟨(bC hW (j:=0) (by omega)).1,(bC hW (j:=0) (by omega)).2,(bC hW (j:=1) (by omega)).1,(bC hW (j:=1) (by omega)).2⟩
 have hx:∀j,j<2->(l.places.getD j (0,0)).1<nl:=fun j hj=>(hk.places (l.places.getD j (0,0)) (by rw[jA,jB (by omega)];exact jL _)).1
 have x0:=hx 0 (by omega);have x1:=hx 1 (by omega);have HA:=h.below aY;have Mq:Hid (_):=fZ;have HP:Hid (_):=gM;have PC:Hid (_):=pc;have hd:=pc _ fZ;rw[hlen]at aY HA hd;rw[hlen];clear hx hl hk pc gM fZ;have b2:(((l.op:Nat):Int)==2)=false:=by rw[ax];rfl
 have b3:(((l.op:Nat):Int)==3)=false:=by rw[ax];rfl
 have b4:(((l.op:Nat):Int)==4)=false:=by rw[ax];rfl
 have b5:(((l.op:Nat):Int)==5)=false:=by rw[ax];rfl
 have b7:(((l.op:Nat):Int)==7)=false:=by rw[ax];rfl
 have b8:(((l.op:Nat):Int)==8)=false:=by rw[ax];rfl
 have b10:(((l.op:Nat):Int)==10)=false:=by rw[ax];rfl
 have b11:(((l.op:Nat):Int)==11)=true:=by rw[ax];rfl
 have b12:(((l.op:Nat):Int)==12)=false:=by rw[ax];rfl
 have b14:(((l.op:Nat):Int)==14)=false:=by rw[ax];rfl
 have b13:(((l.op:Nat):Int)==13)=false:=by rw[ax];rfl
 have b15:(((l.op:Nat):Int)==15)=false:=by rw[ax];rfl
 generalize l.places.getD 0 (0,0)=p0 at*;generalize l.places.getD 1 (0,0)=p1 at*;clear ax;obtain⟨d0,d1,d2,d3⟩:=hd;have x0i:(p0.1:Int)<12:=by omega
 have zw:∀{vm2 vt2:Value} {W:World},aN x vm vt (w.alloc (.cells #[.int .i64 (l.num:Nat),.int .i64 (l.op:Nat),.slice (some ⟨g,0,none⟩) 2 cp,.int .i64 l.number,.int .i64 l.flag,.slice an l.next.length cn] 115)) vm2 vt2 W->W.ownsRow z 119 2 (.slice (some ⟨g,0,none⟩) l.places.length cp) l.places.length (bL l.places):=fun hr=>HA.df (by have:=Mq.out;rw[hlen]at this;rw[hlen];exact this) (.inr rfl) hr
 have hle:=Aq kf p0;have KB:=fun(W:World) (hW:dp w0 x a W o vi vm vt)=>iY hW p0 (by omega)
 have KN:=fun(W:World) (hW:dp w0 x a W o vi vm vt)=>ej hW p1 (by omega)
 have KL:=fun(W:World) (hW:dp w0 x a W o vi vm vt)=>yl hW.kb (o.box p0) ec hle (o.num p1) (qw.below hW.br oM) (hs.ok (by omega))
 generalize o.box p0=n at*;generalize o.num p1=v at*;clear hlen;go_enter Tryz.func65,Tryz.ntmps65
 go_wp2
 go_region_with (first
  |(go_at_call 106;go_fit (KL _ iN);rintro e w3 ⟨rfl,vm3,vt3,h3,r3⟩)
  |(go_at_call 58;go_fit (KN _ mo);rintro e w2 ⟨rfl,h2⟩;have iN:=mo.below h2;have r2a:=r1a.trans (aN.of h2 (x:=x) (vm:=vm) (vt:=vt));obtain⟨f0,f1,f2,f3⟩:=PC.out _ (zw r2a))
  |(go_at_call 99;go_fit (KB _ mo);rintro e w2 ⟨rfl,h2⟩;have iN:=mo.below h2;have r2a:=r1a.trans (aN.of h2 (x:=x) (vm:=vm) (vt:=vt));obtain⟨f0,f1,f2,f3⟩:=PC.out _ (zw r2a))
  |(go_at_call 99;go_fit (KB _ HA.drew);rintro e w1 ⟨rfl,h1⟩;have mo:=HA.drew.below h1;have r1a:aN x vm vt (w.alloc (.cells #[.int .i64 (l.num:Nat),.int .i64 (l.op:Nat),.slice (some ⟨g,0,none⟩) 2 cp,.int .i64 l.number,.int .i64 l.flag,.slice an l.next.length cn] 115)) vm vt w1:=(aN.of (jh _)).trans (aN.of h1);obtain⟨e0,e1,e2,e3⟩:=PC.out _ (zw r1a))
  |(go_at_call 58;go_fit (KN _ HA.drew);rintro e w1 ⟨rfl,h1⟩;have mo:=HA.drew.below h1;have r1a:aN x vm vt (w.alloc (.cells #[.int .i64 (l.num:Nat),.int .i64 (l.op:Nat),.slice (some ⟨g,0,none⟩) 2 cp,.int .i64 l.number,.int .i64 l.flag,.slice an l.next.length cn] 115)) vm vt w1:=(aN.of (jh _)).trans (aN.of h1);obtain⟨e0,e1,e2,e3⟩:=PC.out _ (zw r1a)))
 all_goals go_wp2_with fail
 all_goals
  go_end0
  exact⟨rfl,vm3,vt3,iN.zv h3 r3,((aN.of aY).trans r2a).trans r3⟩
set_option maxRecDepth 20000 in
set_option maxHeartbeats 4000000 in
theorem Ut (h:dp w0 x a w o vi vm vt){z nl nb:Nat}{l:ab}{ap an:Option Addr}{cp cn:Nat}(hl:bq z w l (.slice ap l.places.length cp) (.slice an l.next.length cn))(hk:tS nl nb l)(lh:nl<=12)(ax:l.op=13){t:Nat}(hs:o.yd.Sz t)(ht:t+100<=9000000)(qw:Pow w0)(oM:11<=w0.heap.size)(kf:o.Bx){q:QP}{v u:Value}(hq:PQ w0 a q v u)(hnq:nl=q.locals.length):
  Calls Tryz.prog 65 #[.pointer (some ⟨x,0,none⟩),.agg #[.int .i64 (l.num:Nat),.int .i64 (l.op:Nat),.slice ap l.places.length cp,.int .i64 l.number,.int .i64 l.flag,.slice an l.next.length cn]] w fun e w'=>e=.returned (.tuple #[])/\(∃vm' vt',dp w0 x a w' (o.drop (QP.ae q (l.places.getD 0 (0,0)))) vi vm' vt'/\aN x vm vt w vm' vt' w'):=by
 have hlen:l.places.length=1:=by rw[hk.cQ,ax];rfl
 have aY:Below w.heap.size w (w.alloc (.cells #[.int .i64 (l.num:Nat),.int .i64 (l.op:Nat),.slice ap l.places.length cp,.int .i64 l.number,.int .i64 l.flag,.slice an l.next.length cn] 115)):=(Below.refl _ _).alloc (jC _) _;obtain⟨g,rfl,qm,hg,-,-⟩:=bo hl hlen 0 (by omega);have gM:w.ownsRow z 119 2 (.slice (some ⟨g,0,none⟩) l.places.length cp) l.places.length (bL l.places):=hl.places;have fZ:=ay gM aY;have pc:∀W:World,W.ownsRow z 119 2 (.slice (some ⟨g,0,none⟩) l.places.length cp) l.places.length (bL l.places)->W.cell? ⟨g,0,none⟩=some (.int .i64 ((l.places.getD 0 (0,0)).1:Nat))/\W.cell? ⟨g,1,none⟩=some (.int .i64 ((l.places.getD 0 (0,0)).2:Nat)):=fun W hW=>⟨(bC hW (j:=0) (by omega)).1,(bC hW (j:=0) (by omega)).2⟩
 have hx:∀j,j<1->(l.places.getD j (0,0)).1<nl:=fun j hj=>(hk.places (l.places.getD j (0,0)) (by rw[jA,jB (by omega)];exact jL _)).1
 have x0:=hx 0 (by omega);have HA:=h.below aY;have Mq:Hid (_):=fZ;have HP:Hid (_):=gM;have PC:Hid (_):=pc;have hd:=pc _ fZ;rw[hlen]at aY HA hd;rw[hlen];clear hx hl hk pc gM fZ;have b2:(((l.op:Nat):Int)==2)=false:=by rw[ax];rfl
 have b3:(((l.op:Nat):Int)==3)=false:=by rw[ax];rfl
 have b4:(((l.op:Nat):Int)==4)=false:=by rw[ax];rfl
 have b5:(((l.op:Nat):Int)==5)=false:=by rw[ax];rfl
 have b7:(((l.op:Nat):Int)==7)=false:=by rw[ax];rfl
 have b8:(((l.op:Nat):Int)==8)=false:=by rw[ax];rfl
 have b10:(((l.op:Nat):Int)==10)=false:=by rw[ax];rfl
 have b11:(((l.op:Nat):Int)==11)=false:=by rw[ax];rfl
 have b12:(((l.op:Nat):Int)==12)=false:=by rw[ax];rfl
 have b14:(((l.op:Nat):Int)==14)=false:=by rw[ax];rfl
 have b13:(((l.op:Nat):Int)==13)=true:=by rw[ax];rfl
 have b15:(((l.op:Nat):Int)==15)=false:=by rw[ax];rfl
 generalize l.places.getD 0 (0,0)=p0 at*;clear ax;obtain⟨d0,d1⟩:=hd;have x0i:(p0.1:Int)<12:=by omega
 have x0q:p0.1<q.locals.length:=by omega
 have lg:=cD (q:=q) (x:=p0) (n:=12) (by omega);have hlq:(QP.ae q p0).length<=2:=by unfold QP.ae;split<;>simp
 have HQ:=hq.below HA.drew.br;have m3:=HA.prog;have KH:=ef q p0 v u a _ HQ.aJ HQ.loc x0q;have KD:=fun(W:World) (hW:dp w0 x a W o vi vm vt) (zz gg cc:Nat) (hP:bP zz W (.slice (some ⟨gg,0,none⟩) (QP.ae q p0).length cc) (QP.ae q p0))=>fY hW hP lg (by omega) kf hs (by omega) qw oM
 clear hlen;go_enter Tryz.func65,Tryz.ntmps65
 go_wp2
 go_region_with (first
  |(go_at_call 102;go_fit KH;rintro e w2 ⟨g2,c2,rfl,zk,h2⟩;have iN:=HA.drew.below h2;have r2a:aN x vm vt (w.alloc (.cells #[.int .i64 (l.num:Nat),.int .i64 (l.op:Nat),.slice (some ⟨g,0,none⟩) 1 cp,.int .i64 l.number,.int .i64 l.flag,.slice an l.next.length cn] 115)) vm vt w2:=(aN.of (jh _)).trans (aN.of h2))
  |(go_at_call 60;go_fit (KD _ iN _ g2 c2 zk);rintro e w3 ⟨rfl,vm3,vt3,h3,r3⟩))
 all_goals go_wp2_with fail
 all_goals
  go_end0
  exact⟨rfl,vm3,vt3,h3,((aN.of aY).trans r2a).trans r3⟩
set_option maxRecDepth 20000 in
set_option maxHeartbeats 4000000 in
theorem Uq (h:dp w0 x a w o vi vm vt){z nl nb:Nat}{l:ab}{ap an:Option Addr}{cp cn:Nat}(hl:bq z w l (.slice ap l.places.length cp) (.slice an l.next.length cn))(hk:tS nl nb l)(lh:nl<=12)(ax:l.op=15){t:Nat}(hs:o.yd.Sz t)(ht:t+100<=9000000)(qw:Pow w0)(oM:11<=w0.heap.size)(kf:o.Bx){q:QP}{v u:Value}(hq:PQ w0 a q v u)(hnq:nl=q.locals.length):
  Calls Tryz.prog 65 #[.pointer (some ⟨x,0,none⟩),.agg #[.int .i64 (l.num:Nat),.int .i64 (l.op:Nat),.slice ap l.places.length cp,.int .i64 l.number,.int .i64 l.flag,.slice an l.next.length cn]] w fun e w'=>e=.returned (.tuple #[])/\(∃vm' vt',dp w0 x a w' (o.drop (QP.ae q (l.places.getD 0 (0,0)))) vi vm' vt'/\aN x vm vt w vm' vt' w'):=by
 have hlen:l.places.length=1:=by rw[hk.cQ,ax];rfl
 have aY:Below w.heap.size w (w.alloc (.cells #[.int .i64 (l.num:Nat),.int .i64 (l.op:Nat),.slice ap l.places.length cp,.int .i64 l.number,.int .i64 l.flag,.slice an l.next.length cn] 115)):=(Below.refl _ _).alloc (jC _) _;obtain⟨g,rfl,qm,hg,-,-⟩:=bo hl hlen 0 (by omega);have gM:w.ownsRow z 119 2 (.slice (some ⟨g,0,none⟩) l.places.length cp) l.places.length (bL l.places):=hl.places;have fZ:=ay gM aY;have pc:∀W:World,W.ownsRow z 119 2 (.slice (some ⟨g,0,none⟩) l.places.length cp) l.places.length (bL l.places)->W.cell? ⟨g,0,none⟩=some (.int .i64 ((l.places.getD 0 (0,0)).1:Nat))/\W.cell? ⟨g,1,none⟩=some (.int .i64 ((l.places.getD 0 (0,0)).2:Nat)):=fun W hW=>⟨(bC hW (j:=0) (by omega)).1,(bC hW (j:=0) (by omega)).2⟩
 have hx:∀j,j<1->(l.places.getD j (0,0)).1<nl:=fun j hj=>(hk.places (l.places.getD j (0,0)) (by rw[jA,jB (by omega)];exact jL _)).1
 have x0:=hx 0 (by omega);have HA:=h.below aY;have Mq:Hid (_):=fZ;have HP:Hid (_):=gM;have PC:Hid (_):=pc;have hd:=pc _ fZ;rw[hlen]at aY HA hd;rw[hlen];clear hx hl hk pc gM fZ;have b2:(((l.op:Nat):Int)==2)=false:=by rw[ax];rfl
 have b3:(((l.op:Nat):Int)==3)=false:=by rw[ax];rfl
 have b4:(((l.op:Nat):Int)==4)=false:=by rw[ax];rfl
 have b5:(((l.op:Nat):Int)==5)=false:=by rw[ax];rfl
 have b7:(((l.op:Nat):Int)==7)=false:=by rw[ax];rfl
 have b8:(((l.op:Nat):Int)==8)=false:=by rw[ax];rfl
 have b10:(((l.op:Nat):Int)==10)=false:=by rw[ax];rfl
 have b11:(((l.op:Nat):Int)==11)=false:=by rw[ax];rfl
 have b12:(((l.op:Nat):Int)==12)=false:=by rw[ax];rfl
 have b14:(((l.op:Nat):Int)==14)=false:=by rw[ax];rfl
 have b13:(((l.op:Nat):Int)==13)=false:=by rw[ax];rfl
 have b15:(((l.op:Nat):Int)==15)=true:=by rw[ax];rfl
 generalize l.places.getD 0 (0,0)=p0 at*;clear ax;obtain⟨d0,d1⟩:=hd;have x0i:(p0.1:Int)<12:=by omega
 have x0q:p0.1<q.locals.length:=by omega
 have lg:=cD (q:=q) (x:=p0) (n:=12) (by omega);have hlq:(QP.ae q p0).length<=2:=by unfold QP.ae;split<;>simp
 have HQ:=hq.below HA.drew.br;have m3:=HA.prog;have KH:=ef q p0 v u a _ HQ.aJ HQ.loc x0q;have KD:=fun(W:World) (hW:dp w0 x a W o vi vm vt) (zz gg cc:Nat) (hP:bP zz W (.slice (some ⟨gg,0,none⟩) (QP.ae q p0).length cc) (QP.ae q p0))=>fY hW hP lg (by omega) kf hs (by omega) qw oM
 clear hlen;go_enter Tryz.func65,Tryz.ntmps65
 go_wp2
 go_region_with (first
  |(go_at_call 102;go_fit KH;rintro e w2 ⟨g2,c2,rfl,zk,h2⟩;have iN:=HA.drew.below h2;have r2a:aN x vm vt (w.alloc (.cells #[.int .i64 (l.num:Nat),.int .i64 (l.op:Nat),.slice (some ⟨g,0,none⟩) 1 cp,.int .i64 l.number,.int .i64 l.flag,.slice an l.next.length cn] 115)) vm vt w2:=(aN.of (jh _)).trans (aN.of h2))
  |(go_at_call 60;go_fit (KD _ iN _ g2 c2 zk);rintro e w3 ⟨rfl,vm3,vt3,h3,r3⟩))
 all_goals go_wp2_with fail
 all_goals
  go_end0
  exact⟨rfl,vm3,vt3,h3,((aN.of aY).trans r2a).trans r3⟩
end
end Own
end Go.Proofs.YtmlgajhhnojdjaaGreatDoor

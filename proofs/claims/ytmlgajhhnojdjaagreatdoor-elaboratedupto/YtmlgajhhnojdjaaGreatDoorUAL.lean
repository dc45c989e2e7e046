import Derived.Test.YtmlgajhhnojdjaaGreatDoorUAK
set_option maxHeartbeats 8000000
namespace Go.Proofs.YtmlgajhhnojdjaaGreatDoor
namespace Own
open Go Go.RowKit Sq Aux PrjJ PrjK PrjL PrjM PrjS PrjT FlwA FlwB FlwE
section
variable {x a:Nat} {w w0 w1:World} {vm vt vi vm1 vt1:Value} {o:Own}
theorem ic (w:World):Below w.heap.size w w.drew:=⟨rfl,rfl,rfl,jC _,fun _ _=>rfl⟩
theorem dq.drew (h:dq w0 x a w o vi vm vt):dq w0 x a w.drew o vi vm vt:=h.below (ic w)
theorem aA.drew (h:aA x vm vt w vm1 vt1 w1):aA x vm vt w vm1 vt1 w1.drew:=h.trans (aA.of (ic w1))
theorem aV {z g cp:Nat}{l:ab}{W:World}(h:W.ownsRow z 119 2 (.slice (some ⟨g,0,none⟩) l.places.length cp) l.places.length (bf l.places)){j:Nat}(hj:j<l.places.length):
  W.cell? ⟨g,j*2,none⟩=some (.int .i64 ((l.places.getD j (0,0)).1:Nat))/\W.cell? ⟨g,j*2+1,none⟩=some (.int .i64 ((l.places.getD j (0,0)).2:Nat)):=by
 obtain⟨g',e,-,-,-,c1,c2⟩:=bK h j hj;simp only[Option.some.injEq,Addr.mk.injEq,and_true]at e;subst e;exact⟨c1,c2⟩
set_option maxRecDepth 20000 in
theorem Hu (h:dq w0 x a w o vi vm vt){z nl nb:Nat}{l:ab}{ap an:Option Addr}{cp cn:Nat}(hl:aC z w l (.slice ap l.places.length cp) (.slice an l.next.length cn))(hk:fY nl nb l)(iP:nl<=12)(ak:l.op=2):
  Calls Tryz.prog 65 #[.pointer (some ⟨x,0,none⟩),.agg #[.int .i64 (l.num:Nat),.int .i64 (l.op:Nat),.slice ap l.places.length cp,.int .i64 l.number,.int .i64 l.flag,.slice an l.next.length cn]] w fun e w'=>e=.returned (.tuple #[])/\dq w0 x a w' {o with ints:=o.ints.set (l.places.getD 0 (0,0)).1 l.number} vi vm vt/\aA x vm vt w vm vt w':=by
 have hlen:l.places.length=1:=by rw[hk.bt,ak];rfl
 have aF:Below w.heap.size w (w.alloc (.cells #[.int .i64 (l.num:Nat),.int .i64 (l.op:Nat),.slice ap l.places.length cp,.int .i64 l.number,.int .i64 l.flag,.slice an l.next.length cn] 115)):=(Below.refl _ _).alloc (jC _) _;obtain⟨g,rfl,gP,hg,-,-⟩:=ax hl hlen 0 (by omega);have ee:w.ownsRow z 119 2 (.slice (some ⟨g,0,none⟩) l.places.length cp) l.places.length (bf l.places):=hl.places;have fP:=aw ee aF;have pc:∀W:World,W.ownsRow z 119 2 (.slice (some ⟨g,0,none⟩) l.places.length cp) l.places.length (bf l.places)->W.cell? ⟨g,0,none⟩=some (.int .i64 ((l.places.getD 0 (0,0)).1:Nat))/\W.cell? ⟨g,1,none⟩=some (.int .i64 ((l.places.getD 0 (0,0)).2:Nat)):=fun W hW=>⟨(aV hW (j:=0) (by omega)).1,(aV hW (j:=0) (by omega)).2⟩
 have hx:∀j,j<1->(l.places.getD j (0,0)).1<nl:=fun j hj=>(hk.places (l.places.getD j (0,0)) (by rw[jA,jB (by omega)];exact jL _)).1
 have x0:=hx 0 (by omega);have HA:=h.below aF;have JK:Hid (_):=fP;have HP:Hid (_):=ee;have PC:Hid (_):=pc;have hd:=pc _ fP;rw[hlen]at aF HA hd;rw[hlen];clear hx hl hk pc ee fP;have b2:(((l.op:Nat):Int)==2)=true:=by rw[ak];rfl
 have b3:(((l.op:Nat):Int)==3)=false:=by rw[ak];rfl
 have b4:(((l.op:Nat):Int)==4)=false:=by rw[ak];rfl
 have b5:(((l.op:Nat):Int)==5)=false:=by rw[ak];rfl
 have b7:(((l.op:Nat):Int)==7)=false:=by rw[ak];rfl
 have b8:(((l.op:Nat):Int)==8)=false:=by rw[ak];rfl
 have b10:(((l.op:Nat):Int)==10)=false:=by rw[ak];rfl
 have b11:(((l.op:Nat):Int)==11)=false:=by rw[ak];rfl
 have b12:(((l.op:Nat):Int)==12)=false:=by rw[ak];rfl
 have b14:(((l.op:Nat):Int)==14)=false:=by rw[ak];rfl
 have b13:(((l.op:Nat):Int)==13)=false:=by rw[ak];rfl
 have b15:(((l.op:Nat):Int)==15)=false:=by rw[ak];rfl
 generalize l.places.getD 0 (0,0)=p0 at*;clear ak;obtain⟨d0,d1⟩:=hd;have x0i:(p0.1:Int)<12:=by omega
 obtain⟨i1,i2⟩:=HA.int (j:=p0.1) (by omega);clear hlen;go_enter Tryz.func65,Tryz.ntmps65
 go_wp2
 go_region
 all_goals go_wp2_with fail
 all_goals
  go_end0
  obtain⟨h1,h2⟩:=HA.setInt (j:=p0.1) (by omega) l.number;exact⟨rfl,h1.drew,((aA.of aF).trans h2).drew⟩
set_option maxRecDepth 20000 in
theorem Oh (h:dq w0 x a w o vi vm vt){z nl nb:Nat}{l:ab}{ap an:Option Addr}{cp cn:Nat}(hl:aC z w l (.slice ap l.places.length cp) (.slice an l.next.length cn))(hk:fY nl nb l)(iP:nl<=12)(ak:l.op=7):
  Calls Tryz.prog 65 #[.pointer (some ⟨x,0,none⟩),.agg #[.int .i64 (l.num:Nat),.int .i64 (l.op:Nat),.slice ap l.places.length cp,.int .i64 l.number,.int .i64 l.flag,.slice an l.next.length cn]] w fun e w'=>e=.returned (.tuple #[])/\(∃vi',dq w0 x a w' {o with aO:=o.aO.tail,ints:=o.ints.set (l.places.getD 0 (0,0)).1 (o.aO.headD 0)} vi' vm vt)/\aA x vm vt w vm vt w':=by
 have hlen:l.places.length=1:=by rw[hk.bt,ak];rfl
 have aF:Below w.heap.size w (w.alloc (.cells #[.int .i64 (l.num:Nat),.int .i64 (l.op:Nat),.slice ap l.places.length cp,.int .i64 l.number,.int .i64 l.flag,.slice an l.next.length cn] 115)):=(Below.refl _ _).alloc (jC _) _;obtain⟨g,rfl,gP,hg,-,-⟩:=ax hl hlen 0 (by omega);have ee:w.ownsRow z 119 2 (.slice (some ⟨g,0,none⟩) l.places.length cp) l.places.length (bf l.places):=hl.places;have fP:=aw ee aF;have pc:∀W:World,W.ownsRow z 119 2 (.slice (some ⟨g,0,none⟩) l.places.length cp) l.places.length (bf l.places)->W.cell? ⟨g,0,none⟩=some (.int .i64 ((l.places.getD 0 (0,0)).1:Nat))/\W.cell? ⟨g,1,none⟩=some (.int .i64 ((l.places.getD 0 (0,0)).2:Nat)):=fun W hW=>⟨(aV hW (j:=0) (by omega)).1,(aV hW (j:=0) (by omega)).2⟩
 have hx:∀j,j<1->(l.places.getD j (0,0)).1<nl:=fun j hj=>(hk.places (l.places.getD j (0,0)) (by rw[jA,jB (by omega)];exact jL _)).1
 have x0:=hx 0 (by omega);have HA:=h.below aF;have JK:Hid (_):=fP;have HP:Hid (_):=ee;have PC:Hid (_):=pc;have hd:=pc _ fP;rw[hlen]at aF HA hd;rw[hlen];clear hx hl hk pc ee fP;have b2:(((l.op:Nat):Int)==2)=false:=by rw[ak];rfl
 have b3:(((l.op:Nat):Int)==3)=false:=by rw[ak];rfl
 have b4:(((l.op:Nat):Int)==4)=false:=by rw[ak];rfl
 have b5:(((l.op:Nat):Int)==5)=false:=by rw[ak];rfl
 have b7:(((l.op:Nat):Int)==7)=true:=by rw[ak];rfl
 have b8:(((l.op:Nat):Int)==8)=false:=by rw[ak];rfl
 have b10:(((l.op:Nat):Int)==10)=false:=by rw[ak];rfl
 have b11:(((l.op:Nat):Int)==11)=false:=by rw[ak];rfl
 have b12:(((l.op:Nat):Int)==12)=false:=by rw[ak];rfl
 have b14:(((l.op:Nat):Int)==14)=false:=by rw[ak];rfl
 have b13:(((l.op:Nat):Int)==13)=false:=by rw[ak];rfl
 have b15:(((l.op:Nat):Int)==15)=false:=by rw[ak];rfl
 generalize l.places.getD 0 (0,0)=p0 at*;clear ak;obtain⟨d0,d1⟩:=hd;have x0i:(p0.1:Int)<12:=by omega
 have x9:∀{vm2 vt2:Value} {W:World},aA x vm vt (w.alloc (.cells #[.int .i64 (l.num:Nat),.int .i64 (l.op:Nat),.slice (some ⟨g,0,none⟩) 1 cp,.int .i64 l.number,.int .i64 l.flag,.slice an l.next.length cn] 115)) vm2 vt2 W->W.ownsRow z 119 2 (.slice (some ⟨g,0,none⟩) l.places.length cp) l.places.length (bf l.places):=fun hr=>HA.cj (by have:=JK.out;rw[hlen]at this;rw[hlen];exact this) (.inr rfl) hr
 have KF:=yQ HA.drew;generalize hv:o.aO.headD 0=v at KF⊢;clear hv;clear hlen;go_enter Tryz.func65,Tryz.ntmps65
 go_wp2
 go_region_with (go_at_call 103;go_fit KF;rintro e w2 ⟨rfl,vi',h2,r2⟩;have r2':=(aA.of (ic (w.alloc (.cells #[.int .i64 (l.num:Nat),.int .i64 (l.op:Nat),.slice (some ⟨g,0,none⟩) 1 cp,.int .i64 l.number,.int .i64 l.flag,.slice an l.next.length cn] 115)))).trans r2;obtain⟨i1,i2⟩:=h2.int (j:=p0.1) (by omega);obtain⟨e0,e1⟩:=PC.out _ (x9 r2'))
 all_goals go_wp2_with fail
 all_goals
  go_end0
  obtain⟨h3,h4⟩:=h2.setInt (j:=p0.1) (by omega) v;exact⟨rfl,⟨vi',h3⟩,((aA.of aF).trans r2').trans h4⟩
set_option maxRecDepth 20000 in
theorem Ht (h:dq w0 x a w o vi vm vt){z nl nb:Nat}{l:ab}{ap an:Option Addr}{cp cn:Nat}(hl:aC z w l (.slice ap l.places.length cp) (.slice an l.next.length cn))(hk:fY nl nb l)(iP:nl<=12)(ak:l.op=8){t:Nat}(hs:o.yd.Sz t)(ht:t+100<=9000000)(iD:Pow w0)(iG:11<=w0.heap.size)(hr:∀n∈o.ints,bC n):
  Calls Tryz.prog 65 #[.pointer (some ⟨x,0,none⟩),.agg #[.int .i64 (l.num:Nat),.int .i64 (l.op:Nat),.slice ap l.places.length cp,.int .i64 l.number,.int .i64 l.flag,.slice an l.next.length cn]] w fun e w'=>e=.returned (.tuple #[])/\(∃vm' vt',dq w0 x a w' {o with yd:=o.yd.note 111 (o.num (l.places.getD 0 (0,0)))} vi vm' vt'/\aA x vm vt w vm' vt' w'):=by
 have hlen:l.places.length=1:=by rw[hk.bt,ak];rfl
 have aF:Below w.heap.size w (w.alloc (.cells #[.int .i64 (l.num:Nat),.int .i64 (l.op:Nat),.slice ap l.places.length cp,.int .i64 l.number,.int .i64 l.flag,.slice an l.next.length cn] 115)):=(Below.refl _ _).alloc (jC _) _;obtain⟨g,rfl,gP,hg,-,-⟩:=ax hl hlen 0 (by omega);have ee:w.ownsRow z 119 2 (.slice (some ⟨g,0,none⟩) l.places.length cp) l.places.length (bf l.places):=hl.places;have fP:=aw ee aF;have pc:∀W:World,W.ownsRow z 119 2 (.slice (some ⟨g,0,none⟩) l.places.length cp) l.places.length (bf l.places)->W.cell? ⟨g,0,none⟩=some (.int .i64 ((l.places.getD 0 (0,0)).1:Nat))/\W.cell? ⟨g,1,none⟩=some (.int .i64 ((l.places.getD 0 (0,0)).2:Nat)):=fun W hW=>⟨(aV hW (j:=0) (by omega)).1,(aV hW (j:=0) (by omega)).2⟩
 have hx:∀j,j<1->(l.places.getD j (0,0)).1<nl:=fun j hj=>(hk.places (l.places.getD j (0,0)) (by rw[jA,jB (by omega)];exact jL _)).1
 have x0:=hx 0 (by omega);have HA:=h.below aF;have JK:Hid (_):=fP;have HP:Hid (_):=ee;have PC:Hid (_):=pc;have hd:=pc _ fP;rw[hlen]at aF HA hd;rw[hlen];clear hx hl hk pc ee fP;have b2:(((l.op:Nat):Int)==2)=false:=by rw[ak];rfl
 have b3:(((l.op:Nat):Int)==3)=false:=by rw[ak];rfl
 have b4:(((l.op:Nat):Int)==4)=false:=by rw[ak];rfl
 have b5:(((l.op:Nat):Int)==5)=false:=by rw[ak];rfl
 have b7:(((l.op:Nat):Int)==7)=false:=by rw[ak];rfl
 have b8:(((l.op:Nat):Int)==8)=true:=by rw[ak];rfl
 have b10:(((l.op:Nat):Int)==10)=false:=by rw[ak];rfl
 have b11:(((l.op:Nat):Int)==11)=false:=by rw[ak];rfl
 have b12:(((l.op:Nat):Int)==12)=false:=by rw[ak];rfl
 have b14:(((l.op:Nat):Int)==14)=false:=by rw[ak];rfl
 have b13:(((l.op:Nat):Int)==13)=false:=by rw[ak];rfl
 have b15:(((l.op:Nat):Int)==15)=false:=by rw[ak];rfl
 generalize l.places.getD 0 (0,0)=p0 at*;clear ak;obtain⟨d0,d1⟩:=hd;have x0i:(p0.1:Int)<12:=by omega
 have x9:∀{vm2 vt2:Value} {W:World},aA x vm vt (w.alloc (.cells #[.int .i64 (l.num:Nat),.int .i64 (l.op:Nat),.slice (some ⟨g,0,none⟩) 1 cp,.int .i64 l.number,.int .i64 l.flag,.slice an l.next.length cn] 115)) vm2 vt2 W->W.ownsRow z 119 2 (.slice (some ⟨g,0,none⟩) l.places.length cp) l.places.length (bf l.places):=fun hr=>HA.cj (by have:=JK.out;rw[hlen]at this;rw[hlen];exact this) (.inr rfl) hr
 have KN:=fS HA.drew p0 (by omega);have hnr:bC (o.num p0):=hr _ (by unfold Own.num;rw[jA,jB (by rw[h.ints];omega)];exact jL _);have KO:=fun(W:World) (hW:dq w0 x a W o vi vm vt)=>Ab hW.eG (o.num p0) hnr (iD.below hW.aZ iG) (hs.ok (by omega))
 clear hlen;go_enter Tryz.func65,Tryz.ntmps65
 go_wp2
 go_region_with (first
  |(go_at_call 58;go_fit KN;rintro e w2 ⟨rfl,h2⟩;have gF:=HA.drew.below h2;have r2:=((aA.of aF).drew (vm:=vm) (vt:=vt) (x:=x)).trans (aA.of h2))
  |(go_at_call 104;go_fit (KO _ gF);rintro e w3 ⟨rfl,vm3,vt3,h3,r3⟩))
 all_goals go_wp2_with fail
 all_goals
  go_end0
  exact⟨rfl,vm3,vt3,gF.qe h3 r3,r2.trans r3⟩
set_option maxRecDepth 20000 in
theorem CY (h:dq w0 x a w o vi vm vt){z nl nb:Nat}{l:ab}{ap an:Option Addr}{cp cn:Nat}(hl:aC z w l (.slice ap l.places.length cp) (.slice an l.next.length cn))(hk:fY nl nb l)(iP:nl<=12)(ak:l.op=10){t:Nat}(hs:o.yd.Sz t)(ht:t+100<=9000000)(iD:Pow w0)(iG:11<=w0.heap.size)(eT:o.Bx)(dB:1<=o.box (l.places.getD 1 (0,0))):
  Calls Tryz.prog 65 #[.pointer (some ⟨x,0,none⟩),.agg #[.int .i64 (l.num:Nat),.int .i64 (l.op:Nat),.slice ap l.places.length cp,.int .i64 l.number,.int .i64 l.flag,.slice an l.next.length cn]] w fun e w'=>e=.returned (.tuple #[])/\(∃vm' vt',dq w0 x a w' {o with yd:=o.yd.load (o.box (l.places.getD 1 (0,0))),ints:=o.ints.set (l.places.getD 0 (0,0)).1 (o.yd.at (o.box (l.places.getD 1 (0,0)))).1} vi vm' vt'/\aA x vm vt w vm' vt' w'):=by
 have hlen:l.places.length=2:=by rw[hk.bt,ak];rfl
 have aF:Below w.heap.size w (w.alloc (.cells #[.int .i64 (l.num:Nat),.int .i64 (l.op:Nat),.slice ap l.places.length cp,.int .i64 l.number,.int .i64 l.flag,.slice an l.next.length cn] 115)):=(Below.refl _ _).alloc (jC _) _;obtain⟨g,rfl,gP,hg,-,-⟩:=ax hl hlen 0 (by omega);have ee:w.ownsRow z 119 2 (.slice (some ⟨g,0,none⟩) l.places.length cp) l.places.length (bf l.places):=hl.places;have fP:=aw ee aF;have pc:∀W:World,W.ownsRow z 119 2 (.slice (some ⟨g,0,none⟩) l.places.length cp) l.places.length (bf l.places)->W.cell? ⟨g,0,none⟩=some (.int .i64 ((l.places.getD 0 (0,0)).1:Nat))/\W.cell? ⟨g,1,none⟩=some (.int .i64 ((l.places.getD 0 (0,0)).2:Nat))/\W.cell? ⟨g,2,none⟩=some (.int .i64 ((l.places.getD 1 (0,0)).1:Nat))/\W.cell? ⟨g,3,none⟩=some (.int .i64 ((l.places.getD 1 (0,0)).2:Nat)):=fun W hW=>⟨(aV hW (j:=0) (by omega)).1,(aV hW (j:=0) (by omega)).2,(aV hW (j:=1) (by omega)).1,(aV hW (j:=1) (by omega)).2⟩
 have hx:∀j,j<2->(l.places.getD j (0,0)).1<nl:=fun j hj=>(hk.places (l.places.getD j (0,0)) (by rw[jA,jB (by omega)];exact jL _)).1
 have x0:=hx 0 (by omega);have x1:=hx 1 (by omega);have HA:=h.below aF;have JK:Hid (_):=fP;have HP:Hid (_):=ee;have PC:Hid (_):=pc;have hd:=pc _ fP;rw[hlen]at aF HA hd;rw[hlen];clear hx hl hk pc ee fP;have b2:(((l.op:Nat):Int)==2)=false:=by rw[ak];rfl
 have b3:(((l.op:Nat):Int)==3)=false:=by rw[ak];rfl
 have b4:(((l.op:Nat):Int)==4)=false:=by rw[ak];rfl
 have b5:(((l.op:Nat):Int)==5)=false:=by rw[ak];rfl
 have b7:(((l.op:Nat):Int)==7)=false:=by rw[ak];rfl
 have b8:(((l.op:Nat):Int)==8)=false:=by rw[ak];rfl
 have b10:(((l.op:Nat):Int)==10)=true:=by rw[ak];rfl
 have b11:(((l.op:Nat):Int)==11)=false:=by rw[ak];rfl
 have b12:(((l.op:Nat):Int)==12)=false:=by rw[ak];rfl
 have b14:(((l.op:Nat):Int)==14)=false:=by rw[ak];rfl
 have b13:(((l.op:Nat):Int)==13)=false:=by rw[ak];rfl
 have b15:(((l.op:Nat):Int)==15)=false:=by rw[ak];rfl
 generalize l.places.getD 0 (0,0)=p0 at*;generalize l.places.getD 1 (0,0)=p1 at*;clear ak;obtain⟨d0,d1,d2,d3⟩:=hd;have x0i:(p0.1:Int)<12:=by omega
 have x9:∀{vm2 vt2:Value} {W:World},aA x vm vt (w.alloc (.cells #[.int .i64 (l.num:Nat),.int .i64 (l.op:Nat),.slice (some ⟨g,0,none⟩) 2 cp,.int .i64 l.number,.int .i64 l.flag,.slice an l.next.length cn] 115)) vm2 vt2 W->W.ownsRow z 119 2 (.slice (some ⟨g,0,none⟩) l.places.length cp) l.places.length (bf l.places):=fun hr=>HA.cj (by have:=JK.out;rw[hlen]at this;rw[hlen];exact this) (.inr rfl) hr
 have hle:=yB eT p1;have KB:=yc HA.drew p1 (by omega);have KL:=fun(W:World) (hW:dq w0 x a W o vi vm vt)=>FI hW.eG (o.box p1) dB hle (iD.below hW.aZ iG) (hs.ok (by omega))
 generalize o.box p1=n at*;clear hlen;go_enter Tryz.func65,Tryz.ntmps65
 go_wp2
 go_region_with (first
  |(go_at_call 99;go_fit KB;rintro e w2 ⟨rfl,h2⟩;have gF:=HA.drew.below h2;have r2a:aA x vm vt (w.alloc (.cells #[.int .i64 (l.num:Nat),.int .i64 (l.op:Nat),.slice (some ⟨g,0,none⟩) 2 cp,.int .i64 l.number,.int .i64 l.flag,.slice an l.next.length cn] 115)) vm vt w2:=(aA.of (ic _)).trans (aA.of h2);obtain⟨e0,e1,e2,e3⟩:=PC.out _ (x9 r2a))
  |(go_at_call 105;go_fit (KL _ gF);rintro e w3 ⟨rfl,vm3,vt3,h3,r3⟩;have GW:=gF.qe h3 r3;obtain⟨f0,f1,f2,f3⟩:=PC.out _ (x9 (r2a.trans r3));obtain⟨i1,i2⟩:=GW.int (j:=p0.1) (by omega)))
 all_goals go_wp2_with fail
 all_goals
  go_end0
  obtain⟨h4,r4⟩:=GW.setInt (j:=p0.1) (by omega) (o.yd.at n).1;exact⟨rfl,vm3,vt3,h4,(((aA.of aF).trans r2a).trans r3).trans r4⟩
end
end Own
namespace Own
open Go Go.RowKit Sq Aux PrjJ PrjK PrjL PrjM PrjS PrjT FlwA FlwB FlwD FlwE
section
variable {x a:Nat} {w w0 w1:World} {vm vt vi vm1 vt1:Value} {o:Own}
theorem dq.prog (h:dq w0 x a w o vi vm vt):w.cell? ⟨x,3,none⟩=some (.pointer (some ⟨a,0,none⟩)):=(h.eG.more 0).1
set_option maxRecDepth 20000 in
theorem yO (h:dq w0 x a w o vi vm vt){z nl nb:Nat}{l:ab}{ap an:Option Addr}{cp cn:Nat}(hl:aC z w l (.slice ap l.places.length cp) (.slice an l.next.length cn))(hk:fY nl nb l)(iP:nl<=12)(ak:l.op=11){t:Nat}(hs:o.yd.Sz t)(ht:t+100<=9000000)(iD:Pow w0)(iG:11<=w0.heap.size)(eT:o.Bx)(dB:1<=o.box (l.places.getD 0 (0,0))):
  Calls Tryz.prog 65 #[.pointer (some ⟨x,0,none⟩),.agg #[.int .i64 (l.num:Nat),.int .i64 (l.op:Nat),.slice ap l.places.length cp,.int .i64 l.number,.int .i64 l.flag,.slice an l.next.length cn]] w fun e w'=>e=.returned (.tuple #[])/\(∃vm' vt',dq w0 x a w' {o with yd:=o.yd.store (o.box (l.places.getD 0 (0,0))) (o.num (l.places.getD 1 (0,0)))} vi vm' vt'/\aA x vm vt w vm' vt' w'):=by
 have hlen:l.places.length=2:=by rw[hk.bt,ak];rfl
 have aF:Below w.heap.size w (w.alloc (.cells #[.int .i64 (l.num:Nat),.int .i64 (l.op:Nat),.slice ap l.places.length cp,.int .i64 l.number,.int .i64 l.flag,.slice an l.next.length cn] 115)):=(Below.refl _ _).alloc (jC _) _;obtain⟨g,rfl,gP,hg,-,-⟩:=ax hl hlen 0 (by omega);have ee:w.ownsRow z 119 2 (.slice (some ⟨g,0,none⟩) l.places.length cp) l.places.length (bf l.places):=hl.places;have fP:=aw ee aF;have pc:∀W:World,W.ownsRow z 119 2 (.slice (some ⟨g,0,none⟩) l.places.length cp) l.places.length (bf l.places)->W.cell? ⟨g,0,none⟩=some (.int .i64 ((l.places.getD 0 (0,0)).1:Nat))/\W.cell? ⟨g,1,none⟩=some (.int .i64 ((l.places.getD 0 (0,0)).2:Nat))/\W.cell? ⟨g,2,none⟩=some (.int .i64 ((l.places.getD 1 (0,0)).1:Nat))/\W.cell? ⟨g,3,none⟩=some (.int .i64 ((l.places.getD 1 (0,0)).2:Nat)):=fun W hW=>⟨(aV hW (j:=0) (by omega)).1,(aV hW (j:=0) (by omega)).2,(aV hW (j:=1) (by omega)).1,(aV hW (j:=1) (by omega)).2⟩
 have hx:∀j,j<2->(l.places.getD j (0,0)).1<nl:=fun j hj=>(hk.places (l.places.getD j (0,0)) (by rw[jA,jB (by omega)];exact jL _)).1
 have x0:=hx 0 (by omega);have x1:=hx 1 (by omega);have HA:=h.below aF;have JK:Hid (_):=fP;have HP:Hid (_):=ee;have PC:Hid (_):=pc;have hd:=pc _ fP;rw[hlen]at aF HA hd;rw[hlen];clear hx hl hk pc ee fP;have b2:(((l.op:Nat):Int)==2)=false:=by rw[ak];rfl
 have b3:(((l.op:Nat):Int)==3)=false:=by rw[ak];rfl
 have b4:(((l.op:Nat):Int)==4)=false:=by rw[ak];rfl
 have b5:(((l.op:Nat):Int)==5)=false:=by rw[ak];rfl
 have b7:(((l.op:Nat):Int)==7)=false:=by rw[ak];rfl
 have b8:(((l.op:Nat):Int)==8)=false:=by rw[ak];rfl
 have b10:(((l.op:Nat):Int)==10)=false:=by rw[ak];rfl
 have b11:(((l.op:Nat):Int)==11)=true:=by rw[ak];rfl
 have b12:(((l.op:Nat):Int)==12)=false:=by rw[ak];rfl
 have b14:(((l.op:Nat):Int)==14)=false:=by rw[ak];rfl
 have b13:(((l.op:Nat):Int)==13)=false:=by rw[ak];rfl
 have b15:(((l.op:Nat):Int)==15)=false:=by rw[ak];rfl
 generalize l.places.getD 0 (0,0)=p0 at*;generalize l.places.getD 1 (0,0)=p1 at*;clear ak;obtain⟨d0,d1,d2,d3⟩:=hd;have x0i:(p0.1:Int)<12:=by omega
 have x9:∀{vm2 vt2:Value} {W:World},aA x vm vt (w.alloc (.cells #[.int .i64 (l.num:Nat),.int .i64 (l.op:Nat),.slice (some ⟨g,0,none⟩) 2 cp,.int .i64 l.number,.int .i64 l.flag,.slice an l.next.length cn] 115)) vm2 vt2 W->W.ownsRow z 119 2 (.slice (some ⟨g,0,none⟩) l.places.length cp) l.places.length (bf l.places):=fun hr=>HA.cj (by have:=JK.out;rw[hlen]at this;rw[hlen];exact this) (.inr rfl) hr
 have hle:=yB eT p0;have KB:=fun(W:World) (hW:dq w0 x a W o vi vm vt)=>yc hW p0 (by omega)
 have KN:=fun(W:World) (hW:dq w0 x a W o vi vm vt)=>fS hW p1 (by omega)
 have KL:=fun(W:World) (hW:dq w0 x a W o vi vm vt)=>CE hW.eG (o.box p0) dB hle (o.num p1) (iD.below hW.aZ iG) (hs.ok (by omega))
 generalize o.box p0=n at*;generalize o.num p1=v at*;clear hlen;go_enter Tryz.func65,Tryz.ntmps65
 go_wp2
 go_region_with (first
  |(go_at_call 106;go_fit (KL _ gF);rintro e w3 ⟨rfl,vm3,vt3,h3,r3⟩)
  |(go_at_call 58;go_fit (KN _ eJ);rintro e w2 ⟨rfl,h2⟩;have gF:=eJ.below h2;have r2a:=r1a.trans (aA.of h2 (x:=x) (vm:=vm) (vt:=vt));obtain⟨f0,f1,f2,f3⟩:=PC.out _ (x9 r2a))
  |(go_at_call 99;go_fit (KB _ eJ);rintro e w2 ⟨rfl,h2⟩;have gF:=eJ.below h2;have r2a:=r1a.trans (aA.of h2 (x:=x) (vm:=vm) (vt:=vt));obtain⟨f0,f1,f2,f3⟩:=PC.out _ (x9 r2a))
  |(go_at_call 99;go_fit (KB _ HA.drew);rintro e w1 ⟨rfl,h1⟩;have eJ:=HA.drew.below h1;have r1a:aA x vm vt (w.alloc (.cells #[.int .i64 (l.num:Nat),.int .i64 (l.op:Nat),.slice (some ⟨g,0,none⟩) 2 cp,.int .i64 l.number,.int .i64 l.flag,.slice an l.next.length cn] 115)) vm vt w1:=(aA.of (ic _)).trans (aA.of h1);obtain⟨e0,e1,e2,e3⟩:=PC.out _ (x9 r1a))
  |(go_at_call 58;go_fit (KN _ HA.drew);rintro e w1 ⟨rfl,h1⟩;have eJ:=HA.drew.below h1;have r1a:aA x vm vt (w.alloc (.cells #[.int .i64 (l.num:Nat),.int .i64 (l.op:Nat),.slice (some ⟨g,0,none⟩) 2 cp,.int .i64 l.number,.int .i64 l.flag,.slice an l.next.length cn] 115)) vm vt w1:=(aA.of (ic _)).trans (aA.of h1);obtain⟨e0,e1,e2,e3⟩:=PC.out _ (x9 r1a)))
 all_goals go_wp2_with fail
 all_goals
  go_end0
  exact⟨rfl,vm3,vt3,gF.qe h3 r3,((aA.of aF).trans r2a).trans r3⟩
set_option maxRecDepth 20000 in
theorem C0 (h:dq w0 x a w o vi vm vt){z nl nb:Nat}{l:ab}{ap an:Option Addr}{cp cn:Nat}(hl:aC z w l (.slice ap l.places.length cp) (.slice an l.next.length cn))(hk:fY nl nb l)(iP:nl<=12)(ak:l.op=13){t:Nat}(hs:o.yd.Sz t)(ht:t+100<=9000000)(iD:Pow w0)(iG:11<=w0.heap.size)(eT:o.Bx){q:QP}{v u:Value}(hq:PQ w0 a q v u)(hnq:nl=q.locals.length):
  Calls Tryz.prog 65 #[.pointer (some ⟨x,0,none⟩),.agg #[.int .i64 (l.num:Nat),.int .i64 (l.op:Nat),.slice ap l.places.length cp,.int .i64 l.number,.int .i64 l.flag,.slice an l.next.length cn]] w fun e w'=>e=.returned (.tuple #[])/\(∃vm' vt',dq w0 x a w' (o.drop (QP.ai q (l.places.getD 0 (0,0)))) vi vm' vt'/\aA x vm vt w vm' vt' w'):=by
 have hlen:l.places.length=1:=by rw[hk.bt,ak];rfl
 have aF:Below w.heap.size w (w.alloc (.cells #[.int .i64 (l.num:Nat),.int .i64 (l.op:Nat),.slice ap l.places.length cp,.int .i64 l.number,.int .i64 l.flag,.slice an l.next.length cn] 115)):=(Below.refl _ _).alloc (jC _) _;obtain⟨g,rfl,gP,hg,-,-⟩:=ax hl hlen 0 (by omega);have ee:w.ownsRow z 119 2 (.slice (some ⟨g,0,none⟩) l.places.length cp) l.places.length (bf l.places):=hl.places;have fP:=aw ee aF;have pc:∀W:World,W.ownsRow z 119 2 (.slice (some ⟨g,0,none⟩) l.places.length cp) l.places.length (bf l.places)->W.cell? ⟨g,0,none⟩=some (.int .i64 ((l.places.getD 0 (0,0)).1:Nat))/\W.cell? ⟨g,1,none⟩=some (.int .i64 ((l.places.getD 0 (0,0)).2:Nat)):=fun W hW=>⟨(aV hW (j:=0) (by omega)).1,(aV hW (j:=0) (by omega)).2⟩
 have hx:∀j,j<1->(l.places.getD j (0,0)).1<nl:=fun j hj=>(hk.places (l.places.getD j (0,0)) (by rw[jA,jB (by omega)];exact jL _)).1
 have x0:=hx 0 (by omega);have HA:=h.below aF;have JK:Hid (_):=fP;have HP:Hid (_):=ee;have PC:Hid (_):=pc;have hd:=pc _ fP;rw[hlen]at aF HA hd;rw[hlen];clear hx hl hk pc ee fP;have b2:(((l.op:Nat):Int)==2)=false:=by rw[ak];rfl
 have b3:(((l.op:Nat):Int)==3)=false:=by rw[ak];rfl
 have b4:(((l.op:Nat):Int)==4)=false:=by rw[ak];rfl
 have b5:(((l.op:Nat):Int)==5)=false:=by rw[ak];rfl
 have b7:(((l.op:Nat):Int)==7)=false:=by rw[ak];rfl
 have b8:(((l.op:Nat):Int)==8)=false:=by rw[ak];rfl
 have b10:(((l.op:Nat):Int)==10)=false:=by rw[ak];rfl
 have b11:(((l.op:Nat):Int)==11)=false:=by rw[ak];rfl
 have b12:(((l.op:Nat):Int)==12)=false:=by rw[ak];rfl
 have b14:(((l.op:Nat):Int)==14)=false:=by rw[ak];rfl
 have b13:(((l.op:Nat):Int)==13)=true:=by rw[ak];rfl
 have b15:(((l.op:Nat):Int)==15)=false:=by rw[ak];rfl
 generalize l.places.getD 0 (0,0)=p0 at*;clear ak;obtain⟨d0,d1⟩:=hd;have x0i:(p0.1:Int)<12:=by omega
 have x0q:p0.1<q.locals.length:=by omega
 have lu:=cP (q:=q) (x:=p0) (n:=12) (by omega);have hlq:(QP.ai q p0).length<=2:=by unfold QP.ai;split<;>simp
 have HQ:=hq.below HA.drew.aZ;have m3:=HA.prog;have KH:=c8 q p0 v u a _ HQ.aM HQ.loc x0q;have KD:=fun(W:World) (hW:dq w0 x a W o vi vm vt) (zz gg cc:Nat) (hP:aI zz W (.slice (some ⟨gg,0,none⟩) (QP.ai q p0).length cc) (QP.ai q p0))=>pr hW hP lu (by omega) eT hs (by omega) iD iG
 clear hlen;go_enter Tryz.func65,Tryz.ntmps65
 go_wp2
 go_region_with (first
  |(go_at_call 102;go_fit KH;rintro e w2 ⟨g2,c2,rfl,me,h2⟩;have gF:=HA.drew.below h2;have r2a:aA x vm vt (w.alloc (.cells #[.int .i64 (l.num:Nat),.int .i64 (l.op:Nat),.slice (some ⟨g,0,none⟩) 1 cp,.int .i64 l.number,.int .i64 l.flag,.slice an l.next.length cn] 115)) vm vt w2:=(aA.of (ic _)).trans (aA.of h2))
  |(go_at_call 60;go_fit (KD _ gF _ g2 c2 me);rintro e w3 ⟨rfl,vm3,vt3,h3,r3⟩))
 all_goals go_wp2_with fail
 all_goals
  go_end0
  exact⟨rfl,vm3,vt3,h3,((aA.of aF).trans r2a).trans r3⟩
set_option maxRecDepth 20000 in
theorem Rg (h:dq w0 x a w o vi vm vt){z nl nb:Nat}{l:ab}{ap an:Option Addr}{cp cn:Nat}(hl:aC z w l (.slice ap l.places.length cp) (.slice an l.next.length cn))(hk:fY nl nb l)(iP:nl<=12)(ak:l.op=15){t:Nat}(hs:o.yd.Sz t)(ht:t+100<=9000000)(iD:Pow w0)(iG:11<=w0.heap.size)(eT:o.Bx){q:QP}{v u:Value}(hq:PQ w0 a q v u)(hnq:nl=q.locals.length):
  Calls Tryz.prog 65 #[.pointer (some ⟨x,0,none⟩),.agg #[.int .i64 (l.num:Nat),.int .i64 (l.op:Nat),.slice ap l.places.length cp,.int .i64 l.number,.int .i64 l.flag,.slice an l.next.length cn]] w fun e w'=>e=.returned (.tuple #[])/\(∃vm' vt',dq w0 x a w' (o.drop (QP.ai q (l.places.getD 0 (0,0)))) vi vm' vt'/\aA x vm vt w vm' vt' w'):=by
 have hlen:l.places.length=1:=by rw[hk.bt,ak];rfl
 have aF:Below w.heap.size w (w.alloc (.cells #[.int .i64 (l.num:Nat),.int .i64 (l.op:Nat),.slice ap l.places.length cp,.int .i64 l.number,.int .i64 l.flag,.slice an l.next.length cn] 115)):=(Below.refl _ _).alloc (jC _) _;obtain⟨g,rfl,gP,hg,-,-⟩:=ax hl hlen 0 (by omega);have ee:w.ownsRow z 119 2 (.slice (some ⟨g,0,none⟩) l.places.length cp) l.places.length (bf l.places):=hl.places;have fP:=aw ee aF;have pc:∀W:World,W.ownsRow z 119 2 (.slice (some ⟨g,0,none⟩) l.places.length cp) l.places.length (bf l.places)->W.cell? ⟨g,0,none⟩=some (.int .i64 ((l.places.getD 0 (0,0)).1:Nat))/\W.cell? ⟨g,1,none⟩=some (.int .i64 ((l.places.getD 0 (0,0)).2:Nat)):=fun W hW=>⟨(aV hW (j:=0) (by omega)).1,(aV hW (j:=0) (by omega)).2⟩
 have hx:∀j,j<1->(l.places.getD j (0,0)).1<nl:=fun j hj=>(hk.places (l.places.getD j (0,0)) (by rw[jA,jB (by omega)];exact jL _)).1
 have x0:=hx 0 (by omega);have HA:=h.below aF;have JK:Hid (_):=fP;have HP:Hid (_):=ee;have PC:Hid (_):=pc;have hd:=pc _ fP;rw[hlen]at aF HA hd;rw[hlen];clear hx hl hk pc ee fP;have b2:(((l.op:Nat):Int)==2)=false:=by rw[ak];rfl
 have b3:(((l.op:Nat):Int)==3)=false:=by rw[ak];rfl
 have b4:(((l.op:Nat):Int)==4)=false:=by rw[ak];rfl
 have b5:(((l.op:Nat):Int)==5)=false:=by rw[ak];rfl
 have b7:(((l.op:Nat):Int)==7)=false:=by rw[ak];rfl
 have b8:(((l.op:Nat):Int)==8)=false:=by rw[ak];rfl
 have b10:(((l.op:Nat):Int)==10)=false:=by rw[ak];rfl
 have b11:(((l.op:Nat):Int)==11)=false:=by rw[ak];rfl
 have b12:(((l.op:Nat):Int)==12)=false:=by rw[ak];rfl
 have b14:(((l.op:Nat):Int)==14)=false:=by rw[ak];rfl
 have b13:(((l.op:Nat):Int)==13)=false:=by rw[ak];rfl
 have b15:(((l.op:Nat):Int)==15)=true:=by rw[ak];rfl
 generalize l.places.getD 0 (0,0)=p0 at*;clear ak;obtain⟨d0,d1⟩:=hd;have x0i:(p0.1:Int)<12:=by omega
 have x0q:p0.1<q.locals.length:=by omega
 have lu:=cP (q:=q) (x:=p0) (n:=12) (by omega);have hlq:(QP.ai q p0).length<=2:=by unfold QP.ai;split<;>simp
 have HQ:=hq.below HA.drew.aZ;have m3:=HA.prog;have KH:=c8 q p0 v u a _ HQ.aM HQ.loc x0q;have KD:=fun(W:World) (hW:dq w0 x a W o vi vm vt) (zz gg cc:Nat) (hP:aI zz W (.slice (some ⟨gg,0,none⟩) (QP.ai q p0).length cc) (QP.ai q p0))=>pr hW hP lu (by omega) eT hs (by omega) iD iG
 clear hlen;go_enter Tryz.func65,Tryz.ntmps65
 go_wp2
 go_region_with (first
  |(go_at_call 102;go_fit KH;rintro e w2 ⟨g2,c2,rfl,me,h2⟩;have gF:=HA.drew.below h2;have r2a:aA x vm vt (w.alloc (.cells #[.int .i64 (l.num:Nat),.int .i64 (l.op:Nat),.slice (some ⟨g,0,none⟩) 1 cp,.int .i64 l.number,.int .i64 l.flag,.slice an l.next.length cn] 115)) vm vt w2:=(aA.of (ic _)).trans (aA.of h2))
  |(go_at_call 60;go_fit (KD _ gF _ g2 c2 me);rintro e w3 ⟨rfl,vm3,vt3,h3,r3⟩))
 all_goals go_wp2_with fail
 all_goals
  go_end0
  exact⟨rfl,vm3,vt3,h3,((aA.of aF).trans r2a).trans r3⟩
end
end Own
end Go.Proofs.YtmlgajhhnojdjaaGreatDoor

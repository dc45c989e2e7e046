import Derived.Test.YtmlgajhhnojdjaaGreatDoorVAP
set_option maxHeartbeats 8000000
namespace Go.Proofs.YtmlgajhhnojdjaaGreatDoor
namespace Own
open Go Go.RowKit Sq Aux PrjJ PrjK PrjL PrjM PrjS PrjT FlwA FlwB FlwE
section
variable {x a:Nat} {w w0 w1:World} {vm vt vi vm1 vt1:Value} {o:Own}
theorem fj (w:World):Below w.heap.size w w.drew:=⟨rfl,rfl,rfl,jC _,fun _ _=>rfl⟩
theorem cg.drew (h:cg w0 x a w o vi vm vt):cg w0 x a w.drew o vi vm vt:=h.below (fj w)
theorem aI.drew (h:aI x vm vt w vm1 vt1 w1):aI x vm vt w vm1 vt1 w1.drew:=h.trans (aI.of (fj w1))
theorem bc {z g cp:Nat}{l:ab}{W:World}(h:W.ownsRow z 119 2 (.slice (some ⟨g,0,none⟩) l.places.length cp) l.places.length (aM l.places)){j:Nat}(hj:j<l.places.length):
  W.cell? ⟨g,j*2,none⟩=some (.int .i64 ((l.places.getD j (0,0)).1:Nat))/\W.cell? ⟨g,j*2+1,none⟩=some (.int .i64 ((l.places.getD j (0,0)).2:Nat)):=by
 obtain⟨g',e,-,-,-,c1,c2⟩:=bB h j hj;simp only[Option.some.injEq,Addr.mk.injEq,and_true]at e;subst e;exact⟨c1,c2⟩
set_option maxRecDepth 20000 in
theorem Nl (h:cg w0 x a w o vi vm vt){z nl nb:Nat}{l:ab}{ap an:Option Addr}{cp cn:Nat}(hl:aE z w l (.slice ap l.places.length cp) (.slice an l.next.length cn))(hk:iB nl nb l)(iE:nl<=12)(aH:l.op=2):
  Calls Tryz.prog 65 #[.pointer (some ⟨x,0,none⟩),.agg #[.int .i64 (l.num:Nat),.int .i64 (l.op:Nat),.slice ap l.places.length cp,.int .i64 l.number,.int .i64 l.flag,.slice an l.next.length cn]] w fun e w'=>e=.returned (.tuple #[])/\cg w0 x a w' {o with ints:=o.ints.set (l.places.getD 0 (0,0)).1 l.number} vi vm vt/\aI x vm vt w vm vt w':=by
 have hlen:l.places.length=1:=by rw[hk.cP,aH];rfl
 have aO:Below w.heap.size w (w.alloc (.cells #[.int .i64 (l.num:Nat),.int .i64 (l.op:Nat),.slice ap l.places.length cp,.int .i64 l.number,.int .i64 l.flag,.slice an l.next.length cn] 115)):=(Below.refl _ _).alloc (jC _) _;obtain⟨g,rfl,kC,hg,-,-⟩:=aS hl hlen 0 (by omega);have dL:w.ownsRow z 119 2 (.slice (some ⟨g,0,none⟩) l.places.length cp) l.places.length (aM l.places):=hl.places;have ef:=al dL aO;have pc:∀W:World,W.ownsRow z 119 2 (.slice (some ⟨g,0,none⟩) l.places.length cp) l.places.length (aM l.places)->W.cell? ⟨g,0,none⟩=some (.int .i64 ((l.places.getD 0 (0,0)).1:Nat))/\W.cell? ⟨g,1,none⟩=some (.int .i64 ((l.places.getD 0 (0,0)).2:Nat)):=fun W hW=>⟨(bc hW (j:=0) (by omega)).1,(bc hW (j:=0) (by omega)).2⟩
 have hx:∀j,j<1->(l.places.getD j (0,0)).1<nl:=fun j hj=>(hk.places (l.places.getD j (0,0)) (by rw[jA,jB (by omega)];exact jL _)).1
 have x0:=hx 0 (by omega);have HA:=h.below aO;have Dt:Hid (_):=ef;have HP:Hid (_):=dL;have PC:Hid (_):=pc;have hd:=pc _ ef;rw[hlen]at aO HA hd;rw[hlen];clear hx hl hk pc dL ef;have b2:(((l.op:Nat):Int)==2)=true:=by rw[aH];rfl
 have b3:(((l.op:Nat):Int)==3)=false:=by rw[aH];rfl
 have b4:(((l.op:Nat):Int)==4)=false:=by rw[aH];rfl
 have b5:(((l.op:Nat):Int)==5)=false:=by rw[aH];rfl
 have b7:(((l.op:Nat):Int)==7)=false:=by rw[aH];rfl
 have b8:(((l.op:Nat):Int)==8)=false:=by rw[aH];rfl
 have b10:(((l.op:Nat):Int)==10)=false:=by rw[aH];rfl
 have b11:(((l.op:Nat):Int)==11)=false:=by rw[aH];rfl
 have b12:(((l.op:Nat):Int)==12)=false:=by rw[aH];rfl
 have b14:(((l.op:Nat):Int)==14)=false:=by rw[aH];rfl
 have b13:(((l.op:Nat):Int)==13)=false:=by rw[aH];rfl
 have b15:(((l.op:Nat):Int)==15)=false:=by rw[aH];rfl
 generalize l.places.getD 0 (0,0)=p0 at*;clear aH;obtain⟨d0,d1⟩:=hd;have x0i:(p0.1:Int)<12:=by omega
 obtain⟨i1,i2⟩:=HA.int (j:=p0.1) (by omega);clear hlen;go_enter Tryz.func65,Tryz.ntmps65
 go_wp2
 go_region
 all_goals go_wp2_with fail
 all_goals
  go_end0
  obtain⟨h1,h2⟩:=HA.setInt (j:=p0.1) (by omega) l.number;exact⟨rfl,h1.drew,((aI.of aO).trans h2).drew⟩
set_option maxRecDepth 20000 in
theorem PO (h:cg w0 x a w o vi vm vt){z nl nb:Nat}{l:ab}{ap an:Option Addr}{cp cn:Nat}(hl:aE z w l (.slice ap l.places.length cp) (.slice an l.next.length cn))(hk:iB nl nb l)(iE:nl<=12)(aH:l.op=7):
  Calls Tryz.prog 65 #[.pointer (some ⟨x,0,none⟩),.agg #[.int .i64 (l.num:Nat),.int .i64 (l.op:Nat),.slice ap l.places.length cp,.int .i64 l.number,.int .i64 l.flag,.slice an l.next.length cn]] w fun e w'=>e=.returned (.tuple #[])/\(∃vi',cg w0 x a w' {o with cX:=o.cX.tail,ints:=o.ints.set (l.places.getD 0 (0,0)).1 (o.cX.headD 0)} vi' vm vt)/\aI x vm vt w vm vt w':=by
 have hlen:l.places.length=1:=by rw[hk.cP,aH];rfl
 have aO:Below w.heap.size w (w.alloc (.cells #[.int .i64 (l.num:Nat),.int .i64 (l.op:Nat),.slice ap l.places.length cp,.int .i64 l.number,.int .i64 l.flag,.slice an l.next.length cn] 115)):=(Below.refl _ _).alloc (jC _) _;obtain⟨g,rfl,kC,hg,-,-⟩:=aS hl hlen 0 (by omega);have dL:w.ownsRow z 119 2 (.slice (some ⟨g,0,none⟩) l.places.length cp) l.places.length (aM l.places):=hl.places;have ef:=al dL aO;have pc:∀W:World,W.ownsRow z 119 2 (.slice (some ⟨g,0,none⟩) l.places.length cp) l.places.length (aM l.places)->W.cell? ⟨g,0,none⟩=some (.int .i64 ((l.places.getD 0 (0,0)).1:Nat))/\W.cell? ⟨g,1,none⟩=some (.int .i64 ((l.places.getD 0 (0,0)).2:Nat)):=fun W hW=>⟨(bc hW (j:=0) (by omega)).1,(bc hW (j:=0) (by omega)).2⟩
 have hx:∀j,j<1->(l.places.getD j (0,0)).1<nl:=fun j hj=>(hk.places (l.places.getD j (0,0)) (by rw[jA,jB (by omega)];exact jL _)).1
 have x0:=hx 0 (by omega);have HA:=h.below aO;have Dt:Hid (_):=ef;have HP:Hid (_):=dL;have PC:Hid (_):=pc;have hd:=pc _ ef;rw[hlen]at aO HA hd;rw[hlen];clear hx hl hk pc dL ef;have b2:(((l.op:Nat):Int)==2)=false:=by rw[aH];rfl
 have b3:(((l.op:Nat):Int)==3)=false:=by rw[aH];rfl
 have b4:(((l.op:Nat):Int)==4)=false:=by rw[aH];rfl
 have b5:(((l.op:Nat):Int)==5)=false:=by rw[aH];rfl
 have b7:(((l.op:Nat):Int)==7)=true:=by rw[aH];rfl
 have b8:(((l.op:Nat):Int)==8)=false:=by rw[aH];rfl
 have b10:(((l.op:Nat):Int)==10)=false:=by rw[aH];rfl
 have b11:(((l.op:Nat):Int)==11)=false:=by rw[aH];rfl
 have b12:(((l.op:Nat):Int)==12)=false:=by rw[aH];rfl
 have b14:(((l.op:Nat):Int)==14)=false:=by rw[aH];rfl
 have b13:(((l.op:Nat):Int)==13)=false:=by rw[aH];rfl
 have b15:(((l.op:Nat):Int)==15)=false:=by rw[aH];rfl
 generalize l.places.getD 0 (0,0)=p0 at*;clear aH;obtain⟨d0,d1⟩:=hd;have x0i:(p0.1:Int)<12:=by omega
 have rT:∀{vm2 vt2:Value} {W:World},aI x vm vt (w.alloc (.cells #[.int .i64 (l.num:Nat),.int .i64 (l.op:Nat),.slice (some ⟨g,0,none⟩) 1 cp,.int .i64 l.number,.int .i64 l.flag,.slice an l.next.length cn] 115)) vm2 vt2 W->W.ownsRow z 119 2 (.slice (some ⟨g,0,none⟩) l.places.length cp) l.places.length (aM l.places):=fun hr=>HA.bE (by have:=Dt.out;rw[hlen]at this;rw[hlen];exact this) (.inr rfl) hr
 have KF:=Hj HA.drew;generalize hv:o.cX.headD 0=v at KF⊢;clear hv;clear hlen;go_enter Tryz.func65,Tryz.ntmps65
 go_wp2
 go_region_with (go_at_call 103;go_fit KF;rintro e w2 ⟨rfl,vi',h2,r2⟩;have r2':=(aI.of (fj (w.alloc (.cells #[.int .i64 (l.num:Nat),.int .i64 (l.op:Nat),.slice (some ⟨g,0,none⟩) 1 cp,.int .i64 l.number,.int .i64 l.flag,.slice an l.next.length cn] 115)))).trans r2;obtain⟨i1,i2⟩:=h2.int (j:=p0.1) (by omega);obtain⟨e0,e1⟩:=PC.out _ (rT r2'))
 all_goals go_wp2_with fail
 all_goals
  go_end0
  obtain⟨h3,h4⟩:=h2.setInt (j:=p0.1) (by omega) v;exact⟨rfl,⟨vi',h3⟩,((aI.of aO).trans r2').trans h4⟩
set_option maxRecDepth 20000 in
theorem Nk (h:cg w0 x a w o vi vm vt){z nl nb:Nat}{l:ab}{ap an:Option Addr}{cp cn:Nat}(hl:aE z w l (.slice ap l.places.length cp) (.slice an l.next.length cn))(hk:iB nl nb l)(iE:nl<=12)(aH:l.op=8){t:Nat}(hs:o.yd.Sz t)(ht:t+100<=9000000)(lB:Pow w0)(ly:11<=w0.heap.size)(hr:∀n∈o.ints,cY n):
  Calls Tryz.prog 65 #[.pointer (some ⟨x,0,none⟩),.agg #[.int .i64 (l.num:Nat),.int .i64 (l.op:Nat),.slice ap l.places.length cp,.int .i64 l.number,.int .i64 l.flag,.slice an l.next.length cn]] w fun e w'=>e=.returned (.tuple #[])/\(∃vm' vt',cg w0 x a w' {o with yd:=o.yd.note 111 (o.num (l.places.getD 0 (0,0)))} vi vm' vt'/\aI x vm vt w vm' vt' w'):=by
 have hlen:l.places.length=1:=by rw[hk.cP,aH];rfl
 have aO:Below w.heap.size w (w.alloc (.cells #[.int .i64 (l.num:Nat),.int .i64 (l.op:Nat),.slice ap l.places.length cp,.int .i64 l.number,.int .i64 l.flag,.slice an l.next.length cn] 115)):=(Below.refl _ _).alloc (jC _) _;obtain⟨g,rfl,kC,hg,-,-⟩:=aS hl hlen 0 (by omega);have dL:w.ownsRow z 119 2 (.slice (some ⟨g,0,none⟩) l.places.length cp) l.places.length (aM l.places):=hl.places;have ef:=al dL aO;have pc:∀W:World,W.ownsRow z 119 2 (.slice (some ⟨g,0,none⟩) l.places.length cp) l.places.length (aM l.places)->W.cell? ⟨g,0,none⟩=some (.int .i64 ((l.places.getD 0 (0,0)).1:Nat))/\W.cell? ⟨g,1,none⟩=some (.int .i64 ((l.places.getD 0 (0,0)).2:Nat)):=fun W hW=>⟨(bc hW (j:=0) (by omega)).1,(bc hW (j:=0) (by omega)).2⟩
 have hx:∀j,j<1->(l.places.getD j (0,0)).1<nl:=fun j hj=>(hk.places (l.places.getD j (0,0)) (by rw[jA,jB (by omega)];exact jL _)).1
 have x0:=hx 0 (by omega);have HA:=h.below aO;have Dt:Hid (_):=ef;have HP:Hid (_):=dL;have PC:Hid (_):=pc;have hd:=pc _ ef;rw[hlen]at aO HA hd;rw[hlen];clear hx hl hk pc dL ef;have b2:(((l.op:Nat):Int)==2)=false:=by rw[aH];rfl
 have b3:(((l.op:Nat):Int)==3)=false:=by rw[aH];rfl
 have b4:(((l.op:Nat):Int)==4)=false:=by rw[aH];rfl
 have b5:(((l.op:Nat):Int)==5)=false:=by rw[aH];rfl
 have b7:(((l.op:Nat):Int)==7)=false:=by rw[aH];rfl
 have b8:(((l.op:Nat):Int)==8)=true:=by rw[aH];rfl
 have b10:(((l.op:Nat):Int)==10)=false:=by rw[aH];rfl
 have b11:(((l.op:Nat):Int)==11)=false:=by rw[aH];rfl
 have b12:(((l.op:Nat):Int)==12)=false:=by rw[aH];rfl
 have b14:(((l.op:Nat):Int)==14)=false:=by rw[aH];rfl
 have b13:(((l.op:Nat):Int)==13)=false:=by rw[aH];rfl
 have b15:(((l.op:Nat):Int)==15)=false:=by rw[aH];rfl
 generalize l.places.getD 0 (0,0)=p0 at*;clear aH;obtain⟨d0,d1⟩:=hd;have x0i:(p0.1:Int)<12:=by omega
 have rT:∀{vm2 vt2:Value} {W:World},aI x vm vt (w.alloc (.cells #[.int .i64 (l.num:Nat),.int .i64 (l.op:Nat),.slice (some ⟨g,0,none⟩) 1 cp,.int .i64 l.number,.int .i64 l.flag,.slice an l.next.length cn] 115)) vm2 vt2 W->W.ownsRow z 119 2 (.slice (some ⟨g,0,none⟩) l.places.length cp) l.places.length (aM l.places):=fun hr=>HA.bE (by have:=Dt.out;rw[hlen]at this;rw[hlen];exact this) (.inr rfl) hr
 have KN:=ei HA.drew p0 (by omega);have Uu:cY (o.num p0):=hr _ (by unfold Own.num;rw[jA,jB (by rw[h.ints];omega)];exact jL _);have KO:=fun(W:World) (hW:cg w0 x a W o vi vm vt)=>C2 hW.fC (o.num p0) Uu (lB.below hW.bz ly) (hs.ok (by omega))
 clear hlen;go_enter Tryz.func65,Tryz.ntmps65
 go_wp2
 go_region_with (first
  |(go_at_call 58;go_fit KN;rintro e w2 ⟨rfl,h2⟩;have fB:=HA.drew.below h2;have r2:=((aI.of aO).drew (vm:=vm) (vt:=vt) (x:=x)).trans (aI.of h2))
  |(go_at_call 104;go_fit (KO _ fB);rintro e w3 ⟨rfl,vm3,vt3,h3,r3⟩))
 all_goals go_wp2_with fail
 all_goals
  go_end0
  exact⟨rfl,vm3,vt3,fB.GG h3 r3,r2.trans r3⟩
set_option maxRecDepth 20000 in
theorem Ki (h:cg w0 x a w o vi vm vt){z nl nb:Nat}{l:ab}{ap an:Option Addr}{cp cn:Nat}(hl:aE z w l (.slice ap l.places.length cp) (.slice an l.next.length cn))(hk:iB nl nb l)(iE:nl<=12)(aH:l.op=10){t:Nat}(hs:o.yd.Sz t)(ht:t+100<=9000000)(lB:Pow w0)(ly:11<=w0.heap.size)(jv:o.Bx)(c8:1<=o.box (l.places.getD 1 (0,0))):
  Calls Tryz.prog 65 #[.pointer (some ⟨x,0,none⟩),.agg #[.int .i64 (l.num:Nat),.int .i64 (l.op:Nat),.slice ap l.places.length cp,.int .i64 l.number,.int .i64 l.flag,.slice an l.next.length cn]] w fun e w'=>e=.returned (.tuple #[])/\(∃vm' vt',cg w0 x a w' {o with yd:=o.yd.load (o.box (l.places.getD 1 (0,0))),ints:=o.ints.set (l.places.getD 0 (0,0)).1 (o.yd.at (o.box (l.places.getD 1 (0,0)))).1} vi vm' vt'/\aI x vm vt w vm' vt' w'):=by
 have hlen:l.places.length=2:=by rw[hk.cP,aH];rfl
 have aO:Below w.heap.size w (w.alloc (.cells #[.int .i64 (l.num:Nat),.int .i64 (l.op:Nat),.slice ap l.places.length cp,.int .i64 l.number,.int .i64 l.flag,.slice an l.next.length cn] 115)):=(Below.refl _ _).alloc (jC _) _;obtain⟨g,rfl,kC,hg,-,-⟩:=aS hl hlen 0 (by omega);have dL:w.ownsRow z 119 2 (.slice (some ⟨g,0,none⟩) l.places.length cp) l.places.length (aM l.places):=hl.places;have ef:=al dL aO;have pc:∀W:World,W.ownsRow z 119 2 (.slice (some ⟨g,0,none⟩) l.places.length cp) l.places.length (aM l.places)->W.cell? ⟨g,0,none⟩=some (.int .i64 ((l.places.getD 0 (0,0)).1:Nat))/\W.cell? ⟨g,1,none⟩=some (.int .i64 ((l.places.getD 0 (0,0)).2:Nat))/\W.cell? ⟨g,2,none⟩=some (.int .i64 ((l.places.getD 1 (0,0)).1:Nat))/\W.cell? ⟨g,3,none⟩=some (.int .i64 ((l.places.getD 1 (0,0)).2:Nat)):=fun W hW=>⟨(bc hW (j:=0) (by omega)).1,(bc hW (j:=0) (by omega)).2,(bc hW (j:=1) (by omega)).1,(bc hW (j:=1) (by omega)).2⟩
 have hx:∀j,j<2->(l.places.getD j (0,0)).1<nl:=fun j hj=>(hk.places (l.places.getD j (0,0)) (by rw[jA,jB (by omega)];exact jL _)).1
 have x0:=hx 0 (by omega);have x1:=hx 1 (by omega);have HA:=h.below aO;have Dt:Hid (_):=ef;have HP:Hid (_):=dL;have PC:Hid (_):=pc;have hd:=pc _ ef;rw[hlen]at aO HA hd;rw[hlen];clear hx hl hk pc dL ef;have b2:(((l.op:Nat):Int)==2)=false:=by rw[aH];rfl
 have b3:(((l.op:Nat):Int)==3)=false:=by rw[aH];rfl
 have b4:(((l.op:Nat):Int)==4)=false:=by rw[aH];rfl
 have b5:(((l.op:Nat):Int)==5)=false:=by rw[aH];rfl
 have b7:(((l.op:Nat):Int)==7)=false:=by rw[aH];rfl
 have b8:(((l.op:Nat):Int)==8)=false:=by rw[aH];rfl
 have b10:(((l.op:Nat):Int)==10)=true:=by rw[aH];rfl
 have b11:(((l.op:Nat):Int)==11)=false:=by rw[aH];rfl
 have b12:(((l.op:Nat):Int)==12)=false:=by rw[aH];rfl
 have b14:(((l.op:Nat):Int)==14)=false:=by rw[aH];rfl
 have b13:(((l.op:Nat):Int)==13)=false:=by rw[aH];rfl
 have b15:(((l.op:Nat):Int)==15)=false:=by rw[aH];rfl
 generalize l.places.getD 0 (0,0)=p0 at*;generalize l.places.getD 1 (0,0)=p1 at*;clear aH;obtain⟨d0,d1,d2,d3⟩:=hd;have x0i:(p0.1:Int)<12:=by omega
 have rT:∀{vm2 vt2:Value} {W:World},aI x vm vt (w.alloc (.cells #[.int .i64 (l.num:Nat),.int .i64 (l.op:Nat),.slice (some ⟨g,0,none⟩) 2 cp,.int .i64 l.number,.int .i64 l.flag,.slice an l.next.length cn] 115)) vm2 vt2 W->W.ownsRow z 119 2 (.slice (some ⟨g,0,none⟩) l.places.length cp) l.places.length (aM l.places):=fun hr=>HA.bE (by have:=Dt.out;rw[hlen]at this;rw[hlen];exact this) (.inr rfl) hr
 have hle:=sr jv p1;have KB:=rW HA.drew p1 (by omega);have KL:=fun(W:World) (hW:cg w0 x a W o vi vm vt)=>IP hW.fC (o.box p1) c8 hle (lB.below hW.bz ly) (hs.ok (by omega))
 generalize o.box p1=n at*;clear hlen;go_enter Tryz.func65,Tryz.ntmps65
 go_wp2
 go_region_with (first
  |(go_at_call 99;go_fit KB;rintro e w2 ⟨rfl,h2⟩;have fB:=HA.drew.below h2;have r2a:aI x vm vt (w.alloc (.cells #[.int .i64 (l.num:Nat),.int .i64 (l.op:Nat),.slice (some ⟨g,0,none⟩) 2 cp,.int .i64 l.number,.int .i64 l.flag,.slice an l.next.length cn] 115)) vm vt w2:=(aI.of (fj _)).trans (aI.of h2);obtain⟨e0,e1,e2,e3⟩:=PC.out _ (rT r2a))
  |(go_at_call 105;go_fit (KL _ fB);rintro e w3 ⟨rfl,vm3,vt3,h3,r3⟩;have Vv:=fB.GG h3 r3;obtain⟨f0,f1,f2,f3⟩:=PC.out _ (rT (r2a.trans r3));obtain⟨i1,i2⟩:=Vv.int (j:=p0.1) (by omega)))
 all_goals go_wp2_with fail
 all_goals
  go_end0
  obtain⟨h4,r4⟩:=Vv.setInt (j:=p0.1) (by omega) (o.yd.at n).1;exact⟨rfl,vm3,vt3,h4,(((aI.of aO).trans r2a).trans r3).trans r4⟩
end
end Own
namespace Own
open Go Go.RowKit Sq Aux PrjJ PrjK PrjL PrjM PrjS PrjT FlwA FlwB FlwD FlwE
section
variable {x a:Nat} {w w0 w1:World} {vm vt vi vm1 vt1:Value} {o:Own}
theorem cg.prog (h:cg w0 x a w o vi vm vt):w.cell? ⟨x,3,none⟩=some (.pointer (some ⟨a,0,none⟩)):=(h.fC.more 0).1
set_option maxRecDepth 20000 in
theorem Hf (h:cg w0 x a w o vi vm vt){z nl nb:Nat}{l:ab}{ap an:Option Addr}{cp cn:Nat}(hl:aE z w l (.slice ap l.places.length cp) (.slice an l.next.length cn))(hk:iB nl nb l)(iE:nl<=12)(aH:l.op=11){t:Nat}(hs:o.yd.Sz t)(ht:t+100<=9000000)(lB:Pow w0)(ly:11<=w0.heap.size)(jv:o.Bx)(c8:1<=o.box (l.places.getD 0 (0,0))):
  Calls Tryz.prog 65 #[.pointer (some ⟨x,0,none⟩),.agg #[.int .i64 (l.num:Nat),.int .i64 (l.op:Nat),.slice ap l.places.length cp,.int .i64 l.number,.int .i64 l.flag,.slice an l.next.length cn]] w fun e w'=>e=.returned (.tuple #[])/\(∃vm' vt',cg w0 x a w' {o with yd:=o.yd.store (o.box (l.places.getD 0 (0,0))) (o.num (l.places.getD 1 (0,0)))} vi vm' vt'/\aI x vm vt w vm' vt' w'):=by
 have hlen:l.places.length=2:=by rw[hk.cP,aH];rfl
 have aO:Below w.heap.size w (w.alloc (.cells #[.int .i64 (l.num:Nat),.int .i64 (l.op:Nat),.slice ap l.places.length cp,.int .i64 l.number,.int .i64 l.flag,.slice an l.next.length cn] 115)):=(Below.refl _ _).alloc (jC _) _;obtain⟨g,rfl,kC,hg,-,-⟩:=aS hl hlen 0 (by omega);have dL:w.ownsRow z 119 2 (.slice (some ⟨g,0,none⟩) l.places.length cp) l.places.length (aM l.places):=hl.places;have ef:=al dL aO;have pc:∀W:World,W.ownsRow z 119 2 (.slice (some ⟨g,0,none⟩) l.places.length cp) l.places.length (aM l.places)->W.cell? ⟨g,0,none⟩=some (.int .i64 ((l.places.getD 0 (0,0)).1:Nat))/\W.cell? ⟨g,1,none⟩=some (.int .i64 ((l.places.getD 0 (0,0)).2:Nat))/\W.cell? ⟨g,2,none⟩=some (.int .i64 ((l.places.getD 1 (0,0)).1:Nat))/\W.cell? ⟨g,3,none⟩=some (.int .i64 ((l.places.getD 1 (0,0)).2:Nat)):=fun W hW=>⟨(bc hW (j:=0) (by omega)).1,(bc hW (j:=0) (by omega)).2,(bc hW (j:=1) (by omega)).1,(bc hW (j:=1) (by omega)).2⟩
 have hx:∀j,j<2->(l.places.getD j (0,0)).1<nl:=fun j hj=>(hk.places (l.places.getD j (0,0)) (by rw[jA,jB (by omega)];exact jL _)).1
 have x0:=hx 0 (by omega);have x1:=hx 1 (by omega);have HA:=h.below aO;have Dt:Hid (_):=ef;have HP:Hid (_):=dL;have PC:Hid (_):=pc;have hd:=pc _ ef;rw[hlen]at aO HA hd;rw[hlen];clear hx hl hk pc dL ef;have b2:(((l.op:Nat):Int)==2)=false:=by rw[aH];rfl
 have b3:(((l.op:Nat):Int)==3)=false:=by rw[aH];rfl
 have b4:(((l.op:Nat):Int)==4)=false:=by rw[aH];rfl
 have b5:(((l.op:Nat):Int)==5)=false:=by rw[aH];rfl
 have b7:(((l.op:Nat):Int)==7)=false:=by rw[aH];rfl
 have b8:(((l.op:Nat):Int)==8)=false:=by rw[aH];rfl
 have b10:(((l.op:Nat):Int)==10)=false:=by rw[aH];rfl
 have b11:(((l.op:Nat):Int)==11)=true:=by rw[aH];rfl
 have b12:(((l.op:Nat):Int)==12)=false:=by rw[aH];rfl
 have b14:(((l.op:Nat):Int)==14)=false:=by rw[aH];rfl
 have b13:(((l.op:Nat):Int)==13)=false:=by rw[aH];rfl
 have b15:(((l.op:Nat):Int)==15)=false:=by rw[aH];rfl
 generalize l.places.getD 0 (0,0)=p0 at*;generalize l.places.getD 1 (0,0)=p1 at*;clear aH;obtain⟨d0,d1,d2,d3⟩:=hd;have x0i:(p0.1:Int)<12:=by omega
 have rT:∀{vm2 vt2:Value} {W:World},aI x vm vt (w.alloc (.cells #[.int .i64 (l.num:Nat),.int .i64 (l.op:Nat),.slice (some ⟨g,0,none⟩) 2 cp,.int .i64 l.number,.int .i64 l.flag,.slice an l.next.length cn] 115)) vm2 vt2 W->W.ownsRow z 119 2 (.slice (some ⟨g,0,none⟩) l.places.length cp) l.places.length (aM l.places):=fun hr=>HA.bE (by have:=Dt.out;rw[hlen]at this;rw[hlen];exact this) (.inr rfl) hr
 have hle:=sr jv p0;have KB:=fun(W:World) (hW:cg w0 x a W o vi vm vt)=>rW hW p0 (by omega)
 have KN:=fun(W:World) (hW:cg w0 x a W o vi vm vt)=>ei hW p1 (by omega)
 have KL:=fun(W:World) (hW:cg w0 x a W o vi vm vt)=>Gt hW.fC (o.box p0) c8 hle (o.num p1) (lB.below hW.bz ly) (hs.ok (by omega))
 generalize o.box p0=n at*;generalize o.num p1=v at*;clear hlen;go_enter Tryz.func65,Tryz.ntmps65
 go_wp2
 go_region_with (first
  |(go_at_call 106;go_fit (KL _ fB);rintro e w3 ⟨rfl,vm3,vt3,h3,r3⟩)
  |(go_at_call 58;go_fit (KN _ gh);rintro e w2 ⟨rfl,h2⟩;have fB:=gh.below h2;have r2a:=r1a.trans (aI.of h2 (x:=x) (vm:=vm) (vt:=vt));obtain⟨f0,f1,f2,f3⟩:=PC.out _ (rT r2a))
  |(go_at_call 99;go_fit (KB _ gh);rintro e w2 ⟨rfl,h2⟩;have fB:=gh.below h2;have r2a:=r1a.trans (aI.of h2 (x:=x) (vm:=vm) (vt:=vt));obtain⟨f0,f1,f2,f3⟩:=PC.out _ (rT r2a))
  |(go_at_call 99;go_fit (KB _ HA.drew);rintro e w1 ⟨rfl,h1⟩;have gh:=HA.drew.below h1;have r1a:aI x vm vt (w.alloc (.cells #[.int .i64 (l.num:Nat),.int .i64 (l.op:Nat),.slice (some ⟨g,0,none⟩) 2 cp,.int .i64 l.number,.int .i64 l.flag,.slice an l.next.length cn] 115)) vm vt w1:=(aI.of (fj _)).trans (aI.of h1);obtain⟨e0,e1,e2,e3⟩:=PC.out _ (rT r1a))
  |(go_at_call 58;go_fit (KN _ HA.drew);rintro e w1 ⟨rfl,h1⟩;have gh:=HA.drew.below h1;have r1a:aI x vm vt (w.alloc (.cells #[.int .i64 (l.num:Nat),.int .i64 (l.op:Nat),.slice (some ⟨g,0,none⟩) 2 cp,.int .i64 l.number,.int .i64 l.flag,.slice an l.next.length cn] 115)) vm vt w1:=(aI.of (fj _)).trans (aI.of h1);obtain⟨e0,e1,e2,e3⟩:=PC.out _ (rT r1a)))
 all_goals go_wp2_with fail
 all_goals
  go_end0
  exact⟨rfl,vm3,vt3,fB.GG h3 r3,((aI.of aO).trans r2a).trans r3⟩
set_option maxRecDepth 20000 in
theorem Kk (h:cg w0 x a w o vi vm vt){z nl nb:Nat}{l:ab}{ap an:Option Addr}{cp cn:Nat}(hl:aE z w l (.slice ap l.places.length cp) (.slice an l.next.length cn))(hk:iB nl nb l)(iE:nl<=12)(aH:l.op=13){t:Nat}(hs:o.yd.Sz t)(ht:t+100<=9000000)(lB:Pow w0)(ly:11<=w0.heap.size)(jv:o.Bx){q:QP}{v u:Value}(hq:PQ w0 a q v u)(hnq:nl=q.locals.length):
  Calls Tryz.prog 65 #[.pointer (some ⟨x,0,none⟩),.agg #[.int .i64 (l.num:Nat),.int .i64 (l.op:Nat),.slice ap l.places.length cp,.int .i64 l.number,.int .i64 l.flag,.slice an l.next.length cn]] w fun e w'=>e=.returned (.tuple #[])/\(∃vm' vt',cg w0 x a w' (o.drop (QP.ai q (l.places.getD 0 (0,0)))) vi vm' vt'/\aI x vm vt w vm' vt' w'):=by
 have hlen:l.places.length=1:=by rw[hk.cP,aH];rfl
 have aO:Below w.heap.size w (w.alloc (.cells #[.int .i64 (l.num:Nat),.int .i64 (l.op:Nat),.slice ap l.places.length cp,.int .i64 l.number,.int .i64 l.flag,.slice an l.next.length cn] 115)):=(Below.refl _ _).alloc (jC _) _;obtain⟨g,rfl,kC,hg,-,-⟩:=aS hl hlen 0 (by omega);have dL:w.ownsRow z 119 2 (.slice (some ⟨g,0,none⟩) l.places.length cp) l.places.length (aM l.places):=hl.places;have ef:=al dL aO;have pc:∀W:World,W.ownsRow z 119 2 (.slice (some ⟨g,0,none⟩) l.places.length cp) l.places.length (aM l.places)->W.cell? ⟨g,0,none⟩=some (.int .i64 ((l.places.getD 0 (0,0)).1:Nat))/\W.cell? ⟨g,1,none⟩=some (.int .i64 ((l.places.getD 0 (0,0)).2:Nat)):=fun W hW=>⟨(bc hW (j:=0) (by omega)).1,(bc hW (j:=0) (by omega)).2⟩
 have hx:∀j,j<1->(l.places.getD j (0,0)).1<nl:=fun j hj=>(hk.places (l.places.getD j (0,0)) (by rw[jA,jB (by omega)];exact jL _)).1
 have x0:=hx 0 (by omega);have HA:=h.below aO;have Dt:Hid (_):=ef;have HP:Hid (_):=dL;have PC:Hid (_):=pc;have hd:=pc _ ef;rw[hlen]at aO HA hd;rw[hlen];clear hx hl hk pc dL ef;have b2:(((l.op:Nat):Int)==2)=false:=by rw[aH];rfl
 have b3:(((l.op:Nat):Int)==3)=false:=by rw[aH];rfl
 have b4:(((l.op:Nat):Int)==4)=false:=by rw[aH];rfl
 have b5:(((l.op:Nat):Int)==5)=false:=by rw[aH];rfl
 have b7:(((l.op:Nat):Int)==7)=false:=by rw[aH];rfl
 have b8:(((l.op:Nat):Int)==8)=false:=by rw[aH];rfl
 have b10:(((l.op:Nat):Int)==10)=false:=by rw[aH];rfl
 have b11:(((l.op:Nat):Int)==11)=false:=by rw[aH];rfl
 have b12:(((l.op:Nat):Int)==12)=false:=by rw[aH];rfl
 have b14:(((l.op:Nat):Int)==14)=false:=by rw[aH];rfl
 have b13:(((l.op:Nat):Int)==13)=true:=by rw[aH];rfl
 have b15:(((l.op:Nat):Int)==15)=false:=by rw[aH];rfl
 generalize l.places.getD 0 (0,0)=p0 at*;clear aH;obtain⟨d0,d1⟩:=hd;have x0i:(p0.1:Int)<12:=by omega
 have x0q:p0.1<q.locals.length:=by omega
 have lA:=dt (q:=q) (x:=p0) (n:=12) (by omega);have Ul:(QP.ai q p0).length<=2:=by unfold QP.ai;split<;>simp
 have HQ:=hq.below HA.drew.bz;have m3:=HA.prog;have KH:=cC q p0 v u a _ HQ.aD HQ.loc x0q;have KD:=fun(W:World) (hW:cg w0 x a W o vi vm vt) (zz gg cc:Nat) (hP:ay zz W (.slice (some ⟨gg,0,none⟩) (QP.ai q p0).length cc) (QP.ai q p0))=>lH hW hP lA (by omega) jv hs (by omega) lB ly
 clear hlen;go_enter Tryz.func65,Tryz.ntmps65
 go_wp2
 go_region_with (first
  |(go_at_call 102;go_fit KH;rintro e w2 ⟨g2,c2,rfl,k8,h2⟩;have fB:=HA.drew.below h2;have r2a:aI x vm vt (w.alloc (.cells #[.int .i64 (l.num:Nat),.int .i64 (l.op:Nat),.slice (some ⟨g,0,none⟩) 1 cp,.int .i64 l.number,.int .i64 l.flag,.slice an l.next.length cn] 115)) vm vt w2:=(aI.of (fj _)).trans (aI.of h2))
  |(go_at_call 60;go_fit (KD _ fB _ g2 c2 k8);rintro e w3 ⟨rfl,vm3,vt3,h3,r3⟩))
 all_goals go_wp2_with fail
 all_goals
  go_end0
  exact⟨rfl,vm3,vt3,h3,((aI.of aO).trans r2a).trans r3⟩
set_option maxRecDepth 20000 in
theorem Kh (h:cg w0 x a w o vi vm vt){z nl nb:Nat}{l:ab}{ap an:Option Addr}{cp cn:Nat}(hl:aE z w l (.slice ap l.places.length cp) (.slice an l.next.length cn))(hk:iB nl nb l)(iE:nl<=12)(aH:l.op=15){t:Nat}(hs:o.yd.Sz t)(ht:t+100<=9000000)(lB:Pow w0)(ly:11<=w0.heap.size)(jv:o.Bx){q:QP}{v u:Value}(hq:PQ w0 a q v u)(hnq:nl=q.locals.length):
  Calls Tryz.prog 65 #[.pointer (some ⟨x,0,none⟩),.agg #[.int .i64 (l.num:Nat),.int .i64 (l.op:Nat),.slice ap l.places.length cp,.int .i64 l.number,.int .i64 l.flag,.slice an l.next.length cn]] w fun e w'=>e=.returned (.tuple #[])/\(∃vm' vt',cg w0 x a w' (o.drop (QP.ai q (l.places.getD 0 (0,0)))) vi vm' vt'/\aI x vm vt w vm' vt' w'):=by
 have hlen:l.places.length=1:=by rw[hk.cP,aH];rfl
 have aO:Below w.heap.size w (w.alloc (.cells #[.int .i64 (l.num:Nat),.int .i64 (l.op:Nat),.slice ap l.places.length cp,.int .i64 l.number,.int .i64 l.flag,.slice an l.next.length cn] 115)):=(Below.refl _ _).alloc (jC _) _;obtain⟨g,rfl,kC,hg,-,-⟩:=aS hl hlen 0 (by omega);have dL:w.ownsRow z 119 2 (.slice (some ⟨g,0,none⟩) l.places.length cp) l.places.length (aM l.places):=hl.places;have ef:=al dL aO;have pc:∀W:World,W.ownsRow z 119 2 (.slice (some ⟨g,0,none⟩) l.places.length cp) l.places.length (aM l.places)->W.cell? ⟨g,0,none⟩=some (.int .i64 ((l.places.getD 0 (0,0)).1:Nat))/\W.cell? ⟨g,1,none⟩=some (.int .i64 ((l.places.getD 0 (0,0)).2:Nat)):=fun W hW=>⟨(bc hW (j:=0) (by omega)).1,(bc hW (j:=0) (by omega)).2⟩
 have hx:∀j,j<1->(l.places.getD j (0,0)).1<nl:=fun j hj=>(hk.places (l.places.getD j (0,0)) (by rw[jA,jB (by omega)];exact jL _)).1
 have x0:=hx 0 (by omega);have HA:=h.below aO;have Dt:Hid (_):=ef;have HP:Hid (_):=dL;have PC:Hid (_):=pc;have hd:=pc _ ef;rw[hlen]at aO HA hd;rw[hlen];clear hx hl hk pc dL ef;have b2:(((l.op:Nat):Int)==2)=false:=by rw[aH];rfl
 have b3:(((l.op:Nat):Int)==3)=false:=by rw[aH];rfl
 have b4:(((l.op:Nat):Int)==4)=false:=by rw[aH];rfl
 have b5:(((l.op:Nat):Int)==5)=false:=by rw[aH];rfl
 have b7:(((l.op:Nat):Int)==7)=false:=by rw[aH];rfl
 have b8:(((l.op:Nat):Int)==8)=false:=by rw[aH];rfl
 have b10:(((l.op:Nat):Int)==10)=false:=by rw[aH];rfl
 have b11:(((l.op:Nat):Int)==11)=false:=by rw[aH];rfl
 have b12:(((l.op:Nat):Int)==12)=false:=by rw[aH];rfl
 have b14:(((l.op:Nat):Int)==14)=false:=by rw[aH];rfl
 have b13:(((l.op:Nat):Int)==13)=false:=by rw[aH];rfl
 have b15:(((l.op:Nat):Int)==15)=true:=by rw[aH];rfl
 generalize l.places.getD 0 (0,0)=p0 at*;clear aH;obtain⟨d0,d1⟩:=hd;have x0i:(p0.1:Int)<12:=by omega
 have x0q:p0.1<q.locals.length:=by omega
 have lA:=dt (q:=q) (x:=p0) (n:=12) (by omega);have Ul:(QP.ai q p0).length<=2:=by unfold QP.ai;split<;>simp
 have HQ:=hq.below HA.drew.bz;have m3:=HA.prog;have KH:=cC q p0 v u a _ HQ.aD HQ.loc x0q;have KD:=fun(W:World) (hW:cg w0 x a W o vi vm vt) (zz gg cc:Nat) (hP:ay zz W (.slice (some ⟨gg,0,none⟩) (QP.ai q p0).length cc) (QP.ai q p0))=>lH hW hP lA (by omega) jv hs (by omega) lB ly
 clear hlen;go_enter Tryz.func65,Tryz.ntmps65
 go_wp2
 go_region_with (first
  |(go_at_call 102;go_fit KH;rintro e w2 ⟨g2,c2,rfl,k8,h2⟩;have fB:=HA.drew.below h2;have r2a:aI x vm vt (w.alloc (.cells #[.int .i64 (l.num:Nat),.int .i64 (l.op:Nat),.slice (some ⟨g,0,none⟩) 1 cp,.int .i64 l.number,.int .i64 l.flag,.slice an l.next.length cn] 115)) vm vt w2:=(aI.of (fj _)).trans (aI.of h2))
  |(go_at_call 60;go_fit (KD _ fB _ g2 c2 k8);rintro e w3 ⟨rfl,vm3,vt3,h3,r3⟩))
 all_goals go_wp2_with fail
 all_goals
  go_end0
  exact⟨rfl,vm3,vt3,h3,((aI.of aO).trans r2a).trans r3⟩
end
end Own
end Go.Proofs.YtmlgajhhnojdjaaGreatDoor

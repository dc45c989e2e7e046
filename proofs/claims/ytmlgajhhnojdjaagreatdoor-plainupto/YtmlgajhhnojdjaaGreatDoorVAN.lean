import Derived.Test.YtmlgajhhnojdjaaGreatDoorVAM
set_option maxHeartbeats 8000000
namespace Go.Proofs.YtmlgajhhnojdjaaGreatDoor
namespace PrjT
open Go Go.RowKit Sq Aux PrjF PrjG PrjH PrjI PrjJ PrjK PrjL PrjM PrjN PrjO PrjP PrjR PrjS
theorem bB {z:Nat}{w:World}{ad:Option Addr}{n c:Nat}{ps:List (Nat×Nat)}(h:w.ownsRow z 119 2 (.slice ad n c) ps.length (aM ps))(j:Nat)(hj:j<ps.length):
  ∃g,ad=some ⟨g,0,none⟩/\n=ps.length/\ps.length<=c/\g<w.heap.size/\w.cell? ⟨g,j*2,none⟩=some (.int .i64 ((ps.getD j (0,0)).1:Nat))/\w.cell? ⟨g,j*2+1,none⟩=some (.int .i64 ((ps.getD j (0,0)).2:Nat)):=by
 obtain⟨g,cap,hv,hc,hg,aQ⟩:=bL h (by omega);simp only[Value.slice.injEq]at hv;obtain⟨rfl,rfl,rfl⟩:=hv;have key:∀i,i<2->w.cell? ⟨g,j*2+i,none⟩=(qw (ps.getD j (0,0)))[i]?:=fun i hi=>by
  rw[aQ _ (by omega),aM,fk qw 2 (fun _=>rfl) ps j i hi];simp[hj]
 exact⟨g,rfl,rfl,hc,hg,key 0 (by decide),key 1 (by decide)⟩
theorem zM (q:QP)(f:B)(ps:List (Nat×Nat))(k:Nat)(hk:k<ps.length):q.cQ f (ps.drop k) k=(q.aZ (ps.getD k (0,0)) (f.getD k 0)&&q.cQ f (ps.drop (k+1)) (k+1)):=by
 rw[jE hk,QP.cQ];simp[hk]
theorem Fi {q:QP}{x:Nat×Nat}{t:Nat}(h:q.kind x=some t):q.aT x=t:=by
 rw[QP.kind]at h;rw[QP.aT];by_cases cV:x.2=1\/x.2=2
 ·rw[jb cV]at h;rw[jb (by omega)];split at h<;>simp_all
 ·rw[ja cV]at h;by_cases h3:x.2=3
  ·rw[jb h3]at h;rw[jb (by omega)];split at h<;>simp_all
  ·rw[ja h3]at h;rw[ja (by omega)];simpa using h
theorem Eb {a b:Bool}(h:a=b):Ending.returned (.bool a)=.returned (.bool b):=by rw[h]
theorem filter_le {f:B}:(f.filter eg).length<=f.length:=List.length_filter_le ..
set_option maxRecDepth 20000 in
theorem Hl (q:QP)(l:ab)(nb z a:Nat)(v u:Value)(ap an:Option Addr)(cp cn:Nat)(w:World)(hp:w.heap[a]?=some (.cells #[v,u] 110 (0,0)))(hv:eT w v q.locals)(dS:q.locals.length<=4000)(hl:iB q.locals.length nb l)
  (hA:aE z w l (.slice ap l.places.length cp) (.slice an l.next.length cn)) (E:Env w):
  Calls Tryz.prog 171 #[.pointer (some ⟨a,0,none⟩),.agg #[.int .i64 (l.num:Nat),.int .i64 (l.op:Nat),.slice ap l.places.length cp,.int .i64 l.number,.int .i64 l.flag,.slice an l.next.length cn]] w fun e w'=>e=.returned (.bool (q.fits l))/\Below w.heap.size w w':=by
 have aO:Below w.heap.size w (w.alloc (.cells #[.int .i64 (l.num:Nat),.int .i64 (l.op:Nat),.slice ap l.places.length cp,.int .i64 l.number,.int .i64 l.flag,.slice an l.next.length cn] 115)):=(Below.refl _ _).alloc (jC _) _;have cW:(w.alloc (.cells #[.int .i64 (l.num:Nat),.int .i64 (l.op:Nat),.slice ap l.places.length cp,.int .i64 l.number,.int .i64 l.flag,.slice an l.next.length cn] 115)).heap[w.heap.size]?=some (.cells #[.int .i64 (l.num:Nat),.int .i64 (l.op:Nat),.slice ap l.places.length cp,.int .i64 l.number,.int .i64 l.flag,.slice an l.next.length cn] 115 (0,0)):=jD;have vL:=iu (E.on aO) l.op hl.op;have aP:=lt_of_heap hp;have J0:=qE l.op hl.op;have dL:l.places.length<=(ae l.op).length:=by rw[hl.cP];exact filter_le
 have yv:=hl.places;have Yx:l.op=12->l.places.length=2:=fun e=>by rw[hl.cP,e];rfl
 have HF:Hid (q.cQ (ae l.op) l.places 0=q.cQ (ae l.op) (l.places.drop 0) 0):=rfl;have KK:=fun(x:Nat×Nat) (hx:x.1<q.locals.length) (w':World) (hb:Below w.heap.size w w')=>lW q x v u a w' (by rw[hb.block a aP];exact hp) (hv.below hb) dS hx
 have KS:=fun(x y:Nat×Nat) (hx:x.1<q.locals.length) (hy:y.1<q.locals.length) (w':World) (hb:Below w.heap.size w w')=>yV q x y v u a w' (by rw[hb.block a aP];exact hp) (hv.below hb) dS hx hy
 have hq:q.fits l=(q.cQ (ae l.op) l.places 0&&(!(l.op==12)||q.aT (l.places.getD 0 (0,0))==q.aT (l.places.getD 1 (0,0)))):=rfl;have HQ:Hid (_=_):=hq;have aH:=hl.op;clear hq hl;have HY:=aO;generalize hwA:(w.alloc (.cells #[.int .i64 (l.num:Nat),.int .i64 (l.op:Nat),.slice ap l.places.length cp,.int .i64 l.number,.int .i64 l.flag,.slice an l.next.length cn] 115))=wA at HY cW vL;go_enter Tryz.func171,Tryz.ntmps171
 subst hwA;go_wp2
 go_loopw [18] (fun i wr=>∃k:Nat,k<=l.places.length/\i=.int .i64 k/\Below (w.heap.size+1) (w.alloc (.cells #[.int .i64 (l.num:Nat),.int .i64 (l.op:Nat),.slice ap l.places.length cp,.int .i64 l.number,.int .i64 l.flag,.slice an l.next.length cn] 115)) wr/\Hid (q.cQ (ae l.op) l.places 0=q.cQ (ae l.op) (l.places.drop k) k)) (fun i _=>l.places.length-(intOf i).toNat)
 case atStart=>exact⟨0,jQ _,rfl,Below.refl _ _,HF⟩
 case round=>
  obtain⟨k,hk,rfl,yl,HI⟩:=hrel;have hB:Below w.heap.size w wr:=aO.trans (yl.mono (by omega));have SQ:wr.heap[w.heap.size]?=_:=(yl.block w.heap.size (by omega)).trans cW;by_cases Ih:k<l.places.length
  ·obtain⟨gp,rfl,-,kC,Cl,c1,c2⟩:=bB (al hA.places hB) k Ih;have hx:=(yv (l.places.getD k (0,0)) (by simp[Ih])).1;have X5:k<(ae l.op).length:=by omega
   have HS:Hid (_=_):=HI.out.trans (zM q (ae l.op) l.places k Ih);have hc:Hid ((ae l.op).getD k 0=(ae l.op)[k]):=by unfold Hid;simp[X5]
   generalize l.places.getD k (0,0)=x at*;have jv:Below wr.heap.size wr (wr.alloc (.cells #[.int .i64 (x.1:Nat),.int .i64 (x.2:Nat)] 119)):=(Below.refl _ _).alloc (jC _) _;have KX:=KK x hx _ (hB.trans (jv.mono hB.size));have KI:=fun w'=>Cy (q.aT x) ((ae l.op)[k]) w'
   have DR:∀w1,Below (wr.alloc (.cells #[.int .i64 (x.1:Nat),.int .i64 (x.2:Nat)] 119)).heap.size (wr.alloc (.cells #[.int .i64 (x.1:Nat),.int .i64 (x.2:Nat)] 119)) w1->Below (w.heap.size+1) (w.alloc (.cells #[.int .i64 (l.num:Nat),.int .i64 (l.op:Nat),.slice (some ⟨gp,0,none⟩) l.places.length cp,.int .i64 l.number,.int .i64 l.flag,.slice an l.next.length cn] 115)) w1:=fun w1 aB=>by
    have h0:w.heap.size+1<=wr.heap.size:=by have:=yl.size;simpa using this
    exact(yl.trans (jv.mono h0)).trans (aB.mono (jS h0 jv.size))
   cases JW:q.kind x with
   |none=>
    have NO:q.fits l=false:=by rw[HQ.out,HS.out,QP.aZ,JW];rfl
    rw[JW]at KX;clear JW;go_wp2_with (go_at_call 207;refine KX.mono ?_;rintro e w1 ⟨rfl,aB⟩)
    go_ret
    exact⟨Eb NO.symm,(aO.trans ((DR _ aB).mono (by omega)))⟩
   |some t=>
    have Uj:=Fi JW;rw[JW]at KX;rw[Uj]at KX KI;cases hik:ez t ((ae l.op)[k])with
    |false=>
     have NO:q.fits l=false:=by rw[HQ.out,HS.out,QP.aZ,JW,hc.out];simp only;rw[hik];rfl
     rw[hik]at KI;clear JW hik Uj;go_wp2_with (first|(go_at_call 207;refine KX.mono ?_;rintro e w1 ⟨rfl,aB⟩)|(go_at_call 208;refine(KI _).mono ?_;rintro e w2 ⟨rfl,rfl⟩))
     go_ret
     exact⟨Eb NO.symm,(aO.trans ((DR _ aB).mono (by omega)))⟩
    |true=>
     have S7:Hid (q.cQ (ae l.op) l.places 0=q.cQ (ae l.op) (l.places.drop (k+1)) (k+1)):=by
      unfold Hid;rw[HS.out,QP.aZ,JW,hc.out];simp only;rw[hik];rfl
     rw[hik]at KI;clear JW hik Uj;go_wp2_with (first|(go_at_call 207;refine KX.mono ?_;rintro e w1 ⟨rfl,aB⟩)|(go_at_call 208;refine(KI _).mono ?_;rintro e w2 ⟨rfl,rfl⟩))
     go_roundw
     case rel=>exact⟨k+1,by omega,by go_num,DR _ aB,S7⟩
     case measure=>simp[intOf];omega
  ·have DT:Hid (q.fits l=(!(l.op==12)||q.aT (l.places.getD 0 (0,0))==q.aT (l.places.getD 1 (0,0)))):=by
    unfold Hid;rw[HQ.out,HI.out,jT (by omega)];rfl
   have r1:wr.cell? ⟨w.heap.size,1,none⟩=some (.int .i64 (l.op:Nat)):=by rw[cell_of_heap SQ];rfl
   have r2:wr.cell? ⟨w.heap.size,2,none⟩=some (.slice ap l.places.length cp):=by rw[cell_of_heap SQ];rfl
   by_cases cV:l.op=12
   ·have h2:=Yx cV;obtain⟨gp,rfl,-,kC,Cl,c1,c2⟩:=bB (al hA.places hB) 0 (by omega);obtain⟨gp',e,-,-,-,c3,c4⟩:=bB (al hA.places hB) 1 (by omega);simp only[Option.some.injEq,Addr.mk.injEq,and_true]at e;subst e;have vM:=(yv (l.places.getD 0 (0,0)) (by simp[h2])).1;have lf:=(yv (l.places.getD 1 (0,0)) (by simp[h2])).1;have KX:=fun w' hb=>KS _ _ vM lf w' hb
    have kD:q.fits l=(q.aT (l.places.getD 0 (0,0))==q.aT (l.places.getD 1 (0,0))):=by rw[DT.out,cV];rfl
    have Uy:(((l.op:Nat):Int) !=12)=false:=by rw[cV];rfl
    have d1:wr.cell? ⟨gp,0,none⟩=some (.int .i64 ((l.places.getD 0 (0,0)).1:Nat)):=c1;have d2:wr.cell? ⟨gp,1,none⟩=some (.int .i64 ((l.places.getD 0 (0,0)).2:Nat)):=c2;have d3:wr.cell? ⟨gp,2,none⟩=some (.int .i64 ((l.places.getD 1 (0,0)).1:Nat)):=c3;have d4:wr.cell? ⟨gp,3,none⟩=some (.int .i64 ((l.places.getD 1 (0,0)).2:Nat)):=c4;clear c1 c2 c3 c4 DT HQ HI HF;have S5:Hid (_=_):=kD;clear kD;generalize l.places.getD 0 (0,0)=x at*;generalize l.places.getD 1 (0,0)=y at*;generalize (q.aT x==q.aT y)=bb at*;rw[h2]at r2;have W8:=KX wr.drew ⟨hB.os,hB.tape,hB.output,hB.size,hB.block⟩;go_wp2
    go_region_with (go_at_call 209;refine W8.mono ?_;rintro e w1 ⟨rfl,aB⟩)
    all_goals (try go_wp2)
    all_goals
     go_ret
     exact⟨Eb S5.out.symm,hB.trans ((show Below wr.heap.size wr w1 from⟨aB.os,aB.tape,aB.output,aB.size,aB.block⟩).mono hB.size)⟩
   ·have Uy:(((l.op:Nat):Int) !=12)=true:=by simp;omega
    have kD:q.fits l=true:=by rw[DT.out];simp[cV]
    have S5:Hid (_=_):=kD;clear DT HQ HI HF kD;go_wp2
    go_quiet (fail)
    go_wp2
    go_ret
    exact⟨Eb S5.out.symm,below_drewN hB _⟩
end PrjT
namespace FlwB
open Go Go.RowKit Sq Aux PrjF PrjG PrjJ PrjK PrjL PrjM PrjN PrjO PrjP PrjR PrjT FlwA
def ag (s:List Nat):List Value:=s.map fun n=> .int .u8 (n:Nat)
def aj (w:World)(b:Nat)(s:List Nat):Prop:=s.length=24/\w.heap[b]?=some (.cells (ag s).toArray 209 (0,0))
section
variable {w w':World} {b:Nat} {s:List Nat}
theorem aj.lt (h:aj w b s):b<w.heap.size:=lt_of_heap h.2
theorem aj.below {z:Nat}(h:aj w b s)(hb:Below z w w')(hz:b<z):aj w' b s:=⟨h.1,by rw[hb.block b hz];exact h.2⟩
theorem aj.cell (h:aj w b s)(k:Nat)(hk:k<24):w.cell? ⟨b,k,none⟩=some (.int .u8 (s.getD k 0:Nat)):=by
 rw[cell_of_heap h.2];have:k<s.length:=by rw[h.1];exact hk
 simp[ag,this]
theorem aj.frozen (h:aj w b s)(k:Nat):w.frozen? ⟨b,k,none⟩=false:=frozen_of_heap h.2 k
theorem aj.set (h:aj w b s)(k n:Nat):aj (w.setCell ⟨b,k,none⟩ (.int .u8 (n:Nat))) b (s.set k n):=by
 refine⟨by simpa using h.1,?_⟩;rw[Go.Proofs.YtmlgajhhnojdjaaGreatDoor.Aux.heap_setCell_same h.2 k];congr 2;simp[ag,List.map_set]
end
def eO (may:Nat)(ps:List (Nat×Nat))(s:List Nat):List Nat:=ps.foldl (fun s x=>s.set (ah x) may) s
def dz (ps:List (Nat×Nat))(s:List Nat):List Nat:=ps.foldl (fun s x=>s.set (ah x) (if x.2=3 then 8 else 1)) s
theorem Ga (may:Nat)(ps:List (Nat×Nat))(k:Nat)(hk:k<ps.length)(s:List Nat):eO may (ps.drop k) s=eO may (ps.drop (k+1)) (s.set (ah (ps.getD k (0,0))) may):=by
 rw[jE hk];have:ps.getD k (0,0)=ps[k]:=by simp[List.getD_eq_getElem?_getD,hk]
 rw[this];rfl
theorem Dd (ps:List (Nat×Nat))(k:Nat)(hk:k<ps.length)(s:List Nat):dz (ps.drop k) s=dz (ps.drop (k+1)) (s.set (ah (ps.getD k (0,0))) (if(ps.getD k (0,0)).2=3 then 8 else 1)):=by
 rw[jE hk];have:ps.getD k (0,0)=ps[k]:=by simp[List.getD_eq_getElem?_getD,hk]
 rw[this];rfl
set_option maxRecDepth 20000 in
theorem fz (may b z n c:Nat)(ad:Option Addr)(ps:List (Nat×Nat))(s:List Nat)(w:World)(hs:aj w b s)(hp:ay z w (.slice ad n c) ps)(hx:∀x∈ps,x.1<12)(_hm:may<16):
  Calls Tryz.prog 177 #[.pointer (some ⟨b,0,none⟩),.int .u8 (may:Nat),.slice ad n c] w fun e w'=>e=.returned (.tuple #[])/\aj w' b (eO may ps s)/\aW b w w':=by
 have hn:n=ps.length:=by
  obtain⟨ad',c',e⟩:=a8 hp;simp only[Value.slice.injEq]at e;exact e.2.1
 have hlen:ps.length<=maxLen:=by
  rcases hp.2 with⟨-,h⟩|⟨g,cap,cur,-,-,-,h1,h2,-⟩
  ·omega
  ·omega
 unfold maxLen at hlen;subst hn;have HF:Hid (eO may ps s=eO may (ps.drop 0) s):=rfl;go_enter Tryz.func177,Tryz.ntmps177
 go_wp2
 go_loopg [10] (ps.length) (fun g v10 wr=>∃(k:Nat) (t:List Nat),k<=ps.length/\g+k=ps.length/\v10=.int .i64 k/\aj wr b t/\aW b w wr/\Hid (eO may ps s=eO may (ps.drop k) t))
 case atStart=>exact⟨0,s,jQ _,rfl,rfl,hs,aW.refl _ _,HF⟩
 case round=>
  obtain⟨k,t,hk,yp,rfl,hS,hT,HI⟩:=hrel;by_cases aP:k<ps.length
  ·have vu:ay z wr (.slice ad ps.length c) ps:=dH hp fun g hg=>hT.block g (hp.lt g hg).2 fun x=>by
    subst x;exact az hp hs.2 (by decide) hg
   obtain⟨gp,rfl,-,kC,Cl,c1,c2⟩:=bB vu k aP;have lf:=hx (ps.getD k (0,0)) (by simp[aP]);have HS:Hid (_=_):=HI.out.trans (Ga may ps k aP t);generalize ps.getD k (0,0)=x at*;have gO:ah x<24:=by unfold ah;split<;>omega
   have Im:(ah x:Int)<24:=by omega
   have jv:Below wr.heap.size wr (wr.alloc (.cells #[.int .i64 (x.1:Nat),.int .i64 (x.2:Nat)] 119)):=(Below.refl _ _).alloc (jC _) _;have zc:=hS.lt;have KS:=cf x (wr.alloc (.cells #[.int .i64 (x.1:Nat),.int .i64 (x.2:Nat)] 119)).drew (by omega);go_wp2
   go_region_with (go_at_call 62;refine KS.mono ?_;rintro e w1 ⟨rfl,aB⟩;have iD:Below wr.heap.size wr w1:=(jv.trans ((⟨aB.os,aB.tape,aB.output,aB.size,aB.block⟩:Below _ (wr.alloc (.cells #[.int .i64 (x.1:Nat),.int .i64 (x.2:Nat)] 119)) w1).mono jv.size));have gC:=hS.below iD zc;have s1:=gC.cell (ah x) gO;have s2:=gC.frozen (ah x))
   all_goals go_wp2_with fail
   all_goals
    go_roundg (ps.length-(k+1))
    case measure=>omega
    case rel=>exact⟨k+1,t.set (ah x) may,by omega,by omega,by go_num,gC.set _ may,(hT.on iD).setCell _ _,HS.out⟩
  ·have hx:eO may ps s=t:=by rw[HI.out,jT (by omega)];rfl
   go_wp2
   go_end0
   exact⟨rfl,by rw[hx];exact hS,hT⟩
set_option maxRecDepth 20000 in
theorem tV (b z n c:Nat)(ad:Option Addr)(ps:List (Nat×Nat))(s:List Nat)(w:World)(hs:aj w b s)(hp:ay z w (.slice ad n c) ps)(hx:∀x∈ps,x.1<12):
  Calls Tryz.prog 174 #[.pointer (some ⟨b,0,none⟩),.slice ad n c] w fun e w'=>e=.returned (.tuple #[])/\aj w' b (dz ps s)/\aW b w w':=by
 have hn:n=ps.length:=by
  obtain⟨ad',c',e⟩:=a8 hp;simp only[Value.slice.injEq]at e;exact e.2.1
 have hlen:ps.length<=maxLen:=by
  rcases hp.2 with⟨-,h⟩|⟨g,cap,cur,-,-,-,h1,h2,-⟩
  ·omega
  ·omega
 unfold maxLen at hlen;subst hn;have HF:Hid (dz ps s=dz (ps.drop 0) s):=rfl;go_enter Tryz.func174,Tryz.ntmps174
 go_wp2
 go_loopg [8] (ps.length) (fun g v8 wr=>∃(k:Nat) (t:List Nat),k<=ps.length/\g+k=ps.length/\v8=.int .i64 k/\aj wr b t/\aW b w wr/\Hid (dz ps s=dz (ps.drop k) t))
 case atStart=>exact⟨0,s,jQ _,rfl,rfl,hs,aW.refl _ _,HF⟩
 case round=>
  obtain⟨k,t,hk,yp,rfl,hS,hT,HI⟩:=hrel;by_cases aP:k<ps.length
  ·have vu:ay z wr (.slice ad ps.length c) ps:=dH hp fun g hg=>hT.block g (hp.lt g hg).2 fun x=>by
    subst x;exact az hp hs.2 (by decide) hg
   obtain⟨gp,rfl,-,kC,Cl,c1,c2⟩:=bB vu k aP;have lf:=hx (ps.getD k (0,0)) (by simp[aP]);have HS:Hid (_=_):=HI.out.trans (Dd ps k aP t);generalize ps.getD k (0,0)=x at*;have gO:ah x<24:=by unfold ah;split<;>omega
   have Im:(ah x:Int)<24:=by omega
   have jv:Below wr.heap.size wr (wr.alloc (.cells #[.int .i64 (x.1:Nat),.int .i64 (x.2:Nat)] 119)):=(Below.refl _ _).alloc (jC _) _;have zc:=hS.lt;have KS:=cf x (wr.alloc (.cells #[.int .i64 (x.1:Nat),.int .i64 (x.2:Nat)] 119)).drew (by omega);by_cases h3:x.2=3
   ·have dR:(((x.2:Nat):Int)==3)=true:=by rw[h3];rfl
    have HP:Hid (x.2=3):=h3;clear h3;go_wp2
    go_region_with (go_at_call 62;refine KS.mono ?_;rintro e w1 ⟨rfl,aB⟩;have iD:Below wr.heap.size wr w1:=(jv.trans ((⟨aB.os,aB.tape,aB.output,aB.size,aB.block⟩:Below _ (wr.alloc (.cells #[.int .i64 (x.1:Nat),.int .i64 (x.2:Nat)] 119)) w1).mono jv.size));have gC:=hS.below iD zc;have s1:=gC.cell (ah x) gO;have s2:=gC.frozen (ah x))
    all_goals go_wp2_with fail
    all_goals
     go_roundg (ps.length-(k+1))
     case measure=>omega
     case rel=>exact⟨k+1,t.set (ah x) 8,by omega,by omega,by go_num,gC.set _ 8,(hT.on iD).setCell _ _,by unfold Hid;rw[HS.out,jb HP.out]⟩
   ·have dR:(((x.2:Nat):Int)==3)=false:=by rw[jZ];omega
    have HP:Hid (¬x.2=3):=h3;clear h3;go_wp2
    go_region_with (go_at_call 62;refine KS.mono ?_;rintro e w1 ⟨rfl,aB⟩;have iD:Below wr.heap.size wr w1:=(jv.trans ((⟨aB.os,aB.tape,aB.output,aB.size,aB.block⟩:Below _ (wr.alloc (.cells #[.int .i64 (x.1:Nat),.int .i64 (x.2:Nat)] 119)) w1).mono jv.size));have gC:=hS.below iD zc;have s1:=gC.cell (ah x) gO;have s2:=gC.frozen (ah x))
    all_goals go_wp2_with fail
    all_goals
     go_roundg (ps.length-(k+1))
     case measure=>omega
     case rel=>exact⟨k+1,t.set (ah x) 1,by omega,by omega,by go_num,gC.set _ 1,(hT.on iD).setCell _ _,by unfold Hid;rw[HS.out,ja HP.out]⟩
  ·have hx:dz ps s=t:=by rw[HI.out,jT (by omega)];rfl
   go_wp2
   go_end0
   exact⟨rfl,by rw[hx];exact hS,hT⟩
end FlwB
namespace FlwC
open Go Go.RowKit Sq Aux PrjF PrjG PrjJ PrjK PrjL PrjM PrjN PrjO PrjP PrjR PrjT FlwA FlwB
def pC (fit v:Nat):Bool:= !(v&&&(15-fit)==0)
theorem Fk:∀v:Nat,v<16->((bits .andNot .u8 (v:Int) 2 !=0)=pC 2 v)/\((bits .andNot .u8 (v:Int) 6 !=0)=pC 6 v)/\((bits .andNot .u8 (v:Int) 10 !=0)=pC 10 v):=by decide
theorem AE {v fit:Nat}(hv:v<16)(hfit:fit=2\/fit=6\/fit=10):(bits .andNot .u8 (v:Int) (fit:Int) !=0)=pC fit v:=by
 obtain⟨h1,h2,h3⟩:=Fk v hv;rcases hfit with rfl|rfl|rfl
 ·exact h1
 ·exact h2
 ·exact h3
def bt (fit:Nat)(ps:List (Nat×Nat))(s:List Nat):Bool:=ps.any fun x=>pC fit (s.getD (ah x) 0)
theorem CF (fit:Nat)(ps:List (Nat×Nat))(k:Nat)(hk:k<ps.length)(s:List Nat):bt fit (ps.drop k) s=(pC fit (s.getD (ah (ps.getD k (0,0))) 0)||bt fit (ps.drop (k+1)) s):=by
 rw[jE hk];have:ps.getD k (0,0)=ps[k]:=by simp[List.getD_eq_getElem?_getD,hk]
 rw[this];rfl
set_option maxRecDepth 20000 in
theorem j7 (fit b z n c:Nat)(ad:Option Addr)(ps:List (Nat×Nat))(s:List Nat)(w:World)(hs:aj w b s)(hp:ay z w (.slice ad n c) ps)(hx:∀x∈ps,x.1<12)(hv:∀k,s.getD k 0<16)(hfit:fit=2\/fit=6\/fit=10):
  Calls Tryz.prog 219 #[.pointer (some ⟨b,0,none⟩),.int .u8 (fit:Nat),.slice ad n c] w fun e w'=>e=.returned (.bool (bt fit ps s))/\Below w.heap.size w w':=by
 have hn:n=ps.length:=by
  obtain⟨ad',c',e⟩:=a8 hp;simp only[Value.slice.injEq]at e;exact e.2.1
 have hlen:ps.length<=maxLen:=by
  rcases hp.2 with⟨-,h⟩|⟨g,cap,cur,-,-,-,h1,h2,-⟩
  ·omega
  ·omega
 unfold maxLen at hlen;subst hn;have HF:Hid (bt fit ps s=bt fit (ps.drop 0) s):=rfl;go_enter Tryz.func219,Tryz.ntmps219
 go_wp2
 go_loopg [11] (ps.length) (fun g v10 wr=>∃k:Nat,k<=ps.length/\g+k=ps.length/\v10=.int .i64 k/\Below w.heap.size w wr/\Hid (bt fit ps s=bt fit (ps.drop k) s))
 case atStart=>exact⟨0,jQ _,rfl,rfl,Below.refl _ _,HF⟩
 case round=>
  obtain⟨k,hk,yp,rfl,hB,HI⟩:=hrel;by_cases aP:k<ps.length
  ·obtain⟨gp,rfl,-,kC,Cl,c1,c2⟩:=bB (al hp hB) k aP;have lf:=hx (ps.getD k (0,0)) (by simp[aP]);have HS:Hid (_=_):=HI.out.trans (CF fit ps k aP s);generalize ps.getD k (0,0)=x at*;have gO:ah x<24:=by unfold ah;split<;>omega
   have Im:(ah x:Int)<24:=by omega
   have jv:Below wr.heap.size wr (wr.alloc (.cells #[.int .i64 (x.1:Nat),.int .i64 (x.2:Nat)] 119)):=(Below.refl _ _).alloc (jC _) _;have zc:=hs.lt;have KS:=cf x (wr.alloc (.cells #[.int .i64 (x.1:Nat),.int .i64 (x.2:Nat)] 119)).drew (by omega);have UL:=hv (ah x);obtain⟨v,Io⟩:∃v,v=s.getD (ah x) 0:=⟨_,rfl⟩;rw[<-Io]at UL HS;have HV:Hid (s.getD (ah x) 0=v):=Io.symm;clear Io;cases hl:pC fit v
   ·have K5:(bits .andNot .u8 (v:Int) (fit:Int) !=0)=false:=by rw[AE UL hfit];exact hl
    have HL:Hid (_=_):=hl;clear hl;go_upto_region 4 with fail
    go_region_with (go_at_call 62;refine KS.mono ?_;rintro e w1 ⟨rfl,aB⟩;have iD:Below wr.heap.size wr w1:=(jv.trans ((⟨aB.os,aB.tape,aB.output,aB.size,aB.block⟩:Below _ (wr.alloc (.cells #[.int .i64 (x.1:Nat),.int .i64 (x.2:Nat)] 119)) w1).mono jv.size));have gC:=(hs.below hB zc).below iD (jK zc hB.size);have s1:=(gC.cell (ah x) gO).trans (by rw[HV.out]))
    all_goals go_wp2_with fail
    all_goals
     go_roundg (ps.length-(k+1))
     case measure=>omega
     case rel=>exact⟨k+1,by omega,by omega,by go_num,hB.trans (iD.mono hB.size),by unfold Hid;rw[HS.out,HL.out];rfl⟩
   ·have K5:(bits .andNot .u8 (v:Int) (fit:Int) !=0)=true:=by rw[AE UL hfit];exact hl
    have HL:Hid (_=_):=hl;clear hl;go_upto_region 4 with fail
    go_region_with (go_at_call 62;refine KS.mono ?_;rintro e w1 ⟨rfl,aB⟩;have iD:Below wr.heap.size wr w1:=(jv.trans ((⟨aB.os,aB.tape,aB.output,aB.size,aB.block⟩:Below _ (wr.alloc (.cells #[.int .i64 (x.1:Nat),.int .i64 (x.2:Nat)] 119)) w1).mono jv.size));have gC:=(hs.below hB zc).below iD (jK zc hB.size);have s1:=(gC.cell (ah x) gO).trans (by rw[HV.out]))
    all_goals go_wp2_with fail
    all_goals
     go_ret
     exact⟨by rw[HS.out,HL.out];rfl,hB.trans (iD.mono hB.size)⟩
  ·have hx:bt fit ps s=false:=by rw[HI.out,jT (by omega)];rfl
   go_wp2
   go_ret
   exact⟨by rw[hx];rfl,hB⟩
end FlwC
namespace FlwD
open Go Go.RowKit Sq Aux PrjF PrjG PrjJ PrjK PrjL PrjM PrjN PrjO PrjP PrjR PrjT FlwA FlwB FlwC
def iV (x:Nat×Nat)(s:List Nat):Bool:=x.2==3&&bt 10 [x] s
def iw (q:QP)(x:Nat×Nat)(s:List Nat):Bool:=if q.aT x=3 then bt 6 [x] s else bt 2 (QP.ai q x) s
def da (q:QP)(x:Nat×Nat)(s:List Nat):Nat:=if q.aT x=3 then s.getD (ah x) 0 else 2
theorem eX (W:World)(x:Nat×Nat){n:Nat}(hn:W.heap.size=n):ay n (W.alloc (.cells #[.int .i64 (x.1:Nat),.int .i64 (x.2:Nat)] 119)) (.slice (some ⟨n,0,none⟩) 1 1) [x]:=by
 subst hn;exact ir W [x] (by simp)
theorem FX (W:World)(x y:Nat×Nat){n:Nat}(hn:W.heap.size=n):ay n (W.alloc (.cells #[.int .i64 (x.1:Nat),.int .i64 (x.2:Nat),.int .i64 (y.1:Nat),.int .i64 (y.2:Nat)] 119)) (.slice (some ⟨n,0,none⟩) 2 2) [x,y]:=by
 subst hn;exact ir W [x,y] (by simp)
theorem dt {q:QP}{x:Nat×Nat}{n:Nat}(h:x.1<n):∀y∈QP.ai q x,y.1<n:=by
 intro y hy;unfold QP.ai at hy;split at hy
 ·simp only[List.mem_cons,List.not_mem_nil,or_false]at hy;rcases hy with rfl|rfl<;>exact h
 ·simp only[List.mem_singleton]at hy;subst hy;exact h
set_option maxRecDepth 20000 in
theorem tP (b:Nat)(x:Nat×Nat)(s:List Nat)(w:World)(hs:aj w b s)(hx:x.1<12)(hv:∀k,s.getD k 0<16):
  Calls Tryz.prog 220 #[.pointer (some ⟨b,0,none⟩),.agg #[.int .i64 (x.1:Nat),.int .i64 (x.2:Nat)]] w fun e w'=>e=.returned (.bool (iV x s))/\Below w.heap.size w w':=by
 have aO:Below w.heap.size w (w.alloc (.cells #[.int .i64 (x.1:Nat),.int .i64 (x.2:Nat)] 119)):=(Below.refl _ _).alloc (jC _) _;have Mw:=aO.alloc aO.size (.cells #[.int .i64 (x.1:Nat),.int .i64 (x.2:Nat)] 119);have KL:=j7 10 b _ 1 1 _ [x] s _ (hs.below Mw hs.lt) (eX (w.alloc (.cells #[.int .i64 (x.1:Nat),.int .i64 (x.2:Nat)] 119)) x (n:=w.heap.size+1) (by simp)) (fun y hy=>by simp only[List.mem_singleton]at hy;subst hy;exact hx) hv (by simp);by_cases h3:x.2=3
 ·have b3:(((x.2:Nat):Int)==3)=true:=by rw[h3];rfl
  have hr:iV x s=bt 10 [x] s:=by rw[iV,h3];rfl
  rw[hr];clear h3 hr;generalize bt 10 [x] s=r at*;go_enter Tryz.func220,Tryz.ntmps220
  go_wp2_with (go_at_call 219;refine KL.mono ?_;rintro e w1 ⟨rfl,aB⟩)
  go_ret
  exact⟨rfl,Mw.trans (aB.mono Mw.size)⟩
 ·have b3:(((x.2:Nat):Int)==3)=false:=by rw[jZ];omega
  have hr:iV x s=false:=by rw[iV,show(x.2==3)=false by simpa using h3];rfl
  rw[hr];clear h3 hr KL;go_enter Tryz.func220,Tryz.ntmps220
  go_wp2
  go_ret
  exact⟨rfl,aO⟩
set_option maxRecDepth 20000 in
theorem Gu (q:QP)(b:Nat)(x:Nat×Nat)(s:List Nat)(v u:Value)(a:Nat)(w:World)(hp:w.heap[a]?=some (.cells #[v,u] 110 (0,0)))(hl:eT w v q.locals)(dS:q.locals.length<=4000)(xC:x.1<q.locals.length)(hs:aj w b s)(hx:x.1<12)(hv:∀k,s.getD k 0<16):
  Calls Tryz.prog 221 #[.pointer (some ⟨b,0,none⟩),.pointer (some ⟨a,0,none⟩),.agg #[.int .i64 (x.1:Nat),.int .i64 (x.2:Nat)]] w fun e w'=>e=.returned (.bool (iw q x s))/\Below w.heap.size w w':=by
 have aO:Below w.heap.size w (w.alloc (.cells #[.int .i64 (x.1:Nat),.int .i64 (x.2:Nat)] 119)):=(Below.refl _ _).alloc (jC _) _;have aP:=lt_of_heap hp;have MI:∀w',Below w.heap.size w w'->w'.heap[a]?=some (.cells #[v,u] 110 (0,0)):=fun w' hb=>by rw[hb.block a aP];exact hp
 have KK:=lW q x v u a _ (MI _ aO) (hl.below aO) dS xC;have KH:=fun w' (hb:Below w.heap.size w w')=>cC q x v u a w' (MI _ hb) (hl.below hb) xC
 have c0:∀w',Below (w.alloc (.cells #[.int .i64 (x.1:Nat),.int .i64 (x.2:Nat)] 119)).heap.size (w.alloc (.cells #[.int .i64 (x.1:Nat),.int .i64 (x.2:Nat)] 119)) w'->w'.cell? ⟨w.heap.size,0,none⟩=some (.int .i64 (x.1:Nat))/\w'.cell? ⟨w.heap.size,1,none⟩=some (.int .i64 (x.2:Nat)):=fun w' hb=>
  ⟨(hb.cell (p:=⟨w.heap.size,0,none⟩) (by simp)).trans (by simp),(hb.cell (p:=⟨w.heap.size,1,none⟩) (by simp)).trans (by simp)⟩
 by_cases h3:q.aT x=3
 ·have hr:iw q x s=bt 6 [x] s:=by rw[iw,jb h3]
  have KL:=fun(W:World) (hb:Below w.heap.size w W)=>j7 6 b _ 1 1 _ [x] s _ (hs.below (hb.alloc hb.size _) hs.lt) (eX W x (n:=W.heap.size) rfl) (fun y hy=>by simp only[List.mem_singleton]at hy;subst hy;exact hx) hv (by simp)
  rw[hr];rw[h3]at KK;clear h3 hr KH;generalize bt 6 [x] s=r at*;go_enter Tryz.func221,Tryz.ntmps221
  go_wp2_with (first
   |(go_at_call 207;refine KK.mono ?_;rintro e w1 ⟨rfl,aB⟩;have dk:=aO.trans (aB.mono aO.size);obtain⟨y0,y1⟩:=c0 _ aB)
   |(go_at_call 219;refine(KL w1 dk).mono ?_;rintro e w2 ⟨rfl,bu⟩))
  go_ret
  have dp:=dk.alloc dk.size (.cells #[.int .i64 (x.1:Nat),.int .i64 (x.2:Nat)] 119);exact⟨rfl,dp.trans (bu.mono dp.size)⟩
 ·have hr:iw q x s=bt 2 (QP.ai q x) s:=by rw[iw,ja h3]
  have KL:=fun(W:World) (g c:Nat) (hb:Below w.heap.size w W) (z:Nat) (hP:ay z W (.slice (some ⟨g,0,none⟩) (QP.ai q x).length c) (QP.ai q x))=>j7 2 b z _ c _ (QP.ai q x) s W (hs.below hb hs.lt) hP (dt hx) hv (by simp)
  have b3:(((q.aT x:Nat):Int)==3)=false:=by rw[jZ];omega
  rw[hr];clear h3 hr;generalize bt 2 (QP.ai q x) s=r at*;generalize QP.ai q x=hv' at*;generalize q.aT x=kv at*;go_enter Tryz.func221,Tryz.ntmps221
  go_wp2_with (first
   |(go_at_call 207;refine KK.mono ?_;rintro e w1 ⟨rfl,aB⟩;have dk:=aO.trans (aB.mono aO.size);obtain⟨y0,y1⟩:=c0 _ aB)
   |(go_at_call 102;refine(KH w1 dk).mono ?_;rintro e w2 ⟨g,c,rfl,k8,bu⟩;have dp:=dk.trans (bu.mono dk.size))
   |(go_at_call 219;refine(KL w2 g c dp _ k8).mono ?_;rintro e w3 ⟨rfl,dR⟩))
  go_ret
  exact⟨rfl,dp.trans (dR.mono dp.size)⟩
set_option maxRecDepth 20000 in
theorem FF (q:QP)(b:Nat)(x:Nat×Nat)(s:List Nat)(v u:Value)(a:Nat)(w:World)(hp:w.heap[a]?=some (.cells #[v,u] 110 (0,0)))(hl:eT w v q.locals)(dS:q.locals.length<=4000)(xC:x.1<q.locals.length)(hs:aj w b s)(hx:x.1<12):
  Calls Tryz.prog 178 #[.pointer (some ⟨b,0,none⟩),.pointer (some ⟨a,0,none⟩),.agg #[.int .i64 (x.1:Nat),.int .i64 (x.2:Nat)]] w fun e w'=>e=.returned (.int .u8 (da q x s:Nat))/\Below w.heap.size w w':=by
 have aO:Below w.heap.size w (w.alloc (.cells #[.int .i64 (x.1:Nat),.int .i64 (x.2:Nat)] 119)):=(Below.refl _ _).alloc (jC _) _;have aP:=lt_of_heap hp;have MI:∀w',Below w.heap.size w w'->w'.heap[a]?=some (.cells #[v,u] 110 (0,0)):=fun w' hb=>by rw[hb.block a aP];exact hp
 have KK:=lW q x v u a _ (MI _ aO) (hl.below aO) dS xC;have c0:∀w',Below (w.alloc (.cells #[.int .i64 (x.1:Nat),.int .i64 (x.2:Nat)] 119)).heap.size (w.alloc (.cells #[.int .i64 (x.1:Nat),.int .i64 (x.2:Nat)] 119)) w'->w'.cell? ⟨w.heap.size,0,none⟩=some (.int .i64 (x.1:Nat))/\w'.cell? ⟨w.heap.size,1,none⟩=some (.int .i64 (x.2:Nat)):=fun w' hb=>
  ⟨(hb.cell (p:=⟨w.heap.size,0,none⟩) (by simp)).trans (by simp),(hb.cell (p:=⟨w.heap.size,1,none⟩) (by simp)).trans (by simp)⟩
 by_cases h3:q.aT x=3
 ·have hr:da q x s=s.getD (ah x) 0:=by rw[da,jb h3]
  have gO:ah x<24:=by unfold ah;split<;>omega
  have Im:(ah x:Int)<24:=by omega
  obtain⟨vv,Io⟩:∃vv,vv=s.getD (ah x) 0:=⟨_,rfl⟩;rw[hr,<-Io];rw[h3]at KK;have HV:Hid (s.getD (ah x) 0=vv):=Io.symm;have KS:=fun w'=>cf x w' (by omega)
  clear h3 hr Io;go_enter Tryz.func178,Tryz.ntmps178
  go_upto_region 3 with(go_at_call 207;refine KK.mono ?_;rintro e w1 ⟨rfl,aB⟩;have dk:=aO.trans (aB.mono aO.size);obtain⟨y0,y1⟩:=c0 _ aB)
  have W7:=KS w1.drew;go_region_with (go_at_call 62;refine W7.mono ?_;rintro e w2 ⟨rfl,bu⟩;have qh:Below w1.heap.size w1 w2:=⟨bu.os,bu.tape,bu.output,bu.size,bu.block⟩;have dp:=dk.trans (qh.mono dk.size);have s1:=((hs.below dp hs.lt).cell (ah x) gO).trans (by rw[HV.out]))
  all_goals go_wp2_with fail
  all_goals
   go_ret
   exact⟨rfl,dp⟩
 ·have hr:da q x s=2:=by rw[da,ja h3]
  have b3:(((q.aT x:Nat):Int)==3)=false:=by rw[jZ];omega
  rw[hr];clear h3 hr;generalize q.aT x=kv at*;go_enter Tryz.func178,Tryz.ntmps178
  go_wp2_with (go_at_call 207;refine KK.mono ?_;rintro e w1 ⟨rfl,aB⟩;have dk:=aO.trans (aB.mono aO.size))
  go_ret
  exact⟨rfl,dk⟩
theorem qV (i:Nat)(w:World):Calls Tryz.prog 218 #[.int .i64 (i:Nat)] w fun e w'=>e=.returned (.int .u8 ((if i=0 then 4 else 2:Nat):Nat))/\w'=w:=by
 by_cases h:i=0
 ·subst h;go_enter Tryz.func218,Tryz.ntmps218
  go_wp2
  go_ret
  exact⟨rfl,rfl⟩
 ·have b0:((i:Int)==0)=false:=by rw[jZ];omega
  rw[ja h];clear h;go_enter Tryz.func218,Tryz.ntmps218
  go_wp2
  go_ret
  exact⟨rfl,rfl⟩
end FlwD
end Go.Proofs.YtmlgajhhnojdjaaGreatDoor

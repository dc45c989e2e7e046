import Derived.Test.YtmlgajhhnojdjaaGreatDoorRBG
import Derived.RangeFuncNested
import Derived.RangeFuncBound
import Derived.Shelf.RegionOpen
import Derived.OwnWalkIn
import Derived.LoopNIn
import Derived.LoopIn
namespace Go.Proofs.YtmlgajhhnojdjaaGreatDoor
namespace Own
open Go Go.RowKit Sq Aux PrjJ PrjK PrjL PrjM PrjS PrjT FlwA FlwB FlwE
structure Yd.Sz (y:Yd)(t:Nat):Prop where
 made:y.made.length<=1000000
 trace:y.trace.length<=t
 live: -(t:Int)<=y.live/\y.live<=t
 words:∀b∈y.trace,b.length<=30
theorem Yd.Sz.ok {y:Yd}{t:Nat}(h:y.Sz t)(ht:t<=9000000):y.Ok:=⟨h.made,by have:=h.trace;omega,by have:=h.live;omega,h.words⟩
theorem Yd.Sz.mono {y:Yd}{t u:Nat}(h:y.Sz t)(ht:t<=u):y.Sz u:=⟨h.made,by have:=h.trace;omega,by have:=h.live;omega,h.words⟩
theorem tx {y:Yd}{c:UInt8}{n:Int}(hn: -9223372036854775808<=n/\n<=9223372036854775807)(h:∀b∈y.trace,b.length<=30):∀b∈(y.note c n).trace,b.length<=30:=by
 intro b hb;rcases List.mem_append.mp hb with hb|hb
 ·exact h b hb
 ·rw[jI.mp hb,jY];have:=Lib.itoa_length_le n hn.1 hn.2;omega
theorem Yd.Sz.free {y:Yd}{t:Nat}(h:y.Sz t){n:Nat}(hn:n<=y.made.length):(y.free n).Sz (t+1):=by
 have hm:=h.made;refine⟨by simpa [Yd.free,Yd.note]using hm,by have:=h.trace;simp[Yd.free,Yd.note];omega,by have:=h.live;show-((t+1:Nat):Int)<=y.live-1/\y.live-1<=((t+1:Nat):Int);omega,?_⟩;exact tx (y:={y with made:=y.made.set (n-1) ((y.at n).1,false),live:=y.live-1}) (by omega) h.words
theorem AM (y:Yd)(n:Nat):(y.free n).made.length=y.made.length:=by simp[Yd.free,Yd.note]
def Own.eO (o:Own)(n:Nat):Own:=if n=0 then o else{o with yd:=o.yd.free n}
def Own.fB:List Nat->Own->Own
 |[],o=>o
 |n::ns,o=>Own.fB ns (o.eO n)
def Own.drop (ps:List (Nat×Nat))(o:Own):Own:=Own.fB (Own.take ps o).1 (Own.take ps o).2
theorem AN:∀(ns:List Nat) (n:Nat) (o:Own),Own.fB (ns++[n]) o=(Own.fB ns o).eO n
 |[],_,_=>rfl
 |m::ns,n,o=>by rw[jW,Own.fB,AN ns n,Own.fB]
theorem J6 {ns:List Nat}{k:Nat}(hk:k<ns.length)(o:Own):Own.fB (ns.take (k+1)) o=(Own.fB (ns.take k) o).eO (ns.getD k 0):=by
 have e:ns.take (k+1)=ns.take k++[ns.getD k 0]:=by
  rw[List.take_add_one,jB hk,jA,jB hk];rfl
 rw[e,AN]
theorem qM (o:Own)(n:Nat):(o.eO n).boxes=o.boxes/\(o.eO n).yd.made.length=o.yd.made.length/\(o.eO n).ints=o.ints/\(o.eO n).al=o.al:=by
 unfold Own.eO;split
 ·exact⟨rfl,rfl,rfl,rfl⟩
 ·exact⟨rfl,AM _ _,rfl,rfl⟩
theorem qN:∀(ns:List Nat) (o:Own),(Own.fB ns o).boxes=o.boxes/\(Own.fB ns o).yd.made.length=o.yd.made.length/\(Own.fB ns o).ints=o.ints/\(Own.fB ns o).al=o.al
 |[],_=>⟨rfl,rfl,rfl,rfl⟩
 |n::ns,o=>by
  obtain⟨h1,h2,h3,h4⟩:=qN ns (o.eO n);obtain⟨g1,g2,g3,g4⟩:=qM o n;rw[Own.fB];exact⟨h1.trans g1,h2.trans g2,h3.trans g3,h4.trans g4⟩
theorem so:∀(ps:List (Nat×Nat)) (o:Own),(Own.take ps o).2.yd=o.yd/\(Own.take ps o).2.ints=o.ints/\(Own.take ps o).2.al=o.al
 |[],_=>⟨rfl,rfl,rfl⟩
 |p::ps,o=>by rw[Own.take];exact so ps (o.clear p)
theorem Gt:∀(ns:List Nat) (o:Own) (t:Nat),o.yd.Sz t->(∀n∈ns,n<=o.yd.made.length)->(Own.fB ns o).yd.Sz (t+ns.length)
 |[],_,_,h,_=>h
 |n::ns,o,t,h,hn=>by
  rw[Own.fB,jY,show t+(ns.length+1)=(t+1)+ns.length by omega];refine Gt ns _ _ ?_ (fun m hm=>by rw[(qM o n).2.1];exact hn m (jN _ hm));unfold Own.eO;split
  ·exact h.mono (by omega)
  ·exact h.free (hn n (jM ..))
def Own.Bx (o:Own):Prop:=∀n∈o.boxes,n<=o.yd.made.length
theorem Aq {o:Own}(h:o.Bx)(p:Nat×Nat):o.box p<=o.yd.made.length:=by
 unfold Own.box;rw[jA];cases hg:o.boxes[ah p]? with
 |none=>exact jQ _
 |some n=>exact h n (List.mem_of_getElem? hg)
theorem FZ {o:Own}(h:o.Bx)(p:Nat×Nat):(o.clear p).Bx:=fun n hn=>by
 rcases List.mem_or_eq_of_mem_set hn with hn|rfl
 ·exact h n hn
 ·exact jQ _
theorem xo:∀(ps:List (Nat×Nat)) {o:Own},o.Bx->(Own.take ps o).2.Bx/\∀n∈(Own.take ps o).1,n<=o.yd.made.length
 |[],_,h=>⟨h,fun n hn=>by cases hn⟩
 |p::ps,o,h=>by
  obtain⟨h1,h2⟩:=xo ps (FZ h p);rw[Own.take];refine⟨h1,fun n hn=> ?_⟩;rcases jP.mp hn with rfl|hn
  ·exact Aq h p
  ·exact h2 n hn
section
variable {x a:Nat} {w w0 w1:World} {vm vt vi:Value} {o:Own}
set_option maxRecDepth 20000 in
set_option maxHeartbeats 2000000 in
theorem fY {z n c t:Nat}{ad:Option Addr}{ps:List (Nat×Nat)}(h:dp w0 x a w o vi vm vt)(hp:bP z w (.slice ad n c) ps)(hx:∀p∈ps,p.1<12)(Qb:ps.length<=1000)(hb:o.Bx)(hs:o.yd.Sz t)(ht:t+ps.length<=9000000)(qw:Pow w0)(oM:11<=w0.heap.size):
  Calls Tryz.prog 60 #[.pointer (some ⟨x,0,none⟩),.slice ad n c] w fun e w'=>e=.returned (.tuple #[])/\∃vm' vt',dp w0 x a w' (o.drop ps) vi vm' vt'/\aN x vm vt w vm' vt' w':=by
 have KT:=Dz h hp hx Qb;obtain⟨aw,bU⟩:=xo ps hb;have hl:=take_len ps o;have hyd:=(so ps o).1;have HD:Hid (o.drop ps=Own.fB (Own.take ps o).1 (Own.take ps o).2):=rfl;rw[HD.out];rw[<-hyd]at hs bU;generalize (Own.take ps o).1=ns at*;generalize (Own.take ps o).2=o1 at*;rw[<-hl]at Qb ht KT;clear hl hyd HD;go_enter Tryz.func60,Tryz.ntmps60
 go_wp2_with (go_at_call 96;go_fit KT;rintro e w1 ⟨v1,rfl,hR,mo,qq⟩;obtain⟨ad5,c5,rfl⟩:=PrjP.ca hR)
 go_loopg [10] (ns.length) (fun g v10 wr=>∃(k:Nat) (vm' vt':Value),k<=ns.length/\g+k=ns.length/\v10=.int .i64 k/\dp w0 x a wr (Own.fB (ns.take k) o1) vi vm' vt'/\aN x vm vt w1 vm' vt' wr)
 case atStart=>exact⟨0,vm,vt,jQ _,rfl,rfl,mo,aN.refl _ _ _ _⟩
 case round=>
  obtain⟨k,vm',vt',hk,GI,rfl,hO,hr⟩:=hrel;by_cases aL:k<ns.length
  ·have Xj:wr.ownsRow w.heap.size 3 1 (.slice ad5 ns.length c5) ns.length (fP ns):=gi hR fun g hg=>hr.block g (hR.lt g hg).2 (fun e=>au hR mo.kb.aJ (by decide) (by rw[hg,e])) (fun e=>by
    rcases da mo.kb.made hR (by decide)with h0|h0
    ·rw[e]at h0;cases h0
    ·exact h0 (e.trans hg.symm)) (fun e=>by
    rcases da mo.kb.trace hR (by decide)with h0|h0
    ·rw[e]at h0;cases h0
    ·exact h0 (e.trans hg.symm))
   obtain⟨gr,cr,e,hcr,T6,aD⟩:=dK Xj (by omega);simp only[Value.slice.injEq]at e;obtain⟨rfl,-,rfl⟩:=e;have c1:wr.cell? ⟨gr,k,none⟩=some (.int .i64 ((ns.getD k 0:Nat):Int)):=by
    rw[aD k (by omega),fP,jJ,jB aL,jA,jB aL];rfl
   have xU:ns.getD k 0∈ns:=by rw[jA,jB aL];exact jL aL
   have HS:=J6 aL o1;have XM:=bU _ xU;have ly:=Gt (ns.take k) o1 t hs (fun m hm=>bU m (List.mem_of_mem_take hm));rw[List.length_take,Nat.min_eq_left hk]at ly;have hml:=(qN (ns.take k) o1).2.1;generalize ns.getD k 0=m at*;generalize Own.fB (ns.take k) o1=ok at*;clear aD;have hkI:(k:Int)<ns.length:=by omega
   have GQ:Pow wr:=qw.below hO.br oM;by_cases hm:m=0
   ·have hf:ok.eO m=ok:=by rw[Own.eO,jb hm]
    have hmi:((m:Int)==0)=true:=by simp[hm]
    rw[hf]at HS;go_wp2
    go_roundg (ns.length-(k+1))
    case measure=>omega
    case rel=>exact⟨k+1,vm',vt',by omega,by omega,by go_num,by rw[HS];exact hO,hr⟩
   ·have hf:ok.eO m={ok with yd:=ok.yd.free m}:=by rw[Own.eO,ja hm]
    have hmi:((m:Int)==0)=false:=by rw[jZ];omega
    have KF:=AL hO.kb m (by omega) (by rw[hml];exact XM) GQ (ly.ok (by omega)) oM;rw[hf]at HS;go_wp2_with (go_at_call 97;go_fit KF;rintro e w3 ⟨rfl,vm3,vt3,h3,r3⟩)
    go_roundg (ns.length-(k+1))
    case measure=>omega
    case rel=>exact⟨k+1,vm3,vt3,by omega,by omega,by go_num,by rw[HS];exact hO.zv h3 r3,hr.trans r3⟩
  ·have Dg:k=ns.length:=by omega
   subst Dg;rw[List.take_length]at hO;go_wp2
   go_end0
   exact⟨rfl,vm',vt',hO,(aN.qb qq).trans hr⟩
end
end Own
namespace Own
open Go Go.RowKit Sq Aux PrjJ PrjK PrjL PrjM PrjS PrjT FlwA FlwB FlwE
def Own.sA (o:Own)(p:Nat×Nat)(n:Nat):Own:={o with boxes:=o.boxes.set (ah p) n}
def Own.o7:List (Nat×Nat)->List Nat->Own->Own
 |[],_,o=>o
 |p::ps,ns,o=>Own.o7 ps (ns.drop 1) (o.sA p (ns.getD 0 0))
def Own.move (aa frm:List (Nat×Nat))(o:Own):Own:=Own.o7 aa (Own.take frm o).1 ((Own.take frm o).2.drop aa)
theorem DG:∀(ps:List (Nat×Nat)) (p:Nat×Nat) (ns:List Nat) (o:Own),Own.o7 (ps++[p]) ns o=(Own.o7 ps ns o).sA p (ns.getD ps.length 0)
 |[],_,_,_=>rfl
 |q::ps,p,ns,o=>by
  rw[jW,Own.o7,DG ps p,Own.o7,jY];congr 1;simp[List.getD_eq_getElem?_getD]
theorem Pr {ps:List (Nat×Nat)}{k:Nat}(hk:k<ps.length)(ns:List Nat)(o:Own):Own.o7 (ps.take (k+1)) ns o=(Own.o7 (ps.take k) ns o).sA (ps.getD k (0,0)) (ns.getD k 0):=by
 have e:ps.take (k+1)=ps.take k++[ps.getD k (0,0)]:=by
  rw[List.take_add_one,jB hk,jA,jB hk];rfl
 rw[e,DG,List.length_take,Nat.min_eq_left (by omega)]
theorem im (ps:List (Nat×Nat))(o:Own):(o.drop ps).yd.made.length=o.yd.made.length/\(o.drop ps).ints=o.ints/\(o.drop ps).al=o.al/\(o.drop ps).boxes=(Own.take ps o).2.boxes:=by
 unfold Own.drop;obtain⟨h1,h2,h3,h4⟩:=qN (Own.take ps o).1 (Own.take ps o).2;obtain⟨g1,g2,g3⟩:=so ps o;exact⟨by rw[h2,g1],h3.trans g2,h4.trans g3,h1⟩
section
variable {x a:Nat} {w w0 w1:World} {vm vt vm1 vt1 vi:Value} {o:Own}
theorem dp.df (h:dp w0 x a w o vi vm vt){b s n:Nat}{e:TypeId}{v:Value}{xs:List Value}(hv:w.ownsRow b e s v n xs)(he:e=3\/e=119)(hr:aN x vm vt w vm1 vt1 w1):w1.ownsRow b e s v n xs:=by
 have h1:e≠104:=by rcases he with rfl|rfl<;>decide
 have h2:175≠e:=by rcases he with rfl|rfl<;>decide
 have h3:9≠e:=by rcases he with rfl|rfl<;>decide
 refine gi hv fun g hg=>hr.block g (hv.lt g hg).2 (fun e=>au hv h.kb.aJ h1 (by rw[hg,e])) (fun e=> ?_) (fun e=> ?_)
 ·rcases da h.kb.made hv h2 with h0|h0
  ·rw[e]at h0;cases h0
  ·exact h0 (e.trans hg.symm)
 ·rcases da h.kb.trace hv h3 with h0|h0
  ·rw[e]at h0;cases h0
  ·exact h0 (e.trans hg.symm)
set_option maxRecDepth 20000 in
set_option maxHeartbeats 2000000 in
theorem Ic {z1 z2 n1 n2 c1 c2 t:Nat}{ad1 ad2:Option Addr}{aa frm:List (Nat×Nat)}(h:dp w0 x a w o vi vm vt)(B9:bP z1 w (.slice ad1 n1 c1) aa)(Wq:bP z2 w (.slice ad2 n2 c2) frm)(zo:∀p∈aa,p.1<12)(Ww:∀p∈frm,p.1<12)
  (tn:aa.length<=100) (hl:aa.length=frm.length) (hb:o.Bx) (hs:o.yd.Sz t) (ht:t+100<=9000000) (qw:Pow w0) (oM:11<=w0.heap.size):
  Calls Tryz.prog 107 #[.pointer (some ⟨x,0,none⟩),.slice ad1 n1 c1,.slice ad2 n2 c2] w fun e w'=>e=.returned (.tuple #[])/\∃vm' vt',dp w0 x a w' (o.move aa frm) vi vm' vt'/\aN x vm vt w vm' vt' w':=by
 have Wm:n1=aa.length:=by
  obtain⟨ad',c',e⟩:=PrjP.ca B9;simp only[Value.slice.injEq]at e;exact e.2.1
 subst Wm;have KT:=Dz h Wq Ww (by omega);obtain⟨aw,bU⟩:=xo frm hb;have aL:=take_len frm o;rw[<-(so frm o).1]at hs;have HM:Hid (o.move aa frm=Own.o7 aa (Own.take frm o).1 ((Own.take frm o).2.drop aa)):=rfl;rw[HM.out];generalize (Own.take frm o).1=ns at*;generalize (Own.take frm o).2=o1 at*;have lh:ns.length=aa.length:=by omega
 rw[<-hl]at KT;clear aL hl HM bU;have KD:=fun(W:World) (hW:dp w0 x a W o1 vi vm vt) (hT:bw x w W)=>fY hW (h.df B9 (.inr rfl) (aN.qb hT)) zo (by omega) aw hs (by omega) qw oM
 go_enter Tryz.func107,Tryz.ntmps107
 go_wp2_with (first
  |(go_at_call 96;go_fit KT;rintro e w1 ⟨v1,rfl,hR,mo,qq⟩;obtain⟨ad5,c5,rfl⟩:=PrjP.ca hR)
  |(go_at_call 60;go_fit (KD _ mo qq);rintro e w2 ⟨rfl,vm2,vt2,iN,Kq⟩))
 have hR2:=mo.df hR (.inl rfl) Kq;have hp12:=mo.df (h.df B9 (.inr rfl) (aN.qb qq)) (.inr rfl) Kq;have hrw:=(aN.qb qq).trans Kq;clear KT KD hR Kq qq mo hs aw;go_loopg [17] (aa.length) (fun g v17 wr=>∃(k:Nat),k<=aa.length/\g+k=aa.length/\v17=.int .i64 k/\dp w0 x a wr (Own.o7 (aa.take k) ns (o1.drop aa)) vi vm2 vt2/\bw x w2 wr)
 case atStart=>exact⟨0,jQ _,rfl,rfl,iN,bw.refl _ _⟩
 case round=>
  obtain⟨k,hk,GI,rfl,hO,hT⟩:=hrel;by_cases aL:k<aa.length
  ·have GQ:=iN.df hp12 (.inr rfl) (aN.qb hT);have Xj:=iN.df hR2 (.inl rfl) (aN.qb hT);obtain⟨gp,rfl,-,qm,XD,q1,q2⟩:=db GQ k aL;obtain⟨gr,cr,e,hcr,T6,aD⟩:=dK Xj (by omega);simp only[Value.slice.injEq]at e;obtain⟨rfl,-,rfl⟩:=e;have r1:wr.cell? ⟨gr,k,none⟩=some (.int .i64 ((ns.getD k 0:Nat):Int)):=by
    rw[aD k (by omega),fP,jJ,jB (by omega),jA,jB (by omega)];rfl
   have Y1:=zo (aa.getD k (0,0)) (by simp[aL]);have HS:=Pr aL ns (o1.drop aa);generalize aa.getD k (0,0)=p at*;generalize ns.getD k 0=m at*;generalize Own.o7 (aa.take k) ns (o1.drop aa)=ok at*;clear aD lh;have kf:Below wr.heap.size wr (wr.alloc (.cells #[.int .i64 (p.1:Nat),.int .i64 (p.2:Nat)] 119)):=(Below.refl _ _).alloc (jC _) _;have hkI:(k:Int)<aa.length:=by omega
   have yV:ah p<24:=by unfold ah;split<;>omega
   have RQ:(ah p:Int)<24:=by omega
   have r1x:=(kf.cell (p:=⟨gr,k,none⟩) T6).trans r1;have KS:=kU p (wr.alloc (.cells #[.int .i64 (p.1:Nat),.int .i64 (p.2:Nat)] 119)).drew (by omega);go_upto_region 5 with fail
   go_region_with (go_at_call 62;go_fit KS;rintro e w5 ⟨rfl,Dd⟩;have Xe:Below wr.heap.size wr w5:=kf.trans ((⟨Dd.os,Dd.tape,Dd.output,Dd.size,Dd.block⟩:Below _ (wr.alloc (.cells #[.int .i64 (p.1:Nat),.int .i64 (p.2:Nat)] 119)) w5).mono kf.size);have YG:=hO.below Xe;obtain⟨s1,s2⟩:=YG.bx yV;have r5:=(Xe.cell (p:=⟨gr,k,none⟩) T6).trans r1)
   all_goals go_wp2_with fail
   all_goals
    go_roundg (aa.length-(k+1))
    case measure=>omega
    case rel=>exact⟨k+1,by omega,by omega,by go_num,by rw[HS];exact(YG.Th (ah p) m).1,(hT.on Xe).setCell _ _⟩
  ·have Dg:k=aa.length:=by omega
   subst Dg;rw[List.take_length]at hO;go_wp2
   go_end0
   exact⟨rfl,vm2,vt2,hO,hrw.trans (aN.qb hT)⟩
end
end Own
namespace Own
open Go Go.RowKit Sq Aux PrjJ PrjK PrjL PrjM PrjS PrjT FlwA FlwB FlwE
def Own.other (o:Own)(l:ab):Bool:=if l.op=19 then o.num (l.places.getD 0 (0,0))==0 else if l.op=20 then !(o.box (l.places.getD 0 (0,0))==0)else false
section
variable {x a:Nat} {w w0 w1:World} {vm vt vi:Value} {o:Own}
theorem bq.below {z:Nat}{l:ab}{vp vn:Value}(h:bq z w l vp vn)(hb:Below w.heap.size w w1):bq z w1 l vp vn:=⟨ay h.places hb,ay h.next hb⟩
set_option maxRecDepth 20000 in
set_option maxHeartbeats 1000000 in
theorem ri (h:dp w0 x a w o vi vm vt){z nl nb:Nat}{l:ab}{ap an:Option Addr}{cp cn:Nat}(hl:bq z w l (.slice ap l.places.length cp) (.slice an l.next.length cn))(hk:tS nl nb l)(lh:nl<=12)
  (ho:l.op=18\/l.op=19\/l.op=20) (hn:(if o.other l then 1 else 0)<l.next.length):
  Calls Tryz.prog 63 #[.pointer (some ⟨x,0,none⟩),.agg #[.int .i64 (l.num:Nat),.int .i64 (l.op:Nat),.slice ap l.places.length cp,.int .i64 l.number,.int .i64 l.flag,.slice an l.next.length cn]] w fun e w'=>
   e=.returned (.int .i64 ((l.next.getD (if o.other l then 1 else 0) 0:Nat):Int))/\Below w.heap.size w w':=by
 have aY:Below w.heap.size w (w.alloc (.cells #[.int .i64 (l.num:Nat),.int .i64 (l.op:Nat),.slice ap l.places.length cp,.int .i64 l.number,.int .i64 l.flag,.slice an l.next.length cn] 115)):=(Below.refl _ _).alloc (jC _) _;have HA:=h.below aY;have KW:=fun(W:World) (hW:Below w.heap.size w W)=>VW (hl.below hW) (o.other l) hn
 unfold lnV at KW;have bV:(w.alloc (.cells #[.int .i64 (l.num:Nat),.int .i64 (l.op:Nat),.slice ap l.places.length cp,.int .i64 l.number,.int .i64 l.flag,.slice an l.next.length cn] 115)).heap[w.heap.size]?=some (.cells #[.int .i64 (l.num:Nat),.int .i64 (l.op:Nat),.slice ap l.places.length cp,.int .i64 l.number,.int .i64 l.flag,.slice an l.next.length cn] 115 (0,0)):=jD;generalize hR:l.next.getD (if o.other l then 1 else 0) 0=r at KW⊢;by_cases sw:l.op=18
 ·have GO:o.other l=false:=by rw[Own.other,ja (by omega),ja (by omega)]
  rw[GO]at KW;have b1:(((l.op:Nat):Int)==19)=false:=by rw[sw];rfl
  have b2:(((l.op:Nat):Int)==20)=false:=by rw[sw];rfl
  clear hn hR GO sw ho;go_enter Tryz.func63,Tryz.ntmps63
  go_wp2_with (go_at_call 100;go_fit (KW _ aY);rintro e w1 ⟨rfl,h1⟩)
  go_ret
  exact⟨rfl,aY.trans (h1.mono aY.size)⟩
 ·have hlen:1<=l.places.length:=by
   rcases ho with e|e|e
   ·exact absurd e sw
   ·rw[hk.cQ,e];decide
   ·rw[hk.cQ,e];decide
  obtain⟨g,e,-,qm,hg,c1,c2⟩:=db hl.places 0 (by omega);subst e;have hx:=(hk.places (l.places.getD 0 (0,0)) (by rw[jA,jB (by omega)];exact jL _)).1;have d1:=(aY.cell (p:=⟨g,0,none⟩) hg).trans c1;have d2:=(aY.cell (p:=⟨g,1,none⟩) hg).trans c2;have hlI:(0:Int)<l.places.length:=by omega
  have KN:=ej HA (l.places.getD 0 (0,0)) (by omega);have KB:=iY HA (l.places.getD 0 (0,0)) (by omega);by_cases Uz:l.op=19
  ·have GO:o.other l=(o.num (l.places.getD 0 (0,0))==0):=by rw[Own.other,jb Uz]
   rw[GO]at KW;have b1:(((l.op:Nat):Int)==19)=true:=by rw[Uz];rfl
   have b2:(((l.op:Nat):Int)==20)=false:=by rw[Uz];rfl
   clear hn hR GO Uz sw ho c1 c2 KB;generalize l.places.getD 0 (0,0)=p at*;go_enter Tryz.func63,Tryz.ntmps63
   go_wp2_with (first
    |(go_at_call 58;go_fit KN;rintro e w2 ⟨rfl,h2⟩;have bU:=aY.trans (h2.mono aY.size);have oO:=(h2.block _ (lt_of_heap bV)).trans bV;have m0:w2.cell? ⟨w.heap.size,0,none⟩=_:=cell_of_heap oO 0;have m1:w2.cell? ⟨w.heap.size,1,none⟩=_:=cell_of_heap oO 1;have m2:w2.cell? ⟨w.heap.size,2,none⟩=_:=cell_of_heap oO 2;have m3:w2.cell? ⟨w.heap.size,3,none⟩=_:=cell_of_heap oO 3;have m4:w2.cell? ⟨w.heap.size,4,none⟩=_:=cell_of_heap oO 4;have m5:w2.cell? ⟨w.heap.size,5,none⟩=_:=cell_of_heap oO 5;simp at m0 m1 m2 m3 m4 m5)
    |(go_at_call 100;go_fit (KW _ bU);rintro e w1 ⟨rfl,h1⟩))
   go_ret
   exact⟨rfl,bU.trans (h1.mono bU.size)⟩
  ·have P6:l.op=20:=by omega
   have GO:o.other l= !(o.box (l.places.getD 0 (0,0))==0):=by rw[Own.other,ja Uz,jb P6]
   rw[GO]at KW;have b1:(((l.op:Nat):Int)==19)=false:=by rw[P6];rfl
   have b2:(((l.op:Nat):Int)==20)=true:=by rw[P6];rfl
   clear hn hR GO Uz sw P6 ho c1 c2 KN;generalize l.places.getD 0 (0,0)=p at*;have bb:(((o.box p:Nat):Int) !=0)= !(o.box p==0):=by
    rw[bne];congr 1;rw[jX,beq_iff_eq,beq_iff_eq];omega
   rw[<-bb]at KW;clear bb;go_enter Tryz.func63,Tryz.ntmps63
   go_wp2_with (first
    |(go_at_call 99;go_fit KB;rintro e w2 ⟨rfl,h2⟩;have bU:=aY.trans (h2.mono aY.size);have oO:=(h2.block _ (lt_of_heap bV)).trans bV;have m0:w2.cell? ⟨w.heap.size,0,none⟩=_:=cell_of_heap oO 0;have m1:w2.cell? ⟨w.heap.size,1,none⟩=_:=cell_of_heap oO 1;have m2:w2.cell? ⟨w.heap.size,2,none⟩=_:=cell_of_heap oO 2;have m3:w2.cell? ⟨w.heap.size,3,none⟩=_:=cell_of_heap oO 3;have m4:w2.cell? ⟨w.heap.size,4,none⟩=_:=cell_of_heap oO 4;have m5:w2.cell? ⟨w.heap.size,5,none⟩=_:=cell_of_heap oO 5;simp at m0 m1 m2 m3 m4 m5)
    |(go_at_call 100;go_fit (KW _ bU);rintro e w1 ⟨rfl,h1⟩))
   go_ret
   exact⟨rfl,bU.trans (h1.mono bU.size)⟩
end
end Own
namespace Own
open Go Go.RowKit Sq Aux PrjS FlwA
def ai (l:ab)(j:Nat):Nat×Nat:=l.places.getD j (0,0)
def Own.dN (q:QP):Nat->Own->Own
 |0,o=>o
 |i+1,o=>Own.dN q i (o.drop (QP.ae q (i,0)))
def Own.calc (o:Own)(l:ab):Own:={o with ints:=o.ints.set (ai l 0).1 (vf l.op (o.num (ai l 1)) (o.num (ai l 2)))}
def Own.new (o:Own)(p:Nat×Nat)(v:Int):Own:={o with yd:=o.yd.build v,boxes:=o.boxes.set (ah p) (o.yd.made.length+1)}
def Own.bE (o:Own)(l:ab):Bool:=if l.op=10 then decide (1<=o.box (ai l 1))else if l.op=11 then decide (1<=o.box (ai l 0))else true
def Own.fz (q:QP)(o:Own)(l:ab):Own:=
 if l.op=2 then{o with ints:=o.ints.set (ai l 0).1 l.number}
 else if l.op=3\/l.op=4\/l.op=5 then o.calc l
 else if l.op=7 then{o with al:=o.al.tail,ints:=o.ints.set (ai l 0).1 (o.al.headD 0)}
 else if l.op=8 then{o with yd:=o.yd.note 111 (o.num (ai l 0))}
 else if l.op=10 then{o with yd:=o.yd.load (o.box (ai l 1)),ints:=o.ints.set (ai l 0).1 (o.yd.at (o.box (ai l 1))).1}
 else if l.op=11 then{o with yd:=o.yd.store (o.box (ai l 0)) (o.num (ai l 1))}
 else if l.op=12\/l.op=14 then o.move (QP.ae q (ai l 0)) (QP.ae q (ai l 1))
 else if l.op=13\/l.op=15 then o.drop (QP.ae q (ai l 0))
 else o
def ea (q:QP)(room:Int):Nat->List ab->Own->Option (Nat×Int×Own)
 |_,[],_=>none
 |0,_::_,o=>some (2,0,o)
 |f+1,l::ls,o=>
  if l.op=6 then(if o.num (ai l 2)=0 then some (4,0,o)else ea q room f ls (o.calc l))
  else if l.op=9 then(if(o.drop [ai l 0]).yd.live≥room then some (3,0,o.drop [ai l 0])else ea q room f ls ((o.drop [ai l 0]).new (ai l 0) (o.num (ai l 1))))
  else if l.op=18\/l.op=19\/l.op=20 then(if ls=[]then ea q room f (q.blocks.getD (l.next.getD (if o.other l then 1 else 0) 0) []) o else none)
  else if l.op=22 then some (1,o.num (ai l 0),o.dN q q.locals.length)
  else if o.bE l=true then ea q room f ls (o.fz q l)else none
def Own.start (al:List Int):Own:=⟨⟨[],0,[]⟩,al,List.replicate 12 0,List.replicate 24 0⟩
structure Own.In (o:Own)(t:Nat):Prop where
 many:o.yd.made.length<=t
 trace:o.yd.trace.length<=t
 live: -(t:Int)<=o.yd.live/\o.yd.live<=t
 words:∀b∈o.yd.trace,b.length<=30
 bx:o.Bx
 ints:o.ints.length=12
 boxes:o.boxes.length=24
 rk:∀n∈o.ints,aO n
 al:∀n∈o.al,aO n
 made:∀b∈o.yd.made,aO b.1
theorem wrap_i64 (n:Int):aO (wrap64 n):=by unfold aO wrap64;omega
theorem Ar (op:Nat)(m n:Int):aO (vf op m n):=by
 unfold vf
 repeat' split
 all_goals exact wrap_i64 _
theorem xr:aO 0:=by unfold aO;omega
section
variable {o:Own} {t u:Nat}
theorem Own.In.sz (h:o.In t)(ht:t<=1000000):o.yd.Sz t:=⟨by have:=h.many;omega,h.trace,h.live,h.words⟩
theorem Own.In.mono (h:o.In t)(ht:t<=u):o.In u:=⟨by have:=h.many;omega,by have:=h.trace;omega,by have:=h.live;omega,h.words,h.bx,h.ints,h.boxes,h.rk,h.al,h.made⟩
theorem mem_set {α:Type}{l:List α}{j:Nat}{v n:α}(h:n∈l.set j v):n∈l\/n=v:=List.mem_or_eq_of_mem_set h
theorem Own.In.setInt (h:o.In t)(j:Nat){v:Int}(hv:aO v):({o with ints:=o.ints.set j v}:Own).In t:=
 ⟨h.many,h.trace,h.live,h.words,h.bx,by simpa using h.ints,h.boxes,fun n hn=>(mem_set hn).elim (h.rk n) (fun e=>e▸hv),h.al,h.made⟩
theorem Own.In.num (h:o.In t)(p:Nat×Nat):aO (o.num p):=by
 unfold Own.num;rw[jA];cases hg:o.ints[p.1]? with
 |none=>exact xr
 |some n=>exact h.rk n (List.mem_of_getElem? hg)
theorem Own.In.head (h:o.In t):aO (o.al.headD 0):=by
 cases hi:o.al with
 |nil=>exact xr
 |cons n r=>exact h.al n (by rw[hi];exact jM ..)
theorem Own.In.tail (h:o.In t):({o with al:=o.al.tail}:Own).In t:=⟨h.many,h.trace,h.live,h.words,h.bx,h.ints,h.boxes,h.rk,fun n hn=>h.al n (List.mem_of_mem_tail hn),h.made⟩
theorem Own.In.note (h:o.In t)(c:UInt8){n:Int}(hn:aO n):({o with yd:=o.yd.note c n}:Own).In (t+1):=
 ⟨by have:=h.many;show o.yd.made.length<=t+1;omega,by have:=h.trace;simp[Yd.note];omega,by have:=h.live;show-((t+1:Nat):Int)<=o.yd.live/\o.yd.live<=_;omega,tx hn h.words,h.bx,h.ints,h.boxes,h.rk,h.al,h.made⟩
theorem Own.In.at (h:o.In t)(n:Nat):aO (o.yd.at n).1:=by
 unfold Yd.at;rw[jA];cases hg:o.yd.made[n-1]? with
 |none=>exact xr
 |some b=>exact h.made b (List.mem_of_getElem? hg)
theorem EP {n:Nat}(h:n<=1000000000):aO ((n:Nat):Int):=by unfold aO;omega
theorem Own.In.load (h:o.In t)(ht:t<=1000000){n:Nat}(hn:n<=o.yd.made.length):({o with yd:=o.yd.load n}:Own).In (t+1):=h.note 60 (EP (by have:=h.many;omega))
theorem Own.In.store (h:o.In t)(ht:t<=1000000){n:Nat}(hn:n<=o.yd.made.length){v:Int}(hv:aO v):({o with yd:=o.yd.store n v}:Own).In (t+1):=by
 have h1:=h.note 62 (n:=((n:Nat):Int)) (EP (by have:=h.many;omega));refine⟨?_,h1.trace,h1.live,h1.words,fun m hm=> ?_,h.ints,h.boxes,h.rk,h.al,fun b hb=> ?_⟩
 ·have:=h.many;show(o.yd.made.set (n-1) _).length<=t+1;rw[List.length_set];omega
 ·show m<=(o.yd.made.set (n-1) _).length;rw[List.length_set];exact h.bx m hm
 ·rcases mem_set hb with hb|rfl
  ·exact h.made b hb
  ·exact hv
theorem Own.In.clear (h:o.In t)(p:Nat×Nat):(o.clear p).In t:=
 ⟨h.many,h.trace,h.live,h.words,FZ h.bx p,h.ints,by simpa [Own.clear]using h.boxes,h.rk,h.al,h.made⟩
theorem Own.In.cK:∀(ps:List (Nat×Nat)) {o:Own} {t:Nat},o.In t->(Own.take ps o).2.In t
 |[],_,_,h=>h
 |p::ps,o,t,h=>by rw[Own.take];exact Own.In.cK ps (h.clear p)
theorem Own.In.take (h:o.In t)(ps:List (Nat×Nat)):(Own.take ps o).2.In t:=Own.In.cK ps h
theorem Own.In.eO (h:o.In t)(ht:t<=1000000){n:Nat}(hn:n<=o.yd.made.length):(o.eO n).In (t+1):=by
 unfold Own.eO;split
 ·exact h.mono (by omega)
 ·have hs:=(h.sz ht).free hn;refine⟨by rw[AM];have:=h.many;omega,hs.trace,hs.live,hs.words,fun m hm=> ?_,h.ints,h.boxes,h.rk,h.al,fun b hb=> ?_⟩
  ·show m<=(o.yd.free n).made.length;rw[AM];exact h.bx m hm
  ·rcases mem_set (show b∈o.yd.made.set (n-1) ((o.yd.at n).1,false)from hb)with hb|rfl
   ·exact h.made b hb
   ·exact h.at n
theorem Own.In.fB:∀(ns:List Nat) {o:Own} {t:Nat},o.In t->t+ns.length<=1000000->(∀n∈ns,n<=o.yd.made.length)->(Own.fB ns o).In (t+ns.length)
 |[],_,_,h,_,_=>h
 |n::ns,o,t,h,ht,hn=>by
  rw[jY]at ht;rw[Own.fB,jY,show t+(ns.length+1)=(t+1)+ns.length by omega];exact Own.In.fB ns (h.eO (by omega) (hn n (jM ..))) (by omega) (fun m hm=>by rw[(qM o n).2.1];exact hn m (jN _ hm))
theorem Own.In.drop (h:o.In t)(ps:List (Nat×Nat))(ht:t+ps.length<=1000000):(o.drop ps).In (t+ps.length):=by
 have:=Own.In.fB (Own.take ps o).1 (h.take ps) (by rw[take_len];exact ht) (fun n hn=>by rw[(so ps o).1];exact(xo ps h.bx).2 n hn)
 rwa [take_len]at this
theorem Own.In.sA (h:o.In t)(p:Nat×Nat){n:Nat}(hn:n<=o.yd.made.length):(o.sA p n).In t:=
 ⟨h.many,h.trace,h.live,h.words,fun m hm=>(mem_set hm).elim (h.bx m) (fun e=>e▸hn),h.ints,by simpa [Own.sA]using h.boxes,h.rk,h.al,h.made⟩
theorem Own.In.o7:∀(ps:List (Nat×Nat)) (ns:List Nat) {o:Own} {t:Nat},o.In t->(∀n∈ns,n<=o.yd.made.length)->(Own.o7 ps ns o).In t
 |[],_,_,_,h,_=>h
 |p::ps,ns,o,t,h,hn=>by
  rw[Own.o7];refine Own.In.o7 ps (ns.drop 1) (h.sA p ?_) (fun m hm=>hn m (List.mem_of_mem_drop hm));cases ns with
  |nil=>exact jQ _
  |cons m r=>exact hn m (jM ..)
theorem Own.In.move (h:o.In t)(aa frm:List (Nat×Nat))(ht:t+aa.length<=1000000):(o.move aa frm).In (t+aa.length):=by
 refine Own.In.o7 aa _ ((h.take frm).drop aa ht) (fun n hn=> ?_);rw[(im aa (Own.take frm o).2).1,(so frm o).1];exact(xo frm h.bx).2 n hn
theorem Own.In.new (h:o.In t)(ht:t<=1000000)(p:Nat×Nat){v:Int}(hv:aO v):(o.new p v).In (t+1):=by
 have hm:=h.many;have hnr:aO ((o.yd.made.length+1:Nat):Int):=EP (by omega);refine⟨?_,?_,?_,tx hnr h.words,fun m Oi=> ?_,h.ints,by simpa [Own.new]using h.boxes,h.rk,h.al,fun b hb=> ?_⟩
 ·show(o.yd.made++[(v,true)]).length<=t+1;simp;omega
 ·have:=h.trace;show(o.yd.trace++[_]).length<=t+1;simp;omega
 ·have:=h.live;show-((t+1:Nat):Int)<=o.yd.live+1/\o.yd.live+1<=((t+1:Nat):Int);omega
 ·show m<=(o.yd.made++[(v,true)]).length
  rw[jV];rcases mem_set (show m∈o.boxes.set (ah p) (o.yd.made.length+1)from Oi)with Oi|rfl
  ·have:=h.bx m Oi;simp;omega
  ·simp
 ·rcases List.mem_append.mp (show b∈o.yd.made++[(v,true)]from hb)with hb|hb
  ·exact h.made b hb
  ·rw[jI.mp hb];exact hv
theorem mq (q:QP)(p:Nat×Nat):(QP.ae q p).length<=2:=by unfold QP.ae;split<;>simp
theorem Own.In.fz (h:o.In t)(ht:t+3<=1000000)(q:QP)(l:ab)(Cq:aO l.number):(o.fz q l).In (t+3):=by
 unfold Own.fz;split
 ·exact(h.setInt _ Cq).mono (by omega)
 ·split
  ·exact(h.setInt _ (Ar _ _ _)).mono (by omega)
  ·split
   ·exact(h.tail.setInt (ai l 0).1 h.head).mono (by omega)
   ·split
    ·exact(h.note 111 (h.num _)).mono (by omega)
    ·split
     ·exact((h.load (by omega) (Aq h.bx (ai l 1))).setInt (ai l 0).1 (h.at _)).mono (by omega)
     ·split
      ·exact(h.store (by omega) (Aq h.bx (ai l 0)) (h.num _)).mono (by omega)
      ·split
       ·have:=mq q (ai l 0);exact(h.move _ _ (by omega)).mono (by omega)
       ·split
        ·have:=mq q (ai l 0);exact(h.drop _ (by omega)).mono (by omega)
        ·exact h.mono (by omega)
theorem Own.In.dN (q:QP):∀(i:Nat) {o:Own} {t:Nat},o.In t->t+2*i<=1000000->(Own.dN q i o).In (t+2*i)
 |0,_,_,h,_=>h
 |i+1,o,t,h,ht=>by
  have h2:=mq q (i,0);rw[Own.dN,show t+2*(i+1)=(t+2)+2*i by omega];exact Own.In.dN q i ((h.drop (QP.ae q (i,0)) (by omega)).mono (by omega)) (by omega)
theorem Own.In.start {al:List Int}(h:∀n∈al,aO n):(Own.start al).In 0:=
 ⟨jC _,jC _,⟨Int.le_refl _,Int.le_refl _⟩,fun b hb=>(by cases hb),fun n hn=>(by rw[List.eq_of_mem_replicate hn];exact jQ _),by simp[Own.start],by simp[Own.start],fun n hn=>by rw[List.eq_of_mem_replicate hn];exact xr,h,fun b hb=>(by cases hb)⟩
end
end Own
namespace Own
open Go Go.RowKit Go.Shelf Sq Aux PrjJ PrjM FlwA
attribute [local go_sem] Oper.semAt_some
def yM (N k:Nat):List (Fin N):=(List.range k).filterMap fun j=>if h:N-1-j<N then some ⟨N-1-j,h⟩else none
theorem xG {N k:Nat}(hk:k<N):yM N (k+1)=yM N k++[⟨N-1-k,by omega⟩]:=by
 unfold yM;rw[List.range_succ,List.filterMap_append];congr 1;simp only[List.filterMap_cons,List.filterMap_nil];rw[dif_pos (by omega)]
theorem F9 {N:Nat}:∀k,k<=N->(yM N k).length=k
 |0,_=>rfl
 |k+1,hk=>by rw[xG (by omega),jV,F9 k (by omega)];rfl
def yN (q:QP){N:Nat}(ys:List (Fin N))(o:Own):Own:=ys.foldl (fun o i=>o.drop (QP.ae q (i.val,0))) o
theorem C4 (q:QP){N:Nat}(o:Own):∀k,k<=N->Own.dN q (N-k) (yN q (yM N k) o)=Own.dN q N o
 |0,_=>rfl
 |k+1,hk=>by
  rw[<-C4 q o k (by omega),xG (by omega)];unfold yN;rw[List.foldl_append,show N-k=(N-(k+1))+1 by omega,Own.dN];simp only[List.foldl_cons,List.foldl_nil];rw[show N-1-k=N-(k+1) by omega]
def Yf (ls:List (B×Nat))(j:Nat):Value:=.agg #[.string (bs (ls.getD j ([],0)).1),.int .i64 ((ls.getD j ([],0)).2:Nat)]
def Uw (ls:List (B×Nat))(x:Fin ls.length):Array Value:= #[.int .i64 (x.val:Int),Yf ls x.val]
def Ql (n₀ Bs:Nat)(A C:World):Prop:=Below n₀ A C/\C.cell? ⟨Bs,0,none⟩=A.cell? ⟨Bs,0,none⟩
set_option maxRecDepth 100000 in
set_option maxHeartbeats 2000000 in
theorem Qv (F:Fence)(n:Nat)(hf:F.fn 157)(hro:F.round=none)(hn:1<=n)(lp Bs n₀ g cap:Nat)(ls:List (B×Nat))(hlen:ls.length<=4000)(hg:g<n₀)(J Jx:List (Fin ls.length)->World->Prop)
  (hY:∀pre x W,J pre W->pre.length<ls.length->YieldAt F (n-1) Tryz.prog lp (Uw ls x) W fun e W'=>
   (e=.returned (.bool true)/\J (pre++[x]) W'/\Ql n₀ Bs W W')\/(e=.returned (.bool false)/\Jx (pre++[x]) W'))
  (W:World) (hBs:W.cell? ⟨Bs,0,none⟩=some (.slice (some ⟨g,0,none⟩) ls.length cap)) (_hcap:ls.length<=cap)
  (hc:∀j,j<ls.length->W.cell? ⟨g,j*2,none⟩=some (.string (bs (ls.getD j ([],0)).1))/\W.cell? ⟨g,j*2+1,none⟩=some (.int .i64 ((ls.getD j ([],0)).2:Nat))) (h0:J [] W):
  CallsIn F n Tryz.prog 157 #[.func (.yield lp) #[] #[],.pointer (some ⟨Bs,0,none⟩)] W fun e W'=>(∃v,e=.returned v)/\
   ((∃ys,ys=yM ls.length ls.length/\J ys W')\/(∃pre,True/\Jx pre W')):=by
 refine callsIn_of_wp Tryz.func157 rfl hf ?_ hro;simp only[Tryz.ntmps157,List.size_toArray,List.length_cons,List.length_nil,Nat.reduceAdd,Nat.reduceSub,Array.replicate_succ,Array.replicate_zero,List.push_toArray,List.append_toArray,List.nil_append,List.cons_append]
 gi_wp2
 gi_loopw [3] (fun i wr=>∃k:Nat,k<=ls.length/\i=.int .i64 ((ls.length:Int)-1-(k:Int))/\J (yM ls.length k) wr/\Ql n₀ Bs W wr)
  (fun i _=>(intOf i+1).toNat)
 case atStart=>exact⟨0,jQ _,by simp,h0,Below.refl _ _,rfl⟩
 case round=>
  obtain⟨k,hk,rfl,hJs,mQ,kf⟩:=hrel;by_cases aL:k<ls.length
  ·obtain⟨fn,tmps,assign,body,hy,hR⟩:=hY _ ⟨ls.length-1-k,by omega⟩ wr hJs (by rw[F9 k hk];exact aL);obtain⟨d1,d2⟩:=hc (ls.length-1-k) (by omega);have e1:=(mQ.cell (p:=⟨g,(ls.length-1-k)*2,none⟩) hg).trans d1;have e2:=(mQ.cell (p:=⟨g,(ls.length-1-k)*2+1,none⟩) hg).trans d2;have e3:=kf.trans hBs;unfold Uw Yf at hy;dsimp only at hy;have Rz:(ls.length:Int)-1-(k:Int)=((ls.length-1-k:Nat):Int):=by omega
   have hds:=xG aL;have YR:ls.length-1-k<ls.length:=by omega
   rw[Rz];have hBs':Hid (_):=hBs;clear Rz hc hBs kf d1 d2;obtain⟨m,hm⟩:∃m,Hid (ls.length-1-k=m):=⟨_,rfl⟩;rw[hm.out]at e1 e2 hy YR⊢;have hmI:(m:Int)<ls.length:=by omega
   have hm0:(0:Int)<=m:=by omega
   generalize ls.getD m ([],0)=b at*
   gi_wp2
   refine hR.mono ?_;rintro e W3 (⟨rfl,hJ3,YP⟩|⟨rfl,hJx3⟩)
   ·gi_wp2
    go_roundw
    case rel=>exact⟨k+1,by omega,by have:=hm.out;congr 1;omega,by rw[hds];exact hJ3,mQ.trans YP.1,YP.2.trans (e3.trans hBs'.out.symm)⟩
    case measure=>first|(simp[intOf];done)|(simp[intOf];omega)
   ·gi_wp2
    refine bodyPost_ret (results_none rfl _ _ _) rfl ?_;exact⟨⟨_,rfl⟩,.inr ⟨_,trivial,hJx3⟩⟩
  ·obtain rfl:k=ls.length:=by omega
   have Rz:(ls.length:Int)-1-(ls.length:Int)= -1:=by omega
   rw[Rz]
   gi_wp2
   go_end0
   exact⟨⟨_,rfl⟩,.inl ⟨_,rfl,hJs⟩⟩
set_option maxHeartbeats 1000000 in
theorem Uj (F:Fence)(n:Nat)(hf:F.fn 101)(hro:F.round=none)(a:Option Addr)(len cap:Nat)(w:World):
  CallsIn F n Tryz.prog 101 #[.slice a len cap] w fun e w'=>e=.returned (.func (.func 157) #[] #[.pointer (some ⟨w.heap.size,0,none⟩)])/\w'=w.alloc (.cells #[.slice a len cap] 107):=by
 refine callsIn_of_wp Tryz.func101 rfl hf ?_ hro;simp only[Tryz.ntmps101,List.size_toArray,List.length_cons,List.length_nil,Nat.reduceAdd,Nat.reduceSub,Array.replicate_succ,Array.replicate_zero,List.push_toArray,List.append_toArray,List.nil_append,List.cons_append]
 gi_wp2
 go_ret
 exact⟨rfl,rfl⟩
theorem JH (F:Fence)(n:Nat)(hf:F.fn 157)(hro:F.round=none)(hn:1<=n)(Bs n₀ g cap:Nat)(ls:List (B×Nat))(hlen:ls.length<=4000)(hg:g<n₀)(kM:ls.length<=cap)(w:World)(hBs:Bs<w.heap.size)(hn₀:n₀<=w.heap.size)
  (hb:w.cell? ⟨Bs,0,none⟩=some (.slice (some ⟨g,0,none⟩) ls.length cap))
  (hc:∀j,j<ls.length->w.cell? ⟨g,j*2,none⟩=some (.string (bs (ls.getD j ([],0)).1))/\w.cell? ⟨g,j*2+1,none⟩=some (.int .i64 ((ls.getD j ([],0)).2:Nat))):
  SeqStopsK F n Tryz.prog 157 #[.pointer (some ⟨Bs,0,none⟩)] (Uw ls) (Ql n₀ Bs) (fun ys=>ys=yM ls.length ls.length) (fun _=>True) ls.length w:=fun l J Jx W hW _ _ hY h0=>
 Qv F n hf hro hn l Bs n₀ g cap ls hlen hg J Jx hY W ((hW.cell (p:=⟨Bs,0,none⟩) hBs).trans hb) kM
  (fun j hj=>⟨(hW.cell (p:=⟨g,j*2,none⟩) (jK hg hn₀)).trans (hc j hj).1,(hW.cell (p:=⟨g,j*2+1,none⟩) (jK hg hn₀)).trans (hc j hj).2⟩) h0
section
variable {x a:Nat} {w w0 W W':World} {vm vt vi vm1 vt1:Value} {o:Own} {row:Option Nat}
theorem vg {k:Nat}{cs:Array Value}{e:TypeId}{f:Nat×Nat}(hk:W.heap[k]?=some (.cells cs e f))(hr:∀r,row=some r->∃ob:Obj,W.heap[r]?=some ob/\ob.isCells=false):some k≠row:=fun e'=>by
 obtain⟨ob,h1,h2⟩:=hr k e'.symm;rw[hk]at h1;cases h1
 simp[Obj.isCells]at h2
theorem Tc {b s n:Nat}{e:TypeId}{v:Value}{xs:List Value}(hv:W.ownsRow b e s v n xs)(hr:∀r,row=some r->∃ob:Obj,W.heap[r]?=some ob/\ob.isCells=false):v.ownBlock=none\/v.ownBlock≠row:=by
 rcases hv.2 with⟨rfl,-⟩|⟨g,cap,cur,rfl,-,hg,-⟩
 ·exact .inl rfl
 ·exact .inr (vg hg hr)
theorem dp.FK (h:dp w0 x a W o vi vm vt)(hg:W.grownBy W' row)(hr:∀r,row=some r->w0.heap.size<=r/\∃ob:Obj,W.heap[r]?=some ob/\ob.isCells=false):dp w0 x a W' o vi vm vt:=by
 have Kq:∀r,row=some r->∃ob:Obj,W.heap[r]?=some ob/\ob.isCells=false:=fun r e=>(hr r e).2
 refine⟨⟨h.kb.base,h.kb.ty,?_,h.kb.made.kept hg (Tc h.kb.made Kq),h.kb.trace.kept hg (Tc h.kb.trace Kq)⟩,h.br.trans ⟨hg.os,hg.tape,hg.output,hg.size,fun k hk=>hg.block k (jK hk h.br.size) (fun e=> ?_)⟩,h.ints,h.boxes,h.feed⟩
 ·rw[hg.block x h.lt (vg h.kb.aJ Kq)];exact h.kb.aJ
 ·have:=(hr k e.symm).1;omega
theorem aN.FK {w1:World}(h:aN x vm vt w1 vm1 vt1 W)(hg:W.grownBy W' row)(hr:∀r,row=some r->w1.heap.size<=r):aN x vm vt w1 vm1 vt1 W':=
 ⟨hg.os.trans h.os,hg.tape.trans h.tape,hg.output.trans h.output,jS h.size hg.size,fun k hk h1 h2 h3=>(hg.block k (jK hk h.size) (fun e=>by have:=hr k e.symm;omega)).trans (h.block k hk h1 h2 h3),h.fm,h.ft⟩
theorem aN.keeps (h:aN x vm vt W vm1 vt1 W')(hO:dp w0 x a W o vi vm vt):KeepsOthers W W':=by
 refine⟨h.size,fun k ob hk hc=> ?_⟩;have ne:∀{j:Nat} {cs:Array Value} {e:TypeId} {f:Nat×Nat},W.heap[j]?=some (.cells cs e f)->k≠j:=fun hj e=>by
  subst e;rw[hk]at hj;cases hj
  simp[Obj.isCells]at hc
 rw[h.block k (lt_of_heap hk) (ne hO.kb.aJ) (fun e=> ?_) (fun e=> ?_)]
 ·exact hk
 ·rcases hO.kb.made.2 with⟨e',-⟩|⟨g,cap,cur,e',-,hg,-⟩
  ·rw[e']at e;cases e
  ·rw[e']at e;simp only[Value.ownBlock,Option.some.injEq]at e;exact ne hg e.symm
 ·rcases hO.kb.trace.2 with⟨e',-⟩|⟨g,cap,cur,e',-,hg,-⟩
  ·rw[e']at e;cases e
  ·rw[e']at e;simp only[Value.ownBlock,Option.some.injEq]at e;exact ne hg e.symm
theorem dp.SQ (hO:dp w0 x a W o vi vm vt)(h:aN x vm vt W vm1 vt1 W'){k:Nat}{cs:Array Value}{e:TypeId}{f:Nat×Nat}(hk:W.heap[k]?=some (.cells cs e f))(h1:e≠104)(h2:175≠e)(h3:9≠e):W'.heap[k]?=some (.cells cs e f):=by
 rw[h.block k (lt_of_heap hk) (fun e'=> ?_) (fun e'=>au hO.kb.made hk h2 e') (fun e'=>au hO.kb.trace hk h3 e')]
 ·exact hk
 ·subst e';have:=hO.kb.aJ;rw[hk]at this;simp only[Option.some.injEq,Obj.cells.injEq]at this;exact h1 this.2.1
end
end Own
end Go.Proofs.YtmlgajhhnojdjaaGreatDoor

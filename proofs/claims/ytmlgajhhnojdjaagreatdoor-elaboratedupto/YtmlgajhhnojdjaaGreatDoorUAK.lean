import Derived.Test.YtmlgajhhnojdjaaGreatDoorUAJ
set_option maxHeartbeats 8000000
namespace Go.Proofs.YtmlgajhhnojdjaaGreatDoor
namespace Own
open Go Go.RowKit Sq Aux PrjJ PrjK PrjL PrjM PrjS PrjT FlwA FlwB FlwE
structure Yd.Sz (y:Yd)(t:Nat):Prop where
 made:y.made.length<=1000000
 trace:y.trace.length<=t
 live: -(t:Int)<=y.live/\y.live<=t
 words:∀b∈y.trace,b.length<=30
theorem Yd.Sz.ok {y:Yd}{t:Nat}(h:y.Sz t)(ht:t<=9000000):y.Ok:=⟨h.made,by have:=h.trace;omega,by have:=h.live;omega,h.words⟩
theorem Yd.Sz.mono {y:Yd}{t u:Nat}(h:y.Sz t)(ht:t<=u):y.Sz u:=⟨h.made,by have:=h.trace;omega,by have:=h.live;omega,h.words⟩
theorem kT {y:Yd}{c:UInt8}{n:Int}(hn: -9223372036854775808<=n/\n<=9223372036854775807)(h:∀b∈y.trace,b.length<=30):∀b∈(y.note c n).trace,b.length<=30:=by
 intro b hb;rcases List.mem_append.mp hb with hb|hb
 ·exact h b hb
 ·rw[jI.mp hb,jY];have:=Lib.itoa_length_le n hn.1 hn.2;omega
theorem Yd.Sz.free {y:Yd}{t:Nat}(h:y.Sz t){n:Nat}(hn:n<=y.made.length):(y.free n).Sz (t+1):=by
 have hm:=h.made;refine⟨by simpa [Yd.free,Yd.note]using hm,by have:=h.trace;simp[Yd.free,Yd.note];omega,by have:=h.live;show-((t+1:Nat):Int)<=y.live-1/\y.live-1<=((t+1:Nat):Int);omega,?_⟩;exact kT (y:={y with made:=y.made.set (n-1) ((y.at n).1,false),live:=y.live-1}) (by omega) h.words
theorem yX (y:Yd)(n:Nat):(y.free n).made.length=y.made.length:=by simp[Yd.free,Yd.note]
def Own.cR (o:Own)(n:Nat):Own:=if n=0 then o else{o with yd:=o.yd.free n}
def Own.eI:List Nat->Own->Own
 |[],o=>o
 |n::ns,o=>Own.eI ns (o.cR n)
def Own.drop (ps:List (Nat×Nat))(o:Own):Own:=Own.eI (Own.take ps o).1 (Own.take ps o).2
theorem yZ:∀(ns:List Nat) (n:Nat) (o:Own),Own.eI (ns++[n]) o=(Own.eI ns o).cR n
 |[],_,_=>rfl
 |m::ns,n,o=>by rw[jW,Own.eI,yZ ns n,Own.eI]
theorem H8 {ns:List Nat}{k:Nat}(hk:k<ns.length)(o:Own):Own.eI (ns.take (k+1)) o=(Own.eI (ns.take k) o).cR (ns.getD k 0):=by
 have e:ns.take (k+1)=ns.take k++[ns.getD k 0]:=by
  rw[List.take_add_one,jB hk,jA,jB hk];rfl
 rw[e,yZ]
theorem pC (o:Own)(n:Nat):(o.cR n).boxes=o.boxes/\(o.cR n).yd.made.length=o.yd.made.length/\(o.cR n).ints=o.ints/\(o.cR n).aO=o.aO:=by
 unfold Own.cR;split
 ·exact⟨rfl,rfl,rfl,rfl⟩
 ·exact⟨rfl,yX _ _,rfl,rfl⟩
theorem pF:∀(ns:List Nat) (o:Own),(Own.eI ns o).boxes=o.boxes/\(Own.eI ns o).yd.made.length=o.yd.made.length/\(Own.eI ns o).ints=o.ints/\(Own.eI ns o).aO=o.aO
 |[],_=>⟨rfl,rfl,rfl,rfl⟩
 |n::ns,o=>by
  obtain⟨h1,h2,h3,h4⟩:=pF ns (o.cR n);obtain⟨g1,g2,g3,g4⟩:=pC o n;rw[Own.eI];exact⟨h1.trans g1,h2.trans g2,h3.trans g3,h4.trans g4⟩
theorem qE:∀(ps:List (Nat×Nat)) (o:Own),(Own.take ps o).2.yd=o.yd/\(Own.take ps o).2.ints=o.ints/\(Own.take ps o).2.aO=o.aO
 |[],_=>⟨rfl,rfl,rfl⟩
 |p::ps,o=>by rw[Own.take];exact qE ps (o.clear p)
theorem ER:∀(ns:List Nat) (o:Own) (t:Nat),o.yd.Sz t->(∀n∈ns,n<=o.yd.made.length)->(Own.eI ns o).yd.Sz (t+ns.length)
 |[],_,_,h,_=>h
 |n::ns,o,t,h,hn=>by
  rw[Own.eI,jY,show t+(ns.length+1)=(t+1)+ns.length by omega];refine ER ns _ _ ?_ (fun m hm=>by rw[(pC o n).2.1];exact hn m (jN _ hm));unfold Own.cR;split
  ·exact h.mono (by omega)
  ·exact h.free (hn n (jM ..))
def Own.Bx (o:Own):Prop:=∀n∈o.boxes,n<=o.yd.made.length
theorem yB {o:Own}(h:o.Bx)(p:Nat×Nat):o.box p<=o.yd.made.length:=by
 unfold Own.box;rw[jA];cases hg:o.boxes[ae p]? with
 |none=>exact jQ _
 |some n=>exact h n (List.mem_of_getElem? hg)
theorem Et {o:Own}(h:o.Bx)(p:Nat×Nat):(o.clear p).Bx:=fun n hn=>by
 rcases List.mem_or_eq_of_mem_set hn with hn|rfl
 ·exact h n hn
 ·exact jQ _
theorem tm:∀(ps:List (Nat×Nat)) {o:Own},o.Bx->(Own.take ps o).2.Bx/\∀n∈(Own.take ps o).1,n<=o.yd.made.length
 |[],_,h=>⟨h,fun n hn=>by cases hn⟩
 |p::ps,o,h=>by
  obtain⟨h1,h2⟩:=tm ps (Et h p);rw[Own.take];refine⟨h1,fun n hn=> ?_⟩;rcases jP.mp hn with rfl|hn
  ·exact yB h p
  ·exact h2 n hn
section
variable {x a:Nat} {w w0 w1:World} {vm vt vi:Value} {o:Own}
set_option maxRecDepth 20000 in
theorem pr {z n c t:Nat}{ad:Option Addr}{ps:List (Nat×Nat)}(h:dq w0 x a w o vi vm vt)(hp:aI z w (.slice ad n c) ps)(hx:∀p∈ps,p.1<12)(hps:ps.length<=1000)(hb:o.Bx)(hs:o.yd.Sz t)(ht:t+ps.length<=9000000)(iD:Pow w0)(iG:11<=w0.heap.size):
  Calls Tryz.prog 60 #[.pointer (some ⟨x,0,none⟩),.slice ad n c] w fun e w'=>e=.returned (.tuple #[])/\∃vm' vt',dq w0 x a w' (o.drop ps) vi vm' vt'/\aA x vm vt w vm' vt' w':=by
 have KT:=Ct h hp hx hps;obtain⟨aG,bH⟩:=tm ps hb;have hl:=take_len ps o;have Yo:=(qE ps o).1;have HD:Hid (o.drop ps=Own.eI (Own.take ps o).1 (Own.take ps o).2):=rfl;rw[HD.out];rw[<-Yo]at hs bH;generalize (Own.take ps o).1=ns at*;generalize (Own.take ps o).2=o1 at*;rw[<-hl]at hps ht KT;clear hl Yo HD;go_enter Tryz.func60,Tryz.ntmps60
 go_wp2_with (go_at_call 96;go_fit KT;rintro e w1 ⟨v1,rfl,hR,eJ,lU⟩;obtain⟨ad5,c5,rfl⟩:=PrjP.bG hR)
 go_loopg [10] (ns.length) (fun g v10 wr=>∃(k:Nat) (vm' vt':Value),k<=ns.length/\g+k=ns.length/\v10=.int .i64 k/\dq w0 x a wr (Own.eI (ns.take k) o1) vi vm' vt'/\aA x vm vt w1 vm' vt' wr)
 case atStart=>exact⟨0,vm,vt,jQ _,rfl,rfl,eJ,aA.refl _ _ _ _⟩
 case round=>
  obtain⟨k,vm',vt',hk,Ca,rfl,hO,hr⟩:=hrel;by_cases bg:k<ns.length
  ·have GY:wr.ownsRow w.heap.size 3 1 (.slice ad5 ns.length c5) ns.length (fC ns):=eO hR fun g hg=>hr.block g (hR.lt g hg).2 (fun e=>aP hR eJ.eG.aM (by decide) (by rw[hg,e])) (fun e=>by
    rcases dF eJ.eG.made hR (by decide)with h0|h0
    ·rw[e]at h0;cases h0
    ·exact h0 (e.trans hg.symm)) (fun e=>by
    rcases dF eJ.eG.trace hR (by decide)with h0|h0
    ·rw[e]at h0;cases h0
    ·exact h0 (e.trans hg.symm))
   obtain⟨gr,cr,e,hcr,oy,aX⟩:=cW GY (by omega);simp only[Value.slice.injEq]at e;obtain⟨rfl,-,rfl⟩:=e;have c1:wr.cell? ⟨gr,k,none⟩=some (.int .i64 ((ns.getD k 0:Nat):Int)):=by
    rw[aX k (by omega),fC,jJ,jB bg,jA,jB bg];rfl
   have mw:ns.getD k 0∈ns:=by rw[jA,jB bg];exact jL bg
   have HS:=H8 bg o1;have XN:=bH _ mw;have lj:=ER (ns.take k) o1 t hs (fun m hm=>bH m (List.mem_of_mem_take hm));rw[List.length_take,Nat.min_eq_left hk]at lj;have To:=(pF (ns.take k) o1).2.1;generalize ns.getD k 0=m at*;generalize Own.eI (ns.take k) o1=ok at*;clear aX;have hkI:(k:Int)<ns.length:=by omega
   have yi:Pow wr:=iD.below hO.aZ iG;by_cases hm:m=0
   ·have hf:ok.cR m=ok:=by rw[Own.cR,jb hm]
    have Y0:((m:Int)==0)=true:=by simp[hm]
    rw[hf]at HS;go_wp2
    go_roundg (ns.length-(k+1))
    case measure=>omega
    case rel=>exact⟨k+1,vm',vt',by omega,by omega,by go_num,by rw[HS];exact hO,hr⟩
   ·have hf:ok.cR m={ok with yd:=ok.yd.free m}:=by rw[Own.cR,ja hm]
    have Y0:((m:Int)==0)=false:=by rw[jZ];omega
    have KF:=sy hO.eG m (by omega) (by rw[To];exact XN) yi (lj.ok (by omega)) iG;rw[hf]at HS;go_wp2_with (go_at_call 97;go_fit KF;rintro e w3 ⟨rfl,vm3,vt3,h3,r3⟩)
    go_roundg (ns.length-(k+1))
    case measure=>omega
    case rel=>exact⟨k+1,vm3,vt3,by omega,by omega,by go_num,by rw[HS];exact hO.qe h3 r3,hr.trans r3⟩
  ·have mY:k=ns.length:=by omega
   subst mY;rw[List.take_length]at hO;go_wp2
   go_end0
   exact⟨rfl,vm',vt',hO,(aA.lx lU).trans hr⟩
end
end Own
namespace Own
open Go Go.RowKit Sq Aux PrjJ PrjK PrjL PrjM PrjS PrjT FlwA FlwB FlwE
def Own.z8 (o:Own)(p:Nat×Nat)(n:Nat):Own:={o with boxes:=o.boxes.set (ae p) n}
def Own.mN:List (Nat×Nat)->List Nat->Own->Own
 |[],_,o=>o
 |p::ps,ns,o=>Own.mN ps (ns.drop 1) (o.z8 p (ns.getD 0 0))
def Own.move (dstn frm:List (Nat×Nat))(o:Own):Own:=Own.mN dstn (Own.take frm o).1 ((Own.take frm o).2.drop dstn)
theorem Cw:∀(ps:List (Nat×Nat)) (p:Nat×Nat) (ns:List Nat) (o:Own),Own.mN (ps++[p]) ns o=(Own.mN ps ns o).z8 p (ns.getD ps.length 0)
 |[],_,_,_=>rfl
 |q::ps,p,ns,o=>by
  rw[jW,Own.mN,Cw ps p,Own.mN,jY];congr 1;simp[List.getD_eq_getElem?_getD]
theorem M4 {ps:List (Nat×Nat)}{k:Nat}(hk:k<ps.length)(ns:List Nat)(o:Own):Own.mN (ps.take (k+1)) ns o=(Own.mN (ps.take k) ns o).z8 (ps.getD k (0,0)) (ns.getD k 0):=by
 have e:ps.take (k+1)=ps.take k++[ps.getD k (0,0)]:=by
  rw[List.take_add_one,jB hk,jA,jB hk];rfl
 rw[e,Cw,List.length_take,Nat.min_eq_left (by omega)]
theorem cL (ps:List (Nat×Nat))(o:Own):(o.drop ps).yd.made.length=o.yd.made.length/\(o.drop ps).ints=o.ints/\(o.drop ps).aO=o.aO/\(o.drop ps).boxes=(Own.take ps o).2.boxes:=by
 unfold Own.drop;obtain⟨h1,h2,h3,h4⟩:=pF (Own.take ps o).1 (Own.take ps o).2;obtain⟨g1,g2,g3⟩:=qE ps o;exact⟨by rw[h2,g1],h3.trans g2,h4.trans g3,h1⟩
section
variable {x a:Nat} {w w0 w1:World} {vm vt vm1 vt1 vi:Value} {o:Own}
theorem dq.cj (h:dq w0 x a w o vi vm vt){b s n:Nat}{e:TypeId}{v:Value}{xs:List Value}(hv:w.ownsRow b e s v n xs)(he:e=3\/e=119)(hr:aA x vm vt w vm1 vt1 w1):w1.ownsRow b e s v n xs:=by
 have h1:e≠104:=by rcases he with rfl|rfl<;>decide
 have h2:175≠e:=by rcases he with rfl|rfl<;>decide
 have h3:9≠e:=by rcases he with rfl|rfl<;>decide
 refine eO hv fun g hg=>hr.block g (hv.lt g hg).2 (fun e=>aP hv h.eG.aM h1 (by rw[hg,e])) (fun e=> ?_) (fun e=> ?_)
 ·rcases dF h.eG.made hv h2 with h0|h0
  ·rw[e]at h0;cases h0
  ·exact h0 (e.trans hg.symm)
 ·rcases dF h.eG.trace hv h3 with h0|h0
  ·rw[e]at h0;cases h0
  ·exact h0 (e.trans hg.symm)
set_option maxRecDepth 20000 in
theorem sQ {z1 z2 n1 n2 c1 c2 t:Nat}{ad1 ad2:Option Addr}{dstn frm:List (Nat×Nat)}(h:dq w0 x a w o vi vm vt)(Di:aI z1 w (.slice ad1 n1 c1) dstn)(Pf:aI z2 w (.slice ad2 n2 c2) frm)(j6:∀p∈dstn,p.1<12)(Ha:∀p∈frm,p.1<12)
  (AI:dstn.length<=100) (hl:dstn.length=frm.length) (hb:o.Bx) (hs:o.yd.Sz t) (ht:t+100<=9000000) (iD:Pow w0) (iG:11<=w0.heap.size):
  Calls Tryz.prog 107 #[.pointer (some ⟨x,0,none⟩),.slice ad1 n1 c1,.slice ad2 n2 c2] w fun e w'=>e=.returned (.tuple #[])/\∃vm' vt',dq w0 x a w' (o.move dstn frm) vi vm' vt'/\aA x vm vt w vm' vt' w':=by
 have Tq:n1=dstn.length:=by
  obtain⟨ad',c',e⟩:=PrjP.bG Di;simp only[Value.slice.injEq]at e;exact e.2.1
 subst Tq;have KT:=Ct h Pf Ha (by omega);obtain⟨aG,bH⟩:=tm frm hb;have bg:=take_len frm o;rw[<-(qE frm o).1]at hs;have HM:Hid (o.move dstn frm=Own.mN dstn (Own.take frm o).1 ((Own.take frm o).2.drop dstn)):=rfl;rw[HM.out];generalize (Own.take frm o).1=ns at*;generalize (Own.take frm o).2=o1 at*;have iP:ns.length=dstn.length:=by omega
 rw[<-hl]at KT;clear bg hl HM bH;have KD:=fun(W:World) (hW:dq w0 x a W o1 vi vm vt) (hT:bD x w W)=>pr hW (h.cj Di (.inr rfl) (aA.lx hT)) j6 (by omega) aG hs (by omega) iD iG
 go_enter Tryz.func107,Tryz.ntmps107
 go_wp2_with (first
  |(go_at_call 96;go_fit KT;rintro e w1 ⟨v1,rfl,hR,eJ,lU⟩;obtain⟨ad5,c5,rfl⟩:=PrjP.bG hR)
  |(go_at_call 60;go_fit (KD _ eJ lU);rintro e w2 ⟨rfl,vm2,vt2,gF,pM⟩))
 have OF:=eJ.cj hR (.inl rfl) pM;have hp12:=eJ.cj (h.cj Di (.inr rfl) (aA.lx lU)) (.inr rfl) pM;have hrw:=(aA.lx lU).trans pM;clear KT KD hR pM lU eJ hs aG;go_loopg [17] (dstn.length) (fun g v17 wr=>∃(k:Nat),k<=dstn.length/\g+k=dstn.length/\v17=.int .i64 k/\dq w0 x a wr (Own.mN (dstn.take k) ns (o1.drop dstn)) vi vm2 vt2/\bD x w2 wr)
 case atStart=>exact⟨0,jQ _,rfl,rfl,gF,bD.refl _ _⟩
 case round=>
  obtain⟨k,hk,Ca,rfl,hO,hT⟩:=hrel;by_cases bg:k<dstn.length
  ·have yi:=gF.cj hp12 (.inr rfl) (aA.lx hT);have GY:=gF.cj OF (.inl rfl) (aA.lx hT);obtain⟨gp,rfl,-,gP,G4,q1,q2⟩:=bK yi k bg;obtain⟨gr,cr,e,hcr,oy,aX⟩:=cW GY (by omega);simp only[Value.slice.injEq]at e;obtain⟨rfl,-,rfl⟩:=e;have r1:wr.cell? ⟨gr,k,none⟩=some (.int .i64 ((ns.getD k 0:Nat):Int)):=by
    rw[aX k (by omega),fC,jJ,jB (by omega),jA,jB (by omega)];rfl
   have VT:=j6 (dstn.getD k (0,0)) (by simp[bg]);have HS:=M4 bg ns (o1.drop dstn);generalize dstn.getD k (0,0)=p at*;generalize ns.getD k 0=m at*;generalize Own.mN (dstn.take k) ns (o1.drop dstn)=ok at*;clear aX iP;have eT:Below wr.heap.size wr (wr.alloc (.cells #[.int .i64 (p.1:Nat),.int .i64 (p.2:Nat)] 119)):=(Below.refl _ _).alloc (jC _) _;have hkI:(k:Int)<dstn.length:=by omega
   have lH:ae p<24:=by unfold ae;split<;>omega
   have NR:(ae p:Int)<24:=by omega
   have r1x:=(eT.cell (p:=⟨gr,k,none⟩) oy).trans r1;have KS:=dc p (wr.alloc (.cells #[.int .i64 (p.1:Nat),.int .i64 (p.2:Nat)] 119)).drew (by omega);go_upto_region 5 with fail
   go_region_with (go_at_call 62;go_fit KS;rintro e w5 ⟨rfl,fM⟩;have Ih:Below wr.heap.size wr w5:=eT.trans ((⟨fM.os,fM.tape,fM.output,fM.size,fM.block⟩:Below _ (wr.alloc (.cells #[.int .i64 (p.1:Nat),.int .i64 (p.2:Nat)] 119)) w5).mono eT.size);have Vn:=hO.below Ih;obtain⟨s1,s2⟩:=Vn.bx lH;have r5:=(Ih.cell (p:=⟨gr,k,none⟩) oy).trans r1)
   all_goals go_wp2_with fail
   all_goals
    go_roundg (dstn.length-(k+1))
    case measure=>omega
    case rel=>exact⟨k+1,by omega,by omega,by go_num,by rw[HS];exact(Vn.Qi (ae p) m).1,(hT.on Ih).setCell _ _⟩
  ·have mY:k=dstn.length:=by omega
   subst mY;rw[List.take_length]at hO;go_wp2
   go_end0
   exact⟨rfl,vm2,vt2,hO,hrw.trans (aA.lx hT)⟩
end
end Own
namespace Own
open Go Go.RowKit Sq Aux PrjJ PrjK PrjL PrjM PrjS PrjT FlwA FlwB FlwE
def Own.other (o:Own)(l:ab):Bool:=if l.op=19 then o.num (l.places.getD 0 (0,0))==0 else if l.op=20 then !(o.box (l.places.getD 0 (0,0))==0)else false
section
variable {x a:Nat} {w w0 w1:World} {vm vt vi:Value} {o:Own}
theorem aC.below {z:Nat}{l:ab}{vp vn:Value}(h:aC z w l vp vn)(hb:Below w.heap.size w w1):aC z w1 l vp vn:=⟨aw h.places hb,aw h.next hb⟩
set_option maxRecDepth 20000 in
theorem pU (h:dq w0 x a w o vi vm vt){z nl nb:Nat}{l:ab}{ap an:Option Addr}{cp cn:Nat}(hl:aC z w l (.slice ap l.places.length cp) (.slice an l.next.length cn))(hk:fY nl nb l)(iP:nl<=12)
  (ho:l.op=18\/l.op=19\/l.op=20) (hn:(if o.other l then 1 else 0)<l.next.length):
  Calls Tryz.prog 63 #[.pointer (some ⟨x,0,none⟩),.agg #[.int .i64 (l.num:Nat),.int .i64 (l.op:Nat),.slice ap l.places.length cp,.int .i64 l.number,.int .i64 l.flag,.slice an l.next.length cn]] w fun e w'=>
   e=.returned (.int .i64 ((l.next.getD (if o.other l then 1 else 0) 0:Nat):Int))/\Below w.heap.size w w':=by
 have aF:Below w.heap.size w (w.alloc (.cells #[.int .i64 (l.num:Nat),.int .i64 (l.op:Nat),.slice ap l.places.length cp,.int .i64 l.number,.int .i64 l.flag,.slice an l.next.length cn] 115)):=(Below.refl _ _).alloc (jC _) _;have HA:=h.below aF;have KW:=fun(W:World) (hW:Below w.heap.size w W)=>K8 (hl.below hW) (o.other l) hn
 unfold lnV at KW;have dj:(w.alloc (.cells #[.int .i64 (l.num:Nat),.int .i64 (l.op:Nat),.slice ap l.places.length cp,.int .i64 l.number,.int .i64 l.flag,.slice an l.next.length cn] 115)).heap[w.heap.size]?=some (.cells #[.int .i64 (l.num:Nat),.int .i64 (l.op:Nat),.slice ap l.places.length cp,.int .i64 l.number,.int .i64 l.flag,.slice an l.next.length cn] 115 (0,0)):=jD;generalize hR:l.next.getD (if o.other l then 1 else 0) 0=r at KW⊢;by_cases kK:l.op=18
 ·have mx:o.other l=false:=by rw[Own.other,ja (by omega),ja (by omega)]
  rw[mx]at KW;have b1:(((l.op:Nat):Int)==19)=false:=by rw[kK];rfl
  have b2:(((l.op:Nat):Int)==20)=false:=by rw[kK];rfl
  clear hn hR mx kK ho;go_enter Tryz.func63,Tryz.ntmps63
  go_wp2_with (go_at_call 100;go_fit (KW _ aF);rintro e w1 ⟨rfl,h1⟩)
  go_ret
  exact⟨rfl,aF.trans (h1.mono aF.size)⟩
 ·have hlen:1<=l.places.length:=by
   rcases ho with e|e|e
   ·exact absurd e kK
   ·rw[hk.bt,e];decide
   ·rw[hk.bt,e];decide
  obtain⟨g,e,-,gP,hg,c1,c2⟩:=bK hl.places 0 (by omega);subst e;have hx:=(hk.places (l.places.getD 0 (0,0)) (by rw[jA,jB (by omega)];exact jL _)).1;have d1:=(aF.cell (p:=⟨g,0,none⟩) hg).trans c1;have d2:=(aF.cell (p:=⟨g,1,none⟩) hg).trans c2;have hlI:(0:Int)<l.places.length:=by omega
  have KN:=fS HA (l.places.getD 0 (0,0)) (by omega);have KB:=yc HA (l.places.getD 0 (0,0)) (by omega);by_cases S3:l.op=19
  ·have mx:o.other l=(o.num (l.places.getD 0 (0,0))==0):=by rw[Own.other,jb S3]
   rw[mx]at KW;have b1:(((l.op:Nat):Int)==19)=true:=by rw[S3];rfl
   have b2:(((l.op:Nat):Int)==20)=false:=by rw[S3];rfl
   clear hn hR mx S3 kK ho c1 c2 KB;generalize l.places.getD 0 (0,0)=p at*;go_enter Tryz.func63,Tryz.ntmps63
   go_wp2_with (first
    |(go_at_call 58;go_fit KN;rintro e w2 ⟨rfl,h2⟩;have bH:=aF.trans (h2.mono aF.size);have eN:=(h2.block _ (lt_of_heap dj)).trans dj;have m0:w2.cell? ⟨w.heap.size,0,none⟩=_:=cell_of_heap eN 0;have m1:w2.cell? ⟨w.heap.size,1,none⟩=_:=cell_of_heap eN 1;have m2:w2.cell? ⟨w.heap.size,2,none⟩=_:=cell_of_heap eN 2;have m3:w2.cell? ⟨w.heap.size,3,none⟩=_:=cell_of_heap eN 3;have m4:w2.cell? ⟨w.heap.size,4,none⟩=_:=cell_of_heap eN 4;have m5:w2.cell? ⟨w.heap.size,5,none⟩=_:=cell_of_heap eN 5;simp at m0 m1 m2 m3 m4 m5)
    |(go_at_call 100;go_fit (KW _ bH);rintro e w1 ⟨rfl,h1⟩))
   go_ret
   exact⟨rfl,bH.trans (h1.mono bH.size)⟩
  ·have OC:l.op=20:=by omega
   have mx:o.other l= !(o.box (l.places.getD 0 (0,0))==0):=by rw[Own.other,ja S3,jb OC]
   rw[mx]at KW;have b1:(((l.op:Nat):Int)==19)=false:=by rw[OC];rfl
   have b2:(((l.op:Nat):Int)==20)=true:=by rw[OC];rfl
   clear hn hR mx S3 kK OC ho c1 c2 KN;generalize l.places.getD 0 (0,0)=p at*;have bb:(((o.box p:Nat):Int) !=0)= !(o.box p==0):=by
    rw[bne];congr 1;rw[jX,beq_iff_eq,beq_iff_eq];omega
   rw[<-bb]at KW;clear bb;go_enter Tryz.func63,Tryz.ntmps63
   go_wp2_with (first
    |(go_at_call 99;go_fit KB;rintro e w2 ⟨rfl,h2⟩;have bH:=aF.trans (h2.mono aF.size);have eN:=(h2.block _ (lt_of_heap dj)).trans dj;have m0:w2.cell? ⟨w.heap.size,0,none⟩=_:=cell_of_heap eN 0;have m1:w2.cell? ⟨w.heap.size,1,none⟩=_:=cell_of_heap eN 1;have m2:w2.cell? ⟨w.heap.size,2,none⟩=_:=cell_of_heap eN 2;have m3:w2.cell? ⟨w.heap.size,3,none⟩=_:=cell_of_heap eN 3;have m4:w2.cell? ⟨w.heap.size,4,none⟩=_:=cell_of_heap eN 4;have m5:w2.cell? ⟨w.heap.size,5,none⟩=_:=cell_of_heap eN 5;simp at m0 m1 m2 m3 m4 m5)
    |(go_at_call 100;go_fit (KW _ bH);rintro e w1 ⟨rfl,h1⟩))
   go_ret
   exact⟨rfl,bH.trans (h1.mono bH.size)⟩
end
end Own
namespace Own
open Go Go.RowKit Sq Aux PrjS FlwA
def ag (l:ab)(j:Nat):Nat×Nat:=l.places.getD j (0,0)
def Own.dt (q:QP):Nat->Own->Own
 |0,o=>o
 |i+1,o=>Own.dt q i (o.drop (QP.ai q (i,0)))
def Own.calc (o:Own)(l:ab):Own:={o with ints:=o.ints.set (ag l 0).1 (ml l.op (o.num (ag l 1)) (o.num (ag l 2)))}
def Own.new (o:Own)(p:Nat×Nat)(v:Int):Own:={o with yd:=o.yd.build v,boxes:=o.boxes.set (ae p) (o.yd.made.length+1)}
def Own.rO (o:Own)(l:ab):Bool:=if l.op=10 then decide (1<=o.box (ag l 1))else if l.op=11 then decide (1<=o.box (ag l 0))else true
def Own.cz (q:QP)(o:Own)(l:ab):Own:=
 if l.op=2 then{o with ints:=o.ints.set (ag l 0).1 l.number}
 else if l.op=3\/l.op=4\/l.op=5 then o.calc l
 else if l.op=7 then{o with aO:=o.aO.tail,ints:=o.ints.set (ag l 0).1 (o.aO.headD 0)}
 else if l.op=8 then{o with yd:=o.yd.note 111 (o.num (ag l 0))}
 else if l.op=10 then{o with yd:=o.yd.load (o.box (ag l 1)),ints:=o.ints.set (ag l 0).1 (o.yd.at (o.box (ag l 1))).1}
 else if l.op=11 then{o with yd:=o.yd.store (o.box (ag l 0)) (o.num (ag l 1))}
 else if l.op=12\/l.op=14 then o.move (QP.ai q (ag l 0)) (QP.ai q (ag l 1))
 else if l.op=13\/l.op=15 then o.drop (QP.ai q (ag l 0))
 else o
def df (q:QP)(room:Int):Nat->List ab->Own->Option (Nat×Int×Own)
 |_,[],_=>none
 |0,_::_,o=>some (2,0,o)
 |f+1,l::ls,o=>
  if l.op=6 then(if o.num (ag l 2)=0 then some (4,0,o)else df q room f ls (o.calc l))
  else if l.op=9 then(if(o.drop [ag l 0]).yd.live≥room then some (3,0,o.drop [ag l 0])else df q room f ls ((o.drop [ag l 0]).new (ag l 0) (o.num (ag l 1))))
  else if l.op=18\/l.op=19\/l.op=20 then(if ls=[]then df q room f (q.blocks.getD (l.next.getD (if o.other l then 1 else 0) 0) []) o else none)
  else if l.op=22 then some (1,o.num (ag l 0),o.dt q q.locals.length)
  else if o.rO l=true then df q room f ls (o.cz q l)else none
def Own.start (aO:List Int):Own:=⟨⟨[],0,[]⟩,aO,List.replicate 12 0,List.replicate 24 0⟩
structure Own.In (o:Own)(t:Nat):Prop where
 many:o.yd.made.length<=t
 trace:o.yd.trace.length<=t
 live: -(t:Int)<=o.yd.live/\o.yd.live<=t
 words:∀b∈o.yd.trace,b.length<=30
 bx:o.Bx
 ints:o.ints.length=12
 boxes:o.boxes.length=24
 jr:∀n∈o.ints,bC n
 aO:∀n∈o.aO,bC n
 made:∀b∈o.yd.made,bC b.1
theorem wrap_i64 (n:Int):bC (wrap64 n):=by unfold bC wrap64;omega
theorem yD (op:Nat)(m n:Int):bC (ml op m n):=by
 unfold ml
 repeat' split
 all_goals exact wrap_i64 _
theorem iC:bC 0:=by unfold bC;omega
section
variable {o:Own} {t u:Nat}
theorem Own.In.sz (h:o.In t)(ht:t<=1000000):o.yd.Sz t:=⟨by have:=h.many;omega,h.trace,h.live,h.words⟩
theorem Own.In.mono (h:o.In t)(ht:t<=u):o.In u:=⟨by have:=h.many;omega,by have:=h.trace;omega,by have:=h.live;omega,h.words,h.bx,h.ints,h.boxes,h.jr,h.aO,h.made⟩
theorem mem_set {α:Type}{l:List α}{j:Nat}{v n:α}(h:n∈l.set j v):n∈l\/n=v:=List.mem_or_eq_of_mem_set h
theorem Own.In.setInt (h:o.In t)(j:Nat){v:Int}(hv:bC v):({o with ints:=o.ints.set j v}:Own).In t:=
 ⟨h.many,h.trace,h.live,h.words,h.bx,by simpa using h.ints,h.boxes,fun n hn=>(mem_set hn).elim (h.jr n) (fun e=>e▸hv),h.aO,h.made⟩
theorem Own.In.num (h:o.In t)(p:Nat×Nat):bC (o.num p):=by
 unfold Own.num;rw[jA];cases hg:o.ints[p.1]? with
 |none=>exact iC
 |some n=>exact h.jr n (List.mem_of_getElem? hg)
theorem Own.In.head (h:o.In t):bC (o.aO.headD 0):=by
 cases hi:o.aO with
 |nil=>exact iC
 |cons n r=>exact h.aO n (by rw[hi];exact jM ..)
theorem Own.In.tail (h:o.In t):({o with aO:=o.aO.tail}:Own).In t:=⟨h.many,h.trace,h.live,h.words,h.bx,h.ints,h.boxes,h.jr,fun n hn=>h.aO n (List.mem_of_mem_tail hn),h.made⟩
theorem Own.In.note (h:o.In t)(c:UInt8){n:Int}(hn:bC n):({o with yd:=o.yd.note c n}:Own).In (t+1):=
 ⟨by have:=h.many;show o.yd.made.length<=t+1;omega,by have:=h.trace;simp[Yd.note];omega,by have:=h.live;show-((t+1:Nat):Int)<=o.yd.live/\o.yd.live<=_;omega,kT hn h.words,h.bx,h.ints,h.boxes,h.jr,h.aO,h.made⟩
theorem Own.In.at (h:o.In t)(n:Nat):bC (o.yd.at n).1:=by
 unfold Yd.at;rw[jA];cases hg:o.yd.made[n-1]? with
 |none=>exact iC
 |some b=>exact h.made b (List.mem_of_getElem? hg)
theorem DA {n:Nat}(h:n<=1000000000):bC ((n:Nat):Int):=by unfold bC;omega
theorem Own.In.load (h:o.In t)(ht:t<=1000000){n:Nat}(hn:n<=o.yd.made.length):({o with yd:=o.yd.load n}:Own).In (t+1):=h.note 60 (DA (by have:=h.many;omega))
theorem Own.In.store (h:o.In t)(ht:t<=1000000){n:Nat}(hn:n<=o.yd.made.length){v:Int}(hv:bC v):({o with yd:=o.yd.store n v}:Own).In (t+1):=by
 have h1:=h.note 62 (n:=((n:Nat):Int)) (DA (by have:=h.many;omega));refine⟨?_,h1.trace,h1.live,h1.words,fun m hm=> ?_,h.ints,h.boxes,h.jr,h.aO,fun b hb=> ?_⟩
 ·have:=h.many;show(o.yd.made.set (n-1) _).length<=t+1;rw[List.length_set];omega
 ·show m<=(o.yd.made.set (n-1) _).length;rw[List.length_set];exact h.bx m hm
 ·rcases mem_set hb with hb|rfl
  ·exact h.made b hb
  ·exact hv
theorem Own.In.clear (h:o.In t)(p:Nat×Nat):(o.clear p).In t:=
 ⟨h.many,h.trace,h.live,h.words,Et h.bx p,h.ints,by simpa [Own.clear]using h.boxes,h.jr,h.aO,h.made⟩
theorem Own.In.Av:∀(ps:List (Nat×Nat)) {o:Own} {t:Nat},o.In t->(Own.take ps o).2.In t
 |[],_,_,h=>h
 |p::ps,o,t,h=>by rw[Own.take];exact Own.In.Av ps (h.clear p)
theorem Own.In.take (h:o.In t)(ps:List (Nat×Nat)):(Own.take ps o).2.In t:=Own.In.Av ps h
theorem Own.In.cR (h:o.In t)(ht:t<=1000000){n:Nat}(hn:n<=o.yd.made.length):(o.cR n).In (t+1):=by
 unfold Own.cR;split
 ·exact h.mono (by omega)
 ·have hs:=(h.sz ht).free hn;refine⟨by rw[yX];have:=h.many;omega,hs.trace,hs.live,hs.words,fun m hm=> ?_,h.ints,h.boxes,h.jr,h.aO,fun b hb=> ?_⟩
  ·show m<=(o.yd.free n).made.length;rw[yX];exact h.bx m hm
  ·rcases mem_set (show b∈o.yd.made.set (n-1) ((o.yd.at n).1,false)from hb)with hb|rfl
   ·exact h.made b hb
   ·exact h.at n
theorem Own.In.eI:∀(ns:List Nat) {o:Own} {t:Nat},o.In t->t+ns.length<=1000000->(∀n∈ns,n<=o.yd.made.length)->(Own.eI ns o).In (t+ns.length)
 |[],_,_,h,_,_=>h
 |n::ns,o,t,h,ht,hn=>by
  rw[jY]at ht;rw[Own.eI,jY,show t+(ns.length+1)=(t+1)+ns.length by omega];exact Own.In.eI ns (h.cR (by omega) (hn n (jM ..))) (by omega) (fun m hm=>by rw[(pC o n).2.1];exact hn m (jN _ hm))
theorem Own.In.drop (h:o.In t)(ps:List (Nat×Nat))(ht:t+ps.length<=1000000):(o.drop ps).In (t+ps.length):=by
 have:=Own.In.eI (Own.take ps o).1 (h.take ps) (by rw[take_len];exact ht) (fun n hn=>by rw[(qE ps o).1];exact(tm ps h.bx).2 n hn)
 rwa [take_len]at this
theorem Own.In.z8 (h:o.In t)(p:Nat×Nat){n:Nat}(hn:n<=o.yd.made.length):(o.z8 p n).In t:=
 ⟨h.many,h.trace,h.live,h.words,fun m hm=>(mem_set hm).elim (h.bx m) (fun e=>e▸hn),h.ints,by simpa [Own.z8]using h.boxes,h.jr,h.aO,h.made⟩
theorem Own.In.mN:∀(ps:List (Nat×Nat)) (ns:List Nat) {o:Own} {t:Nat},o.In t->(∀n∈ns,n<=o.yd.made.length)->(Own.mN ps ns o).In t
 |[],_,_,_,h,_=>h
 |p::ps,ns,o,t,h,hn=>by
  rw[Own.mN];refine Own.In.mN ps (ns.drop 1) (h.z8 p ?_) (fun m hm=>hn m (List.mem_of_mem_drop hm));cases ns with
  |nil=>exact jQ _
  |cons m r=>exact hn m (jM ..)
theorem Own.In.move (h:o.In t)(dstn frm:List (Nat×Nat))(ht:t+dstn.length<=1000000):(o.move dstn frm).In (t+dstn.length):=by
 refine Own.In.mN dstn _ ((h.take frm).drop dstn ht) (fun n hn=> ?_);rw[(cL dstn (Own.take frm o).2).1,(qE frm o).1];exact(tm frm h.bx).2 n hn
theorem Own.In.new (h:o.In t)(ht:t<=1000000)(p:Nat×Nat){v:Int}(hv:bC v):(o.new p v).In (t+1):=by
 have hm:=h.many;have hnr:bC ((o.yd.made.length+1:Nat):Int):=DA (by omega);refine⟨?_,?_,?_,kT hnr h.words,fun m G6=> ?_,h.ints,by simpa [Own.new]using h.boxes,h.jr,h.aO,fun b hb=> ?_⟩
 ·show(o.yd.made++[(v,true)]).length<=t+1;simp;omega
 ·have:=h.trace;show(o.yd.trace++[_]).length<=t+1;simp;omega
 ·have:=h.live;show-((t+1:Nat):Int)<=o.yd.live+1/\o.yd.live+1<=((t+1:Nat):Int);omega
 ·show m<=(o.yd.made++[(v,true)]).length
  rw[jV];rcases mem_set (show m∈o.boxes.set (ae p) (o.yd.made.length+1)from G6)with G6|rfl
  ·have:=h.bx m G6;simp;omega
  ·simp
 ·rcases List.mem_append.mp (show b∈o.yd.made++[(v,true)]from hb)with hb|hb
  ·exact h.made b hb
  ·rw[jI.mp hb];exact hv
theorem kL (q:QP)(p:Nat×Nat):(QP.ai q p).length<=2:=by unfold QP.ai;split<;>simp
theorem Own.In.cz (h:o.In t)(ht:t+3<=1000000)(q:QP)(l:ab)(kO:bC l.number):(o.cz q l).In (t+3):=by
 unfold Own.cz;split
 ·exact(h.setInt _ kO).mono (by omega)
 ·split
  ·exact(h.setInt _ (yD _ _ _)).mono (by omega)
  ·split
   ·exact(h.tail.setInt (ag l 0).1 h.head).mono (by omega)
   ·split
    ·exact(h.note 111 (h.num _)).mono (by omega)
    ·split
     ·exact((h.load (by omega) (yB h.bx (ag l 1))).setInt (ag l 0).1 (h.at _)).mono (by omega)
     ·split
      ·exact(h.store (by omega) (yB h.bx (ag l 0)) (h.num _)).mono (by omega)
      ·split
       ·have:=kL q (ag l 0);exact(h.move _ _ (by omega)).mono (by omega)
       ·split
        ·have:=kL q (ag l 0);exact(h.drop _ (by omega)).mono (by omega)
        ·exact h.mono (by omega)
theorem Own.In.dt (q:QP):∀(i:Nat) {o:Own} {t:Nat},o.In t->t+2*i<=1000000->(Own.dt q i o).In (t+2*i)
 |0,_,_,h,_=>h
 |i+1,o,t,h,ht=>by
  have h2:=kL q (i,0);rw[Own.dt,show t+2*(i+1)=(t+2)+2*i by omega];exact Own.In.dt q i ((h.drop (QP.ai q (i,0)) (by omega)).mono (by omega)) (by omega)
theorem Own.In.start {aO:List Int}(h:∀n∈aO,bC n):(Own.start aO).In 0:=
 ⟨jC _,jC _,⟨Int.le_refl _,Int.le_refl _⟩,fun b hb=>(by cases hb),fun n hn=>(by rw[List.eq_of_mem_replicate hn];exact jQ _),by simp[Own.start],by simp[Own.start],fun n hn=>by rw[List.eq_of_mem_replicate hn];exact iC,h,fun b hb=>(by cases hb)⟩
end
end Own
namespace Own
open Go Go.RowKit Sq Aux PrjJ PrjK PrjL PrjM PrjS FlwA FlwE
def ab.pl (l:ab)(j:Nat):Nat×Nat:=l.places.getD j (0,0)
section
variable {x a:Nat} {w w0:World} {vm vt vi:Value} {o:Own}
set_option maxRecDepth 20000 in
theorem gH (h:dq w0 x a w o vi vm vt){z nl nb:Nat}{l:ab}{ap an:Option Addr}{cp cn:Nat}(hl:aC z w l (.slice ap l.places.length cp) (.slice an l.next.length cn))(hk:fY nl nb l)(iP:nl<=12)
  (ho:l.op=3\/l.op=4\/l.op=5\/l.op=6) (hd:l.op=6->¬o.num (ab.pl l 2)=0) (hr:∀n∈o.ints,bC n):
  Calls Tryz.prog 59 #[.pointer (some ⟨x,0,none⟩),.agg #[.int .i64 (l.num:Nat),.int .i64 (l.op:Nat),.slice ap l.places.length cp,.int .i64 l.number,.int .i64 l.flag,.slice an l.next.length cn]] w fun e w'=>
   e=.returned (.tuple #[])/\dq w0 x a w' {o with ints:=o.ints.set (ab.pl l 0).1 (ml l.op (o.num (ab.pl l 1)) (o.num (ab.pl l 2)))} vi vm vt/\aA x vm vt w vm vt w':=by
 have hlen:l.places.length=3:=by rcases ho with e|e|e|e<;>(rw[hk.bt,e];rfl)
 have aF:Below w.heap.size w (w.alloc (.cells #[.int .i64 (l.num:Nat),.int .i64 (l.op:Nat),.slice ap l.places.length cp,.int .i64 l.number,.int .i64 l.flag,.slice an l.next.length cn] 115)):=(Below.refl _ _).alloc (jC _) _;obtain⟨g,rfl,gP,hg,c1,c2⟩:=ax hl hlen 0 (by omega);obtain⟨g',e',-,-,c3,c4⟩:=ax hl hlen 1 (by omega);simp only[Option.some.injEq,Addr.mk.injEq,and_true]at e';subst e';obtain⟨g',e',-,-,c5,c6⟩:=ax hl hlen 2 (by omega);simp only[Option.some.injEq,Addr.mk.injEq,and_true]at e';subst e';have HPL:Hid (_):=hl.places;have hx:∀j,j<3->(ab.pl l j).1<12:=fun j hj=>by
  have:=(hk.places (l.places.getD j (0,0)) (by rw[jA,jB (by omega)];exact jL _)).1;show(l.places.getD j (0,0)).1<12
  omega
 have x0:=hx 0 (by omega);have x1:=hx 1 (by omega);have x2:=hx 2 (by omega);have RX:∀p:Nat×Nat,p.1<12->bC (o.num p):=fun p hp=>hr _ (by
  unfold Own.num;rw[jA,jB (by rw[h.ints];exact hp)];exact jL _)
 have r1:=RX _ x1;have r2:=RX _ x2;have KC:=fun w'=>pn l.op (o.num (ab.pl l 1)) (o.num (ab.pl l 2)) w' hd ho r1 r2
 unfold ab.pl at*;have HA:=h.below aF;have YC:=fun(W:World) (hb:Below w.heap.size w W)=>fS (h.below hb) (l.places.getD 1 (0,0)) x1
 have YD:=fun(W:World) (hb:Below w.heap.size w W)=>fS (h.below hb) (l.places.getD 2 (0,0)) x2
 have hb:∀W,Below w.heap.size w W->(W.cell? ⟨g,0,none⟩=some (.int .i64 ((l.places.getD 0 (0,0)).1:Nat))/\W.cell? ⟨g,2,none⟩=some (.int .i64 ((l.places.getD 1 (0,0)).1:Nat))/\W.cell? ⟨g,3,none⟩=some (.int .i64 ((l.places.getD 1 (0,0)).2:Nat))/\W.cell? ⟨g,4,none⟩=some (.int .i64 ((l.places.getD 2 (0,0)).1:Nat))/\W.cell? ⟨g,5,none⟩=some (.int .i64 ((l.places.getD 2 (0,0)).2:Nat))):=fun W hW=>
  ⟨(hW.cell (p:=⟨g,0,none⟩) hg).trans c1,(hW.cell (p:=⟨g,2,none⟩) hg).trans c3,(hW.cell (p:=⟨g,3,none⟩) hg).trans c4,(hW.cell (p:=⟨g,4,none⟩) hg).trans c5,(hW.cell (p:=⟨g,5,none⟩) hg).trans c6⟩
 obtain⟨d0,d2,d3,d4,d5⟩:=hb _ aF;have x0i:((l.places.getD 0 (0,0)).1:Int)<12:=by omega
 rw[hlen]at aF d0 d2 d3 d4 d5 HA⊢;clear hx c1 c2 c3 c4 c5 c6 hl hk;generalize l.places.getD 0 (0,0)=p0 at*;generalize l.places.getD 1 (0,0)=p1 at*;generalize l.places.getD 2 (0,0)=p2 at*;clear hlen;go_enter Tryz.func59,Tryz.ntmps59
 go_wp2
 have iO:Below w.heap.size w (w.alloc (.cells #[.int .i64 (l.num:Nat),.int .i64 (l.op:Nat),.slice (some ⟨g,0,none⟩) 3 cp,.int .i64 l.number,.int .i64 l.flag,.slice an l.next.length cn] 115)).drew:=⟨aF.os,aF.tape,aF.output,aF.size,aF.block⟩;have Rr:∀W,Below (w.alloc (.cells #[.int .i64 (l.num:Nat),.int .i64 (l.op:Nat),.slice (some ⟨g,0,none⟩) 3 cp,.int .i64 l.number,.int .i64 l.flag,.slice an l.next.length cn] 115)).heap.size (w.alloc (.cells #[.int .i64 (l.num:Nat),.int .i64 (l.op:Nat),.slice (some ⟨g,0,none⟩) 3 cp,.int .i64 l.number,.int .i64 l.flag,.slice an l.next.length cn] 115)) W->W.cell? ⟨w.heap.size,1,none⟩=some (.int .i64 (l.op:Nat)):=fun W hW=>(hW.cell (p:=⟨w.heap.size,1,none⟩) (by simp)).trans (by rw[cell_of_heap jD];rfl)
 have R6:x≠g:=fun e=>by
  have h1:=h.eG.aM;rw[e]at h1;exact aP HPL.out h1 (by decide) rfl
 have hxw:x≠w.heap.size:=by have:=h.lt;omega
 have hgx:g≠x:=fun e=>R6 e.symm
 have hwx:w.heap.size≠x:=fun e=>hxw e.symm
 have y0:=Rr _ (Below.refl _ _);go_region_held3 (fun W=>W.cell? ⟨g,0,none⟩=some (.int .i64 (p0.1:Nat))/\W.cell? ⟨g,2,none⟩=some (.int .i64 (p1.1:Nat))/\W.cell? ⟨g,3,none⟩=some (.int .i64 (p1.2:Nat))/\W.cell? ⟨g,4,none⟩=some (.int .i64 (p2.1:Nat))/\W.cell? ⟨g,5,none⟩=some (.int .i64 (p2.2:Nat))/\W.cell? ⟨w.heap.size,1,none⟩=some (.int .i64 (l.op:Nat))) (go_keep)
  (first
  |(go_at_call 95;go_fit (KC _);rintro e w3 ⟨rfl,rfl⟩)
  |(go_at_call 58;go_fit (YD _ aG);rintro e w2 ⟨rfl,h2⟩;have bH:Below w.heap.size w w2:=aG.trans (h2.mono aG.size);have y2:=Rr _ (dH.trans (h2.mono dH.size));obtain⟨v0,v2,v3,v4,v5⟩:=hb _ bH;obtain⟨q1,q2⟩:=(h.below bH).int x0)
  |(go_at_call 58;go_fit (YC _ aG);rintro e w2 ⟨rfl,h2⟩;have bH:Below w.heap.size w w2:=aG.trans (h2.mono aG.size);have y2:=Rr _ (dH.trans (h2.mono dH.size));obtain⟨v0,v2,v3,v4,v5⟩:=hb _ bH;obtain⟨q1,q2⟩:=(h.below bH).int x0)
  |(go_at_call 58;go_fit (YC _ iO);rintro e w1 ⟨rfl,h1⟩;have aG:Below w.heap.size w w1:=iO.trans (h1.mono iO.size);have dH:Below (w.alloc (.cells #[.int .i64 (l.num:Nat),.int .i64 (l.op:Nat),.slice (some ⟨g,0,none⟩) 3 cp,.int .i64 l.number,.int .i64 l.flag,.slice an l.next.length cn] 115)).heap.size (w.alloc (.cells #[.int .i64 (l.num:Nat),.int .i64 (l.op:Nat),.slice (some ⟨g,0,none⟩) 3 cp,.int .i64 l.number,.int .i64 l.flag,.slice an l.next.length cn] 115)) w1:=⟨h1.os,h1.tape,h1.output,h1.size,h1.block⟩;have y1:=Rr _ dH;obtain⟨u0,u2,u3,u4,u5⟩:=hb _ aG)
  |(go_at_call 58;go_fit (YD _ iO);rintro e w1 ⟨rfl,h1⟩;have aG:Below w.heap.size w w1:=iO.trans (h1.mono iO.size);have dH:Below (w.alloc (.cells #[.int .i64 (l.num:Nat),.int .i64 (l.op:Nat),.slice (some ⟨g,0,none⟩) 3 cp,.int .i64 l.number,.int .i64 l.flag,.slice an l.next.length cn] 115)).heap.size (w.alloc (.cells #[.int .i64 (l.num:Nat),.int .i64 (l.op:Nat),.slice (some ⟨g,0,none⟩) 3 cp,.int .i64 l.number,.int .i64 l.flag,.slice an l.next.length cn] 115)) w1:=⟨h1.os,h1.tape,h1.output,h1.size,h1.block⟩;have y1:=Rr _ dH;obtain⟨u0,u2,u3,u4,u5⟩:=hb _ aG))
 all_goals go_wp2_with fail
 all_goals
  go_end0
  obtain⟨h5,r5⟩:=(h.below bH).setInt (j:=p0.1) x0 (ml l.op (o.num p1) (o.num p2));exact⟨rfl,h5,(aA.of bH).trans r5⟩
end
end Own
end Go.Proofs.YtmlgajhhnojdjaaGreatDoor

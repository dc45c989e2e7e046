import Derived.Test.YtmlgajhhnojdjaaGreatDoorRAQ
namespace Go.Proofs.YtmlgajhhnojdjaaGreatDoor
namespace Own
open Go Go.RowKit Sq Aux PrjJ PrjK PrjL PrjM PrjS PrjT FlwA FlwB FlwE
theorem Yb:(Tryz.prog.info? 3).map (fun i=>(i.zero,i.size,i.bytes))=some (some (.int .i64 0),1,8):=by kernel_rfl
theorem PV {ps:List (Nat×Nat)}{k:Nat}(hk:k<ps.length)(o:Own):Own.take (ps.take (k+1)) o=((Own.take (ps.take k) o).1++[(Own.take (ps.take k) o).2.box (ps.getD k (0,0))],(Own.take (ps.take k) o).2.clear (ps.getD k (0,0))):=by
 have e:ps.take (k+1)=ps.take k++[ps.getD k (0,0)]:=by
  rw[List.take_add_one,jB hk,jA,jB hk];rfl
 rw[e,DP]
theorem take_len:∀(ps:List (Nat×Nat)) (o:Own),(Own.take ps o).1.length=ps.length
 |[],_=>rfl
 |p::ps,o=>by rw[Own.take];simp[take_len ps]
section
variable {x a:Nat} {w w0 w1:World} {vm vt vi:Value} {o:Own}
theorem aM.qa (h:bu x w w1):aM x vm vt w vm vt w1:=⟨h.os,h.tape,h.output,h.size,fun k hk h1 _ _=>h.block k hk h1,fun _ h=> .inl h,fun _ h=> .inl h⟩
theorem dn.grown (h:dn w0 x a w o vi vm vt){b n:Nat}{v:Value}{xs:List Value}(hb:w0.heap.size<=b)(hr:w.ownsRow b 3 1 v n xs)(hg:w.grownBy w1 v.ownBlock):dn w0 x a w1 o vi vm vt:=by
 refine⟨⟨h.ka.base,h.ka.ty,?_,h.ka.made.kept hg (cZ h.ka.made hr (by decide)),h.ka.trace.kept hg (cZ h.ka.trace hr (by decide))⟩,h.bq.trans ⟨hg.os,hg.tape,hg.output,hg.size,fun k hk=>hg.block k (jK hk h.bq.size) (fun e=> ?_)⟩,h.ints,h.boxes,h.feed⟩
 ·rw[hg.block x h.lt (bh hr h.ka.aI (by decide))];exact h.ka.aI
 ·have:=(hr.lt k e.symm).1;omega
theorem Md (h:bu x w w1){w2:World}{b n:Nat}{e:TypeId}{v:Value}{xs:List Value}(hb:w.heap.size<=b)(hr:w1.ownsRow b e 1 v n xs)(hg:w1.grownBy w2 v.ownBlock):bu x w w2:=
 ⟨hg.os.trans h.os,hg.tape.trans h.tape,hg.output.trans h.output,jS h.size hg.size,fun k hk h1=>(hg.block k (jK hk h.size) (fun e=>by have:=(hr.lt k e.symm).1;omega)).trans (h.block k hk h1)⟩
theorem dn.clear (h:dn w0 x a w o vi vm vt)(p:Nat×Nat):dn w0 x a (w.setCell ⟨x,17+ag p,none⟩ (.int .i64 0)) (o.clear p) vi vm vt:=(h.Tg (ag p) 0).1
set_option maxRecDepth 20000 in
set_option maxHeartbeats 2000000 in
theorem Dy {z n c:Nat}{ad:Option Addr}{ps:List (Nat×Nat)}(h:dn w0 x a w o vi vm vt)(hp:bO z w (.slice ad n c) ps)(hx:∀p∈ps,p.1<12)(Qa:ps.length<=1000):
  Calls Tryz.prog 96 #[.pointer (some ⟨x,0,none⟩),.slice ad n c] w fun e w'=>∃v,e=.returned v/\w'.ownsRow w.heap.size 3 1 v ps.length (fO (Own.take ps o).1)/\dn w0 x a w' (Own.take ps o).2 vi vm vt/\bu x w w':=by
 have hn:n=ps.length:=by
  obtain⟨ad',c',e⟩:=PrjP.bZ hp;simp only[Value.slice.injEq]at e;exact e.2.1
 have hlen:ps.length<=maxLen:=by
  rcases hp.2 with⟨-,h⟩|⟨g,cap,cur,-,-,-,h1,h2,-⟩
  ·omega
  ·omega
 unfold maxLen at hlen;subst hn;obtain⟨i,hi,A0,Ey,xW⟩:=info_parts Yb;go_enter Tryz.func96,Tryz.ntmps96
 go_wp2
 go_loopg [5,10] (ps.length) (fun g v5 v10 wr=>∃(k:Nat),k<=ps.length/\g+k=ps.length/\v10=.int .i64 k/\dn w0 x a wr (Own.take (ps.take k) o).2 vi vm vt/\wr.ownsRow w.heap.size 3 1 v5 k (fO (Own.take (ps.take k) o).1)/\bu x w wr)
 case atStart=>exact⟨0,jQ _,rfl,rfl,h,World.ownsRow_nil _ _ _ _,bu.refl _ _⟩
 case round=>
  obtain⟨k,hk,GH,rfl,hO,hR,hT⟩:=hrel;by_cases aK:k<ps.length
  ·have GP:bO z wr (.slice ad ps.length c) ps:=gh hp fun g hg=>hT.block g (hp.lt g hg).2 fun e=>by
    subst e;exact ar hp h.ka.aI (by decide) hg
   obtain⟨gp,rfl,-,ql,XC,c1,c2⟩:=da GP k aK;have zn:=hx (ps.getD k (0,0)) (by simp[aK]);have HS:=PV aK o;generalize ps.getD k (0,0)=p at*;generalize (Own.take (ps.take k) o).2=ok at*;generalize (Own.take (ps.take k) o).1=tk at*;have ke:Below wr.heap.size wr (wr.alloc (.cells #[.int .i64 (p.1:Nat),.int .i64 (p.2:Nat)] 119)):=(Below.refl _ _).alloc (jC _) _;have hOx:=hO.below ke;have KB:=iX hOx p zn;have hkI:(k:Int)<ps.length:=by omega
   obtain⟨ad5,c5,rfl⟩:=PrjP.bZ hR;have hszr:w.heap.size<=wr.heap.size:=hT.size;go_upto_region 6 with(first
    |(go_at_call 99;go_fit KB;rintro e w2 ⟨rfl,bT⟩;have ml:Below wr.heap.size wr w2:=ke.trans (bT.mono ke.size);have aX:Below w2.heap.size w2 (w2.alloc (.cells #[.int .i64 ((ok.box p:Nat):Int)] 3)):=(Below.refl _ _).alloc (jC _) _;have Zs:=ax (ax hR ml) aX;have qt:w.heap.size<=(w2.alloc (.cells #[.int .i64 ((ok.box p:Nat):Int)] 3)).heap.size:=(by have:=ml.size;have:=aX.size;omega))
    |(at_builtin;go_must (refine kg rfl _ _ 113 rfl w.heap.size 3 i (.int .i64 0) 1 8 Tryz.underlying113 hi A0 Ey xW rfl (by decide) _ _ _ rfl Zs w2.heap.size [.int .i64 ((ok.box p:Nat):Int)] rfl jD rfl (by intro u' hu;simp at hu;subst hu;rfl) (by decide) (by omega) qt ?_);intro g4 c4 w4 hown4 hgrow4 hat4 hlt4))
   have hO4:dn w0 x a w4 ok vi vm vt:=((hO.below ml).below aX).grown h.bq.size Zs hgrow4;have Zz:bu x w w4:=Md ((hT.on ml).on aX) (jC _) Zs hgrow4;have Wq:w2.heap[wr.heap.size]?=some (.cells #[.int .i64 (p.1:Nat),.int .i64 (p.2:Nat)] 119 (0,0)):=(bT.block _ (by simp)).trans jD;have U4:=(aX.block _ (lt_of_heap Wq)).trans Wq;have XR:=(hgrow4.block _ (lt_of_heap U4) (bh Zs U4 (by decide))).trans U4;have q0:w4.cell? ⟨wr.heap.size,0,none⟩=some (.int .i64 (p.1:Nat)):=by rw[cell_of_heap XR];rfl
   have q1:w4.cell? ⟨wr.heap.size,1,none⟩=some (.int .i64 (p.2:Nat)):=by rw[cell_of_heap XR];rfl
   have yU:ag p<24:=by unfold ag;split<;>omega
   have RO:(ag p:Int)<24:=by omega
   have KS:=kT p w4.drew (by omega);have hrow4:w4.ownsRow w.heap.size 3 1 (.slice (some ⟨g4,0,none⟩) (k+1) c4) (k+1) (fO (tk++[ok.box p])):=by simpa [fO]using hown4
   clear hgrow4 hown4 Zs aX ml bT Wq U4 XR ke hOx KB hR c1 c2;go_region_with (go_at_call 62;go_fit KS;rintro e w5 ⟨rfl,Dc⟩;have Xd:Below w4.heap.size w4 w5:=⟨Dc.os,Dc.tape,Dc.output,Dc.size,Dc.block⟩;have YF:=hO4.below Xd;obtain⟨s1,s2⟩:=YF.bx yU)
   all_goals go_wp2_with fail
   all_goals
    go_roundg (ps.length-(k+1))
    case measure=>omega
    case rel=>
     have hO6:=YF.clear p;have hr5:=ax hrow4 Xd;have hr6:=au hr5 (a:=⟨x,17+ag p,none⟩) (.int .i64 0) (ar hr5 YF.ka.aI (by decide));exact⟨k+1,by omega,by omega,by go_num,by rw[HS];exact hO6,by rw[HS];exact hr6,(Zz.on Xd).setCell _ _⟩
  ·have Df:k=ps.length:=by omega
   subst Df;rw[List.take_length]at hO hR;obtain⟨ad5,c5,rfl⟩:=PrjP.bZ hR;go_wp2
   go_ret
   exact⟨_,rfl,hR,hO,hT⟩
end
end Own
namespace Own
open Go Go.RowKit Sq Aux PrjJ PrjK PrjL PrjM PrjS PrjT FlwA FlwB FlwE
structure Yd.Sz (y:Yd)(t:Nat):Prop where
 made:y.made.length<=1000000
 trace:y.trace.length<=t
 live: -(t:Int)<=y.live/\y.live<=t
 words:∀b∈y.trace,b.length<=30
theorem Yd.Sz.ok {y:Yd}{t:Nat}(h:y.Sz t)(ht:t<=9000000):y.Ok:=⟨h.made,by have:=h.trace;omega,by have:=h.live;omega,h.words⟩
theorem Yd.Sz.mono {y:Yd}{t u:Nat}(h:y.Sz t)(ht:t<=u):y.Sz u:=⟨h.made,by have:=h.trace;omega,by have:=h.live;omega,h.words⟩
theorem tw {y:Yd}{c:UInt8}{n:Int}(hn: -9223372036854775808<=n/\n<=9223372036854775807)(h:∀b∈y.trace,b.length<=30):∀b∈(y.note c n).trace,b.length<=30:=by
 intro b hb;rcases List.mem_append.mp hb with hb|hb
 ·exact h b hb
 ·rw[jI.mp hb,jY];have:=Lib.itoa_length_le n hn.1 hn.2;omega
theorem Yd.Sz.free {y:Yd}{t:Nat}(h:y.Sz t){n:Nat}(hn:n<=y.made.length):(y.free n).Sz (t+1):=by
 have hm:=h.made;refine⟨by simpa [Yd.free,Yd.note]using hm,by have:=h.trace;simp[Yd.free,Yd.note];omega,by have:=h.live;show-((t+1:Nat):Int)<=y.live-1/\y.live-1<=((t+1:Nat):Int);omega,?_⟩;exact tw (y:={y with made:=y.made.set (n-1) ((y.at n).1,false),live:=y.live-1}) (by omega) h.words
theorem AL (y:Yd)(n:Nat):(y.free n).made.length=y.made.length:=by simp[Yd.free,Yd.note]
def Own.eN (o:Own)(n:Nat):Own:=if n=0 then o else{o with yd:=o.yd.free n}
def Own.fA:List Nat->Own->Own
 |[],o=>o
 |n::ns,o=>Own.fA ns (o.eN n)
def Own.drop (ps:List (Nat×Nat))(o:Own):Own:=Own.fA (Own.take ps o).1 (Own.take ps o).2
theorem AM:∀(ns:List Nat) (n:Nat) (o:Own),Own.fA (ns++[n]) o=(Own.fA ns o).eN n
 |[],_,_=>rfl
 |m::ns,n,o=>by rw[jW,Own.fA,AM ns n,Own.fA]
theorem J5 {ns:List Nat}{k:Nat}(hk:k<ns.length)(o:Own):Own.fA (ns.take (k+1)) o=(Own.fA (ns.take k) o).eN (ns.getD k 0):=by
 have e:ns.take (k+1)=ns.take k++[ns.getD k 0]:=by
  rw[List.take_add_one,jB hk,jA,jB hk];rfl
 rw[e,AM]
theorem qL (o:Own)(n:Nat):(o.eN n).boxes=o.boxes/\(o.eN n).yd.made.length=o.yd.made.length/\(o.eN n).ints=o.ints/\(o.eN n).ak=o.ak:=by
 unfold Own.eN;split
 ·exact⟨rfl,rfl,rfl,rfl⟩
 ·exact⟨rfl,AL _ _,rfl,rfl⟩
theorem qM:∀(ns:List Nat) (o:Own),(Own.fA ns o).boxes=o.boxes/\(Own.fA ns o).yd.made.length=o.yd.made.length/\(Own.fA ns o).ints=o.ints/\(Own.fA ns o).ak=o.ak
 |[],_=>⟨rfl,rfl,rfl,rfl⟩
 |n::ns,o=>by
  obtain⟨h1,h2,h3,h4⟩:=qM ns (o.eN n);obtain⟨g1,g2,g3,g4⟩:=qL o n;rw[Own.fA];exact⟨h1.trans g1,h2.trans g2,h3.trans g3,h4.trans g4⟩
theorem sn:∀(ps:List (Nat×Nat)) (o:Own),(Own.take ps o).2.yd=o.yd/\(Own.take ps o).2.ints=o.ints/\(Own.take ps o).2.ak=o.ak
 |[],_=>⟨rfl,rfl,rfl⟩
 |p::ps,o=>by rw[Own.take];exact sn ps (o.clear p)
theorem Gs:∀(ns:List Nat) (o:Own) (t:Nat),o.yd.Sz t->(∀n∈ns,n<=o.yd.made.length)->(Own.fA ns o).yd.Sz (t+ns.length)
 |[],_,_,h,_=>h
 |n::ns,o,t,h,hn=>by
  rw[Own.fA,jY,show t+(ns.length+1)=(t+1)+ns.length by omega];refine Gs ns _ _ ?_ (fun m hm=>by rw[(qL o n).2.1];exact hn m (jN _ hm));unfold Own.eN;split
  ·exact h.mono (by omega)
  ·exact h.free (hn n (jM ..))
def Own.Bx (o:Own):Prop:=∀n∈o.boxes,n<=o.yd.made.length
theorem Ap {o:Own}(h:o.Bx)(p:Nat×Nat):o.box p<=o.yd.made.length:=by
 unfold Own.box;rw[jA];cases hg:o.boxes[ag p]? with
 |none=>exact jQ _
 |some n=>exact h n (List.mem_of_getElem? hg)
theorem FY {o:Own}(h:o.Bx)(p:Nat×Nat):(o.clear p).Bx:=fun n hn=>by
 rcases List.mem_or_eq_of_mem_set hn with hn|rfl
 ·exact h n hn
 ·exact jQ _
theorem xn:∀(ps:List (Nat×Nat)) {o:Own},o.Bx->(Own.take ps o).2.Bx/\∀n∈(Own.take ps o).1,n<=o.yd.made.length
 |[],_,h=>⟨h,fun n hn=>by cases hn⟩
 |p::ps,o,h=>by
  obtain⟨h1,h2⟩:=xn ps (FY h p);rw[Own.take];refine⟨h1,fun n hn=> ?_⟩;rcases jP.mp hn with rfl|hn
  ·exact Ap h p
  ·exact h2 n hn
section
variable {x a:Nat} {w w0 w1:World} {vm vt vi:Value} {o:Own}
set_option maxRecDepth 20000 in
set_option maxHeartbeats 2000000 in
theorem fX {z n c t:Nat}{ad:Option Addr}{ps:List (Nat×Nat)}(h:dn w0 x a w o vi vm vt)(hp:bO z w (.slice ad n c) ps)(hx:∀p∈ps,p.1<12)(Qa:ps.length<=1000)(hb:o.Bx)(hs:o.yd.Sz t)(ht:t+ps.length<=9000000)(qv:Pow w0)(oL:11<=w0.heap.size):
  Calls Tryz.prog 60 #[.pointer (some ⟨x,0,none⟩),.slice ad n c] w fun e w'=>e=.returned (.tuple #[])/\∃vm' vt',dn w0 x a w' (o.drop ps) vi vm' vt'/\aM x vm vt w vm' vt' w':=by
 have KT:=Dy h hp hx Qa;obtain⟨av,bT⟩:=xn ps hb;have hl:=take_len ps o;have hyd:=(sn ps o).1;have HD:Hid (o.drop ps=Own.fA (Own.take ps o).1 (Own.take ps o).2):=rfl;rw[HD.out];rw[<-hyd]at hs bT;generalize (Own.take ps o).1=ns at*;generalize (Own.take ps o).2=o1 at*;rw[<-hl]at Qa ht KT;clear hl hyd HD;go_enter Tryz.func60,Tryz.ntmps60
 go_wp2_with (go_at_call 96;go_fit KT;rintro e w1 ⟨v1,rfl,hR,mn,qp⟩;obtain⟨ad5,c5,rfl⟩:=PrjP.bZ hR)
 go_loopg [10] (ns.length) (fun g v10 wr=>∃(k:Nat) (vm' vt':Value),k<=ns.length/\g+k=ns.length/\v10=.int .i64 k/\dn w0 x a wr (Own.fA (ns.take k) o1) vi vm' vt'/\aM x vm vt w1 vm' vt' wr)
 case atStart=>exact⟨0,vm,vt,jQ _,rfl,rfl,mn,aM.refl _ _ _ _⟩
 case round=>
  obtain⟨k,vm',vt',hk,GH,rfl,hO,hr⟩:=hrel;by_cases aK:k<ns.length
  ·have Xi:wr.ownsRow w.heap.size 3 1 (.slice ad5 ns.length c5) ns.length (fO ns):=gh hR fun g hg=>hr.block g (hR.lt g hg).2 (fun e=>ar hR mn.ka.aI (by decide) (by rw[hg,e])) (fun e=>by
    rcases cZ mn.ka.made hR (by decide)with h0|h0
    ·rw[e]at h0;cases h0
    ·exact h0 (e.trans hg.symm)) (fun e=>by
    rcases cZ mn.ka.trace hR (by decide)with h0|h0
    ·rw[e]at h0;cases h0
    ·exact h0 (e.trans hg.symm))
   obtain⟨gr,cr,e,hcr,T0,aC⟩:=dJ Xi (by omega);simp only[Value.slice.injEq]at e;obtain⟨rfl,-,rfl⟩:=e;have c1:wr.cell? ⟨gr,k,none⟩=some (.int .i64 ((ns.getD k 0:Nat):Int)):=by
    rw[aC k (by omega),fO,jJ,jB aK,jA,jB aK];rfl
   have xT:ns.getD k 0∈ns:=by rw[jA,jB aK];exact jL aK
   have HS:=J5 aK o1;have XL:=bT _ xT;have lx:=Gs (ns.take k) o1 t hs (fun m hm=>bT m (List.mem_of_mem_take hm));rw[List.length_take,Nat.min_eq_left hk]at lx;have hml:=(qM (ns.take k) o1).2.1;generalize ns.getD k 0=m at*;generalize Own.fA (ns.take k) o1=ok at*;clear aC;have hkI:(k:Int)<ns.length:=by omega
   have GP:Pow wr:=qv.below hO.bq oL;by_cases hm:m=0
   ·have hf:ok.eN m=ok:=by rw[Own.eN,jb hm]
    have hmi:((m:Int)==0)=true:=by simp[hm]
    rw[hf]at HS;go_wp2
    go_roundg (ns.length-(k+1))
    case measure=>omega
    case rel=>exact⟨k+1,vm',vt',by omega,by omega,by go_num,by rw[HS];exact hO,hr⟩
   ·have hf:ok.eN m={ok with yd:=ok.yd.free m}:=by rw[Own.eN,ja hm]
    have hmi:((m:Int)==0)=false:=by rw[jZ];omega
    have KF:=AK hO.ka m (by omega) (by rw[hml];exact XL) GP (lx.ok (by omega)) oL;rw[hf]at HS;go_wp2_with (go_at_call 97;go_fit KF;rintro e w3 ⟨rfl,vm3,vt3,h3,r3⟩)
    go_roundg (ns.length-(k+1))
    case measure=>omega
    case rel=>exact⟨k+1,vm3,vt3,by omega,by omega,by go_num,by rw[HS];exact hO.zu h3 r3,hr.trans r3⟩
  ·have Df:k=ns.length:=by omega
   subst Df;rw[List.take_length]at hO;go_wp2
   go_end0
   exact⟨rfl,vm',vt',hO,(aM.qa qp).trans hr⟩
end
end Own
namespace Own
open Go Go.RowKit Sq Aux PrjJ PrjK PrjL PrjM PrjS PrjT FlwA FlwB FlwE
def Own.sy (o:Own)(p:Nat×Nat)(n:Nat):Own:={o with boxes:=o.boxes.set (ag p) n}
def Own.o6:List (Nat×Nat)->List Nat->Own->Own
 |[],_,o=>o
 |p::ps,ns,o=>Own.o6 ps (ns.drop 1) (o.sy p (ns.getD 0 0))
def Own.move (to frm:List (Nat×Nat))(o:Own):Own:=Own.o6 to (Own.take frm o).1 ((Own.take frm o).2.drop to)
theorem DF:∀(ps:List (Nat×Nat)) (p:Nat×Nat) (ns:List Nat) (o:Own),Own.o6 (ps++[p]) ns o=(Own.o6 ps ns o).sy p (ns.getD ps.length 0)
 |[],_,_,_=>rfl
 |q::ps,p,ns,o=>by
  rw[jW,Own.o6,DF ps p,Own.o6,jY];congr 1;simp[List.getD_eq_getElem?_getD]
theorem Pq {ps:List (Nat×Nat)}{k:Nat}(hk:k<ps.length)(ns:List Nat)(o:Own):Own.o6 (ps.take (k+1)) ns o=(Own.o6 (ps.take k) ns o).sy (ps.getD k (0,0)) (ns.getD k 0):=by
 have e:ps.take (k+1)=ps.take k++[ps.getD k (0,0)]:=by
  rw[List.take_add_one,jB hk,jA,jB hk];rfl
 rw[e,DF,List.length_take,Nat.min_eq_left (by omega)]
theorem ij (ps:List (Nat×Nat))(o:Own):(o.drop ps).yd.made.length=o.yd.made.length/\(o.drop ps).ints=o.ints/\(o.drop ps).ak=o.ak/\(o.drop ps).boxes=(Own.take ps o).2.boxes:=by
 unfold Own.drop;obtain⟨h1,h2,h3,h4⟩:=qM (Own.take ps o).1 (Own.take ps o).2;obtain⟨g1,g2,g3⟩:=sn ps o;exact⟨by rw[h2,g1],h3.trans g2,h4.trans g3,h1⟩
section
variable {x a:Nat} {w w0 w1:World} {vm vt vm1 vt1 vi:Value} {o:Own}
theorem dn.de (h:dn w0 x a w o vi vm vt){b s n:Nat}{e:TypeId}{v:Value}{xs:List Value}(hv:w.ownsRow b e s v n xs)(he:e=3\/e=119)(hr:aM x vm vt w vm1 vt1 w1):w1.ownsRow b e s v n xs:=by
 have h1:e≠104:=by rcases he with rfl|rfl<;>decide
 have h2:175≠e:=by rcases he with rfl|rfl<;>decide
 have h3:9≠e:=by rcases he with rfl|rfl<;>decide
 refine gh hv fun g hg=>hr.block g (hv.lt g hg).2 (fun e=>ar hv h.ka.aI h1 (by rw[hg,e])) (fun e=> ?_) (fun e=> ?_)
 ·rcases cZ h.ka.made hv h2 with h0|h0
  ·rw[e]at h0;cases h0
  ·exact h0 (e.trans hg.symm)
 ·rcases cZ h.ka.trace hv h3 with h0|h0
  ·rw[e]at h0;cases h0
  ·exact h0 (e.trans hg.symm)
set_option maxRecDepth 20000 in
set_option maxHeartbeats 2000000 in
theorem Ib {z1 z2 n1 n2 c1 c2 t:Nat}{ad1 ad2:Option Addr}{to frm:List (Nat×Nat)}(h:dn w0 x a w o vi vm vt)(B8:bO z1 w (.slice ad1 n1 c1) to)(Wp:bO z2 w (.slice ad2 n2 c2) frm)(zn:∀p∈to,p.1<12)(Wv:∀p∈frm,p.1<12)
  (tm:to.length<=100) (hl:to.length=frm.length) (hb:o.Bx) (hs:o.yd.Sz t) (ht:t+100<=9000000) (qv:Pow w0) (oL:11<=w0.heap.size):
  Calls Tryz.prog 107 #[.pointer (some ⟨x,0,none⟩),.slice ad1 n1 c1,.slice ad2 n2 c2] w fun e w'=>e=.returned (.tuple #[])/\∃vm' vt',dn w0 x a w' (o.move to frm) vi vm' vt'/\aM x vm vt w vm' vt' w':=by
 have Wl:n1=to.length:=by
  obtain⟨ad',c',e⟩:=PrjP.bZ B8;simp only[Value.slice.injEq]at e;exact e.2.1
 subst Wl;have KT:=Dy h Wp Wv (by omega);obtain⟨av,bT⟩:=xn frm hb;have aK:=take_len frm o;rw[<-(sn frm o).1]at hs;have HM:Hid (o.move to frm=Own.o6 to (Own.take frm o).1 ((Own.take frm o).2.drop to)):=rfl;rw[HM.out];generalize (Own.take frm o).1=ns at*;generalize (Own.take frm o).2=o1 at*;have lg:ns.length=to.length:=by omega
 rw[<-hl]at KT;clear aK hl HM bT;have KD:=fun(W:World) (hW:dn w0 x a W o1 vi vm vt) (hT:bu x w W)=>fX hW (h.de B8 (.inr rfl) (aM.qa hT)) zn (by omega) av hs (by omega) qv oL
 go_enter Tryz.func107,Tryz.ntmps107
 go_wp2_with (first
  |(go_at_call 96;go_fit KT;rintro e w1 ⟨v1,rfl,hR,mn,qp⟩;obtain⟨ad5,c5,rfl⟩:=PrjP.bZ hR)
  |(go_at_call 60;go_fit (KD _ mn qp);rintro e w2 ⟨rfl,vm2,vt2,iM,Kp⟩))
 have hR2:=mn.de hR (.inl rfl) Kp;have hp12:=mn.de (h.de B8 (.inr rfl) (aM.qa qp)) (.inr rfl) Kp;have hrw:=(aM.qa qp).trans Kp;clear KT KD hR Kp qp mn hs av;go_loopg [17] (to.length) (fun g v17 wr=>∃(k:Nat),k<=to.length/\g+k=to.length/\v17=.int .i64 k/\dn w0 x a wr (Own.o6 (to.take k) ns (o1.drop to)) vi vm2 vt2/\bu x w2 wr)
 case atStart=>exact⟨0,jQ _,rfl,rfl,iM,bu.refl _ _⟩
 case round=>
  obtain⟨k,hk,GH,rfl,hO,hT⟩:=hrel;by_cases aK:k<to.length
  ·have GP:=iM.de hp12 (.inr rfl) (aM.qa hT);have Xi:=iM.de hR2 (.inl rfl) (aM.qa hT);obtain⟨gp,rfl,-,ql,XC,q1,q2⟩:=da GP k aK;obtain⟨gr,cr,e,hcr,T0,aC⟩:=dJ Xi (by omega);simp only[Value.slice.injEq]at e;obtain⟨rfl,-,rfl⟩:=e;have r1:wr.cell? ⟨gr,k,none⟩=some (.int .i64 ((ns.getD k 0:Nat):Int)):=by
    rw[aC k (by omega),fO,jJ,jB (by omega),jA,jB (by omega)];rfl
   have Y0:=zn (to.getD k (0,0)) (by simp[aK]);have HS:=Pq aK ns (o1.drop to);generalize to.getD k (0,0)=p at*;generalize ns.getD k 0=m at*;generalize Own.o6 (to.take k) ns (o1.drop to)=ok at*;clear aC lg;have ke:Below wr.heap.size wr (wr.alloc (.cells #[.int .i64 (p.1:Nat),.int .i64 (p.2:Nat)] 119)):=(Below.refl _ _).alloc (jC _) _;have hkI:(k:Int)<to.length:=by omega
   have yU:ag p<24:=by unfold ag;split<;>omega
   have RO:(ag p:Int)<24:=by omega
   have r1x:=(ke.cell (p:=⟨gr,k,none⟩) T0).trans r1;have KS:=kT p (wr.alloc (.cells #[.int .i64 (p.1:Nat),.int .i64 (p.2:Nat)] 119)).drew (by omega);go_upto_region 5 with fail
   go_region_with (go_at_call 62;go_fit KS;rintro e w5 ⟨rfl,Dc⟩;have Xd:Below wr.heap.size wr w5:=ke.trans ((⟨Dc.os,Dc.tape,Dc.output,Dc.size,Dc.block⟩:Below _ (wr.alloc (.cells #[.int .i64 (p.1:Nat),.int .i64 (p.2:Nat)] 119)) w5).mono ke.size);have YF:=hO.below Xd;obtain⟨s1,s2⟩:=YF.bx yU;have r5:=(Xd.cell (p:=⟨gr,k,none⟩) T0).trans r1)
   all_goals go_wp2_with fail
   all_goals
    go_roundg (to.length-(k+1))
    case measure=>omega
    case rel=>exact⟨k+1,by omega,by omega,by go_num,by rw[HS];exact(YF.Tg (ag p) m).1,(hT.on Xd).setCell _ _⟩
  ·have Df:k=to.length:=by omega
   subst Df;rw[List.take_length]at hO;go_wp2
   go_end0
   exact⟨rfl,vm2,vt2,hO,hrw.trans (aM.qa hT)⟩
end
end Own
namespace Own
open Go Go.RowKit Sq Aux PrjJ PrjK PrjL PrjM PrjS PrjT FlwA FlwB FlwE
def Own.other (o:Own)(l:aa):Bool:=if l.op=19 then o.num (l.places.getD 0 (0,0))==0 else if l.op=20 then !(o.box (l.places.getD 0 (0,0))==0)else false
section
variable {x a:Nat} {w w0 w1:World} {vm vt vi:Value} {o:Own}
theorem bp.below {z:Nat}{l:aa}{vp vn:Value}(h:bp z w l vp vn)(hb:Below w.heap.size w w1):bp z w1 l vp vn:=⟨ax h.places hb,ax h.next hb⟩
set_option maxRecDepth 20000 in
set_option maxHeartbeats 1000000 in
theorem rh (h:dn w0 x a w o vi vm vt){z nl nb:Nat}{l:aa}{ap an:Option Addr}{cp cn:Nat}(hl:bp z w l (.slice ap l.places.length cp) (.slice an l.next.length cn))(hk:tR nl nb l)(lg:nl<=12)
  (ho:l.op=18\/l.op=19\/l.op=20) (hn:(if o.other l then 1 else 0)<l.next.length):
  Calls Tryz.prog 63 #[.pointer (some ⟨x,0,none⟩),.agg #[.int .i64 (l.num:Nat),.int .i64 (l.op:Nat),.slice ap l.places.length cp,.int .i64 l.number,.int .i64 l.flag,.slice an l.next.length cn]] w fun e w'=>
   e=.returned (.int .i64 ((l.next.getD (if o.other l then 1 else 0) 0:Nat):Int))/\Below w.heap.size w w':=by
 have aX:Below w.heap.size w (w.alloc (.cells #[.int .i64 (l.num:Nat),.int .i64 (l.op:Nat),.slice ap l.places.length cp,.int .i64 l.number,.int .i64 l.flag,.slice an l.next.length cn] 115)):=(Below.refl _ _).alloc (jC _) _;have HA:=h.below aX;have KW:=fun(W:World) (hW:Below w.heap.size w W)=>VV (hl.below hW) (o.other l) hn
 unfold lnV at KW;have bU:(w.alloc (.cells #[.int .i64 (l.num:Nat),.int .i64 (l.op:Nat),.slice ap l.places.length cp,.int .i64 l.number,.int .i64 l.flag,.slice an l.next.length cn] 115)).heap[w.heap.size]?=some (.cells #[.int .i64 (l.num:Nat),.int .i64 (l.op:Nat),.slice ap l.places.length cp,.int .i64 l.number,.int .i64 l.flag,.slice an l.next.length cn] 115 (0,0)):=jD;generalize hR:l.next.getD (if o.other l then 1 else 0) 0=r at KW⊢;by_cases sv:l.op=18
 ·have GN:o.other l=false:=by rw[Own.other,ja (by omega),ja (by omega)]
  rw[GN]at KW;have b1:(((l.op:Nat):Int)==19)=false:=by rw[sv];rfl
  have b2:(((l.op:Nat):Int)==20)=false:=by rw[sv];rfl
  clear hn hR GN sv ho;go_enter Tryz.func63,Tryz.ntmps63
  go_wp2_with (go_at_call 100;go_fit (KW _ aX);rintro e w1 ⟨rfl,h1⟩)
  go_ret
  exact⟨rfl,aX.trans (h1.mono aX.size)⟩
 ·have hlen:1<=l.places.length:=by
   rcases ho with e|e|e
   ·exact absurd e sv
   ·rw[hk.cP,e];decide
   ·rw[hk.cP,e];decide
  obtain⟨g,e,-,ql,hg,c1,c2⟩:=da hl.places 0 (by omega);subst e;have hx:=(hk.places (l.places.getD 0 (0,0)) (by rw[jA,jB (by omega)];exact jL _)).1;have d1:=(aX.cell (p:=⟨g,0,none⟩) hg).trans c1;have d2:=(aX.cell (p:=⟨g,1,none⟩) hg).trans c2;have hlI:(0:Int)<l.places.length:=by omega
  have KN:=ei HA (l.places.getD 0 (0,0)) (by omega);have KB:=iX HA (l.places.getD 0 (0,0)) (by omega);by_cases Uy:l.op=19
  ·have GN:o.other l=(o.num (l.places.getD 0 (0,0))==0):=by rw[Own.other,jb Uy]
   rw[GN]at KW;have b1:(((l.op:Nat):Int)==19)=true:=by rw[Uy];rfl
   have b2:(((l.op:Nat):Int)==20)=false:=by rw[Uy];rfl
   clear hn hR GN Uy sv ho c1 c2 KB;generalize l.places.getD 0 (0,0)=p at*;go_enter Tryz.func63,Tryz.ntmps63
   go_wp2_with (first
    |(go_at_call 58;go_fit KN;rintro e w2 ⟨rfl,h2⟩;have bT:=aX.trans (h2.mono aX.size);have oN:=(h2.block _ (lt_of_heap bU)).trans bU;have m0:w2.cell? ⟨w.heap.size,0,none⟩=_:=cell_of_heap oN 0;have m1:w2.cell? ⟨w.heap.size,1,none⟩=_:=cell_of_heap oN 1;have m2:w2.cell? ⟨w.heap.size,2,none⟩=_:=cell_of_heap oN 2;have m3:w2.cell? ⟨w.heap.size,3,none⟩=_:=cell_of_heap oN 3;have m4:w2.cell? ⟨w.heap.size,4,none⟩=_:=cell_of_heap oN 4;have m5:w2.cell? ⟨w.heap.size,5,none⟩=_:=cell_of_heap oN 5;simp at m0 m1 m2 m3 m4 m5)
    |(go_at_call 100;go_fit (KW _ bT);rintro e w1 ⟨rfl,h1⟩))
   go_ret
   exact⟨rfl,bT.trans (h1.mono bT.size)⟩
  ·have P5:l.op=20:=by omega
   have GN:o.other l= !(o.box (l.places.getD 0 (0,0))==0):=by rw[Own.other,ja Uy,jb P5]
   rw[GN]at KW;have b1:(((l.op:Nat):Int)==19)=false:=by rw[P5];rfl
   have b2:(((l.op:Nat):Int)==20)=true:=by rw[P5];rfl
   clear hn hR GN Uy sv P5 ho c1 c2 KN;generalize l.places.getD 0 (0,0)=p at*;have bb:(((o.box p:Nat):Int) !=0)= !(o.box p==0):=by
    rw[bne];congr 1;rw[jX,beq_iff_eq,beq_iff_eq];omega
   rw[<-bb]at KW;clear bb;go_enter Tryz.func63,Tryz.ntmps63
   go_wp2_with (first
    |(go_at_call 99;go_fit KB;rintro e w2 ⟨rfl,h2⟩;have bT:=aX.trans (h2.mono aX.size);have oN:=(h2.block _ (lt_of_heap bU)).trans bU;have m0:w2.cell? ⟨w.heap.size,0,none⟩=_:=cell_of_heap oN 0;have m1:w2.cell? ⟨w.heap.size,1,none⟩=_:=cell_of_heap oN 1;have m2:w2.cell? ⟨w.heap.size,2,none⟩=_:=cell_of_heap oN 2;have m3:w2.cell? ⟨w.heap.size,3,none⟩=_:=cell_of_heap oN 3;have m4:w2.cell? ⟨w.heap.size,4,none⟩=_:=cell_of_heap oN 4;have m5:w2.cell? ⟨w.heap.size,5,none⟩=_:=cell_of_heap oN 5;simp at m0 m1 m2 m3 m4 m5)
    |(go_at_call 100;go_fit (KW _ bT);rintro e w1 ⟨rfl,h1⟩))
   go_ret
   exact⟨rfl,bT.trans (h1.mono bT.size)⟩
end
end Own
namespace Own
open Go Go.RowKit Sq Aux PrjS FlwA
def ah (l:aa)(j:Nat):Nat×Nat:=l.places.getD j (0,0)
def Own.dM (q:QP):Nat->Own->Own
 |0,o=>o
 |i+1,o=>Own.dM q i (o.drop (QP.ab q (i,0)))
def Own.calc (o:Own)(l:aa):Own:={o with ints:=o.ints.set (ah l 0).1 (ve l.op (o.num (ah l 1)) (o.num (ah l 2)))}
def Own.new (o:Own)(p:Nat×Nat)(v:Int):Own:={o with yd:=o.yd.build v,boxes:=o.boxes.set (ag p) (o.yd.made.length+1)}
def Own.bD (o:Own)(l:aa):Bool:=if l.op=10 then decide (1<=o.box (ah l 1))else if l.op=11 then decide (1<=o.box (ah l 0))else true
def Own.fy (q:QP)(o:Own)(l:aa):Own:=
 if l.op=2 then{o with ints:=o.ints.set (ah l 0).1 l.number}
 else if l.op=3\/l.op=4\/l.op=5 then o.calc l
 else if l.op=7 then{o with ak:=o.ak.tail,ints:=o.ints.set (ah l 0).1 (o.ak.headD 0)}
 else if l.op=8 then{o with yd:=o.yd.note 111 (o.num (ah l 0))}
 else if l.op=10 then{o with yd:=o.yd.load (o.box (ah l 1)),ints:=o.ints.set (ah l 0).1 (o.yd.at (o.box (ah l 1))).1}
 else if l.op=11 then{o with yd:=o.yd.store (o.box (ah l 0)) (o.num (ah l 1))}
 else if l.op=12\/l.op=14 then o.move (QP.ab q (ah l 0)) (QP.ab q (ah l 1))
 else if l.op=13\/l.op=15 then o.drop (QP.ab q (ah l 0))
 else o
def dZ (q:QP)(room:Int):Nat->List aa->Own->Option (Nat×Int×Own)
 |_,[],_=>none
 |0,_::_,o=>some (2,0,o)
 |f+1,l::ls,o=>
  if l.op=6 then(if o.num (ah l 2)=0 then some (4,0,o)else dZ q room f ls (o.calc l))
  else if l.op=9 then(if(o.drop [ah l 0]).yd.live≥room then some (3,0,o.drop [ah l 0])else dZ q room f ls ((o.drop [ah l 0]).new (ah l 0) (o.num (ah l 1))))
  else if l.op=18\/l.op=19\/l.op=20 then(if ls=[]then dZ q room f (q.blocks.getD (l.next.getD (if o.other l then 1 else 0) 0) []) o else none)
  else if l.op=22 then some (1,o.num (ah l 0),o.dM q q.locals.length)
  else if o.bD l=true then dZ q room f ls (o.fy q l)else none
def Own.start (ak:List Int):Own:=⟨⟨[],0,[]⟩,ak,List.replicate 12 0,List.replicate 24 0⟩
structure Own.In (o:Own)(t:Nat):Prop where
 many:o.yd.made.length<=t
 trace:o.yd.trace.length<=t
 live: -(t:Int)<=o.yd.live/\o.yd.live<=t
 words:∀b∈o.yd.trace,b.length<=30
 bx:o.Bx
 ints:o.ints.length=12
 boxes:o.boxes.length=24
 rj:∀n∈o.ints,aN n
 ak:∀n∈o.ak,aN n
 made:∀b∈o.yd.made,aN b.1
theorem wrap_i64 (n:Int):aN (wrap64 n):=by unfold aN wrap64;omega
theorem Aq (op:Nat)(m n:Int):aN (ve op m n):=by
 unfold ve
 repeat' split
 all_goals exact wrap_i64 _
theorem xq:aN 0:=by unfold aN;omega
section
variable {o:Own} {t u:Nat}
theorem Own.In.sz (h:o.In t)(ht:t<=1000000):o.yd.Sz t:=⟨by have:=h.many;omega,h.trace,h.live,h.words⟩
theorem Own.In.mono (h:o.In t)(ht:t<=u):o.In u:=⟨by have:=h.many;omega,by have:=h.trace;omega,by have:=h.live;omega,h.words,h.bx,h.ints,h.boxes,h.rj,h.ak,h.made⟩
theorem mem_set {α:Type}{l:List α}{j:Nat}{v n:α}(h:n∈l.set j v):n∈l\/n=v:=List.mem_or_eq_of_mem_set h
theorem Own.In.setInt (h:o.In t)(j:Nat){v:Int}(hv:aN v):({o with ints:=o.ints.set j v}:Own).In t:=
 ⟨h.many,h.trace,h.live,h.words,h.bx,by simpa using h.ints,h.boxes,fun n hn=>(mem_set hn).elim (h.rj n) (fun e=>e▸hv),h.ak,h.made⟩
theorem Own.In.num (h:o.In t)(p:Nat×Nat):aN (o.num p):=by
 unfold Own.num;rw[jA];cases hg:o.ints[p.1]? with
 |none=>exact xq
 |some n=>exact h.rj n (List.mem_of_getElem? hg)
theorem Own.In.head (h:o.In t):aN (o.ak.headD 0):=by
 cases hi:o.ak with
 |nil=>exact xq
 |cons n r=>exact h.ak n (by rw[hi];exact jM ..)
theorem Own.In.tail (h:o.In t):({o with ak:=o.ak.tail}:Own).In t:=⟨h.many,h.trace,h.live,h.words,h.bx,h.ints,h.boxes,h.rj,fun n hn=>h.ak n (List.mem_of_mem_tail hn),h.made⟩
theorem Own.In.note (h:o.In t)(c:UInt8){n:Int}(hn:aN n):({o with yd:=o.yd.note c n}:Own).In (t+1):=
 ⟨by have:=h.many;show o.yd.made.length<=t+1;omega,by have:=h.trace;simp[Yd.note];omega,by have:=h.live;show-((t+1:Nat):Int)<=o.yd.live/\o.yd.live<=_;omega,tw hn h.words,h.bx,h.ints,h.boxes,h.rj,h.ak,h.made⟩
theorem Own.In.at (h:o.In t)(n:Nat):aN (o.yd.at n).1:=by
 unfold Yd.at;rw[jA];cases hg:o.yd.made[n-1]? with
 |none=>exact xq
 |some b=>exact h.made b (List.mem_of_getElem? hg)
theorem EO {n:Nat}(h:n<=1000000000):aN ((n:Nat):Int):=by unfold aN;omega
theorem Own.In.load (h:o.In t)(ht:t<=1000000){n:Nat}(hn:n<=o.yd.made.length):({o with yd:=o.yd.load n}:Own).In (t+1):=h.note 60 (EO (by have:=h.many;omega))
theorem Own.In.store (h:o.In t)(ht:t<=1000000){n:Nat}(hn:n<=o.yd.made.length){v:Int}(hv:aN v):({o with yd:=o.yd.store n v}:Own).In (t+1):=by
 have h1:=h.note 62 (n:=((n:Nat):Int)) (EO (by have:=h.many;omega));refine⟨?_,h1.trace,h1.live,h1.words,fun m hm=> ?_,h.ints,h.boxes,h.rj,h.ak,fun b hb=> ?_⟩
 ·have:=h.many;show(o.yd.made.set (n-1) _).length<=t+1;rw[List.length_set];omega
 ·show m<=(o.yd.made.set (n-1) _).length;rw[List.length_set];exact h.bx m hm
 ·rcases mem_set hb with hb|rfl
  ·exact h.made b hb
  ·exact hv
theorem Own.In.clear (h:o.In t)(p:Nat×Nat):(o.clear p).In t:=
 ⟨h.many,h.trace,h.live,h.words,FY h.bx p,h.ints,by simpa [Own.clear]using h.boxes,h.rj,h.ak,h.made⟩
theorem Own.In.cJ:∀(ps:List (Nat×Nat)) {o:Own} {t:Nat},o.In t->(Own.take ps o).2.In t
 |[],_,_,h=>h
 |p::ps,o,t,h=>by rw[Own.take];exact Own.In.cJ ps (h.clear p)
theorem Own.In.take (h:o.In t)(ps:List (Nat×Nat)):(Own.take ps o).2.In t:=Own.In.cJ ps h
theorem Own.In.eN (h:o.In t)(ht:t<=1000000){n:Nat}(hn:n<=o.yd.made.length):(o.eN n).In (t+1):=by
 unfold Own.eN;split
 ·exact h.mono (by omega)
 ·have hs:=(h.sz ht).free hn;refine⟨by rw[AL];have:=h.many;omega,hs.trace,hs.live,hs.words,fun m hm=> ?_,h.ints,h.boxes,h.rj,h.ak,fun b hb=> ?_⟩
  ·show m<=(o.yd.free n).made.length;rw[AL];exact h.bx m hm
  ·rcases mem_set (show b∈o.yd.made.set (n-1) ((o.yd.at n).1,false)from hb)with hb|rfl
   ·exact h.made b hb
   ·exact h.at n
theorem Own.In.fA:∀(ns:List Nat) {o:Own} {t:Nat},o.In t->t+ns.length<=1000000->(∀n∈ns,n<=o.yd.made.length)->(Own.fA ns o).In (t+ns.length)
 |[],_,_,h,_,_=>h
 |n::ns,o,t,h,ht,hn=>by
  rw[jY]at ht;rw[Own.fA,jY,show t+(ns.length+1)=(t+1)+ns.length by omega];exact Own.In.fA ns (h.eN (by omega) (hn n (jM ..))) (by omega) (fun m hm=>by rw[(qL o n).2.1];exact hn m (jN _ hm))
theorem Own.In.drop (h:o.In t)(ps:List (Nat×Nat))(ht:t+ps.length<=1000000):(o.drop ps).In (t+ps.length):=by
 have:=Own.In.fA (Own.take ps o).1 (h.take ps) (by rw[take_len];exact ht) (fun n hn=>by rw[(sn ps o).1];exact(xn ps h.bx).2 n hn)
 rwa [take_len]at this
theorem Own.In.sy (h:o.In t)(p:Nat×Nat){n:Nat}(hn:n<=o.yd.made.length):(o.sy p n).In t:=
 ⟨h.many,h.trace,h.live,h.words,fun m hm=>(mem_set hm).elim (h.bx m) (fun e=>e▸hn),h.ints,by simpa [Own.sy]using h.boxes,h.rj,h.ak,h.made⟩
theorem Own.In.o6:∀(ps:List (Nat×Nat)) (ns:List Nat) {o:Own} {t:Nat},o.In t->(∀n∈ns,n<=o.yd.made.length)->(Own.o6 ps ns o).In t
 |[],_,_,_,h,_=>h
 |p::ps,ns,o,t,h,hn=>by
  rw[Own.o6];refine Own.In.o6 ps (ns.drop 1) (h.sy p ?_) (fun m hm=>hn m (List.mem_of_mem_drop hm));cases ns with
  |nil=>exact jQ _
  |cons m r=>exact hn m (jM ..)
theorem Own.In.move (h:o.In t)(to frm:List (Nat×Nat))(ht:t+to.length<=1000000):(o.move to frm).In (t+to.length):=by
 refine Own.In.o6 to _ ((h.take frm).drop to ht) (fun n hn=> ?_);rw[(ij to (Own.take frm o).2).1,(sn frm o).1];exact(xn frm h.bx).2 n hn
theorem Own.In.new (h:o.In t)(ht:t<=1000000)(p:Nat×Nat){v:Int}(hv:aN v):(o.new p v).In (t+1):=by
 have hm:=h.many;have hnr:aN ((o.yd.made.length+1:Nat):Int):=EO (by omega);refine⟨?_,?_,?_,tw hnr h.words,fun m Oh=> ?_,h.ints,by simpa [Own.new]using h.boxes,h.rj,h.ak,fun b hb=> ?_⟩
 ·show(o.yd.made++[(v,true)]).length<=t+1;simp;omega
 ·have:=h.trace;show(o.yd.trace++[_]).length<=t+1;simp;omega
 ·have:=h.live;show-((t+1:Nat):Int)<=o.yd.live+1/\o.yd.live+1<=((t+1:Nat):Int);omega
 ·show m<=(o.yd.made++[(v,true)]).length
  rw[jV];rcases mem_set (show m∈o.boxes.set (ag p) (o.yd.made.length+1)from Oh)with Oh|rfl
  ·have:=h.bx m Oh;simp;omega
  ·simp
 ·rcases List.mem_append.mp (show b∈o.yd.made++[(v,true)]from hb)with hb|hb
  ·exact h.made b hb
  ·rw[jI.mp hb];exact hv
theorem mo (q:QP)(p:Nat×Nat):(QP.ab q p).length<=2:=by unfold QP.ab;split<;>simp
theorem Own.In.fy (h:o.In t)(ht:t+3<=1000000)(q:QP)(l:aa)(Cp:aN l.number):(o.fy q l).In (t+3):=by
 unfold Own.fy;split
 ·exact(h.setInt _ Cp).mono (by omega)
 ·split
  ·exact(h.setInt _ (Aq _ _ _)).mono (by omega)
  ·split
   ·exact(h.tail.setInt (ah l 0).1 h.head).mono (by omega)
   ·split
    ·exact(h.note 111 (h.num _)).mono (by omega)
    ·split
     ·exact((h.load (by omega) (Ap h.bx (ah l 1))).setInt (ah l 0).1 (h.at _)).mono (by omega)
     ·split
      ·exact(h.store (by omega) (Ap h.bx (ah l 0)) (h.num _)).mono (by omega)
      ·split
       ·have:=mo q (ah l 0);exact(h.move _ _ (by omega)).mono (by omega)
       ·split
        ·have:=mo q (ah l 0);exact(h.drop _ (by omega)).mono (by omega)
        ·exact h.mono (by omega)
theorem Own.In.dM (q:QP):∀(i:Nat) {o:Own} {t:Nat},o.In t->t+2*i<=1000000->(Own.dM q i o).In (t+2*i)
 |0,_,_,h,_=>h
 |i+1,o,t,h,ht=>by
  have h2:=mo q (i,0);rw[Own.dM,show t+2*(i+1)=(t+2)+2*i by omega];exact Own.In.dM q i ((h.drop (QP.ab q (i,0)) (by omega)).mono (by omega)) (by omega)
theorem Own.In.start {ak:List Int}(h:∀n∈ak,aN n):(Own.start ak).In 0:=
 ⟨jC _,jC _,⟨Int.le_refl _,Int.le_refl _⟩,fun b hb=>(by cases hb),fun n hn=>(by rw[List.eq_of_mem_replicate hn];exact jQ _),by simp[Own.start],by simp[Own.start],fun n hn=>by rw[List.eq_of_mem_replicate hn];exact xq,h,fun b hb=>(by cases hb)⟩
end
end Own
end Go.Proofs.YtmlgajhhnojdjaaGreatDoor

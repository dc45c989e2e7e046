import Derived.Test.YtmlgajhhnojdjaaGreatDoorVAN
import Derived.Deep.DeepFit
set_option maxHeartbeats 8000000
namespace Go.Proofs.YtmlgajhhnojdjaaGreatDoor
namespace FlwE
open Go Go.RowKit Sq Aux PrjF PrjG PrjJ PrjK PrjL PrjM PrjN PrjO PrjP PrjR PrjS PrjT FlwA FlwB FlwC FlwD
structure PQ (w:World)(a:Nat)(q:QP)(v u:Value):Prop where
 aD:w.heap[a]?=some (.cells #[v,u] 110 (0,0))
 loc:eT w v q.locals
theorem pN {w w':World}{z b:Nat}{e:TypeId}{sz n:Nat}{v:Value}{xs:List Value}(h:w.ownsRow z e sz v n xs)(hT:aW b w w'){cs:Array Value}{t:TypeId}{f:Nat×Nat}(hb:w.heap[b]?=some (.cells cs t f))(he:e≠t):w'.ownsRow z e sz v n xs:=
 dH h fun g hg=>hT.block g (h.lt g hg).2 fun x=>by subst x;exact az h hb he hg
section
variable {w w':World} {a b:Nat} {q:QP} {v u:Value} {s:List Nat}
theorem PQ.below (h:PQ w a q v u)(hb:Below w.heap.size w w'):PQ w' a q v u:=⟨by rw[hb.block a (lt_of_heap h.aD)];exact h.aD,h.loc.below hb⟩
theorem PQ.iF (h:PQ w a q v u)(hT:aW b w w')(hs:aj w b s):PQ w' a q v u:=by
 refine⟨?_,?_⟩
 ·rw[hT.block a (lt_of_heap h.aD) (fun x=>by
   have h1:=h.aD;rw[x,hs.2]at h1;simp only[Option.some.injEq,Obj.cells.injEq]at h1;exact absurd h1.2.1 (by decide))]
  exact h.aD
 ·obtain⟨z,hz⟩:=h.loc;exact⟨z,pN hz hT hs.2 (by decide)⟩
theorem Ft {z:Nat}{l:ab}{vp vn:Value}(h:aE z w l vp vn)(hT:aW b w w')(hs:aj w b s):aE z w' l vp vn:=
 ⟨pN h.places hT hs.2 (by decide),pN h.next hT hs.2 (by decide)⟩
end
def aR (q:QP)(l:ab)(s:List Nat):List Nat:=
 if l.op=12 then dz (QP.ai q (l.places.getD 1 (0,0))) s else if l.op=14 then dz [l.places.getD 1 (0,0)] s else s
theorem aS {z:Nat}{w:World}{ap:Option Addr}{cp:Nat}{l:ab}{vn:Value}(h:aE z w l (.slice ap l.places.length cp) vn){n:Nat}(hn:l.places.length=n)(j:Nat)(hj:j<n):
  ∃g,ap=some ⟨g,0,none⟩/\n<=cp/\g<w.heap.size/\w.cell? ⟨g,j*2,none⟩=some (.int .i64 ((l.places.getD j (0,0)).1:Nat))/\w.cell? ⟨g,j*2+1,none⟩=some (.int .i64 ((l.places.getD j (0,0)).2:Nat)):=by
 obtain⟨g,e,-,hc,hg,c1,c2⟩:=bB h.places j (by omega);exact⟨g,e,by omega,hg,c1,c2⟩
set_option maxRecDepth 20000 in
theorem qC (q:QP)(l:ab)(nb z a b:Nat)(v u:Value)(ap an:Option Addr)(cp cn:Nat)(s:List Nat)(w:World)(hp:PQ w a q v u)(dS:q.locals.length<=12)(hl:iB q.locals.length nb l)
  (hA:aE z w l (.slice ap l.places.length cp) (.slice an l.next.length cn)) (hs:aj w b s):
  Calls Tryz.prog 125 #[.pointer (some ⟨b,0,none⟩),.pointer (some ⟨a,0,none⟩),.agg #[.int .i64 (l.num:Nat),.int .i64 (l.op:Nat),.slice ap l.places.length cp,.int .i64 l.number,.int .i64 l.flag,.slice an l.next.length cn]] w fun e w'=>e=.returned (.tuple #[])/\aj w' b (aR q l s)/\aW b w w':=by
 have aO:Below w.heap.size w (w.alloc (.cells #[.int .i64 (l.num:Nat),.int .i64 (l.op:Nat),.slice ap l.places.length cp,.int .i64 l.number,.int .i64 l.flag,.slice an l.next.length cn] 115)):=(Below.refl _ _).alloc (jC _) _;by_cases cV:l.op=12
 ·have hlen:l.places.length=2:=by rw[hl.cP,cV];rfl
  obtain⟨g,rfl,kC,hg,c1,c2⟩:=aS hA hlen 1 (by omega);have d1:=(aO.cell (p:=⟨g,2,none⟩) hg).trans c1;have d2:=(aO.cell (p:=⟨g,3,none⟩) hg).trans c2;have hx:=(hl.places (l.places.getD 1 (0,0)) (by simp[hlen])).1;have hr:aR q l s=dz (QP.ai q (l.places.getD 1 (0,0))) s:=by rw[aR,jb cV]
  have b12:(((l.op:Nat):Int)==12)=true:=by rw[cV];rfl
  have Rq:=hp.below aO;have KH:=cC q (l.places.getD 1 (0,0)) v u a _ Rq.aD Rq.loc hx;rw[hr];clear hr c1 c2;generalize l.places.getD 1 (0,0)=x at*;have KT:=fun(W:World) (g c:Nat) (hb:Below w.heap.size w W) (z:Nat) (hP:ay z W (.slice (some ⟨g,0,none⟩) (QP.ai q x).length c) (QP.ai q x))=>tV b z _ c _ (QP.ai q x) s W (hs.below hb hs.lt) hP (dt (by omega))
  have aH:Hid (l.op=12):=cV;rw[hlen]at aO d1 d2 KH⊢;clear cV;go_enter Tryz.func125,Tryz.ntmps125
  go_wp2_with (first
   |(go_at_call 102;refine KH.mono ?_;rintro e w2 ⟨g2,c2,rfl,k8,bu⟩;have dp:=aO.trans (bu.mono aO.size))
   |(go_at_call 174;refine(KT w2 g2 c2 dp _ k8).mono ?_;rintro e w3 ⟨rfl,BK,vH⟩))
  go_end0
  exact⟨rfl,BK,(aW.of dp).trans vH⟩
 ·have b12:(((l.op:Nat):Int)==12)=false:=by rw[jZ];omega
  by_cases vF:l.op=14
  ·have hlen:l.places.length=2:=by rw[hl.cP,vF];rfl
   obtain⟨g,rfl,kC,hg,c1,c2⟩:=aS hA hlen 1 (by omega);have d1:=(aO.cell (p:=⟨g,2,none⟩) hg).trans c1;have d2:=(aO.cell (p:=⟨g,3,none⟩) hg).trans c2;have hx:=(hl.places (l.places.getD 1 (0,0)) (by simp[hlen])).1;have hr:aR q l s=dz [l.places.getD 1 (0,0)] s:=by rw[aR,ja cV,jb vF]
   have b14:(((l.op:Nat):Int)==14)=true:=by rw[vF];rfl
   rw[hr];clear hr c1 c2;generalize l.places.getD 1 (0,0)=x at*;rw[hlen]at aO d1 d2⊢;have Mw:=aO.alloc aO.size (.cells #[.int .i64 (x.1:Nat),.int .i64 (x.2:Nat)] 119);have KT:=tV b _ 1 1 _ [x] s _ (hs.below Mw hs.lt) (eX (w.alloc (.cells #[.int .i64 (l.num:Nat),.int .i64 (l.op:Nat),.slice (some ⟨g,0,none⟩) 2 cp,.int .i64 l.number,.int .i64 l.flag,.slice an l.next.length cn] 115)) x (n:=w.heap.size+1) (by simp)) (fun y hy=>by simp only[List.mem_singleton]at hy;subst hy;omega);clear cV vF;go_enter Tryz.func125,Tryz.ntmps125
   go_wp2_with (go_at_call 174;refine KT.mono ?_;rintro e w3 ⟨rfl,BK,vH⟩)
   go_end0
   exact⟨rfl,BK,(aW.of Mw).trans vH⟩
  ·have b14:(((l.op:Nat):Int)==14)=false:=by rw[jZ];omega
   have hr:aR q l s=s:=by rw[aR,ja cV,ja vF]
   rw[hr];clear hr cV vF;go_enter Tryz.func125,Tryz.ntmps125
   go_wp2
   go_end0
   exact⟨rfl,hs.below aO hs.lt,aW.of aO⟩
end FlwE
namespace Own
open Go Go.RowKit Sq Aux PrjJ PrjK PrjL PrjM PrjS PrjT FlwA FlwB FlwE
section
variable {x a:Nat} {w w0:World} {vm vt vi:Value} {o:Own}
theorem cg.fd (h:cg w0 x a w o vi vm vt):w.cell? ⟨x,4,none⟩=some vi/\w.frozen? ⟨x,4,none⟩=false:=h.fC.more 1
theorem cg.Ed (h:cg w0 x a w o vi vm vt){vi':Value}{l:List Int}(hf:eE w0 vi' l):cg w0 x a (w.setCell ⟨x,4,none⟩ vi') {o with cX:=l} vi' vm vt/\aI x vm vt w vm vt (w.setCell ⟨x,4,none⟩ vi'):=by
 obtain⟨h1,h2⟩:=h.fC.yY 1 vi';exact⟨⟨h1,h.bz.trans (h2.below h.fC (jC _) h.bz.size),h.ints,h.boxes,hf⟩,h2⟩
theorem eE.tail {v:Int}{r:List Int}{g f c:Nat}(h:eE w0 (.slice (some ⟨g,f,none⟩) (v::r).length c) (v::r)):eE w0 (.slice (some ⟨g,f+1,none⟩) r.length (c-1)) r:=by
 obtain⟨ad,c',e,h1,h2,h3⟩:=h;simp only[Value.slice.injEq]at e;obtain⟨rfl,-,rfl⟩:=e;simp only[List.length_cons]at h1;refine⟨_,_,rfl,by omega,by omega,fun j hj=> ?_⟩;obtain⟨g',f',e,hg,hc⟩:=h3 (j+1) (by simp;omega);simp only[Option.some.injEq,Addr.mk.injEq,and_true]at e;obtain⟨rfl,rfl⟩:=e;exact⟨g,f+1,rfl,hg,by rw[show f+1+j=f+(j+1) by omega,hc];rfl⟩
set_option maxRecDepth 20000 in
theorem Hj (h:cg w0 x a w o vi vm vt):
  Calls Tryz.prog 103 #[.pointer (some ⟨x,4,none⟩)] w fun e w'=>e=.returned (.int .i64 (o.cX.headD 0))/\∃vi',cg w0 x a w' {o with cX:=o.cX.tail} vi' vm vt/\aI x vm vt w vm vt w':=by
 obtain⟨c4,f4⟩:=h.fd;have hF:=h.feed;cases lA:o.cX with
 |nil=>
  rw[lA]at hF;obtain⟨ad,c,rfl,h1,h2,-⟩:=hF;have hO:{o with cX:=([]:List Int)}=o:=by rw[<-lA]
  go_enter Tryz.func103,Tryz.ntmps103
  go_wp2
  go_ret
  exact⟨rfl,_,by rw[List.tail_nil,hO];exact h,aI.refl _ _ _ _⟩
 |cons v r=>
  rw[lA]at hF;have Xq:=hF;obtain⟨ad,c,rfl,h1,h2,h3⟩:=hF;obtain⟨g,f,rfl,hg,hc⟩:=h3 0 (by simp);have hT:=eE.tail Xq;obtain⟨h5,h6⟩:=h.Ed hT;have c0:w.cell? ⟨g,f,none⟩=some (.int .i64 v):=by
   rw[Nat.add_zero]at hc;exact(h.bz.cell (p:=⟨g,f,none⟩) hg).trans hc
  simp only[List.length_cons]at h1 h2 h5 c4;have i0:¬((r.length:Int)+1=0):=by omega
  have i1:(((r.length:Int)+1)==0)=false:=by rw[jZ];omega
  have i2:(1:Int)<=(r.length:Int)+1:=by omega
  have Za:(r.length:Int)+1<=(c:Int):=by omega
  unfold maxLen at h2;by_cases rX:c=1
  ·subst rX;have hr:r=[]:=List.length_eq_zero_iff.mp (by omega);subst hr;have Qa:eE w0 (.slice (some ⟨g,f,none⟩) 0 0) []:=⟨_,_,rfl,jC _,jQ _,fun j hj=>absurd hj (Nat.not_lt_zero _)⟩;obtain⟨k5,k6⟩:=h.Ed Qa;go_enter Tryz.func103,Tryz.ntmps103
   go_wp2
   go_ret
   exact⟨rfl,_,k5,k6⟩
  ·have vq:¬c-1=0:=by omega
   have Y9:¬c<=1:=by omega
   go_enter Tryz.func103,Tryz.ntmps103
   go_wp2
   go_ret
   exact⟨rfl,_,h5,h6⟩
end
def Own.clear (o:Own)(p:Nat×Nat):Own:={o with boxes:=o.boxes.set (ah p) 0}
def Own.take:List (Nat×Nat)->Own->List Nat×Own
 |[],o=>([],o)
 |p::ps,o=>(o.box p::(Own.take ps (o.clear p)).1,(Own.take ps (o.clear p)).2)
theorem eY:∀(ps:List (Nat×Nat)) (p:Nat×Nat) (o:Own),Own.take (ps++[p]) o=((Own.take ps o).1++[(Own.take ps o).2.box p],(Own.take ps o).2.clear p)
 |[],_,_=>rfl
 |q::ps,p,o=>by rw[jW,Own.take,eY ps p,Own.take];rfl
end Own
namespace Own
open Go Go.RowKit Sq Aux PrjJ PrjK PrjL PrjM PrjS PrjT FlwA FlwB FlwE
theorem Of:(Tryz.prog.info? 3).map (fun i=>(i.zero,i.size,i.bytes))=some (some (.int .i64 0),1,8):=by kernel_rfl
theorem Gx {ps:List (Nat×Nat)}{k:Nat}(hk:k<ps.length)(o:Own):Own.take (ps.take (k+1)) o=((Own.take (ps.take k) o).1++[(Own.take (ps.take k) o).2.box (ps.getD k (0,0))],(Own.take (ps.take k) o).2.clear (ps.getD k (0,0))):=by
 have e:ps.take (k+1)=ps.take k++[ps.getD k (0,0)]:=by
  rw[List.take_add_one,jB hk,jA,jB hk];rfl
 rw[e,eY]
theorem take_len:∀(ps:List (Nat×Nat)) (o:Own),(Own.take ps o).1.length=ps.length
 |[],_=>rfl
 |p::ps,o=>by rw[Own.take];simp[take_len ps]
section
variable {x a:Nat} {w w0 w1:World} {vm vt vi:Value} {o:Own}
theorem aI.iF (h:aW x w w1):aI x vm vt w vm vt w1:=⟨h.os,h.tape,h.output,h.size,fun k hk h1 _ _=>h.block k hk h1,fun _ h=> .inl h,fun _ h=> .inl h⟩
theorem cg.grown (h:cg w0 x a w o vi vm vt){b n:Nat}{v:Value}{xs:List Value}(hb:w0.heap.size<=b)(hr:w.ownsRow b 3 1 v n xs)(hg:w.grownBy w1 v.ownBlock):cg w0 x a w1 o vi vm vt:=by
 refine⟨⟨h.fC.base,h.fC.ty,?_,h.fC.made.kept hg (cJ h.fC.made hr (by decide)),h.fC.trace.kept hg (cJ h.fC.trace hr (by decide))⟩,h.bz.trans ⟨hg.os,hg.tape,hg.output,hg.size,fun k hk=>hg.block k (jK hk h.bz.size) (fun e=> ?_)⟩,h.ints,h.boxes,h.feed⟩
 ·rw[hg.block x h.lt (aF hr h.fC.aD (by decide))];exact h.fC.aD
 ·have:=(hr.lt k e.symm).1;omega
theorem Di (h:aW x w w1){w2:World}{b n:Nat}{e:TypeId}{v:Value}{xs:List Value}(hb:w.heap.size<=b)(hr:w1.ownsRow b e 1 v n xs)(hg:w1.grownBy w2 v.ownBlock):aW x w w2:=
 ⟨hg.os.trans h.os,hg.tape.trans h.tape,hg.output.trans h.output,jS h.size hg.size,fun k hk h1=>(hg.block k (jK hk h.size) (fun e=>by have:=(hr.lt k e.symm).1;omega)).trans (h.block k hk h1)⟩
theorem cg.clear (h:cg w0 x a w o vi vm vt)(p:Nat×Nat):cg w0 x a (w.setCell ⟨x,17+ah p,none⟩ (.int .i64 0)) (o.clear p) vi vm vt:=(h.Jh (ah p) 0).1
set_option maxRecDepth 20000 in
theorem xN {z n c:Nat}{ad:Option Addr}{ps:List (Nat×Nat)}(h:cg w0 x a w o vi vm vt)(hp:ay z w (.slice ad n c) ps)(hx:∀p∈ps,p.1<12)(hps:ps.length<=1000):
  Calls Tryz.prog 96 #[.pointer (some ⟨x,0,none⟩),.slice ad n c] w fun e w'=>∃v,e=.returned v/\w'.ownsRow w.heap.size 3 1 v ps.length (dP (Own.take ps o).1)/\cg w0 x a w' (Own.take ps o).2 vi vm vt/\aW x w w':=by
 have hn:n=ps.length:=by
  obtain⟨ad',c',e⟩:=PrjP.a8 hp;simp only[Value.slice.injEq]at e;exact e.2.1
 have hlen:ps.length<=maxLen:=by
  rcases hp.2 with⟨-,h⟩|⟨g,cap,cur,-,-,-,h1,h2,-⟩
  ·omega
  ·omega
 unfold maxLen at hlen;subst hn;obtain⟨i,hi,yw,oY,oZ⟩:=info_parts Of;go_enter Tryz.func96,Tryz.ntmps96
 go_wp2
 go_loopg [5,10] (ps.length) (fun g v5 v10 wr=>∃(k:Nat),k<=ps.length/\g+k=ps.length/\v10=.int .i64 k/\cg w0 x a wr (Own.take (ps.take k) o).2 vi vm vt/\wr.ownsRow w.heap.size 3 1 v5 k (dP (Own.take (ps.take k) o).1)/\aW x w wr)
 case atStart=>exact⟨0,jQ _,rfl,rfl,h,World.ownsRow_nil _ _ _ _,aW.refl _ _⟩
 case round=>
  obtain⟨k,hk,yp,rfl,hO,hR,hT⟩:=hrel;by_cases aP:k<ps.length
  ·have vu:ay z wr (.slice ad ps.length c) ps:=dH hp fun g hg=>hT.block g (hp.lt g hg).2 fun e=>by
    subst e;exact az hp h.fC.aD (by decide) hg
   obtain⟨gp,rfl,-,kC,Cl,c1,c2⟩:=bB vu k aP;have lf:=hx (ps.getD k (0,0)) (by simp[aP]);have HS:=Gx aP o;generalize ps.getD k (0,0)=p at*;generalize (Own.take (ps.take k) o).2=ok at*;generalize (Own.take (ps.take k) o).1=tk at*;have jv:Below wr.heap.size wr (wr.alloc (.cells #[.int .i64 (p.1:Nat),.int .i64 (p.2:Nat)] 119)):=(Below.refl _ _).alloc (jC _) _;have Vw:=hO.below jv;have KB:=rW Vw p lf;have VV:(k:Int)<ps.length:=by omega
   obtain⟨ad5,c5,rfl⟩:=PrjP.a8 hR;have YL:w.heap.size<=wr.heap.size:=hT.size;go_upto_region 6 with(first
    |(go_at_call 99;go_fit KB;rintro e w2 ⟨rfl,bu⟩;have dp:Below wr.heap.size wr w2:=jv.trans (bu.mono jv.size);have aO:Below w2.heap.size w2 (w2.alloc (.cells #[.int .i64 ((ok.box p:Nat):Int)] 3)):=(Below.refl _ _).alloc (jC _) _;have Kt:=al (al hR dp) aO;have oG:w.heap.size<=(w2.alloc (.cells #[.int .i64 ((ok.box p:Nat):Int)] 3)).heap.size:=(by have:=dp.size;have:=aO.size;omega))
    |(at_builtin;go_must (refine fF rfl _ _ 113 rfl w.heap.size 3 i (.int .i64 0) 1 8 Tryz.underlying113 hi yw oY oZ rfl (by decide) _ _ _ rfl Kt w2.heap.size [.int .i64 ((ok.box p:Nat):Int)] rfl jD rfl (by intro u' hu;simp at hu;subst hu;rfl) (by decide) (by omega) oG ?_);intro g4 c4 w4 hown4 hgrow4 hat4 hlt4))
   have XC:cg w0 x a w4 ok vi vm vt:=((hO.below dp).below aO).grown h.bz.size Kt hgrow4;have Qc:aW x w w4:=Di ((hT.on dp).on aO) (jC _) Kt hgrow4;have MI:w2.heap[wr.heap.size]?=some (.cells #[.int .i64 (p.1:Nat),.int .i64 (p.2:Nat)] 119 (0,0)):=(bu.block _ (by simp)).trans jD;have Ll:=(aO.block _ (lt_of_heap MI)).trans MI;have N3:=(hgrow4.block _ (lt_of_heap Ll) (aF Kt Ll (by decide))).trans Ll;have q0:w4.cell? ⟨wr.heap.size,0,none⟩=some (.int .i64 (p.1:Nat)):=by rw[cell_of_heap N3];rfl
   have q1:w4.cell? ⟨wr.heap.size,1,none⟩=some (.int .i64 (p.2:Nat)):=by rw[cell_of_heap N3];rfl
   have gO:ah p<24:=by unfold ah;split<;>omega
   have Im:(ah p:Int)<24:=by omega
   have KS:=cf p w4.drew (by omega);have Rw:w4.ownsRow w.heap.size 3 1 (.slice (some ⟨g4,0,none⟩) (k+1) c4) (k+1) (dP (tk++[ok.box p])):=by simpa [dP]using hown4
   clear hgrow4 hown4 Kt aO dp bu MI Ll N3 jv Vw KB hR c1 c2;go_region_with (go_at_call 62;go_fit KS;rintro e w5 ⟨rfl,gi⟩;have Cb:Below w4.heap.size w4 w5:=⟨gi.os,gi.tape,gi.output,gi.size,gi.block⟩;have OQ:=XC.below Cb;obtain⟨s1,s2⟩:=OQ.bx gO)
   all_goals go_wp2_with fail
   all_goals
    go_roundg (ps.length-(k+1))
    case measure=>omega
    case rel=>
     have XD:=OQ.clear p;have E7:=al Rw Cb;have Co:=aC E7 (a:=⟨x,17+ah p,none⟩) (.int .i64 0) (az E7 OQ.fC.aD (by decide));exact⟨k+1,by omega,by omega,by go_num,by rw[HS];exact XD,by rw[HS];exact Co,(Qc.on Cb).setCell _ _⟩
  ·have la:k=ps.length:=by omega
   subst la;rw[List.take_length]at hO hR;obtain⟨ad5,c5,rfl⟩:=PrjP.a8 hR;go_wp2
   go_ret
   exact⟨_,rfl,hR,hO,hT⟩
end
end Own
namespace Own
open Go Go.RowKit Sq Aux PrjJ PrjK PrjL PrjM PrjS PrjT FlwA FlwB FlwE
structure Yd.Sz (y:Yd)(t:Nat):Prop where
 made:y.made.length<=1000000
 trace:y.trace.length<=t
 live: -(t:Int)<=y.live/\y.live<=t
 words:∀b∈y.trace,b.length<=30
theorem Yd.Sz.ok {y:Yd}{t:Nat}(h:y.Sz t)(ht:t<=9000000):y.Ok:=⟨h.made,by have:=h.trace;omega,by have:=h.live;omega,h.words⟩
theorem Yd.Sz.mono {y:Yd}{t u:Nat}(h:y.Sz t)(ht:t<=u):y.Sz u:=⟨h.made,by have:=h.trace;omega,by have:=h.live;omega,h.words⟩
theorem oO {y:Yd}{c:UInt8}{n:Int}(hn: -9223372036854775808<=n/\n<=9223372036854775807)(h:∀b∈y.trace,b.length<=30):∀b∈(y.note c n).trace,b.length<=30:=by
 intro b hb;rcases List.mem_append.mp hb with hb|hb
 ·exact h b hb
 ·rw[jI.mp hb,jY];have:=Lib.itoa_length_le n hn.1 hn.2;omega
theorem Yd.Sz.free {y:Yd}{t:Nat}(h:y.Sz t){n:Nat}(hn:n<=y.made.length):(y.free n).Sz (t+1):=by
 have hm:=h.made;refine⟨by simpa [Yd.free,Yd.note]using hm,by have:=h.trace;simp[Yd.free,Yd.note];omega,by have:=h.live;show-((t+1:Nat):Int)<=y.live-1/\y.live-1<=((t+1:Nat):Int);omega,?_⟩;exact oO (y:={y with made:=y.made.set (n-1) ((y.at n).1,false),live:=y.live-1}) (by omega) h.words
theorem sK (y:Yd)(n:Nat):(y.free n).made.length=y.made.length:=by simp[Yd.free,Yd.note]
def Own.cd (o:Own)(n:Nat):Own:=if n=0 then o else{o with yd:=o.yd.free n}
def Own.ee:List Nat->Own->Own
 |[],o=>o
 |n::ns,o=>Own.ee ns (o.cd n)
def Own.drop (ps:List (Nat×Nat))(o:Own):Own:=Own.ee (Own.take ps o).1 (Own.take ps o).2
theorem sL:∀(ns:List Nat) (n:Nat) (o:Own),Own.ee (ns++[n]) o=(Own.ee ns o).cd n
 |[],_,_=>rfl
 |m::ns,n,o=>by rw[jW,Own.ee,sL ns n,Own.ee]
theorem B6 {ns:List Nat}{k:Nat}(hk:k<ns.length)(o:Own):Own.ee (ns.take (k+1)) o=(Own.ee (ns.take k) o).cd (ns.getD k 0):=by
 have e:ns.take (k+1)=ns.take k++[ns.getD k 0]:=by
  rw[List.take_add_one,jB hk,jA,jB hk];rfl
 rw[e,sL]
theorem lO (o:Own)(n:Nat):(o.cd n).boxes=o.boxes/\(o.cd n).yd.made.length=o.yd.made.length/\(o.cd n).ints=o.ints/\(o.cd n).cX=o.cX:=by
 unfold Own.cd;split
 ·exact⟨rfl,rfl,rfl,rfl⟩
 ·exact⟨rfl,sK _ _,rfl,rfl⟩
theorem lP:∀(ns:List Nat) (o:Own),(Own.ee ns o).boxes=o.boxes/\(Own.ee ns o).yd.made.length=o.yd.made.length/\(Own.ee ns o).ints=o.ints/\(Own.ee ns o).cX=o.cX
 |[],_=>⟨rfl,rfl,rfl,rfl⟩
 |n::ns,o=>by
  obtain⟨h1,h2,h3,h4⟩:=lP ns (o.cd n);obtain⟨g1,g2,g3,g4⟩:=lO o n;rw[Own.ee];exact⟨h1.trans g1,h2.trans g2,h3.trans g3,h4.trans g4⟩
theorem mK:∀(ps:List (Nat×Nat)) (o:Own),(Own.take ps o).2.yd=o.yd/\(Own.take ps o).2.ints=o.ints/\(Own.take ps o).2.cX=o.cX
 |[],_=>⟨rfl,rfl,rfl⟩
 |p::ps,o=>by rw[Own.take];exact mK ps (o.clear p)
theorem zT:∀(ns:List Nat) (o:Own) (t:Nat),o.yd.Sz t->(∀n∈ns,n<=o.yd.made.length)->(Own.ee ns o).yd.Sz (t+ns.length)
 |[],_,_,h,_=>h
 |n::ns,o,t,h,hn=>by
  rw[Own.ee,jY,show t+(ns.length+1)=(t+1)+ns.length by omega];refine zT ns _ _ ?_ (fun m hm=>by rw[(lO o n).2.1];exact hn m (jN _ hm));unfold Own.cd;split
  ·exact h.mono (by omega)
  ·exact h.free (hn n (jM ..))
def Own.Bx (o:Own):Prop:=∀n∈o.boxes,n<=o.yd.made.length
theorem sr {o:Own}(h:o.Bx)(p:Nat×Nat):o.box p<=o.yd.made.length:=by
 unfold Own.box;rw[jA];cases hg:o.boxes[ah p]? with
 |none=>exact jQ _
 |some n=>exact h n (List.mem_of_getElem? hg)
theorem zw {o:Own}(h:o.Bx)(p:Nat×Nat):(o.clear p).Bx:=fun n hn=>by
 rcases List.mem_or_eq_of_mem_set hn with hn|rfl
 ·exact h n hn
 ·exact jQ _
theorem pX:∀(ps:List (Nat×Nat)) {o:Own},o.Bx->(Own.take ps o).2.Bx/\∀n∈(Own.take ps o).1,n<=o.yd.made.length
 |[],_,h=>⟨h,fun n hn=>by cases hn⟩
 |p::ps,o,h=>by
  obtain⟨h1,h2⟩:=pX ps (zw h p);rw[Own.take];refine⟨h1,fun n hn=> ?_⟩;rcases jP.mp hn with rfl|hn
  ·exact sr h p
  ·exact h2 n hn
section
variable {x a:Nat} {w w0 w1:World} {vm vt vi:Value} {o:Own}
set_option maxRecDepth 20000 in
theorem lH {z n c t:Nat}{ad:Option Addr}{ps:List (Nat×Nat)}(h:cg w0 x a w o vi vm vt)(hp:ay z w (.slice ad n c) ps)(hx:∀p∈ps,p.1<12)(hps:ps.length<=1000)(hb:o.Bx)(hs:o.yd.Sz t)(ht:t+ps.length<=9000000)(lB:Pow w0)(ly:11<=w0.heap.size):
  Calls Tryz.prog 60 #[.pointer (some ⟨x,0,none⟩),.slice ad n c] w fun e w'=>e=.returned (.tuple #[])/\∃vm' vt',cg w0 x a w' (o.drop ps) vi vm' vt'/\aI x vm vt w vm' vt' w':=by
 have KT:=xN h hp hx hps;obtain⟨aB,bu⟩:=pX ps hb;have hl:=take_len ps o;have Wv:=(mK ps o).1;have HD:Hid (o.drop ps=Own.ee (Own.take ps o).1 (Own.take ps o).2):=rfl;rw[HD.out];rw[<-Wv]at hs bu;generalize (Own.take ps o).1=ns at*;generalize (Own.take ps o).2=o1 at*;rw[<-hl]at hps ht KT;clear hl Wv HD;go_enter Tryz.func60,Tryz.ntmps60
 go_wp2_with (go_at_call 96;go_fit KT;rintro e w1 ⟨v1,rfl,hR,gh,jj⟩;obtain⟨ad5,c5,rfl⟩:=PrjP.a8 hR)
 go_loopg [10] (ns.length) (fun g v10 wr=>∃(k:Nat) (vm' vt':Value),k<=ns.length/\g+k=ns.length/\v10=.int .i64 k/\cg w0 x a wr (Own.ee (ns.take k) o1) vi vm' vt'/\aI x vm vt w1 vm' vt' wr)
 case atStart=>exact⟨0,vm,vt,jQ _,rfl,rfl,gh,aI.refl _ _ _ _⟩
 case round=>
  obtain⟨k,vm',vt',hk,yp,rfl,hO,hr⟩:=hrel;by_cases aP:k<ns.length
  ·have BJ:wr.ownsRow w.heap.size 3 1 (.slice ad5 ns.length c5) ns.length (dP ns):=dH hR fun g hg=>hr.block g (hR.lt g hg).2 (fun e=>az hR gh.fC.aD (by decide) (by rw[hg,e])) (fun e=>by
    rcases cJ gh.fC.made hR (by decide)with h0|h0
    ·rw[e]at h0;cases h0
    ·exact h0 (e.trans hg.symm)) (fun e=>by
    rcases cJ gh.fC.trace hR (by decide)with h0|h0
    ·rw[e]at h0;cases h0
    ·exact h0 (e.trans hg.symm))
   obtain⟨gr,cr,e,TX,kE,aQ⟩:=bL BJ (by omega);simp only[Value.slice.injEq]at e;obtain⟨rfl,-,rfl⟩:=e;have c1:wr.cell? ⟨gr,k,none⟩=some (.int .i64 ((ns.getD k 0:Nat):Int)):=by
    rw[aQ k (by omega),dP,jJ,jB aP,jA,jB aP];rfl
   have kF:ns.getD k 0∈ns:=by rw[jA,jB aP];exact jL aP
   have HS:=B6 aP o1;have Rg:=bu _ kF;have gP:=zT (ns.take k) o1 t hs (fun m hm=>bu m (List.mem_of_mem_take hm));rw[List.length_take,Nat.min_eq_left hk]at gP;have Yh:=(lP (ns.take k) o1).2.1;generalize ns.getD k 0=m at*;generalize Own.ee (ns.take k) o1=ok at*;clear aQ;have VV:(k:Int)<ns.length:=by omega
   have vu:Pow wr:=lB.below hO.bz ly;by_cases hm:m=0
   ·have hf:ok.cd m=ok:=by rw[Own.cd,jb hm]
    have SR:((m:Int)==0)=true:=by simp[hm]
    rw[hf]at HS;go_wp2
    go_roundg (ns.length-(k+1))
    case measure=>omega
    case rel=>exact⟨k+1,vm',vt',by omega,by omega,by go_num,by rw[HS];exact hO,hr⟩
   ·have hf:ok.cd m={ok with yd:=ok.yd.free m}:=by rw[Own.cd,ja hm]
    have SR:((m:Int)==0)=false:=by rw[jZ];omega
    have KF:=sI hO.fC m (by omega) (by rw[Yh];exact Rg) vu (gP.ok (by omega)) ly;rw[hf]at HS;go_wp2_with (go_at_call 97;go_fit KF;rintro e w3 ⟨rfl,vm3,vt3,h3,r3⟩)
    go_roundg (ns.length-(k+1))
    case measure=>omega
    case rel=>exact⟨k+1,vm3,vt3,by omega,by omega,by go_num,by rw[HS];exact hO.GG h3 r3,hr.trans r3⟩
  ·have la:k=ns.length:=by omega
   subst la;rw[List.take_length]at hO;go_wp2
   go_end0
   exact⟨rfl,vm',vt',hO,(aI.iF jj).trans hr⟩
end
end Own
namespace Own
open Go Go.RowKit Sq Aux PrjJ PrjK PrjL PrjM PrjS PrjT FlwA FlwB FlwE
def Own.Be (o:Own)(p:Nat×Nat)(n:Nat):Own:={o with boxes:=o.boxes.set (ah p) n}
def Own.lu:List (Nat×Nat)->List Nat->Own->Own
 |[],_,o=>o
 |p::ps,ns,o=>Own.lu ps (ns.drop 1) (o.Be p (ns.getD 0 0))
def Own.move (dstn frm:List (Nat×Nat))(o:Own):Own:=Own.lu dstn (Own.take frm o).1 ((Own.take frm o).2.drop dstn)
theorem xQ:∀(ps:List (Nat×Nat)) (p:Nat×Nat) (ns:List Nat) (o:Own),Own.lu (ps++[p]) ns o=(Own.lu ps ns o).Be p (ns.getD ps.length 0)
 |[],_,_,_=>rfl
 |q::ps,p,ns,o=>by
  rw[jW,Own.lu,xQ ps p,Own.lu,jY];congr 1;simp[List.getD_eq_getElem?_getD]
theorem Gb {ps:List (Nat×Nat)}{k:Nat}(hk:k<ps.length)(ns:List Nat)(o:Own):Own.lu (ps.take (k+1)) ns o=(Own.lu (ps.take k) ns o).Be (ps.getD k (0,0)) (ns.getD k 0):=by
 have e:ps.take (k+1)=ps.take k++[ps.getD k (0,0)]:=by
  rw[List.take_add_one,jB hk,jA,jB hk];rfl
 rw[e,xQ,List.length_take,Nat.min_eq_left (by omega)]
theorem eS (ps:List (Nat×Nat))(o:Own):(o.drop ps).yd.made.length=o.yd.made.length/\(o.drop ps).ints=o.ints/\(o.drop ps).cX=o.cX/\(o.drop ps).boxes=(Own.take ps o).2.boxes:=by
 unfold Own.drop;obtain⟨h1,h2,h3,h4⟩:=lP (Own.take ps o).1 (Own.take ps o).2;obtain⟨g1,g2,g3⟩:=mK ps o;exact⟨by rw[h2,g1],h3.trans g2,h4.trans g3,h1⟩
section
variable {x a:Nat} {w w0 w1:World} {vm vt vm1 vt1 vi:Value} {o:Own}
theorem cg.bE (h:cg w0 x a w o vi vm vt){b s n:Nat}{e:TypeId}{v:Value}{xs:List Value}(hv:w.ownsRow b e s v n xs)(he:e=3\/e=119)(hr:aI x vm vt w vm1 vt1 w1):w1.ownsRow b e s v n xs:=by
 have h1:e≠104:=by rcases he with rfl|rfl<;>decide
 have h2:175≠e:=by rcases he with rfl|rfl<;>decide
 have h3:9≠e:=by rcases he with rfl|rfl<;>decide
 refine dH hv fun g hg=>hr.block g (hv.lt g hg).2 (fun e=>az hv h.fC.aD h1 (by rw[hg,e])) (fun e=> ?_) (fun e=> ?_)
 ·rcases cJ h.fC.made hv h2 with h0|h0
  ·rw[e]at h0;cases h0
  ·exact h0 (e.trans hg.symm)
 ·rcases cJ h.fC.trace hv h3 with h0|h0
  ·rw[e]at h0;cases h0
  ·exact h0 (e.trans hg.symm)
set_option maxRecDepth 20000 in
theorem AT {z1 z2 n1 n2 c1 c2 t:Nat}{ad1 ad2:Option Addr}{dstn frm:List (Nat×Nat)}(h:cg w0 x a w o vi vm vt)(yu:ay z1 w (.slice ad1 n1 c1) dstn)(MH:ay z2 w (.slice ad2 n2 c2) frm)(lf:∀p∈dstn,p.1<12)(Ip:∀p∈frm,p.1<12)
  (vr:dstn.length<=100) (hl:dstn.length=frm.length) (hb:o.Bx) (hs:o.yd.Sz t) (ht:t+100<=9000000) (lB:Pow w0) (ly:11<=w0.heap.size):
  Calls Tryz.prog 107 #[.pointer (some ⟨x,0,none⟩),.slice ad1 n1 c1,.slice ad2 n2 c2] w fun e w'=>e=.returned (.tuple #[])/\∃vm' vt',cg w0 x a w' (o.move dstn frm) vi vm' vt'/\aI x vm vt w vm' vt' w':=by
 have Lf:n1=dstn.length:=by
  obtain⟨ad',c',e⟩:=PrjP.a8 yu;simp only[Value.slice.injEq]at e;exact e.2.1
 subst Lf;have KT:=xN h MH Ip (by omega);obtain⟨aB,bu⟩:=pX frm hb;have aP:=take_len frm o;rw[<-(mK frm o).1]at hs;have HM:Hid (o.move dstn frm=Own.lu dstn (Own.take frm o).1 ((Own.take frm o).2.drop dstn)):=rfl;rw[HM.out];generalize (Own.take frm o).1=ns at*;generalize (Own.take frm o).2=o1 at*;have iE:ns.length=dstn.length:=by omega
 rw[<-hl]at KT;clear aP hl HM bu;have KD:=fun(W:World) (hW:cg w0 x a W o1 vi vm vt) (hT:aW x w W)=>lH hW (h.bE yu (.inr rfl) (aI.iF hT)) lf (by omega) aB hs (by omega) lB ly
 go_enter Tryz.func107,Tryz.ntmps107
 go_wp2_with (first
  |(go_at_call 96;go_fit KT;rintro e w1 ⟨v1,rfl,hR,gh,jj⟩;obtain⟨ad5,c5,rfl⟩:=PrjP.a8 hR)
  |(go_at_call 60;go_fit (KD _ gh jj);rintro e w2 ⟨rfl,vm2,vt2,fB,mQ⟩))
 have Hx:=gh.bE hR (.inl rfl) mQ;have Uz:=gh.bE (h.bE yu (.inr rfl) (aI.iF jj)) (.inr rfl) mQ;have YC:=(aI.iF jj).trans mQ;clear KT KD hR mQ jj gh hs aB;go_loopg [17] (dstn.length) (fun g v17 wr=>∃(k:Nat),k<=dstn.length/\g+k=dstn.length/\v17=.int .i64 k/\cg w0 x a wr (Own.lu (dstn.take k) ns (o1.drop dstn)) vi vm2 vt2/\aW x w2 wr)
 case atStart=>exact⟨0,jQ _,rfl,rfl,fB,aW.refl _ _⟩
 case round=>
  obtain⟨k,hk,yp,rfl,hO,hT⟩:=hrel;by_cases aP:k<dstn.length
  ·have vu:=fB.bE Uz (.inr rfl) (aI.iF hT);have BJ:=fB.bE Hx (.inl rfl) (aI.iF hT);obtain⟨gp,rfl,-,kC,Cl,q1,q2⟩:=bB vu k aP;obtain⟨gr,cr,e,TX,kE,aQ⟩:=bL BJ (by omega);simp only[Value.slice.injEq]at e;obtain⟨rfl,-,rfl⟩:=e;have r1:wr.cell? ⟨gr,k,none⟩=some (.int .i64 ((ns.getD k 0:Nat):Int)):=by
    rw[aQ k (by omega),dP,jJ,jB (by omega),jA,jB (by omega)];rfl
   have Oe:=lf (dstn.getD k (0,0)) (by simp[aP]);have HS:=Gb aP ns (o1.drop dstn);generalize dstn.getD k (0,0)=p at*;generalize ns.getD k 0=m at*;generalize Own.lu (dstn.take k) ns (o1.drop dstn)=ok at*;clear aQ iE;have jv:Below wr.heap.size wr (wr.alloc (.cells #[.int .i64 (p.1:Nat),.int .i64 (p.2:Nat)] 119)):=(Below.refl _ _).alloc (jC _) _;have VV:(k:Int)<dstn.length:=by omega
   have gO:ah p<24:=by unfold ah;split<;>omega
   have Im:(ah p:Int)<24:=by omega
   have r1x:=(jv.cell (p:=⟨gr,k,none⟩) kE).trans r1;have KS:=cf p (wr.alloc (.cells #[.int .i64 (p.1:Nat),.int .i64 (p.2:Nat)] 119)).drew (by omega);go_upto_region 5 with fail
   go_region_with (go_at_call 62;go_fit KS;rintro e w5 ⟨rfl,gi⟩;have Cb:Below wr.heap.size wr w5:=jv.trans ((⟨gi.os,gi.tape,gi.output,gi.size,gi.block⟩:Below _ (wr.alloc (.cells #[.int .i64 (p.1:Nat),.int .i64 (p.2:Nat)] 119)) w5).mono jv.size);have OQ:=hO.below Cb;obtain⟨s1,s2⟩:=OQ.bx gO;have r5:=(Cb.cell (p:=⟨gr,k,none⟩) kE).trans r1)
   all_goals go_wp2_with fail
   all_goals
    go_roundg (dstn.length-(k+1))
    case measure=>omega
    case rel=>exact⟨k+1,by omega,by omega,by go_num,by rw[HS];exact(OQ.Jh (ah p) m).1,(hT.on Cb).setCell _ _⟩
  ·have la:k=dstn.length:=by omega
   subst la;rw[List.take_length]at hO;go_wp2
   go_end0
   exact⟨rfl,vm2,vt2,hO,YC.trans (aI.iF hT)⟩
end
end Own
end Go.Proofs.YtmlgajhhnojdjaaGreatDoor

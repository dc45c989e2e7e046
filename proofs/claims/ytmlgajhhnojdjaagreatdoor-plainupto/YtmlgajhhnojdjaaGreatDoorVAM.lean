import Derived.Test.YtmlgajhhnojdjaaGreatDoorVAL
import Derived.Test.YtmlgajhhnojdjaaGreatDoorVAJ
namespace Go.Proofs.YtmlgajhhnojdjaaGreatDoor
namespace FlwA
open Go Go.RowKit Sq Aux PrjF PrjG PrjJ PrjK PrjL PrjM PrjN PrjO PrjP PrjR
def ah (x:Nat×Nat):Nat:=if x.2=2 then 2*x.1+1 else 2*x.1
def QP.ai (q:QP)(x:Nat×Nat):List (Nat×Nat):=if x.2=0/\q.cF x.1=2 then [(x.1,1),(x.1,2)]else [x]
theorem M0 {a b:Int}(h:a=b):Ending.returned (.int .i64 a)=.returned (.int .i64 b):=by rw[h]
set_option maxRecDepth 20000 in
theorem cf (x:Nat×Nat)(w:World)(hx:x.1<=4000):
  Calls Tryz.prog 62 #[.agg #[.int .i64 (x.1:Nat),.int .i64 (x.2:Nat)]] w fun e w'=>e=.returned (.int .i64 (ah x:Nat))/\Below w.heap.size w w':=by
 have aO:Below w.heap.size w (w.alloc (.cells #[.int .i64 (x.1:Nat),.int .i64 (x.2:Nat)] 119)):=(Below.refl _ _).alloc (jC _) _;by_cases h:x.2=2
 ·have hb:(((x.2:Nat):Int)==2)=true:=by rw[h];rfl
  have hs:ah x=2*x.1+1:=by rw[ah,jb h]
  rw[hs];clear h;go_enter Tryz.func62,Tryz.ntmps62
  go_wp2
  go_ret
  exact⟨M0 (by omega),aO⟩
 ·have hb:(((x.2:Nat):Int)==2)=false:=by rw[jZ];omega
  have hs:ah x=2*x.1:=by rw[ah,ja h]
  rw[hs];clear h;go_enter Tryz.func62,Tryz.ntmps62
  go_wp2
  go_ret
  exact⟨M0 (by omega),aO⟩
def ay (z:Nat)(w:World)(v:Value)(ps:List (Nat×Nat)):Prop:=w.ownsRow z 119 2 v ps.length (aM ps)
theorem ir (w:World)(ps:List (Nat×Nat))(hps:ps.length<=100):ay w.heap.size (w.alloc (.cells (aM ps).toArray 119)) (.slice (some ⟨w.heap.size,0,none⟩) ps.length ps.length) ps:=by
 have hl:(aM ps).length=ps.length*2:=lM qw 2 (fun _=>rfl) ps;refine⟨hl,.inr ⟨w.heap.size,ps.length,(aM ps).toArray,rfl,jC _,jD,jC _,by unfold maxLen;omega,by simpa using hl,?_⟩⟩;rw[<-hl];simp
set_option maxRecDepth 20000 in
set_option maxHeartbeats 1000000 in
theorem cC (q:QP)(x:Nat×Nat)(v u:Value)(a:Nat)(w:World)(hp:w.heap[a]?=some (.cells #[v,u] 110 (0,0)))(hv:eT w v q.locals)(hx:x.1<q.locals.length):
  Calls Tryz.prog 102 #[.pointer (some ⟨a,0,none⟩),.agg #[.int .i64 (x.1:Nat),.int .i64 (x.2:Nat)]] w fun e w'=>∃g c,e=.returned (.slice (some ⟨g,0,none⟩) (QP.ai q x).length c)/\ay w.heap.size w' (.slice (some ⟨g,0,none⟩) (QP.ai q x).length c) (QP.ai q x)/\Below w.heap.size w w':=by
 obtain⟨g,cap,rfl,gK,hg,-,hc⟩:=gR hv x.1 hx;have aP:=lt_of_heap hp;have aO:Below w.heap.size w (w.alloc (.cells #[.int .i64 (x.1:Nat),.int .i64 (x.2:Nat)] 119)):=(Below.refl _ _).alloc (jC _) _;have c0:w.cell? ⟨a,0,none⟩=some (.slice (some ⟨g,0,none⟩) q.locals.length cap):=by rw[cell_of_heap hp];rfl
 have c0A:(w.alloc (.cells #[.int .i64 (x.1:Nat),.int .i64 (x.2:Nat)] 119)).cell? ⟨a,0,none⟩=some (.slice (some ⟨g,0,none⟩) q.locals.length cap):=(aO.cell (p:=⟨a,0,none⟩) aP).trans c0;have c1A:=(aO.cell (p:=⟨g,x.1*2+1,none⟩) hg).trans hc;have c2A:(w.alloc (.cells #[.int .i64 (x.1:Nat),.int .i64 (x.2:Nat)] 119)).cell? ⟨w.heap.size,0,none⟩=some (.int .i64 (x.1:Nat)):=by simp
 have c3A:(w.alloc (.cells #[.int .i64 (x.1:Nat),.int .i64 (x.2:Nat)] 119)).cell? ⟨w.heap.size,1,none⟩=some (.int .i64 (x.2:Nat)):=by simp
 have YW:(x.1:Int)<q.locals.length:=by omega
 have hT:Hid ((q.locals.getD x.1 ([],0)).2=q.cF x.1):=rfl;have gP:∀n,((w.alloc (.cells #[.int .i64 (x.1:Nat),.int .i64 (x.2:Nat)] 119)).drewN n).heap.size=w.heap.size+1:=fun n=>by simp
 have hd:∀n,Below w.heap.size w ((w.alloc (.cells #[.int .i64 (x.1:Nat),.int .i64 (x.2:Nat)] 119)).drewN n):=fun n=>below_drewN aO n
 generalize (q.locals.getD x.1 ([],0)).2=t at*;by_cases h0:x.2=0
 ·have b0:(((x.2:Nat):Int)==0)=true:=by rw[h0];rfl
  by_cases ht:t=2
  ·have RG:(((t:Nat):Int)==2)=true:=by rw[ht];rfl
   have hh:QP.ai q x=[(x.1,1),(x.1,2)]:=by rw[QP.ai,jb ⟨h0,by rw[<-hT.out];exact ht⟩]
   rw[hh];clear h0 ht;go_enter Tryz.func102,Tryz.ntmps102
   go_wp2
   go_quiet (fail)
   go_wp2
   go_ret
   have hn:=ir ((w.alloc (.cells #[.int .i64 (x.1:Nat),.int .i64 (x.2:Nat)] 119)).drewN nq) [(x.1,1),(x.1,2)] (by simp);rw[gP nq]at hn;exact⟨w.heap.size+1,2,rfl,dI hn (by omega),(hd nq).alloc (hd nq).size _⟩
  ·have RG:(((t:Nat):Int)==2)=false:=by rw[jZ];omega
   have hh:QP.ai q x=[x]:=by rw[QP.ai,ja (fun e=>ht (by rw[hT.out];exact e.2))]
   rw[hh];clear h0 ht;go_enter Tryz.func102,Tryz.ntmps102
   go_wp2
   go_quiet (fail)
   go_wp2
   go_ret
   have hn:=ir ((w.alloc (.cells #[.int .i64 (x.1:Nat),.int .i64 (x.2:Nat)] 119)).drewN nq) [x] (by simp);rw[gP nq]at hn;exact⟨w.heap.size+1,1,rfl,dI hn (by omega),(hd nq).alloc (hd nq).size _⟩
 ·have b0:(((x.2:Nat):Int)==0)=false:=by rw[jZ];omega
  have hh:QP.ai q x=[x]:=by rw[QP.ai,ja (fun e=>h0 e.1)]
  rw[hh];clear h0;go_enter Tryz.func102,Tryz.ntmps102
  go_wp2
  go_quiet (fail)
  go_wp2
  go_ret
  have hn:=ir ((w.alloc (.cells #[.int .i64 (x.1:Nat),.int .i64 (x.2:Nat)] 119)).drewN nq) [x] (by simp);rw[gP nq]at hn;exact⟨w.heap.size+1,1,rfl,dI hn (by omega),(hd nq).alloc (hd nq).size _⟩
end FlwA
namespace Own
open Go Go.RowKit Sq Aux PrjJ PrjK PrjL PrjM FlwA
structure Own where
 yd:Yd
 cX:List Int
 ints:List Int
 boxes:List Nat
def Own.num (o:Own)(p:Nat×Nat):Int:=o.ints.getD p.1 0
def Own.box (o:Own)(p:Nat×Nat):Nat:=o.boxes.getD (ah p) 0
def dE (l:List Int):List Value:=l.map fun n=> .int .i64 n
def dP (l:List Nat):List Value:=l.map fun n=> .int .i64 ((n:Nat):Int)
def dT (a:Nat)(vi:Value)(o:Own):List Value:=.pointer (some ⟨a,0,none⟩)::vi::(dE o.ints++dP o.boxes)
def eE (w:World)(v:Value)(l:List Int):Prop:=∃ad c,v=.slice ad l.length c/\l.length<=c/\c<=maxLen/\∀j,j<l.length->∃g f,ad=some ⟨g,f,none⟩/\g<w.heap.size/\w.cell? ⟨g,f+j,none⟩=some (.int .i64 (l.getD j 0))
structure cg (w0:World)(x a:Nat)(w:World)(o:Own)(vi vm vt:Value):Prop where
 fC:jr w0.heap.size x 104 (dT a vi o) w o.yd vm vt
 bz:Below w0.heap.size w0 w
 ints:o.ints.length=12
 boxes:o.boxes.length=24
 feed:eE w0 vi o.cX
theorem Jd (a:Nat)(vi:Value){o:Own}{j:Nat}(hj:j<12)(hi:o.ints.length=12):(dT a vi o)[2+j]?=some (.int .i64 (o.ints.getD j 0)):=by
 have e:(dT a vi o)[2+j]?=(dE o.ints++dP o.boxes)[j]?:=by rw[Nat.add_comm];rfl
 rw[e,jg (by simp[dE,hi];exact hj),dE,jJ,jB (by omega),jA,jB (by omega)];rfl
theorem Jc (a:Nat)(vi:Value){o:Own}{j:Nat}(hj:j<24)(hi:o.ints.length=12)(hb:o.boxes.length=24):(dT a vi o)[14+j]?=some (.int .i64 ((o.boxes.getD j 0:Nat):Int)):=by
 have e:(dT a vi o)[14+j]?=(dE o.ints++dP o.boxes)[12+j]?:=by rw[show 14+j=(12+j)+2 by omega];rfl
 rw[e,jf (by simp[dE,hi]),show 12+j-(dE o.ints).length=j by simp[dE,hi],dP,jJ,jB (by omega),jA,jB (by omega)];rfl
theorem Bk (a:Nat)(vi:Value)(o:Own){j:Nat}(hj:j<12)(hi:o.ints.length=12)(v:Int):(dT a vi o).set (2+j) (.int .i64 v)=dT a vi {o with ints:=o.ints.set j v}:=by
 have e:(dT a vi o).set (2+j) (.int .i64 v)=.pointer (some ⟨a,0,none⟩)::vi::(dE o.ints++dP o.boxes).set j (.int .i64 v):=by rw[Nat.add_comm];rfl
 rw[e,List.set_append_left _ _ (by simp[dE,hi];exact hj)];simp[dT,dE,List.map_set]
theorem Bj (a:Nat)(vi:Value)(o:Own){j:Nat}(hi:o.ints.length=12)(n:Nat):(dT a vi o).set (14+j) (.int .i64 ((n:Nat):Int))=dT a vi {o with boxes:=o.boxes.set j n}:=by
 have e:(dT a vi o).set (14+j) (.int .i64 ((n:Nat):Int))=.pointer (some ⟨a,0,none⟩)::vi::(dE o.ints++dP o.boxes).set (12+j) (.int .i64 ((n:Nat):Int)):=by rw[show 14+j=(12+j)+2 by omega];rfl
 rw[e,List.set_append_right _ _ (by simp[dE,hi]),show 12+j-(dE o.ints).length=j by simp[dE,hi]];simp[dT,dP,List.map_set]
section
variable {z x a:Nat} {t:TypeId} {rest:List Value} {w w0 w1:World} {y:Yd} {vm vt vi vm1 vt1:Value} {o:Own}
theorem jr.yY (h:jr z x t rest w y vm vt)(j:Nat)(u:Value):jr z x t (rest.set j u) (w.setCell ⟨x,3+j,none⟩ u) y vm vt/\aI x vm vt w vm vt (w.setCell ⟨x,3+j,none⟩ u):=by
 obtain⟨n1,n2⟩:=h.ty.ne;refine⟨⟨h.base,h.ty,?_,aC h.made _ (az h.made h.aD n1),aC h.trace _ (az h.trace h.aD n2)⟩,⟨rfl,rfl,rfl,by simp,fun k _ h1 _ _=>Below.heap_setCell _ _ _ _ (by show k≠x;exact h1),fun _ h=> .inl h,fun _ h=> .inl h⟩⟩;rw[Aux.heap_setCell_same h.aD];congr 2;rw[List.setIfInBounds_toArray,Nat.add_comm 3 j];rfl
theorem jr.more (h:jr z x t rest w y vm vt)(j:Nat):w.cell? ⟨x,3+j,none⟩=rest[j]?/\w.frozen? ⟨x,3+j,none⟩=false:=by
 refine⟨?_,frozen_of_heap h.aD _⟩;rw[cell_of_heap h.aD,Nat.add_comm 3 j];simp
theorem cg.lt (h:cg w0 x a w o vi vm vt):x<w.heap.size:=h.fC.lt
theorem cg.below (h:cg w0 x a w o vi vm vt)(hb:Below w.heap.size w w1):cg w0 x a w1 o vi vm vt:=
 ⟨h.fC.below hb,h.bz.trans (hb.mono h.bz.size),h.ints,h.boxes,h.feed⟩
theorem cg.int (h:cg w0 x a w o vi vm vt){j:Nat}(hj:j<12):w.cell? ⟨x,5+j,none⟩=some (.int .i64 (o.ints.getD j 0))/\w.frozen? ⟨x,5+j,none⟩=false:=by
 have:=h.fC.more (2+j);rw[Jd a vi hj h.ints,show 3+(2+j)=5+j by omega]at this;exact this
theorem cg.bx (h:cg w0 x a w o vi vm vt){j:Nat}(hj:j<24):w.cell? ⟨x,17+j,none⟩=some (.int .i64 ((o.boxes.getD j 0:Nat):Int))/\w.frozen? ⟨x,17+j,none⟩=false:=by
 have:=h.fC.more (14+j);rw[Jc a vi hj h.ints h.boxes,show 3+(14+j)=17+j by omega]at this;exact this
theorem cg.setInt (h:cg w0 x a w o vi vm vt){j:Nat}(hj:j<12)(v:Int):cg w0 x a (w.setCell ⟨x,5+j,none⟩ (.int .i64 v)) {o with ints:=o.ints.set j v} vi vm vt/\aI x vm vt w vm vt (w.setCell ⟨x,5+j,none⟩ (.int .i64 v)):=by
 obtain⟨h1,h2⟩:=h.fC.yY (2+j) (.int .i64 v);rw[Bk a vi o hj h.ints,show 3+(2+j)=5+j by omega]at h1;rw[show 3+(2+j)=5+j by omega]at h2;exact⟨⟨h1,h.bz.trans (h2.below h.fC (jC _) h.bz.size),by simpa using h.ints,h.boxes,h.feed⟩,h2⟩
theorem cg.Jh (h:cg w0 x a w o vi vm vt)(j:Nat)(n:Nat):cg w0 x a (w.setCell ⟨x,17+j,none⟩ (.int .i64 ((n:Nat):Int))) {o with boxes:=o.boxes.set j n} vi vm vt/\aI x vm vt w vm vt (w.setCell ⟨x,17+j,none⟩ (.int .i64 ((n:Nat):Int))):=by
 obtain⟨h1,h2⟩:=h.fC.yY (14+j) (.int .i64 ((n:Nat):Int));rw[Bj a vi o h.ints,show 3+(14+j)=17+j by omega]at h1;rw[show 3+(14+j)=17+j by omega]at h2;exact⟨⟨h1,h.bz.trans (h2.below h.fC (jC _) h.bz.size),h.ints,by simpa using h.boxes,h.feed⟩,h2⟩
theorem cg.GG (h:cg w0 x a w o vi vm vt){y':Yd}(h1:jr w0.heap.size x 104 (dT a vi o) w1 y' vm1 vt1)(h2:aI x vm vt w vm1 vt1 w1):cg w0 x a w1 {o with yd:=y'} vi vm1 vt1:=
 ⟨h1,h.bz.trans (h2.below h.fC (jC _) h.bz.size),h.ints,h.boxes,h.feed⟩
end
end Own
namespace Own
open Go Go.RowKit Sq Aux PrjJ PrjK PrjL PrjM FlwA
section
variable {x a:Nat} {w w0:World} {vm vt vi:Value} {o:Own}
set_option maxRecDepth 20000 in
theorem ei (h:cg w0 x a w o vi vm vt)(p:Nat×Nat)(hp:p.1<12):
  Calls Tryz.prog 58 #[.pointer (some ⟨x,0,none⟩),.agg #[.int .i64 (p.1:Nat),.int .i64 (p.2:Nat)]] w fun e w'=>e=.returned (.int .i64 (o.num p))/\Below w.heap.size w w':=by
 have aO:Below w.heap.size w (w.alloc (.cells #[.int .i64 (p.1:Nat),.int .i64 (p.2:Nat)] 119)):=(Below.refl _ _).alloc (jC _) _;have HA:=h.below aO;have c1:=(HA.int hp).1;have Zr:(p.1:Int)<12:=by omega
 go_enter Tryz.func58,Tryz.ntmps58
 go_wp2
 go_region
 all_goals go_wp2_with fail
 all_goals
  go_ret
  exact⟨rfl,⟨aO.os,aO.tape,aO.output,aO.size,aO.block⟩⟩
set_option maxRecDepth 20000 in
theorem rW (h:cg w0 x a w o vi vm vt)(p:Nat×Nat)(hp:p.1<12):
  Calls Tryz.prog 99 #[.pointer (some ⟨x,0,none⟩),.agg #[.int .i64 (p.1:Nat),.int .i64 (p.2:Nat)]] w fun e w'=>e=.returned (.int .i64 ((o.box p:Nat):Int))/\Below w.heap.size w w':=by
 have aO:Below w.heap.size w (w.alloc (.cells #[.int .i64 (p.1:Nat),.int .i64 (p.2:Nat)] 119)):=(Below.refl _ _).alloc (jC _) _;have HA:=h.below aO;have gO:ah p<24:=by unfold ah;split<;>omega
 have Im:(ah p:Int)<24:=by omega
 have KS:=cf p (w.alloc (.cells #[.int .i64 (p.1:Nat),.int .i64 (p.2:Nat)] 119)).drew (by omega);go_enter Tryz.func99,Tryz.ntmps99
 go_wp2
 go_region_with (go_at_call 62;refine KS.mono ?_;rintro e w1 ⟨rfl,aB⟩;have bu:Below (w.alloc (.cells #[.int .i64 (p.1:Nat),.int .i64 (p.2:Nat)] 119)).heap.size (w.alloc (.cells #[.int .i64 (p.1:Nat),.int .i64 (p.2:Nat)] 119)) w1:=⟨aB.os,aB.tape,aB.output,aB.size,aB.block⟩;have c1:=((HA.below bu).bx gO).1)
 all_goals go_wp2_with fail
 all_goals
  go_ret
  exact⟨rfl,aO.trans (bu.mono aO.size)⟩
end
def cY (n:Int):Prop:= -9223372036854775808<=n/\n<=9223372036854775807
def qM (op:Nat)(m n:Int):Int:=if op=3 then wrap64 (m+n)else if op=4 then wrap64 (m-n)else if op=5 then wrap64 (m*n)else wrap64 (m.tdiv n)
theorem su (op:Nat)(m n:Int)(w:World)(hn:op=6->¬n=0)(ho:op=3\/op=4\/op=5\/op=6)(_hm: -9223372036854775808<=m/\m<=9223372036854775807)(_hn': -9223372036854775808<=n/\n<=9223372036854775807):
  Calls Tryz.prog 95 #[.int .i64 (op:Nat),.int .i64 m,.int .i64 n] w fun e w'=>e=.returned (.int .i64 (qM op m n))/\w'=w:=by
 rcases ho with rfl|rfl|rfl|rfl
 ·go_enter Tryz.func95,Tryz.ntmps95
  go_wp2
  go_ret
  exact⟨rfl,rfl⟩
 ·go_enter Tryz.func95,Tryz.ntmps95
  go_wp2
  go_ret
  exact⟨rfl,rfl⟩
 ·go_enter Tryz.func95,Tryz.ntmps95
  go_wp2
  go_ret
  exact⟨rfl,rfl⟩
 ·have h0:(n==0)=false:=by rw[jZ];exact hn rfl
  go_enter Tryz.func95,Tryz.ntmps95
  go_wp2
  go_ret
  exact⟨rfl,rfl⟩
abbrev Wy (l:ab)(ap an:Option Addr)(cp cn:Nat):Value:=.agg #[.int .i64 (l.num:Nat),.int .i64 (l.op:Nat),.slice ap l.places.length cp,.int .i64 l.number,.int .i64 l.flag,.slice an l.next.length cn]
section
variable {x a:Nat} {w w0:World} {vm vt vi:Value} {o:Own}
set_option maxRecDepth 20000 in
theorem Ma {z:Nat}{l:ab}{ap an:Option Addr}{cp cn:Nat}(hl:aE z w l (.slice ap l.places.length cp) (.slice an l.next.length cn))(b:Bool)(hb:(if b then 1 else 0)<l.next.length):
  Calls Tryz.prog 100 #[Wy l ap an cp cn,.bool b] w fun e w'=>e=.returned (.int .i64 ((l.next.getD (if b then 1 else 0) 0:Nat):Int))/\Below w.heap.size w w':=by
 have aO:Below w.heap.size w (w.alloc (.cells #[.int .i64 (l.num:Nat),.int .i64 (l.op:Nat),.slice ap l.places.length cp,.int .i64 l.number,.int .i64 l.flag,.slice an l.next.length cn] 115)):=(Below.refl _ _).alloc (jC _) _;obtain⟨g,cap,e,hc,hg,aQ⟩:=bL hl.next (by omega);simp only[Value.slice.injEq]at e;obtain⟨rfl,-,rfl⟩:=e;have c1:=aQ (if b then 1 else 0) (by omega);have c2:(df l.next)[if b then 1 else 0]?=some (.int .i64 ((l.next.getD (if b then 1 else 0) 0:Nat):Int)):=by
  rw[df,jJ,jB hb,jA,jB hb];rfl
 rw[c2]at c1;have c3:=(aO.cell (p:=⟨g,if b then 1 else 0,none⟩) hg).trans c1;cases b
 ·simp only[Bool.false_eq_true,if_false]at c1 c3 hb;have So:(0:Int)<l.next.length:=by omega
  go_enter Tryz.func100,Tryz.ntmps100
  go_wp2
  go_ret
  exact⟨rfl,aO⟩
 ·simp only[if_true]at c1 c3 hb;have So:(1:Int)<l.next.length:=by omega
  go_enter Tryz.func100,Tryz.ntmps100
  go_wp2
  go_ret
  exact⟨rfl,aO⟩
end
end Own
namespace PrjS
open Go Go.RowKit Sq PrjF PrjG PrjH
def eg (c:UInt8):Bool:= !(c==35)&& !(c==118)&& !(c==102)&& !(c==98)
structure iB (nl nb:Nat)(l:ab):Prop where
 op:l.op<23
 PA:2<=l.op
 places:∀x∈l.places,x.1<nl/\x.2<=3
 cP:l.places.length=((ae l.op).filter eg).length
 next:∀n∈l.next,n<nb
 pI:l.next.length=((ae l.op).filter (·==98)).length
 flag:0<=l.flag/\l.flag<=1000000000
 number: -1000000000<=l.number/\l.number<=1000000000
theorem iB.mono {nl nl' nb:Nat}{l:ab}(h:iB nl nb l)(hn:nl<=nl'):iB nl' nb l:=
 ⟨h.op,h.PA,fun x hx=>⟨jK (h.places x hx).1 hn,(h.places x hx).2⟩,h.cP,h.next,h.pI,h.flag,h.number⟩
theorem LY (w:B):((bd w).getD ([],0)).2<=3:=by
 rw[bd];split
 ·simp
 ·repeat (first|(split;simp)|simp)
theorem FK (w:B): -1000000000<=(cI w).getD 0/\(cI w).getD 0<=1000000000:=by
 cases w with
 |nil=>decide
 |cons c r=>
  rw[cI];split
  ·have:=ed r;cases hd:av r with
   |none=>simp
   |some n=>
    rw[hd]at this;simp only[Option.getD_some]at this;by_cases hn:n=0
    ·simp[hn]
    ·simp[hn];omega
  ·have:=ed (c::r);constructor<;>omega
theorem ye {ls:List (B×Nat)}{n:B}(h:¬cE ls n<0):(cE ls n).toNat<ls.length:=by
 have:=oy ls n 0;change-1<=cE ls n/\cE ls n<_ at this;omega
theorem gQ (ls:List (B×Nat))(nb:Nat):∀(f:B) (ws:List B) (l0 l:ab),bV ls nb f ws l0=some l->(∀x∈l0.places,x.1<ls.length/\x.2<=3)->(∀n∈l0.next,n<nb)->(0<=l0.flag/\l0.flag<=1000000000)->(-1000000000<=l0.number/\l0.number<=1000000000)->
  l.op=l0.op/\l.num=l0.num/\(∀x∈l.places,x.1<ls.length/\x.2<=3)/\(∀n∈l.next,n<nb)/\l.places.length=l0.places.length+(f.filter eg).length/\l.next.length=l0.next.length+(f.filter (·==98)).length/\(0<=l.flag/\l.flag<=1000000000)/\(-1000000000<=l.number/\l.number<=1000000000)
 |[],ws,l0,l,h,h1,h2,h3,h4=>by
  simp only[bV,Option.some.injEq]at h;subst h;exact⟨rfl,rfl,h1,h2,rfl,rfl,h3,h4⟩
 |c::f,ws,l0,l,h,h1,h2,h3,h4=>by
  rw[bV]at h;by_cases c1:c=35\/c=118
  ·rw[jb c1]at h;have ih:=gQ ls nb f (ws.drop 1) _ l h h1 h2 h3 (FK _);have e1:eg c=false:=by rcases c1 with rfl|rfl<;>rfl
   have e2:(c==98)=false:=by rcases c1 with rfl|rfl<;>rfl
   simpa [List.filter_cons,e1,e2]using ih
  ·rw[ja c1]at h;by_cases c2:c=102
   ·rw[jb c2]at h;have ih:=gQ ls nb f (ws.drop 1) _ l h h1 h2 (ed _) h4;subst c2;have e1:eg 102=false:=rfl;simpa [List.filter_cons,e1]using ih
   ·rw[ja c2]at h;by_cases c3:c=98
    ·rw[jb c3]at h;split at h
     ·cases h
     ·rename_i hn;have hd:=ed (word ws 0);have ih:=gQ ls nb f (ws.drop 1) _ l h h1 (fun n DV=>by
       simp only[List.mem_append,List.mem_singleton]at DV;rcases DV with DV|DV
       ·exact h2 n DV
       ·omega) h3 h4
      subst c3;have e1:eg 98=false:=rfl;obtain⟨i1,i2,i3,i4,i5,i6,i7,i8⟩:=ih;refine⟨i1,i2,i3,i4,by rw[i5];simp[e1],by rw[i6];simp;omega,i7,i8⟩
    ·rw[ja c3]at h;split at h
     ·cases h
     ·rename_i hn;have ih:=gQ ls nb f (ws.drop 1) _ l h (fun x hx=>by
       simp only[List.mem_append,List.mem_singleton]at hx;rcases hx with hx|rfl
       ·exact h1 x hx
       ·exact⟨ye hn,LY _⟩) h2 h3 h4
      simp only[not_or]at c1;have e1:eg c=true:=by simp[eg,c1.1,c1.2,c2,c3]
      have e2:(c==98)=false:=by simp[c3]
      obtain⟨i1,i2,i3,i4,i5,i6,i7,i8⟩:=ih;refine⟨i1,i2,i3,i4,by rw[i5];simp[e1];omega,by rw[i6];simp[e2],i7,i8⟩
theorem IJ {ls:List (B×Nat)}{nb:Nat}{x:Nat×List B}{l:ab}(h:cU ls nb x=some l)(h1:x.1<23)(h2:2<=x.1):iB ls.length nb l:=by
 rw[cU]at h;obtain⟨i1,-,i3,i4,i5,i6,i7,i8⟩:=gQ ls nb _ _ _ _ h (by simp) (by simp) (by simp) (by simp);simp only at i1;exact⟨by rw[i1];exact h1,by rw[i1];exact h2,i3,by rw[i1,i5];simp,i4,by rw[i1,i6];simp,i7,i8⟩
structure vZ (nb:Nat)(q:QP):Prop where
 types:∀x∈q.locals,x.2<=3
 lines:∀b∈q.blocks,∀l∈b,iB q.locals.length nb l
theorem Jv {w:B}{n:Nat}(h:c7 w=some n):n<4:=by
 have:=(lT _ _ _ _ h).2.1;simpa [bZ]using this
theorem R0 (w:B):(c7 w).getD 0<=3:=by
 cases h:c7 w with
 |none=>simp
 |some k=>have:=Jv h;simp;omega
theorem kb (nb:Nat):∀(S:List (Nat×List B)) (i:Nat) (q0 q:QP),aJ nb S i q0=(q,none)->(∀x∈S,x.1<23)->vZ nb q0->vZ nb q
 |[],i,q0,q,h,_,h0=>by
  simp only[aJ,Prod.mk.injEq,and_true]at h;subst h;exact h0
 |x::r,i,q0,q,h,hx,h0=>by
  have hr:∀y∈r,y.1<23:=fun y hy=>hx y (jN _ hy)
  have vM:=hx x (jM ..);rw[aJ]at h;by_cases e0:x.1=0
  ·rw[jb e0]at h;split at h
   ·cases h
   ·refine kb nb r (i+1) _ q h hr ⟨fun y hy=> ?_,fun b hb l hl=>(h0.lines b hb l hl).mono (by simp[QP.addLocal])⟩;simp only[QP.addLocal,List.mem_append,List.mem_singleton]at hy;rcases hy with hy|rfl
    ·exact h0.types y hy
    ·exact R0 _
  ·rw[ja e0]at h;by_cases e1:x.1=1
   ·rw[jb e1]at h;refine kb nb r (i+1) _ q h hr ⟨h0.types,fun b hb l hl=> ?_⟩;simp only[QP.addBlock,List.mem_append,List.mem_singleton]at hb;rcases hb with hb|rfl
    ·exact h0.lines b hb l hl
    ·cases hl
   ·rw[ja e1]at h;cases hl:cU q0.locals nb x with
    |none=>rw[hl]at h;cases h
    |some l=>
     rw[hl]at h;have ok:=IJ hl vM (by omega);have ok':iB q0.locals.length nb {l with num:=i}:=⟨ok.op,ok.PA,ok.places,ok.cP,ok.next,ok.pI,ok.flag,ok.number⟩;refine kb nb r (i+1) _ q h hr ⟨h0.types,fun b hb y hy=> ?_⟩;simp only[QP.addLine,List.mem_append,List.mem_singleton]at hb;rcases hb with hb|rfl
     ·exact h0.lines b (List.dropLast_subset _ hb) y hy
     ·simp only[List.mem_append,List.mem_singleton]at hy;rcases hy with hy|rfl
      ·rw[List.getLastD_eq_getLast?]at hy;cases hq:q0.blocks.getLast? with
       |none=>rw[hq]at hy;simp at hy
       |some b'=>
        rw[hq]at hy;exact h0.lines b' (List.mem_of_getLast? hq) y hy
      ·exact ok'
end PrjS
end Go.Proofs.YtmlgajhhnojdjaaGreatDoor

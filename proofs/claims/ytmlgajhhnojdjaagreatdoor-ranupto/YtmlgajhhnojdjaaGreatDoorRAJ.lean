import Derived.Test.YtmlgajhhnojdjaaGreatDoorRAI
import Derived.Deep.DeepCutAuto
namespace Go.Proofs.YtmlgajhhnojdjaaGreatDoor
namespace FlwA
open Go Go.RowKit Sq Aux PrjF PrjG PrjJ PrjK PrjL PrjM PrjN PrjO PrjP PrjR
def ah (x:Nat×Nat):Nat:=if x.2=2 then 2*x.1+1 else 2*x.1
def QP.ae (q:QP)(x:Nat×Nat):List (Nat×Nat):=if x.2=0/\q.bB x.1=2 then [(x.1,1),(x.1,2)]else [x]
theorem WJ {a b:Int}(h:a=b):Ending.returned (.int .i64 a)=.returned (.int .i64 b):=by rw[h]
set_option maxRecDepth 20000 in
theorem kU (x:Nat×Nat)(w:World)(hx:x.1<=4000):
  Calls Tryz.prog 62 #[.agg #[.int .i64 (x.1:Nat),.int .i64 (x.2:Nat)]] w fun e w'=>e=.returned (.int .i64 (ah x:Nat))/\Below w.heap.size w w':=by
 have aY:Below w.heap.size w (w.alloc (.cells #[.int .i64 (x.1:Nat),.int .i64 (x.2:Nat)] 119)):=(Below.refl _ _).alloc (jC _) _;by_cases h:x.2=2
 ·have hb:(((x.2:Nat):Int)==2)=true:=by rw[h];rfl
  have hs:ah x=2*x.1+1:=by rw[ah,jb h]
  rw[hs];clear h;go_enter Tryz.func62,Tryz.ntmps62
  go_wp2
  go_ret
  exact⟨WJ (by omega),aY⟩
 ·have hb:(((x.2:Nat):Int)==2)=false:=by rw[jZ];omega
  have hs:ah x=2*x.1:=by rw[ah,ja h]
  rw[hs];clear h;go_enter Tryz.func62,Tryz.ntmps62
  go_wp2
  go_ret
  exact⟨WJ (by omega),aY⟩
def bP (z:Nat)(w:World)(v:Value)(ps:List (Nat×Nat)):Prop:=w.ownsRow z 119 2 v ps.length (bL ps)
theorem mJ (w:World)(ps:List (Nat×Nat))(Qb:ps.length<=100):bP w.heap.size (w.alloc (.cells (bL ps).toArray 119)) (.slice (some ⟨w.heap.size,0,none⟩) ps.length ps.length) ps:=by
 have hl:(bL ps).length=ps.length*2:=Gm BE 2 (fun _=>rfl) ps;refine⟨hl,.inr ⟨w.heap.size,ps.length,(bL ps).toArray,rfl,jC _,jD,jC _,by unfold maxLen;omega,by simpa using hl,?_⟩⟩;rw[<-hl];simp
set_option maxRecDepth 20000 in
set_option maxHeartbeats 1000000 in
theorem ef (q:QP)(x:Nat×Nat)(v u:Value)(a:Nat)(w:World)(hp:w.heap[a]?=some (.cells #[v,u] 110 (0,0)))(hv:mc w v q.locals)(hx:x.1<q.locals.length):
  Calls Tryz.prog 102 #[.pointer (some ⟨a,0,none⟩),.agg #[.int .i64 (x.1:Nat),.int .i64 (x.2:Nat)]] w fun e w'=>∃g c,e=.returned (.slice (some ⟨g,0,none⟩) (QP.ae q x).length c)/\bP w.heap.size w' (.slice (some ⟨g,0,none⟩) (QP.ae q x).length c) (QP.ae q x)/\Below w.heap.size w w':=by
 obtain⟨g,cap,rfl,kM,hg,-,hc⟩:=se hv x.1 hx;have aL:=lt_of_heap hp;have aY:Below w.heap.size w (w.alloc (.cells #[.int .i64 (x.1:Nat),.int .i64 (x.2:Nat)] 119)):=(Below.refl _ _).alloc (jC _) _;have c0:w.cell? ⟨a,0,none⟩=some (.slice (some ⟨g,0,none⟩) q.locals.length cap):=by rw[cell_of_heap hp];rfl
 have c0A:(w.alloc (.cells #[.int .i64 (x.1:Nat),.int .i64 (x.2:Nat)] 119)).cell? ⟨a,0,none⟩=some (.slice (some ⟨g,0,none⟩) q.locals.length cap):=(aY.cell (p:=⟨a,0,none⟩) aL).trans c0;have c1A:=(aY.cell (p:=⟨g,x.1*2+1,none⟩) hg).trans hc;have c2A:(w.alloc (.cells #[.int .i64 (x.1:Nat),.int .i64 (x.2:Nat)] 119)).cell? ⟨w.heap.size,0,none⟩=some (.int .i64 (x.1:Nat)):=by simp
 have c3A:(w.alloc (.cells #[.int .i64 (x.1:Nat),.int .i64 (x.2:Nat)] 119)).cell? ⟨w.heap.size,1,none⟩=some (.int .i64 (x.2:Nat)):=by simp
 have hxi:(x.1:Int)<q.locals.length:=by omega
 have hT:Hid ((q.locals.getD x.1 ([],0)).2=q.bB x.1):=rfl;have ly:∀n,((w.alloc (.cells #[.int .i64 (x.1:Nat),.int .i64 (x.2:Nat)] 119)).drewN n).heap.size=w.heap.size+1:=fun n=>by simp
 have hd:∀n,Below w.heap.size w ((w.alloc (.cells #[.int .i64 (x.1:Nat),.int .i64 (x.2:Nat)] 119)).drewN n):=fun n=>below_drewN aY n
 generalize (q.locals.getD x.1 ([],0)).2=t at*;by_cases h0:x.2=0
 ·have b0:(((x.2:Nat):Int)==0)=true:=by rw[h0];rfl
  by_cases ht:t=2
  ·have htb:(((t:Nat):Int)==2)=true:=by rw[ht];rfl
   have hh:QP.ae q x=[(x.1,1),(x.1,2)]:=by rw[QP.ae,jb ⟨h0,by rw[<-hT.out];exact ht⟩]
   rw[hh];clear h0 ht;go_enter Tryz.func102,Tryz.ntmps102
   go_wp2
   go_quiet (fail)
   go_wp2
   go_ret
   have hn:=mJ ((w.alloc (.cells #[.int .i64 (x.1:Nat),.int .i64 (x.2:Nat)] 119)).drewN nq) [(x.1,1),(x.1,2)] (by simp);rw[ly nq]at hn;exact⟨w.heap.size+1,2,rfl,oY hn (by omega),(hd nq).alloc (hd nq).size _⟩
  ·have htb:(((t:Nat):Int)==2)=false:=by rw[jZ];omega
   have hh:QP.ae q x=[x]:=by rw[QP.ae,ja (fun e=>ht (by rw[hT.out];exact e.2))]
   rw[hh];clear h0 ht;go_enter Tryz.func102,Tryz.ntmps102
   go_wp2
   go_quiet (fail)
   go_wp2
   go_ret
   have hn:=mJ ((w.alloc (.cells #[.int .i64 (x.1:Nat),.int .i64 (x.2:Nat)] 119)).drewN nq) [x] (by simp);rw[ly nq]at hn;exact⟨w.heap.size+1,1,rfl,oY hn (by omega),(hd nq).alloc (hd nq).size _⟩
 ·have b0:(((x.2:Nat):Int)==0)=false:=by rw[jZ];omega
  have hh:QP.ae q x=[x]:=by rw[QP.ae,ja (fun e=>h0 e.1)]
  rw[hh];clear h0;go_enter Tryz.func102,Tryz.ntmps102
  go_wp2
  go_quiet (fail)
  go_wp2
  go_ret
  have hn:=mJ ((w.alloc (.cells #[.int .i64 (x.1:Nat),.int .i64 (x.2:Nat)] 119)).drewN nq) [x] (by simp);rw[ly nq]at hn;exact⟨w.heap.size+1,1,rfl,oY hn (by omega),(hd nq).alloc (hd nq).size _⟩
end FlwA
namespace Own
open Go Go.RowKit Sq Aux PrjJ PrjK PrjL PrjM FlwA
structure Own where
 yd:Yd
 al:List Int
 ints:List Int
 boxes:List Nat
def Own.num (o:Own)(p:Nat×Nat):Int:=o.ints.getD p.1 0
def Own.box (o:Own)(p:Nat×Nat):Nat:=o.boxes.getD (ah p) 0
def fv (l:List Int):List Value:=l.map fun n=> .int .i64 n
def fP (l:List Nat):List Value:=l.map fun n=> .int .i64 ((n:Nat):Int)
def fS (a:Nat)(vi:Value)(o:Own):List Value:=.pointer (some ⟨a,0,none⟩)::vi::(fv o.ints++fP o.boxes)
def bY (w:World)(v:Value)(l:List Int):Prop:=∃ad c,v=.slice ad l.length c/\l.length<=c/\c<=maxLen/\∀j,j<l.length->∃g f,ad=some ⟨g,f,none⟩/\g<w.heap.size/\w.cell? ⟨g,f+j,none⟩=some (.int .i64 (l.getD j 0))
structure dp (w0:World)(x a:Nat)(w:World)(o:Own)(vi vm vt:Value):Prop where
 kb:oB w0.heap.size x 104 (fS a vi o) w o.yd vm vt
 br:Below w0.heap.size w0 w
 ints:o.ints.length=12
 boxes:o.boxes.length=24
 feed:bY w0 vi o.al
theorem S8 (a:Nat)(vi:Value){o:Own}{j:Nat}(hj:j<12)(hi:o.ints.length=12):(fS a vi o)[2+j]?=some (.int .i64 (o.ints.getD j 0)):=by
 have e:(fS a vi o)[2+j]?=(fv o.ints++fP o.boxes)[j]?:=by rw[Nat.add_comm];rfl
 rw[e,jg (by simp[fv,hi];exact hj),fv,jJ,jB (by omega),jA,jB (by omega)];rfl
theorem S7 (a:Nat)(vi:Value){o:Own}{j:Nat}(hj:j<24)(hi:o.ints.length=12)(hb:o.boxes.length=24):(fS a vi o)[14+j]?=some (.int .i64 ((o.boxes.getD j 0:Nat):Int)):=by
 have e:(fS a vi o)[14+j]?=(fv o.ints++fP o.boxes)[12+j]?:=by rw[show 14+j=(12+j)+2 by omega];rfl
 rw[e,jf (by simp[fv,hi]),show 12+j-(fv o.ints).length=j by simp[fv,hi],fP,jJ,jB (by omega),jA,jB (by omega)];rfl
theorem IP (a:Nat)(vi:Value)(o:Own){j:Nat}(hj:j<12)(hi:o.ints.length=12)(v:Int):(fS a vi o).set (2+j) (.int .i64 v)=fS a vi {o with ints:=o.ints.set j v}:=by
 have e:(fS a vi o).set (2+j) (.int .i64 v)=.pointer (some ⟨a,0,none⟩)::vi::(fv o.ints++fP o.boxes).set j (.int .i64 v):=by rw[Nat.add_comm];rfl
 rw[e,List.set_append_left _ _ (by simp[fv,hi];exact hj)];simp[fS,fv,List.map_set]
theorem IN (a:Nat)(vi:Value)(o:Own){j:Nat}(hi:o.ints.length=12)(n:Nat):(fS a vi o).set (14+j) (.int .i64 ((n:Nat):Int))=fS a vi {o with boxes:=o.boxes.set j n}:=by
 have e:(fS a vi o).set (14+j) (.int .i64 ((n:Nat):Int))=.pointer (some ⟨a,0,none⟩)::vi::(fv o.ints++fP o.boxes).set (12+j) (.int .i64 ((n:Nat):Int)):=by rw[show 14+j=(12+j)+2 by omega];rfl
 rw[e,List.set_append_right _ _ (by simp[fv,hi]),show 12+j-(fv o.ints).length=j by simp[fv,hi]];simp[fS,fP,List.map_set]
section
variable {z x a:Nat} {t:TypeId} {rest:List Value} {w w0 w1:World} {y:Yd} {vm vt vi vm1 vt1:Value} {o:Own}
theorem oB.E8 (h:oB z x t rest w y vm vt)(j:Nat)(u:Value):oB z x t (rest.set j u) (w.setCell ⟨x,3+j,none⟩ u) y vm vt/\aN x vm vt w vm vt (w.setCell ⟨x,3+j,none⟩ u):=by
 obtain⟨n1,n2⟩:=h.ty.ne;refine⟨⟨h.base,h.ty,?_,av h.made _ (au h.made h.aJ n1),av h.trace _ (au h.trace h.aJ n2)⟩,⟨rfl,rfl,rfl,by simp,fun k _ h1 _ _=>Below.heap_setCell _ _ _ _ (by show k≠x;exact h1),fun _ h=> .inl h,fun _ h=> .inl h⟩⟩;rw[Aux.heap_setCell_same h.aJ];congr 2;rw[List.setIfInBounds_toArray,Nat.add_comm 3 j];rfl
theorem oB.more (h:oB z x t rest w y vm vt)(j:Nat):w.cell? ⟨x,3+j,none⟩=rest[j]?/\w.frozen? ⟨x,3+j,none⟩=false:=by
 refine⟨?_,frozen_of_heap h.aJ _⟩;rw[cell_of_heap h.aJ,Nat.add_comm 3 j];simp
theorem dp.lt (h:dp w0 x a w o vi vm vt):x<w.heap.size:=h.kb.lt
theorem dp.below (h:dp w0 x a w o vi vm vt)(hb:Below w.heap.size w w1):dp w0 x a w1 o vi vm vt:=
 ⟨h.kb.below hb,h.br.trans (hb.mono h.br.size),h.ints,h.boxes,h.feed⟩
theorem dp.int (h:dp w0 x a w o vi vm vt){j:Nat}(hj:j<12):w.cell? ⟨x,5+j,none⟩=some (.int .i64 (o.ints.getD j 0))/\w.frozen? ⟨x,5+j,none⟩=false:=by
 have:=h.kb.more (2+j);rw[S8 a vi hj h.ints,show 3+(2+j)=5+j by omega]at this;exact this
theorem dp.bx (h:dp w0 x a w o vi vm vt){j:Nat}(hj:j<24):w.cell? ⟨x,17+j,none⟩=some (.int .i64 ((o.boxes.getD j 0:Nat):Int))/\w.frozen? ⟨x,17+j,none⟩=false:=by
 have:=h.kb.more (14+j);rw[S7 a vi hj h.ints h.boxes,show 3+(14+j)=17+j by omega]at this;exact this
theorem dp.setInt (h:dp w0 x a w o vi vm vt){j:Nat}(hj:j<12)(v:Int):dp w0 x a (w.setCell ⟨x,5+j,none⟩ (.int .i64 v)) {o with ints:=o.ints.set j v} vi vm vt/\aN x vm vt w vm vt (w.setCell ⟨x,5+j,none⟩ (.int .i64 v)):=by
 obtain⟨h1,h2⟩:=h.kb.E8 (2+j) (.int .i64 v);rw[IP a vi o hj h.ints,show 3+(2+j)=5+j by omega]at h1;rw[show 3+(2+j)=5+j by omega]at h2;exact⟨⟨h1,h.br.trans (h2.below h.kb (jC _) h.br.size),by simpa using h.ints,h.boxes,h.feed⟩,h2⟩
theorem dp.Th (h:dp w0 x a w o vi vm vt)(j:Nat)(n:Nat):dp w0 x a (w.setCell ⟨x,17+j,none⟩ (.int .i64 ((n:Nat):Int))) {o with boxes:=o.boxes.set j n} vi vm vt/\aN x vm vt w vm vt (w.setCell ⟨x,17+j,none⟩ (.int .i64 ((n:Nat):Int))):=by
 obtain⟨h1,h2⟩:=h.kb.E8 (14+j) (.int .i64 ((n:Nat):Int));rw[IN a vi o h.ints,show 3+(14+j)=17+j by omega]at h1;rw[show 3+(14+j)=17+j by omega]at h2;exact⟨⟨h1,h.br.trans (h2.below h.kb (jC _) h.br.size),h.ints,by simpa using h.boxes,h.feed⟩,h2⟩
theorem dp.zv (h:dp w0 x a w o vi vm vt){y':Yd}(h1:oB w0.heap.size x 104 (fS a vi o) w1 y' vm1 vt1)(h2:aN x vm vt w vm1 vt1 w1):dp w0 x a w1 {o with yd:=y'} vi vm1 vt1:=
 ⟨h1,h.br.trans (h2.below h.kb (jC _) h.br.size),h.ints,h.boxes,h.feed⟩
end
end Own
namespace Own
open Go Go.RowKit Sq Aux PrjJ PrjK PrjL PrjM FlwA
section
variable {x a:Nat} {w w0:World} {vm vt vi:Value} {o:Own}
set_option maxRecDepth 20000 in
theorem ej (h:dp w0 x a w o vi vm vt)(p:Nat×Nat)(hp:p.1<12):
  Calls Tryz.prog 58 #[.pointer (some ⟨x,0,none⟩),.agg #[.int .i64 (p.1:Nat),.int .i64 (p.2:Nat)]] w fun e w'=>e=.returned (.int .i64 (o.num p))/\Below w.heap.size w w':=by
 have aY:Below w.heap.size w (w.alloc (.cells #[.int .i64 (p.1:Nat),.int .i64 (p.2:Nat)] 119)):=(Below.refl _ _).alloc (jC _) _;have HA:=h.below aY;have c1:=(HA.int hp).1;have YV:(p.1:Int)<12:=by omega
 go_enter Tryz.func58,Tryz.ntmps58
 go_wp2
 go_region
 all_goals go_wp2_with fail
 all_goals
  go_ret
  exact⟨rfl,⟨aY.os,aY.tape,aY.output,aY.size,aY.block⟩⟩
set_option maxRecDepth 20000 in
theorem iY (h:dp w0 x a w o vi vm vt)(p:Nat×Nat)(hp:p.1<12):
  Calls Tryz.prog 99 #[.pointer (some ⟨x,0,none⟩),.agg #[.int .i64 (p.1:Nat),.int .i64 (p.2:Nat)]] w fun e w'=>e=.returned (.int .i64 ((o.box p:Nat):Int))/\Below w.heap.size w w':=by
 have aY:Below w.heap.size w (w.alloc (.cells #[.int .i64 (p.1:Nat),.int .i64 (p.2:Nat)] 119)):=(Below.refl _ _).alloc (jC _) _;have HA:=h.below aY;have yV:ah p<24:=by unfold ah;split<;>omega
 have RQ:(ah p:Int)<24:=by omega
 have KS:=kU p (w.alloc (.cells #[.int .i64 (p.1:Nat),.int .i64 (p.2:Nat)] 119)).drew (by omega);go_enter Tryz.func99,Tryz.ntmps99
 go_wp2
 go_region_with (go_at_call 62;refine KS.mono ?_;rintro e w1 ⟨rfl,aw⟩;have bU:Below (w.alloc (.cells #[.int .i64 (p.1:Nat),.int .i64 (p.2:Nat)] 119)).heap.size (w.alloc (.cells #[.int .i64 (p.1:Nat),.int .i64 (p.2:Nat)] 119)) w1:=⟨aw.os,aw.tape,aw.output,aw.size,aw.block⟩;have c1:=((HA.below bU).bx yV).1)
 all_goals go_wp2_with fail
 all_goals
  go_ret
  exact⟨rfl,aY.trans (bU.mono aY.size)⟩
end
def aO (n:Int):Prop:= -9223372036854775808<=n/\n<=9223372036854775807
def vf (op:Nat)(m n:Int):Int:=if op=3 then wrap64 (m+n)else if op=4 then wrap64 (m-n)else if op=5 then wrap64 (m*n)else wrap64 (m.tdiv n)
theorem As (op:Nat)(m n:Int)(w:World)(hn:op=6->¬n=0)(ho:op=3\/op=4\/op=5\/op=6)(_hm: -9223372036854775808<=m/\m<=9223372036854775807)(_hn': -9223372036854775808<=n/\n<=9223372036854775807):
  Calls Tryz.prog 95 #[.int .i64 (op:Nat),.int .i64 m,.int .i64 n] w fun e w'=>e=.returned (.int .i64 (vf op m n))/\w'=w:=by
 rcases ho with rfl|rfl|rfl|rfl
 ·go_enter Tryz.func95,Tryz.ntmps95
  go_wp2
  go_ret
  exact⟨rfl,rfl⟩
 ·go_enter Tryz.func95,Tryz.ntmps95
  go_wp2
  go_ret
  exact⟨rfl,rfl⟩
 ·go_enter Tryz.func95,Tryz.ntmps95
  go_wp2
  go_ret
  exact⟨rfl,rfl⟩
 ·have h0:(n==0)=false:=by rw[jZ];exact hn rfl
  go_enter Tryz.func95,Tryz.ntmps95
  go_wp2
  go_ret
  exact⟨rfl,rfl⟩
abbrev lnV (l:ab)(ap an:Option Addr)(cp cn:Nat):Value:=.agg #[.int .i64 (l.num:Nat),.int .i64 (l.op:Nat),.slice ap l.places.length cp,.int .i64 l.number,.int .i64 l.flag,.slice an l.next.length cn]
section
variable {x a:Nat} {w w0:World} {vm vt vi:Value} {o:Own}
set_option maxRecDepth 20000 in
theorem VW {z:Nat}{l:ab}{ap an:Option Addr}{cp cn:Nat}(hl:bq z w l (.slice ap l.places.length cp) (.slice an l.next.length cn))(b:Bool)(hb:(if b then 1 else 0)<l.next.length):
  Calls Tryz.prog 100 #[lnV l ap an cp cn,.bool b] w fun e w'=>e=.returned (.int .i64 ((l.next.getD (if b then 1 else 0) 0:Nat):Int))/\Below w.heap.size w w':=by
 have aY:Below w.heap.size w (w.alloc (.cells #[.int .i64 (l.num:Nat),.int .i64 (l.op:Nat),.slice ap l.places.length cp,.int .i64 l.number,.int .i64 l.flag,.slice an l.next.length cn] 115)):=(Below.refl _ _).alloc (jC _) _;obtain⟨g,cap,e,hc,hg,aD⟩:=dK hl.next (by omega);simp only[Value.slice.injEq]at e;obtain⟨rfl,-,rfl⟩:=e;have c1:=aD (if b then 1 else 0) (by omega);have c2:(dH l.next)[if b then 1 else 0]?=some (.int .i64 ((l.next.getD (if b then 1 else 0) 0:Nat):Int)):=by
  rw[dH,jJ,jB hb,jA,jB hb];rfl
 rw[c2]at c1;have c3:=(aY.cell (p:=⟨g,if b then 1 else 0,none⟩) hg).trans c1;cases b
 ·simp only[Bool.false_eq_true,if_false]at c1 c3 hb;have TV:(0:Int)<l.next.length:=by omega
  go_enter Tryz.func100,Tryz.ntmps100
  go_wp2
  go_ret
  exact⟨rfl,aY⟩
 ·simp only[if_true]at c1 c3 hb;have TV:(1:Int)<l.next.length:=by omega
  go_enter Tryz.func100,Tryz.ntmps100
  go_wp2
  go_ret
  exact⟨rfl,aY⟩
end
end Own
namespace RefB
open Go.RowKit Sq RefA
theorem Lo (l:B):(aj l).length<=l.length:=by
 unfold aj;split<;>simp
theorem La (l:B)(w:World)(h:l.length<=maxLen):
  Calls Tryz.prog 158 #[.string (bs l)] w fun e w'=>e=.returned (.bool (bX l))/\w'=w:=by
 have hl:=jS (Lo l) h;have h1:=aE l;have h2:=aE (aj l);go_enter Tryz.func158,Tryz.ntmps158
 go_wp2_with (first
  |(go_at_call 111;refine(vR l _ h).mono ?_;rintro e w' ⟨rfl,rfl⟩)
  |(go_at_call 108;refine(xY _ _ hl).mono ?_;rintro e w' ⟨rfl,rfl⟩)
  |(go_at_call 159;refine(vX l _ h).mono ?_;rintro e w' ⟨rfl,rfl⟩))
 all_goals
  go_ret
  refine⟨aP ?_,rfl⟩;rw[G6,jX];first|(simp[*];done)|(simp[*];omega)|simp_all
end RefB
namespace RefC
open Go.RowKit Sq RefA
theorem kF {o:Option Int}{a:Int}{b:Bool}(h:o.getD 0=a)(h':o.isSome=b):Ending.returned (.tuple #[.int .i64 a,.bool b])=.returned (.tuple #[.int .i64 (o.getD 0),.bool o.isSome]):=by rw[h,h']
theorem Dx (m:Int)(d:ByteArray)(k:Nat)(hk:¬k<d.size):cj m (d.toList.drop k)=some m:=by
 rw[jT (by rw[length_toList];omega)];rfl
theorem Dw (m:Int)(d:ByteArray)(k:Nat)(hk:k<d.size)(h:d[k].toNat<48\/57<d[k].toNat):cj m (d.toList.drop k)=none:=by
 rw[jE (by rw[length_toList];exact hk),<-getElem_toList d k hk,cj,ja];simp[digit];omega
theorem Iu (m:Int)(d:ByteArray)(k:Nat)(hk:k<d.size)(h:1000000000<10*m+((d[k].toNat:Int)-48)):cj m (d.toList.drop k)=none:=by
 rw[jE (by rw[length_toList];exact hk),<-getElem_toList d k hk,cj];by_cases hd:digit d[k]=true
 ·rw[jb hd,jb h]
 ·rw[ja hd]
theorem SG (m:Int)(d:ByteArray)(k:Nat)(hk:k<d.size)(h1:48<=d[k].toNat)(h2:d[k].toNat<=57)(h:10*m+((d[k].toNat:Int)-48)<=1000000000):cj m (d.toList.drop k)=cj (10*m+((d[k].toNat:Int)-48)) (d.toList.drop (k+1)):=by
 rw[jE (by rw[length_toList];exact hk),<-getElem_toList d k hk,cj,jb,ja (by omega)];simp[digit];omega
theorem rH (s:ByteArray)(h:0<s.size)(h0:s[0].toNat=45):dm s.toList=(s.extract 1 s.size).toList/\signed s.toList=true:=by
 have e:s.toList=s[0]::s.toList.drop 1:=by
  conv=>lhs;rw[<-List.drop_zero (l:=s.toList),jE (by rw[length_toList];exact h),<-getElem_toList s 0 h]
 have h1:s[0]=45:=(kW _ 45 (by omega)).mpr h0;rw[extract_toList];constructor
 ·rw[e,dm,jb h1,List.drop_succ_cons,List.drop_zero,List.take_of_length_le (by simp[length_toList])]
 ·rw[e,signed];simp[h1]
theorem j7 (s:ByteArray)(h:s.size=0\/∃h:0<s.size,¬s[0].toNat=45):dm s.toList=s.toList/\signed s.toList=false:=by
 rcases h with h|⟨h,h0⟩
 ·have:s.toList=[]:=List.eq_nil_of_length_eq_zero (by rw[length_toList];exact h);simp[this,dm,signed]
 ·have e:s.toList=s[0]::s.toList.drop 1:=by
   conv=>lhs;rw[<-List.drop_zero (l:=s.toList),jE (by rw[length_toList];exact h),<-getElem_toList s 0 h]
  have h1:¬s[0]=45:=fun e=>h0 ((kW _ 45 (by omega)).mp e)
  constructor
  ·conv=>lhs;rw[e]
   rw[dm,ja h1,<-e]
  ·rw[e,signed];simp[h1]
theorem y6 (s:ByteArray)(d:ByteArray)(hu:dm s.toList=d.toList)(h:d.size<1\/(∃h:0<d.size,d[0].toNat=48/\¬s.toList=[48])):number s.toList=none:=by
 rw[number,jb];rw[hu,length_toList];rcases h with h|⟨h,h0,h1⟩
 ·exact .inl h
 ·refine .inr ⟨?_,h1⟩;rw[List.head?_eq_getElem?,getElem?_toList d 0 h,(kW d[0] 48 (by omega)).mpr h0];rfl
theorem O8 (s:ByteArray)(d:ByteArray)(hu:dm s.toList=d.toList)(h:0<d.size)(h0:d[0].toNat=48->s.toList=[48]):number s.toList=(cj 0 d.toList).map fun n=>if signed s.toList then-n else n:=by
 rw[number,ja,hu]
 ·cases cj 0 d.toList<;>rfl
 ·rw[hu,length_toList];rintro(h'|⟨h',h2⟩)
  ·omega
  ·rw[List.head?_eq_getElem?,getElem?_toList d 0 h]at h';exact h2 (h0 ((kW d[0] 48 (by omega)).mp (by simpa using h')))
theorem DJ (s:ByteArray)(h:s.size=0):signed s.toList=false:=(j7 s (.inl h)).2
theorem yh (s:ByteArray)(h:0<s.size):signed s.toList=decide (s[0].toNat=45):=by
 by_cases h0:s[0].toNat=45
 ·rw[(rH s h h0).2];simp[h0]
 ·rw[(j7 s (.inr ⟨h,h0⟩)).2];simp[h0]
theorem Fl (s:ByteArray)(h:signed s.toList=true):dm s.toList=(s.extract 1 s.size).toList/\0<s.size:=by
 by_cases h0:0<s.size
 ·rw[yh s h0]at h;exact⟨(rH s h0 (by simpa using h)).1,h0⟩
 ·rw[DJ s (by omega)]at h;cases h
theorem Je (s:ByteArray)(h:signed s.toList=false):dm s.toList=s.toList:=by
 by_cases h0:0<s.size
 ·rw[yh s h0]at h;exact(j7 s (.inr ⟨h0,by simpa using h⟩)).1
 ·exact(j7 s (.inl (by omega))).1
set_option maxHeartbeats 1000000 in
theorem ej (s:ByteArray)(w:World)(hs:s.size<=maxLen):
  Calls Tryz.prog 112 #[.string s] w fun e w'=>e=.returned (.tuple #[.int .i64 ((number s.toList).getD 0),.bool (number s.toList).isSome])/\w'=w:=by
 unfold maxLen at hs;go_enter Tryz.func112,Tryz.ntmps112
 go_upto_region 2 with fail
 go_cut [5] (fun ls wc=>wc=w/\ls=.bool (signed s.toList))
 case first=>
  by_cases h0:0<s.size
  ·have hx:Hid (signed s.toList=decide (s[0].toNat=45)):=yh s h0;go_wp2
   go_meet
   case rel=>exact⟨rfl,by rw[hx.out];congr 1;rw[jX];simp;omega⟩
  ·have hx:Hid (signed s.toList=false):=DJ s (by omega);go_wp2
   go_meet
   case rel=>exact⟨rfl,by rw[hx.out]⟩
 case rest=>
  obtain⟨rfl,rfl⟩:=hcut;go_upto_if 17 with fail
  go_cut [4] (fun d wc'=>wc'=wc/\∃d':ByteArray,d=.string d'/\d'.size<=9223372036854775807/\Hid (dm s.toList=d'.toList))
  case first=>
   by_cases hg:signed s.toList=true
   ·have hu:=Fl s hg;obtain⟨YX,hu2⟩:=hu;have HU:Hid (dm s.toList=(s.extract 1 s.size).toList):=YX;clear YX;go_wp2
    ·go_meet
     case rel=>exact⟨rfl,_,rfl,by simp;omega,HU⟩
    ·exact absurd hg (by simp[‹signed s.toList=false›])
   ·have HU:Hid (dm s.toList=s.toList):=Je s (by simpa using hg);go_wp2
    go_meet
    case rel=>exact⟨rfl,_,rfl,by omega,HU⟩
  case rest=>
   obtain⟨rfl,d,rfl,ly,HU⟩:=hcut;by_cases hz:d.size=0
   ·have hn:Hid (number s.toList=none):=y6 s _ HU.out (.inl (by omega));go_wp2
    go_ret2
    exact⟨kF (by rw[hn.out];rfl) (by rw[hn.out];rfl),rfl⟩
   have Ez:0<d.size:=by omega
   clear hz;by_cases hq:d[0].toNat=48/\¬s.toList=[48]
   ·have hn:Hid (number s.toList=none):=y6 s _ HU.out (.inr ⟨by omega,hq⟩);obtain⟨hq1,XU⟩:=hq;have hb:(s.toList==[48])=false:=by simpa using XU
    clear XU;go_wp2
    go_ret2
    exact⟨kF (by rw[hn.out];rfl) (by rw[hn.out];rfl),rfl⟩
   have Hq:d[0].toNat=48->s.toList=[48]:=fun e=>by
    by_cases h':s.toList=[48]
    ·exact h'
    ·exact absurd ⟨e,h'⟩ hq
   clear hq;have hn:Hid (number s.toList=(cj 0 d.toList).map fun n=>if signed s.toList then-n else n):=O8 s _ HU.out (by omega) Hq;go_upto_region 5 with fail
   go_cut [31] (fun b wc'=>wc'=wc/\b=.bool false)
   case first=>
    by_cases hc:d[0].toNat=48
    ·have hb:(s.toList==[48])=true:=by simp[Hq hc]
     clear Hq;go_wp2
     go_meet
     case rel=>exact⟨rfl,by congr 1;simp;omega⟩
    ·clear Hq;go_wp2
     go_meet
     case rel=>exact⟨rfl,by congr 1;simp;omega⟩
   case rest=>
    obtain⟨rfl,rfl⟩:=hcut;clear Hq;go_wp2
    go_loop [6,7] (fun n i=>∃(k:Nat) (m:Int),k<=d.size/\i=.int .i64 k/\n=.int .i64 m/\0<=m/\m<=1000000000/\Hid (cj 0 d.toList=cj m (d.toList.drop k))) (fun _ i=>d.size-(intOf i).toNat)
    case atStart=>exact⟨0,0,jQ _,rfl,rfl,by omega,by omega,rfl⟩
    case round=>
     obtain⟨k,m,hk,rfl,rfl,hm0,YR,HM⟩:=hrel;by_cases aL:k<d.size
     ·go_wp2
      ·go_ret2
       have hx:number s.toList=none:=by rw[hn.out,HM.out,Dw m _ k aL (by omega)];rfl
       exact⟨kF (by rw[hx];rfl) (by rw[hx];rfl),rfl⟩
      ·go_ret2
       have hx:number s.toList=none:=by rw[hn.out,HM.out,Iu m _ k aL (by omega)];rfl
       exact⟨kF (by rw[hx];rfl) (by rw[hx];rfl),rfl⟩
      ·go_round
       case rel=>exact⟨k+1,10*m+((d[k].toNat:Int)-48),by omega,by go_num,by go_num,by omega,by omega,by rw[HM.out];exact SG m _ k aL (by omega) (by omega) (by omega)⟩
       case measure=>simp[intOf];omega
      ·go_ret2
       have hx:number s.toList=none:=by rw[hn.out,HM.out,Dw m _ k aL (by omega)];rfl
       exact⟨kF (by rw[hx];rfl) (by rw[hx];rfl),rfl⟩
     ·go_wp2
      ·go_ret2
       have hx:number s.toList=some (-m):=by rw[hn.out,HM.out,Dx m _ k aL,‹signed s.toList=true›];rfl
       exact⟨kF (by rw[hx];rfl) (by rw[hx];rfl),rfl⟩
      ·go_ret2
       have hx:number s.toList=some m:=by rw[hn.out,HM.out,Dx m _ k aL,‹signed s.toList=false›];rfl
       exact⟨kF (by rw[hx];rfl) (by rw[hx];rfl),rfl⟩
theorem ya (l:B)(w:World)(h:l.length<=maxLen):
  Calls Tryz.prog 112 #[.string (bs l)] w fun e w'=>e=.returned (.tuple #[.int .i64 ((number l).getD 0),.bool (number l).isSome])/\w'=w:=by
 have:=ej (bs l) w (by rw[dR];exact h)
 rwa [aE]at this
end RefC
namespace RefD
open Go.RowKit Sq RefA RefB RefC
def known:List B:=[[115,101,116],[97,100,100],[115,117,98],[109,117,108],[100,105,118],[105,110],[111,117,116],[101,110,100],[110,101,119],[115,116,111,114,101],[108,111,97,100],[109,111,118,101],[110,111,110,101],[115,111,109,101],[103,111,116,111],[105,102],[109,97,116,99,104],[100,114,111,112],[102,114,101,101],[102,108,97,103],[116,101,115,116]]
theorem VN {a b:ByteArray}{x y:Bool}(h:a=b)(h':x=y):Ending.returned (.tuple #[.string a,.bool x])=.returned (.tuple #[.string b,.bool y]):=by rw[h,h']
theorem JJ (l:B)(r:Bool)(h:l∉known):behind l r=([],false):=by
 simp only[known,List.mem_cons,List.not_mem_nil,or_false,not_or]at h;simp[behind,h]
set_option maxHeartbeats 2000000 in
theorem D4 (l:B)(r:Bool)(w:World)(h:l∈known):
  Calls Tryz.prog 87 #[.string (bs l),.bool r] w fun e w'=>e=.returned (.tuple #[.string (bs (behind l r).1),.bool (behind l r).2])/\w'=w:=by
 have ht:=aE l;simp only[known,List.mem_cons,List.not_mem_nil,or_false]at h;rcases h with rfl|rfl|rfl|rfl|rfl|rfl|rfl|rfl|rfl|rfl|rfl|rfl|rfl|rfl|rfl|rfl|rfl|rfl|rfl|rfl|rfl
 all_goals
  go_enter Tryz.func87,Tryz.ntmps87
  go_wp2
  go_ret2
  exact⟨VN (by simp[behind,bs]) (by simp[behind]),rfl⟩
set_option maxHeartbeats 2000000 in
theorem D5 (l:B)(r:Bool)(w:World)(h:l∉known):
  Calls Tryz.prog 87 #[.string (bs l),.bool r] w fun e w'=>e=.returned (.tuple #[.string (bs (behind l r).1),.bool (behind l r).2])/\w'=w:=by
 have ht:=aE l;rw[JJ l r h];have h':∀x∈known,(l==x)=false:=fun x hx=>jZ.mpr (fun e=>h (e▸hx))
 clear h;simp only[known,List.forall_mem_cons,List.not_mem_nil,false_implies,implies_true,and_true]at h';obtain⟨h1,h2,h3,h4,h5,h6,h7,h8,h9,V6,oM,cg,Eo,B6,sv,YE,YF,sw,Uz,P6,h21⟩:=h';go_enter Tryz.func87,Tryz.ntmps87
 go_wp2
 go_ret2
 exact⟨rfl,rfl⟩
theorem rT (l:B)(r:Bool)(w:World):
  Calls Tryz.prog 87 #[.string (bs l),.bool r] w fun e w'=>e=.returned (.tuple #[.string (bs (behind l r).1),.bool (behind l r).2])/\w'=w:=by
 by_cases h:l∈known
 ·exact D4 l r w h
 ·exact D5 l r w h
theorem qc (k:UInt8)(n:Nat)(hn:n<256):((k.toNat:Int)==(n:Int))=decide (k=UInt8.ofNat n):=by
 rw[jX,decide_eq_true_eq,kW k n hn];simp;omega
theorem Mn (k:UInt8)(l:B):iC k l=
  if((k.toNat:Int)==105)=true\/((k.toNat:Int)==111)=true then isName l
  else if((k.toNat:Int)==112)=true\/((k.toNat:Int)==109)=true\/((k.toNat:Int)==100)=true then bX l
  else if((k.toNat:Int)==110)=true then(number l).isSome
  else if((k.toNat:Int)==78)=true then(number l).isSome&&decide (0<=(number l).getD 0)
  else if((k.toNat:Int)==102)=true then(number l).isSome&&decide (0<=(number l).getD 0)&&decide ((number l).getD 0<50)
  else(number l).isSome&&(decide ((number l).getD 0=0)||decide ((number l).getD 0=1)):=by
 have e:=fun n hn=>qc k n hn
 have e1:=e 105 (by omega);have e2:=e 111 (by omega);have e3:=e 112 (by omega);have e4:=e 109 (by omega);have e5:=e 100 (by omega);have e6:=e 110 (by omega);have e7:=e 78 (by omega);have e8:=e 102 (by omega);simp only[Int.cast_ofNat_Int]at e1 e2 e3 e4 e5 e6 e7 e8;rw[e1,e2,e3,e4,e5,e6,e7,e8];simp only[decide_eq_true_eq,iC];cases number l<;>rfl
theorem P2 (k:UInt8)(l:B)(w:World)(h:l.length<=maxLen):
  Calls Tryz.prog 109 #[.int .u8 k.toNat,.string (bs l)] w fun e w'=>e=.returned (.bool (iC k l))/\w'=w:=by
 go_enter Tryz.func109,Tryz.ntmps109
 go_wp2_with (first
  |(go_at_call 112;refine(ya l _ h).mono ?_;rintro e w' ⟨rfl,rfl⟩)
  |(go_at_call 108;refine(xY _ _ h).mono ?_;rintro e w' ⟨rfl,rfl⟩)
  |(go_at_call 158;refine(La l _ h).mono ?_;rintro e w' ⟨rfl,rfl⟩))
 all_goals
  go_ret
  refine⟨aP ?_,rfl⟩;go_light
  rw[Mn];first|(simp[*];done)|(simp[*];omega)|(rw[jX];simp[*];done)|(rw[jX];simp[*];omega)
end RefD
namespace RefE
open Go.RowKit Sq RefA Aux
theorem G2:(Tryz.prog.info? 9).map (fun i=>(i.zero,i.size,i.bytes))=some (some (.string ⟨#[]⟩),1,16):=by kernel_rfl
set_option maxRecDepth 20000 in
set_option maxHeartbeats 1000000 in
theorem yi (s:ByteArray)(c:UInt8)(w:World)(hs:s.size<=1099511627776):
  Calls Tryz.prog 67 #[.string s,.int .u8 c.toNat] w fun e w'=>∃v,e=.returned v/\w'.ownsRow w.heap.size 9 1 v (split c s.toList).length (cellsOf (split c s.toList))/\Below w.heap.size w w':=by
 obtain⟨i,hi,A1,Ez,xX⟩:=info_parts G2;have HS:Hid (s.size<=1099511627776):=hs
 replace hs:s.size<=9223372036854775806:=by omega
 go_enter Tryz.func67,Tryz.ntmps67
 go_wp2
 go_loopw [5,6,7] (fun v fr i wr=>∃(k f:Nat) (done:List B),f<=k/\k<=s.size+1/\i=.int .i64 k/\fr=.int .i64 f/\wr.ownsRow w.heap.size 9 1 v done.length (cellsOf done)/\Below w.heap.size w wr/\Hid (k<=s.size->kg c s.toList done f k)/\Hid (k=s.size+1->split c s.toList=done)) (fun _ _ i _=>s.size+1-(intOf i).toNat)
 case atStart=>exact⟨0,0,[],jC _,jQ _,rfl,rfl,World.ownsRow_nil _ _ _ _,Below.refl _ _,fun _=>EU _ _,fun h=>by omega⟩
 case round=>
  obtain⟨k,f,done,hf,hk,rfl,rfl,js,hb,H1,H2⟩:=hrel;by_cases hle:k<=s.size
  ·have hlen:Hid (done.length<=s.size):=by have:=Cz (H1.out hle);rwa [length_toList]at this
   have ly:=hb.size;by_cases aL:k<s.size
   ·by_cases hc:s[k].toNat=c.toNat
    ·have FC:((s[k].toNat:Int)==(c.toNat:Int))=true:=by simp[hc]
     have HC:Hid (s[k].toNat=c.toNat):=hc;clear hc;go_wp2_with (at_builtin;go_must (refine Aj rfl _ _ 34 rfl w.heap.size 9 i (.string ⟨#[]⟩) 16 Tryz.underlying34 hi A1 Ez xX rfl _ _ _ rfl js _ rfl rfl (by decide) (by have:=hlen.out;have:=HS.out;omega) ly ?_);intro v' w1 hown' hgrow)
     go_roundw
     case rel=>
      refine⟨k+1,k+1,done++[(s.toList.drop f).take (k-f)],jC _,by omega,by go_num,by go_num,?_,fu hb (jC _) ly js hgrow,fun _=> ?_,fun h=> ?_⟩
      ·rw[extract_eq]at hown';simpa [cellsOf]using hown'
      ·exact Pk (H1.out hle) (by rw[length_toList];exact aL) (by rw[<-getElem_toList s k aL];exact UInt8.toNat_inj.mp HC.out)
      ·omega
     case measure=>simp[intOf];omega
    ·have FC:((s[k].toNat:Int)==(c.toNat:Int))=false:=by simp;omega
     have HC:Hid (¬s[k].toNat=c.toNat):=hc;clear hc;go_wp2
     go_roundw
     case rel=>
      refine⟨k+1,f,done,by omega,by omega,by go_num,by go_num,js,hb,fun _=> ?_,fun h=> ?_⟩
      ·exact Pl (H1.out hle) hf (by rw[length_toList];exact aL) (by rw[<-getElem_toList s k aL];exact fun e=>HC.out (by rw[e]))
      ·omega
     case measure=>simp[intOf];omega
   ·obtain rfl:k=s.size:=by omega
    go_wp2_with (at_builtin;refine Aj rfl _ _ 34 rfl w.heap.size 9 i (.string ⟨#[]⟩) 16 Tryz.underlying34 hi A1 Ez xX rfl _ _ _ rfl js _ rfl rfl (by decide) (by have:=hlen.out;have:=HS.out;omega) ly ?_;intro v' w1 hown' hgrow)
    go_roundw
    case rel=>
     refine⟨s.size+1,s.size+1,done++[(s.toList.drop f).take (s.size-f)],jC _,by omega,by go_num,by go_num,?_,fu hb (jC _) ly js hgrow,fun _=> ?_,fun h=> ?_⟩
     ·rw[extract_eq]at hown';simpa [cellsOf]using hown'
     ·omega
     ·exact LI (H1.out hle) (length_toList s).symm
    case measure=>simp[intOf]
  ·go_wp2
   go_ret
   have e:=H2.out (by omega);exact⟨_,rfl,by rw[e];exact js,hb⟩
theorem To (l:B)(c:UInt8)(w:World)(h:l.length<=1099511627776):
  Calls Tryz.prog 67 #[.string (bs l),.int .u8 c.toNat] w fun e w'=>∃v,e=.returned v/\w'.ownsRow w.heap.size 9 1 v (split c l).length (cellsOf (split c l))/\Below w.heap.size w w':=by
 have:=yi (bs l) c w (by rw[dR];exact h)
 rwa [aE]at this
end RefE
namespace RefF
open Go.RowKit Sq RefA Aux
theorem G3 (p:RP)(k:Nat)(hk:k<p.lines.length):p.inside (k+1)=if word (p.line k) 0=aR then true else if ends (word (p.line k) 0)then false else p.inside k:=by
 unfold RP.inside;rw[List.take_add_one,jB hk];have:p.line k=p.lines[k]:=by simp[RP.line,hk]
 rw[this,Option.toList_some,List.reverse_append,List.reverse_singleton,List.singleton_append,lK]
set_option maxRecDepth 20000 in
set_option maxHeartbeats 1000000 in
theorem iu (p:RP)(a i:Nat)(w:World)(hp:bf w a p)(cf:p.Ok)(hi:i<=p.lines.length):
  Calls Tryz.prog 69 #[.pointer (some ⟨a,0,none⟩),.int .i64 i] w fun e w'=>e=.returned (.bool (p.inside i))/\∃n,w'=w.drewN n:=by
 have ly:=cf.size;go_enter Tryz.func69,Tryz.ntmps69
 go_wp2
 go_loopw [5] (fun kk wr=>∃k:Nat,k<=i/\kk=.int .i64 ((k:Int)-1)/\Hid (p.inside i=p.inside k)/\∃n,wr=w.drewN n) (fun kk _=>(intOf kk+1).toNat)
 case atStart=>exact⟨i,jC _,by go_num,rfl,0,rfl⟩
 case round=>
  obtain⟨k,hk,rfl,HI,n,rfl⟩:=hrel;by_cases h0:k=0
  ·subst h0;go_wp2
   go_ret
   exact⟨aP (by rw[HI.out];rfl),n,rfl⟩
  ·obtain⟨k,rfl⟩:∃j,k=j+1:=⟨k-1,by omega⟩;have tN:k<p.lines.length:=by omega
   obtain⟨g,cap,gl,dt,kq,vB,oa,xQ,hw⟩:=hp.gH k tN;have tQ:=cf.words k tN;have qT:=hw 0 (by omega);have HS:Hid (_=_):=G3 p k tN;go_wp2_with (go_at_call 85;refine(Ee _ _).mono ?_;rintro e w' ⟨rfl,rfl⟩)
   ·go_ret
    exact⟨aP (by rw[HI.out,HS.out,jb (by simpa using‹(word (p.line k) 0==_)=true›)]),n,rfl⟩
   ·go_ret
    exact⟨aP (by rw[HI.out,HS.out,ja (by simpa using‹(word (p.line k) 0==_)=false›),jb ‹_›]),n,rfl⟩
   ·go_roundw
    case rel=>exact⟨k,by omega,rfl,by rw[HI.out,HS.out,ja (by simpa using‹(word (p.line k) 0==_)=false›),ja (by simp[*])];rfl,n,rfl⟩
    case measure=>simp[intOf]
end RefF
namespace RefG
open Go.RowKit Sq RefA Aux
theorem NY (p:RP)(name:B)(k:Nat)(hk:k<p.lets.length):p.ji name (p.lets.drop k) k=if word (p.line (p.lets.getD k 0)) 1=name then(k:Int)else p.ji name (p.lets.drop (k+1)) (k+1):=by
 rw[jE hk,RP.ji];have:p.lets.getD k 0=p.lets[k]:=by simp[hk]
 rw[this]
set_option maxRecDepth 20000 in
set_option maxHeartbeats 1000000 in
theorem mi (p:RP)(a:Nat)(name:B)(w:World)(hp:bf w a p)(cf:p.Ok):
  Calls Tryz.prog 110 #[.pointer (some ⟨a,0,none⟩),.string (bs name)] w fun e w'=>e=.returned (.int .i64 (p.find name))/\∃n,w'=w.drewN n:=by
 have ly:=cf.size;have la:=cf.Hz;obtain⟨bl,cl,hlen⟩:=hp.q9;go_enter Tryz.func110,Tryz.ntmps110
 go_wp2
 go_loopw [5] (fun kk wr=>∃k:Nat,k<=p.lets.length/\kk=.int .i64 k/\Hid (p.find name=p.ji name (p.lets.drop k) k)/\∃n,wr=w.drewN n) (fun kk _=>p.lets.length-(intOf kk).toNat)
 case atStart=>exact⟨0,jQ _,rfl,rfl,0,rfl⟩
 case round=>
  obtain⟨k,hk,rfl,HI,n,rfl⟩:=hrel;by_cases aL:k<p.lets.length
  ·clear hlen;obtain⟨gt,ct,ht1,ht1',X3⟩:=hp.EK k aL;have xU:p.lets.getD k 0∈p.lets:=by simp[aL]
   obtain⟨tn,Dh⟩:=cf.lets _ xU;have HS:Hid (_=_):=NY p name k aL;generalize p.lets.getD k 0=t at*;obtain⟨g,cap,gl,dt,kq,vB,oa,xQ,hw⟩:=hp.gH t tn;have tQ:=hw 1 (by omega);have tP:(t:Int)<p.lines.length:=by omega
   have ht3:(1:Int)<(p.line t).length:=by omega
   go_wp2
   go_quiet (fail)
   go_wp2
   ·go_ret
    refine⟨zY ?_,n+nq,by simp⟩;rw[HI.out,HS.out,jb (by simpa using‹(word (p.line t) 1==name)=true›)]
   ·go_roundw
    case rel=>exact⟨k+1,by omega,by go_num,by rw[HI.out,HS.out,ja (by simpa using‹(word (p.line t) 1==name)=false›)];rfl,n+nq,rfl⟩
    case measure=>simp[intOf];omega
  ·go_wp2
   go_ret
   refine⟨zY ?_,n,rfl⟩;rw[HI.out,jT (by omega)];rfl
end RefG
namespace RefH
open Go.RowKit Sq RefA RefB RefG Aux
theorem qc (k:UInt8)(n:Nat)(hn:n<256):((k.toNat:Int)==(n:Int))=decide (k=UInt8.ofNat n):=by
 rw[jX,decide_eq_true_eq,kW k n hn];simp;omega
theorem Mg (p:RP)(l:B):p.typeOf l=
  if(((partOf l).toNat:Int)==97)=true\/(((partOf l).toNat:Int)==98)=true then(if(!(p.j6 l==[112,97,105,114]))=true then []else [98,111,120])
  else if(((partOf l).toNat:Int)==115)=true then(if(!(p.j6 l==[111,112,116]))=true then []else [98,111,120])else p.j6 l:=by
 have e1:=qc (partOf l) 97 (by omega);have e2:=qc (partOf l) 98 (by omega);have e3:=qc (partOf l) 115 (by omega);simp only[Int.cast_ofNat_Int]at e1 e2 e3;rw[e1,e2,e3];simp only[decide_eq_true_eq,RP.typeOf,cm,eH,kA,Bool.not_eq_true',beq_eq_false_iff_ne,ne_eq,ite_not];rfl
set_option maxRecDepth 20000 in
set_option maxHeartbeats 1000000 in
theorem iB (p:RP)(a:Nat)(l:B)(w:World)(hp:bf w a p)(cf:p.Ok)(hl:l.length<=maxLen)(hf:0<=p.find (aj l)):
  Calls Tryz.prog 113 #[.pointer (some ⟨a,0,none⟩),.string (bs l)] w fun e w'=>e=.returned (.string (bs (p.typeOf l)))/\∃n,w'=w.drewN n:=by
 obtain⟨j,hj,ou,_⟩:=RP.eA hf;have HT:Hid (p.j6 l=word (p.line (p.lets.getD j 0)) 2):=by unfold Hid RP.j6;rw[hj];rfl
 have ly:=cf.size;have la:=cf.Hz;obtain⟨gt,ct,ht1,ht1',X3⟩:=hp.EK j ou;have xU:p.lets.getD j 0∈p.lets:=by simp[ou]
 obtain⟨tn,Dh⟩:=cf.lets _ xU;generalize p.lets.getD j 0=t at*;obtain⟨g,cap,gl,dt,kq,vB,oa,xQ,hw⟩:=hp.gH t tn;have tQ:=hw 2 (by omega);have tP:(t:Int)<p.lines.length:=by omega
 have ht3:(2:Int)<(p.line t).length:=by omega
 have hj0:(j:Int)<p.lets.length:=by omega
 have HF:∀n,Calls Tryz.prog 110 #[.pointer (some ⟨a,0,none⟩),.string (bs (aj l))] (w.drewN n) fun e w'=>e=.returned (.int .i64 j)/\∃m,w'=w.drewN m:=fun n=>
  (mi p a (aj l) (w.drewN n) (hp.drewN n) cf).mono fun e w' ⟨he,m,hm⟩=>⟨by rw[he,hj],n+m,by rw[hm];simp⟩
 clear hj hf;go_enter Tryz.func113,Tryz.ntmps113
 go_wp2
 go_quiet ((first|(go_at_call 111;exact Calls.quiet_of_same (vR l _ hl))|(go_at_call 110;exact HF _)))
 go_wp2_with (go_at_call 159;refine(vX l _ hl).mono ?_;rintro e w' ⟨rfl,rfl⟩)
 all_goals
  go_ret
  refine⟨oi ?_,_,rfl⟩;go_light
  rw[Mg,HT.out];simp[bs, *]
end RefH
end Go.Proofs.YtmlgajhhnojdjaaGreatDoor

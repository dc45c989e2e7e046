import Derived.Test.YtmlgajhhnojdjaaGreatDoorVAO
set_option maxHeartbeats 8000000
namespace Go.Proofs.YtmlgajhhnojdjaaGreatDoor
namespace Own
open Go Go.RowKit Sq Aux PrjJ PrjK PrjL PrjM PrjS PrjT FlwA FlwB FlwE
def Own.other (o:Own)(l:ab):Bool:=if l.op=19 then o.num (l.places.getD 0 (0,0))==0 else if l.op=20 then !(o.box (l.places.getD 0 (0,0))==0)else false
section
variable {x a:Nat} {w w0 w1:World} {vm vt vi:Value} {o:Own}
theorem aE.below {z:Nat}{l:ab}{vp vn:Value}(h:aE z w l vp vn)(hb:Below w.heap.size w w1):aE z w1 l vp vn:=⟨al h.places hb,al h.next hb⟩
set_option maxRecDepth 20000 in
theorem tz (h:cg w0 x a w o vi vm vt){z nl nb:Nat}{l:ab}{ap an:Option Addr}{cp cn:Nat}(hl:aE z w l (.slice ap l.places.length cp) (.slice an l.next.length cn))(hk:iB nl nb l)(iE:nl<=12)
  (ho:l.op=18\/l.op=19\/l.op=20) (hn:(if o.other l then 1 else 0)<l.next.length):
  Calls Tryz.prog 63 #[.pointer (some ⟨x,0,none⟩),.agg #[.int .i64 (l.num:Nat),.int .i64 (l.op:Nat),.slice ap l.places.length cp,.int .i64 l.number,.int .i64 l.flag,.slice an l.next.length cn]] w fun e w'=>
   e=.returned (.int .i64 ((l.next.getD (if o.other l then 1 else 0) 0:Nat):Int))/\Below w.heap.size w w':=by
 have aO:Below w.heap.size w (w.alloc (.cells #[.int .i64 (l.num:Nat),.int .i64 (l.op:Nat),.slice ap l.places.length cp,.int .i64 l.number,.int .i64 l.flag,.slice an l.next.length cn] 115)):=(Below.refl _ _).alloc (jC _) _;have HA:=h.below aO;have KW:=fun(W:World) (hW:Below w.heap.size w W)=>Ma (hl.below hW) (o.other l) hn
 unfold Wy at KW;have cW:(w.alloc (.cells #[.int .i64 (l.num:Nat),.int .i64 (l.op:Nat),.slice ap l.places.length cp,.int .i64 l.number,.int .i64 l.flag,.slice an l.next.length cn] 115)).heap[w.heap.size]?=some (.cells #[.int .i64 (l.num:Nat),.int .i64 (l.op:Nat),.slice ap l.places.length cp,.int .i64 l.number,.int .i64 l.flag,.slice an l.next.length cn] 115 (0,0)):=jD;generalize hR:l.next.getD (if o.other l then 1 else 0) 0=r at KW⊢;by_cases iN:l.op=18
 ·have Ae:o.other l=false:=by rw[Own.other,ja (by omega),ja (by omega)]
  rw[Ae]at KW;have b1:(((l.op:Nat):Int)==19)=false:=by rw[iN];rfl
  have b2:(((l.op:Nat):Int)==20)=false:=by rw[iN];rfl
  clear hn hR Ae iN ho;go_enter Tryz.func63,Tryz.ntmps63
  go_wp2_with (go_at_call 100;go_fit (KW _ aO);rintro e w1 ⟨rfl,h1⟩)
  go_ret
  exact⟨rfl,aO.trans (h1.mono aO.size)⟩
 ·have hlen:1<=l.places.length:=by
   rcases ho with e|e|e
   ·exact absurd e iN
   ·rw[hk.cP,e];decide
   ·rw[hk.cP,e];decide
  obtain⟨g,e,-,kC,hg,c1,c2⟩:=bB hl.places 0 (by omega);subst e;have hx:=(hk.places (l.places.getD 0 (0,0)) (by rw[jA,jB (by omega)];exact jL _)).1;have d1:=(aO.cell (p:=⟨g,0,none⟩) hg).trans c1;have d2:=(aO.cell (p:=⟨g,1,none⟩) hg).trans c2;have Zk:(0:Int)<l.places.length:=by omega
  have KN:=ei HA (l.places.getD 0 (0,0)) (by omega);have KB:=rW HA (l.places.getD 0 (0,0)) (by omega);by_cases Ml:l.op=19
  ·have Ae:o.other l=(o.num (l.places.getD 0 (0,0))==0):=by rw[Own.other,jb Ml]
   rw[Ae]at KW;have b1:(((l.op:Nat):Int)==19)=true:=by rw[Ml];rfl
   have b2:(((l.op:Nat):Int)==20)=false:=by rw[Ml];rfl
   clear hn hR Ae Ml iN ho c1 c2 KB;generalize l.places.getD 0 (0,0)=p at*;go_enter Tryz.func63,Tryz.ntmps63
   go_wp2_with (first
    |(go_at_call 58;go_fit KN;rintro e w2 ⟨rfl,h2⟩;have bu:=aO.trans (h2.mono aO.size);have j0:=(h2.block _ (lt_of_heap cW)).trans cW;have m0:w2.cell? ⟨w.heap.size,0,none⟩=_:=cell_of_heap j0 0;have m1:w2.cell? ⟨w.heap.size,1,none⟩=_:=cell_of_heap j0 1;have m2:w2.cell? ⟨w.heap.size,2,none⟩=_:=cell_of_heap j0 2;have m3:w2.cell? ⟨w.heap.size,3,none⟩=_:=cell_of_heap j0 3;have m4:w2.cell? ⟨w.heap.size,4,none⟩=_:=cell_of_heap j0 4;have m5:w2.cell? ⟨w.heap.size,5,none⟩=_:=cell_of_heap j0 5;simp at m0 m1 m2 m3 m4 m5)
    |(go_at_call 100;go_fit (KW _ bu);rintro e w1 ⟨rfl,h1⟩))
   go_ret
   exact⟨rfl,bu.trans (h1.mono bu.size)⟩
  ·have Hv:l.op=20:=by omega
   have Ae:o.other l= !(o.box (l.places.getD 0 (0,0))==0):=by rw[Own.other,ja Ml,jb Hv]
   rw[Ae]at KW;have b1:(((l.op:Nat):Int)==19)=false:=by rw[Hv];rfl
   have b2:(((l.op:Nat):Int)==20)=true:=by rw[Hv];rfl
   clear hn hR Ae Ml iN Hv ho c1 c2 KN;generalize l.places.getD 0 (0,0)=p at*;have bb:(((o.box p:Nat):Int) !=0)= !(o.box p==0):=by
    rw[bne];congr 1;rw[jX,beq_iff_eq,beq_iff_eq];omega
   rw[<-bb]at KW;clear bb;go_enter Tryz.func63,Tryz.ntmps63
   go_wp2_with (first
    |(go_at_call 99;go_fit KB;rintro e w2 ⟨rfl,h2⟩;have bu:=aO.trans (h2.mono aO.size);have j0:=(h2.block _ (lt_of_heap cW)).trans cW;have m0:w2.cell? ⟨w.heap.size,0,none⟩=_:=cell_of_heap j0 0;have m1:w2.cell? ⟨w.heap.size,1,none⟩=_:=cell_of_heap j0 1;have m2:w2.cell? ⟨w.heap.size,2,none⟩=_:=cell_of_heap j0 2;have m3:w2.cell? ⟨w.heap.size,3,none⟩=_:=cell_of_heap j0 3;have m4:w2.cell? ⟨w.heap.size,4,none⟩=_:=cell_of_heap j0 4;have m5:w2.cell? ⟨w.heap.size,5,none⟩=_:=cell_of_heap j0 5;simp at m0 m1 m2 m3 m4 m5)
    |(go_at_call 100;go_fit (KW _ bu);rintro e w1 ⟨rfl,h1⟩))
   go_ret
   exact⟨rfl,bu.trans (h1.mono bu.size)⟩
end
end Own
namespace Own
open Go Go.RowKit Sq Aux PrjS FlwA
def aw (l:ab)(j:Nat):Nat×Nat:=l.places.getD j (0,0)
def Own.dd (q:QP):Nat->Own->Own
 |0,o=>o
 |i+1,o=>Own.dd q i (o.drop (QP.ai q (i,0)))
def Own.calc (o:Own)(l:ab):Own:={o with ints:=o.ints.set (aw l 0).1 (qM l.op (o.num (aw l 1)) (o.num (aw l 2)))}
def Own.new (o:Own)(p:Nat×Nat)(v:Int):Own:={o with yd:=o.yd.build v,boxes:=o.boxes.set (ah p) (o.yd.made.length+1)}
def Own.rL (o:Own)(l:ab):Bool:=if l.op=10 then decide (1<=o.box (aw l 1))else if l.op=11 then decide (1<=o.box (aw l 0))else true
def Own.gJ (q:QP)(o:Own)(l:ab):Own:=
 if l.op=2 then{o with ints:=o.ints.set (aw l 0).1 l.number}
 else if l.op=3\/l.op=4\/l.op=5 then o.calc l
 else if l.op=7 then{o with cX:=o.cX.tail,ints:=o.ints.set (aw l 0).1 (o.cX.headD 0)}
 else if l.op=8 then{o with yd:=o.yd.note 111 (o.num (aw l 0))}
 else if l.op=10 then{o with yd:=o.yd.load (o.box (aw l 1)),ints:=o.ints.set (aw l 0).1 (o.yd.at (o.box (aw l 1))).1}
 else if l.op=11 then{o with yd:=o.yd.store (o.box (aw l 0)) (o.num (aw l 1))}
 else if l.op=12\/l.op=14 then o.move (QP.ai q (aw l 0)) (QP.ai q (aw l 1))
 else if l.op=13\/l.op=15 then o.drop (QP.ai q (aw l 0))
 else o
def dq (q:QP)(room:Int):Nat->List ab->Own->Option (Nat×Int×Own)
 |_,[],_=>none
 |0,_::_,o=>some (2,0,o)
 |f+1,l::ls,o=>
  if l.op=6 then(if o.num (aw l 2)=0 then some (4,0,o)else dq q room f ls (o.calc l))
  else if l.op=9 then(if(o.drop [aw l 0]).yd.live≥room then some (3,0,o.drop [aw l 0])else dq q room f ls ((o.drop [aw l 0]).new (aw l 0) (o.num (aw l 1))))
  else if l.op=18\/l.op=19\/l.op=20 then(if ls=[]then dq q room f (q.blocks.getD (l.next.getD (if o.other l then 1 else 0) 0) []) o else none)
  else if l.op=22 then some (1,o.num (aw l 0),o.dd q q.locals.length)
  else if o.rL l=true then dq q room f ls (o.gJ q l)else none
def Own.start (cX:List Int):Own:=⟨⟨[],0,[]⟩,cX,List.replicate 12 0,List.replicate 24 0⟩
structure Own.In (o:Own)(t:Nat):Prop where
 many:o.yd.made.length<=t
 trace:o.yd.trace.length<=t
 live: -(t:Int)<=o.yd.live/\o.yd.live<=t
 words:∀b∈o.yd.trace,b.length<=30
 bx:o.Bx
 ints:o.ints.length=12
 boxes:o.boxes.length=24
 oP:∀n∈o.ints,cY n
 cX:∀n∈o.cX,cY n
 made:∀b∈o.yd.made,cY b.1
theorem wrap_i64 (n:Int):cY (wrap64 n):=by unfold cY wrap64;omega
theorem zv (op:Nat)(m n:Int):cY (qM op m n):=by
 unfold qM
 repeat' split
 all_goals exact wrap_i64 _
theorem p4:cY 0:=by unfold cY;omega
section
variable {o:Own} {t u:Nat}
theorem Own.In.sz (h:o.In t)(ht:t<=1000000):o.yd.Sz t:=⟨by have:=h.many;omega,h.trace,h.live,h.words⟩
theorem Own.In.mono (h:o.In t)(ht:t<=u):o.In u:=⟨by have:=h.many;omega,by have:=h.trace;omega,by have:=h.live;omega,h.words,h.bx,h.ints,h.boxes,h.oP,h.cX,h.made⟩
theorem mem_set {α:Type}{l:List α}{j:Nat}{v n:α}(h:n∈l.set j v):n∈l\/n=v:=List.mem_or_eq_of_mem_set h
theorem Own.In.setInt (h:o.In t)(j:Nat){v:Int}(hv:cY v):({o with ints:=o.ints.set j v}:Own).In t:=
 ⟨h.many,h.trace,h.live,h.words,h.bx,by simpa using h.ints,h.boxes,fun n hn=>(mem_set hn).elim (h.oP n) (fun e=>e▸hv),h.cX,h.made⟩
theorem Own.In.num (h:o.In t)(p:Nat×Nat):cY (o.num p):=by
 unfold Own.num;rw[jA];cases hg:o.ints[p.1]? with
 |none=>exact p4
 |some n=>exact h.oP n (List.mem_of_getElem? hg)
theorem Own.In.head (h:o.In t):cY (o.cX.headD 0):=by
 cases hi:o.cX with
 |nil=>exact p4
 |cons n r=>exact h.cX n (by rw[hi];exact jM ..)
theorem Own.In.tail (h:o.In t):({o with cX:=o.cX.tail}:Own).In t:=⟨h.many,h.trace,h.live,h.words,h.bx,h.ints,h.boxes,h.oP,fun n hn=>h.cX n (List.mem_of_mem_tail hn),h.made⟩
theorem Own.In.note (h:o.In t)(c:UInt8){n:Int}(hn:cY n):({o with yd:=o.yd.note c n}:Own).In (t+1):=
 ⟨by have:=h.many;show o.yd.made.length<=t+1;omega,by have:=h.trace;simp[Yd.note];omega,by have:=h.live;show-((t+1:Nat):Int)<=o.yd.live/\o.yd.live<=_;omega,oO hn h.words,h.bx,h.ints,h.boxes,h.oP,h.cX,h.made⟩
theorem Own.In.at (h:o.In t)(n:Nat):cY (o.yd.at n).1:=by
 unfold Yd.at;rw[jA];cases hg:o.yd.made[n-1]? with
 |none=>exact p4
 |some b=>exact h.made b (List.mem_of_getElem? hg)
theorem yM {n:Nat}(h:n<=1000000000):cY ((n:Nat):Int):=by unfold cY;omega
theorem Own.In.load (h:o.In t)(ht:t<=1000000){n:Nat}(hn:n<=o.yd.made.length):({o with yd:=o.yd.load n}:Own).In (t+1):=h.note 60 (yM (by have:=h.many;omega))
theorem Own.In.store (h:o.In t)(ht:t<=1000000){n:Nat}(hn:n<=o.yd.made.length){v:Int}(hv:cY v):({o with yd:=o.yd.store n v}:Own).In (t+1):=by
 have h1:=h.note 62 (n:=((n:Nat):Int)) (yM (by have:=h.many;omega));refine⟨?_,h1.trace,h1.live,h1.words,fun m hm=> ?_,h.ints,h.boxes,h.oP,h.cX,fun b hb=> ?_⟩
 ·have:=h.many;show(o.yd.made.set (n-1) _).length<=t+1;rw[List.length_set];omega
 ·show m<=(o.yd.made.set (n-1) _).length;rw[List.length_set];exact h.bx m hm
 ·rcases mem_set hb with hb|rfl
  ·exact h.made b hb
  ·exact hv
theorem Own.In.clear (h:o.In t)(p:Nat×Nat):(o.clear p).In t:=
 ⟨h.many,h.trace,h.live,h.words,zw h.bx p,h.ints,by simpa [Own.clear]using h.boxes,h.oP,h.cX,h.made⟩
theorem Own.In.M5:∀(ps:List (Nat×Nat)) {o:Own} {t:Nat},o.In t->(Own.take ps o).2.In t
 |[],_,_,h=>h
 |p::ps,o,t,h=>by rw[Own.take];exact Own.In.M5 ps (h.clear p)
theorem Own.In.take (h:o.In t)(ps:List (Nat×Nat)):(Own.take ps o).2.In t:=Own.In.M5 ps h
theorem Own.In.cd (h:o.In t)(ht:t<=1000000){n:Nat}(hn:n<=o.yd.made.length):(o.cd n).In (t+1):=by
 unfold Own.cd;split
 ·exact h.mono (by omega)
 ·have hs:=(h.sz ht).free hn;refine⟨by rw[sK];have:=h.many;omega,hs.trace,hs.live,hs.words,fun m hm=> ?_,h.ints,h.boxes,h.oP,h.cX,fun b hb=> ?_⟩
  ·show m<=(o.yd.free n).made.length;rw[sK];exact h.bx m hm
  ·rcases mem_set (show b∈o.yd.made.set (n-1) ((o.yd.at n).1,false)from hb)with hb|rfl
   ·exact h.made b hb
   ·exact h.at n
theorem Own.In.ee:∀(ns:List Nat) {o:Own} {t:Nat},o.In t->t+ns.length<=1000000->(∀n∈ns,n<=o.yd.made.length)->(Own.ee ns o).In (t+ns.length)
 |[],_,_,h,_,_=>h
 |n::ns,o,t,h,ht,hn=>by
  rw[jY]at ht;rw[Own.ee,jY,show t+(ns.length+1)=(t+1)+ns.length by omega];exact Own.In.ee ns (h.cd (by omega) (hn n (jM ..))) (by omega) (fun m hm=>by rw[(lO o n).2.1];exact hn m (jN _ hm))
theorem Own.In.drop (h:o.In t)(ps:List (Nat×Nat))(ht:t+ps.length<=1000000):(o.drop ps).In (t+ps.length):=by
 have:=Own.In.ee (Own.take ps o).1 (h.take ps) (by rw[take_len];exact ht) (fun n hn=>by rw[(mK ps o).1];exact(pX ps h.bx).2 n hn)
 rwa [take_len]at this
theorem Own.In.Be (h:o.In t)(p:Nat×Nat){n:Nat}(hn:n<=o.yd.made.length):(o.Be p n).In t:=
 ⟨h.many,h.trace,h.live,h.words,fun m hm=>(mem_set hm).elim (h.bx m) (fun e=>e▸hn),h.ints,by simpa [Own.Be]using h.boxes,h.oP,h.cX,h.made⟩
theorem Own.In.lu:∀(ps:List (Nat×Nat)) (ns:List Nat) {o:Own} {t:Nat},o.In t->(∀n∈ns,n<=o.yd.made.length)->(Own.lu ps ns o).In t
 |[],_,_,_,h,_=>h
 |p::ps,ns,o,t,h,hn=>by
  rw[Own.lu];refine Own.In.lu ps (ns.drop 1) (h.Be p ?_) (fun m hm=>hn m (List.mem_of_mem_drop hm));cases ns with
  |nil=>exact jQ _
  |cons m r=>exact hn m (jM ..)
theorem Own.In.move (h:o.In t)(dstn frm:List (Nat×Nat))(ht:t+dstn.length<=1000000):(o.move dstn frm).In (t+dstn.length):=by
 refine Own.In.lu dstn _ ((h.take frm).drop dstn ht) (fun n hn=> ?_);rw[(eS dstn (Own.take frm o).2).1,(mK frm o).1];exact(pX frm h.bx).2 n hn
theorem Own.In.new (h:o.In t)(ht:t<=1000000)(p:Nat×Nat){v:Int}(hv:cY v):(o.new p v).In (t+1):=by
 have hm:=h.many;have Uu:cY ((o.yd.made.length+1:Nat):Int):=yM (by omega);refine⟨?_,?_,?_,oO Uu h.words,fun m MD=> ?_,h.ints,by simpa [Own.new]using h.boxes,h.oP,h.cX,fun b hb=> ?_⟩
 ·show(o.yd.made++[(v,true)]).length<=t+1;simp;omega
 ·have:=h.trace;show(o.yd.trace++[_]).length<=t+1;simp;omega
 ·have:=h.live;show-((t+1:Nat):Int)<=o.yd.live+1/\o.yd.live+1<=((t+1:Nat):Int);omega
 ·show m<=(o.yd.made++[(v,true)]).length
  rw[jV];rcases mem_set (show m∈o.boxes.set (ah p) (o.yd.made.length+1)from MD)with MD|rfl
  ·have:=h.bx m MD;simp;omega
  ·simp
 ·rcases List.mem_append.mp (show b∈o.yd.made++[(v,true)]from hb)with hb|hb
  ·exact h.made b hb
  ·rw[jI.mp hb];exact hv
theorem gX (q:QP)(p:Nat×Nat):(QP.ai q p).length<=2:=by unfold QP.ai;split<;>simp
theorem Own.In.gJ (h:o.In t)(ht:t+3<=1000000)(q:QP)(l:ab)(yt:cY l.number):(o.gJ q l).In (t+3):=by
 unfold Own.gJ;split
 ·exact(h.setInt _ yt).mono (by omega)
 ·split
  ·exact(h.setInt _ (zv _ _ _)).mono (by omega)
  ·split
   ·exact(h.tail.setInt (aw l 0).1 h.head).mono (by omega)
   ·split
    ·exact(h.note 111 (h.num _)).mono (by omega)
    ·split
     ·exact((h.load (by omega) (sr h.bx (aw l 1))).setInt (aw l 0).1 (h.at _)).mono (by omega)
     ·split
      ·exact(h.store (by omega) (sr h.bx (aw l 0)) (h.num _)).mono (by omega)
      ·split
       ·have:=gX q (aw l 0);exact(h.move _ _ (by omega)).mono (by omega)
       ·split
        ·have:=gX q (aw l 0);exact(h.drop _ (by omega)).mono (by omega)
        ·exact h.mono (by omega)
theorem Own.In.dd (q:QP):∀(i:Nat) {o:Own} {t:Nat},o.In t->t+2*i<=1000000->(Own.dd q i o).In (t+2*i)
 |0,_,_,h,_=>h
 |i+1,o,t,h,ht=>by
  have h2:=gX q (i,0);rw[Own.dd,show t+2*(i+1)=(t+2)+2*i by omega];exact Own.In.dd q i ((h.drop (QP.ai q (i,0)) (by omega)).mono (by omega)) (by omega)
theorem Own.In.start {cX:List Int}(h:∀n∈cX,cY n):(Own.start cX).In 0:=
 ⟨jC _,jC _,⟨Int.le_refl _,Int.le_refl _⟩,fun b hb=>(by cases hb),fun n hn=>(by rw[List.eq_of_mem_replicate hn];exact jQ _),by simp[Own.start],by simp[Own.start],fun n hn=>by rw[List.eq_of_mem_replicate hn];exact p4,h,fun b hb=>(by cases hb)⟩
end
end Own
namespace Own
open Go Go.RowKit Sq Aux PrjJ PrjK PrjL PrjM PrjS FlwA FlwE
def ab.pl (l:ab)(j:Nat):Nat×Nat:=l.places.getD j (0,0)
section
variable {x a:Nat} {w w0:World} {vm vt vi:Value} {o:Own}
set_option maxRecDepth 20000 in
theorem mR (h:cg w0 x a w o vi vm vt){z nl nb:Nat}{l:ab}{ap an:Option Addr}{cp cn:Nat}(hl:aE z w l (.slice ap l.places.length cp) (.slice an l.next.length cn))(hk:iB nl nb l)(iE:nl<=12)
  (ho:l.op=3\/l.op=4\/l.op=5\/l.op=6) (hd:l.op=6->¬o.num (ab.pl l 2)=0) (hr:∀n∈o.ints,cY n):
  Calls Tryz.prog 59 #[.pointer (some ⟨x,0,none⟩),.agg #[.int .i64 (l.num:Nat),.int .i64 (l.op:Nat),.slice ap l.places.length cp,.int .i64 l.number,.int .i64 l.flag,.slice an l.next.length cn]] w fun e w'=>
   e=.returned (.tuple #[])/\cg w0 x a w' {o with ints:=o.ints.set (ab.pl l 0).1 (qM l.op (o.num (ab.pl l 1)) (o.num (ab.pl l 2)))} vi vm vt/\aI x vm vt w vm vt w':=by
 have hlen:l.places.length=3:=by rcases ho with e|e|e|e<;>(rw[hk.cP,e];rfl)
 have aO:Below w.heap.size w (w.alloc (.cells #[.int .i64 (l.num:Nat),.int .i64 (l.op:Nat),.slice ap l.places.length cp,.int .i64 l.number,.int .i64 l.flag,.slice an l.next.length cn] 115)):=(Below.refl _ _).alloc (jC _) _;obtain⟨g,rfl,kC,hg,c1,c2⟩:=aS hl hlen 0 (by omega);obtain⟨g',e',-,-,c3,c4⟩:=aS hl hlen 1 (by omega);simp only[Option.some.injEq,Addr.mk.injEq,and_true]at e';subst e';obtain⟨g',e',-,-,c5,c6⟩:=aS hl hlen 2 (by omega);simp only[Option.some.injEq,Addr.mk.injEq,and_true]at e';subst e';have WK:Hid (_):=hl.places;have hx:∀j,j<3->(ab.pl l j).1<12:=fun j hj=>by
  have:=(hk.places (l.places.getD j (0,0)) (by rw[jA,jB (by omega)];exact jL _)).1;show(l.places.getD j (0,0)).1<12
  omega
 have x0:=hx 0 (by omega);have x1:=hx 1 (by omega);have x2:=hx 2 (by omega);have Lo:∀p:Nat×Nat,p.1<12->cY (o.num p):=fun p hp=>hr _ (by
  unfold Own.num;rw[jA,jB (by rw[h.ints];exact hp)];exact jL _)
 have r1:=Lo _ x1;have r2:=Lo _ x2;have KC:=fun w'=>su l.op (o.num (ab.pl l 1)) (o.num (ab.pl l 2)) w' hd ho r1 r2
 unfold ab.pl at*;have HA:=h.below aO;have Vd:=fun(W:World) (hb:Below w.heap.size w W)=>ei (h.below hb) (l.places.getD 1 (0,0)) x1
 have Ve:=fun(W:World) (hb:Below w.heap.size w W)=>ei (h.below hb) (l.places.getD 2 (0,0)) x2
 have hb:∀W,Below w.heap.size w W->(W.cell? ⟨g,0,none⟩=some (.int .i64 ((l.places.getD 0 (0,0)).1:Nat))/\W.cell? ⟨g,2,none⟩=some (.int .i64 ((l.places.getD 1 (0,0)).1:Nat))/\W.cell? ⟨g,3,none⟩=some (.int .i64 ((l.places.getD 1 (0,0)).2:Nat))/\W.cell? ⟨g,4,none⟩=some (.int .i64 ((l.places.getD 2 (0,0)).1:Nat))/\W.cell? ⟨g,5,none⟩=some (.int .i64 ((l.places.getD 2 (0,0)).2:Nat))):=fun W hW=>
  ⟨(hW.cell (p:=⟨g,0,none⟩) hg).trans c1,(hW.cell (p:=⟨g,2,none⟩) hg).trans c3,(hW.cell (p:=⟨g,3,none⟩) hg).trans c4,(hW.cell (p:=⟨g,4,none⟩) hg).trans c5,(hW.cell (p:=⟨g,5,none⟩) hg).trans c6⟩
 obtain⟨d0,d2,d3,d4,d5⟩:=hb _ aO;have x0i:((l.places.getD 0 (0,0)).1:Int)<12:=by omega
 rw[hlen]at aO d0 d2 d3 d4 d5 HA⊢;clear hx c1 c2 c3 c4 c5 c6 hl hk;generalize l.places.getD 0 (0,0)=p0 at*;generalize l.places.getD 1 (0,0)=p1 at*;generalize l.places.getD 2 (0,0)=p2 at*;clear hlen;go_enter Tryz.func59,Tryz.ntmps59
 go_wp2
 have OY:Below w.heap.size w (w.alloc (.cells #[.int .i64 (l.num:Nat),.int .i64 (l.op:Nat),.slice (some ⟨g,0,none⟩) 3 cp,.int .i64 l.number,.int .i64 l.flag,.slice an l.next.length cn] 115)).drew:=⟨aO.os,aO.tape,aO.output,aO.size,aO.block⟩;have PX:∀W,Below (w.alloc (.cells #[.int .i64 (l.num:Nat),.int .i64 (l.op:Nat),.slice (some ⟨g,0,none⟩) 3 cp,.int .i64 l.number,.int .i64 l.flag,.slice an l.next.length cn] 115)).heap.size (w.alloc (.cells #[.int .i64 (l.num:Nat),.int .i64 (l.op:Nat),.slice (some ⟨g,0,none⟩) 3 cp,.int .i64 l.number,.int .i64 l.flag,.slice an l.next.length cn] 115)) W->W.cell? ⟨w.heap.size,1,none⟩=some (.int .i64 (l.op:Nat)):=fun W hW=>(hW.cell (p:=⟨w.heap.size,1,none⟩) (by simp)).trans (by rw[cell_of_heap jD];rfl)
 have Ls:x≠g:=fun e=>by
  have h1:=h.fC.aD;rw[e]at h1;exact az WK.out h1 (by decide) rfl
 have YX:x≠w.heap.size:=by have:=h.lt;omega
 have VT:g≠x:=fun e=>Ls e.symm
 have YU:w.heap.size≠x:=fun e=>YX e.symm
 have y0:=PX _ (Below.refl _ _);go_region_held3 (fun W=>W.cell? ⟨g,0,none⟩=some (.int .i64 (p0.1:Nat))/\W.cell? ⟨g,2,none⟩=some (.int .i64 (p1.1:Nat))/\W.cell? ⟨g,3,none⟩=some (.int .i64 (p1.2:Nat))/\W.cell? ⟨g,4,none⟩=some (.int .i64 (p2.1:Nat))/\W.cell? ⟨g,5,none⟩=some (.int .i64 (p2.2:Nat))/\W.cell? ⟨w.heap.size,1,none⟩=some (.int .i64 (l.op:Nat))) (go_keep)
  (first
  |(go_at_call 95;go_fit (KC _);rintro e w3 ⟨rfl,rfl⟩)
  |(go_at_call 58;go_fit (Ve _ aB);rintro e w2 ⟨rfl,h2⟩;have bu:Below w.heap.size w w2:=aB.trans (h2.mono aB.size);have y2:=PX _ (dk.trans (h2.mono dk.size));obtain⟨v0,v2,v3,v4,v5⟩:=hb _ bu;obtain⟨q1,q2⟩:=(h.below bu).int x0)
  |(go_at_call 58;go_fit (Vd _ aB);rintro e w2 ⟨rfl,h2⟩;have bu:Below w.heap.size w w2:=aB.trans (h2.mono aB.size);have y2:=PX _ (dk.trans (h2.mono dk.size));obtain⟨v0,v2,v3,v4,v5⟩:=hb _ bu;obtain⟨q1,q2⟩:=(h.below bu).int x0)
  |(go_at_call 58;go_fit (Vd _ OY);rintro e w1 ⟨rfl,h1⟩;have aB:Below w.heap.size w w1:=OY.trans (h1.mono OY.size);have dk:Below (w.alloc (.cells #[.int .i64 (l.num:Nat),.int .i64 (l.op:Nat),.slice (some ⟨g,0,none⟩) 3 cp,.int .i64 l.number,.int .i64 l.flag,.slice an l.next.length cn] 115)).heap.size (w.alloc (.cells #[.int .i64 (l.num:Nat),.int .i64 (l.op:Nat),.slice (some ⟨g,0,none⟩) 3 cp,.int .i64 l.number,.int .i64 l.flag,.slice an l.next.length cn] 115)) w1:=⟨h1.os,h1.tape,h1.output,h1.size,h1.block⟩;have y1:=PX _ dk;obtain⟨u0,u2,u3,u4,u5⟩:=hb _ aB)
  |(go_at_call 58;go_fit (Ve _ OY);rintro e w1 ⟨rfl,h1⟩;have aB:Below w.heap.size w w1:=OY.trans (h1.mono OY.size);have dk:Below (w.alloc (.cells #[.int .i64 (l.num:Nat),.int .i64 (l.op:Nat),.slice (some ⟨g,0,none⟩) 3 cp,.int .i64 l.number,.int .i64 l.flag,.slice an l.next.length cn] 115)).heap.size (w.alloc (.cells #[.int .i64 (l.num:Nat),.int .i64 (l.op:Nat),.slice (some ⟨g,0,none⟩) 3 cp,.int .i64 l.number,.int .i64 l.flag,.slice an l.next.length cn] 115)) w1:=⟨h1.os,h1.tape,h1.output,h1.size,h1.block⟩;have y1:=PX _ dk;obtain⟨u0,u2,u3,u4,u5⟩:=hb _ aB))
 all_goals go_wp2_with fail
 all_goals
  go_end0
  obtain⟨h5,r5⟩:=(h.below bu).setInt (j:=p0.1) x0 (qM l.op (o.num p1) (o.num p2));exact⟨rfl,h5,(aI.of bu).trans r5⟩
end
end Own
end Go.Proofs.YtmlgajhhnojdjaaGreatDoor

import Derived.Test.YtmlgajhhnojdjaaGreatDoorRAF
import Derived.BigQuiet
import Derived.Deep.DeepMust
namespace Go.Proofs.YtmlgajhhnojdjaaGreatDoor
namespace PrjK
open Go Go.RowKit Sq Aux PrjF PrjG PrjH PrjI PrjJ
structure bw (b:Nat)(w w':World):Prop where
 os:w'.os=w.os
 tape:w'.tape=w.tape
 output:w'.output=w.output
 size:w.heap.size<=w'.heap.size
 block:∀k,k<w.heap.size->k≠b->w'.heap[k]?=w.heap[k]?
theorem bw.refl (b:Nat)(w:World):bw b w w:=⟨rfl,rfl,rfl,jC _,fun _ _ _=>rfl⟩
theorem bw.setCell {b:Nat}{w w':World}(h:bw b w w')(o:Nat)(v:Value):bw b w (w'.setCell ⟨b,o,none⟩ v):=
 ⟨h.os,h.tape,h.output,by simpa using h.size,fun k hk Dg=>by rw[Below.heap_setCell _ _ _ _ (by show k≠b;exact Dg)];exact h.block k hk Dg⟩
theorem bw.on {b:Nat}{w w1 w2:World}(h:bw b w w1)(hb:Below w1.heap.size w1 w2):bw b w w2:=
 ⟨hb.os.trans h.os,hb.tape.trans h.tape,hb.output.trans h.output,jS h.size hb.size,fun k hk Dg=>(hb.block k (jK hk h.size)).trans (h.block k hk Dg)⟩
theorem bw.drewN {b:Nat}{w w1:World}(h:bw b w w1)(n:Nat):bw b w (w1.drewN n):=h.on (below_drewN (Below.refl _ _) n)
theorem bw.trans {b:Nat}{w w1 w2:World}(h:bw b w w1)(hb:bw b w1 w2):bw b w w2:=
 ⟨hb.os.trans h.os,hb.tape.trans h.tape,hb.output.trans h.output,jS h.size hb.size,fun k hk Dg=>(hb.block k (jK hk h.size) Dg).trans (h.block k hk Dg)⟩
theorem bw.of {b:Nat}{w w1:World}(h:Below w.heap.size w w1):bw b w w1:=(bw.refl b w).on h
theorem bw.below {b B:Nat}{w w':World}(h:bw b w w')(hB:B<=b)(hb:B<=w.heap.size):Below B w w':=⟨h.os,h.tape,h.output,h.size,fun k hk=>h.block k (by omega) (by omega)⟩
def dq (w:World)(b:Nat)(raw:Bool)(ln mb:Nat)(o:fk):Prop:=
 w.heap[b]?=some (.cells #[.bool raw,.int .i64 ln,.int .i64 mb,.int .i64 o.sec,.int .i64 o.locals,.int .i64 o.blocks] 238 (0,0))
theorem dq.facts {w:World}{b:Nat}{raw:Bool}{ln mb:Nat}{o:fk}(h:dq w b raw ln mb o):
  w.cell? ⟨b,0,none⟩=some (.bool raw)/\w.cell? ⟨b,1,none⟩=some (.int .i64 ln)/\w.cell? ⟨b,2,none⟩=some (.int .i64 mb)/\w.cell? ⟨b,3,none⟩=some (.int .i64 o.sec)/\w.cell? ⟨b,4,none⟩=some (.int .i64 o.locals)/\w.cell? ⟨b,5,none⟩=some (.int .i64 o.blocks)/\
  w.frozen? ⟨b,3,none⟩=false/\w.frozen? ⟨b,4,none⟩=false/\w.frozen? ⟨b,5,none⟩=false:=by
 unfold dq at h;exact⟨by rw[cell_of_heap h];rfl,by rw[cell_of_heap h];rfl,by rw[cell_of_heap h];rfl,by rw[cell_of_heap h];rfl,by rw[cell_of_heap h];rfl,by rw[cell_of_heap h];rfl,frozen_of_heap h 3,frozen_of_heap h 4,frozen_of_heap h 5⟩
theorem dq.below {w w':World}{b:Nat}{raw:Bool}{ln mb:Nat}{o:fk}(h:dq w b raw ln mb o){B:Nat}(hb:Below B w w')(hB:b<B):dq w' b raw ln mb o:=by
 unfold dq;rw[hb.block b hB];exact h
theorem dq.drewN {w:World}{b:Nat}{raw:Bool}{ln mb:Nat}{o:fk}(h:dq w b raw ln mb o)(n:Nat):dq (w.drewN n) b raw ln mb o:=h
theorem dq.set {w:World}{b:Nat}{raw:Bool}{ln mb:Nat}{o:fk}(h:dq w b raw ln mb o):
  (∀n:Nat,dq (w.setCell ⟨b,3,none⟩ (.int .i64 n)) b raw ln mb ⟨n,o.locals,o.blocks⟩)/\(∀n:Nat,dq (w.setCell ⟨b,4,none⟩ (.int .i64 n)) b raw ln mb ⟨o.sec,n,o.blocks⟩)/\(∀n:Nat,dq (w.setCell ⟨b,5,none⟩ (.int .i64 n)) b raw ln mb ⟨o.sec,o.locals,n⟩):=by
 unfold dq at h⊢;exact⟨fun n=>by rw[Go.Proofs.YtmlgajhhnojdjaaGreatDoor.Aux.heap_setCell_same h 3];rfl,fun n=>by rw[Go.Proofs.YtmlgajhhnojdjaaGreatDoor.Aux.heap_setCell_same h 4];rfl,fun n=>by rw[Go.Proofs.YtmlgajhhnojdjaaGreatDoor.Aux.heap_setCell_same h 5];rfl⟩
theorem UG (raw:Bool)(ln mb op:Nat)(w:World):
  Calls Tryz.prog 198 #[.agg #[.bool raw,.int .i64 ln,.int .i64 mb],.int .i64 op] w fun e w'=>e=.returned (.bool (pE raw op))/\Below w.heap.size w w':=by
 have hb:Below w.heap.size w (w.alloc (.cells #[.bool raw,.int .i64 ln,.int .i64 mb] 130)):=(Below.refl _ _).alloc (jC _) _;have hx:op=15\/op=16\/op=17\/op=21\/(¬op=15/\¬op=16/\¬op=17/\¬op=21):=by omega
 rcases hx with rfl|rfl|rfl|rfl|⟨h1,h2,h3,h4⟩
 iterate 4
  ·go_enter Tryz.func198,Tryz.ntmps198
   go_wp2
   go_ret
   exact⟨rfl,hb⟩
 ·have hh:pE raw op=true:=by simp[pE,h1,h2,h3,h4]
  have b1:((op:Int)==15)=false:=by rw[jZ];omega
  have b2:((op:Int)==16)=false:=by rw[jZ];omega
  have b3:((op:Int)==17)=false:=by rw[jZ];omega
  have b4:((op:Int)==21)=false:=by rw[jZ];omega
  rw[hh];clear h1 h2 h3 h4 hh;go_enter Tryz.func198,Tryz.ntmps198
  go_wp2
  go_ret
  exact⟨rfl,hb⟩
theorem Ty (op:Nat)(w:World):
  Calls Tryz.prog 199 #[.int .i64 op] w fun e w'=>e=.returned (.bool (decide (18<=op)))/\w'=w:=by
 by_cases h:18<=op
 all_goals
  go_enter Tryz.func199,Tryz.ntmps199
  go_wp2
  go_ret
  exact⟨by first|(simp[h];done)|(simp[h];omega),rfl⟩
def fh (raw:Bool)(ln mb b op:Nat)(o:fk)(w:World)(e:Ending)(w':World):Prop:=
 e=.returned (.bool (aQ raw o op).2)/\dq w' b raw ln mb (aQ raw o op).1/\bw b w w'
set_option maxRecDepth 20000 in
theorem JC (raw:Bool)(ln b op:Nat)(o:fk)(w:World)(h:dq w b raw ln (if raw then 2000 else 20) o)(ax:op<23)(hl:o.locals<=100000)(Rm:o.blocks<=100000)(aL:b<w.heap.size):
  Calls Tryz.prog 164 #[.pointer (some ⟨b,0,none⟩),.int .i64 op] w (fh raw ln (if raw then 2000 else 20) b op o w):=by
 have KH:=fun w'=>UG raw ln (if raw then 2000 else 20) op w'
 obtain⟨c0,c1,c2,c3,c4,c5,f3,f4,f5⟩:=h.facts;by_cases hh:pE raw op=false
 ·have e:aQ raw o op=(o,false):=by rw[aQ,jb hh]
  have P:∀w',Below w.heap.size w w'->fh raw ln (if raw then 2000 else 20) b op o w (.returned (.bool false)) w':=fun w' hb=>⟨by rw[e],by rw[e];exact h.below hb aL,bw.of hb⟩
  rw[hh]at KH;clear e hh;generalize (if raw then 2000 else 20:Nat)=mb at*;go_enter Tryz.func164,Tryz.ntmps164
  go_wp2_with (go_at_call 198;refine(KH _).mono ?_;rintro e w1 ⟨rfl,hb⟩)
  go_ret
  exact P _ hb
 ·rw[Bool.not_eq_false]at hh;have e0:aQ raw o op=if op=0 then(⟨o.sec,o.locals+1,o.blocks⟩,o.sec==0&&decide (o.locals+1<=12))
    else if op=1 then(⟨1,o.locals,o.blocks+1⟩,decide (0<o.locals)&& !(o.sec==1)&&decide (o.blocks+1<=if raw then 2000 else 20))
    else if¬o.sec=1 then(o,false)else if 18<=op then(⟨2,o.locals,o.blocks⟩,true)else(o,true):=by
   rw[aQ,ja (by simp[hh])]
  rw[hh]at KH;clear hh;by_cases h0:op=0
  ·rw[jb h0]at e0;have hop0:((op:Int)==0)=true:=by simp[h0]
   have P:∀(bl:Bool) w',bl=(o.sec==0&&decide (o.locals+1<=12))->dq w' b raw ln (if raw then 2000 else 20) ⟨o.sec,o.locals+1,o.blocks⟩->bw b w w'->fh raw ln (if raw then 2000 else 20) b op o w (.returned (.bool bl)) w':=fun bl w' ql ho hb=>⟨by rw[e0,ql],by rw[e0];exact ho,hb⟩
   clear e0 h0;generalize (if raw then 2000 else 20:Nat)=mb at*;by_cases Ol:o.sec=0
   ·have hs:((o.sec:Int)==0)=true:=by simp[Ol]
    by_cases hl12:o.locals+1<=12
    all_goals
     go_enter Tryz.func164,Tryz.ntmps164
     go_wp2_with (go_at_call 198;refine(KH _).mono ?_;rintro e w1 ⟨rfl,hb⟩;have h1:=h.below hb aL;obtain⟨d0,d1,d2,d3,d4,d5,g3,g4,g5⟩:=h1.facts)
     go_ret
     exact P _ _ (by first|(simp[Ol,hl12];done)|(simp[Ol,hl12];omega)) (h1.set.2.1 (o.locals+1)) ((bw.of hb).setCell 4 _)
   ·have hs:((o.sec:Int)==0)=false:=by rw[jZ];omega
    go_enter Tryz.func164,Tryz.ntmps164
    go_wp2_with (go_at_call 198;refine(KH _).mono ?_;rintro e w1 ⟨rfl,hb⟩;have h1:=h.below hb aL;obtain⟨d0,d1,d2,d3,d4,d5,g3,g4,g5⟩:=h1.facts)
    go_ret
    exact P _ _ (by first|(simp[Ol];done)|(simp[Ol];omega)) (h1.set.2.1 (o.locals+1)) ((bw.of hb).setCell 4 _)
  ·rw[ja h0]at e0;have hop0:((op:Int)==0)=false:=by rw[jZ];omega
   by_cases h1:op=1
   ·rw[jb h1]at e0;have hop1:((op:Int)==1)=true:=by simp[h1]
    have P:∀(bl:Bool) w',bl=(decide (0<o.locals)&& !(o.sec==1)&&decide (o.blocks+1<=if raw then 2000 else 20))->dq w' b raw ln (if raw then 2000 else 20) ⟨1,o.locals,o.blocks+1⟩->bw b w w'->fh raw ln (if raw then 2000 else 20) b op o w (.returned (.bool bl)) w':=fun bl w' ql ho hb=>⟨by rw[e0,ql],by rw[e0];exact ho,hb⟩
    clear e0 h0 h1;generalize (if raw then 2000 else 20:Nat)=mb at*;by_cases zM:0<o.locals
    ·by_cases lx:o.sec=1
     ·have hs:((o.sec:Int)==1)=true:=by simp[lx]
      go_enter Tryz.func164,Tryz.ntmps164
      go_wp2_with (go_at_call 198;refine(KH _).mono ?_;rintro e w1 ⟨rfl,hb⟩;have h1:=h.below hb aL;obtain⟨d0,d1,d2,d3,d4,d5,g3,g4,g5⟩:=h1.facts)
      go_quiet (fail)
      go_wp2
      go_ret
      exact P _ _ (by first|(simp[lx];done)|(simp[lx];omega)) (((h1.set.1 1).set.2.2 (o.blocks+1)).drewN nq) ((((bw.of hb).setCell 3 _).setCell 5 _).drewN nq)
     ·have hs:((o.sec:Int)==1)=false:=by rw[jZ];omega
      have hsn:((o.sec:Int) !=1)=true:=by rw[bne,hs];rfl
      by_cases Qa:o.blocks+1<=mb
      all_goals
       go_enter Tryz.func164,Tryz.ntmps164
       go_wp2_with (go_at_call 198;refine(KH _).mono ?_;rintro e w1 ⟨rfl,hb⟩;have h1:=h.below hb aL;obtain⟨d0,d1,d2,d3,d4,d5,g3,g4,g5⟩:=h1.facts)
       have hO:dq ((w1.setCell ⟨b,3,none⟩ (.int .i64 1)).setCell ⟨b,5,none⟩ (.int .i64 ((o.blocks:Int)+1))) b raw ln mb ⟨1,o.locals,o.blocks+1⟩:=(h1.set.1 1).set.2.2 (o.blocks+1);have hT:bw b w ((w1.setCell ⟨b,3,none⟩ (.int .i64 1)).setCell ⟨b,5,none⟩ (.int .i64 ((o.blocks:Int)+1))):=((bw.of hb).setCell 3 _).setCell 5 _;generalize ((w1.setCell ⟨b,3,none⟩ (.int .i64 1)).setCell ⟨b,5,none⟩ (.int .i64 ((o.blocks:Int)+1)))=W at hO hT⊢;clear d0 d1 d2 d3 d4 d5 g3 g4 g5 c0 c1 c2 c3 c4 c5 f3 f4 f5;obtain⟨d0,d1,d2,d3,d4,d5,g3,g4,g5⟩:=hO.facts;simp only[Int.natCast_add,Int.cast_ofNat_Int]at d5;go_quiet (fail)
       go_wp2
       go_ret
       exact P _ _ (by rw[show(o.sec==1)=false by simpa using lx,decide_eq_true zM,jX];simp only[Bool.true_and,Bool.not_false,decide_eq_true_eq];omega) (hO.drewN nq) (hT.drewN nq)
    ·go_enter Tryz.func164,Tryz.ntmps164
     go_wp2_with (go_at_call 198;refine(KH _).mono ?_;rintro e w1 ⟨rfl,hb⟩;have h1:=h.below hb aL;obtain⟨d0,d1,d2,d3,d4,d5,g3,g4,g5⟩:=h1.facts)
     go_quiet (fail)
     go_wp2
     go_ret
     exact P _ _ (by first|(simp[zM];done)|(simp[zM];omega)) (((h1.set.1 1).set.2.2 (o.blocks+1)).drewN nq) ((((bw.of hb).setCell 3 _).setCell 5 _).drewN nq)
   ·rw[ja h1]at e0;have hop1:((op:Int)==1)=false:=by rw[jZ];omega
    by_cases lx:o.sec=1
    ·rw[ja (by simp[lx])]at e0;have hs:((o.sec:Int)==1)=true:=by simp[lx]
     have KT:=fun w'=>Ty op w'
     by_cases sw:18<=op
     ·rw[jb sw]at e0;have P:∀w',dq w' b raw ln (if raw then 2000 else 20) ⟨2,o.locals,o.blocks⟩->bw b w w'->fh raw ln (if raw then 2000 else 20) b op o w (.returned (.bool true)) w':=fun w' ho hb=>⟨by rw[e0],by rw[e0];exact ho,hb⟩
      have hd:decide (18<=op)=true:=by simp[sw]
      rw[hd]at KT;clear e0 h0 h1 lx hd;generalize (if raw then 2000 else 20:Nat)=mb at*;go_enter Tryz.func164,Tryz.ntmps164
      go_wp2_with (first|(go_at_call 198;refine(KH _).mono ?_;rintro e w1 ⟨rfl,hb⟩;have h1:=h.below hb aL;obtain⟨d0,d1,d2,d3,d4,d5,g3,g4,g5⟩:=h1.facts)|(go_at_call 199;refine(KT _).mono ?_;rintro e w2 ⟨rfl,rfl⟩))
      go_ret
      exact P _ (h1.set.1 2) ((bw.of hb).setCell 3 _)
     ·rw[ja sw]at e0;have P:∀w',dq w' b raw ln (if raw then 2000 else 20) o->bw b w w'->fh raw ln (if raw then 2000 else 20) b op o w (.returned (.bool true)) w':=fun w' ho hb=>⟨by rw[e0],by rw[e0];exact ho,hb⟩
      have hd:decide (18<=op)=false:=by simp;omega
      rw[hd]at KT;clear e0 h0 h1 lx hd;generalize (if raw then 2000 else 20:Nat)=mb at*;go_enter Tryz.func164,Tryz.ntmps164
      go_wp2_with (first|(go_at_call 198;refine(KH _).mono ?_;rintro e w1 ⟨rfl,hb⟩;have h1:=h.below hb aL;obtain⟨d0,d1,d2,d3,d4,d5,g3,g4,g5⟩:=h1.facts)|(go_at_call 199;refine(KT _).mono ?_;rintro e w2 ⟨rfl,rfl⟩))
      go_ret
      exact P _ h1 (bw.of hb)
    ·rw[jb lx]at e0;have hs:((o.sec:Int)==1)=false:=by rw[jZ];omega
     have P:∀w',dq w' b raw ln (if raw then 2000 else 20) o->bw b w w'->fh raw ln (if raw then 2000 else 20) b op o w (.returned (.bool false)) w':=fun w' ho hb=>⟨by rw[e0],by rw[e0];exact ho,hb⟩
     clear e0 h0 h1 lx;generalize (if raw then 2000 else 20:Nat)=mb at*;go_enter Tryz.func164,Tryz.ntmps164
     go_wp2_with (go_at_call 198;refine(KH _).mono ?_;rintro e w1 ⟨rfl,hb⟩;have h1:=h.below hb aL;obtain⟨d0,d1,d2,d3,d4,d5,g3,g4,g5⟩:=h1.facts)
     go_ret
     exact P _ h1 (bw.of hb)
theorem QQ (raw:Bool)(ln mb b:Nat)(o:fk)(w:World)(h:dq w b raw ln mb o):
  Calls Tryz.prog 165 #[.pointer (some ⟨b,0,none⟩)] w fun e w'=>e=.returned (.bool (decide (o.sec=2)))/\w'=w:=by
 obtain⟨c0,c1,c2,c3,c4,c5,f3,f4,f5⟩:=h.facts;go_enter Tryz.func165,Tryz.ntmps165
 go_wp2
 go_ret
 refine⟨?_,rfl⟩;rw[show(decide (o.sec=2))=((o.sec:Int)==2)from ?_]
 ·rfl
 ·rw[jX];simp;omega
end PrjK
namespace Aux
open Go Go.RowKit Sq
section
variable {P:Program} {w:World} {ops:Array Oper} {rest:List Oper} {o:Oper} {a:Act} {Q:Exit->Act->World->Prop}
theorem kh (Kk:o.guard=none)(s x:Operand)(t:TypeId)
  (ho:o.op=.call {callee:=.builtin .append,args:= #[s,x],argTypes:= #[t,t]})
  (base:Nat) (e:TypeId) (i:TypeInfo) (z:Value) (size bytes:Nat) (ht:P.underlying t=some (.slice e)) (hi:P.info? e=some i) (hz:i.zero=some z)
  (hsize:i.size=size) (hby:i.bytes=bytes) (hzs:z.cells.size=size) (ly:0<size)
  (v:Value) (n:Nat) (xs:List Value) (hs:a.eval s=v) (js:w.ownsRow base e size v n xs)
  (g0:Nat) (us:List Value) (hx:a.eval x=.slice (some ⟨g0,0,none⟩) 1 1) {e':TypeId} {fr:Nat×Nat} (bV:w.heap[g0]?=some (.cells us.toArray e' fr)) (hul:us.length=size) (h1:∀u∈us,u.oneCell'=true)
  (aw:1<=bytes) (hbytes:(n+1)*bytes<=140737488355328) (qP:base<=w.heap.size)
  (h:∀g cap w',w'.ownsRow base e size (.slice (some ⟨g,0,none⟩) (n+1) cap) (n+1) (xs++us)->w.grownBy w' v.ownBlock->(v.ownBlock=some g\/g=w.heap.size)->g<w'.heap.size->wpList P ops Q rest (a.put o.dst (.slice (some ⟨g,0,none⟩) (n+1) cap)) w'):wpList P ops Q (o::rest) a w:=by
 refine wpList_append_lies _ Kk s x t ho base e i z size bytes ht hi hz hsize hby hzs ly v n xs hs js ⟨g0,0,none⟩ 1 1 us hx (by omega) ?_ h1 (by decide) ?_ hbytes qP w.heap.size rfl h
 ·exact World.news_of_block bV
 ·have:n+1<=(n+1)*bytes:=Nat.le_mul_of_pos_right _ aw;unfold maxLen;omega
theorem rD {K:Act->World->Prop}{E:Prop}(Kk:o.guard=none)(s x:Operand)(t:TypeId)
  (ho:o.op=.call {callee:=.builtin .append,args:= #[s,x],argTypes:= #[t,t]})
  (base:Nat) (e:TypeId) (i:TypeInfo) (z:Value) (size bytes:Nat) (ht:P.underlying t=some (.slice e)) (hi:P.info? e=some i) (hz:i.zero=some z)
  (hsize:i.size=size) (hby:i.bytes=bytes) (hzs:z.cells.size=size) (ly:0<size)
  (v:Value) (n:Nat) (xs:List Value) (hs:a.eval s=v) (js:w.ownsRow base e size v n xs)
  (g0:Nat) (us:List Value) (hx:a.eval x=.slice (some ⟨g0,0,none⟩) 1 1) {e':TypeId} {fr:Nat×Nat} (bV:w.heap[g0]?=some (.cells us.toArray e' fr)) (hul:us.length=size) (h1:∀u∈us,u.oneCell'=true)
  (aw:1<=bytes) (hbytes:(n+1)*bytes<=140737488355328) (qP:base<=w.heap.size)
  (h:∀g cap w',w'.ownsRow base e size (.slice (some ⟨g,0,none⟩) (n+1) cap) (n+1) (xs++us)->w.grownBy w' v.ownBlock->(v.ownBlock=some g\/g=w.heap.size)->g<w'.heap.size->K (a.put o.dst (.slice (some ⟨g,0,none⟩) (n+1) cap)) w'):
  if Region.wanted o (yielded ops a.tmps)=true then Oper.wp P o a w K Q else E:=by
 refine step_append_lies _ Kk s x t ho base e i z size bytes ht hi hz hsize hby hzs ly v n xs hs js ⟨g0,0,none⟩ 1 1 us hx (by omega) ?_ h1 (by decide) ?_ hbytes qP w.heap.size rfl h
 ·exact World.news_of_block bV
 ·have:n+1<=(n+1)*bytes:=Nat.le_mul_of_pos_right _ aw;unfold maxLen;omega
end
theorem jn {α:Type}(f:α->List Value)(m:Nat)(hf:∀x,(f x).length=m):∀(l:List α) (j c:Nat),c<m->(l.flatMap f)[j*m+c]?=(l[j]?).bind fun x=>(f x)[c]?
 |[],j,c,_=>by simp
 |x::l,0,c,hc=>by
  rw[List.flatMap_cons,Nat.zero_mul,Nat.zero_add,jg (by rw[hf];exact hc)];rfl
 |x::l,j+1,c,hc=>by
  have e:(j+1)*m+c=m+(j*m+c):=by rw[Nat.add_mul];omega
  rw[List.flatMap_cons,e,jf (by rw[hf];omega),hf,Nat.add_sub_cancel_left,jn f m hf l j c hc];rfl
theorem Gm {α:Type}(f:α->List Value)(m:Nat)(hf:∀x,(f x).length=m):∀(l:List α),(l.flatMap f).length=l.length*m
 |[]=>by simp
 |x::l=>by rw[List.flatMap_cons,jV,hf,Gm f m hf l,jY,Nat.add_mul];omega
theorem dK {w:World}{base:Nat}{e:TypeId}{size:Nat}{v:Value}{n:Nat}{xs:List Value}(h:w.ownsRow base e size v n xs)(hn:0<n):
  ∃g cap,v=.slice (some ⟨g,0,none⟩) n cap/\n<=cap/\g<w.heap.size/\∀j,j<n*size->w.cell? ⟨g,j,none⟩=xs[j]?:=by
 have hl:=h.lt;obtain⟨h0,h⟩:=h;rcases h with⟨-,h⟩|⟨g,cap,cur,rfl,hb,hg,hc,hm,hs,ht⟩
 ·omega
 ·refine⟨g,cap,rfl,hc,(hl g rfl).2,fun j hj=> ?_⟩;rw[cell_of_heap hg];have:(cur.toList.take (n*size))[j]?=cur[j]?:=by
   rw[List.getElem?_take,jb hj];simp
  rw[<-this,ht]
end Aux
namespace PrjL
open Go Go.RowKit Sq Aux PrjF PrjG PrjH PrjI PrjJ PrjK
theorem FQ (raw:Bool)(o:fk)(op:Nat):(aQ raw o op).1.locals<=o.locals+1/\(aQ raw o op).1.blocks<=o.blocks+1:=by
 unfold aQ
 repeat (first|(split;(first|exact⟨by simp,by simp⟩|skip))|exact⟨by simp,by simp⟩)
structure mR (raw:Bool)(LS:List (List B))(k:Nat)(done:List (Nat×List B))(o:fk):Prop where
 same:aG raw LS ⟨0,0,0⟩ 0=(done++(aG raw (LS.drop k) o k).1,(aG raw (LS.drop k) o k).2)
 len:done.length=k
 sec:o.sec<=2
 fe:o.locals<=k/\o.blocks<=k
theorem mR.start (raw:Bool)(LS:List (List B)):mR raw LS 0 [] ⟨0,0,0⟩:=⟨rfl,rfl,by simp,by simp⟩
theorem mR.bad {raw:Bool}{LS:List (List B)}{k:Nat}{done:List (Nat×List B)}{o:fk}(h:mR raw LS k done o)(hk:k<LS.length)(hs:eQ LS[k]=none):(aG raw LS ⟨0,0,0⟩ 0).2.2=some k:=by
 rw[h.same,jE hk,aG,hs]
theorem mR.out {raw:Bool}{LS:List (List B)}{k:Nat}{done:List (Nat×List B)}{o:fk}(h:mR raw LS k done o)(hk:k<LS.length){x:Nat×List B}(hs:eQ LS[k]=some x)(ha:(aQ raw o x.1).2=false):(aG raw LS ⟨0,0,0⟩ 0).2.2=some k:=by
 rw[h.same,jE hk,aG,hs];simp only;rw[ja (by rw[ha];simp)]
theorem mR.on {raw:Bool}{LS:List (List B)}{k:Nat}{done:List (Nat×List B)}{o:fk}(h:mR raw LS k done o)(hk:k<LS.length){x:Nat×List B}(hs:eQ LS[k]=some x)(ha:(aQ raw o x.1).2=true):mR raw LS (k+1) (done++[x]) (aQ raw o x.1).1:=by
 refine⟨?_,by simp[h.len],qB raw o x.1 h.sec,?_⟩
 ·rw[h.same,jE hk,aG,hs];simp only;rw[jb ha];simp
 ·have:=FQ raw o x.1;have:=h.fe;omega
theorem mR.whole {raw:Bool}{LS:List (List B)}{k:Nat}{done:List (Nat×List B)}{o:fk}(h:mR raw LS k done o)(hk:¬k<LS.length):aG raw LS ⟨0,0,0⟩ 0=(done,o,none):=by
 rw[h.same,jT (by omega),aG];simp
def o9 (S:List (Nat×List B))(vs:List Value):List Value:=(S.zip vs).flatMap fun x=>[.int .i64 (x.1.1:Nat),x.2]
structure cS (z:Nat)(w:World)(v:Value)(S:List (Nat×List B))(vs:List Value):Prop where
 len:vs.length=S.length
 row:w.ownsRow z 240 2 v S.length (o9 S vs)
 each:∀j,j<S.length->fO w (vs.getD j undef) (S.getD j (0,[])).2
theorem cS.nil (z:Nat)(w:World):cS z w (.slice none 0 0) [] []:=⟨rfl,World.ownsRow_nil _ _ _ _,fun j hj=>by simp at hj⟩
theorem cS.below {z:Nat}{w w':World}{v:Value}{S:List (Nat×List B)}{vs:List Value}(h:cS z w v S vs)(hb:Below w.heap.size w w'):cS z w' v S vs:=
 ⟨h.len,ay h.row hb,fun j hj=>(h.each j hj).below hb⟩
theorem qd {w w':World}{v:Value}{L:List B}(h:fO w v L)(hb:∀(g:Nat) (cs:Array Value) (f:Nat×Nat),w.heap[g]?=some (.cells cs 9 f)->w'.heap[g]?=w.heap[g]?):fO w' v L:=by
 obtain⟨g,o,cap,rfl,hc,⟨cs,f,hg⟩,aD⟩:=h;have e:=hb g cs f hg;refine⟨g,o,cap,rfl,hc,⟨cs,f,e.trans hg⟩,fun j hj=> ?_⟩;have:=aD j hj;simp only[World.cell?]at this⊢;rw[e];exact this
theorem bj {w:World}{z:Nat}{e e':TypeId}{size:Nat}{v:Value}{n:Nat}{xs:List Value}(h:w.ownsRow z e size v n xs){g:Nat}{cs:Array Value}{f:Nat×Nat}(hg:w.heap[g]?=some (.cells cs e' f))(he:e≠e'):some g≠v.ownBlock:=
 fun x=>au h hg he x.symm
theorem cS.qb {z b:Nat}{w w':World}{v:Value}{S:List (Nat×List B)}{vs:List Value}(h:cS z w v S vs)(hb:bw b w w'){cs:Array Value}{f:Nat×Nat}(ho:w.heap[b]?=some (.cells cs 238 f)):cS z w' v S vs:=by
 have key:∀(g:Nat) (cs':Array Value) (e':TypeId) (f':Nat×Nat),w.heap[g]?=some (.cells cs' e' f')->e'≠238->w'.heap[g]?=w.heap[g]?:=fun g cs' e' f' hg he=>hb.block g (lt_of_heap hg) (fun x=>by
  subst x;rw[ho]at hg;simp only[Option.some.injEq,Obj.cells.injEq]at hg;exact he hg.2.1.symm)
 refine⟨h.len,gi h.row (fun g hg=> ?_),fun j hj=>qd (h.each j hj) fun g cs' f' hg=>key g cs' _ f' hg (by decide)⟩;rcases h.row.2 with⟨rfl,-⟩|⟨g',cap,cur,rfl,-,Rw,-⟩
 ·cases hg
 ·simp only[Value.ownBlock,Option.some.injEq]at hg;subst hg;exact key _ _ _ _ Rw (by decide)
theorem cS.more {z:Nat}{w w2 w3:World}{v v' u:Value}{S:List (Nat×List B)}{vs:List Value}(h:cS z w v S vs)(x:Nat×List B)(hu:fO w u x.2)(h2:Below w.heap.size w w2)
  (h3:w3.ownsRow z 240 2 v' (S.length+1) (o9 S vs++[.int .i64 (x.1:Nat),u])) (hg:w2.grownBy w3 v.ownBlock):cS z w3 v' (S++[x]) (vs++[u]):=by
 have H:=h.below h2;have hu2:=hu.below h2;have df:∀(g:Nat) (cs:Array Value) (f:Nat×Nat),w2.heap[g]?=some (.cells cs 9 f)->w3.heap[g]?=w2.heap[g]?:=fun g cs f yT=>hg.block g (lt_of_heap yT) (bj H.row yT (by decide))
 refine⟨by simp[h.len],?_,fun j hj=> ?_⟩
 ·have:o9 (S++[x]) (vs++[u])=o9 S vs++[.int .i64 (x.1:Nat),u]:=by
   unfold o9;rw[List.zip_append h.len.symm];simp
  rw[this];simpa using h3
 ·simp at hj;by_cases aL:j<S.length
  ·have e1:(vs++[u]).getD j undef=vs.getD j undef:=by simp[List.getD_eq_getElem?_getD,List.getElem?_append,h.len,aL]
   have e2:(S++[x]).getD j (0,[])=S.getD j (0,[]):=by simp[List.getD_eq_getElem?_getD,List.getElem?_append,aL]
   rw[e1,e2];exact qd (H.each j aL) df
  ·obtain rfl:j=S.length:=by omega
   have e1:(vs++[u]).getD S.length undef=u:=by simp[List.getD_eq_getElem?_getD,<-h.len]
   have e2:(S++[x]).getD S.length (0,[])=x:=by simp[List.getD_eq_getElem?_getD]
   rw[e1,e2];exact qd hu2 df
theorem cS.at {z:Nat}{w:World}{v:Value}{S:List (Nat×List B)}{vs:List Value}(h:cS z w v S vs)(j:Nat)(hj:j<S.length):
  ∃g cap,v=.slice (some ⟨g,0,none⟩) S.length cap/\S.length<=cap/\g<w.heap.size/\w.cell? ⟨g,j*2,none⟩=some (.int .i64 ((S.getD j (0,[])).1:Nat))/\w.cell? ⟨g,j*2+1,none⟩=some (vs.getD j undef):=by
 obtain⟨g,cap,hv,hc,aL,aD⟩:=dK h.row (by omega);have hz:(S.zip vs)[j]?=some (S.getD j (0,[]),vs.getD j undef):=by
  have:j<vs.length:=by rw[h.len];exact hj
  simp[List.getElem?_zip_eq_some,hj,this]
 have f0:=jn (fun x:(Nat×List B)×Value=>[.int .i64 (x.1.1:Nat),x.2]) 2 (fun _=>rfl) (S.zip vs) j 0 (by decide);have f1:=jn (fun x:(Nat×List B)×Value=>[.int .i64 (x.1.1:Nat),x.2]) 2 (fun _=>rfl) (S.zip vs) j 1 (by decide);rw[hz]at f0 f1;exact⟨g,cap,hv,hc,aL,(aD (j*2) (by omega)).trans f0,(aD (j*2+1) (by omega)).trans f1⟩
end PrjL
namespace PrjN
open Go Go.RowKit Sq Aux PrjF PrjG PrjH PrjI PrjJ PrjK PrjL
def dX (raw:Bool)(L:List B)(w:World)(e:Ending)(w':World):Prop:=
 Below w.heap.size w w'/\match aG raw (L.map (split 32)) ⟨0,0,0⟩ 0 with
  |(_,_,some k)=>e=.returned (.tuple #[.slice none 0 0,.int .i64 (k:Nat),.bool false])
  |(S,o,none)=>∃v vs,e=.returned (.tuple #[v,.int .i64 (L.length:Nat),.bool (decide (o.sec=2))])/\cS w.heap.size w' v S vs
theorem dX.bad {raw:Bool}{L:List B}{w w':World}{k:Nat}(hb:Below w.heap.size w w')(h:(aG raw (L.map (split 32)) ⟨0,0,0⟩ 0).2.2=some k):dX raw L w (.returned (.tuple #[.slice none 0 0,.int .i64 (k:Nat),.bool false])) w':=by
 refine⟨hb,?_⟩;generalize aG raw (L.map (split 32)) ⟨0,0,0⟩ 0=R at h;obtain⟨S,o,x⟩:=R;simp only at h;subst h;rfl
theorem dX.ml {raw:Bool}{L:List B}{w w':World}{S:List (Nat×List B)}{o:fk}{v:Value}{vs:List Value}(hb:Below w.heap.size w w')(h:aG raw (L.map (split 32)) ⟨0,0,0⟩ 0=(S,o,none))(hs:cS w.heap.size w' v S vs):dX raw L w (.returned (.tuple #[v,.int .i64 (L.length:Nat),.bool (decide (o.sec=2))])) w':=by
 refine⟨hb,?_⟩;rw[h];exact⟨v,vs,rfl,hs⟩
theorem P3 {w:World}{u:Value}{L:List B}(h:fO w u L):u.oneCell'=true:=by
 obtain⟨g,o,cap,rfl,-⟩:=h;rfl
theorem Vz {n:Int}{u:Value}(h:u.oneCell'=true):∀u'∈[Value.int .i64 n,u],u'.oneCell'=true:=by
 intro u' hu;simp at hu;rcases hu with rfl|rfl
 ·rfl
 ·exact h
theorem Mo {b:Nat}{w w':World}{v:Value}{L:List B}(h:fO w v L)(hb:bw b w w'){raw:Bool}{ln mb:Nat}{o:fk}(ho:dq w b raw ln mb o):fO w' v L:=
 qd h fun g cs f hg=>hb.block g (lt_of_heap hg) (fun x=>by
  subst x;unfold dq at ho;rw[ho]at hg;simp only[Option.some.injEq,Obj.cells.injEq]at hg;exact absurd hg.2.1 (by decide))
theorem LY {b:Nat}{w w':World}{x y:Value}(hb:bw b (w.alloc (.cells #[x,y] 240)) w')(ec:b<w.heap.size):w'.cell? ⟨w.heap.size,0,none⟩=some x/\w'.cell? ⟨w.heap.size,1,none⟩=some y:=by
 have h0:(w.alloc (.cells #[x,y] 240)).heap[w.heap.size]?=some (.cells #[x,y] 240 (0,0)):=jD;have h1:w'.heap[w.heap.size]?=some (.cells #[x,y] 240 (0,0)):=(hb.block _ (lt_of_heap h0) (by omega)).trans h0;exact⟨by rw[cell_of_heap h1];rfl,by rw[cell_of_heap h1];rfl⟩
theorem Oq:(Tryz.prog.info? 240).map (fun i=>(i.zero,i.size,i.bytes))=some (some (.agg #[.int .i64 0,.slice none 0 0]),2,32):=by kernel_rfl
set_option maxRecDepth 20000 in
set_option maxHeartbeats 1000000 in
theorem yi (raw:Bool)(ln g cap:Nat)(L:List B)(w:World)(hL:L.length<=4000)(_hcap:L.length<=cap)(hg:g<w.heap.size)(aD:∀j,j<L.length->w.cell? ⟨g,j,none⟩=some (.string (bs (word L j))))(hlen:∀j,(word L j).length<=1048576)(E:Env w):
  Calls Tryz.prog 115 #[.agg #[.bool raw,.int .i64 ln,.int .i64 (if raw then 2000 else 20:Nat)],.slice (some ⟨g,0,none⟩) L.length cap] w (dX raw L w):=by
 obtain⟨i0,Z3,A1,Ez,xX⟩:=info_parts Oq;have KA:=fun(op:Nat) (o:fk) (w':World)=>JC raw ln (w.heap.size+1) op o w'
 generalize (if raw then 2000 else 20:Nat)=mb at KA⊢;have fC:Below w.heap.size w ((w.alloc (.cells #[.bool raw,.int .i64 ln,.int .i64 mb] 130)).alloc (.cells #[.bool raw,.int .i64 ln,.int .i64 mb,.int .i64 0,.int .i64 0,.int .i64 0] 238)):=((Below.refl _ _).alloc (jC _) _).alloc (by simp) _;have V8:dq ((w.alloc (.cells #[.bool raw,.int .i64 ln,.int .i64 mb] 130)).alloc (.cells #[.bool raw,.int .i64 ln,.int .i64 mb,.int .i64 0,.int .i64 0,.int .i64 0] 238)) (w.heap.size+1) raw ln mb ⟨0,0,0⟩:=by
  unfold dq;rw[show w.heap.size+1=(w.alloc (.cells #[.bool raw,.int .i64 ln,.int .i64 mb] 130)).heap.size by simp];exact jD
 go_enter Tryz.func115,Tryz.ntmps115
 go_wp2
 go_loopw [4,16] (fun v i wr=>∃(k:Nat) (done:List (Nat×List B)) (o:fk) (vs:List Value),k<=L.length/\i=.int .i64 k/\dq wr (w.heap.size+1) raw ln mb o/\cS w.heap.size wr v done vs/\Below w.heap.size w wr/\Hid (mR raw (L.map (split 32)) k done o)) (fun _ i _=>L.length-(intOf i).toNat)
 case atStart=>exact⟨0,[],⟨0,0,0⟩,[],jQ _,rfl,V8,cS.nil _ _,fC,mR.start raw _⟩
 case round=>
  obtain⟨k,done,o,vs,hk,rfl,hO,hS,hB,HA⟩:=hrel;clear fC V8;by_cases aL:k<L.length
  ·have TX:wr.cell? ⟨g,k,none⟩=some (.string (bs (word L k))):=(hB.cell (p:=⟨g,k,none⟩) hg).trans (aD k aL);have KS:=BK (word L k) wr (hlen k) (E.on hB);have xt:k<(L.map (split 32)).length:=by simpa using aL
   have GS:Hid ((L.map (split 32))[k]=split 32 (word L k)):=by
    unfold Hid;simp[word,aL]
   have ly:w.heap.size+1<wr.heap.size:=lt_of_heap hO;cases hx:eQ (split 32 (word L k))with
   |none=>
    have Xt:=HA.out.bad xt (by rw[GS.out];exact hx);unfold me at KS;rw[hx]at KS;clear hx;go_wp2_with (go_at_call 163;refine KS.mono ?_;rintro e w1 ⟨aw,rfl⟩)
    go_ret3
    exact dX.bad ((hB.trans (aw.mono hB.size)).alloc (jS hB.size aw.size) _) Xt
   |some x=>
    obtain⟨-,XP⟩:=tE hx;have ax:=oX XP;have xR:=HA.out.fe;have Wk:=HA.out.len;unfold me at KS;rw[hx]at KS
    replace KS:Calls Tryz.prog 163 #[.string (bs (word L k))] wr fun e w'=>Below wr.heap.size wr w'/\∃gw ow cw,e=.returned (.tuple #[.agg #[.int .i64 (x.1:Nat),.slice (some ⟨gw,ow,none⟩) x.2.length cw],.bool true])/\fO w' (.slice (some ⟨gw,ow,none⟩) x.2.length cw) x.2:=
     KS.mono fun e w' ⟨h1,v,h2,h3⟩=>by
      have Zm:=h3;obtain⟨gw,ow,cw,rfl,-⟩:=Zm;exact⟨h1,gw,ow,cw,h2,h3⟩
    cases ha:(aQ raw o x.1).2 with
    |false=>
     have Xt:=HA.out.out xt (by rw[GS.out];exact hx) ha;have KB:∀w',dq w' (w.heap.size+1) raw ln mb o->w.heap.size+1<w'.heap.size->Calls Tryz.prog 164 #[.pointer (some ⟨w.heap.size+1,0,none⟩),.int .i64 x.1] w' fun e w''=>e=.returned (.bool false)/\dq w'' (w.heap.size+1) raw ln mb (aQ raw o x.1).1/\bw (w.heap.size+1) w' w'':=fun w' h1 h2=>by
      have:=KA x.1 o w' h1 ax (by omega) (by omega) h2;unfold fh at this
      rwa [ha]at this
     clear hx ha XP Wk xR KA;go_wp2_with (first
      |(go_at_call 163;refine KS.mono ?_;rintro e w1 ⟨aw,gw,ow,cw,rfl,hu⟩;have qu:w.heap.size+1<(w1.alloc (.cells #[.int .i64 (x.1:Nat),.slice (some ⟨gw,ow,none⟩) x.2.length cw] 240)).heap.size:=(by have:=aw.size;simp;omega);have Zr:=hO.below (aw.alloc aw.size (.cells #[.int .i64 (x.1:Nat),.slice (some ⟨gw,ow,none⟩) x.2.length cw] 240)) ly)
      |(go_at_call 164;refine(KB _ Zr qu).mono ?_;rintro e w2 ⟨rfl,iN,qs⟩))
     go_ret3
     exact dX.bad ((hB.trans ((aw.alloc aw.size _).mono hB.size)).trans (qs.below (by omega) (by omega))) Xt
    |true=>
     have HA2:Hid (mR raw (L.map (split 32)) (k+1) (done++[x]) (aQ raw o x.1).1):=HA.out.on xt (by rw[GS.out];exact hx) ha;have KB:∀w',dq w' (w.heap.size+1) raw ln mb o->w.heap.size+1<w'.heap.size->Calls Tryz.prog 164 #[.pointer (some ⟨w.heap.size+1,0,none⟩),.int .i64 x.1] w' fun e w''=>e=.returned (.bool true)/\dq w'' (w.heap.size+1) raw ln mb (aQ raw o x.1).1/\bw (w.heap.size+1) w' w'':=fun w' h1 h2=>by
      have:=KA x.1 o w' h1 ax (by omega) (by omega) h2;unfold fh at this
      rwa [ha]at this
     clear hx ha XP xR KA;go_wp2_with (first
      |(go_at_call 163;refine KS.mono ?_;rintro e w1 ⟨aw,gw,ow,cw,rfl,hu⟩;have qu:w.heap.size+1<(w1.alloc (.cells #[.int .i64 (x.1:Nat),.slice (some ⟨gw,ow,none⟩) x.2.length cw] 240)).heap.size:=(by have:=aw.size;simp;omega);have Zr:=hO.below (aw.alloc aw.size (.cells #[.int .i64 (x.1:Nat),.slice (some ⟨gw,ow,none⟩) x.2.length cw] 240)) ly)
      |(go_at_call 164;refine(KB _ Zr qu).mono ?_;rintro e w2 ⟨rfl,iN,qs⟩;have hsb:=LY qs (by have:=aw.size;omega);obtain⟨Ol,lx⟩:=hsb;have Jo:=(hS.below (aw.alloc aw.size (.cells #[.int .i64 (x.1:Nat),.slice (some ⟨gw,ow,none⟩) x.2.length cw] 240))).qb qs Zr;have YX:=P3 hu;have hbs:w.heap.size<=w2.heap.size:=(by have:=qs.size;omega))
      |(at_builtin;go_must (refine kh rfl _ _ 193 rfl w.heap.size 240 i0 (.agg #[.int .i64 0,.slice none 0 0]) 2 32 Tryz.underlying193 Z3 A1 Ez xX rfl (by decide) _ _ _ rfl (ay Jo.row ((Below.refl _ _).alloc (jC _) (.cells #[.int .i64 (x.1:Nat),.slice (some ⟨gw,ow,none⟩) x.2.length cw] 240))) w2.heap.size [.int .i64 (x.1:Nat),.slice (some ⟨gw,ow,none⟩) x.2.length cw] rfl jD rfl (Vz YX) (by decide) (by omega) (by simp;omega) ?_);intro g3 c3 w3 hown3 hgrow3 hat3 hlt3))
     go_roundw
     case rel=>
      have Jp:Below w2.heap.size w2 (w2.alloc (.cells #[.int .i64 (x.1:Nat),.slice (some ⟨gw,ow,none⟩) x.2.length cw] 240)):=(Below.refl _ _).alloc (jC _) _;have mn:Below w.heap.size w w2:=(hB.trans ((aw.alloc aw.size _).mono hB.size)).trans (qs.below (by omega) (by omega));have hu2:=Mo (hu.below ((Below.refl _ _).alloc (jC _) (.cells #[.int .i64 (x.1:Nat),.slice (some ⟨gw,ow,none⟩) x.2.length cw] 240))) qs Zr;have hOE:=iN.below Jp (lt_of_heap iN);have Wl:=Jo.more x hu2 Jp hown3 hgrow3;rw[Wk]at Wl;refine⟨k+1,done++[x],(aQ raw o x.1).1,vs++[.slice (some ⟨gw,ow,none⟩) x.2.length cw],by omega,by go_num,?_,Wl,fu mn (jC _) mn.size Jo.row hgrow3,HA2⟩;unfold dq at hOE⊢;rw[hgrow3.block _ (lt_of_heap hOE) (bj (ay Jo.row Jp) hOE (by decide))];exact hOE
     case measure=>simp[intOf];omega
  ·have hw:=HA.out.whole (by simpa using aL);have KD:=fun w' (h:dq w' (w.heap.size+1) raw ln mb o)=>QQ raw ln mb (w.heap.size+1) o w' h
   go_wp2_with (go_at_call 165;refine(KD _ hO).mono ?_;rintro e wd ⟨rfl,rfl⟩)
   go_ret3
   exact dX.ml hB hw hS
end PrjN
end Go.Proofs.YtmlgajhhnojdjaaGreatDoor

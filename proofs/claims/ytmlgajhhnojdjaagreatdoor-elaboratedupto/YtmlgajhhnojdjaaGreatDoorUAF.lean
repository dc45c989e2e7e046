import Derived.Test.YtmlgajhhnojdjaaGreatDoorUAE
import Derived.BigQuiet
namespace Go.Proofs.YtmlgajhhnojdjaaGreatDoor
namespace PrjK
open Go Go.RowKit Sq Aux PrjF PrjG PrjH PrjI PrjJ
structure bD (b:Nat)(w w':World):Prop where
 os:w'.os=w.os
 tape:w'.tape=w.tape
 output:w'.output=w.output
 size:w.heap.size<=w'.heap.size
 block:∀k,k<w.heap.size->k≠b->w'.heap[k]?=w.heap[k]?
theorem bD.refl (b:Nat)(w:World):bD b w w:=⟨rfl,rfl,rfl,jC _,fun _ _ _=>rfl⟩
theorem bD.setCell {b:Nat}{w w':World}(h:bD b w w')(o:Nat)(v:Value):bD b w (w'.setCell ⟨b,o,none⟩ v):=
 ⟨h.os,h.tape,h.output,by simpa using h.size,fun k hk mY=>by rw[Below.heap_setCell _ _ _ _ (by show k≠b;exact mY)];exact h.block k hk mY⟩
theorem bD.on {b:Nat}{w w1 w2:World}(h:bD b w w1)(hb:Below w1.heap.size w1 w2):bD b w w2:=
 ⟨hb.os.trans h.os,hb.tape.trans h.tape,hb.output.trans h.output,jS h.size hb.size,fun k hk mY=>(hb.block k (jK hk h.size)).trans (h.block k hk mY)⟩
theorem bD.drewN {b:Nat}{w w1:World}(h:bD b w w1)(n:Nat):bD b w (w1.drewN n):=h.on (below_drewN (Below.refl _ _) n)
theorem bD.trans {b:Nat}{w w1 w2:World}(h:bD b w w1)(hb:bD b w1 w2):bD b w w2:=
 ⟨hb.os.trans h.os,hb.tape.trans h.tape,hb.output.trans h.output,jS h.size hb.size,fun k hk mY=>(hb.block k (jK hk h.size) mY).trans (h.block k hk mY)⟩
theorem bD.of {b:Nat}{w w1:World}(h:Below w.heap.size w w1):bD b w w1:=(bD.refl b w).on h
theorem bD.below {b B:Nat}{w w':World}(h:bD b w w')(hB:B<=b)(hb:B<=w.heap.size):Below B w w':=⟨h.os,h.tape,h.output,h.size,fun k hk=>h.block k (by omega) (by omega)⟩
def dr (w:World)(b:Nat)(raw:Bool)(ln mb:Nat)(o:eA):Prop:=
 w.heap[b]?=some (.cells #[.bool raw,.int .i64 ln,.int .i64 mb,.int .i64 o.sec,.int .i64 o.locals,.int .i64 o.blocks] 238 (0,0))
theorem dr.facts {w:World}{b:Nat}{raw:Bool}{ln mb:Nat}{o:eA}(h:dr w b raw ln mb o):
  w.cell? ⟨b,0,none⟩=some (.bool raw)/\w.cell? ⟨b,1,none⟩=some (.int .i64 ln)/\w.cell? ⟨b,2,none⟩=some (.int .i64 mb)/\w.cell? ⟨b,3,none⟩=some (.int .i64 o.sec)/\w.cell? ⟨b,4,none⟩=some (.int .i64 o.locals)/\w.cell? ⟨b,5,none⟩=some (.int .i64 o.blocks)/\
  w.frozen? ⟨b,3,none⟩=false/\w.frozen? ⟨b,4,none⟩=false/\w.frozen? ⟨b,5,none⟩=false:=by
 unfold dr at h;exact⟨by rw[cell_of_heap h];rfl,by rw[cell_of_heap h];rfl,by rw[cell_of_heap h];rfl,by rw[cell_of_heap h];rfl,by rw[cell_of_heap h];rfl,by rw[cell_of_heap h];rfl,frozen_of_heap h 3,frozen_of_heap h 4,frozen_of_heap h 5⟩
theorem dr.below {w w':World}{b:Nat}{raw:Bool}{ln mb:Nat}{o:eA}(h:dr w b raw ln mb o){B:Nat}(hb:Below B w w')(hB:b<B):dr w' b raw ln mb o:=by
 unfold dr;rw[hb.block b hB];exact h
theorem dr.drewN {w:World}{b:Nat}{raw:Bool}{ln mb:Nat}{o:eA}(h:dr w b raw ln mb o)(n:Nat):dr (w.drewN n) b raw ln mb o:=h
theorem dr.set {w:World}{b:Nat}{raw:Bool}{ln mb:Nat}{o:eA}(h:dr w b raw ln mb o):
  (∀n:Nat,dr (w.setCell ⟨b,3,none⟩ (.int .i64 n)) b raw ln mb ⟨n,o.locals,o.blocks⟩)/\(∀n:Nat,dr (w.setCell ⟨b,4,none⟩ (.int .i64 n)) b raw ln mb ⟨o.sec,n,o.blocks⟩)/\(∀n:Nat,dr (w.setCell ⟨b,5,none⟩ (.int .i64 n)) b raw ln mb ⟨o.sec,o.locals,n⟩):=by
 unfold dr at h⊢;exact⟨fun n=>by rw[Go.Proofs.YtmlgajhhnojdjaaGreatDoor.Aux.heap_setCell_same h 3];rfl,fun n=>by rw[Go.Proofs.YtmlgajhhnojdjaaGreatDoor.Aux.heap_setCell_same h 4];rfl,fun n=>by rw[Go.Proofs.YtmlgajhhnojdjaaGreatDoor.Aux.heap_setCell_same h 5];rfl⟩
theorem Rx (raw:Bool)(ln mb op:Nat)(w:World):
  Calls Tryz.prog 198 #[.agg #[.bool raw,.int .i64 ln,.int .i64 mb],.int .i64 op] w fun e w'=>e=.returned (.bool (iq raw op))/\Below w.heap.size w w':=by
 have hb:Below w.heap.size w (w.alloc (.cells #[.bool raw,.int .i64 ln,.int .i64 mb] 130)):=(Below.refl _ _).alloc (jC _) _;have hx:op=15\/op=16\/op=17\/op=21\/(¬op=15/\¬op=16/\¬op=17/\¬op=21):=by omega
 rcases hx with rfl|rfl|rfl|rfl|⟨h1,h2,h3,h4⟩
 iterate 4
  ·go_enter Tryz.func198,Tryz.ntmps198
   go_wp2
   go_ret
   exact⟨rfl,hb⟩
 ·have hh:iq raw op=true:=by simp[iq,h1,h2,h3,h4]
  have b1:((op:Int)==15)=false:=by rw[jZ];omega
  have b2:((op:Int)==16)=false:=by rw[jZ];omega
  have b3:((op:Int)==17)=false:=by rw[jZ];omega
  have b4:((op:Int)==21)=false:=by rw[jZ];omega
  rw[hh];clear h1 h2 h3 h4 hh;go_enter Tryz.func198,Tryz.ntmps198
  go_wp2
  go_ret
  exact⟨rfl,hb⟩
theorem Qq (op:Nat)(w:World):
  Calls Tryz.prog 199 #[.int .i64 op] w fun e w'=>e=.returned (.bool (decide (18<=op)))/\w'=w:=by
 by_cases h:18<=op
 all_goals
  go_enter Tryz.func199,Tryz.ntmps199
  go_wp2
  go_ret
  exact⟨by first|(simp[h];done)|(simp[h];omega),rfl⟩
def eY (raw:Bool)(ln mb b op:Nat)(o:eA)(w:World)(e:Ending)(w':World):Prop:=
 e=.returned (.bool (aD raw o op).2)/\dr w' b raw ln mb (aD raw o op).1/\bD b w w'
set_option maxRecDepth 20000 in
theorem Hh (raw:Bool)(ln b op:Nat)(o:eA)(w:World)(h:dr w b raw ln (if raw then 2000 else 20) o)(ak:op<23)(hl:o.locals<=100000)(YU:o.blocks<=100000)(bg:b<w.heap.size):
  Calls Tryz.prog 164 #[.pointer (some ⟨b,0,none⟩),.int .i64 op] w (eY raw ln (if raw then 2000 else 20) b op o w):=by
 have KH:=fun w'=>Rx raw ln (if raw then 2000 else 20) op w'
 obtain⟨c0,c1,c2,c3,c4,c5,f3,f4,f5⟩:=h.facts;by_cases hh:iq raw op=false
 ·have e:aD raw o op=(o,false):=by rw[aD,jb hh]
  have P:∀w',Below w.heap.size w w'->eY raw ln (if raw then 2000 else 20) b op o w (.returned (.bool false)) w':=fun w' hb=>⟨by rw[e],by rw[e];exact h.below hb bg,bD.of hb⟩
  rw[hh]at KH;clear e hh;generalize (if raw then 2000 else 20:Nat)=mb at*;go_enter Tryz.func164,Tryz.ntmps164
  go_wp2_with (go_at_call 198;refine(KH _).mono ?_;rintro e w1 ⟨rfl,hb⟩)
  go_ret
  exact P _ hb
 ·rw[Bool.not_eq_false]at hh;have e0:aD raw o op=if op=0 then(⟨o.sec,o.locals+1,o.blocks⟩,o.sec==0&&decide (o.locals+1<=12))
    else if op=1 then(⟨1,o.locals,o.blocks+1⟩,decide (0<o.locals)&& !(o.sec==1)&&decide (o.blocks+1<=if raw then 2000 else 20))
    else if¬o.sec=1 then(o,false)else if 18<=op then(⟨2,o.locals,o.blocks⟩,true)else(o,true):=by
   rw[aD,ja (by simp[hh])]
  rw[hh]at KH;clear hh;by_cases h0:op=0
  ·rw[jb h0]at e0;have hop0:((op:Int)==0)=true:=by simp[h0]
   have P:∀(bl:Bool) w',bl=(o.sec==0&&decide (o.locals+1<=12))->dr w' b raw ln (if raw then 2000 else 20) ⟨o.sec,o.locals+1,o.blocks⟩->bD b w w'->eY raw ln (if raw then 2000 else 20) b op o w (.returned (.bool bl)) w':=fun bl w' qS ho hb=>⟨by rw[e0,qS],by rw[e0];exact ho,hb⟩
   clear e0 h0;generalize (if raw then 2000 else 20:Nat)=mb at*;by_cases yj:o.sec=0
   ·have hs:((o.sec:Int)==0)=true:=by simp[yj]
    by_cases rB:o.locals+1<=12
    all_goals
     go_enter Tryz.func164,Tryz.ntmps164
     go_wp2_with (go_at_call 198;refine(KH _).mono ?_;rintro e w1 ⟨rfl,hb⟩;have h1:=h.below hb bg;obtain⟨d0,d1,d2,d3,d4,d5,g3,g4,g5⟩:=h1.facts)
     go_ret
     exact P _ _ (by first|(simp[yj,rB];done)|(simp[yj,rB];omega)) (h1.set.2.1 (o.locals+1)) ((bD.of hb).setCell 4 _)
   ·have hs:((o.sec:Int)==0)=false:=by rw[jZ];omega
    go_enter Tryz.func164,Tryz.ntmps164
    go_wp2_with (go_at_call 198;refine(KH _).mono ?_;rintro e w1 ⟨rfl,hb⟩;have h1:=h.below hb bg;obtain⟨d0,d1,d2,d3,d4,d5,g3,g4,g5⟩:=h1.facts)
    go_ret
    exact P _ _ (by first|(simp[yj];done)|(simp[yj];omega)) (h1.set.2.1 (o.locals+1)) ((bD.of hb).setCell 4 _)
  ·rw[ja h0]at e0;have hop0:((op:Int)==0)=false:=by rw[jZ];omega
   by_cases h1:op=1
   ·rw[jb h1]at e0;have XT:((op:Int)==1)=true:=by simp[h1]
    have P:∀(bl:Bool) w',bl=(decide (0<o.locals)&& !(o.sec==1)&&decide (o.blocks+1<=if raw then 2000 else 20))->dr w' b raw ln (if raw then 2000 else 20) ⟨1,o.locals,o.blocks+1⟩->bD b w w'->eY raw ln (if raw then 2000 else 20) b op o w (.returned (.bool bl)) w':=fun bl w' qS ho hb=>⟨by rw[e0,qS],by rw[e0];exact ho,hb⟩
    clear e0 h0 h1;generalize (if raw then 2000 else 20:Nat)=mb at*;by_cases jy:0<o.locals
    ·by_cases iQ:o.sec=1
     ·have hs:((o.sec:Int)==1)=true:=by simp[iQ]
      go_enter Tryz.func164,Tryz.ntmps164
      go_wp2_with (go_at_call 198;refine(KH _).mono ?_;rintro e w1 ⟨rfl,hb⟩;have h1:=h.below hb bg;obtain⟨d0,d1,d2,d3,d4,d5,g3,g4,g5⟩:=h1.facts)
      go_quiet (fail)
      go_wp2
      go_ret
      exact P _ _ (by first|(simp[iQ];done)|(simp[iQ];omega)) (((h1.set.1 1).set.2.2 (o.blocks+1)).drewN nq) ((((bD.of hb).setCell 3 _).setCell 5 _).drewN nq)
     ·have hs:((o.sec:Int)==1)=false:=by rw[jZ];omega
      have Yb:((o.sec:Int) !=1)=true:=by rw[bne,hs];rfl
      by_cases RR:o.blocks+1<=mb
      all_goals
       go_enter Tryz.func164,Tryz.ntmps164
       go_wp2_with (go_at_call 198;refine(KH _).mono ?_;rintro e w1 ⟨rfl,hb⟩;have h1:=h.below hb bg;obtain⟨d0,d1,d2,d3,d4,d5,g3,g4,g5⟩:=h1.facts)
       have hO:dr ((w1.setCell ⟨b,3,none⟩ (.int .i64 1)).setCell ⟨b,5,none⟩ (.int .i64 ((o.blocks:Int)+1))) b raw ln mb ⟨1,o.locals,o.blocks+1⟩:=(h1.set.1 1).set.2.2 (o.blocks+1);have hT:bD b w ((w1.setCell ⟨b,3,none⟩ (.int .i64 1)).setCell ⟨b,5,none⟩ (.int .i64 ((o.blocks:Int)+1))):=((bD.of hb).setCell 3 _).setCell 5 _;generalize ((w1.setCell ⟨b,3,none⟩ (.int .i64 1)).setCell ⟨b,5,none⟩ (.int .i64 ((o.blocks:Int)+1)))=W at hO hT⊢;clear d0 d1 d2 d3 d4 d5 g3 g4 g5 c0 c1 c2 c3 c4 c5 f3 f4 f5;obtain⟨d0,d1,d2,d3,d4,d5,g3,g4,g5⟩:=hO.facts;simp only[Int.natCast_add,Int.cast_ofNat_Int]at d5;go_quiet (fail)
       go_wp2
       go_ret
       exact P _ _ (by rw[show(o.sec==1)=false by simpa using iQ,decide_eq_true jy,jX];simp only[Bool.true_and,Bool.not_false,decide_eq_true_eq];omega) (hO.drewN nq) (hT.drewN nq)
    ·go_enter Tryz.func164,Tryz.ntmps164
     go_wp2_with (go_at_call 198;refine(KH _).mono ?_;rintro e w1 ⟨rfl,hb⟩;have h1:=h.below hb bg;obtain⟨d0,d1,d2,d3,d4,d5,g3,g4,g5⟩:=h1.facts)
     go_quiet (fail)
     go_wp2
     go_ret
     exact P _ _ (by first|(simp[jy];done)|(simp[jy];omega)) (((h1.set.1 1).set.2.2 (o.blocks+1)).drewN nq) ((((bD.of hb).setCell 3 _).setCell 5 _).drewN nq)
   ·rw[ja h1]at e0;have XT:((op:Int)==1)=false:=by rw[jZ];omega
    by_cases iQ:o.sec=1
    ·rw[ja (by simp[iQ])]at e0;have hs:((o.sec:Int)==1)=true:=by simp[iQ]
     have KT:=fun w'=>Qq op w'
     by_cases kK:18<=op
     ·rw[jb kK]at e0;have P:∀w',dr w' b raw ln (if raw then 2000 else 20) ⟨2,o.locals,o.blocks⟩->bD b w w'->eY raw ln (if raw then 2000 else 20) b op o w (.returned (.bool true)) w':=fun w' ho hb=>⟨by rw[e0],by rw[e0];exact ho,hb⟩
      have hd:decide (18<=op)=true:=by simp[kK]
      rw[hd]at KT;clear e0 h0 h1 iQ hd;generalize (if raw then 2000 else 20:Nat)=mb at*;go_enter Tryz.func164,Tryz.ntmps164
      go_wp2_with (first|(go_at_call 198;refine(KH _).mono ?_;rintro e w1 ⟨rfl,hb⟩;have h1:=h.below hb bg;obtain⟨d0,d1,d2,d3,d4,d5,g3,g4,g5⟩:=h1.facts)|(go_at_call 199;refine(KT _).mono ?_;rintro e w2 ⟨rfl,rfl⟩))
      go_ret
      exact P _ (h1.set.1 2) ((bD.of hb).setCell 3 _)
     ·rw[ja kK]at e0;have P:∀w',dr w' b raw ln (if raw then 2000 else 20) o->bD b w w'->eY raw ln (if raw then 2000 else 20) b op o w (.returned (.bool true)) w':=fun w' ho hb=>⟨by rw[e0],by rw[e0];exact ho,hb⟩
      have hd:decide (18<=op)=false:=by simp;omega
      rw[hd]at KT;clear e0 h0 h1 iQ hd;generalize (if raw then 2000 else 20:Nat)=mb at*;go_enter Tryz.func164,Tryz.ntmps164
      go_wp2_with (first|(go_at_call 198;refine(KH _).mono ?_;rintro e w1 ⟨rfl,hb⟩;have h1:=h.below hb bg;obtain⟨d0,d1,d2,d3,d4,d5,g3,g4,g5⟩:=h1.facts)|(go_at_call 199;refine(KT _).mono ?_;rintro e w2 ⟨rfl,rfl⟩))
      go_ret
      exact P _ h1 (bD.of hb)
    ·rw[jb iQ]at e0;have hs:((o.sec:Int)==1)=false:=by rw[jZ];omega
     have P:∀w',dr w' b raw ln (if raw then 2000 else 20) o->bD b w w'->eY raw ln (if raw then 2000 else 20) b op o w (.returned (.bool false)) w':=fun w' ho hb=>⟨by rw[e0],by rw[e0];exact ho,hb⟩
     clear e0 h0 h1 iQ;generalize (if raw then 2000 else 20:Nat)=mb at*;go_enter Tryz.func164,Tryz.ntmps164
     go_wp2_with (go_at_call 198;refine(KH _).mono ?_;rintro e w1 ⟨rfl,hb⟩;have h1:=h.below hb bg;obtain⟨d0,d1,d2,d3,d4,d5,g3,g4,g5⟩:=h1.facts)
     go_ret
     exact P _ h1 (bD.of hb)
theorem Oi (raw:Bool)(ln mb b:Nat)(o:eA)(w:World)(h:dr w b raw ln mb o):
  Calls Tryz.prog 165 #[.pointer (some ⟨b,0,none⟩)] w fun e w'=>e=.returned (.bool (decide (o.sec=2)))/\w'=w:=by
 obtain⟨c0,c1,c2,c3,c4,c5,f3,f4,f5⟩:=h.facts;go_enter Tryz.func165,Tryz.ntmps165
 go_wp2
 go_ret
 refine⟨?_,rfl⟩;rw[show(decide (o.sec=2))=((o.sec:Int)==2)from ?_]
 ·rfl
 ·rw[jX];simp;omega
end PrjK
namespace Aux
open Go Go.RowKit Sq
section
variable {P:Program} {w:World} {ops:Array Oper} {rest:List Oper} {o:Oper} {a:Act} {Q:Exit->Act->World->Prop}
theorem iI (Iu:o.guard=none)(s x:Operand)(t:TypeId)
  (ho:o.op=.call {callee:=.builtin .append,args:= #[s,x],argTypes:= #[t,t]})
  (base:Nat) (e:TypeId) (i:TypeInfo) (z:Value) (size bytes:Nat) (ht:P.underlying t=some (.slice e)) (hi:P.info? e=some i) (hz:i.zero=some z)
  (hsize:i.size=size) (OM:i.bytes=bytes) (hzs:z.cells.size=size) (lj:0<size)
  (v:Value) (n:Nat) (xs:List Value) (hs:a.eval s=v) (hown:w.ownsRow base e size v n xs)
  (g0:Nat) (us:List Value) (hx:a.eval x=.slice (some ⟨g0,0,none⟩) 1 1) {e':TypeId} {fr:Nat×Nat} (dj:w.heap[g0]?=some (.cells us.toArray e' fr)) (Y4:us.length=size) (h1:∀u∈us,u.oneCell'=true)
  (aG:1<=bytes) (hbytes:(n+1)*bytes<=140737488355328) (hbase:base<=w.heap.size)
  (h:∀g cap w',w'.ownsRow base e size (.slice (some ⟨g,0,none⟩) (n+1) cap) (n+1) (xs++us)->w.grownBy w' v.ownBlock->(v.ownBlock=some g\/g=w.heap.size)->g<w'.heap.size->wpList P ops Q rest (a.put o.dst (.slice (some ⟨g,0,none⟩) (n+1) cap)) w'):wpList P ops Q (o::rest) a w:=by
 refine wpList_append_lies _ Iu s x t ho base e i z size bytes ht hi hz hsize OM hzs lj v n xs hs hown ⟨g0,0,none⟩ 1 1 us hx (by omega) ?_ h1 (by decide) ?_ hbytes hbase w.heap.size rfl h
 ·exact World.news_of_block dj
 ·have:n+1<=(n+1)*bytes:=Nat.le_mul_of_pos_right _ aG;unfold maxLen;omega
theorem Ap {K:Act->World->Prop}{E:Prop}(Iu:o.guard=none)(s x:Operand)(t:TypeId)
  (ho:o.op=.call {callee:=.builtin .append,args:= #[s,x],argTypes:= #[t,t]})
  (base:Nat) (e:TypeId) (i:TypeInfo) (z:Value) (size bytes:Nat) (ht:P.underlying t=some (.slice e)) (hi:P.info? e=some i) (hz:i.zero=some z)
  (hsize:i.size=size) (OM:i.bytes=bytes) (hzs:z.cells.size=size) (lj:0<size)
  (v:Value) (n:Nat) (xs:List Value) (hs:a.eval s=v) (hown:w.ownsRow base e size v n xs)
  (g0:Nat) (us:List Value) (hx:a.eval x=.slice (some ⟨g0,0,none⟩) 1 1) {e':TypeId} {fr:Nat×Nat} (dj:w.heap[g0]?=some (.cells us.toArray e' fr)) (Y4:us.length=size) (h1:∀u∈us,u.oneCell'=true)
  (aG:1<=bytes) (hbytes:(n+1)*bytes<=140737488355328) (hbase:base<=w.heap.size)
  (h:∀g cap w',w'.ownsRow base e size (.slice (some ⟨g,0,none⟩) (n+1) cap) (n+1) (xs++us)->w.grownBy w' v.ownBlock->(v.ownBlock=some g\/g=w.heap.size)->g<w'.heap.size->K (a.put o.dst (.slice (some ⟨g,0,none⟩) (n+1) cap)) w'):
  if Region.wanted o (yielded ops a.tmps)=true then Oper.wp P o a w K Q else E:=by
 refine step_append_lies _ Iu s x t ho base e i z size bytes ht hi hz hsize OM hzs lj v n xs hs hown ⟨g0,0,none⟩ 1 1 us hx (by omega) ?_ h1 (by decide) ?_ hbytes hbase w.heap.size rfl h
 ·exact World.news_of_block dj
 ·have:n+1<=(n+1)*bytes:=Nat.le_mul_of_pos_right _ aG;unfold maxLen;omega
end
theorem ie {α:Type}(f:α->List Value)(m:Nat)(hf:∀x,(f x).length=m):∀(l:List α) (j c:Nat),c<m->(l.flatMap f)[j*m+c]?=(l[j]?).bind fun x=>(f x)[c]?
 |[],j,c,_=>by simp
 |x::l,0,c,hc=>by
  rw[List.flatMap_cons,Nat.zero_mul,Nat.zero_add,jg (by rw[hf];exact hc)];rfl
 |x::l,j+1,c,hc=>by
  have e:(j+1)*m+c=m+(j*m+c):=by rw[Nat.add_mul];omega
  rw[List.flatMap_cons,e,jf (by rw[hf];omega),hf,Nat.add_sub_cancel_left,ie f m hf l j c hc];rfl
theorem pA {α:Type}(f:α->List Value)(m:Nat)(hf:∀x,(f x).length=m):∀(l:List α),(l.flatMap f).length=l.length*m
 |[]=>by simp
 |x::l=>by rw[List.flatMap_cons,jV,hf,pA f m hf l,jY,Nat.add_mul];omega
theorem cW {w:World}{base:Nat}{e:TypeId}{size:Nat}{v:Value}{n:Nat}{xs:List Value}(h:w.ownsRow base e size v n xs)(hn:0<n):
  ∃g cap,v=.slice (some ⟨g,0,none⟩) n cap/\n<=cap/\g<w.heap.size/\∀j,j<n*size->w.cell? ⟨g,j,none⟩=xs[j]?:=by
 have hl:=h.lt;obtain⟨h0,h⟩:=h;rcases h with⟨-,h⟩|⟨g,cap,cur,rfl,hb,hg,hc,hm,hs,ht⟩
 ·omega
 ·refine⟨g,cap,rfl,hc,(hl g rfl).2,fun j hj=> ?_⟩;rw[cell_of_heap hg];have:(cur.toList.take (n*size))[j]?=cur[j]?:=by
   rw[List.getElem?_take,jb hj];simp
  rw[<-this,ht]
end Aux
namespace PrjL
open Go Go.RowKit Sq Aux PrjF PrjG PrjH PrjI PrjJ PrjK
theorem Ee (raw:Bool)(o:eA)(op:Nat):(aD raw o op).1.locals<=o.locals+1/\(aD raw o op).1.blocks<=o.blocks+1:=by
 unfold aD
 repeat (first|(split;(first|exact⟨by simp,by simp⟩|skip))|exact⟨by simp,by simp⟩)
structure ly (raw:Bool)(LS:List (List B))(k:Nat)(done:List (Nat×List B))(o:eA):Prop where
 same:ay raw LS ⟨0,0,0⟩ 0=(done++(ay raw (LS.drop k) o k).1,(ay raw (LS.drop k) o k).2)
 len:done.length=k
 sec:o.sec<=2
 mc:o.locals<=k/\o.blocks<=k
theorem ly.start (raw:Bool)(LS:List (List B)):ly raw LS 0 [] ⟨0,0,0⟩:=⟨rfl,rfl,by simp,by simp⟩
theorem ly.bad {raw:Bool}{LS:List (List B)}{k:Nat}{done:List (Nat×List B)}{o:eA}(h:ly raw LS k done o)(hk:k<LS.length)(hs:db LS[k]=none):(ay raw LS ⟨0,0,0⟩ 0).2.2=some k:=by
 rw[h.same,jE hk,ay,hs]
theorem ly.out {raw:Bool}{LS:List (List B)}{k:Nat}{done:List (Nat×List B)}{o:eA}(h:ly raw LS k done o)(hk:k<LS.length){x:Nat×List B}(hs:db LS[k]=some x)(ha:(aD raw o x.1).2=false):(ay raw LS ⟨0,0,0⟩ 0).2.2=some k:=by
 rw[h.same,jE hk,ay,hs];simp only;rw[ja (by rw[ha];simp)]
theorem ly.on {raw:Bool}{LS:List (List B)}{k:Nat}{done:List (Nat×List B)}{o:eA}(h:ly raw LS k done o)(hk:k<LS.length){x:Nat×List B}(hs:db LS[k]=some x)(ha:(aD raw o x.1).2=true):ly raw LS (k+1) (done++[x]) (aD raw o x.1).1:=by
 refine⟨?_,by simp[h.len],pg raw o x.1 h.sec,?_⟩
 ·rw[h.same,jE hk,ay,hs];simp only;rw[jb ha];simp
 ·have:=Ee raw o x.1;have:=h.mc;omega
theorem ly.whole {raw:Bool}{LS:List (List B)}{k:Nat}{done:List (Nat×List B)}{o:eA}(h:ly raw LS k done o)(hk:¬k<LS.length):ay raw LS ⟨0,0,0⟩ 0=(done,o,none):=by
 rw[h.same,jT (by omega),ay];simp
def mP (S:List (Nat×List B))(vs:List Value):List Value:=(S.zip vs).flatMap fun x=>[.int .i64 (x.1.1:Nat),x.2]
structure cZ (z:Nat)(w:World)(v:Value)(S:List (Nat×List B))(vs:List Value):Prop where
 len:vs.length=S.length
 row:w.ownsRow z 240 2 v S.length (mP S vs)
 each:∀j,j<S.length->fB w (vs.getD j undef) (S.getD j (0,[])).2
theorem cZ.nil (z:Nat)(w:World):cZ z w (.slice none 0 0) [] []:=⟨rfl,World.ownsRow_nil _ _ _ _,fun j hj=>by simp at hj⟩
theorem cZ.below {z:Nat}{w w':World}{v:Value}{S:List (Nat×List B)}{vs:List Value}(h:cZ z w v S vs)(hb:Below w.heap.size w w'):cZ z w' v S vs:=
 ⟨h.len,aw h.row hb,fun j hj=>(h.each j hj).below hb⟩
theorem oQ {w w':World}{v:Value}{L:List B}(h:fB w v L)(hb:∀(g:Nat) (cs:Array Value) (f:Nat×Nat),w.heap[g]?=some (.cells cs 9 f)->w'.heap[g]?=w.heap[g]?):fB w' v L:=by
 obtain⟨g,o,cap,rfl,hc,⟨cs,f,hg⟩,aX⟩:=h;have e:=hb g cs f hg;refine⟨g,o,cap,rfl,hc,⟨cs,f,e.trans hg⟩,fun j hj=> ?_⟩;have:=aX j hj;simp only[World.cell?]at this⊢;rw[e];exact this
theorem aU {w:World}{z:Nat}{e e':TypeId}{size:Nat}{v:Value}{n:Nat}{xs:List Value}(h:w.ownsRow z e size v n xs){g:Nat}{cs:Array Value}{f:Nat×Nat}(hg:w.heap[g]?=some (.cells cs e' f))(he:e≠e'):some g≠v.ownBlock:=
 fun x=>aP h hg he x.symm
theorem cZ.lx {z b:Nat}{w w':World}{v:Value}{S:List (Nat×List B)}{vs:List Value}(h:cZ z w v S vs)(hb:bD b w w'){cs:Array Value}{f:Nat×Nat}(ho:w.heap[b]?=some (.cells cs 238 f)):cZ z w' v S vs:=by
 have key:∀(g:Nat) (cs':Array Value) (e':TypeId) (f':Nat×Nat),w.heap[g]?=some (.cells cs' e' f')->e'≠238->w'.heap[g]?=w.heap[g]?:=fun g cs' e' f' hg he=>hb.block g (lt_of_heap hg) (fun x=>by
  subst x;rw[ho]at hg;simp only[Option.some.injEq,Obj.cells.injEq]at hg;exact he hg.2.1.symm)
 refine⟨h.len,eO h.row (fun g hg=> ?_),fun j hj=>oQ (h.each j hj) fun g cs' f' hg=>key g cs' _ f' hg (by decide)⟩;rcases h.row.2 with⟨rfl,-⟩|⟨g',cap,cur,rfl,-,G2,-⟩
 ·cases hg
 ·simp only[Value.ownBlock,Option.some.injEq]at hg;subst hg;exact key _ _ _ _ G2 (by decide)
theorem cZ.more {z:Nat}{w w2 w3:World}{v v' u:Value}{S:List (Nat×List B)}{vs:List Value}(h:cZ z w v S vs)(x:Nat×List B)(hu:fB w u x.2)(h2:Below w.heap.size w w2)
  (h3:w3.ownsRow z 240 2 v' (S.length+1) (mP S vs++[.int .i64 (x.1:Nat),u])) (hg:w2.grownBy w3 v.ownBlock):cZ z w3 v' (S++[x]) (vs++[u]):=by
 have H:=h.below h2;have hu2:=hu.below h2;have cj:∀(g:Nat) (cs:Array Value) (f:Nat×Nat),w2.heap[g]?=some (.cells cs 9 f)->w3.heap[g]?=w2.heap[g]?:=fun g cs f vX=>hg.block g (lt_of_heap vX) (aU H.row vX (by decide))
 refine⟨by simp[h.len],?_,fun j hj=> ?_⟩
 ·have:mP (S++[x]) (vs++[u])=mP S vs++[.int .i64 (x.1:Nat),u]:=by
   unfold mP;rw[List.zip_append h.len.symm];simp
  rw[this];simpa using h3
 ·simp at hj;by_cases bg:j<S.length
  ·have e1:(vs++[u]).getD j undef=vs.getD j undef:=by simp[List.getD_eq_getElem?_getD,List.getElem?_append,h.len,bg]
   have e2:(S++[x]).getD j (0,[])=S.getD j (0,[]):=by simp[List.getD_eq_getElem?_getD,List.getElem?_append,bg]
   rw[e1,e2];exact oQ (H.each j bg) cj
  ·obtain rfl:j=S.length:=by omega
   have e1:(vs++[u]).getD S.length undef=u:=by simp[List.getD_eq_getElem?_getD,<-h.len]
   have e2:(S++[x]).getD S.length (0,[])=x:=by simp[List.getD_eq_getElem?_getD]
   rw[e1,e2];exact oQ hu2 cj
theorem cZ.at {z:Nat}{w:World}{v:Value}{S:List (Nat×List B)}{vs:List Value}(h:cZ z w v S vs)(j:Nat)(hj:j<S.length):
  ∃g cap,v=.slice (some ⟨g,0,none⟩) S.length cap/\S.length<=cap/\g<w.heap.size/\w.cell? ⟨g,j*2,none⟩=some (.int .i64 ((S.getD j (0,[])).1:Nat))/\w.cell? ⟨g,j*2+1,none⟩=some (vs.getD j undef):=by
 obtain⟨g,cap,hv,hc,bg,aX⟩:=cW h.row (by omega);have hz:(S.zip vs)[j]?=some (S.getD j (0,[]),vs.getD j undef):=by
  have:j<vs.length:=by rw[h.len];exact hj
  simp[List.getElem?_zip_eq_some,hj,this]
 have f0:=ie (fun x:(Nat×List B)×Value=>[.int .i64 (x.1.1:Nat),x.2]) 2 (fun _=>rfl) (S.zip vs) j 0 (by decide);have f1:=ie (fun x:(Nat×List B)×Value=>[.int .i64 (x.1.1:Nat),x.2]) 2 (fun _=>rfl) (S.zip vs) j 1 (by decide);rw[hz]at f0 f1;exact⟨g,cap,hv,hc,bg,(aX (j*2) (by omega)).trans f0,(aX (j*2+1) (by omega)).trans f1⟩
end PrjL
namespace PrjM
open Go Go.RowKit Sq Aux PrjF PrjG PrjH PrjI PrjJ PrjK PrjL
def ym (x:B×Nat):List Value:=[.string (bs x.1),.int .i64 (x.2:Nat)]
def pS (ls:List (B×Nat)):List Value:=ls.flatMap ym
def vu (x:Nat×Nat):List Value:=[.int .i64 (x.1:Nat),.int .i64 (x.2:Nat)]
def bf (ls:List (Nat×Nat)):List Value:=ls.flatMap vu
def dO (x:ab×Value×Value):List Value:=[.int .i64 (x.1.num:Nat),.int .i64 (x.1.op:Nat),x.2.1,.int .i64 x.1.number,.int .i64 x.1.flag,x.2.2]
def bd (ls:List ab)(vs:List (Value×Value)):List Value:=(ls.zip vs).flatMap dO
def ab.nil:ab:=⟨0,0,[],0,0,[]⟩
structure aC (z:Nat)(w:World)(l:ab)(vp vn:Value):Prop where
 places:w.ownsRow z 119 2 vp l.places.length (bf l.places)
 next:w.ownsRow z 3 1 vn l.next.length (eg l.next)
structure dD (z:Nat)(w:World)(v:Value)(ls:List ab)(vs:List (Value×Value)):Prop where
 len:vs.length=ls.length
 row:w.ownsRow z 115 6 v ls.length (bd ls vs)
 each:∀j,j<ls.length->aC z w (ls.getD j ab.nil) (vs.getD j (undef,undef)).1 (vs.getD j (undef,undef)).2
structure gS (z a:Nat)(w:World)(q:QP)(vl vb:Value)(us:List Value)(vss:List (List (Value×Value))):Prop where
 base:z<=a
 aM:w.heap[a]?=some (.cells #[vl,vb] 110 (0,0))
 locals:w.ownsRow z 146 2 vl q.locals.length (pS q.locals)
 blocks:w.ownsRow z 106 1 vb q.blocks.length us
 each:∀j,j<q.blocks.length->dD z w (us.getD j undef) (q.blocks.getD j []) (vss.getD j [])
 apart:∀i j,i<j->j<q.blocks.length->(us.getD i undef).ownBlock=none\/(us.getD i undef).ownBlock≠(us.getD j undef).ownBlock
section
variable {z a:Nat} {w w' w2 w3:World} {q:QP} {vl vb v':Value} {us:List Value} {vss:List (List (Value×Value))}
theorem gS.SQ (h:gS z a w q vl vb us vss):us.length=q.blocks.length:=by have:=h.blocks.1;omega
theorem gS.lt (h:gS z a w q vl vb us vss):a<w.heap.size:=lt_of_heap h.aM
theorem aC.cj {l:ab}{vp vn:Value}(h:aC z w l vp vn)(k:∀{e:TypeId} {s:Nat} {v:Value} {n:Nat} {xs:List Value},e=119\/e=3->w.ownsRow z e s v n xs->w'.ownsRow z e s v n xs):aC z w' l vp vn:=
 ⟨k (.inl rfl) h.places,k (.inr rfl) h.next⟩
theorem dD.cj {v:Value}{ls:List ab}{vs:List (Value×Value)}(h:dD z w v ls vs)(hr:w'.ownsRow z 115 6 v ls.length (bd ls vs))
  (k:∀{e:TypeId} {s:Nat} {v:Value} {n:Nat} {xs:List Value},e=119\/e=3->w.ownsRow z e s v n xs->w'.ownsRow z e s v n xs):dD z w' v ls vs:=
 ⟨h.len,hr,fun j hj=>(h.each j hj).cj k⟩
theorem aC.below {l:ab}{vp vn:Value}(h:aC z w l vp vn)(hb:Below w.heap.size w w'):aC z w' l vp vn:=h.cj fun _ h=>aw h hb
theorem dD.below {v:Value}{ls:List ab}{vs:List (Value×Value)}(h:dD z w v ls vs)(hb:Below w.heap.size w w'):dD z w' v ls vs:=h.cj (aw h.row hb) fun _ h=>aw h hb
theorem gS.below (h:gS z a w q vl vb us vss)(hb:Below w.heap.size w w'):gS z a w' q vl vb us vss:=
 ⟨h.base,by rw[hb.block a h.lt];exact h.aM,aw h.locals hb,aw h.blocks hb,fun j hj=>(h.each j hj).below hb,h.apart⟩
theorem gS.start (z:Nat)(w:World)(hz:z<=w.heap.size):gS z w.heap.size (w.alloc (.cells #[.slice none 0 0,.slice none 0 0] 110)) QP.empty (.slice none 0 0) (.slice none 0 0) [] []:=
 ⟨hz,by show(w.heap.push _)[w.heap.size]?=_;simp,World.ownsRow_nil _ _ _ _,World.ownsRow_nil _ _ _ _,fun j hj=>by simp[QP.empty]at hj,fun i j _ hj=>by simp[QP.empty]at hj⟩
theorem gS.addLocal (h:gS z a w q vl vb us vss)(x:B×Nat)(h2:Below w.heap.size w w2)
  (h3:w3.ownsRow z 146 2 v' (q.locals.length+1) (pS q.locals++ym x)) (hg:w2.grownBy w3 vl.ownBlock):
  gS z a (w3.setCell ⟨a,0,none⟩ v') (q.addLocal x) v' vb us vss:=by
 have H:=h.below h2;have dB:some a≠vl.ownBlock:=aU H.locals H.aM (by decide);have dj:w3.heap[a]?=some (.cells #[vl,vb] 110 (0,0)):=by rw[hg.block a H.lt dB];exact H.aM
 have cj:∀{e:TypeId} {s:Nat} {v:Value} {n:Nat} {xs:List Value},w2.ownsRow z e s v n xs->e≠146->e≠110->(w3.setCell ⟨a,0,none⟩ v').ownsRow z e s v n xs:=by
  intro e s v n xs hv he he';have hk:=hv.kept hg (dF hv H.locals he);exact aS hk _ (aP hk dj he')
 refine⟨h.base,?_,?_,cj H.blocks (by decide) (by decide),fun j hj=>(H.each j hj).cj (cj (H.each j hj).row (by decide) (by decide)) (fun he hv=>cj hv ?_ ?_),h.apart⟩
 ·rw[Go.Proofs.YtmlgajhhnojdjaaGreatDoor.Aux.heap_setCell_same dj];rfl
 ·have:=aS h3 (a:=⟨a,0,none⟩) v' (aP h3 dj (by decide));simpa [QP.addLocal,pS]using this
 ·rcases he with rfl|rfl<;>decide
 ·rcases he with rfl|rfl<;>decide
theorem gS.addBlock (h:gS z a w q vl vb us vss)(hl:vss.length=q.blocks.length)(h2:Below w.heap.size w w2)
  (h3:w3.ownsRow z 106 1 v' (q.blocks.length+1) (us++[.slice none 0 0])) (hg:w2.grownBy w3 vb.ownBlock):
  gS z a (w3.setCell ⟨a,1,none⟩ v') q.addBlock vl v' (us++[.slice none 0 0]) (vss++[[]]):=by
 have H:=h.below h2;have hu:=h.SQ;have dB:some a≠vb.ownBlock:=aU H.blocks H.aM (by decide);have dj:w3.heap[a]?=some (.cells #[vl,vb] 110 (0,0)):=by rw[hg.block a H.lt dB];exact H.aM
 have cj:∀{e:TypeId} {s:Nat} {v:Value} {n:Nat} {xs:List Value},w2.ownsRow z e s v n xs->e≠106->e≠110->(w3.setCell ⟨a,1,none⟩ v').ownsRow z e s v n xs:=by
  intro e s v n xs hv he he';have hk:=hv.kept hg (dF hv H.blocks he);exact aS hk _ (aP hk dj he')
 have eu:∀j,j<q.blocks.length->(us++[Value.slice none 0 0]).getD j undef=us.getD j undef:=fun j hj=>by simp[List.getD_eq_getElem?_getD,List.getElem?_append,hu,hj]
 have el:(us++[Value.slice none 0 0]).getD q.blocks.length undef=.slice none 0 0:=by simp[List.getD_eq_getElem?_getD,<-hu]
 refine⟨h.base,?_,cj H.locals (by decide) (by decide),?_,fun j hj=> ?_,fun i j hij hj=> ?_⟩
 ·rw[Go.Proofs.YtmlgajhhnojdjaaGreatDoor.Aux.heap_setCell_same dj];rfl
 ·have:=aS h3 (a:=⟨a,1,none⟩) v' (aP h3 dj (by decide));simpa [QP.addBlock]using this
 ·simp only[QP.addBlock,List.length_append,List.length_singleton]at hj;by_cases bg:j<q.blocks.length
  ·have e2:q.addBlock.blocks.getD j []=q.blocks.getD j []:=by simp[QP.addBlock,List.getD_eq_getElem?_getD,List.getElem?_append,bg]
   have e3:(vss++[[]]).getD j []=vss.getD j []:=by simp[List.getD_eq_getElem?_getD,List.getElem?_append,hl,bg]
   rw[eu j bg,e2,e3];refine(H.each j bg).cj (cj (H.each j bg).row (by decide) (by decide)) (fun he hv=>cj hv ?_ ?_)
   ·rcases he with rfl|rfl<;>decide
   ·rcases he with rfl|rfl<;>decide
  ·obtain rfl:j=q.blocks.length:=by omega
   have e2:q.addBlock.blocks.getD q.blocks.length []=[]:=by simp[QP.addBlock,List.getD_eq_getElem?_getD]
   have e3:(vss++[[]]).getD q.blocks.length []=[]:=by simp[List.getD_eq_getElem?_getD,<-hl]
   rw[el,e2,e3];exact⟨rfl,World.ownsRow_nil _ _ _ _,fun j hj=>by simp at hj⟩
 ·simp only[QP.addBlock,List.length_append,List.length_singleton]at hj;by_cases bg:j<q.blocks.length
  ·rw[eu j bg,eu i (by omega)];exact h.apart i j hij bg
  ·obtain rfl:j=q.blocks.length:=by omega
   rw[eu i (by omega),el];cases hx:(us.getD i undef).ownBlock with
   |none=>exact .inl rfl
   |some g=>exact .inr (by simp[Value.ownBlock])
theorem gS.addLine (h:gS z a w q vl vb us vss)(hl:vss.length=q.blocks.length)(n:Nat)(hn:q.blocks.length=n+1)(l:ab)(vp vn:Value)(hL:aC z w l vp vn)(h2:Below w.heap.size w w2)
  {gb cb:Nat} (AM:vb=.slice (some ⟨gb,0,none⟩) (n+1) cb) {g:Nat} (hv':v'.ownBlock=some g) (mX:(us.getD n undef).ownBlock=some g\/w2.heap.size<=g)
  (h3:w3.ownsRow z 115 6 v' ((q.blocks.getD n []).length+1) (bd (q.blocks.getD n []) (vss.getD n [])++dO (l,vp,vn))) (hg:w2.grownBy w3 (us.getD n undef).ownBlock):
  gS z a (w3.setCell ⟨gb,n,none⟩ v') (q.addLine l) vl vb (us.set n v') (vss.set n (vss.getD n []++[(vp,vn)])):=by
 have H:=h.below h2;have HL:=hL.below h2;have hu:=h.SQ;have sD:n<q.blocks.length:=by omega
 have HN:=H.each n sD;have dB:some a≠(us.getD n undef).ownBlock:=aU HN.row H.aM (by decide);have dj:w3.heap[a]?=some (.cells #[vl,vb] 110 (0,0)):=by rw[hg.block a H.lt dB];exact H.aM
 have Za:w3.ownsRow z 106 1 vb q.blocks.length us:=H.blocks.kept hg (dF H.blocks HN.row (by decide));obtain⟨g',cap,cur,e,hzg,Dc,jw,O0,lj,Ty⟩:∃g' cap cur,vb=.slice (some ⟨g',0,none⟩) q.blocks.length cap/\z<=g'/\w3.heap[g']?=some (.cells cur 106 (0,0))/\q.blocks.length<=cap/\cap<=maxLen/\cur.size=cap*1/\cur.toList.take (q.blocks.length*1)=us:=by
  rcases Za.2 with⟨e,-⟩|⟨g',cap,cur,e,r⟩
  ·rw[AM]at e;cases e
  ·exact⟨g',cap,cur,e,r⟩
 have:g'=gb:=by rw[AM]at e;simp only[Value.slice.injEq,Option.some.injEq,Addr.mk.injEq]at e;exact e.1.1.symm
 subst this;have cj:∀{e:TypeId} {s:Nat} {v:Value} {n':Nat} {xs:List Value},w2.ownsRow z e s v n' xs->(v.ownBlock=none\/v.ownBlock≠(us.getD n undef).ownBlock)->e≠106->(w3.setCell ⟨g',n,none⟩ v').ownsRow z e s v n' xs:=by
  intro e s v n' xs hv L6 he';have hk:=hv.kept hg L6;exact aS hk _ (aP hk Dc he')
 have eu:∀j,¬j=n->(us.set n v').getD j undef=us.getD j undef:=fun j hj=>by simp[List.getD_eq_getElem?_getD,List.getElem?_set_ne (Ne.symm hj)]
 have eun:(us.set n v').getD n undef=v':=by simp[List.getD_eq_getElem?_getD,hu,sD]
 have hB:q.blocks=q.blocks.dropLast++[q.blocks.getD n []]:=by
  have dB:q.blocks≠[]:=by intro e;rw[e]at sD;simp at sD
  conv=>lhs;rw[<-List.dropLast_concat_getLast dB]
  congr 2;rw[List.getLast_eq_getElem];simp[List.getD_eq_getElem?_getD,hn]
 have hD:q.blocks.dropLast.length=n:=by simp[hn]
 have hlB:(q.addLine l).blocks=q.blocks.dropLast++[q.blocks.getD n []++[l]]:=by
  have:q.blocks.getLastD []=q.blocks.getD n []:=by rw[hB];simp[List.getD_eq_getElem?_getD,hD]
  simp only[QP.addLine,this]
 have ebn:(q.addLine l).blocks.getD n []=q.blocks.getD n []++[l]:=by rw[hlB];simp[List.getD_eq_getElem?_getD,hD]
 have eb:∀j,j<n->(q.addLine l).blocks.getD j []=q.blocks.getD j []:=fun j hj=>by
  rw[hlB,hB];simp[List.getD_eq_getElem?_getD,List.getElem?_append,hD,hj]
 have elen:(q.addLine l).blocks.length=n+1:=by rw[hlB];simp[hD]
 have ev:∀j,¬j=n->(vss.set n (vss.getD n []++[(vp,vn)])).getD j []=vss.getD j []:=fun j hj=>by simp[List.getD_eq_getElem?_getD,List.getElem?_set_ne (Ne.symm hj)]
 have evn:(vss.set n (vss.getD n []++[(vp,vn)])).getD n []=vss.getD n []++[(vp,vn)]:=by simp[List.getD_eq_getElem?_getD,hl,sD]
 have ne2:∀{e:TypeId} {s:Nat} {v:Value} {n':Nat} {xs:List Value},e=119\/e=3->w2.ownsRow z e s v n' xs->(w3.setCell ⟨g',n,none⟩ v').ownsRow z e s v n' xs:=fun he hv=>
  cj hv (dF hv HN.row (by rcases he with rfl|rfl<;>decide)) (by rcases he with rfl|rfl<;>decide)
 refine⟨h.base,?_,cj H.locals (dF H.locals HN.row (by decide)) (by decide),?_,fun j hj=> ?_,fun i j hij hj=> ?_⟩
 ·rw[Below.heap_setCell _ _ _ _ (by show a≠g';intro e;rw[e,Dc]at dj;simp only[Option.some.injEq,Obj.cells.injEq]at dj;exact absurd dj.2.1 (by decide))];exact dj
 ·rw[elen];refine⟨by simp[hu,hn],.inr ⟨g',cap,cur.setIfInBounds n v',by rw[e,hn],hzg,Go.Proofs.YtmlgajhhnojdjaaGreatDoor.Aux.heap_setCell_same Dc n v',by omega,O0,by simpa using lj,?_⟩⟩;rw[Array.toList_setIfInBounds,<-Ty,hn,List.take_set]
 ·rw[elen]at hj;by_cases hjn:j=n
  ·subst hjn;rw[eun,ebn,evn];refine⟨by rw[jV,jV,HN.len];rfl,?_,fun i hi=> ?_⟩
   ·have:=aS h3 (a:=⟨g',j,none⟩) v' (aP h3 Dc (by decide));have e2:bd (q.blocks.getD j []++[l]) (vss.getD j []++[(vp,vn)])=bd (q.blocks.getD j []) (vss.getD j [])++dO (l,vp,vn):=by
     unfold bd;rw[List.zip_append HN.len.symm];simp
    rw[e2];simpa using this
   ·simp at hi;by_cases bg:i<(q.blocks.getD j []).length
    ·have e1:(q.blocks.getD j []++[l]).getD i ab.nil=(q.blocks.getD j []).getD i ab.nil:=by rw[jA,jg bg,<-jA]
     have e2:(vss.getD j []++[(vp,vn)]).getD i (undef,undef)=(vss.getD j []).getD i (undef,undef):=by rw[jA,jg (by rw[HN.len];exact bg),<-jA]
     rw[e1,e2];exact(HN.each i bg).cj ne2
    ·have NM:i=(q.blocks.getD j []).length:=by simp only[List.getD_eq_getElem?_getD]at bg hi⊢;omega
     have e1:(q.blocks.getD j []++[l]).getD i ab.nil=l:=by rw[NM,jA,jf (jC _)];simp
     have e2:(vss.getD j []++[(vp,vn)]).getD i (undef,undef)=(vp,vn):=by rw[NM,<-HN.len,jA,jf (jC _)];simp
     rw[e1,e2];exact HL.cj ne2
  ·have DZ:j<n:=by omega
   rw[eu j hjn,eb j DZ,ev j hjn];refine(H.each j (by omega)).cj (cj (H.each j (by omega)).row (h.apart j n DZ sD) (by decide)) ne2
 ·rw[elen]at hj;by_cases hjn:j=n
  ·subst hjn;rw[eu i (by omega),eun,hv'];cases hx:(us.getD i undef).ownBlock with
   |none=>exact .inl rfl
   |some g0=>
    refine .inr fun hc=> ?_
    simp only[Option.some.injEq]at hc;subst hc;rcases mX with mX|mX
    ·rcases h.apart i j hij sD with h0|h0
     ·rw[hx]at h0;cases h0
     ·rw[hx,mX]at h0;exact h0 rfl
    ·have:=P3 (H.each i (by omega)).row g0 hx;omega
  ·rw[eu i (by omega),eu j hjn];exact h.apart i j hij (by omega)
end
end PrjM
end Go.Proofs.YtmlgajhhnojdjaaGreatDoor

import Derived.Test.YtmlgajhhnojdjaaGreatDoorRAG
namespace Go.Proofs.YtmlgajhhnojdjaaGreatDoor
namespace PrjK
open Go Go.RowKit Sq Aux PrjF PrjG PrjH PrjI PrjJ
structure bu (b:Nat)(w w':World):Prop where
 os:w'.os=w.os
 tape:w'.tape=w.tape
 output:w'.output=w.output
 size:w.heap.size<=w'.heap.size
 block:∀k,k<w.heap.size->k≠b->w'.heap[k]?=w.heap[k]?
theorem bu.refl (b:Nat)(w:World):bu b w w:=⟨rfl,rfl,rfl,jC _,fun _ _ _=>rfl⟩
theorem bu.setCell {b:Nat}{w w':World}(h:bu b w w')(o:Nat)(v:Value):bu b w (w'.setCell ⟨b,o,none⟩ v):=
 ⟨h.os,h.tape,h.output,by simpa using h.size,fun k hk Df=>by rw[Below.heap_setCell _ _ _ _ (by show k≠b;exact Df)];exact h.block k hk Df⟩
theorem bu.on {b:Nat}{w w1 w2:World}(h:bu b w w1)(hb:Below w1.heap.size w1 w2):bu b w w2:=
 ⟨hb.os.trans h.os,hb.tape.trans h.tape,hb.output.trans h.output,jS h.size hb.size,fun k hk Df=>(hb.block k (jK hk h.size)).trans (h.block k hk Df)⟩
theorem bu.drewN {b:Nat}{w w1:World}(h:bu b w w1)(n:Nat):bu b w (w1.drewN n):=h.on (below_drewN (Below.refl _ _) n)
theorem bu.trans {b:Nat}{w w1 w2:World}(h:bu b w w1)(hb:bu b w1 w2):bu b w w2:=
 ⟨hb.os.trans h.os,hb.tape.trans h.tape,hb.output.trans h.output,jS h.size hb.size,fun k hk Df=>(hb.block k (jK hk h.size) Df).trans (h.block k hk Df)⟩
theorem bu.of {b:Nat}{w w1:World}(h:Below w.heap.size w w1):bu b w w1:=(bu.refl b w).on h
theorem bu.below {b B:Nat}{w w':World}(h:bu b w w')(hB:B<=b)(hb:B<=w.heap.size):Below B w w':=⟨h.os,h.tape,h.output,h.size,fun k hk=>h.block k (by omega) (by omega)⟩
def dp (w:World)(b:Nat)(raw:Bool)(ln mb:Nat)(o:fj):Prop:=
 w.heap[b]?=some (.cells #[.bool raw,.int .i64 ln,.int .i64 mb,.int .i64 o.sec,.int .i64 o.locals,.int .i64 o.blocks] 238 (0,0))
theorem dp.facts {w:World}{b:Nat}{raw:Bool}{ln mb:Nat}{o:fj}(h:dp w b raw ln mb o):
  w.cell? ⟨b,0,none⟩=some (.bool raw)/\w.cell? ⟨b,1,none⟩=some (.int .i64 ln)/\w.cell? ⟨b,2,none⟩=some (.int .i64 mb)/\w.cell? ⟨b,3,none⟩=some (.int .i64 o.sec)/\w.cell? ⟨b,4,none⟩=some (.int .i64 o.locals)/\w.cell? ⟨b,5,none⟩=some (.int .i64 o.blocks)/\
  w.frozen? ⟨b,3,none⟩=false/\w.frozen? ⟨b,4,none⟩=false/\w.frozen? ⟨b,5,none⟩=false:=by
 unfold dp at h;exact⟨by rw[cell_of_heap h];rfl,by rw[cell_of_heap h];rfl,by rw[cell_of_heap h];rfl,by rw[cell_of_heap h];rfl,by rw[cell_of_heap h];rfl,by rw[cell_of_heap h];rfl,frozen_of_heap h 3,frozen_of_heap h 4,frozen_of_heap h 5⟩
theorem dp.below {w w':World}{b:Nat}{raw:Bool}{ln mb:Nat}{o:fj}(h:dp w b raw ln mb o){B:Nat}(hb:Below B w w')(hB:b<B):dp w' b raw ln mb o:=by
 unfold dp;rw[hb.block b hB];exact h
theorem dp.drewN {w:World}{b:Nat}{raw:Bool}{ln mb:Nat}{o:fj}(h:dp w b raw ln mb o)(n:Nat):dp (w.drewN n) b raw ln mb o:=h
theorem dp.set {w:World}{b:Nat}{raw:Bool}{ln mb:Nat}{o:fj}(h:dp w b raw ln mb o):
  (∀n:Nat,dp (w.setCell ⟨b,3,none⟩ (.int .i64 n)) b raw ln mb ⟨n,o.locals,o.blocks⟩)/\(∀n:Nat,dp (w.setCell ⟨b,4,none⟩ (.int .i64 n)) b raw ln mb ⟨o.sec,n,o.blocks⟩)/\(∀n:Nat,dp (w.setCell ⟨b,5,none⟩ (.int .i64 n)) b raw ln mb ⟨o.sec,o.locals,n⟩):=by
 unfold dp at h⊢;exact⟨fun n=>by rw[Go.Proofs.YtmlgajhhnojdjaaGreatDoor.Aux.heap_setCell_same h 3];rfl,fun n=>by rw[Go.Proofs.YtmlgajhhnojdjaaGreatDoor.Aux.heap_setCell_same h 4];rfl,fun n=>by rw[Go.Proofs.YtmlgajhhnojdjaaGreatDoor.Aux.heap_setCell_same h 5];rfl⟩
theorem UF (raw:Bool)(ln mb op:Nat)(w:World):
  Calls Tryz.prog 198 #[.agg #[.bool raw,.int .i64 ln,.int .i64 mb],.int .i64 op] w fun e w'=>e=.returned (.bool (pD raw op))/\Below w.heap.size w w':=by
 have hb:Below w.heap.size w (w.alloc (.cells #[.bool raw,.int .i64 ln,.int .i64 mb] 130)):=(Below.refl _ _).alloc (jC _) _;have hx:op=15\/op=16\/op=17\/op=21\/(¬op=15/\¬op=16/\¬op=17/\¬op=21):=by omega
 rcases hx with rfl|rfl|rfl|rfl|⟨h1,h2,h3,h4⟩
 iterate 4
  ·go_enter Tryz.func198,Tryz.ntmps198
   go_wp2
   go_ret
   exact⟨rfl,hb⟩
 ·have hh:pD raw op=true:=by simp[pD,h1,h2,h3,h4]
  have b1:((op:Int)==15)=false:=by rw[jZ];omega
  have b2:((op:Int)==16)=false:=by rw[jZ];omega
  have b3:((op:Int)==17)=false:=by rw[jZ];omega
  have b4:((op:Int)==21)=false:=by rw[jZ];omega
  rw[hh];clear h1 h2 h3 h4 hh;go_enter Tryz.func198,Tryz.ntmps198
  go_wp2
  go_ret
  exact⟨rfl,hb⟩
theorem Tx (op:Nat)(w:World):
  Calls Tryz.prog 199 #[.int .i64 op] w fun e w'=>e=.returned (.bool (decide (18<=op)))/\w'=w:=by
 by_cases h:18<=op
 all_goals
  go_enter Tryz.func199,Tryz.ntmps199
  go_wp2
  go_ret
  exact⟨by first|(simp[h];done)|(simp[h];omega),rfl⟩
def ff (raw:Bool)(ln mb b op:Nat)(o:fj)(w:World)(e:Ending)(w':World):Prop:=
 e=.returned (.bool (aP raw o op).2)/\dp w' b raw ln mb (aP raw o op).1/\bu b w w'
set_option maxRecDepth 20000 in
theorem JB (raw:Bool)(ln b op:Nat)(o:fj)(w:World)(h:dp w b raw ln (if raw then 2000 else 20) o)(aw:op<23)(hl:o.locals<=100000)(Rl:o.blocks<=100000)(aK:b<w.heap.size):
  Calls Tryz.prog 164 #[.pointer (some ⟨b,0,none⟩),.int .i64 op] w (ff raw ln (if raw then 2000 else 20) b op o w):=by
 have KH:=fun w'=>UF raw ln (if raw then 2000 else 20) op w'
 obtain⟨c0,c1,c2,c3,c4,c5,f3,f4,f5⟩:=h.facts;by_cases hh:pD raw op=false
 ·have e:aP raw o op=(o,false):=by rw[aP,jb hh]
  have P:∀w',Below w.heap.size w w'->ff raw ln (if raw then 2000 else 20) b op o w (.returned (.bool false)) w':=fun w' hb=>⟨by rw[e],by rw[e];exact h.below hb aK,bu.of hb⟩
  rw[hh]at KH;clear e hh;generalize (if raw then 2000 else 20:Nat)=mb at*;go_enter Tryz.func164,Tryz.ntmps164
  go_wp2_with (go_at_call 198;refine(KH _).mono ?_;rintro e w1 ⟨rfl,hb⟩)
  go_ret
  exact P _ hb
 ·rw[Bool.not_eq_false]at hh;have e0:aP raw o op=if op=0 then(⟨o.sec,o.locals+1,o.blocks⟩,o.sec==0&&decide (o.locals+1<=12))
    else if op=1 then(⟨1,o.locals,o.blocks+1⟩,decide (0<o.locals)&& !(o.sec==1)&&decide (o.blocks+1<=if raw then 2000 else 20))
    else if¬o.sec=1 then(o,false)else if 18<=op then(⟨2,o.locals,o.blocks⟩,true)else(o,true):=by
   rw[aP,ja (by simp[hh])]
  rw[hh]at KH;clear hh;by_cases h0:op=0
  ·rw[jb h0]at e0;have hop0:((op:Int)==0)=true:=by simp[h0]
   have P:∀(bl:Bool) w',bl=(o.sec==0&&decide (o.locals+1<=12))->dp w' b raw ln (if raw then 2000 else 20) ⟨o.sec,o.locals+1,o.blocks⟩->bu b w w'->ff raw ln (if raw then 2000 else 20) b op o w (.returned (.bool bl)) w':=fun bl w' qk ho hb=>⟨by rw[e0,qk],by rw[e0];exact ho,hb⟩
   clear e0 h0;generalize (if raw then 2000 else 20:Nat)=mb at*;by_cases Oj:o.sec=0
   ·have hs:((o.sec:Int)==0)=true:=by simp[Oj]
    by_cases hl12:o.locals+1<=12
    all_goals
     go_enter Tryz.func164,Tryz.ntmps164
     go_wp2_with (go_at_call 198;refine(KH _).mono ?_;rintro e w1 ⟨rfl,hb⟩;have h1:=h.below hb aK;obtain⟨d0,d1,d2,d3,d4,d5,g3,g4,g5⟩:=h1.facts)
     go_ret
     exact P _ _ (by first|(simp[Oj,hl12];done)|(simp[Oj,hl12];omega)) (h1.set.2.1 (o.locals+1)) ((bu.of hb).setCell 4 _)
   ·have hs:((o.sec:Int)==0)=false:=by rw[jZ];omega
    go_enter Tryz.func164,Tryz.ntmps164
    go_wp2_with (go_at_call 198;refine(KH _).mono ?_;rintro e w1 ⟨rfl,hb⟩;have h1:=h.below hb aK;obtain⟨d0,d1,d2,d3,d4,d5,g3,g4,g5⟩:=h1.facts)
    go_ret
    exact P _ _ (by first|(simp[Oj];done)|(simp[Oj];omega)) (h1.set.2.1 (o.locals+1)) ((bu.of hb).setCell 4 _)
  ·rw[ja h0]at e0;have hop0:((op:Int)==0)=false:=by rw[jZ];omega
   by_cases h1:op=1
   ·rw[jb h1]at e0;have hop1:((op:Int)==1)=true:=by simp[h1]
    have P:∀(bl:Bool) w',bl=(decide (0<o.locals)&& !(o.sec==1)&&decide (o.blocks+1<=if raw then 2000 else 20))->dp w' b raw ln (if raw then 2000 else 20) ⟨1,o.locals,o.blocks+1⟩->bu b w w'->ff raw ln (if raw then 2000 else 20) b op o w (.returned (.bool bl)) w':=fun bl w' qk ho hb=>⟨by rw[e0,qk],by rw[e0];exact ho,hb⟩
    clear e0 h0 h1;generalize (if raw then 2000 else 20:Nat)=mb at*;by_cases zL:0<o.locals
    ·by_cases lv:o.sec=1
     ·have hs:((o.sec:Int)==1)=true:=by simp[lv]
      go_enter Tryz.func164,Tryz.ntmps164
      go_wp2_with (go_at_call 198;refine(KH _).mono ?_;rintro e w1 ⟨rfl,hb⟩;have h1:=h.below hb aK;obtain⟨d0,d1,d2,d3,d4,d5,g3,g4,g5⟩:=h1.facts)
      go_quiet (fail)
      go_wp2
      go_ret
      exact P _ _ (by first|(simp[lv];done)|(simp[lv];omega)) (((h1.set.1 1).set.2.2 (o.blocks+1)).drewN nq) ((((bu.of hb).setCell 3 _).setCell 5 _).drewN nq)
     ·have hs:((o.sec:Int)==1)=false:=by rw[jZ];omega
      have hsn:((o.sec:Int) !=1)=true:=by rw[bne,hs];rfl
      by_cases P9:o.blocks+1<=mb
      all_goals
       go_enter Tryz.func164,Tryz.ntmps164
       go_wp2_with (go_at_call 198;refine(KH _).mono ?_;rintro e w1 ⟨rfl,hb⟩;have h1:=h.below hb aK;obtain⟨d0,d1,d2,d3,d4,d5,g3,g4,g5⟩:=h1.facts)
       have hO:dp ((w1.setCell ⟨b,3,none⟩ (.int .i64 1)).setCell ⟨b,5,none⟩ (.int .i64 ((o.blocks:Int)+1))) b raw ln mb ⟨1,o.locals,o.blocks+1⟩:=(h1.set.1 1).set.2.2 (o.blocks+1);have hT:bu b w ((w1.setCell ⟨b,3,none⟩ (.int .i64 1)).setCell ⟨b,5,none⟩ (.int .i64 ((o.blocks:Int)+1))):=((bu.of hb).setCell 3 _).setCell 5 _;generalize ((w1.setCell ⟨b,3,none⟩ (.int .i64 1)).setCell ⟨b,5,none⟩ (.int .i64 ((o.blocks:Int)+1)))=W at hO hT⊢;clear d0 d1 d2 d3 d4 d5 g3 g4 g5 c0 c1 c2 c3 c4 c5 f3 f4 f5;obtain⟨d0,d1,d2,d3,d4,d5,g3,g4,g5⟩:=hO.facts;simp only[Int.natCast_add,Int.cast_ofNat_Int]at d5;go_quiet (fail)
       go_wp2
       go_ret
       exact P _ _ (by rw[show(o.sec==1)=false by simpa using lv,decide_eq_true zL,jX];simp only[Bool.true_and,Bool.not_false,decide_eq_true_eq];omega) (hO.drewN nq) (hT.drewN nq)
    ·go_enter Tryz.func164,Tryz.ntmps164
     go_wp2_with (go_at_call 198;refine(KH _).mono ?_;rintro e w1 ⟨rfl,hb⟩;have h1:=h.below hb aK;obtain⟨d0,d1,d2,d3,d4,d5,g3,g4,g5⟩:=h1.facts)
     go_quiet (fail)
     go_wp2
     go_ret
     exact P _ _ (by first|(simp[zL];done)|(simp[zL];omega)) (((h1.set.1 1).set.2.2 (o.blocks+1)).drewN nq) ((((bu.of hb).setCell 3 _).setCell 5 _).drewN nq)
   ·rw[ja h1]at e0;have hop1:((op:Int)==1)=false:=by rw[jZ];omega
    by_cases lv:o.sec=1
    ·rw[ja (by simp[lv])]at e0;have hs:((o.sec:Int)==1)=true:=by simp[lv]
     have KT:=fun w'=>Tx op w'
     by_cases sv:18<=op
     ·rw[jb sv]at e0;have P:∀w',dp w' b raw ln (if raw then 2000 else 20) ⟨2,o.locals,o.blocks⟩->bu b w w'->ff raw ln (if raw then 2000 else 20) b op o w (.returned (.bool true)) w':=fun w' ho hb=>⟨by rw[e0],by rw[e0];exact ho,hb⟩
      have hd:decide (18<=op)=true:=by simp[sv]
      rw[hd]at KT;clear e0 h0 h1 lv hd;generalize (if raw then 2000 else 20:Nat)=mb at*;go_enter Tryz.func164,Tryz.ntmps164
      go_wp2_with (first|(go_at_call 198;refine(KH _).mono ?_;rintro e w1 ⟨rfl,hb⟩;have h1:=h.below hb aK;obtain⟨d0,d1,d2,d3,d4,d5,g3,g4,g5⟩:=h1.facts)|(go_at_call 199;refine(KT _).mono ?_;rintro e w2 ⟨rfl,rfl⟩))
      go_ret
      exact P _ (h1.set.1 2) ((bu.of hb).setCell 3 _)
     ·rw[ja sv]at e0;have P:∀w',dp w' b raw ln (if raw then 2000 else 20) o->bu b w w'->ff raw ln (if raw then 2000 else 20) b op o w (.returned (.bool true)) w':=fun w' ho hb=>⟨by rw[e0],by rw[e0];exact ho,hb⟩
      have hd:decide (18<=op)=false:=by simp;omega
      rw[hd]at KT;clear e0 h0 h1 lv hd;generalize (if raw then 2000 else 20:Nat)=mb at*;go_enter Tryz.func164,Tryz.ntmps164
      go_wp2_with (first|(go_at_call 198;refine(KH _).mono ?_;rintro e w1 ⟨rfl,hb⟩;have h1:=h.below hb aK;obtain⟨d0,d1,d2,d3,d4,d5,g3,g4,g5⟩:=h1.facts)|(go_at_call 199;refine(KT _).mono ?_;rintro e w2 ⟨rfl,rfl⟩))
      go_ret
      exact P _ h1 (bu.of hb)
    ·rw[jb lv]at e0;have hs:((o.sec:Int)==1)=false:=by rw[jZ];omega
     have P:∀w',dp w' b raw ln (if raw then 2000 else 20) o->bu b w w'->ff raw ln (if raw then 2000 else 20) b op o w (.returned (.bool false)) w':=fun w' ho hb=>⟨by rw[e0],by rw[e0];exact ho,hb⟩
     clear e0 h0 h1 lv;generalize (if raw then 2000 else 20:Nat)=mb at*;go_enter Tryz.func164,Tryz.ntmps164
     go_wp2_with (go_at_call 198;refine(KH _).mono ?_;rintro e w1 ⟨rfl,hb⟩;have h1:=h.below hb aK;obtain⟨d0,d1,d2,d3,d4,d5,g3,g4,g5⟩:=h1.facts)
     go_ret
     exact P _ h1 (bu.of hb)
theorem QO (raw:Bool)(ln mb b:Nat)(o:fj)(w:World)(h:dp w b raw ln mb o):
  Calls Tryz.prog 165 #[.pointer (some ⟨b,0,none⟩)] w fun e w'=>e=.returned (.bool (decide (o.sec=2)))/\w'=w:=by
 obtain⟨c0,c1,c2,c3,c4,c5,f3,f4,f5⟩:=h.facts;go_enter Tryz.func165,Tryz.ntmps165
 go_wp2
 go_ret
 refine⟨?_,rfl⟩;rw[show(decide (o.sec=2))=((o.sec:Int)==2)from ?_]
 ·rfl
 ·rw[jX];simp;omega
end PrjK
namespace PrjL
open Go Go.RowKit Sq Aux PrjF PrjG PrjH PrjI PrjJ PrjK
theorem FP (raw:Bool)(o:fj)(op:Nat):(aP raw o op).1.locals<=o.locals+1/\(aP raw o op).1.blocks<=o.blocks+1:=by
 unfold aP
 repeat (first|(split;(first|exact⟨by simp,by simp⟩|skip))|exact⟨by simp,by simp⟩)
structure mQ (raw:Bool)(LS:List (List B))(k:Nat)(done:List (Nat×List B))(o:fj):Prop where
 same:aF raw LS ⟨0,0,0⟩ 0=(done++(aF raw (LS.drop k) o k).1,(aF raw (LS.drop k) o k).2)
 len:done.length=k
 sec:o.sec<=2
 fc:o.locals<=k/\o.blocks<=k
theorem mQ.start (raw:Bool)(LS:List (List B)):mQ raw LS 0 [] ⟨0,0,0⟩:=⟨rfl,rfl,by simp,by simp⟩
theorem mQ.bad {raw:Bool}{LS:List (List B)}{k:Nat}{done:List (Nat×List B)}{o:fj}(h:mQ raw LS k done o)(hk:k<LS.length)(hs:eP LS[k]=none):(aF raw LS ⟨0,0,0⟩ 0).2.2=some k:=by
 rw[h.same,jE hk,aF,hs]
theorem mQ.out {raw:Bool}{LS:List (List B)}{k:Nat}{done:List (Nat×List B)}{o:fj}(h:mQ raw LS k done o)(hk:k<LS.length){x:Nat×List B}(hs:eP LS[k]=some x)(ha:(aP raw o x.1).2=false):(aF raw LS ⟨0,0,0⟩ 0).2.2=some k:=by
 rw[h.same,jE hk,aF,hs];simp only;rw[ja (by rw[ha];simp)]
theorem mQ.on {raw:Bool}{LS:List (List B)}{k:Nat}{done:List (Nat×List B)}{o:fj}(h:mQ raw LS k done o)(hk:k<LS.length){x:Nat×List B}(hs:eP LS[k]=some x)(ha:(aP raw o x.1).2=true):mQ raw LS (k+1) (done++[x]) (aP raw o x.1).1:=by
 refine⟨?_,by simp[h.len],qA raw o x.1 h.sec,?_⟩
 ·rw[h.same,jE hk,aF,hs];simp only;rw[jb ha];simp
 ·have:=FP raw o x.1;have:=h.fc;omega
theorem mQ.whole {raw:Bool}{LS:List (List B)}{k:Nat}{done:List (Nat×List B)}{o:fj}(h:mQ raw LS k done o)(hk:¬k<LS.length):aF raw LS ⟨0,0,0⟩ 0=(done,o,none):=by
 rw[h.same,jT (by omega),aF];simp
def o8 (S:List (Nat×List B))(vs:List Value):List Value:=(S.zip vs).flatMap fun x=>[.int .i64 (x.1.1:Nat),x.2]
structure cR (z:Nat)(w:World)(v:Value)(S:List (Nat×List B))(vs:List Value):Prop where
 len:vs.length=S.length
 row:w.ownsRow z 240 2 v S.length (o8 S vs)
 each:∀j,j<S.length->fN w (vs.getD j undef) (S.getD j (0,[])).2
theorem cR.nil (z:Nat)(w:World):cR z w (.slice none 0 0) [] []:=⟨rfl,World.ownsRow_nil _ _ _ _,fun j hj=>by simp at hj⟩
theorem cR.below {z:Nat}{w w':World}{v:Value}{S:List (Nat×List B)}{vs:List Value}(h:cR z w v S vs)(hb:Below w.heap.size w w'):cR z w' v S vs:=
 ⟨h.len,ax h.row hb,fun j hj=>(h.each j hj).below hb⟩
theorem qc {w w':World}{v:Value}{L:List B}(h:fN w v L)(hb:∀(g:Nat) (cs:Array Value) (f:Nat×Nat),w.heap[g]?=some (.cells cs 9 f)->w'.heap[g]?=w.heap[g]?):fN w' v L:=by
 obtain⟨g,o,cap,rfl,hc,⟨cs,f,hg⟩,aC⟩:=h;have e:=hb g cs f hg;refine⟨g,o,cap,rfl,hc,⟨cs,f,e.trans hg⟩,fun j hj=> ?_⟩;have:=aC j hj;simp only[World.cell?]at this⊢;rw[e];exact this
theorem bh {w:World}{z:Nat}{e e':TypeId}{size:Nat}{v:Value}{n:Nat}{xs:List Value}(h:w.ownsRow z e size v n xs){g:Nat}{cs:Array Value}{f:Nat×Nat}(hg:w.heap[g]?=some (.cells cs e' f))(he:e≠e'):some g≠v.ownBlock:=
 fun x=>ar h hg he x.symm
theorem cR.qa {z b:Nat}{w w':World}{v:Value}{S:List (Nat×List B)}{vs:List Value}(h:cR z w v S vs)(hb:bu b w w'){cs:Array Value}{f:Nat×Nat}(ho:w.heap[b]?=some (.cells cs 238 f)):cR z w' v S vs:=by
 have key:∀(g:Nat) (cs':Array Value) (e':TypeId) (f':Nat×Nat),w.heap[g]?=some (.cells cs' e' f')->e'≠238->w'.heap[g]?=w.heap[g]?:=fun g cs' e' f' hg he=>hb.block g (lt_of_heap hg) (fun x=>by
  subst x;rw[ho]at hg;simp only[Option.some.injEq,Obj.cells.injEq]at hg;exact he hg.2.1.symm)
 refine⟨h.len,gh h.row (fun g hg=> ?_),fun j hj=>qc (h.each j hj) fun g cs' f' hg=>key g cs' _ f' hg (by decide)⟩;rcases h.row.2 with⟨rfl,-⟩|⟨g',cap,cur,rfl,-,Rv,-⟩
 ·cases hg
 ·simp only[Value.ownBlock,Option.some.injEq]at hg;subst hg;exact key _ _ _ _ Rv (by decide)
theorem cR.more {z:Nat}{w w2 w3:World}{v v' u:Value}{S:List (Nat×List B)}{vs:List Value}(h:cR z w v S vs)(x:Nat×List B)(hu:fN w u x.2)(h2:Below w.heap.size w w2)
  (h3:w3.ownsRow z 240 2 v' (S.length+1) (o8 S vs++[.int .i64 (x.1:Nat),u])) (hg:w2.grownBy w3 v.ownBlock):cR z w3 v' (S++[x]) (vs++[u]):=by
 have H:=h.below h2;have hu2:=hu.below h2;have de:∀(g:Nat) (cs:Array Value) (f:Nat×Nat),w2.heap[g]?=some (.cells cs 9 f)->w3.heap[g]?=w2.heap[g]?:=fun g cs f yS=>hg.block g (lt_of_heap yS) (bh H.row yS (by decide))
 refine⟨by simp[h.len],?_,fun j hj=> ?_⟩
 ·have:o8 (S++[x]) (vs++[u])=o8 S vs++[.int .i64 (x.1:Nat),u]:=by
   unfold o8;rw[List.zip_append h.len.symm];simp
  rw[this];simpa using h3
 ·simp at hj;by_cases aK:j<S.length
  ·have e1:(vs++[u]).getD j undef=vs.getD j undef:=by simp[List.getD_eq_getElem?_getD,List.getElem?_append,h.len,aK]
   have e2:(S++[x]).getD j (0,[])=S.getD j (0,[]):=by simp[List.getD_eq_getElem?_getD,List.getElem?_append,aK]
   rw[e1,e2];exact qc (H.each j aK) de
  ·obtain rfl:j=S.length:=by omega
   have e1:(vs++[u]).getD S.length undef=u:=by simp[List.getD_eq_getElem?_getD,<-h.len]
   have e2:(S++[x]).getD S.length (0,[])=x:=by simp[List.getD_eq_getElem?_getD]
   rw[e1,e2];exact qc hu2 de
theorem cR.at {z:Nat}{w:World}{v:Value}{S:List (Nat×List B)}{vs:List Value}(h:cR z w v S vs)(j:Nat)(hj:j<S.length):
  ∃g cap,v=.slice (some ⟨g,0,none⟩) S.length cap/\S.length<=cap/\g<w.heap.size/\w.cell? ⟨g,j*2,none⟩=some (.int .i64 ((S.getD j (0,[])).1:Nat))/\w.cell? ⟨g,j*2+1,none⟩=some (vs.getD j undef):=by
 obtain⟨g,cap,hv,hc,aK,aC⟩:=dJ h.row (by omega);have hz:(S.zip vs)[j]?=some (S.getD j (0,[]),vs.getD j undef):=by
  have:j<vs.length:=by rw[h.len];exact hj
  simp[List.getElem?_zip_eq_some,hj,this]
 have f0:=jm (fun x:(Nat×List B)×Value=>[.int .i64 (x.1.1:Nat),x.2]) 2 (fun _=>rfl) (S.zip vs) j 0 (by decide);have f1:=jm (fun x:(Nat×List B)×Value=>[.int .i64 (x.1.1:Nat),x.2]) 2 (fun _=>rfl) (S.zip vs) j 1 (by decide);rw[hz]at f0 f1;exact⟨g,cap,hv,hc,aK,(aC (j*2) (by omega)).trans f0,(aC (j*2+1) (by omega)).trans f1⟩
end PrjL
namespace PrjM
open Go Go.RowKit Sq Aux PrjF PrjG PrjH PrjI PrjJ PrjK PrjL
def zR (x:B×Nat):List Value:=[.string (bs x.1),.int .i64 (x.2:Nat)]
def q9 (ls:List (B×Nat)):List Value:=ls.flatMap zR
def BD (x:Nat×Nat):List Value:=[.int .i64 (x.1:Nat),.int .i64 (x.2:Nat)]
def bK (ls:List (Nat×Nat)):List Value:=ls.flatMap BD
def mC (x:aa×Value×Value):List Value:=[.int .i64 (x.1.num:Nat),.int .i64 (x.1.op:Nat),x.2.1,.int .i64 x.1.number,.int .i64 x.1.flag,x.2.2]
def iF (ls:List aa)(vs:List (Value×Value)):List Value:=(ls.zip vs).flatMap mC
def aa.nil:aa:=⟨0,0,[],0,0,[]⟩
structure bp (z:Nat)(w:World)(l:aa)(vp vn:Value):Prop where
 places:w.ownsRow z 119 2 vp l.places.length (bK l.places)
 next:w.ownsRow z 3 1 vn l.next.length (dG l.next)
structure fh (z:Nat)(w:World)(v:Value)(ls:List aa)(vs:List (Value×Value)):Prop where
 len:vs.length=ls.length
 row:w.ownsRow z 115 6 v ls.length (iF ls vs)
 each:∀j,j<ls.length->bp z w (ls.getD j aa.nil) (vs.getD j (undef,undef)).1 (vs.getD j (undef,undef)).2
structure lD (z a:Nat)(w:World)(q:QP)(vl vb:Value)(us:List Value)(vss:List (List (Value×Value))):Prop where
 base:z<=a
 aI:w.heap[a]?=some (.cells #[vl,vb] 110 (0,0))
 locals:w.ownsRow z 146 2 vl q.locals.length (q9 q.locals)
 blocks:w.ownsRow z 106 1 vb q.blocks.length us
 each:∀j,j<q.blocks.length->fh z w (us.getD j undef) (q.blocks.getD j []) (vss.getD j [])
 apart:∀i j,i<j->j<q.blocks.length->(us.getD i undef).ownBlock=none\/(us.getD i undef).ownBlock≠(us.getD j undef).ownBlock
section
variable {z a:Nat} {w w' w2 w3:World} {q:QP} {vl vb v':Value} {us:List Value} {vss:List (List (Value×Value))}
theorem lD.WK (h:lD z a w q vl vb us vss):us.length=q.blocks.length:=by have:=h.blocks.1;omega
theorem lD.lt (h:lD z a w q vl vb us vss):a<w.heap.size:=lt_of_heap h.aI
theorem bp.de {l:aa}{vp vn:Value}(h:bp z w l vp vn)(k:∀{e:TypeId} {s:Nat} {v:Value} {n:Nat} {xs:List Value},e=119\/e=3->w.ownsRow z e s v n xs->w'.ownsRow z e s v n xs):bp z w' l vp vn:=
 ⟨k (.inl rfl) h.places,k (.inr rfl) h.next⟩
theorem fh.de {v:Value}{ls:List aa}{vs:List (Value×Value)}(h:fh z w v ls vs)(hr:w'.ownsRow z 115 6 v ls.length (iF ls vs))
  (k:∀{e:TypeId} {s:Nat} {v:Value} {n:Nat} {xs:List Value},e=119\/e=3->w.ownsRow z e s v n xs->w'.ownsRow z e s v n xs):fh z w' v ls vs:=
 ⟨h.len,hr,fun j hj=>(h.each j hj).de k⟩
theorem bp.below {l:aa}{vp vn:Value}(h:bp z w l vp vn)(hb:Below w.heap.size w w'):bp z w' l vp vn:=h.de fun _ h=>ax h hb
theorem fh.below {v:Value}{ls:List aa}{vs:List (Value×Value)}(h:fh z w v ls vs)(hb:Below w.heap.size w w'):fh z w' v ls vs:=h.de (ax h.row hb) fun _ h=>ax h hb
theorem lD.below (h:lD z a w q vl vb us vss)(hb:Below w.heap.size w w'):lD z a w' q vl vb us vss:=
 ⟨h.base,by rw[hb.block a h.lt];exact h.aI,ax h.locals hb,ax h.blocks hb,fun j hj=>(h.each j hj).below hb,h.apart⟩
theorem lD.start (z:Nat)(w:World)(hz:z<=w.heap.size):lD z w.heap.size (w.alloc (.cells #[.slice none 0 0,.slice none 0 0] 110)) QP.empty (.slice none 0 0) (.slice none 0 0) [] []:=
 ⟨hz,by show(w.heap.push _)[w.heap.size]?=_;simp,World.ownsRow_nil _ _ _ _,World.ownsRow_nil _ _ _ _,fun j hj=>by simp[QP.empty]at hj,fun i j _ hj=>by simp[QP.empty]at hj⟩
theorem lD.addLocal (h:lD z a w q vl vb us vss)(x:B×Nat)(h2:Below w.heap.size w w2)
  (h3:w3.ownsRow z 146 2 v' (q.locals.length+1) (q9 q.locals++zR x)) (hg:w2.grownBy w3 vl.ownBlock):
  lD z a (w3.setCell ⟨a,0,none⟩ v') (q.addLocal x) v' vb us vss:=by
 have H:=h.below h2;have ea:some a≠vl.ownBlock:=bh H.locals H.aI (by decide);have bU:w3.heap[a]?=some (.cells #[vl,vb] 110 (0,0)):=by rw[hg.block a H.lt ea];exact H.aI
 have de:∀{e:TypeId} {s:Nat} {v:Value} {n:Nat} {xs:List Value},w2.ownsRow z e s v n xs->e≠146->e≠110->(w3.setCell ⟨a,0,none⟩ v').ownsRow z e s v n xs:=by
  intro e s v n xs hv he Jp;have hk:=hv.kept hg (cZ hv H.locals he);exact au hk _ (ar hk bU Jp)
 refine⟨h.base,?_,?_,de H.blocks (by decide) (by decide),fun j hj=>(H.each j hj).de (de (H.each j hj).row (by decide) (by decide)) (fun he hv=>de hv ?_ ?_),h.apart⟩
 ·rw[Go.Proofs.YtmlgajhhnojdjaaGreatDoor.Aux.heap_setCell_same bU];rfl
 ·have:=au h3 (a:=⟨a,0,none⟩) v' (ar h3 bU (by decide));simpa [QP.addLocal,q9]using this
 ·rcases he with rfl|rfl<;>decide
 ·rcases he with rfl|rfl<;>decide
theorem lD.addBlock (h:lD z a w q vl vb us vss)(hl:vss.length=q.blocks.length)(h2:Below w.heap.size w w2)
  (h3:w3.ownsRow z 106 1 v' (q.blocks.length+1) (us++[.slice none 0 0])) (hg:w2.grownBy w3 vb.ownBlock):
  lD z a (w3.setCell ⟨a,1,none⟩ v') q.addBlock vl v' (us++[.slice none 0 0]) (vss++[[]]):=by
 have H:=h.below h2;have hu:=h.WK;have ea:some a≠vb.ownBlock:=bh H.blocks H.aI (by decide);have bU:w3.heap[a]?=some (.cells #[vl,vb] 110 (0,0)):=by rw[hg.block a H.lt ea];exact H.aI
 have de:∀{e:TypeId} {s:Nat} {v:Value} {n:Nat} {xs:List Value},w2.ownsRow z e s v n xs->e≠106->e≠110->(w3.setCell ⟨a,1,none⟩ v').ownsRow z e s v n xs:=by
  intro e s v n xs hv he Jp;have hk:=hv.kept hg (cZ hv H.blocks he);exact au hk _ (ar hk bU Jp)
 have eu:∀j,j<q.blocks.length->(us++[Value.slice none 0 0]).getD j undef=us.getD j undef:=fun j hj=>by simp[List.getD_eq_getElem?_getD,List.getElem?_append,hu,hj]
 have el:(us++[Value.slice none 0 0]).getD q.blocks.length undef=.slice none 0 0:=by simp[List.getD_eq_getElem?_getD,<-hu]
 refine⟨h.base,?_,de H.locals (by decide) (by decide),?_,fun j hj=> ?_,fun i j hij hj=> ?_⟩
 ·rw[Go.Proofs.YtmlgajhhnojdjaaGreatDoor.Aux.heap_setCell_same bU];rfl
 ·have:=au h3 (a:=⟨a,1,none⟩) v' (ar h3 bU (by decide));simpa [QP.addBlock]using this
 ·simp only[QP.addBlock,List.length_append,List.length_singleton]at hj;by_cases aK:j<q.blocks.length
  ·have e2:q.addBlock.blocks.getD j []=q.blocks.getD j []:=by simp[QP.addBlock,List.getD_eq_getElem?_getD,List.getElem?_append,aK]
   have e3:(vss++[[]]).getD j []=vss.getD j []:=by simp[List.getD_eq_getElem?_getD,List.getElem?_append,hl,aK]
   rw[eu j aK,e2,e3];refine(H.each j aK).de (de (H.each j aK).row (by decide) (by decide)) (fun he hv=>de hv ?_ ?_)
   ·rcases he with rfl|rfl<;>decide
   ·rcases he with rfl|rfl<;>decide
  ·obtain rfl:j=q.blocks.length:=by omega
   have e2:q.addBlock.blocks.getD q.blocks.length []=[]:=by simp[QP.addBlock,List.getD_eq_getElem?_getD]
   have e3:(vss++[[]]).getD q.blocks.length []=[]:=by simp[List.getD_eq_getElem?_getD,<-hl]
   rw[el,e2,e3];exact⟨rfl,World.ownsRow_nil _ _ _ _,fun j hj=>by simp at hj⟩
 ·simp only[QP.addBlock,List.length_append,List.length_singleton]at hj;by_cases aK:j<q.blocks.length
  ·rw[eu j aK,eu i (by omega)];exact h.apart i j hij aK
  ·obtain rfl:j=q.blocks.length:=by omega
   rw[eu i (by omega),el];cases hx:(us.getD i undef).ownBlock with
   |none=>exact .inl rfl
   |some g=>exact .inr (by simp[Value.ownBlock])
theorem lD.addLine (h:lD z a w q vl vb us vss)(hl:vss.length=q.blocks.length)(n:Nat)(hn:q.blocks.length=n+1)(l:aa)(vp vn:Value)(hL:bp z w l vp vn)(h2:Below w.heap.size w w2)
  {gb cb:Nat} (X7:vb=.slice (some ⟨gb,0,none⟩) (n+1) cb) {g:Nat} (hv':v'.ownBlock=some g) (Ep:(us.getD n undef).ownBlock=some g\/w2.heap.size<=g)
  (h3:w3.ownsRow z 115 6 v' ((q.blocks.getD n []).length+1) (iF (q.blocks.getD n []) (vss.getD n [])++mC (l,vp,vn))) (hg:w2.grownBy w3 (us.getD n undef).ownBlock):
  lD z a (w3.setCell ⟨gb,n,none⟩ v') (q.addLine l) vl vb (us.set n v') (vss.set n (vss.getD n []++[(vp,vn)])):=by
 have H:=h.below h2;have HL:=hL.below h2;have hu:=h.WK;have qQ:n<q.blocks.length:=by omega
 have HN:=H.each n qQ;have ea:some a≠(us.getD n undef).ownBlock:=bh HN.row H.aI (by decide);have bU:w3.heap[a]?=some (.cells #[vl,vb] 110 (0,0)):=by rw[hg.block a H.lt ea];exact H.aI
 have HB3:w3.ownsRow z 106 1 vb q.blocks.length us:=H.blocks.kept hg (cZ H.blocks HN.row (by decide));obtain⟨g',cap,cur,e,hzg,UP,kL,XK,lx,htk⟩:∃g' cap cur,vb=.slice (some ⟨g',0,none⟩) q.blocks.length cap/\z<=g'/\w3.heap[g']?=some (.cells cur 106 (0,0))/\q.blocks.length<=cap/\cap<=maxLen/\cur.size=cap*1/\cur.toList.take (q.blocks.length*1)=us:=by
  rcases HB3.2 with⟨e,-⟩|⟨g',cap,cur,e,r⟩
  ·rw[X7]at e;cases e
  ·exact⟨g',cap,cur,e,r⟩
 have:g'=gb:=by rw[X7]at e;simp only[Value.slice.injEq,Option.some.injEq,Addr.mk.injEq]at e;exact e.1.1.symm
 subst this;have de:∀{e:TypeId} {s:Nat} {v:Value} {n':Nat} {xs:List Value},w2.ownsRow z e s v n' xs->(v.ownBlock=none\/v.ownBlock≠(us.getD n undef).ownBlock)->e≠106->(w3.setCell ⟨g',n,none⟩ v').ownsRow z e s v n' xs:=by
  intro e s v n' xs hv hnn Jp;have hk:=hv.kept hg hnn;exact au hk _ (ar hk UP Jp)
 have eu:∀j,¬j=n->(us.set n v').getD j undef=us.getD j undef:=fun j hj=>by simp[List.getD_eq_getElem?_getD,List.getElem?_set_ne (Ne.symm hj)]
 have eun:(us.set n v').getD n undef=v':=by simp[List.getD_eq_getElem?_getD,hu,qQ]
 have hB:q.blocks=q.blocks.dropLast++[q.blocks.getD n []]:=by
  have ea:q.blocks≠[]:=by intro e;rw[e]at qQ;simp at qQ
  conv=>lhs;rw[<-List.dropLast_concat_getLast ea]
  congr 2;rw[List.getLast_eq_getElem];simp[List.getD_eq_getElem?_getD,hn]
 have hD:q.blocks.dropLast.length=n:=by simp[hn]
 have hlB:(q.addLine l).blocks=q.blocks.dropLast++[q.blocks.getD n []++[l]]:=by
  have:q.blocks.getLastD []=q.blocks.getD n []:=by rw[hB];simp[List.getD_eq_getElem?_getD,hD]
  simp only[QP.addLine,this]
 have ebn:(q.addLine l).blocks.getD n []=q.blocks.getD n []++[l]:=by rw[hlB];simp[List.getD_eq_getElem?_getD,hD]
 have eb:∀j,j<n->(q.addLine l).blocks.getD j []=q.blocks.getD j []:=fun j hj=>by
  rw[hlB,hB];simp[List.getD_eq_getElem?_getD,List.getElem?_append,hD,hj]
 have elen:(q.addLine l).blocks.length=n+1:=by rw[hlB];simp[hD]
 have ev:∀j,¬j=n->(vss.set n (vss.getD n []++[(vp,vn)])).getD j []=vss.getD j []:=fun j hj=>by simp[List.getD_eq_getElem?_getD,List.getElem?_set_ne (Ne.symm hj)]
 have evn:(vss.set n (vss.getD n []++[(vp,vn)])).getD n []=vss.getD n []++[(vp,vn)]:=by simp[List.getD_eq_getElem?_getD,hl,qQ]
 have ne2:∀{e:TypeId} {s:Nat} {v:Value} {n':Nat} {xs:List Value},e=119\/e=3->w2.ownsRow z e s v n' xs->(w3.setCell ⟨g',n,none⟩ v').ownsRow z e s v n' xs:=fun he hv=>
  de hv (cZ hv HN.row (by rcases he with rfl|rfl<;>decide)) (by rcases he with rfl|rfl<;>decide)
 refine⟨h.base,?_,de H.locals (cZ H.locals HN.row (by decide)) (by decide),?_,fun j hj=> ?_,fun i j hij hj=> ?_⟩
 ·rw[Below.heap_setCell _ _ _ _ (by show a≠g';intro e;rw[e,UP]at bU;simp only[Option.some.injEq,Obj.cells.injEq]at bU;exact absurd bU.2.1 (by decide))];exact bU
 ·rw[elen];refine⟨by simp[hu,hn],.inr ⟨g',cap,cur.setIfInBounds n v',by rw[e,hn],hzg,Go.Proofs.YtmlgajhhnojdjaaGreatDoor.Aux.heap_setCell_same UP n v',by omega,XK,by simpa using lx,?_⟩⟩;rw[Array.toList_setIfInBounds,<-htk,hn,List.take_set]
 ·rw[elen]at hj;by_cases P8:j=n
  ·subst P8;rw[eun,ebn,evn];refine⟨by rw[jV,jV,HN.len];rfl,?_,fun i hi=> ?_⟩
   ·have:=au h3 (a:=⟨g',j,none⟩) v' (ar h3 UP (by decide));have e2:iF (q.blocks.getD j []++[l]) (vss.getD j []++[(vp,vn)])=iF (q.blocks.getD j []) (vss.getD j [])++mC (l,vp,vn):=by
     unfold iF;rw[List.zip_append HN.len.symm];simp
    rw[e2];simpa using this
   ·simp at hi;by_cases aK:i<(q.blocks.getD j []).length
    ·have e1:(q.blocks.getD j []++[l]).getD i aa.nil=(q.blocks.getD j []).getD i aa.nil:=by rw[jA,jg aK,<-jA]
     have e2:(vss.getD j []++[(vp,vn)]).getD i (undef,undef)=(vss.getD j []).getD i (undef,undef):=by rw[jA,jg (by rw[HN.len];exact aK),<-jA]
     rw[e1,e2];exact(HN.each i aK).de ne2
    ·have Z1:i=(q.blocks.getD j []).length:=by simp only[List.getD_eq_getElem?_getD]at aK hi⊢;omega
     have e1:(q.blocks.getD j []++[l]).getD i aa.nil=l:=by rw[Z1,jA,jf (jC _)];simp
     have e2:(vss.getD j []++[(vp,vn)]).getD i (undef,undef)=(vp,vn):=by rw[Z1,<-HN.len,jA,jf (jC _)];simp
     rw[e1,e2];exact HL.de ne2
  ·have ot:j<n:=by omega
   rw[eu j P8,eb j ot,ev j P8];refine(H.each j (by omega)).de (de (H.each j (by omega)).row (h.apart j n ot qQ) (by decide)) ne2
 ·rw[elen]at hj;by_cases P8:j=n
  ·subst P8;rw[eu i (by omega),eun,hv'];cases hx:(us.getD i undef).ownBlock with
   |none=>exact .inl rfl
   |some g0=>
    refine .inr fun hc=> ?_
    simp only[Option.some.injEq]at hc;subst hc;rcases Ep with Ep|Ep
    ·rcases h.apart i j hij qQ with h0|h0
     ·rw[hx]at h0;cases h0
     ·rw[hx,Ep]at h0;exact h0 rfl
    ·have:=LF (H.each i (by omega)).row g0 hx;omega
  ·rw[eu i (by omega),eu j P8];exact h.apart i j hij (by omega)
end
end PrjM
namespace PrjN
open Go Go.RowKit Sq Aux PrjF PrjG PrjH PrjI PrjJ PrjK PrjL
def dW (raw:Bool)(L:List B)(w:World)(e:Ending)(w':World):Prop:=
 Below w.heap.size w w'/\match aF raw (L.map (split 32)) ⟨0,0,0⟩ 0 with
  |(_,_,some k)=>e=.returned (.tuple #[.slice none 0 0,.int .i64 (k:Nat),.bool false])
  |(S,o,none)=>∃v vs,e=.returned (.tuple #[v,.int .i64 (L.length:Nat),.bool (decide (o.sec=2))])/\cR w.heap.size w' v S vs
theorem dW.bad {raw:Bool}{L:List B}{w w':World}{k:Nat}(hb:Below w.heap.size w w')(h:(aF raw (L.map (split 32)) ⟨0,0,0⟩ 0).2.2=some k):dW raw L w (.returned (.tuple #[.slice none 0 0,.int .i64 (k:Nat),.bool false])) w':=by
 refine⟨hb,?_⟩;generalize aF raw (L.map (split 32)) ⟨0,0,0⟩ 0=R at h;obtain⟨S,o,x⟩:=R;simp only at h;subst h;rfl
theorem dW.mi {raw:Bool}{L:List B}{w w':World}{S:List (Nat×List B)}{o:fj}{v:Value}{vs:List Value}(hb:Below w.heap.size w w')(h:aF raw (L.map (split 32)) ⟨0,0,0⟩ 0=(S,o,none))(hs:cR w.heap.size w' v S vs):dW raw L w (.returned (.tuple #[v,.int .i64 (L.length:Nat),.bool (decide (o.sec=2))])) w':=by
 refine⟨hb,?_⟩;rw[h];exact⟨v,vs,rfl,hs⟩
theorem P2 {w:World}{u:Value}{L:List B}(h:fN w u L):u.oneCell'=true:=by
 obtain⟨g,o,cap,rfl,-⟩:=h;rfl
theorem Vy {n:Int}{u:Value}(h:u.oneCell'=true):∀u'∈[Value.int .i64 n,u],u'.oneCell'=true:=by
 intro u' hu;simp at hu;rcases hu with rfl|rfl
 ·rfl
 ·exact h
theorem Mn {b:Nat}{w w':World}{v:Value}{L:List B}(h:fN w v L)(hb:bu b w w'){raw:Bool}{ln mb:Nat}{o:fj}(ho:dp w b raw ln mb o):fN w' v L:=
 qc h fun g cs f hg=>hb.block g (lt_of_heap hg) (fun x=>by
  subst x;unfold dp at ho;rw[ho]at hg;simp only[Option.some.injEq,Obj.cells.injEq]at hg;exact absurd hg.2.1 (by decide))
theorem LX {b:Nat}{w w':World}{x y:Value}(hb:bu b (w.alloc (.cells #[x,y] 240)) w')(ea:b<w.heap.size):w'.cell? ⟨w.heap.size,0,none⟩=some x/\w'.cell? ⟨w.heap.size,1,none⟩=some y:=by
 have h0:(w.alloc (.cells #[x,y] 240)).heap[w.heap.size]?=some (.cells #[x,y] 240 (0,0)):=jD;have h1:w'.heap[w.heap.size]?=some (.cells #[x,y] 240 (0,0)):=(hb.block _ (lt_of_heap h0) (by omega)).trans h0;exact⟨by rw[cell_of_heap h1];rfl,by rw[cell_of_heap h1];rfl⟩
theorem Oo:(Tryz.prog.info? 240).map (fun i=>(i.zero,i.size,i.bytes))=some (some (.agg #[.int .i64 0,.slice none 0 0]),2,32):=by kernel_rfl
set_option maxRecDepth 20000 in
set_option maxHeartbeats 1000000 in
theorem yh (raw:Bool)(ln g cap:Nat)(L:List B)(w:World)(hL:L.length<=4000)(_hcap:L.length<=cap)(hg:g<w.heap.size)(aC:∀j,j<L.length->w.cell? ⟨g,j,none⟩=some (.string (bs (word L j))))(hlen:∀j,(word L j).length<=1048576)(E:Env w):
  Calls Tryz.prog 115 #[.agg #[.bool raw,.int .i64 ln,.int .i64 (if raw then 2000 else 20:Nat)],.slice (some ⟨g,0,none⟩) L.length cap] w (dW raw L w):=by
 obtain⟨i0,Z2,A0,Ey,xW⟩:=info_parts Oo;have KA:=fun(op:Nat) (o:fj) (w':World)=>JB raw ln (w.heap.size+1) op o w'
 generalize (if raw then 2000 else 20:Nat)=mb at KA⊢;have fB:Below w.heap.size w ((w.alloc (.cells #[.bool raw,.int .i64 ln,.int .i64 mb] 130)).alloc (.cells #[.bool raw,.int .i64 ln,.int .i64 mb,.int .i64 0,.int .i64 0,.int .i64 0] 238)):=((Below.refl _ _).alloc (jC _) _).alloc (by simp) _;have V7:dp ((w.alloc (.cells #[.bool raw,.int .i64 ln,.int .i64 mb] 130)).alloc (.cells #[.bool raw,.int .i64 ln,.int .i64 mb,.int .i64 0,.int .i64 0,.int .i64 0] 238)) (w.heap.size+1) raw ln mb ⟨0,0,0⟩:=by
  unfold dp;rw[show w.heap.size+1=(w.alloc (.cells #[.bool raw,.int .i64 ln,.int .i64 mb] 130)).heap.size by simp];exact jD
 go_enter Tryz.func115,Tryz.ntmps115
 go_wp2
 go_loopw [4,16] (fun v i wr=>∃(k:Nat) (done:List (Nat×List B)) (o:fj) (vs:List Value),k<=L.length/\i=.int .i64 k/\dp wr (w.heap.size+1) raw ln mb o/\cR w.heap.size wr v done vs/\Below w.heap.size w wr/\Hid (mQ raw (L.map (split 32)) k done o)) (fun _ i _=>L.length-(intOf i).toNat)
 case atStart=>exact⟨0,[],⟨0,0,0⟩,[],jQ _,rfl,V7,cR.nil _ _,fB,mQ.start raw _⟩
 case round=>
  obtain⟨k,done,o,vs,hk,rfl,hO,hS,hB,HA⟩:=hrel;clear fB V7;by_cases aK:k<L.length
  ·have TW:wr.cell? ⟨g,k,none⟩=some (.string (bs (word L k))):=(hB.cell (p:=⟨g,k,none⟩) hg).trans (aC k aK);have KS:=BJ (word L k) wr (hlen k) (E.on hB);have xr:k<(L.map (split 32)).length:=by simpa using aK
   have GR:Hid ((L.map (split 32))[k]=split 32 (word L k)):=by
    unfold Hid;simp[word,aK]
   have lx:w.heap.size+1<wr.heap.size:=lt_of_heap hO;cases hx:eP (split 32 (word L k))with
   |none=>
    have Xs:=HA.out.bad xr (by rw[GR.out];exact hx);unfold mc at KS;rw[hx]at KS;clear hx;go_wp2_with (go_at_call 163;refine KS.mono ?_;rintro e w1 ⟨av,rfl⟩)
    go_ret3
    exact dW.bad ((hB.trans (av.mono hB.size)).alloc (jS hB.size av.size) _) Xs
   |some x=>
    obtain⟨-,XO⟩:=tD hx;have aw:=oW XO;have xQ:=HA.out.fc;have Wj:=HA.out.len;unfold mc at KS;rw[hx]at KS
    replace KS:Calls Tryz.prog 163 #[.string (bs (word L k))] wr fun e w'=>Below wr.heap.size wr w'/\∃gw ow cw,e=.returned (.tuple #[.agg #[.int .i64 (x.1:Nat),.slice (some ⟨gw,ow,none⟩) x.2.length cw],.bool true])/\fN w' (.slice (some ⟨gw,ow,none⟩) x.2.length cw) x.2:=
     KS.mono fun e w' ⟨h1,v,h2,h3⟩=>by
      have Zl:=h3;obtain⟨gw,ow,cw,rfl,-⟩:=Zl;exact⟨h1,gw,ow,cw,h2,h3⟩
    cases ha:(aP raw o x.1).2 with
    |false=>
     have Xs:=HA.out.out xr (by rw[GR.out];exact hx) ha;have KB:∀w',dp w' (w.heap.size+1) raw ln mb o->w.heap.size+1<w'.heap.size->Calls Tryz.prog 164 #[.pointer (some ⟨w.heap.size+1,0,none⟩),.int .i64 x.1] w' fun e w''=>e=.returned (.bool false)/\dp w'' (w.heap.size+1) raw ln mb (aP raw o x.1).1/\bu (w.heap.size+1) w' w'':=fun w' h1 h2=>by
      have:=KA x.1 o w' h1 aw (by omega) (by omega) h2;unfold ff at this
      rwa [ha]at this
     clear hx ha XO Wj xQ KA;go_wp2_with (first
      |(go_at_call 163;refine KS.mono ?_;rintro e w1 ⟨av,gw,ow,cw,rfl,hu⟩;have qt:w.heap.size+1<(w1.alloc (.cells #[.int .i64 (x.1:Nat),.slice (some ⟨gw,ow,none⟩) x.2.length cw] 240)).heap.size:=(by have:=av.size;simp;omega);have Zq:=hO.below (av.alloc av.size (.cells #[.int .i64 (x.1:Nat),.slice (some ⟨gw,ow,none⟩) x.2.length cw] 240)) lx)
      |(go_at_call 164;refine(KB _ Zq qt).mono ?_;rintro e w2 ⟨rfl,iM,qq⟩))
     go_ret3
     exact dW.bad ((hB.trans ((av.alloc av.size _).mono hB.size)).trans (qq.below (by omega) (by omega))) Xs
    |true=>
     have HA2:Hid (mQ raw (L.map (split 32)) (k+1) (done++[x]) (aP raw o x.1).1):=HA.out.on xr (by rw[GR.out];exact hx) ha;have KB:∀w',dp w' (w.heap.size+1) raw ln mb o->w.heap.size+1<w'.heap.size->Calls Tryz.prog 164 #[.pointer (some ⟨w.heap.size+1,0,none⟩),.int .i64 x.1] w' fun e w''=>e=.returned (.bool true)/\dp w'' (w.heap.size+1) raw ln mb (aP raw o x.1).1/\bu (w.heap.size+1) w' w'':=fun w' h1 h2=>by
      have:=KA x.1 o w' h1 aw (by omega) (by omega) h2;unfold ff at this
      rwa [ha]at this
     clear hx ha XO xQ KA;go_wp2_with (first
      |(go_at_call 163;refine KS.mono ?_;rintro e w1 ⟨av,gw,ow,cw,rfl,hu⟩;have qt:w.heap.size+1<(w1.alloc (.cells #[.int .i64 (x.1:Nat),.slice (some ⟨gw,ow,none⟩) x.2.length cw] 240)).heap.size:=(by have:=av.size;simp;omega);have Zq:=hO.below (av.alloc av.size (.cells #[.int .i64 (x.1:Nat),.slice (some ⟨gw,ow,none⟩) x.2.length cw] 240)) lx)
      |(go_at_call 164;refine(KB _ Zq qt).mono ?_;rintro e w2 ⟨rfl,iM,qq⟩;have hsb:=LX qq (by have:=av.size;omega);obtain⟨Oj,lv⟩:=hsb;have Jn:=(hS.below (av.alloc av.size (.cells #[.int .i64 (x.1:Nat),.slice (some ⟨gw,ow,none⟩) x.2.length cw] 240))).qa qq Zq;have YW:=P2 hu;have hbs:w.heap.size<=w2.heap.size:=(by have:=qq.size;omega))
      |(at_builtin;go_must (refine kg rfl _ _ 193 rfl w.heap.size 240 i0 (.agg #[.int .i64 0,.slice none 0 0]) 2 32 Tryz.underlying193 Z2 A0 Ey xW rfl (by decide) _ _ _ rfl (ax Jn.row ((Below.refl _ _).alloc (jC _) (.cells #[.int .i64 (x.1:Nat),.slice (some ⟨gw,ow,none⟩) x.2.length cw] 240))) w2.heap.size [.int .i64 (x.1:Nat),.slice (some ⟨gw,ow,none⟩) x.2.length cw] rfl jD rfl (Vy YW) (by decide) (by omega) (by simp;omega) ?_);intro g3 c3 w3 hown3 hgrow3 hat3 hlt3))
     go_roundw
     case rel=>
      have Jo:Below w2.heap.size w2 (w2.alloc (.cells #[.int .i64 (x.1:Nat),.slice (some ⟨gw,ow,none⟩) x.2.length cw] 240)):=(Below.refl _ _).alloc (jC _) _;have ml:Below w.heap.size w w2:=(hB.trans ((av.alloc av.size _).mono hB.size)).trans (qq.below (by omega) (by omega));have hu2:=Mn (hu.below ((Below.refl _ _).alloc (jC _) (.cells #[.int .i64 (x.1:Nat),.slice (some ⟨gw,ow,none⟩) x.2.length cw] 240))) qq Zq;have hOE:=iM.below Jo (lt_of_heap iM);have Wk:=Jn.more x hu2 Jo hown3 hgrow3;rw[Wj]at Wk;refine⟨k+1,done++[x],(aP raw o x.1).1,vs++[.slice (some ⟨gw,ow,none⟩) x.2.length cw],by omega,by go_num,?_,Wk,fp ml (jC _) ml.size Jn.row hgrow3,HA2⟩;unfold dp at hOE⊢;rw[hgrow3.block _ (lt_of_heap hOE) (bh (ax Jn.row Jo) hOE (by decide))];exact hOE
     case measure=>simp[intOf];omega
  ·have hw:=HA.out.whole (by simpa using aK);have KD:=fun w' (h:dp w' (w.heap.size+1) raw ln mb o)=>QO raw ln mb (w.heap.size+1) o w' h
   go_wp2_with (go_at_call 165;refine(KD _ hO).mono ?_;rintro e wd ⟨rfl,rfl⟩)
   go_ret3
   exact dW.mi hB hw hS
end PrjN
end Go.Proofs.YtmlgajhhnojdjaaGreatDoor

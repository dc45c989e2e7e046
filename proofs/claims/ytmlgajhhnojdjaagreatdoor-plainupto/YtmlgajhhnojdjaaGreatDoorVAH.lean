import Derived.Test.YtmlgajhhnojdjaaGreatDoorVAG
import Derived.BigQuiet
namespace Go.Proofs.YtmlgajhhnojdjaaGreatDoor
namespace PrjJ
open Go Go.RowKit Sq Aux PrjF PrjG PrjH PrjI
theorem iv (c:UInt8):∀(a:B),¬c∈a->split c a=[a]
 |[],_=>rfl
 |x::a,h=>by
  simp only[List.mem_cons,not_or]at h;rw[split,ja (fun e=>h.1 e.symm),iv c a h.2];rfl
theorem fT (c:UInt8):∀(a t:B),¬c∈a->split c (a++c::t)=a::split c t
 |[],t,_=>by simp[split]
 |x::a,t,h=>by
  simp only[List.mem_cons,not_or]at h;rw[jW,split,ja (fun e=>h.1 e.symm),fT c a t h.2];rfl
theorem iX (c:UInt8):∀(l:B),(split c l).length=l.count c+1
 |[]=>rfl
 |x::l=>by
  rw[split];split
  ·rename_i h;subst h;simp[iX x l]
  ·rename_i h;have:=iX c l;rw[List.count_cons_of_ne (fun e=>h e)];cases hs:split c l with
   |nil=>rw[hs]at this;simp at this
   |cons a b=>rw[hs]at this;simpa [dr]using this
theorem xA {c:UInt8}{l:B}{i:Nat}:((bs l).extract 0 (i+0))=bs (l.take i)/\((bs l).extract (i+(⟨#[c]⟩:ByteArray).size) (bs l).size)=bs (l.drop (i+1)):=by
 constructor
 ·rw[extract_eq,bp];simp
 ·rw[extract_eq,bp];have:(⟨#[c]⟩:ByteArray).size=1:=rfl;rw[this,cu,List.take_of_length_le (by simp)]
theorem kS (c:UInt8):∀(k:Nat) (l:B),(Lib.splitB ⟨#[c]⟩ 0 k (bs l)).length=min (k+1) (split c l).length/\
  (∀j,j<k->j<(split c l).length->(Lib.splitB ⟨#[c]⟩ 0 k (bs l))[j]?=some (bs (word (split c l) j)))/\((split c l).length<=k+1->Lib.splitB ⟨#[c]⟩ 0 k (bs l)=(split c l).map bs)
 |0,l=>by
  have h1:=iX c l;refine⟨by simp[Lib.splitB];omega,fun j hj=>absurd hj (by omega),fun h=> ?_⟩;have:¬c∈l:=fun e=>by have:=List.count_pos_iff.mpr e;omega
  rw[iv c l this];rfl
 |k+1,l=>by
  have hx:Lib.indexB (bs l) ⟨#[c]⟩=Lib.index l [c]:=by simp[Lib.indexB,bs]
  rcases kG c l with⟨h1,h2⟩|⟨i,h1,h2,h3,h4⟩
  ·rw[Lib.splitB_miss _ _ _ _ (by rw[hx,h1]),iv c l h2];refine⟨by simp,fun j hj hl=> ?_,fun _=>rfl⟩;have:j=0:=by simpa using hl
   subst this;rfl
  ·obtain⟨e1,e2⟩:=xA (c:=c) (l:=l) (i:=i);rw[Lib.splitB_hit _ _ _ _ i (by rw[hx,h1]),e1,e2];have hs:split c l=l.take i::split c (l.drop (i+1)):=(congrArg (split c) h3).trans (fT c _ _ h4);obtain⟨a1,a2,a3⟩:=kS c k (l.drop (i+1));rw[hs];refine⟨?_,fun j hj hl=> ?_,fun h=> ?_⟩
   ·simp only[List.length_cons,a1];omega
   ·cases j with
    |zero=>rfl
    |succ j=>
     rw[List.getElem?_cons_succ,a2 j (by omega) (by simpa using hl)];rfl
   ·rw[a3 (by simp at h;omega)];rfl
theorem yb (c:UInt8):∀(n:Nat) (l:B),l.length<=n->Lib.countB (bs l) ⟨#[c]⟩+1=(split c l).length:=by
 intro n;induction n with
 |zero=>
  intro l hl;have:l=[]:=List.eq_nil_of_length_eq_zero (by omega);subst this;rw[Lib.countB_miss (bs []) ⟨#[c]⟩ (by rfl)];rfl
 |succ n ih=>
  intro l hl;have hx:Lib.indexB (bs l) ⟨#[c]⟩=Lib.index l [c]:=by simp[Lib.indexB,bs]
  rcases kG c l with⟨h1,h2⟩|⟨i,h1,h2,h3,h4⟩
  ·rw[Lib.countB_miss _ _ (by rw[hx,h1]),iv c l h2];rfl
  ·obtain⟨e1,e2⟩:=xA (c:=c) (l:=l) (i:=i);rw[Lib.countB_hit (bs l) ⟨#[c]⟩ i (jC 1) (by rw[hx,h1]),e2];have hs:split c l=l.take i::split c (l.drop (i+1)):=(congrArg (split c) h3).trans (fT c _ _ h4);have:=ih (l.drop (i+1)) (by simp;omega);rw[hs,jY];omega
def dO (w:World)(v:Value)(L:List B):Prop:=
 ∃g o cap,v=.slice (some ⟨g,o,none⟩) L.length cap/\L.length<=cap/\(∃cs f,w.heap[g]?=some (.cells cs 9 f))/\∀j,j<L.length->w.cell? ⟨g,o+j,none⟩=some (.string (bs (word L j)))
theorem lt_of_heap {w:World}{g:Nat}{x:Obj}(h:w.heap[g]?=some x):g<w.heap.size:=by
 rw[Array.getElem?_eq_some_iff]at h;exact h.1
theorem dO.below {w w':World}{v:Value}{L:List B}(h:dO w v L)(hb:Below w.heap.size w w'):dO w' v L:=by
 obtain⟨g,o,cap,rfl,hc,⟨cs,f,hg⟩,aQ⟩:=h;have aP:=lt_of_heap hg;exact⟨g,o,cap,rfl,hc,⟨cs,f,(hb.block g aP).trans hg⟩,fun j hj=>(hb.cell (p:=⟨g,o+j,none⟩) aP).trans (aQ j hj)⟩
theorem qE (op:Nat)(h:op<23):(ae op).length<=3:=by
 have:∀op:Fin 23,(ae op.val).length<=3:=by decide
 exact this ⟨op,h⟩
theorem C9 (l:B)(w:World)(h:l.length<=1048576)(E:Env w):
  Calls Tryz.prog 195 #[.string (bs l),.string ⟨#[32]⟩,.int .i64 5] w fun e w'=>∃g cap,e=.returned (.slice (some ⟨g,0,none⟩) (min 5 (split 32 l).length) cap)/\min 5 (split 32 l).length<=cap/\(cap<=5/\(l≠[]->2<=cap))/\g<w'.heap.size/\w.heap.size<=g/\Below w.heap.size w w'/\
   w'.cell? ⟨g,0,none⟩=some (.string (bs (word (split 32 l) 0)))/\((split 32 l).length<=4->∀j,j<(split 32 l).length->w'.cell? ⟨g,j,none⟩=some (.string (bs (word (split 32 l) j))))/\(∃cs f,w'.heap[g]?=some (.cells cs 9 f)):=by
 obtain⟨m,hm⟩:=E.FD;have K:=Tryz.strings_SplitN (bs l) ⟨#[32]⟩ 5 m w (by rw[cu];omega) hm (by decide) (by decide) (by decide);refine K.mono ?_;rintro e w' ⟨rfl,rfl⟩;rw[cu];have gO:=pU 32 l;have h1:=fx 32 l;have hk:min 5 (l.length+1)-1+1=min 5 (l.length+1):=by omega
 obtain⟨a1,a2,a3⟩:=kS 32 (min 5 (l.length+1)-1) l;have hlen:(Lib.splitB ⟨#[32]⟩ 0 (min 5 (l.length+1)-1) (bs l)).length=min 5 (split 32 l).length:=by rw[a1];omega
 have aQ:∀j,j<min 5 (split 32 l).length->(w.alloc (.cells (Lib.cellsOf (Lib.splitB ⟨#[32]⟩ 0 (min 5 (l.length+1)-1) (bs l)) (min 5 (l.length+1))) 9)).cell? ⟨w.heap.size,j,none⟩=(Lib.splitB ⟨#[32]⟩ 0 (min 5 (l.length+1)-1) (bs l))[j]?.map Value.string:=by
  intro j hj;have:(w.alloc (.cells (Lib.cellsOf (Lib.splitB ⟨#[32]⟩ 0 (min 5 (l.length+1)-1) (bs l)) (min 5 (l.length+1))) 9)).heap[w.heap.size]?=some (.cells (Lib.cellsOf (Lib.splitB ⟨#[32]⟩ 0 (min 5 (l.length+1)-1) (bs l)) (min 5 (l.length+1))) 9 (0,0)):=by show(w.heap.push _)[w.heap.size]?=_;simp
  simp only[World.cell?,this];unfold Lib.cellsOf;simp only[List.getElem?_toArray];rw[jg (by simp;omega),jJ];rfl
 refine⟨w.heap.size,min 5 (l.length+1),by rw[hlen],by omega,⟨by omega,fun hl=>by have:l.length≠0:=fun e=>hl (List.eq_nil_of_length_eq_zero e);omega⟩,by simp,jC _,(Below.refl _ _).alloc (jC _) _,?_,fun h4 j hj=> ?_,⟨_,_,(show(w.heap.push _)[w.heap.size]?=_ from jD)⟩⟩
 ·rw[aQ 0 (by omega)];by_cases hk0:0<min 5 (l.length+1)-1
  ·rw[a2 0 hk0 (by omega)];rfl
  ·have mW:l=[]:=List.eq_nil_of_length_eq_zero (by omega);subst mW;rfl
 ·rw[aQ j (by omega),a3 (by omega),jJ];simp[word,hj]
def ff (w:World)(b:Nat):Prop:=w.heap[b]?=some (.cells #[.int .i64 0,.slice none 0 0] 240 (0,0))
theorem ff.new (w:World):ff (w.alloc (.cells #[.int .i64 0,.slice none 0 0] 240)) w.heap.size:=by
 unfold ff;show(w.heap.push _)[w.heap.size]?=_;simp
theorem ff.lt {w:World}{b:Nat}(h:ff w b):b<w.heap.size:=by
 unfold ff at h;rw[Array.getElem?_eq_some_iff]at h;exact h.1
theorem ff.below {w w':World}{b:Nat}(h:ff w b)(hb:Below w.heap.size w w'):ff w' b:=by
 unfold ff;rw[hb.block b h.lt];exact h
theorem ff.facts {w:World}{b:Nat}(h:ff w b):w.cell? ⟨b,0,none⟩=some (.int .i64 0)/\w.cell? ⟨b,1,none⟩=some (.slice none 0 0)/\w.frozen? ⟨b,0,none⟩=false/\w.frozen? ⟨b,1,none⟩=false:=by
 unfold ff at h;exact⟨by rw[cell_of_heap h];rfl,by rw[cell_of_heap h];rfl,frozen_of_heap h 0,frozen_of_heap h 1⟩
def gU (l:B)(w:World)(e:Ending)(w':World):Prop:=
 Below w.heap.size w w'/\match bW (split 32 l)with
  |none=>e=.returned (.tuple #[.agg #[.int .i64 0,.slice none 0 0],.bool false])
  |some x=>∃v,e=.returned (.tuple #[.agg #[.int .i64 (x.1:Nat),v],.bool true])/\dO w' v x.2
theorem GA {w:World}{b:Nat}(r:ff w b)(x y:Value):((w.setCell ⟨b,0,none⟩ x).setCell ⟨b,1,none⟩ y).rangeAt b 0 [x,y]:=by
 unfold ff at r;have h1:=Go.Proofs.YtmlgajhhnojdjaaGreatDoor.Aux.heap_setCell_same r 0 x;have h2:=Go.Proofs.YtmlgajhhnojdjaaGreatDoor.Aux.heap_setCell_same h1 1 y;intro j v hv;rw[cell_of_heap h2]
 match j,hv with
 |0,hv=>simpa using hv
 |1,hv=>simpa using hv
theorem Et {w w2:World}{b:Nat}(hb:Below w.heap.size w w2)(h:w.heap.size<=b)(x y:Value):Below w.heap.size w ((w2.setCell ⟨b,0,none⟩ x).setCell ⟨b,1,none⟩ y):=by
 refine⟨hb.os,hb.tape,hb.output,by simpa using hb.size,fun k hk=> ?_⟩;rw[Below.heap_setCell _ _ _ _ (by show k≠b;omega),Below.heap_setCell _ _ _ _ (by show k≠b;omega)];exact hb.block k hk
theorem vO:(Tryz.prog.info? 240).map (·.size)=some 2:=by kernel_rfl
theorem pS {l:B}{w w2:World}{tmps:Array Value}{x y:Value}{bl:Bool}(h2:tmps.getD 2 undef=.pointer (some ⟨w.heap.size,0,none⟩))(h3:tmps.getD 3 undef=.bool bl)(r:ff w2 w.heap.size)(hb:Below w.heap.size w w2)
  (P:∀w3,Below w.heap.size w w3->(∀k,k≠w.heap.size->w3.heap[k]?=w2.heap[k]?)->w3.heap.size=w2.heap.size->gU l w (.returned (.tuple #[.agg #[x,y],.bool bl])) w3):
  bodyPost Tryz.prog Tryz.f163 (gU l w) Exit.ret {tmps:=tmps,defers:=[]} ((w2.setCell ⟨w.heap.size,0,none⟩ x).setCell ⟨w.heap.size,1,none⟩ y):=by
 refine bodyPost_ret (iU Tryz.results163 tmps _ _ w.heap.size [x,y] _ h2 (GA r x y) Tryz.underlying240 rfl vO) rfl ?_;rw[h3];refine P _ (Et hb (jC _) x y) (fun k hk=> ?_) (by simp);rw[Below.heap_setCell _ _ _ _ (by show k≠_;exact hk),Below.heap_setCell _ _ _ _ (by show k≠_;exact hk)]
theorem Ji (op:Nat)(h:op<23):dF[op*2+1]?=some (.string (bs (ae op))):=by
 have h:op=0\/op=1\/op=2\/op=3\/op=4\/op=5\/op=6\/op=7\/op=8\/op=9\/op=10\/op=11\/op=12\/op=13\/op=14\/op=15\/op=16\/op=17\/op=18\/op=19\/op=20\/op=21\/op=22:=by omega
 rcases h with rfl|rfl|rfl|rfl|rfl|rfl|rfl|rfl|rfl|rfl|rfl|rfl|rfl|rfl|rfl|rfl|rfl|rfl|rfl|rfl|rfl|rfl|rfl<;>rfl
theorem iu {w:World}(E:Env w)(op:Nat)(h:op<23):w.cell? ⟨0,op*2+1,none⟩=some (.string (bs (ae op))):=by
 have:=E.C8 (op*2+1) (.string (bs (ae op))) (Ji op h);simpa using this
set_option maxRecDepth 20000 in
theorem tO (l:B)(w:World)(h:l.length<=1048576)(E:Env w):
  Calls Tryz.prog 163 #[.string (bs l)] w (gU l w):=by
 have KS:=fun w' (E':Env w')=>C9 l w' h E'
 have E1:=E.on ((Below.refl _ _).alloc (jC _) (.cells #[.int .i64 0,.slice none 0 0] 240));have aB:Below w.heap.size w (w.alloc (.cells #[.int .i64 0,.slice none 0 0] 240)):=(Below.refl _ _).alloc (jC _) _;have mZ:(w.alloc (.cells #[.int .i64 0,.slice none 0 0] 240)).heap.size=w.heap.size+1:=by simp
 have KO:=fun w' (E':Env w')=>IX (word (split 32 l) 0) w' E'.C8
 have h1:=fx 32 l;cases ho:cz (word (split 32 l) 0)with
 |none=>
  have hx:bW (split 32 l)=none:=by rw[bW,ho]
  have P:∀w',Below w.heap.size w w'->gU l w (.returned (.tuple #[.agg #[.int .i64 0,.slice none 0 0],.bool false])) w':=fun w' hb=>⟨hb,by rw[hx]⟩
  rw[ho]at KO;go_enter Tryz.func163,Tryz.ntmps163
  go_wp2_with (first|(go_at_call 195;refine(KS _ E1).mono ?_;rintro e w1 ⟨g,cap,rfl,rX,vq,hg,NR,hb,H6,sW,csg,fg,Ob⟩;have r1:=(ff.new w).below hb)|(go_at_call 196;refine(KO _ (E1.on hb)).mono ?_;rintro e w2 ⟨rfl,bu⟩;obtain⟨rc0,rc1,rf0,rf1⟩:=(r1.below bu).facts))
  refine pS rfl rfl (r1.below bu) ((aB.trans (hb.mono (by omega))).trans (bu.mono ?_)) (fun w3 h3 _ _=>P w3 h3);have:=hb.size;omega
 |some op=>
  have aH:=ij ho;have J0:=qE op aH;rw[ho]at KO;have mW:l≠[]:=by rintro rfl;have:cz (word (split 32 []) 0)=none:=rfl;rw[this]at ho;cases ho
  have Ah:∀j,(word (split 32 l) j).length<=1048576:=fun j=>jS (fX 32 l j) h
  by_cases hlen:(split 32 l).length-1=(ae op).length
  ·have Rf:min 5 (split 32 l).length=(ae op).length+1:=by omega
   have X8:(split 32 l).length<=4:=by omega
   have Q8:(split 32 l).length=(ae op).length+1:=by omega
   rw[Rf]at KS;have hx:Hid (bW (split 32 l)=if aV (ae op) ((split 32 l).drop 1)=true then some (op,(split 32 l).drop 1)else none):=by
    unfold Hid;rw[bW,ho];simp only[hlen,true_and]
   have HF:Hid (aV (ae op) ((split 32 l).drop 1)=aV ((ae op).drop 0) ((split 32 l).drop (0+1))):=rfl;clear Rf hlen;go_enter Tryz.func163,Tryz.ntmps163
   go_wp2_with (first|(go_at_call 195;refine(KS _ E1).mono ?_;rintro e w1 ⟨g,cap,rfl,rX,vq,hg,NR,hb,H6,sW,csg,fg,Ob⟩;have r1:=(ff.new w).below hb;have gK:¬cap=1:=(by have:=vq.2 mW;omega))|(go_at_call 196;refine(KO _ (E1.on hb)).mono ?_;rintro e w2 ⟨rfl,bu⟩;obtain⟨rc0,rc1,rf0,rf1⟩:=(r1.below bu).facts;have vL:=iu ((E1.on hb).on bu) op aH))
   have hB:Below w.heap.size w w2:=(aB.trans (hb.mono (by omega))).trans (bu.mono (by have:=hb.size;omega));have r2:=r1.below bu;have E2:=(E1.on hb).on bu;have H8:∀j,j<(split 32 l).length->w2.cell? ⟨g,j,none⟩=some (.string (bs (word (split 32 l) j))):=fun j hj=>(bu.cell (p:=⟨g,j,none⟩) hg).trans (sW X8 j hj)
   have JT:g<w2.heap.size:=jK hg bu.size;have RF:w2.heap[g]?=some (.cells csg 9 fg):=(bu.block g hg).trans Ob;clear KS KO sW H6 rc0 rc1 rf0 rf1 vL;go_loopw [36] (fun i wr=>∃k:Nat,k<=(ae op).length/\i=.int .i64 k/\Hid (aV (ae op) ((split 32 l).drop 1)=aV ((ae op).drop k) ((split 32 l).drop (k+1)))/\Below w2.heap.size w2 wr) (fun i _=>(ae op).length-(intOf i).toNat)
   case atStart=>exact⟨0,jQ _,rfl,HF,Below.refl _ _⟩
   case round=>
    obtain⟨k,hk,rfl,HI,pw⟩:=hrel;have rr:=r2.below pw;obtain⟨rc0,rc1,rf0,rf1⟩:=rr.facts;have yl:Below w.heap.size w wr:=hB.trans (pw.mono (by have:=hB.size;omega));by_cases aP:k<(ae op).length
    ·have NL:wr.cell? ⟨g,1+k,none⟩=some (.string (bs (word (split 32 l) (k+1)))):=by
      rw[pw.cell (p:=⟨g,1+k,none⟩) JT,Nat.add_comm 1 k];exact H8 (k+1) (by omega)
     have KF:=yB (word (split 32 l) (k+1)) ((ae op)[k]) wr (Ah _) (E2.on pw);have HS:Hid (aV ((ae op).drop k) ((split 32 l).drop (k+1))=(ey (word (split 32 l) (k+1)) (ae op)[k]&&aV ((ae op).drop (k+1)) ((split 32 l).drop (k+2)))):=by
      unfold Hid;rw[jE aP,aV,List.drop_drop];simp[word]
     cases hf:ey (word (split 32 l) (k+1)) (ae op)[k]
     ·rw[hf]at KF;have hn:bW (split 32 l)=none:=by
       rw[hx.out,ja];rw[HI.out,HS.out,hf];simp
      clear hf;go_wp2_with (go_at_call 197;refine KF.mono ?_;rintro e w3 ⟨rfl,dR⟩;obtain⟨sc0,sc1,sf0,sf1⟩:=(rr.below dR).facts)
      refine pS rfl rfl (rr.below dR) (yl.trans (dR.mono (by have:=yl.size;omega))) (fun w4 h4 _ _=>⟨h4,by rw[hn]⟩)
     ·rw[hf]at KF;have E9:Hid (aV ((ae op).drop k) ((split 32 l).drop (k+1))=aV ((ae op).drop (k+1)) ((split 32 l).drop (k+2))):=by
       unfold Hid;rw[HS.out,hf,Bool.true_and]
      clear hf;go_wp2_with (go_at_call 197;refine KF.mono ?_;rintro e w3 ⟨rfl,dR⟩)
      go_roundw
      case rel=>exact⟨k+1,by omega,by go_num,by unfold Hid;rw[HI.out,E9.out],pw.trans (dR.mono pw.size)⟩
      case measure=>simp[intOf];omega
    ·have E9:bW (split 32 l)=some (op,(split 32 l).drop 1):=by
      rw[hx.out,jb];rw[HI.out,show k=(ae op).length by omega,List.drop_length];rfl
     go_wp2
     have QZ:g≠w.heap.size:=by omega
     refine pS rfl rfl rr yl (fun w4 h4 hk4 hz4=>⟨h4,?_⟩);rw[E9];refine⟨_,rfl,g,1,cap-1,?_,?_,?_,fun j hj=> ?_⟩
     ·simp only[List.length_drop,Q8,Nat.add_sub_cancel]
     ·simp only[List.length_drop,Q8,Nat.add_sub_cancel];omega
     ·exact⟨csg,fg,by rw[hk4 g QZ,pw.block g JT];exact RF⟩
     ·simp only[List.length_drop]at hj;have:w4.cell? ⟨g,1+j,none⟩=wr.cell? ⟨g,1+j,none⟩:=by
       simp only[World.cell?,hk4 g QZ]
      rw[this,pw.cell (p:=⟨g,1+j,none⟩) JT,H8 (1+j) (by omega)];simp[word,Nat.add_comm 1 j]
  ·have hx:bW (split 32 l)=none:=by
    rw[bW,ho];simp only[hlen,false_and,if_false]
   have P:∀w',Below w.heap.size w w'->gU l w (.returned (.tuple #[.agg #[.int .i64 0,.slice none 0 0],.bool false])) w':=fun w' hb=>⟨hb,by rw[hx]⟩
   obtain⟨n,hn⟩:∃n,min 5 (split 32 l).length=n+1:=⟨min 5 (split 32 l).length-1,by omega⟩;have c8:¬n=(ae op).length:=by omega
   rw[hn]at KS;have Lg:((n:Int)==((ae op).length:Int))=false:=by rw[jZ];omega
   clear hlen hx hn;go_enter Tryz.func163,Tryz.ntmps163
   go_wp2_with (first|(go_at_call 195;refine(KS _ E1).mono ?_;rintro e w1 ⟨g,cap,rfl,rX,vq,hg,NR,hb,H6,sW,csg,fg,Ob⟩;have r1:=(ff.new w).below hb;have gK:¬cap=1:=(by have:=vq.2 mW;omega))|(go_at_call 196;refine(KO _ (E1.on hb)).mono ?_;rintro e w2 ⟨rfl,bu⟩;obtain⟨rc0,rc1,rf0,rf1⟩:=(r1.below bu).facts;have vL:=iu ((E1.on hb).on bu) op aH))
   refine pS rfl rfl (r1.below bu) ((aB.trans (hb.mono (by omega))).trans (bu.mono ?_)) (fun w3 h3 _ _=>P w3 h3);have:=hb.size;omega
end PrjJ
namespace PrjK
open Go Go.RowKit Sq Aux PrjF PrjG PrjH PrjI PrjJ
structure aW (b:Nat)(w w':World):Prop where
 os:w'.os=w.os
 tape:w'.tape=w.tape
 output:w'.output=w.output
 size:w.heap.size<=w'.heap.size
 block:∀k,k<w.heap.size->k≠b->w'.heap[k]?=w.heap[k]?
theorem aW.refl (b:Nat)(w:World):aW b w w:=⟨rfl,rfl,rfl,jC _,fun _ _ _=>rfl⟩
theorem aW.setCell {b:Nat}{w w':World}(h:aW b w w')(o:Nat)(v:Value):aW b w (w'.setCell ⟨b,o,none⟩ v):=
 ⟨h.os,h.tape,h.output,by simpa using h.size,fun k hk la=>by rw[Below.heap_setCell _ _ _ _ (by show k≠b;exact la)];exact h.block k hk la⟩
theorem aW.on {b:Nat}{w w1 w2:World}(h:aW b w w1)(hb:Below w1.heap.size w1 w2):aW b w w2:=
 ⟨hb.os.trans h.os,hb.tape.trans h.tape,hb.output.trans h.output,jS h.size hb.size,fun k hk la=>(hb.block k (jK hk h.size)).trans (h.block k hk la)⟩
theorem aW.drewN {b:Nat}{w w1:World}(h:aW b w w1)(n:Nat):aW b w (w1.drewN n):=h.on (below_drewN (Below.refl _ _) n)
theorem aW.trans {b:Nat}{w w1 w2:World}(h:aW b w w1)(hb:aW b w1 w2):aW b w w2:=
 ⟨hb.os.trans h.os,hb.tape.trans h.tape,hb.output.trans h.output,jS h.size hb.size,fun k hk la=>(hb.block k (jK hk h.size) la).trans (h.block k hk la)⟩
theorem aW.of {b:Nat}{w w1:World}(h:Below w.heap.size w w1):aW b w w1:=(aW.refl b w).on h
theorem aW.below {b B:Nat}{w w':World}(h:aW b w w')(hB:B<=b)(hb:B<=w.heap.size):Below B w w':=⟨h.os,h.tape,h.output,h.size,fun k hk=>h.block k (by omega) (by omega)⟩
def cj (w:World)(b:Nat)(raw:Bool)(ln mb:Nat)(o:di):Prop:=
 w.heap[b]?=some (.cells #[.bool raw,.int .i64 ln,.int .i64 mb,.int .i64 o.sec,.int .i64 o.locals,.int .i64 o.blocks] 238 (0,0))
theorem cj.facts {w:World}{b:Nat}{raw:Bool}{ln mb:Nat}{o:di}(h:cj w b raw ln mb o):
  w.cell? ⟨b,0,none⟩=some (.bool raw)/\w.cell? ⟨b,1,none⟩=some (.int .i64 ln)/\w.cell? ⟨b,2,none⟩=some (.int .i64 mb)/\w.cell? ⟨b,3,none⟩=some (.int .i64 o.sec)/\w.cell? ⟨b,4,none⟩=some (.int .i64 o.locals)/\w.cell? ⟨b,5,none⟩=some (.int .i64 o.blocks)/\
  w.frozen? ⟨b,3,none⟩=false/\w.frozen? ⟨b,4,none⟩=false/\w.frozen? ⟨b,5,none⟩=false:=by
 unfold cj at h;exact⟨by rw[cell_of_heap h];rfl,by rw[cell_of_heap h];rfl,by rw[cell_of_heap h];rfl,by rw[cell_of_heap h];rfl,by rw[cell_of_heap h];rfl,by rw[cell_of_heap h];rfl,frozen_of_heap h 3,frozen_of_heap h 4,frozen_of_heap h 5⟩
theorem cj.below {w w':World}{b:Nat}{raw:Bool}{ln mb:Nat}{o:di}(h:cj w b raw ln mb o){B:Nat}(hb:Below B w w')(hB:b<B):cj w' b raw ln mb o:=by
 unfold cj;rw[hb.block b hB];exact h
theorem cj.drewN {w:World}{b:Nat}{raw:Bool}{ln mb:Nat}{o:di}(h:cj w b raw ln mb o)(n:Nat):cj (w.drewN n) b raw ln mb o:=h
theorem cj.set {w:World}{b:Nat}{raw:Bool}{ln mb:Nat}{o:di}(h:cj w b raw ln mb o):
  (∀n:Nat,cj (w.setCell ⟨b,3,none⟩ (.int .i64 n)) b raw ln mb ⟨n,o.locals,o.blocks⟩)/\(∀n:Nat,cj (w.setCell ⟨b,4,none⟩ (.int .i64 n)) b raw ln mb ⟨o.sec,n,o.blocks⟩)/\(∀n:Nat,cj (w.setCell ⟨b,5,none⟩ (.int .i64 n)) b raw ln mb ⟨o.sec,o.locals,n⟩):=by
 unfold cj at h⊢;exact⟨fun n=>by rw[Go.Proofs.YtmlgajhhnojdjaaGreatDoor.Aux.heap_setCell_same h 3];rfl,fun n=>by rw[Go.Proofs.YtmlgajhhnojdjaaGreatDoor.Aux.heap_setCell_same h 4];rfl,fun n=>by rw[Go.Proofs.YtmlgajhhnojdjaaGreatDoor.Aux.heap_setCell_same h 5];rfl⟩
theorem Kx (raw:Bool)(ln mb op:Nat)(w:World):
  Calls Tryz.prog 198 #[.agg #[.bool raw,.int .i64 ln,.int .i64 mb],.int .i64 op] w fun e w'=>e=.returned (.bool (fK raw op))/\Below w.heap.size w w':=by
 have hb:Below w.heap.size w (w.alloc (.cells #[.bool raw,.int .i64 ln,.int .i64 mb] 130)):=(Below.refl _ _).alloc (jC _) _;have hx:op=15\/op=16\/op=17\/op=21\/(¬op=15/\¬op=16/\¬op=17/\¬op=21):=by omega
 rcases hx with rfl|rfl|rfl|rfl|⟨h1,h2,h3,h4⟩
 iterate 4
  ·go_enter Tryz.func198,Tryz.ntmps198
   go_wp2
   go_ret
   exact⟨rfl,hb⟩
 ·have hh:fK raw op=true:=by simp[fK,h1,h2,h3,h4]
  have b1:((op:Int)==15)=false:=by rw[jZ];omega
  have b2:((op:Int)==16)=false:=by rw[jZ];omega
  have b3:((op:Int)==17)=false:=by rw[jZ];omega
  have b4:((op:Int)==21)=false:=by rw[jZ];omega
  rw[hh];clear h1 h2 h3 h4 hh;go_enter Tryz.func198,Tryz.ntmps198
  go_wp2
  go_ret
  exact⟨rfl,hb⟩
theorem Jr (op:Nat)(w:World):
  Calls Tryz.prog 199 #[.int .i64 op] w fun e w'=>e=.returned (.bool (decide (18<=op)))/\w'=w:=by
 by_cases h:18<=op
 all_goals
  go_enter Tryz.func199,Tryz.ntmps199
  go_wp2
  go_ret
  exact⟨by first|(simp[h];done)|(simp[h];omega),rfl⟩
def dA (raw:Bool)(ln mb b op:Nat)(o:di)(w:World)(e:Ending)(w':World):Prop:=
 e=.returned (.bool (aq raw o op).2)/\cj w' b raw ln mb (aq raw o op).1/\aW b w w'
set_option maxRecDepth 20000 in
theorem BS (raw:Bool)(ln b op:Nat)(o:di)(w:World)(h:cj w b raw ln (if raw then 2000 else 20) o)(aH:op<23)(hl:o.locals<=100000)(Sp:o.blocks<=100000)(aP:b<w.heap.size):
  Calls Tryz.prog 164 #[.pointer (some ⟨b,0,none⟩),.int .i64 op] w (dA raw ln (if raw then 2000 else 20) b op o w):=by
 have KH:=fun w'=>Kx raw ln (if raw then 2000 else 20) op w'
 obtain⟨c0,c1,c2,c3,c4,c5,f3,f4,f5⟩:=h.facts;by_cases hh:fK raw op=false
 ·have e:aq raw o op=(o,false):=by rw[aq,jb hh]
  have P:∀w',Below w.heap.size w w'->dA raw ln (if raw then 2000 else 20) b op o w (.returned (.bool false)) w':=fun w' hb=>⟨by rw[e],by rw[e];exact h.below hb aP,aW.of hb⟩
  rw[hh]at KH;clear e hh;generalize (if raw then 2000 else 20:Nat)=mb at*;go_enter Tryz.func164,Tryz.ntmps164
  go_wp2_with (go_at_call 198;refine(KH _).mono ?_;rintro e w1 ⟨rfl,hb⟩)
  go_ret
  exact P _ hb
 ·rw[Bool.not_eq_false]at hh;have e0:aq raw o op=if op=0 then(⟨o.sec,o.locals+1,o.blocks⟩,o.sec==0&&decide (o.locals+1<=12))
    else if op=1 then(⟨1,o.locals,o.blocks+1⟩,decide (0<o.locals)&& !(o.sec==1)&&decide (o.blocks+1<=if raw then 2000 else 20))
    else if¬o.sec=1 then(o,false)else if 18<=op then(⟨2,o.locals,o.blocks⟩,true)else(o,true):=by
   rw[aq,ja (by simp[hh])]
  rw[hh]at KH;clear hh;by_cases h0:op=0
  ·rw[jb h0]at e0;have Ux:((op:Int)==0)=true:=by simp[h0]
   have P:∀(bl:Bool) w',bl=(o.sec==0&&decide (o.locals+1<=12))->cj w' b raw ln (if raw then 2000 else 20) ⟨o.sec,o.locals+1,o.blocks⟩->aW b w w'->dA raw ln (if raw then 2000 else 20) b op o w (.returned (.bool bl)) w':=fun bl w' mO ho hb=>⟨by rw[e0,mO],by rw[e0];exact ho,hb⟩
   clear e0 h0;generalize (if raw then 2000 else 20:Nat)=mb at*;by_cases GO:o.sec=0
   ·have hs:((o.sec:Int)==0)=true:=by simp[GO]
    by_cases oE:o.locals+1<=12
    all_goals
     go_enter Tryz.func164,Tryz.ntmps164
     go_wp2_with (go_at_call 198;refine(KH _).mono ?_;rintro e w1 ⟨rfl,hb⟩;have h1:=h.below hb aP;obtain⟨d0,d1,d2,d3,d4,d5,g3,g4,g5⟩:=h1.facts)
     go_ret
     exact P _ _ (by first|(simp[GO,oE];done)|(simp[GO,oE];omega)) (h1.set.2.1 (o.locals+1)) ((aW.of hb).setCell 4 _)
   ·have hs:((o.sec:Int)==0)=false:=by rw[jZ];omega
    go_enter Tryz.func164,Tryz.ntmps164
    go_wp2_with (go_at_call 198;refine(KH _).mono ?_;rintro e w1 ⟨rfl,hb⟩;have h1:=h.below hb aP;obtain⟨d0,d1,d2,d3,d4,d5,g3,g4,g5⟩:=h1.facts)
    go_ret
    exact P _ _ (by first|(simp[GO];done)|(simp[GO];omega)) (h1.set.2.1 (o.locals+1)) ((aW.of hb).setCell 4 _)
  ·rw[ja h0]at e0;have Ux:((op:Int)==0)=false:=by rw[jZ];omega
   by_cases h1:op=1
   ·rw[jb h1]at e0;have Rn:((op:Int)==1)=true:=by simp[h1]
    have P:∀(bl:Bool) w',bl=(decide (0<o.locals)&& !(o.sec==1)&&decide (o.blocks+1<=if raw then 2000 else 20))->cj w' b raw ln (if raw then 2000 else 20) ⟨1,o.locals,o.blocks+1⟩->aW b w w'->dA raw ln (if raw then 2000 else 20) b op o w (.returned (.bool bl)) w':=fun bl w' mO ho hb=>⟨by rw[e0,mO],by rw[e0];exact ho,hb⟩
    clear e0 h0 h1;generalize (if raw then 2000 else 20:Nat)=mb at*;by_cases mW:0<o.locals
    ·by_cases mZ:o.sec=1
     ·have hs:((o.sec:Int)==1)=true:=by simp[mZ]
      go_enter Tryz.func164,Tryz.ntmps164
      go_wp2_with (go_at_call 198;refine(KH _).mono ?_;rintro e w1 ⟨rfl,hb⟩;have h1:=h.below hb aP;obtain⟨d0,d1,d2,d3,d4,d5,g3,g4,g5⟩:=h1.facts)
      go_quiet (fail)
      go_wp2
      go_ret
      exact P _ _ (by first|(simp[mZ];done)|(simp[mZ];omega)) (((h1.set.1 1).set.2.2 (o.blocks+1)).drewN nq) ((((aW.of hb).setCell 3 _).setCell 5 _).drewN nq)
     ·have hs:((o.sec:Int)==1)=false:=by rw[jZ];omega
      have RB:((o.sec:Int) !=1)=true:=by rw[bne,hs];rfl
      by_cases Le:o.blocks+1<=mb
      all_goals
       go_enter Tryz.func164,Tryz.ntmps164
       go_wp2_with (go_at_call 198;refine(KH _).mono ?_;rintro e w1 ⟨rfl,hb⟩;have h1:=h.below hb aP;obtain⟨d0,d1,d2,d3,d4,d5,g3,g4,g5⟩:=h1.facts)
       have hO:cj ((w1.setCell ⟨b,3,none⟩ (.int .i64 1)).setCell ⟨b,5,none⟩ (.int .i64 ((o.blocks:Int)+1))) b raw ln mb ⟨1,o.locals,o.blocks+1⟩:=(h1.set.1 1).set.2.2 (o.blocks+1);have hT:aW b w ((w1.setCell ⟨b,3,none⟩ (.int .i64 1)).setCell ⟨b,5,none⟩ (.int .i64 ((o.blocks:Int)+1))):=((aW.of hb).setCell 3 _).setCell 5 _;generalize ((w1.setCell ⟨b,3,none⟩ (.int .i64 1)).setCell ⟨b,5,none⟩ (.int .i64 ((o.blocks:Int)+1)))=W at hO hT⊢;clear d0 d1 d2 d3 d4 d5 g3 g4 g5 c0 c1 c2 c3 c4 c5 f3 f4 f5;obtain⟨d0,d1,d2,d3,d4,d5,g3,g4,g5⟩:=hO.facts;simp only[Int.natCast_add,Int.cast_ofNat_Int]at d5;go_quiet (fail)
       go_wp2
       go_ret
       exact P _ _ (by rw[show(o.sec==1)=false by simpa using mZ,decide_eq_true mW,jX];simp only[Bool.true_and,Bool.not_false,decide_eq_true_eq];omega) (hO.drewN nq) (hT.drewN nq)
    ·go_enter Tryz.func164,Tryz.ntmps164
     go_wp2_with (go_at_call 198;refine(KH _).mono ?_;rintro e w1 ⟨rfl,hb⟩;have h1:=h.below hb aP;obtain⟨d0,d1,d2,d3,d4,d5,g3,g4,g5⟩:=h1.facts)
     go_quiet (fail)
     go_wp2
     go_ret
     exact P _ _ (by first|(simp[mW];done)|(simp[mW];omega)) (((h1.set.1 1).set.2.2 (o.blocks+1)).drewN nq) ((((aW.of hb).setCell 3 _).setCell 5 _).drewN nq)
   ·rw[ja h1]at e0;have Rn:((op:Int)==1)=false:=by rw[jZ];omega
    by_cases mZ:o.sec=1
    ·rw[ja (by simp[mZ])]at e0;have hs:((o.sec:Int)==1)=true:=by simp[mZ]
     have KT:=fun w'=>Jr op w'
     by_cases iN:18<=op
     ·rw[jb iN]at e0;have P:∀w',cj w' b raw ln (if raw then 2000 else 20) ⟨2,o.locals,o.blocks⟩->aW b w w'->dA raw ln (if raw then 2000 else 20) b op o w (.returned (.bool true)) w':=fun w' ho hb=>⟨by rw[e0],by rw[e0];exact ho,hb⟩
      have hd:decide (18<=op)=true:=by simp[iN]
      rw[hd]at KT;clear e0 h0 h1 mZ hd;generalize (if raw then 2000 else 20:Nat)=mb at*;go_enter Tryz.func164,Tryz.ntmps164
      go_wp2_with (first|(go_at_call 198;refine(KH _).mono ?_;rintro e w1 ⟨rfl,hb⟩;have h1:=h.below hb aP;obtain⟨d0,d1,d2,d3,d4,d5,g3,g4,g5⟩:=h1.facts)|(go_at_call 199;refine(KT _).mono ?_;rintro e w2 ⟨rfl,rfl⟩))
      go_ret
      exact P _ (h1.set.1 2) ((aW.of hb).setCell 3 _)
     ·rw[ja iN]at e0;have P:∀w',cj w' b raw ln (if raw then 2000 else 20) o->aW b w w'->dA raw ln (if raw then 2000 else 20) b op o w (.returned (.bool true)) w':=fun w' ho hb=>⟨by rw[e0],by rw[e0];exact ho,hb⟩
      have hd:decide (18<=op)=false:=by simp;omega
      rw[hd]at KT;clear e0 h0 h1 mZ hd;generalize (if raw then 2000 else 20:Nat)=mb at*;go_enter Tryz.func164,Tryz.ntmps164
      go_wp2_with (first|(go_at_call 198;refine(KH _).mono ?_;rintro e w1 ⟨rfl,hb⟩;have h1:=h.below hb aP;obtain⟨d0,d1,d2,d3,d4,d5,g3,g4,g5⟩:=h1.facts)|(go_at_call 199;refine(KT _).mono ?_;rintro e w2 ⟨rfl,rfl⟩))
      go_ret
      exact P _ h1 (aW.of hb)
    ·rw[jb mZ]at e0;have hs:((o.sec:Int)==1)=false:=by rw[jZ];omega
     have P:∀w',cj w' b raw ln (if raw then 2000 else 20) o->aW b w w'->dA raw ln (if raw then 2000 else 20) b op o w (.returned (.bool false)) w':=fun w' ho hb=>⟨by rw[e0],by rw[e0];exact ho,hb⟩
     clear e0 h0 h1 mZ;generalize (if raw then 2000 else 20:Nat)=mb at*;go_enter Tryz.func164,Tryz.ntmps164
     go_wp2_with (go_at_call 198;refine(KH _).mono ?_;rintro e w1 ⟨rfl,hb⟩;have h1:=h.below hb aP;obtain⟨d0,d1,d2,d3,d4,d5,g3,g4,g5⟩:=h1.facts)
     go_ret
     exact P _ h1 (aW.of hb)
theorem Hg (raw:Bool)(ln mb b:Nat)(o:di)(w:World)(h:cj w b raw ln mb o):
  Calls Tryz.prog 165 #[.pointer (some ⟨b,0,none⟩)] w fun e w'=>e=.returned (.bool (decide (o.sec=2)))/\w'=w:=by
 obtain⟨c0,c1,c2,c3,c4,c5,f3,f4,f5⟩:=h.facts;go_enter Tryz.func165,Tryz.ntmps165
 go_wp2
 go_ret
 refine⟨?_,rfl⟩;rw[show(decide (o.sec=2))=((o.sec:Int)==2)from ?_]
 ·rfl
 ·rw[jX];simp;omega
end PrjK
end Go.Proofs.YtmlgajhhnojdjaaGreatDoor

import Derived.Deep.RegionHeld3
import Derived.Lib.ItoaLen
import Derived.Test.YtmlgajhhnojdjaaGreatDoorRAP
import Derived.Deep.DeepFit
namespace Go.Proofs.YtmlgajhhnojdjaaGreatDoor
namespace Own
open Go Go.RowKit Sq Aux PrjJ PrjK PrjL PrjM
def Pow (w:World):Prop:=Lib.TabIs Tryz.prog w "internal/strconv.uint64pow10" .u64 Lib.pow10Tab
structure Yd where
 made:List (Int×Bool)
 live:Int
 trace:List B
def Yd.note (y:Yd)(c:UInt8)(n:Int):Yd:={y with trace:=y.trace++[c::Lib.itoa n]}
def px (x:Int×Bool):List Value:=[.int .i64 x.1,.bool x.2]
def bG (l:List (Int×Bool)):List Value:=l.flatMap px
def xo (l:List B):List Value:=l.map fun b=> .string (bs b)
def EC (t:TypeId):Prop:=t=104\/t=136
structure oA (z x:Nat)(t:TypeId)(rest:List Value)(w:World)(y:Yd)(vm vt:Value):Prop where
 base:z<=x
 ty:EC t
 aI:w.heap[x]?=some (.cells (vm:: .int .i64 y.live::vt::rest).toArray t (0,0))
 made:w.ownsRow z 175 2 vm y.made.length (bG y.made)
 trace:w.ownsRow z 9 1 vt y.trace.length (xo y.trace)
structure aM (x:Nat)(vm vt:Value)(w:World)(vm' vt':Value)(w':World):Prop where
 os:w'.os=w.os
 tape:w'.tape=w.tape
 output:w'.output=w.output
 size:w.heap.size<=w'.heap.size
 block:∀k,k<w.heap.size->k≠x->vm.ownBlock≠some k->vt.ownBlock≠some k->w'.heap[k]?=w.heap[k]?
 fm:∀b,vm'.ownBlock=some b->vm.ownBlock=some b\/w.heap.size<=b
 ft:∀b,vt'.ownBlock=some b->vt.ownBlock=some b\/w.heap.size<=b
section
variable {z x:Nat} {t:TypeId} {rest:List Value} {w w1 w2 w3:World} {y:Yd} {vm vt vm1 vt1 vm2 vt2 v':Value}
theorem aM.refl (x:Nat)(vm vt:Value)(w:World):aM x vm vt w vm vt w:=⟨rfl,rfl,rfl,jC _,fun _ _ _ _ _=>rfl,fun _ h=> .inl h,fun _ h=> .inl h⟩
theorem aM.trans (h:aM x vm vt w vm1 vt1 w1)(h':aM x vm1 vt1 w1 vm2 vt2 w2):aM x vm vt w vm2 vt2 w2:=by
 refine⟨h'.os.trans h.os,h'.tape.trans h.tape,h'.output.trans h.output,jS h.size h'.size,fun k hk h1 h2 h3=> ?_,fun b hb=> ?_,fun b hb=> ?_⟩
 ·refine(h'.block k (jK hk h.size) h1 (fun e=> ?_) (fun e=> ?_)).trans (h.block k hk h1 h2 h3)
  ·rcases h.fm k e with e'|e'
   ·exact h2 e'
   ·omega
  ·rcases h.ft k e with e'|e'
   ·exact h3 e'
   ·omega
 ·rcases h'.fm b hb with e|e
  ·exact h.fm b e
  ·exact .inr (jS h.size e)
 ·rcases h'.ft b hb with e|e
  ·exact h.ft b e
  ·exact .inr (jS h.size e)
theorem aM.of (h:Below w.heap.size w w1):aM x vm vt w vm vt w1:=⟨h.os,h.tape,h.output,h.size,fun k hk _ _ _=>h.block k hk,fun _ h=> .inl h,fun _ h=> .inl h⟩
theorem oA.lt (h:oA z x t rest w y vm vt):x<w.heap.size:=lt_of_heap h.aI
theorem oA.below (h:oA z x t rest w y vm vt)(hb:Below w.heap.size w w1):oA z x t rest w1 y vm vt:=
 ⟨h.base,h.ty,by rw[hb.block x h.lt];exact h.aI,ax h.made hb,ax h.trace hb⟩
theorem EC.ne (h:EC t):175≠t/\9≠t:=by
 rcases h with rfl|rfl<;>decide
theorem aM.below (h:aM x vm vt w vm1 vt1 w1)(hy:oA z x t rest w y vm vt){b:Nat}(hb:b<=z)(hs:b<=w.heap.size):Below b w w1:=by
 refine⟨h.os,h.tape,h.output,h.size,fun k hk=>h.block k (by omega) (by have:=hy.base;omega) (fun e=> ?_) (fun e=> ?_)⟩
 ·have:=(hy.made.lt k e).1;omega
 ·have:=(hy.trace.lt k e).1;omega
theorem oA.facts (h:oA z x t rest w y vm vt):w.cell? ⟨x,0,none⟩=some vm/\w.cell? ⟨x,1,none⟩=some (.int .i64 y.live)/\w.cell? ⟨x,2,none⟩=some vt/\w.frozen? ⟨x,0,none⟩=false/\w.frozen? ⟨x,1,none⟩=false/\w.frozen? ⟨x,2,none⟩=false:=
 ⟨by rw[cell_of_heap h.aI];simp,by rw[cell_of_heap h.aI];simp,by rw[cell_of_heap h.aI];simp,frozen_of_heap h.aI 0,frozen_of_heap h.aI 1,frozen_of_heap h.aI 2⟩
theorem oA.noted (h:oA z x t rest w y vm vt)(h2:Below w.heap.size w w2){l:B}(h3:w3.ownsRow z 9 1 v' (y.trace.length+1) (xo y.trace++[.string (bs l)]))(hg:w2.grownBy w3 vt.ownBlock)
  (hf:∀b,v'.ownBlock=some b->vt.ownBlock=some b\/w2.heap.size<=b):
  oA z x t rest (w3.setCell ⟨x,2,none⟩ v') {y with trace:=y.trace++[l]} vm v'/\aM x vm vt w vm v' (w3.setCell ⟨x,2,none⟩ v'):=by
 have H:=h.below h2;obtain⟨n1,n2⟩:=h.ty.ne;have ea:some x≠vt.ownBlock:=bh H.trace H.aI n2;have bU:w3.heap[x]?=some (.cells (vm:: .int .i64 y.live::vt::rest).toArray t (0,0)):=by rw[hg.block x H.lt ea];exact H.aI
 have hm:=H.made.kept hg (cZ H.made H.trace (by decide));refine⟨⟨h.base,h.ty,?_,au hm _ (ar hm bU n1),?_⟩,?_⟩
 ·rw[Aux.heap_setCell_same bU];simp
 ·have:=au h3 (a:=⟨x,2,none⟩) v' (ar h3 bU n2);simpa [xo]using this
 ·refine⟨hg.os.trans h2.os,hg.tape.trans h2.tape,hg.output.trans h2.output,by simpa using jS h2.size hg.size,fun k hk h1 Oh Ol=> ?_,fun _ h=> .inl h,fun b hb=> ?_⟩
  ·rw[Below.heap_setCell _ _ _ _ (by show k≠x;exact h1),hg.block k (jK hk h2.size) (fun e=>Ol e.symm)];exact h2.block k hk
  ·rcases hf b hb with e|e
   ·exact .inl e
   ·exact .inr (jS h2.size e)
theorem JK (k:Nat)(os:Array Obj)(w:World):Below w.heap.size w (Go.Sort.grow (w.drewN k) os):=by
 have hd:=below_drewN (Below.refl w.heap.size w) k;refine⟨hd.os,hd.tape,hd.output,?_,fun j hj=> ?_⟩
 ·show w.heap.size<=((w.drewN k).heap++os).size
  rw[Array.size_append];have:=hd.size;omega
 ·show((w.drewN k).heap++os)[j]?=_
  rw[Array.getElem?_append_left (by have:=hd.size;omega)];exact hd.block j hj
theorem RW:(Tryz.prog.info? 9).map (fun i=>(i.zero,i.size,i.bytes))=some (some (.string ⟨#[]⟩),1,16):=by kernel_rfl
theorem RU:(Tryz.prog.info? 175).map (fun i=>(i.zero,i.size,i.bytes))=some (some (.agg #[.int .i64 0,.bool false]),2,16):=by kernel_rfl
theorem S2:Tryz.prog.globalNamed "internal/strconv.uint64pow10" =some 4:=by kernel_rfl
theorem Pow.below (h:Pow w){b:Nat}(hb:Below b w w1)(hs:11<=b):Pow w1:=by
 unfold Pow Lib.TabIs World.var? at h⊢;rw[S2]at h⊢;simp only[Option.bind_some]at h⊢;rw[hb.block _ (jK (by decide) hs)];exact h
set_option maxRecDepth 20000 in
set_option maxHeartbeats 2000000 in
theorem ga (h:oA z x t rest w y vm vt)(c:UInt8)(n:Int)(hn: -9223372036854775808<=n/\n<=9223372036854775807)(hp:Pow w)(hl:y.trace.length<=10000000):
  Calls Tryz.prog 98 #[.pointer (some ⟨x,0,none⟩),.string (bs [c]),.int .i64 n] w fun e w'=>∃vt',e=.returned (.tuple #[])/\oA z x t rest w' (y.note c n) vm vt'/\aM x vm vt w vm vt' w':=by
 obtain⟨c0,c1,c2,f0,f1,f2⟩:=h.facts;obtain⟨i,hi,A0,Ey,xW⟩:=info_parts RW;have hil:(Lib.itoa n).length<=21:=Lib.itoa_length_le n hn.1 hn.2;have hov:¬9223372036854775807<1+(Lib.itoa n).length:=by omega
 have KF:=fun w' (hp:Pow w')=>Tryz.strconv_FormatInt_10 n hn.1 hn.2 w' hp
 go_enter Tryz.func98,Tryz.ntmps98
 go_region_law (first
  |(go_simp;go_at_call 133;refine(KF w.drew hp).mono ?_;rintro e w1 ⟨rfl,hk⟩;have av:Below w.heap.size w w1:=(by obtain⟨k,os,rfl⟩:=hk;have hb:=JK k os w.drew;exact⟨hb.os,hb.tape,hb.output,hb.size,hb.block⟩);clear hk;have H1:=h.below av;obtain⟨d0,d1,d2,g0,g1,g2⟩:=H1.facts;have aX:Below w1.heap.size w1 (w1.alloc (.cells #[.string (bs [c]++⟨(Lib.itoa n).toArray⟩)] 9)):=(Below.refl _ _).alloc (jC _) _;have HA:=H1.below aX;obtain⟨a0,a1,a2,b0,b1,b2⟩:=HA.facts;have qt:z<=(w1.alloc (.cells #[.string (bs [c]++⟨(Lib.itoa n).toArray⟩)] 9)).heap.size:=(by have:=HA.lt;have:=HA.base;omega))
  |(refine rB (by rfl) _ _ _ (by rfl) z 9 i (.string ⟨#[]⟩) 1 16 Tryz.underlying34 hi A0 Ey xW (by rfl) (by decide) vt _ _ (by rfl) HA.trace w1.heap.size [.string (bs [c]++⟨(Lib.itoa n).toArray⟩)] (by rfl) jD (by rfl) (by intro u' hu;simp at hu;subst hu;rfl) (by decide) (by omega) qt ?_;intro g4 c4 w4 hown4 hgrow4 hat4 hlt4;have gJ:w4.heap[x]?=_:=(hgrow4.block _ HA.lt (bh HA.trace HA.aI HA.ty.ne.2)).trans HA.aI;have r2:w4.cell? ⟨x,2,none⟩=some vt:=(by rw[cell_of_heap gJ];simp);have rf2:w4.frozen? ⟨x,2,none⟩=false:=frozen_of_heap gJ 2))
 all_goals go_wp2_with fail
 all_goals
  go_end0
  have e:bs [c]++⟨(Lib.itoa n).toArray⟩=bs (c::Lib.itoa n):=AE (by rw[eI,aD];simp[ByteArray.toList_eq]);rw[e]at hown4;obtain⟨h5,h6⟩:=h.noted (av.trans (aX.mono av.size)) hown4 hgrow4 (fun b hb=>by
   simp only[Value.ownBlock,Option.some.injEq]at hb;subst hb;rcases hat4 with e|e
   ·exact .inl e
   ·exact .inr (by omega))
  exact⟨_,rfl,h5,h6⟩
end
end Own
namespace Own
open Go Go.RowKit Sq Aux PrjJ PrjK PrjL PrjM
def Yd.build (y:Yd)(v:Int):Yd:=Yd.note {y with made:=y.made++[(v,true)],live:=y.live+1} 43 ((y.made.length+1:Nat):Int)
def Yd.at (y:Yd)(n:Nat):Int×Bool:=y.made.getD (n-1) (0,false)
def Yd.free (y:Yd)(n:Nat):Yd:=Yd.note {y with made:=y.made.set (n-1) ((y.at n).1,false),live:=y.live-1} 45 ((n:Nat):Int)
def Yd.load (y:Yd)(n:Nat):Yd:=y.note 60 ((n:Nat):Int)
def Yd.store (y:Yd)(n:Nat)(v:Int):Yd:={y.note 62 ((n:Nat):Int)with made:=y.made.set (n-1) (v,(y.at n).2)}
theorem Ra {v:Value}{g n k c:Nat}(h:v.ownBlock=some g\/g=n):∀b,(Value.slice (some ⟨g,0,none⟩) k c).ownBlock=some b->v.ownBlock=some b\/n<=b:=fun b hb=>by
 simp only[Value.ownBlock,Option.some.injEq]at hb;subst hb;rcases h with e|e
 ·exact .inl e
 ·exact .inr (by omega)
theorem MC (x:Int×Bool):(px x).length=2:=rfl
theorem zE (l:List (Int×Bool))(j:Nat)(hj:j<l.length):(bG l)[j*2]?=some (.int .i64 (l.getD j (0,false)).1)/\(bG l)[j*2+1]?=some (.bool (l.getD j (0,false)).2):=by
 have h0:=jm px 2 MC l j 0 (by decide);have h1:=jm px 2 MC l j 1 (by decide);rw[jB hj]at h0 h1;have e:l.getD j (0,false)=l[j]:=by simp[hj]
 rw[e];exact⟨h0,h1⟩
theorem vd:∀(l:List (Int×Bool)) (j:Nat) (x:Int×Bool),bG (l.set j x)=if j<l.length then((bG l).set (j*2) (.int .i64 x.1)).set (j*2+1) (.bool x.2)else bG l
 |[],j,x=>by simp[bG]
 |b::l,0,x=>by simp[bG,px]
 |b::l,j+1,x=>by
  have ih:=vd l j x;have e:bG (b::l)=.int .i64 b.1:: .bool b.2::bG l:=rfl;have e2:bG ((b::l).set (j+1) x)=.int .i64 b.1:: .bool b.2::bG (l.set j x):=rfl;rw[e2,ih,e];by_cases hj:j<l.length
  ·rw[jb hj,jb (by simp;omega),show(j+1)*2=j*2+1+1 by omega];rfl
  ·rw[ja hj,ja (by simp;omega)]
theorem xh {l:List Value}{j:Nat}{v:Value}(h:l[j]?=some v):l.set j v=l:=by
 apply List.ext_getElem?
 intro k;rw[jd];by_cases hk:j=k
 ·subst hk;rw[jb rfl,h];split
  ·rfl
  ·rename_i hn;rw[jG (by omega)]at h;cases h
 ·rw[ja hk]
section
variable {z x:Nat} {t:TypeId} {rest:List Value} {w w1 w2 w3:World} {y:Yd} {vm vt v':Value}
theorem oA.Ng (h:oA z x t rest w y vm vt)(k:Int):oA z x t rest (w.setCell ⟨x,1,none⟩ (.int .i64 k)) {y with live:=k} vm vt/\aM x vm vt w vm vt (w.setCell ⟨x,1,none⟩ (.int .i64 k)):=by
 obtain⟨n1,n2⟩:=h.ty.ne;refine⟨⟨h.base,h.ty,?_,au h.made _ (ar h.made h.aI n1),au h.trace _ (ar h.trace h.aI n2)⟩,⟨rfl,rfl,rfl,by simp,fun j _ h1 _ _=>Below.heap_setCell _ _ _ _ (by show j≠x;exact h1),fun _ h=> .inl h,fun _ h=> .inl h⟩⟩;rw[Aux.heap_setCell_same h.aI];simp
theorem oA.Jy (h:oA z x t rest w y vm vt)(h2:Below w.heap.size w w2){b:Int×Bool}(h3:w3.ownsRow z 175 2 v' (y.made.length+1) (bG y.made++px b))(hg:w2.grownBy w3 vm.ownBlock)
  (hf:∀b,v'.ownBlock=some b->vm.ownBlock=some b\/w2.heap.size<=b):
  oA z x t rest (w3.setCell ⟨x,0,none⟩ v') {y with made:=y.made++[b]} v' vt/\aM x vm vt w v' vt (w3.setCell ⟨x,0,none⟩ v'):=by
 have H:=h.below h2;obtain⟨n1,n2⟩:=h.ty.ne;have ea:some x≠vm.ownBlock:=bh H.made H.aI n1;have bU:w3.heap[x]?=some (.cells (vm:: .int .i64 y.live::vt::rest).toArray t (0,0)):=by rw[hg.block x H.lt ea];exact H.aI
 have hm:=H.trace.kept hg (cZ H.trace H.made (by decide));refine⟨⟨h.base,h.ty,?_,?_,au hm _ (ar hm bU n2)⟩,?_⟩
 ·rw[Aux.heap_setCell_same bU];simp
 ·have:=au h3 (a:=⟨x,0,none⟩) v' (ar h3 bU n1);simpa [bG]using this
 ·refine⟨hg.os.trans h2.os,hg.tape.trans h2.tape,hg.output.trans h2.output,by simpa using jS h2.size hg.size,fun k hk h1 Oh Ol=> ?_,fun b hb=> ?_,fun _ h=> .inl h⟩
  ·rw[Below.heap_setCell _ _ _ _ (by show k≠x;exact h1),hg.block k (jK hk h2.size) (fun e=>Oh e.symm)];exact h2.block k hk
  ·rcases hf b hb with e|e
   ·exact .inl e
   ·exact .inr (jS h2.size e)
theorem oA.box (h:oA z x t rest w y vm vt){n:Nat}(h1:1<=n)(hn:n<=y.made.length):∃g cap,vm=.slice (some ⟨g,0,none⟩) y.made.length cap/\y.made.length<=cap/\g<w.heap.size/\w.cell? ⟨g,(n-1)*2,none⟩=some (.int .i64 (y.at n).1)/\w.cell? ⟨g,(n-1)*2+1,none⟩=some (.bool (y.at n).2)/\
  w.frozen? ⟨g,(n-1)*2,none⟩=false/\w.frozen? ⟨g,(n-1)*2+1,none⟩=false:=by
 obtain⟨g,cap,rfl,hc,hg,aC⟩:=dJ h.made (by omega);obtain⟨b0,b1⟩:=zE y.made (n-1) (by omega);exact⟨g,cap,rfl,hc,hg,by rw[aC _ (by omega)];exact b0,by rw[aC _ (by omega)];exact b1,h.made.frozenAt _,h.made.frozenAt _⟩
theorem oA.Zh {g k cap:Nat}(h:oA z x t rest w y (.slice (some ⟨g,0,none⟩) k cap) vt){n:Nat}(h1:1<=n)(hn:n<=y.made.length):w.cell? ⟨g,(n-1)*2,none⟩=some (.int .i64 (y.at n).1)/\w.cell? ⟨g,(n-1)*2+1,none⟩=some (.bool (y.at n).2)/\
  w.frozen? ⟨g,(n-1)*2,none⟩=false/\w.frozen? ⟨g,(n-1)*2+1,none⟩=false:=by
 obtain⟨g',cap',e,-,-,a1,a2,a3,a4⟩:=h.box h1 hn;simp only[Value.slice.injEq,Option.some.injEq,Addr.mk.injEq,and_true]at e;obtain⟨rfl,-,-⟩:=e;exact⟨a1,a2,a3,a4⟩
theorem oA.tE {g cap:Nat}(h:oA z x t rest w y (.slice (some ⟨g,0,none⟩) y.made.length cap) vt){n:Nat}(h1:1<=n)(hn:n<=y.made.length):
  (∀v:Int,oA z x t rest (w.setCell ⟨g,(n-1)*2,none⟩ (.int .i64 v)) {y with made:=y.made.set (n-1) (v,(y.at n).2)} (.slice (some ⟨g,0,none⟩) y.made.length cap) vt/\aM x (.slice (some ⟨g,0,none⟩) y.made.length cap) vt w (.slice (some ⟨g,0,none⟩) y.made.length cap) vt (w.setCell ⟨g,(n-1)*2,none⟩ (.int .i64 v)))/\
  (∀v:Bool,oA z x t rest (w.setCell ⟨g,(n-1)*2+1,none⟩ (.bool v)) {y with made:=y.made.set (n-1) ((y.at n).1,v)} (.slice (some ⟨g,0,none⟩) y.made.length cap) vt/\aM x (.slice (some ⟨g,0,none⟩) y.made.length cap) vt w (.slice (some ⟨g,0,none⟩) y.made.length cap) vt (w.setCell ⟨g,(n-1)*2+1,none⟩ (.bool v))):=by
 obtain⟨n1,n2⟩:=h.ty.ne;obtain⟨b0,b1⟩:=zE y.made (n-1) (by omega);have YZ:x≠g:=fun e=>ar h.made h.aI n1 (by rw[e];rfl)
 have htg:vt.ownBlock≠some g:=fun e=>by
  rcases cZ h.trace h.made (by decide)with h0|h0
  ·rw[e]at h0;cases h0
  ·exact h0 e
 have roam:∀(o:Nat) (u:Value),aM x (.slice (some ⟨g,0,none⟩) y.made.length cap) vt w (.slice (some ⟨g,0,none⟩) y.made.length cap) vt (w.setCell ⟨g,o,none⟩ u):=fun o u=>
  ⟨rfl,rfl,rfl,by simp,fun j _ _ h2 _=>Below.heap_setCell _ _ _ _ (by show j≠g;intro e;exact h2 (by rw[e];rfl)),fun _ h=> .inl h,fun _ h=> .inl h⟩
 have aI:∀(o:Nat) (u:Value),(w.setCell ⟨g,o,none⟩ u).heap[x]?=w.heap[x]?:=fun o u=>Below.heap_setCell _ _ _ _ (by show x≠g;exact YZ)
 constructor
 ·intro v;refine⟨⟨h.base,h.ty,by rw[aI];exact h.aI,?_,au h.trace _ htg⟩,roam _ _⟩;have:=(h.made.stored ((n-1)*2) (.int .i64 v)).1;have e:bG (y.made.set (n-1) (v,(y.at n).2))=(bG y.made).set ((n-1)*2) (.int .i64 v):=by
   rw[vd,jb (by omega)];refine xh ?_;rw[List.getElem?_set_ne (by omega)];exact b1
  simp only[List.length_set];rw[e];exact this
 ·intro v;refine⟨⟨h.base,h.ty,by rw[aI];exact h.aI,?_,au h.trace _ htg⟩,roam _ _⟩;have:=(h.made.stored ((n-1)*2+1) (.bool v)).1;have e:bG (y.made.set (n-1) ((y.at n).1,v))=(bG y.made).set ((n-1)*2+1) (.bool v):=by
   rw[vd,jb (by omega)];have:(bG y.made).set ((n-1)*2) (.int .i64 (y.at n).1)=bG y.made:=xh b0;rw[this]
  simp only[List.length_set];rw[e];exact this
end
end Own
namespace Own
open Go Go.RowKit Sq Aux PrjJ PrjK PrjL PrjM
structure Yd.Ok (y:Yd):Prop where
 made:y.made.length<=1000000
 trace:y.trace.length<=9000000
 live: -100000000<=y.live/\y.live<=100000000
 words:∀b∈y.trace,b.length<=30
def Left (z x:Nat)(t:TypeId)(rest:List Value)(w:World)(vm vt:Value)(y':Yd)(w':World):Prop:=∃vm' vt',oA z x t rest w' y' vm' vt'/\aM x vm vt w vm' vt' w'
section
variable {z x:Nat} {t:TypeId} {rest:List Value} {w:World} {y:Yd} {vm vt:Value}
theorem LN (h:oA z x t rest w y vm vt)(n:Int)(hn: -9223372036854775808<=n/\n<=9223372036854775807)(hp:Pow w)(ho:y.Ok):
  Calls Tryz.prog 104 #[.pointer (some ⟨x,0,none⟩),.int .i64 n] w fun e w'=>e=.returned (.tuple #[])/\Left z x t rest w vm vt (y.note 111 n) w':=by
 have K:=ga h 111 n hn hp (by have:=ho.trace;omega);have K2:Calls Tryz.prog 98 #[.pointer (some ⟨x,0,none⟩),.string ⟨#[111]⟩,.int .i64 n] w _:=K;go_enter Tryz.func104,Tryz.ntmps104
 go_wp2_with (go_at_call 98;refine K2.mono ?_;rintro e w1 ⟨vt',rfl,h1,r1⟩)
 go_end0
 exact⟨rfl,vm,vt',h1,r1⟩
set_option maxRecDepth 20000 in
set_option maxHeartbeats 1000000 in
theorem NI (h:oA z x t rest w y vm vt)(v:Int)(hp:Pow w)(ho:y.Ok)(hz:11<=z):
  Calls Tryz.prog 61 #[.pointer (some ⟨x,0,none⟩),.int .i64 v] w fun e w'=>e=.returned (.int .i64 ((y.made.length+1:Nat):Int))/\Left z x t rest w vm vt (y.build v) w':=by
 obtain⟨c0,c1,c2,f0,f1,f2⟩:=h.facts;obtain⟨i,hi,A0,Ey,xW⟩:=info_parts RU;have aX:Below w.heap.size w (w.alloc (.cells #[.int .i64 v,.bool true] 175)):=(Below.refl _ _).alloc (jC _) _;have HA:=h.below aX;obtain⟨a0,a1,a2,b0,b1,b2⟩:=HA.facts;have qt:z<=(w.alloc (.cells #[.int .i64 v,.bool true] 175)).heap.size:=by have:=HA.lt;have:=HA.base;omega
 have hm:=ho.made;have hlv:=ho.live;go_enter Tryz.func61,Tryz.ntmps61
 go_wp2_with (first
  |(at_builtin;go_must (refine kg rfl _ _ 98 rfl z 175 i (.agg #[.int .i64 0,.bool false]) 2 16 Tryz.underlying98 hi A0 Ey xW rfl (by decide) vm _ _ rfl HA.made w.heap.size [.int .i64 v,.bool true] rfl jD rfl (by intro u' hu;simp at hu;rcases hu with rfl|rfl<;>rfl) (by decide) (by omega) qt ?_);intro g4 c4 w4 hown4 hgrow4 hat4 hlt4;have gJ:w4.heap[x]?=_:=(hgrow4.block _ HA.lt (bh HA.made HA.aI HA.ty.ne.1)).trans HA.aI;have r0:w4.cell? ⟨x,0,none⟩=some vm:=(by rw[cell_of_heap gJ];simp);have rf0:w4.frozen? ⟨x,0,none⟩=false:=frozen_of_heap gJ 0;obtain⟨h5,h6⟩:=h.Jy (b:=(v,true)) aX hown4 hgrow4 (Ra hat4);obtain⟨d0,d1,d2,g0,g1,g2⟩:=h5.facts;obtain⟨h7,h8⟩:=h5.Ng (y.live+1);obtain⟨k0,k1,k2,l0,l1,l2⟩:=h7.facts;have hr:=h6.trans h8;have KN:Calls Tryz.prog 98 #[.pointer (some ⟨x,0,none⟩),.string ⟨#[43]⟩,.int .i64 ((y.made.length:Int)+1)] _ _:=ga h7 43 ((y.made.length+1:Nat):Int) (by omega) (hp.below (hr.below h hz (by have:=h.lt;have:=h.base;omega)) (jC _)) (by have:=ho.trace;simp only;omega))
  |(go_at_call 98;refine KN.mono ?_;rintro e w9 ⟨vt',rfl,h9,r9⟩))
 go_ret
 exact⟨rfl,_,vt',h9,hr.trans r9⟩
set_option maxRecDepth 20000 in
set_option maxHeartbeats 1000000 in
theorem AK (h:oA z x t rest w y vm vt)(n:Nat)(h1:1<=n)(hn:n<=y.made.length)(hp:Pow w)(ho:y.Ok)(hz:11<=z):
  Calls Tryz.prog 97 #[.pointer (some ⟨x,0,none⟩),.int .i64 ((n:Nat):Int)] w fun e w'=>e=.returned (.tuple #[])/\Left z x t rest w vm vt (y.free n) w':=by
 obtain⟨c0,c1,c2,f0,f1,f2⟩:=h.facts;obtain⟨g,cap,rfl,kL,hg,q0,q1,q2,q3⟩:=h.box h1 hn;obtain⟨h5,h6⟩:=(h.tE h1 hn).2 false;obtain⟨d0,d1,d2,g0,g1,g2⟩:=h5.facts;obtain⟨h7,h8⟩:=h5.Ng (y.live-1);have hr:=h6.trans h8;have hm:=ho.made;have hlv:=ho.live;have KN:Calls Tryz.prog 98 #[.pointer (some ⟨x,0,none⟩),.string ⟨#[45]⟩,.int .i64 ((n:Nat):Int)] _ _:=ga h7 45 ((n:Nat):Int) (by omega) (hp.below (hr.below h hz (by have:=h.lt;have:=h.base;omega)) (jC _)) (by have:=ho.trace;simp only;omega);have i1:(1:Int)<=n:=by omega
 have i2:(n:Int)<=y.made.length:=by omega
 have e1:((n:Int)-1).toNat=n-1:=by omega
 go_enter Tryz.func97,Tryz.ntmps97
 go_wp2_with (go_at_call 98;refine KN.mono ?_;rintro e w9 ⟨vt',rfl,h9,r9⟩)
 go_end0
 exact⟨rfl,_,vt',h9,hr.trans r9⟩
set_option maxRecDepth 20000 in
set_option maxHeartbeats 1000000 in
theorem Bh (h:oA z x t rest w y vm vt)(n:Nat)(h1:1<=n)(hn:n<=y.made.length)(hp:Pow w)(ho:y.Ok):
  Calls Tryz.prog 105 #[.pointer (some ⟨x,0,none⟩),.int .i64 ((n:Nat):Int)] w fun e w'=>e=.returned (.int .i64 (y.at n).1)/\Left z x t rest w vm vt (y.load n) w':=by
 obtain⟨g,cap,rfl,kL,-⟩:=h.box h1 hn;have hm:=ho.made;have KN:Calls Tryz.prog 98 #[.pointer (some ⟨x,0,none⟩),.string ⟨#[60]⟩,.int .i64 ((n:Nat):Int)] _ _:=ga h 60 ((n:Nat):Int) (by omega) hp (by have:=ho.trace;omega);have i1:(1:Int)<=n:=by omega
 have i2:(n:Int)<=y.made.length:=by omega
 have e1:((n:Int)-1).toNat=n-1:=by omega
 go_enter Tryz.func105,Tryz.ntmps105
 go_wp2_with (go_at_call 98;refine KN.mono ?_;rintro e w9 ⟨vt',rfl,h9,r9⟩;obtain⟨c0,c1,c2,f0,f1,f2⟩:=h9.facts;have q:=h9.Zh h1 (show n<=(y.note 60 ((n:Nat):Int)).made.length from hn);have q0:w9.cell? ⟨g,(n-1)*2,none⟩=some (.int .i64 (y.at n).1):=q.1;clear q)
 go_ret
 exact⟨rfl,_,vt',h9,r9⟩
set_option maxRecDepth 20000 in
set_option maxHeartbeats 1000000 in
theorem yk (h:oA z x t rest w y vm vt)(n:Nat)(h1:1<=n)(hn:n<=y.made.length)(v:Int)(hp:Pow w)(ho:y.Ok):
  Calls Tryz.prog 106 #[.pointer (some ⟨x,0,none⟩),.int .i64 ((n:Nat):Int),.int .i64 v] w fun e w'=>e=.returned (.tuple #[])/\Left z x t rest w vm vt (y.store n v) w':=by
 obtain⟨g,cap,rfl,kL,-⟩:=h.box h1 hn;have hm:=ho.made;have KN:Calls Tryz.prog 98 #[.pointer (some ⟨x,0,none⟩),.string ⟨#[62]⟩,.int .i64 ((n:Nat):Int)] _ _:=ga h 62 ((n:Nat):Int) (by omega) hp (by have:=ho.trace;omega);have i1:(1:Int)<=n:=by omega
 have i2:(n:Int)<=y.made.length:=by omega
 have e1:((n:Int)-1).toNat=n-1:=by omega
 go_enter Tryz.func106,Tryz.ntmps106
 go_wp2_with (go_at_call 98;refine KN.mono ?_;rintro e w9 ⟨vt',rfl,h9,r9⟩;obtain⟨c0,c1,c2,f0,f1,f2⟩:=h9.facts;have q:=h9.Zh h1 (show n<=(y.note 62 ((n:Nat):Int)).made.length from hn);have q0:w9.cell? ⟨g,(n-1)*2,none⟩=some (.int .i64 (y.at n).1):=q.1;have q2:=q.2.2.1;clear q;obtain⟨V5,r10⟩:=(oA.tE (y:=y.note 62 ((n:Nat):Int)) h9 h1 hn).1 v)
 go_end0
 exact⟨rfl,_,vt',V5,r9.trans r10⟩
end
end Own
namespace Own
open Go Go.RowKit Sq Aux PrjJ PrjK PrjL PrjM
theorem fe:(Tryz.prog.info? 47).map (fun i=>i.size)=some 4:=by kernel_rfl
def Yd.text (y:Yd):B:=Lib.join y.trace [32]
theorem G9:∀(l:List B),(∀b∈l,b.length<=30)->(Lib.join l [32]).length<=31*l.length
 |[],_=>by simp[Lib.join,List.intercalate]
 |[a],h=>by
  have:=h a (by simp);rw[Lib.join_one];simp;omega
 |a::b::l,h=>by
  have ih:=G9 (b::l) (fun x hx=>h x (jN _ hx));have h1:=h a (by simp);have e:Lib.join (a::b::l) [32]=a++([32]++Lib.join (b::l) [32]):=by simp[Lib.join,List.intercalate,List.intersperse]
  rw[e,jV,jV];simp only[List.length_cons,List.length_nil]at ih⊢;omega
theorem ME (b:B):(bs b).data.toList=b:=by simp[bs]
section
variable {z x:Nat} {t:TypeId} {rest:List Value} {w:World} {y:Yd} {vm vt:Value}
theorem R0 {tr:List B}(h:w.ownsRow z 9 1 vt tr.length (xo tr))(hl:tr.length<=9000000)(hw:∀b∈tr,b.length<=30):
  Calls Tryz.prog 83 #[vt,.string ⟨#[32]⟩] w fun e w'=>e=.returned (.string (bs (Lib.join tr [32])))/\Below w.heap.size w w':=by
 cases tr with
 |nil=>
  have h':∃ad c,vt=.slice ad 0 c:=by
   rcases h.2 with⟨e,-⟩|⟨g,cap,cur,e,-⟩
   ·exact⟨none,0,e⟩
   ·exact⟨_,cap,e⟩
  obtain⟨ad,c,rfl⟩:=h';refine(Tryz.strings_Join_none ad c ⟨#[32]⟩ w).mono fun e w' ⟨he,hw'⟩=>⟨?_,by rw[hw'];exact Below.refl _ _⟩
  rw[he];rfl
 |cons a r=>
  obtain⟨g,cap,rfl,hc,hg,aC⟩:=dJ h (by simp);have hlen:=G9 (a::r) hw;have K:=Tryz.strings_Join g 0 cap ((a::r).map bs) ⟨#[32]⟩ w (fun j v hv=>by
   rw[jJ,Option.map_eq_some_iff]at hv;obtain⟨b,hb,rfl⟩:=hv;have hj:j<(a::r).length:=by
    by_cases hj:j<(a::r).length
    ·exact hj
    ·rw[jG (by omega)]at hb;cases hb
   rw[Nat.zero_add,aC j (by omega),xo,jJ,hb];rfl) hg (by rw[jc];omega) (by rw[jc];exact hc) (by
    have e:((a::r).map bs).map (fun x=>x.data.toList)=a::r:=by
     rw[List.map_map];have:((fun x:ByteArray=>x.data.toList)∘bs)=id:=funext ME;rw[this,List.map_id]
    rw[e];show(Lib.join (a::r) [32]).length<=_
    omega)
  rw[jc]at K;refine K.mono fun e w' ⟨he,hw'⟩=>⟨?_,hw'⟩
  rw[he];have e:((a::r).map bs).map (fun x=>x.data.toList)=a::r:=by
   rw[List.map_map];have:((fun x:ByteArray=>x.data.toList)∘bs)=id:=funext ME;rw[this,List.map_id]
  rw[e];rfl
set_option maxRecDepth 20000 in
set_option maxHeartbeats 1000000 in
theorem pV (h:oA z x t rest w y vm vt)(o v:Int)(ho:y.Ok):
  Calls Tryz.prog 66 #[.pointer (some ⟨x,0,none⟩),.int .i64 o,.int .i64 v] w fun e w'=>e=.returned (.agg #[.int .i64 o,.int .i64 v,.string (bs y.text),.int .i64 y.live])/\Below w.heap.size w w':=by
 have aX:Below w.heap.size w (w.alloc (.cells #[.int .i64 0,.int .i64 0,.string ⟨#[]⟩,.int .i64 0] 47)):=(Below.refl _ _).alloc (jC _) _;have HA:=h.below aX;obtain⟨a0,a1,a2,-⟩:=HA.facts;have KJ:=R0 (w:=(w.alloc (.cells #[.int .i64 0,.int .i64 0,.string ⟨#[]⟩,.int .i64 0] 47)).drew) HA.trace ho.trace ho.words;have hn:=World.ownsRow.lt HA.trace;go_enter Tryz.func66,Tryz.ntmps66
 go_wp2
 go_region_with (go_at_call 83;refine KJ.mono ?_;rintro e w1 ⟨rfl,av⟩;have bT:Below (w.alloc (.cells #[.int .i64 0,.int .i64 0,.string ⟨#[]⟩,.int .i64 0] 47)).heap.size (w.alloc (.cells #[.int .i64 0,.int .i64 0,.string ⟨#[]⟩,.int .i64 0] 47)) w1:=⟨av.os,av.tape,av.output,av.size,av.block⟩;obtain⟨d0,d1,d2,-⟩:=(HA.below bT).facts;have hR:w1.heap[w.heap.size]?=some (.cells #[.int .i64 0,.int .i64 0,.string ⟨#[]⟩,.int .i64 0] 47 (0,0)):=(bT.block _ (by simp)).trans jD;have r0:w1.cell? ⟨w.heap.size,0,none⟩=some (.int .i64 0):=(by rw[cell_of_heap hR];rfl);have r1:w1.cell? ⟨w.heap.size,1,none⟩=some (.int .i64 0):=(by rw[cell_of_heap hR];rfl);have r2:w1.cell? ⟨w.heap.size,2,none⟩=some (.string ⟨#[]⟩):=(by rw[cell_of_heap hR];rfl);have r3:w1.cell? ⟨w.heap.size,3,none⟩=some (.int .i64 0):=(by rw[cell_of_heap hR];rfl);have rf:=frozen_of_heap hR;have rf0:=rf 0;have rf1:=rf 1;have rf2:=rf 2;have rf3:=rf 3;clear rf)
 all_goals go_wp2_with fail
 all_goals
  have e1:=Aux.heap_setCell_same hR 0 (.int .i64 o);have e2:=Aux.heap_setCell_same e1 1 (.int .i64 v);have e3:=Aux.heap_setCell_same e2 2 (.string (bs (Lib.join y.trace [32])));have e4:=Aux.heap_setCell_same e3 3 (.int .i64 y.live);refine bodyPost_ret (dP Tryz.results66 _ _ _ w.heap.size [.int .i64 o,.int .i64 v,.string (bs (Lib.join y.trace [32])),.int .i64 y.live] _ rfl (fun j u hu=>by rw[Nat.zero_add,cell_of_heap e4];simpa using hu) Tryz.underlying47 rfl fe) rfl ?_;refine⟨rfl,?_⟩;have hB:=aX.trans (bT.mono aX.size);have hT:=((((bu.refl w.heap.size w1).setCell 0 (.int .i64 o)).setCell 1 (.int .i64 v)).setCell 2 (.string (bs (Lib.join y.trace [32])))).setCell 3 (.int .i64 y.live);exact hB.trans (hT.below (jC _) hB.size)
end
end Own
namespace Own
open Go Go.RowKit Sq Aux PrjJ PrjK PrjL PrjM FlwA
structure Own where
 yd:Yd
 ak:List Int
 ints:List Int
 boxes:List Nat
def Own.num (o:Own)(p:Nat×Nat):Int:=o.ints.getD p.1 0
def Own.box (o:Own)(p:Nat×Nat):Nat:=o.boxes.getD (ag p) 0
def fu (l:List Int):List Value:=l.map fun n=> .int .i64 n
def fO (l:List Nat):List Value:=l.map fun n=> .int .i64 ((n:Nat):Int)
def fR (a:Nat)(vi:Value)(o:Own):List Value:=.pointer (some ⟨a,0,none⟩)::vi::(fu o.ints++fO o.boxes)
def bX (w:World)(v:Value)(l:List Int):Prop:=∃ad c,v=.slice ad l.length c/\l.length<=c/\c<=maxLen/\∀j,j<l.length->∃g f,ad=some ⟨g,f,none⟩/\g<w.heap.size/\w.cell? ⟨g,f+j,none⟩=some (.int .i64 (l.getD j 0))
structure dn (w0:World)(x a:Nat)(w:World)(o:Own)(vi vm vt:Value):Prop where
 ka:oA w0.heap.size x 104 (fR a vi o) w o.yd vm vt
 bq:Below w0.heap.size w0 w
 ints:o.ints.length=12
 boxes:o.boxes.length=24
 feed:bX w0 vi o.ak
theorem S7 (a:Nat)(vi:Value){o:Own}{j:Nat}(hj:j<12)(hi:o.ints.length=12):(fR a vi o)[2+j]?=some (.int .i64 (o.ints.getD j 0)):=by
 have e:(fR a vi o)[2+j]?=(fu o.ints++fO o.boxes)[j]?:=by rw[Nat.add_comm];rfl
 rw[e,jg (by simp[fu,hi];exact hj),fu,jJ,jB (by omega),jA,jB (by omega)];rfl
theorem S6 (a:Nat)(vi:Value){o:Own}{j:Nat}(hj:j<24)(hi:o.ints.length=12)(hb:o.boxes.length=24):(fR a vi o)[14+j]?=some (.int .i64 ((o.boxes.getD j 0:Nat):Int)):=by
 have e:(fR a vi o)[14+j]?=(fu o.ints++fO o.boxes)[12+j]?:=by rw[show 14+j=(12+j)+2 by omega];rfl
 rw[e,jf (by simp[fu,hi]),show 12+j-(fu o.ints).length=j by simp[fu,hi],fO,jJ,jB (by omega),jA,jB (by omega)];rfl
theorem IN (a:Nat)(vi:Value)(o:Own){j:Nat}(hj:j<12)(hi:o.ints.length=12)(v:Int):(fR a vi o).set (2+j) (.int .i64 v)=fR a vi {o with ints:=o.ints.set j v}:=by
 have e:(fR a vi o).set (2+j) (.int .i64 v)=.pointer (some ⟨a,0,none⟩)::vi::(fu o.ints++fO o.boxes).set j (.int .i64 v):=by rw[Nat.add_comm];rfl
 rw[e,List.set_append_left _ _ (by simp[fu,hi];exact hj)];simp[fR,fu,List.map_set]
theorem IM (a:Nat)(vi:Value)(o:Own){j:Nat}(hi:o.ints.length=12)(n:Nat):(fR a vi o).set (14+j) (.int .i64 ((n:Nat):Int))=fR a vi {o with boxes:=o.boxes.set j n}:=by
 have e:(fR a vi o).set (14+j) (.int .i64 ((n:Nat):Int))=.pointer (some ⟨a,0,none⟩)::vi::(fu o.ints++fO o.boxes).set (12+j) (.int .i64 ((n:Nat):Int)):=by rw[show 14+j=(12+j)+2 by omega];rfl
 rw[e,List.set_append_right _ _ (by simp[fu,hi]),show 12+j-(fu o.ints).length=j by simp[fu,hi]];simp[fR,fO,List.map_set]
section
variable {z x a:Nat} {t:TypeId} {rest:List Value} {w w0 w1:World} {y:Yd} {vm vt vi vm1 vt1:Value} {o:Own}
theorem oA.E7 (h:oA z x t rest w y vm vt)(j:Nat)(u:Value):oA z x t (rest.set j u) (w.setCell ⟨x,3+j,none⟩ u) y vm vt/\aM x vm vt w vm vt (w.setCell ⟨x,3+j,none⟩ u):=by
 obtain⟨n1,n2⟩:=h.ty.ne;refine⟨⟨h.base,h.ty,?_,au h.made _ (ar h.made h.aI n1),au h.trace _ (ar h.trace h.aI n2)⟩,⟨rfl,rfl,rfl,by simp,fun k _ h1 _ _=>Below.heap_setCell _ _ _ _ (by show k≠x;exact h1),fun _ h=> .inl h,fun _ h=> .inl h⟩⟩;rw[Aux.heap_setCell_same h.aI];congr 2;rw[List.setIfInBounds_toArray,Nat.add_comm 3 j];rfl
theorem oA.more (h:oA z x t rest w y vm vt)(j:Nat):w.cell? ⟨x,3+j,none⟩=rest[j]?/\w.frozen? ⟨x,3+j,none⟩=false:=by
 refine⟨?_,frozen_of_heap h.aI _⟩;rw[cell_of_heap h.aI,Nat.add_comm 3 j];simp
theorem dn.lt (h:dn w0 x a w o vi vm vt):x<w.heap.size:=h.ka.lt
theorem dn.below (h:dn w0 x a w o vi vm vt)(hb:Below w.heap.size w w1):dn w0 x a w1 o vi vm vt:=
 ⟨h.ka.below hb,h.bq.trans (hb.mono h.bq.size),h.ints,h.boxes,h.feed⟩
theorem dn.int (h:dn w0 x a w o vi vm vt){j:Nat}(hj:j<12):w.cell? ⟨x,5+j,none⟩=some (.int .i64 (o.ints.getD j 0))/\w.frozen? ⟨x,5+j,none⟩=false:=by
 have:=h.ka.more (2+j);rw[S7 a vi hj h.ints,show 3+(2+j)=5+j by omega]at this;exact this
theorem dn.bx (h:dn w0 x a w o vi vm vt){j:Nat}(hj:j<24):w.cell? ⟨x,17+j,none⟩=some (.int .i64 ((o.boxes.getD j 0:Nat):Int))/\w.frozen? ⟨x,17+j,none⟩=false:=by
 have:=h.ka.more (14+j);rw[S6 a vi hj h.ints h.boxes,show 3+(14+j)=17+j by omega]at this;exact this
theorem dn.setInt (h:dn w0 x a w o vi vm vt){j:Nat}(hj:j<12)(v:Int):dn w0 x a (w.setCell ⟨x,5+j,none⟩ (.int .i64 v)) {o with ints:=o.ints.set j v} vi vm vt/\aM x vm vt w vm vt (w.setCell ⟨x,5+j,none⟩ (.int .i64 v)):=by
 obtain⟨h1,h2⟩:=h.ka.E7 (2+j) (.int .i64 v);rw[IN a vi o hj h.ints,show 3+(2+j)=5+j by omega]at h1;rw[show 3+(2+j)=5+j by omega]at h2;exact⟨⟨h1,h.bq.trans (h2.below h.ka (jC _) h.bq.size),by simpa using h.ints,h.boxes,h.feed⟩,h2⟩
theorem dn.Tg (h:dn w0 x a w o vi vm vt)(j:Nat)(n:Nat):dn w0 x a (w.setCell ⟨x,17+j,none⟩ (.int .i64 ((n:Nat):Int))) {o with boxes:=o.boxes.set j n} vi vm vt/\aM x vm vt w vm vt (w.setCell ⟨x,17+j,none⟩ (.int .i64 ((n:Nat):Int))):=by
 obtain⟨h1,h2⟩:=h.ka.E7 (14+j) (.int .i64 ((n:Nat):Int));rw[IM a vi o h.ints,show 3+(14+j)=17+j by omega]at h1;rw[show 3+(14+j)=17+j by omega]at h2;exact⟨⟨h1,h.bq.trans (h2.below h.ka (jC _) h.bq.size),h.ints,by simpa using h.boxes,h.feed⟩,h2⟩
theorem dn.zu (h:dn w0 x a w o vi vm vt){y':Yd}(h1:oA w0.heap.size x 104 (fR a vi o) w1 y' vm1 vt1)(h2:aM x vm vt w vm1 vt1 w1):dn w0 x a w1 {o with yd:=y'} vi vm1 vt1:=
 ⟨h1,h.bq.trans (h2.below h.ka (jC _) h.bq.size),h.ints,h.boxes,h.feed⟩
end
end Own
namespace Own
open Go Go.RowKit Sq Aux PrjJ PrjK PrjL PrjM FlwA
section
variable {x a:Nat} {w w0:World} {vm vt vi:Value} {o:Own}
set_option maxRecDepth 20000 in
theorem ei (h:dn w0 x a w o vi vm vt)(p:Nat×Nat)(hp:p.1<12):
  Calls Tryz.prog 58 #[.pointer (some ⟨x,0,none⟩),.agg #[.int .i64 (p.1:Nat),.int .i64 (p.2:Nat)]] w fun e w'=>e=.returned (.int .i64 (o.num p))/\Below w.heap.size w w':=by
 have aX:Below w.heap.size w (w.alloc (.cells #[.int .i64 (p.1:Nat),.int .i64 (p.2:Nat)] 119)):=(Below.refl _ _).alloc (jC _) _;have HA:=h.below aX;have c1:=(HA.int hp).1;have YU:(p.1:Int)<12:=by omega
 go_enter Tryz.func58,Tryz.ntmps58
 go_wp2
 go_region
 all_goals go_wp2_with fail
 all_goals
  go_ret
  exact⟨rfl,⟨aX.os,aX.tape,aX.output,aX.size,aX.block⟩⟩
set_option maxRecDepth 20000 in
theorem iX (h:dn w0 x a w o vi vm vt)(p:Nat×Nat)(hp:p.1<12):
  Calls Tryz.prog 99 #[.pointer (some ⟨x,0,none⟩),.agg #[.int .i64 (p.1:Nat),.int .i64 (p.2:Nat)]] w fun e w'=>e=.returned (.int .i64 ((o.box p:Nat):Int))/\Below w.heap.size w w':=by
 have aX:Below w.heap.size w (w.alloc (.cells #[.int .i64 (p.1:Nat),.int .i64 (p.2:Nat)] 119)):=(Below.refl _ _).alloc (jC _) _;have HA:=h.below aX;have yU:ag p<24:=by unfold ag;split<;>omega
 have RO:(ag p:Int)<24:=by omega
 have KS:=kT p (w.alloc (.cells #[.int .i64 (p.1:Nat),.int .i64 (p.2:Nat)] 119)).drew (by omega);go_enter Tryz.func99,Tryz.ntmps99
 go_wp2
 go_region_with (go_at_call 62;refine KS.mono ?_;rintro e w1 ⟨rfl,av⟩;have bT:Below (w.alloc (.cells #[.int .i64 (p.1:Nat),.int .i64 (p.2:Nat)] 119)).heap.size (w.alloc (.cells #[.int .i64 (p.1:Nat),.int .i64 (p.2:Nat)] 119)) w1:=⟨av.os,av.tape,av.output,av.size,av.block⟩;have c1:=((HA.below bT).bx yU).1)
 all_goals go_wp2_with fail
 all_goals
  go_ret
  exact⟨rfl,aX.trans (bT.mono aX.size)⟩
end
def aN (n:Int):Prop:= -9223372036854775808<=n/\n<=9223372036854775807
def ve (op:Nat)(m n:Int):Int:=if op=3 then wrap64 (m+n)else if op=4 then wrap64 (m-n)else if op=5 then wrap64 (m*n)else wrap64 (m.tdiv n)
theorem Ar (op:Nat)(m n:Int)(w:World)(hn:op=6->¬n=0)(ho:op=3\/op=4\/op=5\/op=6)(_hm: -9223372036854775808<=m/\m<=9223372036854775807)(_hn': -9223372036854775808<=n/\n<=9223372036854775807):
  Calls Tryz.prog 95 #[.int .i64 (op:Nat),.int .i64 m,.int .i64 n] w fun e w'=>e=.returned (.int .i64 (ve op m n))/\w'=w:=by
 rcases ho with rfl|rfl|rfl|rfl
 ·go_enter Tryz.func95,Tryz.ntmps95
  go_wp2
  go_ret
  exact⟨rfl,rfl⟩
 ·go_enter Tryz.func95,Tryz.ntmps95
  go_wp2
  go_ret
  exact⟨rfl,rfl⟩
 ·go_enter Tryz.func95,Tryz.ntmps95
  go_wp2
  go_ret
  exact⟨rfl,rfl⟩
 ·have h0:(n==0)=false:=by rw[jZ];exact hn rfl
  go_enter Tryz.func95,Tryz.ntmps95
  go_wp2
  go_ret
  exact⟨rfl,rfl⟩
abbrev lnV (l:aa)(ap an:Option Addr)(cp cn:Nat):Value:=.agg #[.int .i64 (l.num:Nat),.int .i64 (l.op:Nat),.slice ap l.places.length cp,.int .i64 l.number,.int .i64 l.flag,.slice an l.next.length cn]
section
variable {x a:Nat} {w w0:World} {vm vt vi:Value} {o:Own}
set_option maxRecDepth 20000 in
theorem VV {z:Nat}{l:aa}{ap an:Option Addr}{cp cn:Nat}(hl:bp z w l (.slice ap l.places.length cp) (.slice an l.next.length cn))(b:Bool)(hb:(if b then 1 else 0)<l.next.length):
  Calls Tryz.prog 100 #[lnV l ap an cp cn,.bool b] w fun e w'=>e=.returned (.int .i64 ((l.next.getD (if b then 1 else 0) 0:Nat):Int))/\Below w.heap.size w w':=by
 have aX:Below w.heap.size w (w.alloc (.cells #[.int .i64 (l.num:Nat),.int .i64 (l.op:Nat),.slice ap l.places.length cp,.int .i64 l.number,.int .i64 l.flag,.slice an l.next.length cn] 115)):=(Below.refl _ _).alloc (jC _) _;obtain⟨g,cap,e,hc,hg,aC⟩:=dJ hl.next (by omega);simp only[Value.slice.injEq]at e;obtain⟨rfl,-,rfl⟩:=e;have c1:=aC (if b then 1 else 0) (by omega);have c2:(dG l.next)[if b then 1 else 0]?=some (.int .i64 ((l.next.getD (if b then 1 else 0) 0:Nat):Int)):=by
  rw[dG,jJ,jB hb,jA,jB hb];rfl
 rw[c2]at c1;have c3:=(aX.cell (p:=⟨g,if b then 1 else 0,none⟩) hg).trans c1;cases b
 ·simp only[Bool.false_eq_true,if_false]at c1 c3 hb;have TU:(0:Int)<l.next.length:=by omega
  go_enter Tryz.func100,Tryz.ntmps100
  go_wp2
  go_ret
  exact⟨rfl,aX⟩
 ·simp only[if_true]at c1 c3 hb;have TU:(1:Int)<l.next.length:=by omega
  go_enter Tryz.func100,Tryz.ntmps100
  go_wp2
  go_ret
  exact⟨rfl,aX⟩
end
end Own
namespace Own
open Go Go.RowKit Sq Aux PrjJ PrjK PrjL PrjM PrjS PrjT FlwA FlwB FlwE
section
variable {x a:Nat} {w w0:World} {vm vt vi:Value} {o:Own}
theorem dn.fd (h:dn w0 x a w o vi vm vt):w.cell? ⟨x,4,none⟩=some vi/\w.frozen? ⟨x,4,none⟩=false:=h.ka.more 1
theorem dn.Nf (h:dn w0 x a w o vi vm vt){vi':Value}{l:List Int}(hf:bX w0 vi' l):dn w0 x a (w.setCell ⟨x,4,none⟩ vi') {o with ak:=l} vi' vm vt/\aM x vm vt w vm vt (w.setCell ⟨x,4,none⟩ vi'):=by
 obtain⟨h1,h2⟩:=h.ka.E7 1 vi';exact⟨⟨h1,h.bq.trans (h2.below h.ka (jC _) h.bq.size),h.ints,h.boxes,hf⟩,h2⟩
theorem bX.tail {v:Int}{r:List Int}{g f c:Nat}(h:bX w0 (.slice (some ⟨g,f,none⟩) (v::r).length c) (v::r)):bX w0 (.slice (some ⟨g,f+1,none⟩) r.length (c-1)) r:=by
 obtain⟨ad,c',e,h1,h2,h3⟩:=h;simp only[Value.slice.injEq]at e;obtain⟨rfl,-,rfl⟩:=e;simp only[List.length_cons]at h1;refine⟨_,_,rfl,by omega,by omega,fun j hj=> ?_⟩;obtain⟨g',f',e,hg,hc⟩:=h3 (j+1) (by simp;omega);simp only[Option.some.injEq,Addr.mk.injEq,and_true]at e;obtain⟨rfl,rfl⟩:=e;exact⟨g,f+1,rfl,hg,by rw[show f+1+j=f+(j+1) by omega,hc];rfl⟩
set_option maxRecDepth 20000 in
theorem QX (h:dn w0 x a w o vi vm vt):
  Calls Tryz.prog 103 #[.pointer (some ⟨x,4,none⟩)] w fun e w'=>e=.returned (.int .i64 (o.ak.headD 0))/\∃vi',dn w0 x a w' {o with ak:=o.ak.tail} vi' vm vt/\aM x vm vt w vm vt w':=by
 obtain⟨c4,f4⟩:=h.fd;have hF:=h.feed;cases lf:o.ak with
 |nil=>
  rw[lf]at hF;obtain⟨ad,c,rfl,h1,h2,-⟩:=hF;have hO:{o with ak:=([]:List Int)}=o:=by rw[<-lf]
  go_enter Tryz.func103,Tryz.ntmps103
  go_wp2
  go_ret
  exact⟨rfl,_,by rw[List.tail_nil,hO];exact h,aM.refl _ _ _ _⟩
 |cons v r=>
  rw[lf]at hF;have hF':=hF;obtain⟨ad,c,rfl,h1,h2,h3⟩:=hF;obtain⟨g,f,rfl,hg,hc⟩:=h3 0 (by simp);have hT:=bX.tail hF';obtain⟨h5,h6⟩:=h.Nf hT;have c0:w.cell? ⟨g,f,none⟩=some (.int .i64 v):=by
   rw[Nat.add_zero]at hc;exact(h.bq.cell (p:=⟨g,f,none⟩) hg).trans hc
  simp only[List.length_cons]at h1 h2 h5 c4;have i0:¬((r.length:Int)+1=0):=by omega
  have i1:(((r.length:Int)+1)==0)=false:=by rw[jZ];omega
  have i2:(1:Int)<=(r.length:Int)+1:=by omega
  have hcI:(r.length:Int)+1<=(c:Int):=by omega
  unfold maxLen at h2;by_cases ko:c=1
  ·subst ko;have hr:r=[]:=List.length_eq_zero_iff.mp (by omega);subst hr;have Zx:bX w0 (.slice (some ⟨g,f,none⟩) 0 0) []:=⟨_,_,rfl,jC _,jQ _,fun j hj=>absurd hj (Nat.not_lt_zero _)⟩;obtain⟨k5,k6⟩:=h.Nf Zx;go_enter Tryz.func103,Tryz.ntmps103
   go_wp2
   go_ret
   exact⟨rfl,_,k5,k6⟩
  ·have mZ:¬c-1=0:=by omega
   have hc3:¬c<=1:=by omega
   go_enter Tryz.func103,Tryz.ntmps103
   go_wp2
   go_ret
   exact⟨rfl,_,h5,h6⟩
end
def Own.clear (o:Own)(p:Nat×Nat):Own:={o with boxes:=o.boxes.set (ag p) 0}
def Own.take:List (Nat×Nat)->Own->List Nat×Own
 |[],o=>([],o)
 |p::ps,o=>(o.box p::(Own.take ps (o.clear p)).1,(Own.take ps (o.clear p)).2)
theorem DP:∀(ps:List (Nat×Nat)) (p:Nat×Nat) (o:Own),Own.take (ps++[p]) o=((Own.take ps o).1++[(Own.take ps o).2.box p],(Own.take ps o).2.clear p)
 |[],_,_=>rfl
 |q::ps,p,o=>by rw[jW,Own.take,DP ps p,Own.take];rfl
end Own
end Go.Proofs.YtmlgajhhnojdjaaGreatDoor

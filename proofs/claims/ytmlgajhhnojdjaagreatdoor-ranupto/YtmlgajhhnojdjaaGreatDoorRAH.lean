import Derived.Test.YtmlgajhhnojdjaaGreatDoorRAG
import Derived.Deep.RegionHeld3
import Derived.Lib.ItoaLen
import Derived.Deep.DeepMust
namespace Go.Proofs.YtmlgajhhnojdjaaGreatDoor
namespace Own
open Go Go.RowKit Sq Aux PrjJ PrjK PrjL PrjM
def Pow (w:World):Prop:=Lib.TabIs Tryz.prog w "internal/strconv.uint64pow10" .u64 Lib.pow10Tab
structure Yd where
 made:List (Int×Bool)
 live:Int
 trace:List B
def Yd.note (y:Yd)(c:UInt8)(n:Int):Yd:={y with trace:=y.trace++[c::Lib.itoa n]}
def py (x:Int×Bool):List Value:=[.int .i64 x.1,.bool x.2]
def bH (l:List (Int×Bool)):List Value:=l.flatMap py
def xp (l:List B):List Value:=l.map fun b=> .string (bs b)
def ED (t:TypeId):Prop:=t=104\/t=136
structure oB (z x:Nat)(t:TypeId)(rest:List Value)(w:World)(y:Yd)(vm vt:Value):Prop where
 base:z<=x
 ty:ED t
 aJ:w.heap[x]?=some (.cells (vm:: .int .i64 y.live::vt::rest).toArray t (0,0))
 made:w.ownsRow z 175 2 vm y.made.length (bH y.made)
 trace:w.ownsRow z 9 1 vt y.trace.length (xp y.trace)
structure aN (x:Nat)(vm vt:Value)(w:World)(vm' vt':Value)(w':World):Prop where
 os:w'.os=w.os
 tape:w'.tape=w.tape
 output:w'.output=w.output
 size:w.heap.size<=w'.heap.size
 block:∀k,k<w.heap.size->k≠x->vm.ownBlock≠some k->vt.ownBlock≠some k->w'.heap[k]?=w.heap[k]?
 fm:∀b,vm'.ownBlock=some b->vm.ownBlock=some b\/w.heap.size<=b
 ft:∀b,vt'.ownBlock=some b->vt.ownBlock=some b\/w.heap.size<=b
section
variable {z x:Nat} {t:TypeId} {rest:List Value} {w w1 w2 w3:World} {y:Yd} {vm vt vm1 vt1 vm2 vt2 v':Value}
theorem aN.refl (x:Nat)(vm vt:Value)(w:World):aN x vm vt w vm vt w:=⟨rfl,rfl,rfl,jC _,fun _ _ _ _ _=>rfl,fun _ h=> .inl h,fun _ h=> .inl h⟩
theorem aN.trans (h:aN x vm vt w vm1 vt1 w1)(h':aN x vm1 vt1 w1 vm2 vt2 w2):aN x vm vt w vm2 vt2 w2:=by
 refine⟨h'.os.trans h.os,h'.tape.trans h.tape,h'.output.trans h.output,jS h.size h'.size,fun k hk h1 h2 h3=> ?_,fun b hb=> ?_,fun b hb=> ?_⟩
 ·refine(h'.block k (jK hk h.size) h1 (fun e=> ?_) (fun e=> ?_)).trans (h.block k hk h1 h2 h3)
  ·rcases h.fm k e with e'|e'
   ·exact h2 e'
   ·omega
  ·rcases h.ft k e with e'|e'
   ·exact h3 e'
   ·omega
 ·rcases h'.fm b hb with e|e
  ·exact h.fm b e
  ·exact .inr (jS h.size e)
 ·rcases h'.ft b hb with e|e
  ·exact h.ft b e
  ·exact .inr (jS h.size e)
theorem aN.of (h:Below w.heap.size w w1):aN x vm vt w vm vt w1:=⟨h.os,h.tape,h.output,h.size,fun k hk _ _ _=>h.block k hk,fun _ h=> .inl h,fun _ h=> .inl h⟩
theorem oB.lt (h:oB z x t rest w y vm vt):x<w.heap.size:=lt_of_heap h.aJ
theorem oB.below (h:oB z x t rest w y vm vt)(hb:Below w.heap.size w w1):oB z x t rest w1 y vm vt:=
 ⟨h.base,h.ty,by rw[hb.block x h.lt];exact h.aJ,ay h.made hb,ay h.trace hb⟩
theorem ED.ne (h:ED t):175≠t/\9≠t:=by
 rcases h with rfl|rfl<;>decide
theorem aN.below (h:aN x vm vt w vm1 vt1 w1)(hy:oB z x t rest w y vm vt){b:Nat}(hb:b<=z)(hs:b<=w.heap.size):Below b w w1:=by
 refine⟨h.os,h.tape,h.output,h.size,fun k hk=>h.block k (by omega) (by have:=hy.base;omega) (fun e=> ?_) (fun e=> ?_)⟩
 ·have:=(hy.made.lt k e).1;omega
 ·have:=(hy.trace.lt k e).1;omega
theorem oB.facts (h:oB z x t rest w y vm vt):w.cell? ⟨x,0,none⟩=some vm/\w.cell? ⟨x,1,none⟩=some (.int .i64 y.live)/\w.cell? ⟨x,2,none⟩=some vt/\w.frozen? ⟨x,0,none⟩=false/\w.frozen? ⟨x,1,none⟩=false/\w.frozen? ⟨x,2,none⟩=false:=
 ⟨by rw[cell_of_heap h.aJ];simp,by rw[cell_of_heap h.aJ];simp,by rw[cell_of_heap h.aJ];simp,frozen_of_heap h.aJ 0,frozen_of_heap h.aJ 1,frozen_of_heap h.aJ 2⟩
theorem oB.noted (h:oB z x t rest w y vm vt)(h2:Below w.heap.size w w2){l:B}(h3:w3.ownsRow z 9 1 v' (y.trace.length+1) (xp y.trace++[.string (bs l)]))(hg:w2.grownBy w3 vt.ownBlock)
  (hf:∀b,v'.ownBlock=some b->vt.ownBlock=some b\/w2.heap.size<=b):
  oB z x t rest (w3.setCell ⟨x,2,none⟩ v') {y with trace:=y.trace++[l]} vm v'/\aN x vm vt w vm v' (w3.setCell ⟨x,2,none⟩ v'):=by
 have H:=h.below h2;obtain⟨n1,n2⟩:=h.ty.ne;have ec:some x≠vt.ownBlock:=bj H.trace H.aJ n2;have bV:w3.heap[x]?=some (.cells (vm:: .int .i64 y.live::vt::rest).toArray t (0,0)):=by rw[hg.block x H.lt ec];exact H.aJ
 have hm:=H.made.kept hg (da H.made H.trace (by decide));refine⟨⟨h.base,h.ty,?_,av hm _ (au hm bV n1),?_⟩,?_⟩
 ·rw[Aux.heap_setCell_same bV];simp
 ·have:=av h3 (a:=⟨x,2,none⟩) v' (au h3 bV n2);simpa [xp]using this
 ·refine⟨hg.os.trans h2.os,hg.tape.trans h2.tape,hg.output.trans h2.output,by simpa using jS h2.size hg.size,fun k hk h1 Oi Om=> ?_,fun _ h=> .inl h,fun b hb=> ?_⟩
  ·rw[Below.heap_setCell _ _ _ _ (by show k≠x;exact h1),hg.block k (jK hk h2.size) (fun e=>Om e.symm)];exact h2.block k hk
  ·rcases hf b hb with e|e
   ·exact .inl e
   ·exact .inr (jS h2.size e)
theorem JL (k:Nat)(os:Array Obj)(w:World):Below w.heap.size w (Go.Sort.grow (w.drewN k) os):=by
 have hd:=below_drewN (Below.refl w.heap.size w) k;refine⟨hd.os,hd.tape,hd.output,?_,fun j hj=> ?_⟩
 ·show w.heap.size<=((w.drewN k).heap++os).size
  rw[Array.size_append];have:=hd.size;omega
 ·show((w.drewN k).heap++os)[j]?=_
  rw[Array.getElem?_append_left (by have:=hd.size;omega)];exact hd.block j hj
theorem RX:(Tryz.prog.info? 9).map (fun i=>(i.zero,i.size,i.bytes))=some (some (.string ⟨#[]⟩),1,16):=by kernel_rfl
theorem RV:(Tryz.prog.info? 175).map (fun i=>(i.zero,i.size,i.bytes))=some (some (.agg #[.int .i64 0,.bool false]),2,16):=by kernel_rfl
theorem S3:Tryz.prog.globalNamed "internal/strconv.uint64pow10" =some 4:=by kernel_rfl
theorem Pow.below (h:Pow w){b:Nat}(hb:Below b w w1)(hs:11<=b):Pow w1:=by
 unfold Pow Lib.TabIs World.var? at h⊢;rw[S3]at h⊢;simp only[Option.bind_some]at h⊢;rw[hb.block _ (jK (by decide) hs)];exact h
set_option maxRecDepth 20000 in
set_option maxHeartbeats 2000000 in
theorem gd (h:oB z x t rest w y vm vt)(c:UInt8)(n:Int)(hn: -9223372036854775808<=n/\n<=9223372036854775807)(hp:Pow w)(hl:y.trace.length<=10000000):
  Calls Tryz.prog 98 #[.pointer (some ⟨x,0,none⟩),.string (bs [c]),.int .i64 n] w fun e w'=>∃vt',e=.returned (.tuple #[])/\oB z x t rest w' (y.note c n) vm vt'/\aN x vm vt w vm vt' w':=by
 obtain⟨c0,c1,c2,f0,f1,f2⟩:=h.facts;obtain⟨i,hi,A1,Ez,xX⟩:=info_parts RX;have hil:(Lib.itoa n).length<=21:=Lib.itoa_length_le n hn.1 hn.2;have hov:¬9223372036854775807<1+(Lib.itoa n).length:=by omega
 have KF:=fun w' (hp:Pow w')=>Tryz.strconv_FormatInt_10 n hn.1 hn.2 w' hp
 go_enter Tryz.func98,Tryz.ntmps98
 go_region_law (first
  |(go_simp;go_at_call 133;refine(KF w.drew hp).mono ?_;rintro e w1 ⟨rfl,hk⟩;have aw:Below w.heap.size w w1:=(by obtain⟨k,os,rfl⟩:=hk;have hb:=JL k os w.drew;exact⟨hb.os,hb.tape,hb.output,hb.size,hb.block⟩);clear hk;have H1:=h.below aw;obtain⟨d0,d1,d2,g0,g1,g2⟩:=H1.facts;have aY:Below w1.heap.size w1 (w1.alloc (.cells #[.string (bs [c]++⟨(Lib.itoa n).toArray⟩)] 9)):=(Below.refl _ _).alloc (jC _) _;have HA:=H1.below aY;obtain⟨a0,a1,a2,b0,b1,b2⟩:=HA.facts;have qu:z<=(w1.alloc (.cells #[.string (bs [c]++⟨(Lib.itoa n).toArray⟩)] 9)).heap.size:=(by have:=HA.lt;have:=HA.base;omega))
  |(refine rD (by rfl) _ _ _ (by rfl) z 9 i (.string ⟨#[]⟩) 1 16 Tryz.underlying34 hi A1 Ez xX (by rfl) (by decide) vt _ _ (by rfl) HA.trace w1.heap.size [.string (bs [c]++⟨(Lib.itoa n).toArray⟩)] (by rfl) jD (by rfl) (by intro u' hu;simp at hu;subst hu;rfl) (by decide) (by omega) qu ?_;intro g4 c4 w4 hown4 hgrow4 hat4 hlt4;have gK:w4.heap[x]?=_:=(hgrow4.block _ HA.lt (bj HA.trace HA.aJ HA.ty.ne.2)).trans HA.aJ;have r2:w4.cell? ⟨x,2,none⟩=some vt:=(by rw[cell_of_heap gK];simp);have rf2:w4.frozen? ⟨x,2,none⟩=false:=frozen_of_heap gK 2))
 all_goals go_wp2_with fail
 all_goals
  go_end0
  have e:bs [c]++⟨(Lib.itoa n).toArray⟩=bs (c::Lib.itoa n):=AF (by rw[eJ,aE];simp[ByteArray.toList_eq]);rw[e]at hown4;obtain⟨h5,h6⟩:=h.noted (aw.trans (aY.mono aw.size)) hown4 hgrow4 (fun b hb=>by
   simp only[Value.ownBlock,Option.some.injEq]at hb;subst hb;rcases hat4 with e|e
   ·exact .inl e
   ·exact .inr (by omega))
  exact⟨_,rfl,h5,h6⟩
end
end Own
namespace Own
open Go Go.RowKit Sq Aux PrjJ PrjK PrjL PrjM
def Yd.build (y:Yd)(v:Int):Yd:=Yd.note {y with made:=y.made++[(v,true)],live:=y.live+1} 43 ((y.made.length+1:Nat):Int)
def Yd.at (y:Yd)(n:Nat):Int×Bool:=y.made.getD (n-1) (0,false)
def Yd.free (y:Yd)(n:Nat):Yd:=Yd.note {y with made:=y.made.set (n-1) ((y.at n).1,false),live:=y.live-1} 45 ((n:Nat):Int)
def Yd.load (y:Yd)(n:Nat):Yd:=y.note 60 ((n:Nat):Int)
def Yd.store (y:Yd)(n:Nat)(v:Int):Yd:={y.note 62 ((n:Nat):Int)with made:=y.made.set (n-1) (v,(y.at n).2)}
theorem Rb {v:Value}{g n k c:Nat}(h:v.ownBlock=some g\/g=n):∀b,(Value.slice (some ⟨g,0,none⟩) k c).ownBlock=some b->v.ownBlock=some b\/n<=b:=fun b hb=>by
 simp only[Value.ownBlock,Option.some.injEq]at hb;subst hb;rcases h with e|e
 ·exact .inl e
 ·exact .inr (by omega)
theorem MD (x:Int×Bool):(py x).length=2:=rfl
theorem zF (l:List (Int×Bool))(j:Nat)(hj:j<l.length):(bH l)[j*2]?=some (.int .i64 (l.getD j (0,false)).1)/\(bH l)[j*2+1]?=some (.bool (l.getD j (0,false)).2):=by
 have h0:=jn py 2 MD l j 0 (by decide);have h1:=jn py 2 MD l j 1 (by decide);rw[jB hj]at h0 h1;have e:l.getD j (0,false)=l[j]:=by simp[hj]
 rw[e];exact⟨h0,h1⟩
theorem ve:∀(l:List (Int×Bool)) (j:Nat) (x:Int×Bool),bH (l.set j x)=if j<l.length then((bH l).set (j*2) (.int .i64 x.1)).set (j*2+1) (.bool x.2)else bH l
 |[],j,x=>by simp[bH]
 |b::l,0,x=>by simp[bH,py]
 |b::l,j+1,x=>by
  have ih:=ve l j x;have e:bH (b::l)=.int .i64 b.1:: .bool b.2::bH l:=rfl;have e2:bH ((b::l).set (j+1) x)=.int .i64 b.1:: .bool b.2::bH (l.set j x):=rfl;rw[e2,ih,e];by_cases hj:j<l.length
  ·rw[jb hj,jb (by simp;omega),show(j+1)*2=j*2+1+1 by omega];rfl
  ·rw[ja hj,ja (by simp;omega)]
theorem xi {l:List Value}{j:Nat}{v:Value}(h:l[j]?=some v):l.set j v=l:=by
 apply List.ext_getElem?
 intro k;rw[jd];by_cases hk:j=k
 ·subst hk;rw[jb rfl,h];split
  ·rfl
  ·rename_i hn;rw[jG (by omega)]at h;cases h
 ·rw[ja hk]
section
variable {z x:Nat} {t:TypeId} {rest:List Value} {w w1 w2 w3:World} {y:Yd} {vm vt v':Value}
theorem oB.Nh (h:oB z x t rest w y vm vt)(k:Int):oB z x t rest (w.setCell ⟨x,1,none⟩ (.int .i64 k)) {y with live:=k} vm vt/\aN x vm vt w vm vt (w.setCell ⟨x,1,none⟩ (.int .i64 k)):=by
 obtain⟨n1,n2⟩:=h.ty.ne;refine⟨⟨h.base,h.ty,?_,av h.made _ (au h.made h.aJ n1),av h.trace _ (au h.trace h.aJ n2)⟩,⟨rfl,rfl,rfl,by simp,fun j _ h1 _ _=>Below.heap_setCell _ _ _ _ (by show j≠x;exact h1),fun _ h=> .inl h,fun _ h=> .inl h⟩⟩;rw[Aux.heap_setCell_same h.aJ];simp
theorem oB.Jz (h:oB z x t rest w y vm vt)(h2:Below w.heap.size w w2){b:Int×Bool}(h3:w3.ownsRow z 175 2 v' (y.made.length+1) (bH y.made++py b))(hg:w2.grownBy w3 vm.ownBlock)
  (hf:∀b,v'.ownBlock=some b->vm.ownBlock=some b\/w2.heap.size<=b):
  oB z x t rest (w3.setCell ⟨x,0,none⟩ v') {y with made:=y.made++[b]} v' vt/\aN x vm vt w v' vt (w3.setCell ⟨x,0,none⟩ v'):=by
 have H:=h.below h2;obtain⟨n1,n2⟩:=h.ty.ne;have ec:some x≠vm.ownBlock:=bj H.made H.aJ n1;have bV:w3.heap[x]?=some (.cells (vm:: .int .i64 y.live::vt::rest).toArray t (0,0)):=by rw[hg.block x H.lt ec];exact H.aJ
 have hm:=H.trace.kept hg (da H.trace H.made (by decide));refine⟨⟨h.base,h.ty,?_,?_,av hm _ (au hm bV n2)⟩,?_⟩
 ·rw[Aux.heap_setCell_same bV];simp
 ·have:=av h3 (a:=⟨x,0,none⟩) v' (au h3 bV n1);simpa [bH]using this
 ·refine⟨hg.os.trans h2.os,hg.tape.trans h2.tape,hg.output.trans h2.output,by simpa using jS h2.size hg.size,fun k hk h1 Oi Om=> ?_,fun b hb=> ?_,fun _ h=> .inl h⟩
  ·rw[Below.heap_setCell _ _ _ _ (by show k≠x;exact h1),hg.block k (jK hk h2.size) (fun e=>Oi e.symm)];exact h2.block k hk
  ·rcases hf b hb with e|e
   ·exact .inl e
   ·exact .inr (jS h2.size e)
theorem oB.box (h:oB z x t rest w y vm vt){n:Nat}(h1:1<=n)(hn:n<=y.made.length):∃g cap,vm=.slice (some ⟨g,0,none⟩) y.made.length cap/\y.made.length<=cap/\g<w.heap.size/\w.cell? ⟨g,(n-1)*2,none⟩=some (.int .i64 (y.at n).1)/\w.cell? ⟨g,(n-1)*2+1,none⟩=some (.bool (y.at n).2)/\
  w.frozen? ⟨g,(n-1)*2,none⟩=false/\w.frozen? ⟨g,(n-1)*2+1,none⟩=false:=by
 obtain⟨g,cap,rfl,hc,hg,aD⟩:=dK h.made (by omega);obtain⟨b0,b1⟩:=zF y.made (n-1) (by omega);exact⟨g,cap,rfl,hc,hg,by rw[aD _ (by omega)];exact b0,by rw[aD _ (by omega)];exact b1,h.made.frozenAt _,h.made.frozenAt _⟩
theorem oB.Zi {g k cap:Nat}(h:oB z x t rest w y (.slice (some ⟨g,0,none⟩) k cap) vt){n:Nat}(h1:1<=n)(hn:n<=y.made.length):w.cell? ⟨g,(n-1)*2,none⟩=some (.int .i64 (y.at n).1)/\w.cell? ⟨g,(n-1)*2+1,none⟩=some (.bool (y.at n).2)/\
  w.frozen? ⟨g,(n-1)*2,none⟩=false/\w.frozen? ⟨g,(n-1)*2+1,none⟩=false:=by
 obtain⟨g',cap',e,-,-,a1,a2,a3,a4⟩:=h.box h1 hn;simp only[Value.slice.injEq,Option.some.injEq,Addr.mk.injEq,and_true]at e;obtain⟨rfl,-,-⟩:=e;exact⟨a1,a2,a3,a4⟩
theorem oB.tF {g cap:Nat}(h:oB z x t rest w y (.slice (some ⟨g,0,none⟩) y.made.length cap) vt){n:Nat}(h1:1<=n)(hn:n<=y.made.length):
  (∀v:Int,oB z x t rest (w.setCell ⟨g,(n-1)*2,none⟩ (.int .i64 v)) {y with made:=y.made.set (n-1) (v,(y.at n).2)} (.slice (some ⟨g,0,none⟩) y.made.length cap) vt/\aN x (.slice (some ⟨g,0,none⟩) y.made.length cap) vt w (.slice (some ⟨g,0,none⟩) y.made.length cap) vt (w.setCell ⟨g,(n-1)*2,none⟩ (.int .i64 v)))/\
  (∀v:Bool,oB z x t rest (w.setCell ⟨g,(n-1)*2+1,none⟩ (.bool v)) {y with made:=y.made.set (n-1) ((y.at n).1,v)} (.slice (some ⟨g,0,none⟩) y.made.length cap) vt/\aN x (.slice (some ⟨g,0,none⟩) y.made.length cap) vt w (.slice (some ⟨g,0,none⟩) y.made.length cap) vt (w.setCell ⟨g,(n-1)*2+1,none⟩ (.bool v))):=by
 obtain⟨n1,n2⟩:=h.ty.ne;obtain⟨b0,b1⟩:=zF y.made (n-1) (by omega);have Y0:x≠g:=fun e=>au h.made h.aJ n1 (by rw[e];rfl)
 have htg:vt.ownBlock≠some g:=fun e=>by
  rcases da h.trace h.made (by decide)with h0|h0
  ·rw[e]at h0;cases h0
  ·exact h0 e
 have roam:∀(o:Nat) (u:Value),aN x (.slice (some ⟨g,0,none⟩) y.made.length cap) vt w (.slice (some ⟨g,0,none⟩) y.made.length cap) vt (w.setCell ⟨g,o,none⟩ u):=fun o u=>
  ⟨rfl,rfl,rfl,by simp,fun j _ _ h2 _=>Below.heap_setCell _ _ _ _ (by show j≠g;intro e;exact h2 (by rw[e];rfl)),fun _ h=> .inl h,fun _ h=> .inl h⟩
 have aJ:∀(o:Nat) (u:Value),(w.setCell ⟨g,o,none⟩ u).heap[x]?=w.heap[x]?:=fun o u=>Below.heap_setCell _ _ _ _ (by show x≠g;exact Y0)
 constructor
 ·intro v;refine⟨⟨h.base,h.ty,by rw[aJ];exact h.aJ,?_,av h.trace _ htg⟩,roam _ _⟩;have:=(h.made.stored ((n-1)*2) (.int .i64 v)).1;have e:bH (y.made.set (n-1) (v,(y.at n).2))=(bH y.made).set ((n-1)*2) (.int .i64 v):=by
   rw[ve,jb (by omega)];refine xi ?_;rw[List.getElem?_set_ne (by omega)];exact b1
  simp only[List.length_set];rw[e];exact this
 ·intro v;refine⟨⟨h.base,h.ty,by rw[aJ];exact h.aJ,?_,av h.trace _ htg⟩,roam _ _⟩;have:=(h.made.stored ((n-1)*2+1) (.bool v)).1;have e:bH (y.made.set (n-1) ((y.at n).1,v))=(bH y.made).set ((n-1)*2+1) (.bool v):=by
   rw[ve,jb (by omega)];have:(bH y.made).set ((n-1)*2) (.int .i64 (y.at n).1)=bH y.made:=xi b0;rw[this]
  simp only[List.length_set];rw[e];exact this
end
end Own
namespace Own
open Go Go.RowKit Sq Aux PrjJ PrjK PrjL PrjM
structure Yd.Ok (y:Yd):Prop where
 made:y.made.length<=1000000
 trace:y.trace.length<=9000000
 live: -100000000<=y.live/\y.live<=100000000
 words:∀b∈y.trace,b.length<=30
def Left (z x:Nat)(t:TypeId)(rest:List Value)(w:World)(vm vt:Value)(y':Yd)(w':World):Prop:=∃vm' vt',oB z x t rest w' y' vm' vt'/\aN x vm vt w vm' vt' w'
section
variable {z x:Nat} {t:TypeId} {rest:List Value} {w:World} {y:Yd} {vm vt:Value}
theorem LO (h:oB z x t rest w y vm vt)(n:Int)(hn: -9223372036854775808<=n/\n<=9223372036854775807)(hp:Pow w)(ho:y.Ok):
  Calls Tryz.prog 104 #[.pointer (some ⟨x,0,none⟩),.int .i64 n] w fun e w'=>e=.returned (.tuple #[])/\Left z x t rest w vm vt (y.note 111 n) w':=by
 have K:=gd h 111 n hn hp (by have:=ho.trace;omega);have K2:Calls Tryz.prog 98 #[.pointer (some ⟨x,0,none⟩),.string ⟨#[111]⟩,.int .i64 n] w _:=K;go_enter Tryz.func104,Tryz.ntmps104
 go_wp2_with (go_at_call 98;refine K2.mono ?_;rintro e w1 ⟨vt',rfl,h1,r1⟩)
 go_end0
 exact⟨rfl,vm,vt',h1,r1⟩
set_option maxRecDepth 20000 in
set_option maxHeartbeats 1000000 in
theorem NJ (h:oB z x t rest w y vm vt)(v:Int)(hp:Pow w)(ho:y.Ok)(hz:11<=z):
  Calls Tryz.prog 61 #[.pointer (some ⟨x,0,none⟩),.int .i64 v] w fun e w'=>e=.returned (.int .i64 ((y.made.length+1:Nat):Int))/\Left z x t rest w vm vt (y.build v) w':=by
 obtain⟨c0,c1,c2,f0,f1,f2⟩:=h.facts;obtain⟨i,hi,A1,Ez,xX⟩:=info_parts RV;have aY:Below w.heap.size w (w.alloc (.cells #[.int .i64 v,.bool true] 175)):=(Below.refl _ _).alloc (jC _) _;have HA:=h.below aY;obtain⟨a0,a1,a2,b0,b1,b2⟩:=HA.facts;have qu:z<=(w.alloc (.cells #[.int .i64 v,.bool true] 175)).heap.size:=by have:=HA.lt;have:=HA.base;omega
 have hm:=ho.made;have hlv:=ho.live;go_enter Tryz.func61,Tryz.ntmps61
 go_wp2_with (first
  |(at_builtin;go_must (refine kh rfl _ _ 98 rfl z 175 i (.agg #[.int .i64 0,.bool false]) 2 16 Tryz.underlying98 hi A1 Ez xX rfl (by decide) vm _ _ rfl HA.made w.heap.size [.int .i64 v,.bool true] rfl jD rfl (by intro u' hu;simp at hu;rcases hu with rfl|rfl<;>rfl) (by decide) (by omega) qu ?_);intro g4 c4 w4 hown4 hgrow4 hat4 hlt4;have gK:w4.heap[x]?=_:=(hgrow4.block _ HA.lt (bj HA.made HA.aJ HA.ty.ne.1)).trans HA.aJ;have r0:w4.cell? ⟨x,0,none⟩=some vm:=(by rw[cell_of_heap gK];simp);have rf0:w4.frozen? ⟨x,0,none⟩=false:=frozen_of_heap gK 0;obtain⟨h5,h6⟩:=h.Jz (b:=(v,true)) aY hown4 hgrow4 (Rb hat4);obtain⟨d0,d1,d2,g0,g1,g2⟩:=h5.facts;obtain⟨h7,h8⟩:=h5.Nh (y.live+1);obtain⟨k0,k1,k2,l0,l1,l2⟩:=h7.facts;have hr:=h6.trans h8;have KN:Calls Tryz.prog 98 #[.pointer (some ⟨x,0,none⟩),.string ⟨#[43]⟩,.int .i64 ((y.made.length:Int)+1)] _ _:=gd h7 43 ((y.made.length+1:Nat):Int) (by omega) (hp.below (hr.below h hz (by have:=h.lt;have:=h.base;omega)) (jC _)) (by have:=ho.trace;simp only;omega))
  |(go_at_call 98;refine KN.mono ?_;rintro e w9 ⟨vt',rfl,h9,r9⟩))
 go_ret
 exact⟨rfl,_,vt',h9,hr.trans r9⟩
set_option maxRecDepth 20000 in
set_option maxHeartbeats 1000000 in
theorem AL (h:oB z x t rest w y vm vt)(n:Nat)(h1:1<=n)(hn:n<=y.made.length)(hp:Pow w)(ho:y.Ok)(hz:11<=z):
  Calls Tryz.prog 97 #[.pointer (some ⟨x,0,none⟩),.int .i64 ((n:Nat):Int)] w fun e w'=>e=.returned (.tuple #[])/\Left z x t rest w vm vt (y.free n) w':=by
 obtain⟨c0,c1,c2,f0,f1,f2⟩:=h.facts;obtain⟨g,cap,rfl,kM,hg,q0,q1,q2,q3⟩:=h.box h1 hn;obtain⟨h5,h6⟩:=(h.tF h1 hn).2 false;obtain⟨d0,d1,d2,g0,g1,g2⟩:=h5.facts;obtain⟨h7,h8⟩:=h5.Nh (y.live-1);have hr:=h6.trans h8;have hm:=ho.made;have hlv:=ho.live;have KN:Calls Tryz.prog 98 #[.pointer (some ⟨x,0,none⟩),.string ⟨#[45]⟩,.int .i64 ((n:Nat):Int)] _ _:=gd h7 45 ((n:Nat):Int) (by omega) (hp.below (hr.below h hz (by have:=h.lt;have:=h.base;omega)) (jC _)) (by have:=ho.trace;simp only;omega);have i1:(1:Int)<=n:=by omega
 have i2:(n:Int)<=y.made.length:=by omega
 have e1:((n:Int)-1).toNat=n-1:=by omega
 go_enter Tryz.func97,Tryz.ntmps97
 go_wp2_with (go_at_call 98;refine KN.mono ?_;rintro e w9 ⟨vt',rfl,h9,r9⟩)
 go_end0
 exact⟨rfl,_,vt',h9,hr.trans r9⟩
set_option maxRecDepth 20000 in
set_option maxHeartbeats 1000000 in
theorem Bi (h:oB z x t rest w y vm vt)(n:Nat)(h1:1<=n)(hn:n<=y.made.length)(hp:Pow w)(ho:y.Ok):
  Calls Tryz.prog 105 #[.pointer (some ⟨x,0,none⟩),.int .i64 ((n:Nat):Int)] w fun e w'=>e=.returned (.int .i64 (y.at n).1)/\Left z x t rest w vm vt (y.load n) w':=by
 obtain⟨g,cap,rfl,kM,-⟩:=h.box h1 hn;have hm:=ho.made;have KN:Calls Tryz.prog 98 #[.pointer (some ⟨x,0,none⟩),.string ⟨#[60]⟩,.int .i64 ((n:Nat):Int)] _ _:=gd h 60 ((n:Nat):Int) (by omega) hp (by have:=ho.trace;omega);have i1:(1:Int)<=n:=by omega
 have i2:(n:Int)<=y.made.length:=by omega
 have e1:((n:Int)-1).toNat=n-1:=by omega
 go_enter Tryz.func105,Tryz.ntmps105
 go_wp2_with (go_at_call 98;refine KN.mono ?_;rintro e w9 ⟨vt',rfl,h9,r9⟩;obtain⟨c0,c1,c2,f0,f1,f2⟩:=h9.facts;have q:=h9.Zi h1 (show n<=(y.note 60 ((n:Nat):Int)).made.length from hn);have q0:w9.cell? ⟨g,(n-1)*2,none⟩=some (.int .i64 (y.at n).1):=q.1;clear q)
 go_ret
 exact⟨rfl,_,vt',h9,r9⟩
set_option maxRecDepth 20000 in
set_option maxHeartbeats 1000000 in
theorem yl (h:oB z x t rest w y vm vt)(n:Nat)(h1:1<=n)(hn:n<=y.made.length)(v:Int)(hp:Pow w)(ho:y.Ok):
  Calls Tryz.prog 106 #[.pointer (some ⟨x,0,none⟩),.int .i64 ((n:Nat):Int),.int .i64 v] w fun e w'=>e=.returned (.tuple #[])/\Left z x t rest w vm vt (y.store n v) w':=by
 obtain⟨g,cap,rfl,kM,-⟩:=h.box h1 hn;have hm:=ho.made;have KN:Calls Tryz.prog 98 #[.pointer (some ⟨x,0,none⟩),.string ⟨#[62]⟩,.int .i64 ((n:Nat):Int)] _ _:=gd h 62 ((n:Nat):Int) (by omega) hp (by have:=ho.trace;omega);have i1:(1:Int)<=n:=by omega
 have i2:(n:Int)<=y.made.length:=by omega
 have e1:((n:Int)-1).toNat=n-1:=by omega
 go_enter Tryz.func106,Tryz.ntmps106
 go_wp2_with (go_at_call 98;refine KN.mono ?_;rintro e w9 ⟨vt',rfl,h9,r9⟩;obtain⟨c0,c1,c2,f0,f1,f2⟩:=h9.facts;have q:=h9.Zi h1 (show n<=(y.note 62 ((n:Nat):Int)).made.length from hn);have q0:w9.cell? ⟨g,(n-1)*2,none⟩=some (.int .i64 (y.at n).1):=q.1;have q2:=q.2.2.1;clear q;obtain⟨V6,r10⟩:=(oB.tF (y:=y.note 62 ((n:Nat):Int)) h9 h1 hn).1 v)
 go_end0
 exact⟨rfl,_,vt',V6,r9.trans r10⟩
end
end Own
namespace Own
open Go Go.RowKit Sq Aux PrjJ PrjK PrjL PrjM
theorem ff:(Tryz.prog.info? 47).map (fun i=>i.size)=some 4:=by kernel_rfl
def Yd.text (y:Yd):B:=Lib.join y.trace [32]
theorem Ha:∀(l:List B),(∀b∈l,b.length<=30)->(Lib.join l [32]).length<=31*l.length
 |[],_=>by simp[Lib.join,List.intercalate]
 |[a],h=>by
  have:=h a (by simp);rw[Lib.join_one];simp;omega
 |a::b::l,h=>by
  have ih:=Ha (b::l) (fun x hx=>h x (jN _ hx));have h1:=h a (by simp);have e:Lib.join (a::b::l) [32]=a++([32]++Lib.join (b::l) [32]):=by simp[Lib.join,List.intercalate,List.intersperse]
  rw[e,jV,jV];simp only[List.length_cons,List.length_nil]at ih⊢;omega
theorem MF (b:B):(bs b).data.toList=b:=by simp[bs]
section
variable {z x:Nat} {t:TypeId} {rest:List Value} {w:World} {y:Yd} {vm vt:Value}
theorem R6 {tr:List B}(h:w.ownsRow z 9 1 vt tr.length (xp tr))(hl:tr.length<=9000000)(hw:∀b∈tr,b.length<=30):
  Calls Tryz.prog 83 #[vt,.string ⟨#[32]⟩] w fun e w'=>e=.returned (.string (bs (Lib.join tr [32])))/\Below w.heap.size w w':=by
 cases tr with
 |nil=>
  have h':∃ad c,vt=.slice ad 0 c:=by
   rcases h.2 with⟨e,-⟩|⟨g,cap,cur,e,-⟩
   ·exact⟨none,0,e⟩
   ·exact⟨_,cap,e⟩
  obtain⟨ad,c,rfl⟩:=h';refine(Tryz.strings_Join_none ad c ⟨#[32]⟩ w).mono fun e w' ⟨he,hw'⟩=>⟨?_,by rw[hw'];exact Below.refl _ _⟩
  rw[he];rfl
 |cons a r=>
  obtain⟨g,cap,rfl,hc,hg,aD⟩:=dK h (by simp);have hlen:=Ha (a::r) hw;have K:=Tryz.strings_Join g 0 cap ((a::r).map bs) ⟨#[32]⟩ w (fun j v hv=>by
   rw[jJ,Option.map_eq_some_iff]at hv;obtain⟨b,hb,rfl⟩:=hv;have hj:j<(a::r).length:=by
    by_cases hj:j<(a::r).length
    ·exact hj
    ·rw[jG (by omega)]at hb;cases hb
   rw[Nat.zero_add,aD j (by omega),xp,jJ,hb];rfl) hg (by rw[jc];omega) (by rw[jc];exact hc) (by
    have e:((a::r).map bs).map (fun x=>x.data.toList)=a::r:=by
     rw[List.map_map];have:((fun x:ByteArray=>x.data.toList)∘bs)=id:=funext MF;rw[this,List.map_id]
    rw[e];show(Lib.join (a::r) [32]).length<=_
    omega)
  rw[jc]at K;refine K.mono fun e w' ⟨he,hw'⟩=>⟨?_,hw'⟩
  rw[he];have e:((a::r).map bs).map (fun x=>x.data.toList)=a::r:=by
   rw[List.map_map];have:((fun x:ByteArray=>x.data.toList)∘bs)=id:=funext MF;rw[this,List.map_id]
  rw[e];rfl
set_option maxRecDepth 20000 in
set_option maxHeartbeats 1000000 in
theorem pW (h:oB z x t rest w y vm vt)(o v:Int)(ho:y.Ok):
  Calls Tryz.prog 66 #[.pointer (some ⟨x,0,none⟩),.int .i64 o,.int .i64 v] w fun e w'=>e=.returned (.agg #[.int .i64 o,.int .i64 v,.string (bs y.text),.int .i64 y.live])/\Below w.heap.size w w':=by
 have aY:Below w.heap.size w (w.alloc (.cells #[.int .i64 0,.int .i64 0,.string ⟨#[]⟩,.int .i64 0] 47)):=(Below.refl _ _).alloc (jC _) _;have HA:=h.below aY;obtain⟨a0,a1,a2,-⟩:=HA.facts;have KJ:=R6 (w:=(w.alloc (.cells #[.int .i64 0,.int .i64 0,.string ⟨#[]⟩,.int .i64 0] 47)).drew) HA.trace ho.trace ho.words;have hn:=World.ownsRow.lt HA.trace;go_enter Tryz.func66,Tryz.ntmps66
 go_wp2
 go_region_with (go_at_call 83;refine KJ.mono ?_;rintro e w1 ⟨rfl,aw⟩;have bU:Below (w.alloc (.cells #[.int .i64 0,.int .i64 0,.string ⟨#[]⟩,.int .i64 0] 47)).heap.size (w.alloc (.cells #[.int .i64 0,.int .i64 0,.string ⟨#[]⟩,.int .i64 0] 47)) w1:=⟨aw.os,aw.tape,aw.output,aw.size,aw.block⟩;obtain⟨d0,d1,d2,-⟩:=(HA.below bU).facts;have hR:w1.heap[w.heap.size]?=some (.cells #[.int .i64 0,.int .i64 0,.string ⟨#[]⟩,.int .i64 0] 47 (0,0)):=(bU.block _ (by simp)).trans jD;have r0:w1.cell? ⟨w.heap.size,0,none⟩=some (.int .i64 0):=(by rw[cell_of_heap hR];rfl);have r1:w1.cell? ⟨w.heap.size,1,none⟩=some (.int .i64 0):=(by rw[cell_of_heap hR];rfl);have r2:w1.cell? ⟨w.heap.size,2,none⟩=some (.string ⟨#[]⟩):=(by rw[cell_of_heap hR];rfl);have r3:w1.cell? ⟨w.heap.size,3,none⟩=some (.int .i64 0):=(by rw[cell_of_heap hR];rfl);have rf:=frozen_of_heap hR;have rf0:=rf 0;have rf1:=rf 1;have rf2:=rf 2;have rf3:=rf 3;clear rf)
 all_goals go_wp2_with fail
 all_goals
  have e1:=Aux.heap_setCell_same hR 0 (.int .i64 o);have e2:=Aux.heap_setCell_same e1 1 (.int .i64 v);have e3:=Aux.heap_setCell_same e2 2 (.string (bs (Lib.join y.trace [32])));have e4:=Aux.heap_setCell_same e3 3 (.int .i64 y.live);refine bodyPost_ret (dQ Tryz.results66 _ _ _ w.heap.size [.int .i64 o,.int .i64 v,.string (bs (Lib.join y.trace [32])),.int .i64 y.live] _ rfl (fun j u hu=>by rw[Nat.zero_add,cell_of_heap e4];simpa using hu) Tryz.underlying47 rfl ff) rfl ?_;refine⟨rfl,?_⟩;have hB:=aY.trans (bU.mono aY.size);have hT:=((((bw.refl w.heap.size w1).setCell 0 (.int .i64 o)).setCell 1 (.int .i64 v)).setCell 2 (.string (bs (Lib.join y.trace [32])))).setCell 3 (.int .i64 y.live);exact hB.trans (hT.below (jC _) hB.size)
end
end Own
namespace PrjN
open Go Go.RowKit Sq Aux PrjF PrjG PrjH PrjI PrjJ PrjK PrjL
def dX (raw:Bool)(L:List B)(w:World)(e:Ending)(w':World):Prop:=
 Below w.heap.size w w'/\match aG raw (L.map (split 32)) ⟨0,0,0⟩ 0 with
  |(_,_,some k)=>e=.returned (.tuple #[.slice none 0 0,.int .i64 (k:Nat),.bool false])
  |(S,o,none)=>∃v vs,e=.returned (.tuple #[v,.int .i64 (L.length:Nat),.bool (decide (o.sec=2))])/\cS w.heap.size w' v S vs
theorem dX.bad {raw:Bool}{L:List B}{w w':World}{k:Nat}(hb:Below w.heap.size w w')(h:(aG raw (L.map (split 32)) ⟨0,0,0⟩ 0).2.2=some k):dX raw L w (.returned (.tuple #[.slice none 0 0,.int .i64 (k:Nat),.bool false])) w':=by
 refine⟨hb,?_⟩;generalize aG raw (L.map (split 32)) ⟨0,0,0⟩ 0=R at h;obtain⟨S,o,x⟩:=R;simp only at h;subst h;rfl
theorem dX.ml {raw:Bool}{L:List B}{w w':World}{S:List (Nat×List B)}{o:fk}{v:Value}{vs:List Value}(hb:Below w.heap.size w w')(h:aG raw (L.map (split 32)) ⟨0,0,0⟩ 0=(S,o,none))(hs:cS w.heap.size w' v S vs):dX raw L w (.returned (.tuple #[v,.int .i64 (L.length:Nat),.bool (decide (o.sec=2))])) w':=by
 refine⟨hb,?_⟩;rw[h];exact⟨v,vs,rfl,hs⟩
theorem P3 {w:World}{u:Value}{L:List B}(h:fO w u L):u.oneCell'=true:=by
 obtain⟨g,o,cap,rfl,-⟩:=h;rfl
theorem Vz {n:Int}{u:Value}(h:u.oneCell'=true):∀u'∈[Value.int .i64 n,u],u'.oneCell'=true:=by
 intro u' hu;simp at hu;rcases hu with rfl|rfl
 ·rfl
 ·exact h
theorem Mo {b:Nat}{w w':World}{v:Value}{L:List B}(h:fO w v L)(hb:bw b w w'){raw:Bool}{ln mb:Nat}{o:fk}(ho:dq w b raw ln mb o):fO w' v L:=
 qd h fun g cs f hg=>hb.block g (lt_of_heap hg) (fun x=>by
  subst x;unfold dq at ho;rw[ho]at hg;simp only[Option.some.injEq,Obj.cells.injEq]at hg;exact absurd hg.2.1 (by decide))
theorem LY {b:Nat}{w w':World}{x y:Value}(hb:bw b (w.alloc (.cells #[x,y] 240)) w')(ec:b<w.heap.size):w'.cell? ⟨w.heap.size,0,none⟩=some x/\w'.cell? ⟨w.heap.size,1,none⟩=some y:=by
 have h0:(w.alloc (.cells #[x,y] 240)).heap[w.heap.size]?=some (.cells #[x,y] 240 (0,0)):=jD;have h1:w'.heap[w.heap.size]?=some (.cells #[x,y] 240 (0,0)):=(hb.block _ (lt_of_heap h0) (by omega)).trans h0;exact⟨by rw[cell_of_heap h1];rfl,by rw[cell_of_heap h1];rfl⟩
theorem Oq:(Tryz.prog.info? 240).map (fun i=>(i.zero,i.size,i.bytes))=some (some (.agg #[.int .i64 0,.slice none 0 0]),2,32):=by kernel_rfl
set_option maxRecDepth 20000 in
set_option maxHeartbeats 1000000 in
theorem yi (raw:Bool)(ln g cap:Nat)(L:List B)(w:World)(hL:L.length<=4000)(_hcap:L.length<=cap)(hg:g<w.heap.size)(aD:∀j,j<L.length->w.cell? ⟨g,j,none⟩=some (.string (bs (word L j))))(hlen:∀j,(word L j).length<=1048576)(E:Env w):
  Calls Tryz.prog 115 #[.agg #[.bool raw,.int .i64 ln,.int .i64 (if raw then 2000 else 20:Nat)],.slice (some ⟨g,0,none⟩) L.length cap] w (dX raw L w):=by
 obtain⟨i0,Z3,A1,Ez,xX⟩:=info_parts Oq;have KA:=fun(op:Nat) (o:fk) (w':World)=>JC raw ln (w.heap.size+1) op o w'
 generalize (if raw then 2000 else 20:Nat)=mb at KA⊢;have fC:Below w.heap.size w ((w.alloc (.cells #[.bool raw,.int .i64 ln,.int .i64 mb] 130)).alloc (.cells #[.bool raw,.int .i64 ln,.int .i64 mb,.int .i64 0,.int .i64 0,.int .i64 0] 238)):=((Below.refl _ _).alloc (jC _) _).alloc (by simp) _;have V8:dq ((w.alloc (.cells #[.bool raw,.int .i64 ln,.int .i64 mb] 130)).alloc (.cells #[.bool raw,.int .i64 ln,.int .i64 mb,.int .i64 0,.int .i64 0,.int .i64 0] 238)) (w.heap.size+1) raw ln mb ⟨0,0,0⟩:=by
  unfold dq;rw[show w.heap.size+1=(w.alloc (.cells #[.bool raw,.int .i64 ln,.int .i64 mb] 130)).heap.size by simp];exact jD
 go_enter Tryz.func115,Tryz.ntmps115
 go_wp2
 go_loopw [4,16] (fun v i wr=>∃(k:Nat) (done:List (Nat×List B)) (o:fk) (vs:List Value),k<=L.length/\i=.int .i64 k/\dq wr (w.heap.size+1) raw ln mb o/\cS w.heap.size wr v done vs/\Below w.heap.size w wr/\Hid (mR raw (L.map (split 32)) k done o)) (fun _ i _=>L.length-(intOf i).toNat)
 case atStart=>exact⟨0,[],⟨0,0,0⟩,[],jQ _,rfl,V8,cS.nil _ _,fC,mR.start raw _⟩
 case round=>
  obtain⟨k,done,o,vs,hk,rfl,hO,hS,hB,HA⟩:=hrel;clear fC V8;by_cases aL:k<L.length
  ·have TX:wr.cell? ⟨g,k,none⟩=some (.string (bs (word L k))):=(hB.cell (p:=⟨g,k,none⟩) hg).trans (aD k aL);have KS:=BK (word L k) wr (hlen k) (E.on hB);have xt:k<(L.map (split 32)).length:=by simpa using aL
   have GS:Hid ((L.map (split 32))[k]=split 32 (word L k)):=by
    unfold Hid;simp[word,aL]
   have ly:w.heap.size+1<wr.heap.size:=lt_of_heap hO;cases hx:eQ (split 32 (word L k))with
   |none=>
    have Xt:=HA.out.bad xt (by rw[GS.out];exact hx);unfold me at KS;rw[hx]at KS;clear hx;go_wp2_with (go_at_call 163;refine KS.mono ?_;rintro e w1 ⟨aw,rfl⟩)
    go_ret3
    exact dX.bad ((hB.trans (aw.mono hB.size)).alloc (jS hB.size aw.size) _) Xt
   |some x=>
    obtain⟨-,XP⟩:=tE hx;have ax:=oX XP;have xR:=HA.out.fe;have Wk:=HA.out.len;unfold me at KS;rw[hx]at KS
    replace KS:Calls Tryz.prog 163 #[.string (bs (word L k))] wr fun e w'=>Below wr.heap.size wr w'/\∃gw ow cw,e=.returned (.tuple #[.agg #[.int .i64 (x.1:Nat),.slice (some ⟨gw,ow,none⟩) x.2.length cw],.bool true])/\fO w' (.slice (some ⟨gw,ow,none⟩) x.2.length cw) x.2:=
     KS.mono fun e w' ⟨h1,v,h2,h3⟩=>by
      have Zm:=h3;obtain⟨gw,ow,cw,rfl,-⟩:=Zm;exact⟨h1,gw,ow,cw,h2,h3⟩
    cases ha:(aQ raw o x.1).2 with
    |false=>
     have Xt:=HA.out.out xt (by rw[GS.out];exact hx) ha;have KB:∀w',dq w' (w.heap.size+1) raw ln mb o->w.heap.size+1<w'.heap.size->Calls Tryz.prog 164 #[.pointer (some ⟨w.heap.size+1,0,none⟩),.int .i64 x.1] w' fun e w''=>e=.returned (.bool false)/\dq w'' (w.heap.size+1) raw ln mb (aQ raw o x.1).1/\bw (w.heap.size+1) w' w'':=fun w' h1 h2=>by
      have:=KA x.1 o w' h1 ax (by omega) (by omega) h2;unfold fh at this
      rwa [ha]at this
     clear hx ha XP Wk xR KA;go_wp2_with (first
      |(go_at_call 163;refine KS.mono ?_;rintro e w1 ⟨aw,gw,ow,cw,rfl,hu⟩;have qu:w.heap.size+1<(w1.alloc (.cells #[.int .i64 (x.1:Nat),.slice (some ⟨gw,ow,none⟩) x.2.length cw] 240)).heap.size:=(by have:=aw.size;simp;omega);have Zr:=hO.below (aw.alloc aw.size (.cells #[.int .i64 (x.1:Nat),.slice (some ⟨gw,ow,none⟩) x.2.length cw] 240)) ly)
      |(go_at_call 164;refine(KB _ Zr qu).mono ?_;rintro e w2 ⟨rfl,iN,qs⟩))
     go_ret3
     exact dX.bad ((hB.trans ((aw.alloc aw.size _).mono hB.size)).trans (qs.below (by omega) (by omega))) Xt
    |true=>
     have HA2:Hid (mR raw (L.map (split 32)) (k+1) (done++[x]) (aQ raw o x.1).1):=HA.out.on xt (by rw[GS.out];exact hx) ha;have KB:∀w',dq w' (w.heap.size+1) raw ln mb o->w.heap.size+1<w'.heap.size->Calls Tryz.prog 164 #[.pointer (some ⟨w.heap.size+1,0,none⟩),.int .i64 x.1] w' fun e w''=>e=.returned (.bool true)/\dq w'' (w.heap.size+1) raw ln mb (aQ raw o x.1).1/\bw (w.heap.size+1) w' w'':=fun w' h1 h2=>by
      have:=KA x.1 o w' h1 ax (by omega) (by omega) h2;unfold fh at this
      rwa [ha]at this
     clear hx ha XP xR KA;go_wp2_with (first
      |(go_at_call 163;refine KS.mono ?_;rintro e w1 ⟨aw,gw,ow,cw,rfl,hu⟩;have qu:w.heap.size+1<(w1.alloc (.cells #[.int .i64 (x.1:Nat),.slice (some ⟨gw,ow,none⟩) x.2.length cw] 240)).heap.size:=(by have:=aw.size;simp;omega);have Zr:=hO.below (aw.alloc aw.size (.cells #[.int .i64 (x.1:Nat),.slice (some ⟨gw,ow,none⟩) x.2.length cw] 240)) ly)
      |(go_at_call 164;refine(KB _ Zr qu).mono ?_;rintro e w2 ⟨rfl,iN,qs⟩;have hsb:=LY qs (by have:=aw.size;omega);obtain⟨Ol,lx⟩:=hsb;have Jo:=(hS.below (aw.alloc aw.size (.cells #[.int .i64 (x.1:Nat),.slice (some ⟨gw,ow,none⟩) x.2.length cw] 240))).qb qs Zr;have YX:=P3 hu;have hbs:w.heap.size<=w2.heap.size:=(by have:=qs.size;omega))
      |(at_builtin;go_must (refine kh rfl _ _ 193 rfl w.heap.size 240 i0 (.agg #[.int .i64 0,.slice none 0 0]) 2 32 Tryz.underlying193 Z3 A1 Ez xX rfl (by decide) _ _ _ rfl (ay Jo.row ((Below.refl _ _).alloc (jC _) (.cells #[.int .i64 (x.1:Nat),.slice (some ⟨gw,ow,none⟩) x.2.length cw] 240))) w2.heap.size [.int .i64 (x.1:Nat),.slice (some ⟨gw,ow,none⟩) x.2.length cw] rfl jD rfl (Vz YX) (by decide) (by omega) (by simp;omega) ?_);intro g3 c3 w3 hown3 hgrow3 hat3 hlt3))
     go_roundw
     case rel=>
      have Jp:Below w2.heap.size w2 (w2.alloc (.cells #[.int .i64 (x.1:Nat),.slice (some ⟨gw,ow,none⟩) x.2.length cw] 240)):=(Below.refl _ _).alloc (jC _) _;have mn:Below w.heap.size w w2:=(hB.trans ((aw.alloc aw.size _).mono hB.size)).trans (qs.below (by omega) (by omega));have hu2:=Mo (hu.below ((Below.refl _ _).alloc (jC _) (.cells #[.int .i64 (x.1:Nat),.slice (some ⟨gw,ow,none⟩) x.2.length cw] 240))) qs Zr;have hOE:=iN.below Jp (lt_of_heap iN);have Wl:=Jo.more x hu2 Jp hown3 hgrow3;rw[Wk]at Wl;refine⟨k+1,done++[x],(aQ raw o x.1).1,vs++[.slice (some ⟨gw,ow,none⟩) x.2.length cw],by omega,by go_num,?_,Wl,fu mn (jC _) mn.size Jo.row hgrow3,HA2⟩;unfold dq at hOE⊢;rw[hgrow3.block _ (lt_of_heap hOE) (bj (ay Jo.row Jp) hOE (by decide))];exact hOE
     case measure=>simp[intOf];omega
  ·have hw:=HA.out.whole (by simpa using aL);have KD:=fun w' (h:dq w' (w.heap.size+1) raw ln mb o)=>QQ raw ln mb (w.heap.size+1) o w' h
   go_wp2_with (go_at_call 165;refine(KD _ hO).mono ?_;rintro e wd ⟨rfl,rfl⟩)
   go_ret3
   exact dX.ml hB hw hS
end PrjN
end Go.Proofs.YtmlgajhhnojdjaaGreatDoor

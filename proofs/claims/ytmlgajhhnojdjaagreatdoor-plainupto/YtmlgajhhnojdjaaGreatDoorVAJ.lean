import Derived.Test.YtmlgajhhnojdjaaGreatDoorVAI
import Derived.Deep.RegionHeld3
import Derived.Lib.ItoaLen
set_option maxHeartbeats 8000000
namespace Go.Proofs.YtmlgajhhnojdjaaGreatDoor
namespace Own
open Go Go.RowKit Sq Aux PrjJ PrjK PrjL PrjM
def Pow (w:World):Prop:=Lib.TabIs Tryz.prog w "internal/strconv.uint64pow10" .u64 Lib.pow10Tab
structure Yd where
 made:List (Int×Bool)
 live:Int
 trace:List B
def Yd.note (y:Yd)(c:UInt8)(n:Int):Yd:={y with trace:=y.trace++[c::Lib.itoa n]}
def mu (x:Int×Bool):List Value:=[.int .i64 x.1,.bool x.2]
def bO (l:List (Int×Bool)):List Value:=l.flatMap mu
def pY (l:List B):List Value:=l.map fun b=> .string (bs b)
def Cz (t:TypeId):Prop:=t=104\/t=136
structure jr (z x:Nat)(t:TypeId)(rest:List Value)(w:World)(y:Yd)(vm vt:Value):Prop where
 base:z<=x
 ty:Cz t
 aD:w.heap[x]?=some (.cells (vm:: .int .i64 y.live::vt::rest).toArray t (0,0))
 made:w.ownsRow z 175 2 vm y.made.length (bO y.made)
 trace:w.ownsRow z 9 1 vt y.trace.length (pY y.trace)
structure aI (x:Nat)(vm vt:Value)(w:World)(vm' vt':Value)(w':World):Prop where
 os:w'.os=w.os
 tape:w'.tape=w.tape
 output:w'.output=w.output
 size:w.heap.size<=w'.heap.size
 block:∀k,k<w.heap.size->k≠x->vm.ownBlock≠some k->vt.ownBlock≠some k->w'.heap[k]?=w.heap[k]?
 fm:∀b,vm'.ownBlock=some b->vm.ownBlock=some b\/w.heap.size<=b
 ft:∀b,vt'.ownBlock=some b->vt.ownBlock=some b\/w.heap.size<=b
section
variable {z x:Nat} {t:TypeId} {rest:List Value} {w w1 w2 w3:World} {y:Yd} {vm vt vm1 vt1 vm2 vt2 v':Value}
theorem aI.refl (x:Nat)(vm vt:Value)(w:World):aI x vm vt w vm vt w:=⟨rfl,rfl,rfl,jC _,fun _ _ _ _ _=>rfl,fun _ h=> .inl h,fun _ h=> .inl h⟩
theorem aI.trans (h:aI x vm vt w vm1 vt1 w1)(h':aI x vm1 vt1 w1 vm2 vt2 w2):aI x vm vt w vm2 vt2 w2:=by
 refine⟨h'.os.trans h.os,h'.tape.trans h.tape,h'.output.trans h.output,jS h.size h'.size,fun k hk h1 h2 h3=> ?_,fun b hb=> ?_,fun b hb=> ?_⟩
 ·refine(h'.block k (jK hk h.size) h1 (fun e=> ?_) (fun e=> ?_)).trans (h.block k hk h1 h2 h3)
  ·rcases h.fm k e with e'|e'
   ·exact h2 e'
   ·omega
  ·rcases h.ft k e with e'|e'
   ·exact h3 e'
   ·omega
 ·rcases h'.fm b hb with e|e
  ·exact h.fm b e
  ·exact .inr (jS h.size e)
 ·rcases h'.ft b hb with e|e
  ·exact h.ft b e
  ·exact .inr (jS h.size e)
theorem aI.of (h:Below w.heap.size w w1):aI x vm vt w vm vt w1:=⟨h.os,h.tape,h.output,h.size,fun k hk _ _ _=>h.block k hk,fun _ h=> .inl h,fun _ h=> .inl h⟩
theorem jr.lt (h:jr z x t rest w y vm vt):x<w.heap.size:=lt_of_heap h.aD
theorem jr.below (h:jr z x t rest w y vm vt)(hb:Below w.heap.size w w1):jr z x t rest w1 y vm vt:=
 ⟨h.base,h.ty,by rw[hb.block x h.lt];exact h.aD,al h.made hb,al h.trace hb⟩
theorem Cz.ne (h:Cz t):175≠t/\9≠t:=by
 rcases h with rfl|rfl<;>decide
theorem aI.below (h:aI x vm vt w vm1 vt1 w1)(hy:jr z x t rest w y vm vt){b:Nat}(hb:b<=z)(hs:b<=w.heap.size):Below b w w1:=by
 refine⟨h.os,h.tape,h.output,h.size,fun k hk=>h.block k (by omega) (by have:=hy.base;omega) (fun e=> ?_) (fun e=> ?_)⟩
 ·have:=(hy.made.lt k e).1;omega
 ·have:=(hy.trace.lt k e).1;omega
theorem jr.facts (h:jr z x t rest w y vm vt):w.cell? ⟨x,0,none⟩=some vm/\w.cell? ⟨x,1,none⟩=some (.int .i64 y.live)/\w.cell? ⟨x,2,none⟩=some vt/\w.frozen? ⟨x,0,none⟩=false/\w.frozen? ⟨x,1,none⟩=false/\w.frozen? ⟨x,2,none⟩=false:=
 ⟨by rw[cell_of_heap h.aD];simp,by rw[cell_of_heap h.aD];simp,by rw[cell_of_heap h.aD];simp,frozen_of_heap h.aD 0,frozen_of_heap h.aD 1,frozen_of_heap h.aD 2⟩
theorem jr.RS (h:jr z x t rest w y vm vt)(h2:Below w.heap.size w w2){l:B}(h3:w3.ownsRow z 9 1 v' (y.trace.length+1) (pY y.trace++[.string (bs l)]))(hg:w2.grownBy w3 vt.ownBlock)
  (hf:∀b,v'.ownBlock=some b->vt.ownBlock=some b\/w2.heap.size<=b):
  jr z x t rest (w3.setCell ⟨x,2,none⟩ v') {y with trace:=y.trace++[l]} vm v'/\aI x vm vt w vm v' (w3.setCell ⟨x,2,none⟩ v'):=by
 have H:=h.below h2;obtain⟨n1,n2⟩:=h.ty.ne;have c8:some x≠vt.ownBlock:=aF H.trace H.aD n2;have cW:w3.heap[x]?=some (.cells (vm:: .int .i64 y.live::vt::rest).toArray t (0,0)):=by rw[hg.block x H.lt c8];exact H.aD
 have hm:=H.made.kept hg (cJ H.made H.trace (by decide));refine⟨⟨h.base,h.ty,?_,aC hm _ (az hm cW n1),?_⟩,?_⟩
 ·rw[Aux.heap_setCell_same cW];simp
 ·have:=aC h3 (a:=⟨x,2,none⟩) v' (az h3 cW n2);simpa [pY]using this
 ·refine⟨hg.os.trans h2.os,hg.tape.trans h2.tape,hg.output.trans h2.output,by simpa using jS h2.size hg.size,fun k hk h1 MD JZ=> ?_,fun _ h=> .inl h,fun b hb=> ?_⟩
  ·rw[Below.heap_setCell _ _ _ _ (by show k≠x;exact h1),hg.block k (jK hk h2.size) (fun e=>JZ e.symm)];exact h2.block k hk
  ·rcases hf b hb with e|e
   ·exact .inl e
   ·exact .inr (jS h2.size e)
theorem sn (k:Nat)(os:Array Obj)(w:World):Below w.heap.size w (Go.Sort.grow (w.drewN k) os):=by
 have hd:=below_drewN (Below.refl w.heap.size w) k;refine⟨hd.os,hd.tape,hd.output,?_,fun j hj=> ?_⟩
 ·show w.heap.size<=((w.drewN k).heap++os).size
  rw[Array.size_append];have:=hd.size;omega
 ·show((w.drewN k).heap++os)[j]?=_
  rw[Array.getElem?_append_left (by have:=hd.size;omega)];exact hd.block j hj
theorem s8:(Tryz.prog.info? 9).map (fun i=>(i.zero,i.size,i.bytes))=some (some (.string ⟨#[]⟩),1,16):=by kernel_rfl
theorem It:(Tryz.prog.info? 175).map (fun i=>(i.zero,i.size,i.bytes))=some (some (.agg #[.int .i64 0,.bool false]),2,16):=by kernel_rfl
theorem I8:Tryz.prog.globalNamed "internal/strconv.uint64pow10" =some 4:=by kernel_rfl
theorem Pow.below (h:Pow w){b:Nat}(hb:Below b w w1)(hs:11<=b):Pow w1:=by
 unfold Pow Lib.TabIs World.var? at h⊢;rw[I8]at h⊢;simp only[Option.bind_some]at h⊢;rw[hb.block _ (jK (by decide) hs)];exact h
set_option maxRecDepth 20000 in
theorem l8 (h:jr z x t rest w y vm vt)(c:UInt8)(n:Int)(hn: -9223372036854775808<=n/\n<=9223372036854775807)(hp:Pow w)(hl:y.trace.length<=10000000):
  Calls Tryz.prog 98 #[.pointer (some ⟨x,0,none⟩),.string (bs [c]),.int .i64 n] w fun e w'=>∃vt',e=.returned (.tuple #[])/\jr z x t rest w' (y.note c n) vm vt'/\aI x vm vt w vm vt' w':=by
 obtain⟨c0,c1,c2,f0,f1,f2⟩:=h.facts;obtain⟨i,hi,yw,oY,oZ⟩:=info_parts s8;have SO:(Lib.itoa n).length<=21:=Lib.itoa_length_le n hn.1 hn.2;have Yp:¬9223372036854775807<1+(Lib.itoa n).length:=by omega
 have KF:=fun w' (hp:Pow w')=>Tryz.strconv_FormatInt_10 n hn.1 hn.2 w' hp
 go_enter Tryz.func98,Tryz.ntmps98
 go_region_law (first
  |(go_simp;go_at_call 133;refine(KF w.drew hp).mono ?_;rintro e w1 ⟨rfl,hk⟩;have aB:Below w.heap.size w w1:=(by obtain⟨k,os,rfl⟩:=hk;have hb:=sn k os w.drew;exact⟨hb.os,hb.tape,hb.output,hb.size,hb.block⟩);clear hk;have H1:=h.below aB;obtain⟨d0,d1,d2,g0,g1,g2⟩:=H1.facts;have aO:Below w1.heap.size w1 (w1.alloc (.cells #[.string (bs [c]++⟨(Lib.itoa n).toArray⟩)] 9)):=(Below.refl _ _).alloc (jC _) _;have HA:=H1.below aO;obtain⟨a0,a1,a2,b0,b1,b2⟩:=HA.facts;have oG:z<=(w1.alloc (.cells #[.string (bs [c]++⟨(Lib.itoa n).toArray⟩)] 9)).heap.size:=(by have:=HA.lt;have:=HA.base;omega))
  |(refine tT (by rfl) _ _ _ (by rfl) z 9 i (.string ⟨#[]⟩) 1 16 Tryz.underlying34 hi yw oY oZ (by rfl) (by decide) vt _ _ (by rfl) HA.trace w1.heap.size [.string (bs [c]++⟨(Lib.itoa n).toArray⟩)] (by rfl) jD (by rfl) (by intro u' hu;simp at hu;subst hu;rfl) (by decide) (by omega) oG ?_;intro g4 c4 w4 hown4 hgrow4 hat4 hlt4;have j5:w4.heap[x]?=_:=(hgrow4.block _ HA.lt (aF HA.trace HA.aD HA.ty.ne.2)).trans HA.aD;have r2:w4.cell? ⟨x,2,none⟩=some vt:=(by rw[cell_of_heap j5];simp);have rf2:w4.frozen? ⟨x,2,none⟩=false:=frozen_of_heap j5 2))
 all_goals go_wp2_with fail
 all_goals
  go_end0
  have e:bs [c]++⟨(Lib.itoa n).toArray⟩=bs (c::Lib.itoa n):=DH (by rw[dJ,bp];simp[ByteArray.toList_eq]);rw[e]at hown4;obtain⟨h5,h6⟩:=h.RS (aB.trans (aO.mono aB.size)) hown4 hgrow4 (fun b hb=>by
   simp only[Value.ownBlock,Option.some.injEq]at hb;subst hb;rcases hat4 with e|e
   ·exact .inl e
   ·exact .inr (by omega))
  exact⟨_,rfl,h5,h6⟩
end
end Own
namespace Own
open Go Go.RowKit Sq Aux PrjJ PrjK PrjL PrjM
def Yd.build (y:Yd)(v:Int):Yd:=Yd.note {y with made:=y.made++[(v,true)],live:=y.live+1} 43 ((y.made.length+1:Nat):Int)
def Yd.at (y:Yd)(n:Nat):Int×Bool:=y.made.getD (n-1) (0,false)
def Yd.free (y:Yd)(n:Nat):Yd:=Yd.note {y with made:=y.made.set (n-1) ((y.at n).1,false),live:=y.live-1} 45 ((n:Nat):Int)
def Yd.load (y:Yd)(n:Nat):Yd:=y.note 60 ((n:Nat):Int)
def Yd.store (y:Yd)(n:Nat)(v:Int):Yd:={y.note 62 ((n:Nat):Int)with made:=y.made.set (n-1) (v,(y.at n).2)}
theorem Hs {v:Value}{g n k c:Nat}(h:v.ownBlock=some g\/g=n):∀b,(Value.slice (some ⟨g,0,none⟩) k c).ownBlock=some b->v.ownBlock=some b\/n<=b:=fun b hb=>by
 simp only[Value.ownBlock,Option.some.injEq]at hb;subst hb;rcases h with e|e
 ·exact .inl e
 ·exact .inr (by omega)
theorem DE (x:Int×Bool):(mu x).length=2:=rfl
theorem DD (l:List (Int×Bool))(j:Nat)(hj:j<l.length):(bO l)[j*2]?=some (.int .i64 (l.getD j (0,false)).1)/\(bO l)[j*2+1]?=some (.bool (l.getD j (0,false)).2):=by
 have h0:=fk mu 2 DE l j 0 (by decide);have h1:=fk mu 2 DE l j 1 (by decide);rw[jB hj]at h0 h1;have e:l.getD j (0,false)=l[j]:=by simp[hj]
 rw[e];exact⟨h0,h1⟩
theorem x8:∀(l:List (Int×Bool)) (j:Nat) (x:Int×Bool),bO (l.set j x)=if j<l.length then((bO l).set (j*2) (.int .i64 x.1)).set (j*2+1) (.bool x.2)else bO l
 |[],j,x=>by simp[bO]
 |b::l,0,x=>by simp[bO,mu]
 |b::l,j+1,x=>by
  have ih:=x8 l j x;have e:bO (b::l)=.int .i64 b.1:: .bool b.2::bO l:=rfl;have e2:bO ((b::l).set (j+1) x)=.int .i64 b.1:: .bool b.2::bO (l.set j x):=rfl;rw[e2,ih,e];by_cases hj:j<l.length
  ·rw[jb hj,jb (by simp;omega),show(j+1)*2=j*2+1+1 by omega];rfl
  ·rw[ja hj,ja (by simp;omega)]
theorem Bo {l:List Value}{j:Nat}{v:Value}(h:l[j]?=some v):l.set j v=l:=by
 apply List.ext_getElem?
 intro k;rw[jd];by_cases hk:j=k
 ·subst hk;rw[jb rfl,h];split
  ·rfl
  ·rename_i hn;rw[jG (by omega)]at h;cases h
 ·rw[ja hk]
section
variable {z x:Nat} {t:TypeId} {rest:List Value} {w w1 w2 w3:World} {y:Yd} {vm vt v':Value}
theorem jr.Ee (h:jr z x t rest w y vm vt)(k:Int):jr z x t rest (w.setCell ⟨x,1,none⟩ (.int .i64 k)) {y with live:=k} vm vt/\aI x vm vt w vm vt (w.setCell ⟨x,1,none⟩ (.int .i64 k)):=by
 obtain⟨n1,n2⟩:=h.ty.ne;refine⟨⟨h.base,h.ty,?_,aC h.made _ (az h.made h.aD n1),aC h.trace _ (az h.trace h.aD n2)⟩,⟨rfl,rfl,rfl,by simp,fun j _ h1 _ _=>Below.heap_setCell _ _ _ _ (by show j≠x;exact h1),fun _ h=> .inl h,fun _ h=> .inl h⟩⟩;rw[Aux.heap_setCell_same h.aD];simp
theorem jr.Nd (h:jr z x t rest w y vm vt)(h2:Below w.heap.size w w2){b:Int×Bool}(h3:w3.ownsRow z 175 2 v' (y.made.length+1) (bO y.made++mu b))(hg:w2.grownBy w3 vm.ownBlock)
  (hf:∀b,v'.ownBlock=some b->vm.ownBlock=some b\/w2.heap.size<=b):
  jr z x t rest (w3.setCell ⟨x,0,none⟩ v') {y with made:=y.made++[b]} v' vt/\aI x vm vt w v' vt (w3.setCell ⟨x,0,none⟩ v'):=by
 have H:=h.below h2;obtain⟨n1,n2⟩:=h.ty.ne;have c8:some x≠vm.ownBlock:=aF H.made H.aD n1;have cW:w3.heap[x]?=some (.cells (vm:: .int .i64 y.live::vt::rest).toArray t (0,0)):=by rw[hg.block x H.lt c8];exact H.aD
 have hm:=H.trace.kept hg (cJ H.trace H.made (by decide));refine⟨⟨h.base,h.ty,?_,?_,aC hm _ (az hm cW n2)⟩,?_⟩
 ·rw[Aux.heap_setCell_same cW];simp
 ·have:=aC h3 (a:=⟨x,0,none⟩) v' (az h3 cW n1);simpa [bO]using this
 ·refine⟨hg.os.trans h2.os,hg.tape.trans h2.tape,hg.output.trans h2.output,by simpa using jS h2.size hg.size,fun k hk h1 MD JZ=> ?_,fun b hb=> ?_,fun _ h=> .inl h⟩
  ·rw[Below.heap_setCell _ _ _ _ (by show k≠x;exact h1),hg.block k (jK hk h2.size) (fun e=>MD e.symm)];exact h2.block k hk
  ·rcases hf b hb with e|e
   ·exact .inl e
   ·exact .inr (jS h2.size e)
theorem jr.box (h:jr z x t rest w y vm vt){n:Nat}(h1:1<=n)(hn:n<=y.made.length):∃g cap,vm=.slice (some ⟨g,0,none⟩) y.made.length cap/\y.made.length<=cap/\g<w.heap.size/\w.cell? ⟨g,(n-1)*2,none⟩=some (.int .i64 (y.at n).1)/\w.cell? ⟨g,(n-1)*2+1,none⟩=some (.bool (y.at n).2)/\
  w.frozen? ⟨g,(n-1)*2,none⟩=false/\w.frozen? ⟨g,(n-1)*2+1,none⟩=false:=by
 obtain⟨g,cap,rfl,hc,hg,aQ⟩:=bL h.made (by omega);obtain⟨b0,b1⟩:=DD y.made (n-1) (by omega);exact⟨g,cap,rfl,hc,hg,by rw[aQ _ (by omega)];exact b0,by rw[aQ _ (by omega)];exact b1,h.made.frozenAt _,h.made.frozenAt _⟩
theorem jr.PN {g k cap:Nat}(h:jr z x t rest w y (.slice (some ⟨g,0,none⟩) k cap) vt){n:Nat}(h1:1<=n)(hn:n<=y.made.length):w.cell? ⟨g,(n-1)*2,none⟩=some (.int .i64 (y.at n).1)/\w.cell? ⟨g,(n-1)*2+1,none⟩=some (.bool (y.at n).2)/\
  w.frozen? ⟨g,(n-1)*2,none⟩=false/\w.frozen? ⟨g,(n-1)*2+1,none⟩=false:=by
 obtain⟨g',cap',e,-,-,a1,a2,a3,a4⟩:=h.box h1 hn;simp only[Value.slice.injEq,Option.some.injEq,Addr.mk.injEq,and_true]at e;obtain⟨rfl,-,-⟩:=e;exact⟨a1,a2,a3,a4⟩
theorem jr.Jg {g cap:Nat}(h:jr z x t rest w y (.slice (some ⟨g,0,none⟩) y.made.length cap) vt){n:Nat}(h1:1<=n)(hn:n<=y.made.length):
  (∀v:Int,jr z x t rest (w.setCell ⟨g,(n-1)*2,none⟩ (.int .i64 v)) {y with made:=y.made.set (n-1) (v,(y.at n).2)} (.slice (some ⟨g,0,none⟩) y.made.length cap) vt/\aI x (.slice (some ⟨g,0,none⟩) y.made.length cap) vt w (.slice (some ⟨g,0,none⟩) y.made.length cap) vt (w.setCell ⟨g,(n-1)*2,none⟩ (.int .i64 v)))/\
  (∀v:Bool,jr z x t rest (w.setCell ⟨g,(n-1)*2+1,none⟩ (.bool v)) {y with made:=y.made.set (n-1) ((y.at n).1,v)} (.slice (some ⟨g,0,none⟩) y.made.length cap) vt/\aI x (.slice (some ⟨g,0,none⟩) y.made.length cap) vt w (.slice (some ⟨g,0,none⟩) y.made.length cap) vt (w.setCell ⟨g,(n-1)*2+1,none⟩ (.bool v))):=by
 obtain⟨n1,n2⟩:=h.ty.ne;obtain⟨b0,b1⟩:=DD y.made (n-1) (by omega);have Ls:x≠g:=fun e=>az h.made h.aD n1 (by rw[e];rfl)
 have Wp:vt.ownBlock≠some g:=fun e=>by
  rcases cJ h.trace h.made (by decide)with h0|h0
  ·rw[e]at h0;cases h0
  ·exact h0 e
 have roam:∀(o:Nat) (u:Value),aI x (.slice (some ⟨g,0,none⟩) y.made.length cap) vt w (.slice (some ⟨g,0,none⟩) y.made.length cap) vt (w.setCell ⟨g,o,none⟩ u):=fun o u=>
  ⟨rfl,rfl,rfl,by simp,fun j _ _ h2 _=>Below.heap_setCell _ _ _ _ (by show j≠g;intro e;exact h2 (by rw[e];rfl)),fun _ h=> .inl h,fun _ h=> .inl h⟩
 have aD:∀(o:Nat) (u:Value),(w.setCell ⟨g,o,none⟩ u).heap[x]?=w.heap[x]?:=fun o u=>Below.heap_setCell _ _ _ _ (by show x≠g;exact Ls)
 constructor
 ·intro v;refine⟨⟨h.base,h.ty,by rw[aD];exact h.aD,?_,aC h.trace _ Wp⟩,roam _ _⟩;have:=(h.made.stored ((n-1)*2) (.int .i64 v)).1;have e:bO (y.made.set (n-1) (v,(y.at n).2))=(bO y.made).set ((n-1)*2) (.int .i64 v):=by
   rw[x8,jb (by omega)];refine Bo ?_;rw[List.getElem?_set_ne (by omega)];exact b1
  simp only[List.length_set];rw[e];exact this
 ·intro v;refine⟨⟨h.base,h.ty,by rw[aD];exact h.aD,?_,aC h.trace _ Wp⟩,roam _ _⟩;have:=(h.made.stored ((n-1)*2+1) (.bool v)).1;have e:bO (y.made.set (n-1) ((y.at n).1,v))=(bO y.made).set ((n-1)*2+1) (.bool v):=by
   rw[x8,jb (by omega)];have:(bO y.made).set ((n-1)*2) (.int .i64 (y.at n).1)=bO y.made:=Bo b0;rw[this]
  simp only[List.length_set];rw[e];exact this
end
end Own
namespace Bal
open Go Sq Go.Proofs.YtmlgajhhnojdjaaGreatDoor.Own
def LN (n:Int)(c:UInt8):Int:=10*n+(c.toNat:Int)-48
def Y2 (l:B):Int:=(l.take 8).foldl LN 0
theorem Ni (u:Nat):(Lib.decDigits u).foldl LN 0=(u:Int):=by
 induction u using Nat.strongRecOn with
 |_ u ih=>
  by_cases h:u<10
  ·rw[Lib.decDigits,dif_pos h];simp only[List.foldl_cons,List.foldl_nil,LN,UInt8.toNat_ofNat'];omega
  ·rw[Lib.decDigits,dif_neg h,List.foldl_append,ih (u/10) (by omega)];simp only[List.foldl_cons,List.foldl_nil,LN,UInt8.toNat_ofNat'];omega
theorem Iy (u:Nat):Lib.itoa (u:Int)=Lib.decDigits u:=by
 unfold Lib.itoa;rw[ja (by omega)];simp
theorem pj (u:Nat):∀c∈Lib.decDigits u,48<=c.toNat/\c.toNat<=57:=by
 induction u using Nat.strongRecOn with
 |_ u ih=>
  intro c hc;by_cases h:u<10
  ·rw[Lib.decDigits,dif_pos h,jI]at hc;rw[hc,UInt8.toNat_ofNat'];omega
  ·rw[Lib.decDigits,dif_neg h,List.mem_append,jI]at hc;rcases hc with hc|hc
   ·exact ih _ (by omega) c hc
   ·rw[hc,UInt8.toNat_ofNat'];omega
section
variable {cs ds:List Nat} {y:Yd} {n:Nat}
end
end Bal
namespace Own
open Go Go.RowKit Sq Aux PrjJ PrjK PrjL PrjM
structure Yd.Ok (y:Yd):Prop where
 made:y.made.length<=1000000
 trace:y.trace.length<=9000000
 live: -100000000<=y.live/\y.live<=100000000
 words:∀b∈y.trace,b.length<=30
def Left (z x:Nat)(t:TypeId)(rest:List Value)(w:World)(vm vt:Value)(y':Yd)(w':World):Prop:=∃vm' vt',jr z x t rest w' y' vm' vt'/\aI x vm vt w vm' vt' w'
section
variable {z x:Nat} {t:TypeId} {rest:List Value} {w:World} {y:Yd} {vm vt:Value}
theorem C2 (h:jr z x t rest w y vm vt)(n:Int)(hn: -9223372036854775808<=n/\n<=9223372036854775807)(hp:Pow w)(ho:y.Ok):
  Calls Tryz.prog 104 #[.pointer (some ⟨x,0,none⟩),.int .i64 n] w fun e w'=>e=.returned (.tuple #[])/\Left z x t rest w vm vt (y.note 111 n) w':=by
 have K:=l8 h 111 n hn hp (by have:=ho.trace;omega);have K2:Calls Tryz.prog 98 #[.pointer (some ⟨x,0,none⟩),.string ⟨#[111]⟩,.int .i64 n] w _:=K;go_enter Tryz.func104,Tryz.ntmps104
 go_wp2_with (go_at_call 98;refine K2.mono ?_;rintro e w1 ⟨vt',rfl,h1,r1⟩)
 go_end0
 exact⟨rfl,vm,vt',h1,r1⟩
set_option maxRecDepth 20000 in
theorem Ew (h:jr z x t rest w y vm vt)(v:Int)(hp:Pow w)(ho:y.Ok)(hz:11<=z):
  Calls Tryz.prog 61 #[.pointer (some ⟨x,0,none⟩),.int .i64 v] w fun e w'=>e=.returned (.int .i64 ((y.made.length+1:Nat):Int))/\Left z x t rest w vm vt (y.build v) w':=by
 obtain⟨c0,c1,c2,f0,f1,f2⟩:=h.facts;obtain⟨i,hi,yw,oY,oZ⟩:=info_parts It;have aO:Below w.heap.size w (w.alloc (.cells #[.int .i64 v,.bool true] 175)):=(Below.refl _ _).alloc (jC _) _;have HA:=h.below aO;obtain⟨a0,a1,a2,b0,b1,b2⟩:=HA.facts;have oG:z<=(w.alloc (.cells #[.int .i64 v,.bool true] 175)).heap.size:=by have:=HA.lt;have:=HA.base;omega
 have hm:=ho.made;have Yb:=ho.live;go_enter Tryz.func61,Tryz.ntmps61
 go_wp2_with (first
  |(at_builtin;go_must (refine fF rfl _ _ 98 rfl z 175 i (.agg #[.int .i64 0,.bool false]) 2 16 Tryz.underlying98 hi yw oY oZ rfl (by decide) vm _ _ rfl HA.made w.heap.size [.int .i64 v,.bool true] rfl jD rfl (by intro u' hu;simp at hu;rcases hu with rfl|rfl<;>rfl) (by decide) (by omega) oG ?_);intro g4 c4 w4 hown4 hgrow4 hat4 hlt4;have j5:w4.heap[x]?=_:=(hgrow4.block _ HA.lt (aF HA.made HA.aD HA.ty.ne.1)).trans HA.aD;have r0:w4.cell? ⟨x,0,none⟩=some vm:=(by rw[cell_of_heap j5];simp);have rf0:w4.frozen? ⟨x,0,none⟩=false:=frozen_of_heap j5 0;obtain⟨h5,h6⟩:=h.Nd (b:=(v,true)) aO hown4 hgrow4 (Hs hat4);obtain⟨d0,d1,d2,g0,g1,g2⟩:=h5.facts;obtain⟨h7,h8⟩:=h5.Ee (y.live+1);obtain⟨k0,k1,k2,l0,l1,l2⟩:=h7.facts;have hr:=h6.trans h8;have KN:Calls Tryz.prog 98 #[.pointer (some ⟨x,0,none⟩),.string ⟨#[43]⟩,.int .i64 ((y.made.length:Int)+1)] _ _:=l8 h7 43 ((y.made.length+1:Nat):Int) (by omega) (hp.below (hr.below h hz (by have:=h.lt;have:=h.base;omega)) (jC _)) (by have:=ho.trace;simp only;omega))
  |(go_at_call 98;refine KN.mono ?_;rintro e w9 ⟨vt',rfl,h9,r9⟩))
 go_ret
 exact⟨rfl,_,vt',h9,hr.trans r9⟩
set_option maxRecDepth 20000 in
theorem sI (h:jr z x t rest w y vm vt)(n:Nat)(h1:1<=n)(hn:n<=y.made.length)(hp:Pow w)(ho:y.Ok)(hz:11<=z):
  Calls Tryz.prog 97 #[.pointer (some ⟨x,0,none⟩),.int .i64 ((n:Nat):Int)] w fun e w'=>e=.returned (.tuple #[])/\Left z x t rest w vm vt (y.free n) w':=by
 obtain⟨c0,c1,c2,f0,f1,f2⟩:=h.facts;obtain⟨g,cap,rfl,gK,hg,q0,q1,q2,q3⟩:=h.box h1 hn;obtain⟨h5,h6⟩:=(h.Jg h1 hn).2 false;obtain⟨d0,d1,d2,g0,g1,g2⟩:=h5.facts;obtain⟨h7,h8⟩:=h5.Ee (y.live-1);have hr:=h6.trans h8;have hm:=ho.made;have Yb:=ho.live;have KN:Calls Tryz.prog 98 #[.pointer (some ⟨x,0,none⟩),.string ⟨#[45]⟩,.int .i64 ((n:Nat):Int)] _ _:=l8 h7 45 ((n:Nat):Int) (by omega) (hp.below (hr.below h hz (by have:=h.lt;have:=h.base;omega)) (jC _)) (by have:=ho.trace;simp only;omega);have i1:(1:Int)<=n:=by omega
 have i2:(n:Int)<=y.made.length:=by omega
 have e1:((n:Int)-1).toNat=n-1:=by omega
 go_enter Tryz.func97,Tryz.ntmps97
 go_wp2_with (go_at_call 98;refine KN.mono ?_;rintro e w9 ⟨vt',rfl,h9,r9⟩)
 go_end0
 exact⟨rfl,_,vt',h9,hr.trans r9⟩
set_option maxRecDepth 20000 in
theorem IP (h:jr z x t rest w y vm vt)(n:Nat)(h1:1<=n)(hn:n<=y.made.length)(hp:Pow w)(ho:y.Ok):
  Calls Tryz.prog 105 #[.pointer (some ⟨x,0,none⟩),.int .i64 ((n:Nat):Int)] w fun e w'=>e=.returned (.int .i64 (y.at n).1)/\Left z x t rest w vm vt (y.load n) w':=by
 obtain⟨g,cap,rfl,gK,-⟩:=h.box h1 hn;have hm:=ho.made;have KN:Calls Tryz.prog 98 #[.pointer (some ⟨x,0,none⟩),.string ⟨#[60]⟩,.int .i64 ((n:Nat):Int)] _ _:=l8 h 60 ((n:Nat):Int) (by omega) hp (by have:=ho.trace;omega);have i1:(1:Int)<=n:=by omega
 have i2:(n:Int)<=y.made.length:=by omega
 have e1:((n:Int)-1).toNat=n-1:=by omega
 go_enter Tryz.func105,Tryz.ntmps105
 go_wp2_with (go_at_call 98;refine KN.mono ?_;rintro e w9 ⟨vt',rfl,h9,r9⟩;obtain⟨c0,c1,c2,f0,f1,f2⟩:=h9.facts;have q:=h9.PN h1 (show n<=(y.note 60 ((n:Nat):Int)).made.length from hn);have q0:w9.cell? ⟨g,(n-1)*2,none⟩=some (.int .i64 (y.at n).1):=q.1;clear q)
 go_ret
 exact⟨rfl,_,vt',h9,r9⟩
set_option maxRecDepth 20000 in
theorem Gt (h:jr z x t rest w y vm vt)(n:Nat)(h1:1<=n)(hn:n<=y.made.length)(v:Int)(hp:Pow w)(ho:y.Ok):
  Calls Tryz.prog 106 #[.pointer (some ⟨x,0,none⟩),.int .i64 ((n:Nat):Int),.int .i64 v] w fun e w'=>e=.returned (.tuple #[])/\Left z x t rest w vm vt (y.store n v) w':=by
 obtain⟨g,cap,rfl,gK,-⟩:=h.box h1 hn;have hm:=ho.made;have KN:Calls Tryz.prog 98 #[.pointer (some ⟨x,0,none⟩),.string ⟨#[62]⟩,.int .i64 ((n:Nat):Int)] _ _:=l8 h 62 ((n:Nat):Int) (by omega) hp (by have:=ho.trace;omega);have i1:(1:Int)<=n:=by omega
 have i2:(n:Int)<=y.made.length:=by omega
 have e1:((n:Int)-1).toNat=n-1:=by omega
 go_enter Tryz.func106,Tryz.ntmps106
 go_wp2_with (go_at_call 98;refine KN.mono ?_;rintro e w9 ⟨vt',rfl,h9,r9⟩;obtain⟨c0,c1,c2,f0,f1,f2⟩:=h9.facts;have q:=h9.PN h1 (show n<=(y.note 62 ((n:Nat):Int)).made.length from hn);have q0:w9.cell? ⟨g,(n-1)*2,none⟩=some (.int .i64 (y.at n).1):=q.1;have q2:=q.2.2.1;clear q;obtain⟨Sb,r10⟩:=(jr.Jg (y:=y.note 62 ((n:Nat):Int)) h9 h1 hn).1 v)
 go_end0
 exact⟨rfl,_,vt',Sb,r9.trans r10⟩
end
end Own
namespace Own
open Go Go.RowKit Sq Aux PrjJ PrjK PrjL PrjM
theorem dy:(Tryz.prog.info? 47).map (fun i=>i.size)=some 4:=by kernel_rfl
def Yd.text (y:Yd):B:=Lib.join y.trace [32]
theorem Ay:∀(l:List B),(∀b∈l,b.length<=30)->(Lib.join l [32]).length<=31*l.length
 |[],_=>by simp[Lib.join,List.intercalate]
 |[a],h=>by
  have:=h a (by simp);rw[Lib.join_one];simp;omega
 |a::b::l,h=>by
  have ih:=Ay (b::l) (fun x hx=>h x (jN _ hx));have h1:=h a (by simp);have e:Lib.join (a::b::l) [32]=a++([32]++Lib.join (b::l) [32]):=by simp[Lib.join,List.intercalate,List.intersperse]
  rw[e,jV,jV];simp only[List.length_cons,List.length_nil]at ih⊢;omega
theorem x9 (b:B):(bs b).data.toList=b:=by simp[bs]
section
variable {z x:Nat} {t:TypeId} {rest:List Value} {w:World} {y:Yd} {vm vt:Value}
theorem Ax {tr:List B}(h:w.ownsRow z 9 1 vt tr.length (pY tr))(hl:tr.length<=9000000)(hw:∀b∈tr,b.length<=30):
  Calls Tryz.prog 83 #[vt,.string ⟨#[32]⟩] w fun e w'=>e=.returned (.string (bs (Lib.join tr [32])))/\Below w.heap.size w w':=by
 cases tr with
 |nil=>
  have h':∃ad c,vt=.slice ad 0 c:=by
   rcases h.2 with⟨e,-⟩|⟨g,cap,cur,e,-⟩
   ·exact⟨none,0,e⟩
   ·exact⟨_,cap,e⟩
  obtain⟨ad,c,rfl⟩:=h';refine(Tryz.strings_Join_none ad c ⟨#[32]⟩ w).mono fun e w' ⟨he,hw'⟩=>⟨?_,by rw[hw'];exact Below.refl _ _⟩
  rw[he];rfl
 |cons a r=>
  obtain⟨g,cap,rfl,hc,hg,aQ⟩:=bL h (by simp);have hlen:=Ay (a::r) hw;have K:=Tryz.strings_Join g 0 cap ((a::r).map bs) ⟨#[32]⟩ w (fun j v hv=>by
   rw[jJ,Option.map_eq_some_iff]at hv;obtain⟨b,hb,rfl⟩:=hv;have hj:j<(a::r).length:=by
    by_cases hj:j<(a::r).length
    ·exact hj
    ·rw[jG (by omega)]at hb;cases hb
   rw[Nat.zero_add,aQ j (by omega),pY,jJ,hb];rfl) hg (by rw[jc];omega) (by rw[jc];exact hc) (by
    have e:((a::r).map bs).map (fun x=>x.data.toList)=a::r:=by
     rw[List.map_map];have:((fun x:ByteArray=>x.data.toList)∘bs)=id:=funext x9;rw[this,List.map_id]
    rw[e];show(Lib.join (a::r) [32]).length<=_
    omega)
  rw[jc]at K;refine K.mono fun e w' ⟨he,hw'⟩=>⟨?_,hw'⟩
  rw[he];have e:((a::r).map bs).map (fun x=>x.data.toList)=a::r:=by
   rw[List.map_map];have:((fun x:ByteArray=>x.data.toList)∘bs)=id:=funext x9;rw[this,List.map_id]
  rw[e];rfl
set_option maxRecDepth 20000 in
theorem kQ (h:jr z x t rest w y vm vt)(o v:Int)(ho:y.Ok):
  Calls Tryz.prog 66 #[.pointer (some ⟨x,0,none⟩),.int .i64 o,.int .i64 v] w fun e w'=>e=.returned (.agg #[.int .i64 o,.int .i64 v,.string (bs y.text),.int .i64 y.live])/\Below w.heap.size w w':=by
 have aO:Below w.heap.size w (w.alloc (.cells #[.int .i64 0,.int .i64 0,.string ⟨#[]⟩,.int .i64 0] 47)):=(Below.refl _ _).alloc (jC _) _;have HA:=h.below aO;obtain⟨a0,a1,a2,-⟩:=HA.facts;have KJ:=Ax (w:=(w.alloc (.cells #[.int .i64 0,.int .i64 0,.string ⟨#[]⟩,.int .i64 0] 47)).drew) HA.trace ho.trace ho.words;have hn:=World.ownsRow.lt HA.trace;go_enter Tryz.func66,Tryz.ntmps66
 go_wp2
 go_region_with (go_at_call 83;refine KJ.mono ?_;rintro e w1 ⟨rfl,aB⟩;have bu:Below (w.alloc (.cells #[.int .i64 0,.int .i64 0,.string ⟨#[]⟩,.int .i64 0] 47)).heap.size (w.alloc (.cells #[.int .i64 0,.int .i64 0,.string ⟨#[]⟩,.int .i64 0] 47)) w1:=⟨aB.os,aB.tape,aB.output,aB.size,aB.block⟩;obtain⟨d0,d1,d2,-⟩:=(HA.below bu).facts;have hR:w1.heap[w.heap.size]?=some (.cells #[.int .i64 0,.int .i64 0,.string ⟨#[]⟩,.int .i64 0] 47 (0,0)):=(bu.block _ (by simp)).trans jD;have r0:w1.cell? ⟨w.heap.size,0,none⟩=some (.int .i64 0):=(by rw[cell_of_heap hR];rfl);have r1:w1.cell? ⟨w.heap.size,1,none⟩=some (.int .i64 0):=(by rw[cell_of_heap hR];rfl);have r2:w1.cell? ⟨w.heap.size,2,none⟩=some (.string ⟨#[]⟩):=(by rw[cell_of_heap hR];rfl);have r3:w1.cell? ⟨w.heap.size,3,none⟩=some (.int .i64 0):=(by rw[cell_of_heap hR];rfl);have rf:=frozen_of_heap hR;have rf0:=rf 0;have rf1:=rf 1;have rf2:=rf 2;have rf3:=rf 3;clear rf)
 all_goals go_wp2_with fail
 all_goals
  have e1:=Aux.heap_setCell_same hR 0 (.int .i64 o);have e2:=Aux.heap_setCell_same e1 1 (.int .i64 v);have e3:=Aux.heap_setCell_same e2 2 (.string (bs (Lib.join y.trace [32])));have e4:=Aux.heap_setCell_same e3 3 (.int .i64 y.live);refine bodyPost_ret (cK Tryz.results66 _ _ _ w.heap.size [.int .i64 o,.int .i64 v,.string (bs (Lib.join y.trace [32])),.int .i64 y.live] _ rfl (fun j u hu=>by rw[Nat.zero_add,cell_of_heap e4];simpa using hu) Tryz.underlying47 rfl dy) rfl ?_;refine⟨rfl,?_⟩;have hB:=aO.trans (bu.mono aO.size);have hT:=((((aW.refl w.heap.size w1).setCell 0 (.int .i64 o)).setCell 1 (.int .i64 v)).setCell 2 (.string (bs (Lib.join y.trace [32])))).setCell 3 (.int .i64 y.live);exact hB.trans (hT.below (jC _) hB.size)
end
end Own
end Go.Proofs.YtmlgajhhnojdjaaGreatDoor

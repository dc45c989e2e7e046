import Derived.Test.YtmlgajhhnojdjaaGreatDoorVAL
namespace Go.Proofs.YtmlgajhhnojdjaaGreatDoor
namespace PrjQ
open Go Go.RowKit Sq Aux PrjF PrjG PrjH PrjI PrjJ PrjK PrjL PrjM PrjN PrjO PrjP
structure rU (S:List (Nat×List B)):Prop where
 jt:S.length<=4000
 op:∀j,j<S.length->(S.getD j (0,[])).1<23
 words:∀j,j<S.length->(S.getD j (0,[])).2.length=(ae (S.getD j (0,[])).1).length
 short:∀j i,(word (S.getD j (0,[])).2 i).length<=1048576
 order:∀j,j<S.length->2<=(S.getD j (0,[])).1->1<=countB (S.take j)
structure Made (nb:Nat)(S:List (Nat×List B))(k:Nat)(q:QP):Prop where
 same:aJ nb S 0 QP.empty=aJ nb (S.drop k) k q
 locals:q.locals.length<=k
 blocks:q.blocks.length=countB (S.take k)
 lines:∀j,(q.blocks.getD j []).length<=k
theorem Made.start (nb:Nat)(S:List (Nat×List B)):Made nb S 0 QP.empty:=⟨rfl,jC _,rfl,fun j=>by simp[QP.empty]⟩
section
variable {nb:Nat} {S:List (Nat×List B)} {k:Nat} {q:QP}
theorem getD_at (hk:k<S.length):S.getD k (0,[])=S[k]:=by simp[List.getD_eq_getElem?_getD,hk]
theorem Made.RY (h:Made nb S k q)(hk:k<S.length)(h0:(S.getD k (0,[])).1=0)(hf:0<=cE q.locals (word (S.getD k (0,[])).2 0)):(aJ nb S 0 QP.empty).2=some k:=by
 rw[getD_at hk]at h0 hf;rw[h.same,jE hk,aJ,jb h0,jb hf]
theorem Made.On (h:Made nb S k q)(hk:k<S.length)(h0:(S.getD k (0,[])).1=0)(hf:cE q.locals (word (S.getD k (0,[])).2 0)<0):Made nb S (k+1) (q.addLocal (word (S.getD k (0,[])).2 0,(c7 (word (S.getD k (0,[])).2 1)).getD 0)):=by
 have hc:=iJ S k hk;rw[ja (by omega)]at hc;rw[getD_at hk]at h0 hf⊢;refine⟨?_,by have:=h.locals;simp[QP.addLocal];omega,by rw[hc];exact h.blocks,fun j=>Nat.le_succ_of_le (h.lines j)⟩;rw[h.same,jE hk,aJ,jb h0,ja (by omega)]
theorem Made.block (h:Made nb S k q)(hk:k<S.length)(h0:(S.getD k (0,[])).1=1):Made nb S (k+1) q.addBlock:=by
 have hc:=iJ S k hk;rw[jb h0]at hc;rw[getD_at hk]at h0;refine⟨?_,by have:=h.locals;simp[QP.addBlock];omega,by rw[hc];simp[QP.addBlock,h.blocks],fun j=> ?_⟩
 ·rw[h.same,jE hk,aJ,ja (by omega),jb h0]
 ·have:=h.lines j;simp only[QP.addBlock,List.getD_eq_getElem?_getD,List.getElem?_append]at this⊢;split
  ·omega
  ·by_cases hj:j-q.blocks.length=0
   ·rw[hj];simp
   ·rw[jG (by simp;omega)];simp
theorem Made.unknown (h:Made nb S k q)(hk:k<S.length)(h0:2<=(S.getD k (0,[])).1)(hl:cU q.locals nb (S.getD k (0,[]))=none):(aJ nb S 0 QP.empty).2=some k:=by
 rw[getD_at hk]at h0 hl;rw[h.same,jE hk,aJ,ja (by omega),ja (by omega),hl]
theorem Made.line (h:Made nb S k q)(hk:k<S.length)(h0:2<=(S.getD k (0,[])).1){l:ab}(hl:cU q.locals nb (S.getD k (0,[]))=some l)(n:Nat)(hn:q.blocks.length=n+1):Made nb S (k+1) (q.addLine {l with num:=k}):=by
 have hc:=iJ S k hk;rw[ja (by omega)]at hc;rw[getD_at hk]at h0 hl;have hD:q.blocks.dropLast.length=n:=by simp[hn]
 have gj:q.blocks.getLastD []=q.blocks.getD n []:=by
  rw[List.getLastD_eq_getLast?,List.getLast?_eq_getElem?,hn,Nat.add_sub_cancel,jA]
 refine⟨?_,by have:=h.locals;simp[QP.addLine];omega,by rw[hc,<-h.blocks];simp[QP.addLine,hn],fun j=> ?_⟩
 ·rw[h.same,jE hk,aJ,ja (by omega),ja (by omega),hl]
 ·have h1:=h.lines j;have h2:=h.lines n;simp only[QP.addLine,gj];rw[jA,List.getElem?_append];split
  ·rename_i hj;rw[List.getElem?_dropLast,jb (by omega),<-jA];omega
  ·by_cases hj:j-q.blocks.dropLast.length=0
   ·rw[hj];simp;simp only[List.getD_eq_getElem?_getD]at h2;omega
   ·rw[jG (by simp;omega)];simp
theorem Made.whole (h:Made nb S k q)(hk:¬k<S.length):aJ nb S 0 QP.empty=(q,none):=by
 rw[h.same,jT (by omega),aJ]
end
def fb (nb:Nat)(S:List (Nat×List B))(w:World)(e:Ending)(w':World):Prop:=
 Below w.heap.size w w'/\match aJ nb S 0 QP.empty with
  |(_,some k)=>e=.returned (.tuple #[.pointer none,.int .i64 (k:Nat),.bool false])
  |(q,none)=>∃a vl vb us vss,e=.returned (.tuple #[.pointer (some ⟨a,0,none⟩),.int .i64 0,.bool true])/\fe w.heap.size a w' q vl vb us vss
theorem fb.bad {nb:Nat}{S:List (Nat×List B)}{w w':World}{k:Nat}(hb:Below w.heap.size w w')(h:(aJ nb S 0 QP.empty).2=some k):fb nb S w (.returned (.tuple #[.pointer none,.int .i64 (k:Nat),.bool false])) w':=by
 refine⟨hb,?_⟩;generalize aJ nb S 0 QP.empty=R at h;obtain⟨q,x⟩:=R;simp only at h;subst h;rfl
theorem fb.B8 {nb:Nat}{S:List (Nat×List B)}{w w':World}{q:QP}{a:Nat}{vl vb:Value}{us:List Value}{vss:List (List (Value×Value))}(hb:Below w.heap.size w w')(h:aJ nb S 0 QP.empty=(q,none))(hp:fe w.heap.size a w' q vl vb us vss):fb nb S w (.returned (.tuple #[.pointer (some ⟨a,0,none⟩),.int .i64 0,.bool true])) w':=by
 refine⟨hb,?_⟩;rw[h];exact⟨a,vl,vb,us,vss,rfl,hp⟩
theorem Cu:(Tryz.prog.info? 146).map (fun i=>(i.zero,i.size,i.bytes))=some (some (.agg #[.string ⟨#[]⟩,.int .i64 0]),2,24):=by kernel_rfl
theorem s5:(Tryz.prog.info? 106).map (fun i=>(i.zero,i.size,i.bytes))=some (some (.slice none 0 0),1,24):=by kernel_rfl
theorem oH:(Tryz.prog.info? 115).map (fun i=>(i.zero,i.size,i.bytes))=some (some (.agg #[.int .i64 0,.int .i64 0,.slice none 0 0,.int .i64 0,.int .i64 0,.slice none 0 0]),6,80):=by kernel_rfl
theorem fe.facts {z a:Nat}{w:World}{q:QP}{vl vb:Value}{us:List Value}{vss:List (List (Value×Value))}(h:fe z a w q vl vb us vss):w.cell? ⟨a,0,none⟩=some vl/\w.cell? ⟨a,1,none⟩=some vb/\w.frozen? ⟨a,0,none⟩=false/\w.frozen? ⟨a,1,none⟩=false:=
 ⟨by rw[cell_of_heap h.aD];rfl,by rw[cell_of_heap h.aD];rfl,frozen_of_heap h.aD 0,frozen_of_heap h.aD 1⟩
theorem rl {w:World}{gw ow n cw:Nat}{L:List B}(h:dO w (.slice (some ⟨gw,ow,none⟩) n cw) L):L.length<=cw/\gw<w.heap.size/\∀j,j<L.length->w.cell? ⟨gw,ow+j,none⟩=some (.string (bs (word L j))):=by
 obtain⟨g,o,cap,e,hc,⟨cs,f,hg⟩,aQ⟩:=h;simp only[Value.slice.injEq,Option.some.injEq,Addr.mk.injEq,and_true]at e;obtain⟨⟨rfl,rfl⟩,-,rfl⟩:=e;exact⟨hc,lt_of_heap hg,aQ⟩
theorem FO {n:ByteArray}{t:Int}:∀u'∈[Value.string n,Value.int .i64 t],u'.oneCell'=true:=by
 intro u' hu;simp at hu;rcases hu with rfl|rfl<;>rfl
theorem A0 {a b c d:Int}{ap an:Option Addr}{np cp nn cn:Nat}:∀u'∈[Value.int .i64 a,Value.int .i64 b,Value.slice ap np cp,Value.int .i64 c,Value.int .i64 d,Value.slice an nn cn],u'.oneCell'=true:=by
 intro u' hu;simp at hu;rcases hu with rfl|rfl|rfl|rfl|rfl|rfl<;>rfl
theorem BW {z n m k gb cb:Nat}{w w':World}{us xs:List Value}{v:Value}(hb:w.ownsRow z 106 1 (.slice (some ⟨gb,0,none⟩) (n+1) cb) m us)(ho:w.ownsRow z 115 6 v k xs)(hg:w.grownBy w' v.ownBlock)(_hm:n<m){u:Value}(hc:w.cell? ⟨gb,n,none⟩=some u):w'.cell? ⟨gb,n,none⟩=some u/\w'.frozen? ⟨gb,n,none⟩=false:=by
 rcases hb.2 with⟨e,-⟩|⟨g',cap',cur',e,-,Ck,-⟩
 ·cases e
 ·simp only[Value.slice.injEq,Option.some.injEq,Addr.mk.injEq,and_true]at e;obtain⟨rfl,-⟩:=e;have h':w'.heap[gb]?=w.heap[gb]?:=hg.block gb (lt_of_heap Ck) (aF ho Ck (by decide));exact⟨(World.cell?_of_block (a:=⟨gb,n,none⟩) h').trans hc,(World.frozen?_of_block (a:=⟨gb,n,none⟩) h').trans (frozen_of_heap Ck n)⟩
set_option maxRecDepth 20000 in
set_option maxHeartbeats 4000000 in
theorem CO {z g cap:Nat}{S:List (Nat×List B)}{vs:List Value}(w:World)(h:bT z w (.slice (some ⟨g,0,none⟩) S.length cap) S vs)(hS:rU S)(_hg:g<w.heap.size)(gK:S.length<=cap)(E:Env w):
  Calls Tryz.prog 117 #[.slice (some ⟨g,0,none⟩) S.length cap] w (fb (countB S) S w):=by
 obtain⟨il,SO,mW,vr,JX⟩:=info_parts Cu;obtain⟨ib,Ud,mV,aB,bu⟩:=info_parts s5;obtain⟨in_,lA,Up,Lf,Uq⟩:=info_parts oH;have rG:=hS.jt;have iA:=fe.start w.heap.size w (jC _);have K7:Below w.heap.size w (w.alloc (.cells #[.slice none 0 0,.slice none 0 0] 110)):=(Below.refl _ _).alloc (jC _) _;have UI:=iA;have KC:=rq (w.alloc (.cells #[.slice none 0 0,.slice none 0 0] 110)) (h.below K7) rG gK;go_enter Tryz.func117,Tryz.ntmps117
 go_wp2_with (go_at_call 167;refine KC.mono ?_;rintro e w1 ⟨rfl,iD⟩)
 have z6:=iA.below iD;have dk:Below w.heap.size w w1:=K7.trans (iD.mono K7.size);have ym:=countB_le S;go_loopw [2,19] (fun pv i wr=>∃(k:Nat) (q:QP) (vl vb:Value) (us:List Value) (vss:List (List (Value×Value))),k<=S.length/\i=.int .i64 k/\pv=.pointer (some ⟨w.heap.size,0,none⟩)/\fe w.heap.size w.heap.size wr q vl vb us vss/\Hid (vss.length=q.blocks.length)/\Below w.heap.size w wr/\Hid (Made (countB S) S k q)) (fun _ i _=>S.length-(intOf i).toNat)
 case atStart=>exact⟨0,QP.empty,_,_,[],[],jQ _,rfl,rfl,z6,rfl,dk,Made.start _ _⟩
 case round=>
  obtain⟨k,q,vl,vb,us,vss,hk,rfl,rfl,hP,HV,hB,HM⟩:=hrel;clear z6 dk iD iA UI KC K7;by_cases aP:k<S.length
  ·obtain⟨h1,gw,ow,cw,h2,hW⟩:=q8 (h.below hB) k aP;obtain⟨p0,p1,pf0,pf1⟩:=fe.facts hP;have aH:=hS.op k aP;have J0:=hS.words k aP;have vL:=hS.short k;have Ik:=hS.order k aP;have E1:=E.on hB;have T1:Hid ((S.getD k (0,[])).1=0->0<=cE q.locals (word (S.getD k (0,[])).2 0)->(aJ (countB S) S 0 QP.empty).2=some k):=HM.out.RY aP;have T2:Hid ((S.getD k (0,[])).1=0->cE q.locals (word (S.getD k (0,[])).2 0)<0->Made (countB S) S (k+1) (q.addLocal (word (S.getD k (0,[])).2 0,(c7 (word (S.getD k (0,[])).2 1)).getD 0))):=HM.out.On aP;have T3:Hid ((S.getD k (0,[])).1=1->Made (countB S) S (k+1) q.addBlock):=HM.out.block aP;have T4:Hid (2<=(S.getD k (0,[])).1->cU q.locals (countB S) (S.getD k (0,[]))=none->(aJ (countB S) S 0 QP.empty).2=some k):=HM.out.unknown aP;have T5:Hid (2<=(S.getD k (0,[])).1->∀l,cU q.locals (countB S) (S.getD k (0,[]))=some l->∀n,q.blocks.length=n+1->Made (countB S) S (k+1) (q.addLine {l with num:=k})):=fun a l b n c=>HM.out.line aP a b n c
   have Yz:=HM.out.locals;have Wc:=HM.out.blocks;have We:=HM.out.lines;clear HM;generalize S.getD k (0,[])=x at*;obtain⟨op,ws⟩:=x;simp only at h1 h2 hW aH J0 vL Ik T1 T2 T3 T4 T5;by_cases h0:op=0
   ·subst h0;have UN:ws.length=2:=J0;rw[UN]at h2 hW;obtain⟨TY,NT,aQ⟩:=rl hW;have H6:wr.cell? ⟨gw,ow,none⟩=some (.string (bs (word ws 0))):=aQ 0 (by omega);have rX:wr.cell? ⟨gw,ow+1,none⟩=some (.string (bs (word ws 1))):=aQ 1 (by omega);have qi:Below wr.heap.size wr (wr.alloc (.cells #[.int .i64 0,.slice (some ⟨gw,ow,none⟩) 2 cw] 240)):=(Below.refl _ _).alloc (jC _) _;have Wl:(wr.alloc (.cells #[.int .i64 0,.slice (some ⟨gw,ow,none⟩) 2 cw] 240)).heap.size=wr.heap.size+1:=by simp
    have EP:=hP.below qi;have KF:=zK q.locals vl vb (word ws 0) w.heap.size _ EP.aD ⟨_,EP.locals⟩ (by omega);have t1:(wr.alloc (.cells #[.int .i64 0,.slice (some ⟨gw,ow,none⟩) 2 cw] 240)).cell? ⟨wr.heap.size,1,none⟩=some (.slice (some ⟨gw,ow,none⟩) 2 cw):=by simp
    have TT:(wr.alloc (.cells #[.int .i64 0,.slice (some ⟨gw,ow,none⟩) 2 cw] 240)).cell? ⟨gw,ow,none⟩=some (.string (bs (word ws 0))):=(qi.cell (p:=⟨gw,ow,none⟩) NT).trans H6;have TU:(wr.alloc (.cells #[.int .i64 0,.slice (some ⟨gw,ow,none⟩) 2 cw] 240)).cell? ⟨gw,ow+1,none⟩=some (.string (bs (word ws 1))):=(qi.cell (p:=⟨gw,ow+1,none⟩) NT).trans rX;have T7:gw<(wr.alloc (.cells #[.int .i64 0,.slice (some ⟨gw,ow,none⟩) 2 cw] 240)).heap.size:=by omega
    have Wu:wr.heap.size<(wr.alloc (.cells #[.int .i64 0,.slice (some ⟨gw,ow,none⟩) 2 cw] 240)).heap.size:=by omega
    have qR:=hB.trans (qi.mono hB.size);by_cases hf:0<=cE q.locals (word ws 0)
    ·have hx:=T1.out rfl hf;clear T1 T2 T3 T4 T5 aQ;go_wp2_with (go_at_call 168;refine KF.mono ?_;rintro e w2 ⟨rfl,bu⟩)
     go_ret3
     exact fb.bad (qR.trans (bu.mono qR.size)) hx
    ·have GY:Hid (_):=T2.out rfl (by omega);have Pq:cE q.locals (word ws 0)<0:=by omega
     clear T1 T2 T3 T4 T5 aQ hf;have KT:=fun w' (E':Env w')=>vc (word ws 1) w' E'.types
     go_upto_region 17 with(first
      |(go_at_call 168;refine KF.mono ?_;rintro e w2 ⟨rfl,bu⟩;have t2:=(bu.cell (p:=⟨wr.heap.size,1,none⟩) Wu).trans t1;have TS:=(bu.cell (p:=⟨gw,ow,none⟩) T7).trans TT;have XS:=(bu.cell (p:=⟨gw,ow+1,none⟩) T7).trans TU;have UM:=jK Wu bu.size;have JT:=jK T7 bu.size)
      |(go_at_call 169;refine(KT _ ((E1.on qi).on bu)).mono ?_;rintro e w3 ⟨rfl,dR⟩;have t3:=(dR.cell (p:=⟨wr.heap.size,1,none⟩) UM).trans t2;have XR:=(dR.cell (p:=⟨gw,ow,none⟩) JT).trans TS))
     have OS:=(EP.below bu).below dR;obtain⟨q0,q1,qf0,qf1⟩:=fe.facts OS;have vk:=(qR.trans (bu.mono qR.size)).trans (dR.mono (qR.trans (bu.mono qR.size)).size);have aO:Below w3.heap.size w3 (w3.alloc (.cells #[.string (bs (word ws 0)),.int .i64 ((c7 (word ws 1)).getD 0:Nat)] 146)):=(Below.refl _ _).alloc (jC _) _;have oG:w.heap.size<=(w3.alloc (.cells #[.string (bs (word ws 0)),.int .i64 ((c7 (word ws 1)).getD 0:Nat)] 146)).heap.size:=jS vk.size aO.size;have mY:=al OS.locals aO;have lR:=(OS.below aO).aD;have Qn:=(fe.facts (OS.below aO)).1;have VX:Hid (_):=Yz;go_region_law (refine tT (by rfl) _ _ _ (by rfl) w.heap.size 146 il (.agg #[.string ⟨#[]⟩,.int .i64 0]) 2 24 Tryz.underlying107 SO mW vr JX (by rfl) (by decide) vl _ _ (by rfl) mY w3.heap.size [.string (bs (word ws 0)),.int .i64 ((c7 (word ws 1)).getD 0:Nat)] (by rfl) jD (by rfl) FO (by decide) (by omega) oG ?_;intro g4 c4 w4 hown4 hgrow4 hat4 hlt4;have j5:w4.heap[w.heap.size]?=_:=(hgrow4.block _ (lt_of_heap lR) (aF mY lR (by decide))).trans lR;have r0:w4.cell? ⟨w.heap.size,0,none⟩=some vl:=(by rw[cell_of_heap j5];rfl);have rf0:w4.frozen? ⟨w.heap.size,0,none⟩=false:=frozen_of_heap j5 0)
     all_goals go_wp2_with fail
     all_goals
      have jn:(w3.alloc (.cells #[.string (bs (word ws 0)),.int .i64 ((c7 (word ws 1)).getD 0:Nat)] 146)).grownBy w4 vl.ownBlock:=⟨hgrow4.os,hgrow4.tape,hgrow4.output,hgrow4.size,hgrow4.block⟩;have yj:=cq vk (jC _) vk.size OS.locals jn;exact⟨⟨k+1,_,_,vb,us,vss,by omega,by go_num,rfl,OS.addLocal (word ws 0,(c7 (word ws 1)).getD 0) aO hown4 jn,HV,yj.trans (((aW.refl _ w4).setCell 0 _).below (jC _) yj.size),GY⟩,by simp[intOf];omega⟩
   ·by_cases xz:op=1
    ·subst xz;have GY:Hid (_):=T3.out rfl;clear T1 T2 T3 T4 T5;have RJ:ws.length=0:=J0;rw[RJ]at h2;clear J0 RJ hW vL Ik;have qi:Below wr.heap.size wr (wr.alloc (.cells #[.int .i64 1,.slice (some ⟨gw,ow,none⟩) 0 cw] 240)):=(Below.refl _ _).alloc (jC _) _;have EP:=hP.below qi;obtain⟨q0,q1,qf0,qf1⟩:=fe.facts EP;have qR:=hB.trans (qi.mono hB.size);have aO:Below (wr.alloc (.cells #[.int .i64 1,.slice (some ⟨gw,ow,none⟩) 0 cw] 240)).heap.size (wr.alloc (.cells #[.int .i64 1,.slice (some ⟨gw,ow,none⟩) 0 cw] 240)) ((wr.alloc (.cells #[.int .i64 1,.slice (some ⟨gw,ow,none⟩) 0 cw] 240)).alloc (.cells #[.slice none 0 0] 106)):=(Below.refl _ _).alloc (jC _) _;have lR:=(EP.below aO).aD;have mY:=al EP.blocks aO;have BN:q.blocks.length<=4000:=by have:=countB_le (S.take k);simp at this;omega
     clear Wc;have Wl:(wr.alloc (.cells #[.int .i64 1,.slice (some ⟨gw,ow,none⟩) 0 cw] 240)).heap.size=wr.heap.size+1:=by simp
     have Ql:((wr.alloc (.cells #[.int .i64 1,.slice (some ⟨gw,ow,none⟩) 0 cw] 240)).alloc (.cells #[.slice none 0 0] 106)).heap[wr.heap.size+1]?=some (.cells #[.slice none 0 0] 106 (0,0)):=by
      rw[<-Wl];exact jD
     have Lr:=jS qR.size aO.size;go_wp2_with (at_builtin;go_must (refine fF rfl _ _ 108 rfl w.heap.size 106 ib (.slice none 0 0) 1 24 Tryz.underlying108 Ud mV aB bu rfl (by decide) vb _ _ rfl mY (wr.heap.size+1) [.slice none 0 0] rfl Ql rfl (by intro u' hu;simp at hu;subst hu;rfl) (by decide) (by omega) Lr ?_);intro g4 c4 w4 hown4 hgrow4 hat4 hlt4;have j5:w4.heap[w.heap.size]?=_:=(hgrow4.block _ (lt_of_heap lR) (aF mY lR (by decide))).trans lR;have r1:w4.cell? ⟨w.heap.size,1,none⟩=some vb:=(by rw[cell_of_heap j5];rfl);have rf1:w4.frozen? ⟨w.heap.size,1,none⟩=false:=frozen_of_heap j5 1)
     go_roundw
     case rel=>
      have yj:=cq qR (jC _) qR.size EP.blocks hgrow4;exact⟨k+1,_,vl,_,us++[.slice none 0 0],vss++[[]],by omega,by go_num,rfl,EP.addBlock HV.out aO hown4 hgrow4,by unfold Hid;simp[QP.addBlock,HV.out],yj.trans (((aW.refl _ w4).setCell 1 _).below (jC _) yj.size),GY⟩
     case measure=>simp[intOf];omega
    ·have Lk:2<=op:=by omega
     have b0:((op:Int)==0)=false:=by rw[jZ];omega
     have b1:((op:Int)==1)=false:=by rw[jZ];omega
     obtain⟨n,hn⟩:∃n,q.blocks.length=n+1:=⟨q.blocks.length-1,by have:=Ik Lk;omega⟩;have BN:n+1<=4000:=by have:=countB_le (S.take k);simp at this;omega
     obtain⟨TY,NT,aQ⟩:=rl hW;rw[J0]at h2 TY aQ;have qi:Below wr.heap.size wr (wr.alloc (.cells #[.int .i64 (op:Nat),.slice (some ⟨gw,ow,none⟩) (ae op).length cw] 240)):=(Below.refl _ _).alloc (jC _) _;have EP:=hP.below qi;have qR:=hB.trans (qi.mono hB.size);have KL:=CJ q.locals (countB S) op w.heap.size gw ow cw ws vl vb _ EP.aD ⟨_,EP.locals⟩ (by omega) (by omega) aH J0 TY (jK NT qi.size) (fun j hj=>(qi.cell (p:=⟨gw,ow+j,none⟩) NT).trans (aQ j hj)) vL (E1.on qi);unfold dZ at KL;cases hl:cU q.locals (countB S) (op,ws)with
     |none=>
      have hx:=T4.out Lk hl;rw[hl]at KL;clear T1 T2 T3 T4 T5 aQ hl Ik;go_wp2_with (go_at_call 170;refine KL.mono ?_;rintro e w2 ⟨qh,rfl⟩)
      go_ret3
      have Vm:=qR.trans (qh.mono qR.size);exact fb.bad (Vm.alloc Vm.size _) hx
     |some l=>
      have GY:Hid (_):=T5.out Lk l hl n hn;rw[hl]at KL
      replace KL:=KL.mono (R':=fun e w'=>Below (wr.alloc (.cells #[.int .i64 (op:Nat),.slice (some ⟨gw,ow,none⟩) (ae op).length cw] 240)).heap.size (wr.alloc (.cells #[.int .i64 (op:Nat),.slice (some ⟨gw,ow,none⟩) (ae op).length cw] 240)) w'/\∃ap cp an cn,e=.returned (.tuple #[.agg #[.int .i64 (l.num:Nat),.int .i64 (l.op:Nat),.slice ap l.places.length cp,.int .i64 l.number,.int .i64 l.flag,.slice an l.next.length cn],.bool true])/\aE w.heap.size w' l (.slice ap l.places.length cp) (.slice an l.next.length cn)) fun e w' ⟨h1,vp,vn,h2,h3⟩=>by
       obtain⟨ap,cp,rfl⟩:=a8 h3.places;obtain⟨an,cn,rfl⟩:=a8 h3.next;exact⟨h1,ap,cp,an,cn,h2,⟨dI h3.places qR.size,dI h3.next qR.size⟩⟩
      obtain⟨gb,cb,vy,NJ,sX,qk⟩:=bL hP.blocks (by omega);rw[hn]at vy NJ qk;subst vy;have DR:wr.cell? ⟨gb,n,none⟩=some (us.getD n undef):=by
       rw[qk n (by omega),jA,jB (by rw[hP.L9];omega)];rfl
      have Pa:wr.frozen? ⟨gb,n,none⟩=false:=by
       rcases hP.blocks.2 with⟨e,-⟩|⟨g',cap',cur',e,-,Ck,-⟩
       ·cases e
       ·simp only[Value.slice.injEq,Option.some.injEq,Addr.mk.injEq,and_true]at e;obtain⟨rfl,-⟩:=e;exact frozen_of_heap Ck n
      have cD:(q.blocks.getD n []).length<=4000:=by have:=We n;omega
      clear T1 T2 T3 T4 T5 aQ hl Ik qk We Wc;go_upto_region 12 with(go_at_call 170;refine KL.mono ?_;rintro e w2 ⟨qh,ap,cp,an,cn,rfl,Cd⟩;have k8:=EP.below qh;have ko:Below w2.heap.size w2 (w2.alloc (.cells #[.int .i64 (k:Nat),.int .i64 (l.op:Nat),.slice ap l.places.length cp,.int .i64 l.number,.int .i64 l.flag,.slice an l.next.length cn] 115)):=(Below.refl _ _).alloc (jC _) _;have EO:=k8.below ko;obtain⟨q0,q1,qf0,qf1⟩:=fe.facts EO)
      have dp:=qR.trans (qh.mono qR.size);have BG:=dp.trans (ko.mono dp.size);have zc:(w2.alloc (.cells #[.int .i64 (k:Nat),.int .i64 (l.op:Nat),.slice ap l.places.length cp,.int .i64 l.number,.int .i64 l.flag,.slice an l.next.length cn] 115)).heap[w2.heap.size]?=some (.cells #[.int .i64 (k:Nat),.int .i64 (l.op:Nat),.slice ap l.places.length cp,.int .i64 l.number,.int .i64 l.flag,.slice an l.next.length cn] 115 (0,0)):=jD;have DP:=Cd.below ko;have TO:=(ko.cell (p:=⟨gb,n,none⟩) (jK (jK sX qi.size) qh.size)).trans ((qh.cell (p:=⟨gb,n,none⟩) (jK sX qi.size)).trans ((qi.cell (p:=⟨gb,n,none⟩) sX).trans DR));have XQ:=(ko.frozen (p:=⟨gb,n,none⟩) (jK (jK sX qi.size) qh.size)).trans ((qh.frozen (p:=⟨gb,n,none⟩) (jK sX qi.size)).trans ((qi.frozen (p:=⟨gb,n,none⟩) sX).trans Pa));generalize (w2.alloc (.cells #[.int .i64 (k:Nat),.int .i64 (l.op:Nat),.slice ap l.places.length cp,.int .i64 l.number,.int .i64 l.flag,.slice an l.next.length cn] 115))=wL at*;have l0:wL.cell? ⟨w2.heap.size,0,none⟩=some (.int .i64 (k:Nat)):=by rw[cell_of_heap zc];rfl
      have l1:wL.cell? ⟨w2.heap.size,1,none⟩=some (.int .i64 (l.op:Nat)):=by rw[cell_of_heap zc];rfl
      have l2:wL.cell? ⟨w2.heap.size,2,none⟩=some (.slice ap l.places.length cp):=by rw[cell_of_heap zc];rfl
      have l3:wL.cell? ⟨w2.heap.size,3,none⟩=some (.int .i64 l.number):=by rw[cell_of_heap zc];rfl
      have l4:wL.cell? ⟨w2.heap.size,4,none⟩=some (.int .i64 l.flag):=by rw[cell_of_heap zc];rfl
      have l5:wL.cell? ⟨w2.heap.size,5,none⟩=some (.slice an l.next.length cn):=by rw[cell_of_heap zc];rfl
      have aO:Below wL.heap.size wL (wL.alloc (.cells #[.int .i64 (k:Nat),.int .i64 (l.op:Nat),.slice ap l.places.length cp,.int .i64 l.number,.int .i64 l.flag,.slice an l.next.length cn] 115)):=(Below.refl _ _).alloc (jC _) _;have oG:w.heap.size<=(wL.alloc (.cells #[.int .i64 (k:Nat),.int .i64 (l.op:Nat),.slice ap l.places.length cp,.int .i64 l.number,.int .i64 l.flag,.slice an l.next.length cn] 115)).heap.size:=jS BG.size aO.size;have mY:=al (EO.each n (by omega)).row aO;obtain⟨m,hm⟩:∃m,m=(q.blocks.getD n []).length:=⟨_,rfl⟩;rw[<-hm]at mY cD;have Hm:Hid (m=(q.blocks.getD n []).length):=hm;have T8:w.heap.size<=gb:=(hP.blocks.lt gb rfl).1;clear hm;have P7:=EO.below aO;have lR:=P7.aD;have q1A:=(fe.facts P7).2.1;have XX:gb<wL.heap.size:=by have:=qh.size;have:=qi.size;have:=ko.size;omega
      have TN:=(aO.cell (p:=⟨gb,n,none⟩) XX).trans TO;have Rx:=P7.blocks;have Ib:(n:Int)<(n:Int)+1:=by omega
      go_region_law (refine tT (by rfl) _ _ _ (by rfl) w.heap.size 115 in_ (.agg #[.int .i64 0,.int .i64 0,.slice none 0 0,.int .i64 0,.int .i64 0,.slice none 0 0]) 6 80 Tryz.underlying106 lA Up Lf Uq (by rfl) (by decide) (us.getD n undef) _ _ (by rfl) mY wL.heap.size [.int .i64 (k:Nat),.int .i64 (l.op:Nat),.slice ap l.places.length cp,.int .i64 l.number,.int .i64 l.flag,.slice an l.next.length cn] (by rfl) jD (by rfl) A0 (by decide) (by omega) oG ?_;intro g4 c4 w4 hown4 hgrow4 hat4 hlt4;have j5:w4.heap[w.heap.size]?=_:=(hgrow4.block _ (lt_of_heap lR) (aF mY lR (by decide))).trans lR;have r1:=(cell_of_heap j5 1).trans (by rfl:_=some (Value.slice (some ⟨gb,0,none⟩) (n+1) cb));have jn:(wL.alloc (.cells #[.int .i64 (k:Nat),.int .i64 (l.op:Nat),.slice ap l.places.length cp,.int .i64 l.number,.int .i64 l.flag,.slice an l.next.length cn] 115)).grownBy w4 (us.getD n undef).ownBlock:=⟨hgrow4.os,hgrow4.tape,hgrow4.output,hgrow4.size,hgrow4.block⟩;obtain⟨s1,s2⟩:=BW Rx mY jn (by omega) TN)
      all_goals go_wp2_with fail
      all_goals exact⟨⟨k+1,_,vl,_,_,_,by omega,by go_num,rfl,EO.addLine HV.out n hn {l with num:=k} _ _ ⟨DP.places,DP.next⟩ aO rfl rfl (hat4.imp id fun e=>Nat.le_of_eq e.symm) (by rw[<-Hm.out];exact hown4) jn,by unfold Hid;simp[QP.addLine,HV.out,hn],(cq BG (jC _) BG.size (EO.each n (by omega)).row jn).trans (((aW.refl _ w4).setCell n _).below T8 (cq BG (jC _) BG.size (EO.each n (by omega)).row jn).size),GY⟩,by simp[intOf];omega⟩
  ·have hw:=HM.out.whole aP;go_wp2
   go_ret3
   exact fb.B8 hB hw hP
end PrjQ
end Go.Proofs.YtmlgajhhnojdjaaGreatDoor

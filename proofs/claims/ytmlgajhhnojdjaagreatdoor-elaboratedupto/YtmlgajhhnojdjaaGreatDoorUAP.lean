import Derived.Test.YtmlgajhhnojdjaaGreatDoorUAO
set_option maxHeartbeats 8000000
namespace Go.Proofs.YtmlgajhhnojdjaaGreatDoor
namespace PrjQ
open Go Go.RowKit Sq Aux PrjF PrjG PrjH PrjI PrjJ PrjK PrjL PrjM PrjN PrjO PrjP
structure ya (S:List (Nat×List B)):Prop where
 mc:S.length<=4000
 op:∀j,j<S.length->(S.getD j (0,[])).1<23
 words:∀j,j<S.length->(S.getD j (0,[])).2.length=(ah (S.getD j (0,[])).1).length
 short:∀j i,(word (S.getD j (0,[])).2 i).length<=1048576
 order:∀j,j<S.length->2<=(S.getD j (0,[])).1->1<=countB (S.take j)
structure Made (nb:Nat)(S:List (Nat×List B))(k:Nat)(q:QP):Prop where
 same:aR nb S 0 QP.empty=aR nb (S.drop k) k q
 locals:q.locals.length<=k
 blocks:q.blocks.length=countB (S.take k)
 lines:∀j,(q.blocks.getD j []).length<=k
theorem Made.start (nb:Nat)(S:List (Nat×List B)):Made nb S 0 QP.empty:=⟨rfl,jC _,rfl,fun j=>by simp[QP.empty]⟩
section
variable {nb:Nat} {S:List (Nat×List B)} {k:Nat} {q:QP}
theorem getD_at (hk:k<S.length):S.getD k (0,[])=S[k]:=by simp[List.getD_eq_getElem?_getD,hk]
theorem Made.Yy (h:Made nb S k q)(hk:k<S.length)(h0:(S.getD k (0,[])).1=0)(hf:0<=di q.locals (word (S.getD k (0,[])).2 0)):(aR nb S 0 QP.empty).2=some k:=by
 rw[getD_at hk]at h0 hf;rw[h.same,jE hk,aR,jb h0,jb hf]
theorem Made.UU (h:Made nb S k q)(hk:k<S.length)(h0:(S.getD k (0,[])).1=0)(hf:di q.locals (word (S.getD k (0,[])).2 0)<0):Made nb S (k+1) (q.addLocal (word (S.getD k (0,[])).2 0,(fp (word (S.getD k (0,[])).2 1)).getD 0)):=by
 have hc:=lC S k hk;rw[ja (by omega)]at hc;rw[getD_at hk]at h0 hf⊢;refine⟨?_,by have:=h.locals;simp[QP.addLocal];omega,by rw[hc];exact h.blocks,fun j=>Nat.le_succ_of_le (h.lines j)⟩;rw[h.same,jE hk,aR,jb h0,ja (by omega)]
theorem Made.block (h:Made nb S k q)(hk:k<S.length)(h0:(S.getD k (0,[])).1=1):Made nb S (k+1) q.addBlock:=by
 have hc:=lC S k hk;rw[jb h0]at hc;rw[getD_at hk]at h0;refine⟨?_,by have:=h.locals;simp[QP.addBlock];omega,by rw[hc];simp[QP.addBlock,h.blocks],fun j=> ?_⟩
 ·rw[h.same,jE hk,aR,ja (by omega),jb h0]
 ·have:=h.lines j;simp only[QP.addBlock,List.getD_eq_getElem?_getD,List.getElem?_append]at this⊢;split
  ·omega
  ·by_cases hj:j-q.blocks.length=0
   ·rw[hj];simp
   ·rw[jG (by simp;omega)];simp
theorem Made.unknown (h:Made nb S k q)(hk:k<S.length)(h0:2<=(S.getD k (0,[])).1)(hl:dw q.locals nb (S.getD k (0,[]))=none):(aR nb S 0 QP.empty).2=some k:=by
 rw[getD_at hk]at h0 hl;rw[h.same,jE hk,aR,ja (by omega),ja (by omega),hl]
theorem Made.line (h:Made nb S k q)(hk:k<S.length)(h0:2<=(S.getD k (0,[])).1){l:ab}(hl:dw q.locals nb (S.getD k (0,[]))=some l)(n:Nat)(hn:q.blocks.length=n+1):Made nb S (k+1) (q.addLine {l with num:=k}):=by
 have hc:=lC S k hk;rw[ja (by omega)]at hc;rw[getD_at hk]at h0 hl;have hD:q.blocks.dropLast.length=n:=by simp[hn]
 have sD:q.blocks.getLastD []=q.blocks.getD n []:=by
  rw[List.getLastD_eq_getLast?,List.getLast?_eq_getElem?,hn,Nat.add_sub_cancel,jA]
 refine⟨?_,by have:=h.locals;simp[QP.addLine];omega,by rw[hc,<-h.blocks];simp[QP.addLine,hn],fun j=> ?_⟩
 ·rw[h.same,jE hk,aR,ja (by omega),ja (by omega),hl]
 ·have h1:=h.lines j;have h2:=h.lines n;simp only[QP.addLine,sD];rw[jA,List.getElem?_append];split
  ·rename_i hj;rw[List.getElem?_dropLast,jb (by omega),<-jA];omega
  ·by_cases hj:j-q.blocks.dropLast.length=0
   ·rw[hj];simp;simp only[List.getD_eq_getElem?_getD]at h2;omega
   ·rw[jG (by simp;omega)];simp
theorem Made.whole (h:Made nb S k q)(hk:¬k<S.length):aR nb S 0 QP.empty=(q,none):=by
 rw[h.same,jT (by omega),aR]
end
def gW (nb:Nat)(S:List (Nat×List B))(w:World)(e:Ending)(w':World):Prop:=
 Below w.heap.size w w'/\match aR nb S 0 QP.empty with
  |(_,some k)=>e=.returned (.tuple #[.pointer none,.int .i64 (k:Nat),.bool false])
  |(q,none)=>∃a vl vb us vss,e=.returned (.tuple #[.pointer (some ⟨a,0,none⟩),.int .i64 0,.bool true])/\gS w.heap.size a w' q vl vb us vss
theorem gW.bad {nb:Nat}{S:List (Nat×List B)}{w w':World}{k:Nat}(hb:Below w.heap.size w w')(h:(aR nb S 0 QP.empty).2=some k):gW nb S w (.returned (.tuple #[.pointer none,.int .i64 (k:Nat),.bool false])) w':=by
 refine⟨hb,?_⟩;generalize aR nb S 0 QP.empty=R at h;obtain⟨q,x⟩:=R;simp only at h;subst h;rfl
theorem gW.Ic {nb:Nat}{S:List (Nat×List B)}{w w':World}{q:QP}{a:Nat}{vl vb:Value}{us:List Value}{vss:List (List (Value×Value))}(hb:Below w.heap.size w w')(h:aR nb S 0 QP.empty=(q,none))(hp:gS w.heap.size a w' q vl vb us vss):gW nb S w (.returned (.tuple #[.pointer (some ⟨a,0,none⟩),.int .i64 0,.bool true])) w':=by
 refine⟨hb,?_⟩;rw[h];exact⟨a,vl,vb,us,vss,rfl,hp⟩
theorem IE:(Tryz.prog.info? 146).map (fun i=>(i.zero,i.size,i.bytes))=some (some (.agg #[.string ⟨#[]⟩,.int .i64 0]),2,24):=by kernel_rfl
theorem zi:(Tryz.prog.info? 106).map (fun i=>(i.zero,i.size,i.bytes))=some (some (.slice none 0 0),1,24):=by kernel_rfl
theorem rD:(Tryz.prog.info? 115).map (fun i=>(i.zero,i.size,i.bytes))=some (some (.agg #[.int .i64 0,.int .i64 0,.slice none 0 0,.int .i64 0,.int .i64 0,.slice none 0 0]),6,80):=by kernel_rfl
theorem gS.facts {z a:Nat}{w:World}{q:QP}{vl vb:Value}{us:List Value}{vss:List (List (Value×Value))}(h:gS z a w q vl vb us vss):w.cell? ⟨a,0,none⟩=some vl/\w.cell? ⟨a,1,none⟩=some vb/\w.frozen? ⟨a,0,none⟩=false/\w.frozen? ⟨a,1,none⟩=false:=
 ⟨by rw[cell_of_heap h.aM];rfl,by rw[cell_of_heap h.aM];rfl,frozen_of_heap h.aM 0,frozen_of_heap h.aM 1⟩
theorem xE {w:World}{gw ow n cw:Nat}{L:List B}(h:fB w (.slice (some ⟨gw,ow,none⟩) n cw) L):L.length<=cw/\gw<w.heap.size/\∀j,j<L.length->w.cell? ⟨gw,ow+j,none⟩=some (.string (bs (word L j))):=by
 obtain⟨g,o,cap,e,hc,⟨cs,f,hg⟩,aX⟩:=h;simp only[Value.slice.injEq,Option.some.injEq,Addr.mk.injEq,and_true]at e;obtain⟨⟨rfl,rfl⟩,-,rfl⟩:=e;exact⟨hc,lt_of_heap hg,aX⟩
theorem MT {n:ByteArray}{t:Int}:∀u'∈[Value.string n,Value.int .i64 t],u'.oneCell'=true:=by
 intro u' hu;simp at hu;rcases hu with rfl|rfl<;>rfl
theorem FZ {a b c d:Int}{ap an:Option Addr}{np cp nn cn:Nat}:∀u'∈[Value.int .i64 a,Value.int .i64 b,Value.slice ap np cp,Value.int .i64 c,Value.int .i64 d,Value.slice an nn cn],u'.oneCell'=true:=by
 intro u' hu;simp at hu;rcases hu with rfl|rfl|rfl|rfl|rfl|rfl<;>rfl
theorem Hn {z n m k gb cb:Nat}{w w':World}{us xs:List Value}{v:Value}(hb:w.ownsRow z 106 1 (.slice (some ⟨gb,0,none⟩) (n+1) cb) m us)(ho:w.ownsRow z 115 6 v k xs)(hg:w.grownBy w' v.ownBlock)(_hm:n<m){u:Value}(hc:w.cell? ⟨gb,n,none⟩=some u):w'.cell? ⟨gb,n,none⟩=some u/\w'.frozen? ⟨gb,n,none⟩=false:=by
 rcases hb.2 with⟨e,-⟩|⟨g',cap',cur',e,-,G2,-⟩
 ·cases e
 ·simp only[Value.slice.injEq,Option.some.injEq,Addr.mk.injEq,and_true]at e;obtain⟨rfl,-⟩:=e;have h':w'.heap[gb]?=w.heap[gb]?:=hg.block gb (lt_of_heap G2) (aU ho G2 (by decide));exact⟨(World.cell?_of_block (a:=⟨gb,n,none⟩) h').trans hc,(World.frozen?_of_block (a:=⟨gb,n,none⟩) h').trans (frozen_of_heap G2 n)⟩
set_option maxRecDepth 20000 in
theorem I1 {z g cap:Nat}{S:List (Nat×List B)}{vs:List Value}(w:World)(h:cZ z w (.slice (some ⟨g,0,none⟩) S.length cap) S vs)(hS:ya S)(_hg:g<w.heap.size)(jw:S.length<=cap)(E:Env w):
  Calls Tryz.prog 117 #[.slice (some ⟨g,0,none⟩) S.length cap] w (gW (countB S) S w):=by
 obtain⟨il,XB,jy,AI,QR⟩:=info_parts IE;obtain⟨ib,hib,lo,aG,bH⟩:=info_parts zi;obtain⟨in_,lu,hn0,Tq,hn2⟩:=info_parts rD;have xV:=hS.mc;have fy:=gS.start w.heap.size w (jC _);have RF:Below w.heap.size w (w.alloc (.cells #[.slice none 0 0,.slice none 0 0] 110)):=(Below.refl _ _).alloc (jC _) _;have hst2:=fy;have KC:=xL (w.alloc (.cells #[.slice none 0 0,.slice none 0 0] 110)) (h.below RF) xV jw;go_enter Tryz.func117,Tryz.ntmps117
 go_wp2_with (go_at_call 167;refine KC.mono ?_;rintro e w1 ⟨rfl,ir⟩)
 have AY:=fy.below ir;have dH:Below w.heap.size w w1:=RF.trans (ir.mono RF.size);have B8:=countB_le S;go_loopw [2,19] (fun pv i wr=>∃(k:Nat) (q:QP) (vl vb:Value) (us:List Value) (vss:List (List (Value×Value))),k<=S.length/\i=.int .i64 k/\pv=.pointer (some ⟨w.heap.size,0,none⟩)/\gS w.heap.size w.heap.size wr q vl vb us vss/\Hid (vss.length=q.blocks.length)/\Below w.heap.size w wr/\Hid (Made (countB S) S k q)) (fun _ i _=>S.length-(intOf i).toNat)
 case atStart=>exact⟨0,QP.empty,_,_,[],[],jQ _,rfl,rfl,AY,rfl,dH,Made.start _ _⟩
 case round=>
  obtain⟨k,q,vl,vb,us,vss,hk,rfl,rfl,hP,HV,hB,HM⟩:=hrel;clear AY dH ir fy hst2 KC RF;by_cases bg:k<S.length
  ·obtain⟨h1,gw,ow,cw,h2,hW⟩:=xw (h.below hB) k bg;obtain⟨p0,p1,pf0,pf1⟩:=gS.facts hP;have ak:=hS.op k bg;have QU:=hS.words k bg;have zg:=hS.short k;have Pe:=hS.order k bg;have E1:=E.on hB;have T1:Hid ((S.getD k (0,[])).1=0->0<=di q.locals (word (S.getD k (0,[])).2 0)->(aR (countB S) S 0 QP.empty).2=some k):=HM.out.Yy bg;have T2:Hid ((S.getD k (0,[])).1=0->di q.locals (word (S.getD k (0,[])).2 0)<0->Made (countB S) S (k+1) (q.addLocal (word (S.getD k (0,[])).2 0,(fp (word (S.getD k (0,[])).2 1)).getD 0))):=HM.out.UU bg;have T3:Hid ((S.getD k (0,[])).1=1->Made (countB S) S (k+1) q.addBlock):=HM.out.block bg;have T4:Hid (2<=(S.getD k (0,[])).1->dw q.locals (countB S) (S.getD k (0,[]))=none->(aR (countB S) S 0 QP.empty).2=some k):=HM.out.unknown bg;have T5:Hid (2<=(S.getD k (0,[])).1->∀l,dw q.locals (countB S) (S.getD k (0,[]))=some l->∀n,q.blocks.length=n+1->Made (countB S) S (k+1) (q.addLine {l with num:=k})):=fun a l b n c=>HM.out.line bg a b n c
   have hq1:=HM.out.locals;have hq2:=HM.out.blocks;have hq3:=HM.out.lines;clear HM;generalize S.getD k (0,[])=x at*;obtain⟨op,ws⟩:=x;simp only at h1 h2 hW ak QU zg Pe T1 T2 T3 T4 T5;by_cases h0:op=0
   ·subst h0;have hwl2:ws.length=2:=QU;rw[hwl2]at h2 hW;obtain⟨hcw,Uu,aX⟩:=xE hW;have ON:wr.cell? ⟨gw,ow,none⟩=some (.string (bs (word ws 0))):=aX 0 (by omega);have xU:wr.cell? ⟨gw,ow+1,none⟩=some (.string (bs (word ws 1))):=aX 1 (by omega);have tV:Below wr.heap.size wr (wr.alloc (.cells #[.int .i64 0,.slice (some ⟨gw,ow,none⟩) 2 cw] 240)):=(Below.refl _ _).alloc (jC _) _;have hsS:(wr.alloc (.cells #[.int .i64 0,.slice (some ⟨gw,ow,none⟩) 2 cw] 240)).heap.size=wr.heap.size+1:=by simp
    have LO:=hP.below tV;have KF:=EG q.locals vl vb (word ws 0) w.heap.size _ LO.aM ⟨_,LO.locals⟩ (by omega);have t1:(wr.alloc (.cells #[.int .i64 0,.slice (some ⟨gw,ow,none⟩) 2 cw] 240)).cell? ⟨wr.heap.size,1,none⟩=some (.slice (some ⟨gw,ow,none⟩) 2 cw):=by simp
    have Z8:(wr.alloc (.cells #[.int .i64 0,.slice (some ⟨gw,ow,none⟩) 2 cw] 240)).cell? ⟨gw,ow,none⟩=some (.string (bs (word ws 0))):=(tV.cell (p:=⟨gw,ow,none⟩) Uu).trans ON;have Z9:(wr.alloc (.cells #[.int .i64 0,.slice (some ⟨gw,ow,none⟩) 2 cw] 240)).cell? ⟨gw,ow+1,none⟩=some (.string (bs (word ws 1))):=(tV.cell (p:=⟨gw,ow+1,none⟩) Uu).trans xU;have hgS:gw<(wr.alloc (.cells #[.int .i64 0,.slice (some ⟨gw,ow,none⟩) 2 cw] 240)).heap.size:=by omega
    have hwS:wr.heap.size<(wr.alloc (.cells #[.int .i64 0,.slice (some ⟨gw,ow,none⟩) 2 cw] 240)).heap.size:=by omega
    have vV:=hB.trans (tV.mono hB.size);by_cases hf:0<=di q.locals (word ws 0)
    ·have hx:=T1.out rfl hf;clear T1 T2 T3 T4 T5 aX;go_wp2_with (go_at_call 168;refine KF.mono ?_;rintro e w2 ⟨rfl,bH⟩)
     go_ret3
     exact gW.bad (vV.trans (bH.mono vV.size)) hx
    ·have JJ:Hid (_):=T2.out rfl (by omega);have QQ:di q.locals (word ws 0)<0:=by omega
     clear T1 T2 T3 T4 T5 aX hf;have KT:=fun w' (E':Env w')=>Ay (word ws 1) w' E'.types
     go_upto_region 17 with(first
      |(go_at_call 168;refine KF.mono ?_;rintro e w2 ⟨rfl,bH⟩;have t2:=(bH.cell (p:=⟨wr.heap.size,1,none⟩) hwS).trans t1;have Z7:=(bH.cell (p:=⟨gw,ow,none⟩) hgS).trans Z8;have hc12:=(bH.cell (p:=⟨gw,ow+1,none⟩) hgS).trans Z9;have QT:=jK hwS bH.size;have OQ:=jK hgS bH.size)
      |(go_at_call 169;refine(KT _ ((E1.on tV).on bH)).mono ?_;rintro e w3 ⟨rfl,cT⟩;have t3:=(cT.cell (p:=⟨wr.heap.size,1,none⟩) QT).trans t2;have hc03:=(cT.cell (p:=⟨gw,ow,none⟩) OQ).trans Z7))
     have S7:=(LO.below bH).below cT;obtain⟨q0,q1,qf0,qf1⟩:=gS.facts S7;have qR:=(vV.trans (bH.mono vV.size)).trans (cT.mono (vV.trans (bH.mono vV.size)).size);have aF:Below w3.heap.size w3 (w3.alloc (.cells #[.string (bs (word ws 0)),.int .i64 ((fp (word ws 1)).getD 0:Nat)] 146)):=(Below.refl _ _).alloc (jC _) _;have kd:w.heap.size<=(w3.alloc (.cells #[.string (bs (word ws 0)),.int .i64 ((fp (word ws 1)).getD 0:Nat)] 146)).heap.size:=jS qR.size aF.size;have qV:=aw S7.locals aF;have pI:=(S7.below aF).aM;have hcA:=(gS.facts (S7.below aF)).1;have hlocs:Hid (_):=hq1;go_region_law (refine Ap (by rfl) _ _ _ (by rfl) w.heap.size 146 il (.agg #[.string ⟨#[]⟩,.int .i64 0]) 2 24 Tryz.underlying107 XB jy AI QR (by rfl) (by decide) vl _ _ (by rfl) qV w3.heap.size [.string (bs (word ws 0)),.int .i64 ((fp (word ws 1)).getD 0:Nat)] (by rfl) jD (by rfl) MT (by decide) (by omega) kd ?_;intro g4 c4 w4 hown4 hgrow4 hat4 hlt4;have mr:w4.heap[w.heap.size]?=_:=(hgrow4.block _ (lt_of_heap pI) (aU qV pI (by decide))).trans pI;have r0:w4.cell? ⟨w.heap.size,0,none⟩=some vl:=(by rw[cell_of_heap mr];rfl);have rf0:w4.frozen? ⟨w.heap.size,0,none⟩=false:=frozen_of_heap mr 0)
     all_goals go_wp2_with fail
     all_goals
      have lZ:(w3.alloc (.cells #[.string (bs (word ws 0)),.int .i64 ((fp (word ws 1)).getD 0:Nat)] 146)).grownBy w4 vl.ownBlock:=⟨hgrow4.os,hgrow4.tape,hgrow4.output,hgrow4.size,hgrow4.block⟩;have pH:=dX qR (jC _) qR.size S7.locals lZ;exact⟨⟨k+1,_,_,vb,us,vss,by omega,by go_num,rfl,S7.addLocal (word ws 0,(fp (word ws 1)).getD 0) aF hown4 lZ,HV,pH.trans (((bD.refl _ w4).setCell 0 _).below (jC _) pH.size),JJ⟩,by simp[intOf];omega⟩
   ·by_cases B6:op=1
    ·subst B6;have JJ:Hid (_):=T3.out rfl;clear T1 T2 T3 T4 T5;have Yn:ws.length=0:=QU;rw[Yn]at h2;clear QU Yn hW zg Pe;have tV:Below wr.heap.size wr (wr.alloc (.cells #[.int .i64 1,.slice (some ⟨gw,ow,none⟩) 0 cw] 240)):=(Below.refl _ _).alloc (jC _) _;have LO:=hP.below tV;obtain⟨q0,q1,qf0,qf1⟩:=gS.facts LO;have vV:=hB.trans (tV.mono hB.size);have aF:Below (wr.alloc (.cells #[.int .i64 1,.slice (some ⟨gw,ow,none⟩) 0 cw] 240)).heap.size (wr.alloc (.cells #[.int .i64 1,.slice (some ⟨gw,ow,none⟩) 0 cw] 240)) ((wr.alloc (.cells #[.int .i64 1,.slice (some ⟨gw,ow,none⟩) 0 cw] 240)).alloc (.cells #[.slice none 0 0] 106)):=(Below.refl _ _).alloc (jC _) _;have pI:=(LO.below aF).aM;have qV:=aw LO.blocks aF;have G7:q.blocks.length<=4000:=by have:=countB_le (S.take k);simp at this;omega
     clear hq2;have hsS:(wr.alloc (.cells #[.int .i64 1,.slice (some ⟨gw,ow,none⟩) 0 cw] 240)).heap.size=wr.heap.size+1:=by simp
     have WK:((wr.alloc (.cells #[.int .i64 1,.slice (some ⟨gw,ow,none⟩) 0 cw] 240)).alloc (.cells #[.slice none 0 0] 106)).heap[wr.heap.size+1]?=some (.cells #[.slice none 0 0] 106 (0,0)):=by
      rw[<-hsS];exact jD
     have R0:=jS vV.size aF.size;go_wp2_with (at_builtin;go_must (refine iI rfl _ _ 108 rfl w.heap.size 106 ib (.slice none 0 0) 1 24 Tryz.underlying108 hib lo aG bH rfl (by decide) vb _ _ rfl qV (wr.heap.size+1) [.slice none 0 0] rfl WK rfl (by intro u' hu;simp at hu;subst hu;rfl) (by decide) (by omega) R0 ?_);intro g4 c4 w4 hown4 hgrow4 hat4 hlt4;have mr:w4.heap[w.heap.size]?=_:=(hgrow4.block _ (lt_of_heap pI) (aU qV pI (by decide))).trans pI;have r1:w4.cell? ⟨w.heap.size,1,none⟩=some vb:=(by rw[cell_of_heap mr];rfl);have rf1:w4.frozen? ⟨w.heap.size,1,none⟩=false:=frozen_of_heap mr 1)
     go_roundw
     case rel=>
      have pH:=dX vV (jC _) vV.size LO.blocks hgrow4;exact⟨k+1,_,vl,_,us++[.slice none 0 0],vss++[[]],by omega,by go_num,rfl,LO.addBlock HV.out aF hown4 hgrow4,by unfold Hid;simp[QP.addBlock,HV.out],pH.trans (((bD.refl _ w4).setCell 1 _).below (jC _) pH.size),JJ⟩
     case measure=>simp[intOf];omega
    ·have L7:2<=op:=by omega
     have b0:((op:Int)==0)=false:=by rw[jZ];omega
     have b1:((op:Int)==1)=false:=by rw[jZ];omega
     obtain⟨n,hn⟩:∃n,q.blocks.length=n+1:=⟨q.blocks.length-1,by have:=Pe L7;omega⟩;have G7:n+1<=4000:=by have:=countB_le (S.take k);simp at this;omega
     obtain⟨hcw,Uu,aX⟩:=xE hW;rw[QU]at h2 hcw aX;have tV:Below wr.heap.size wr (wr.alloc (.cells #[.int .i64 (op:Nat),.slice (some ⟨gw,ow,none⟩) (ah op).length cw] 240)):=(Below.refl _ _).alloc (jC _) _;have LO:=hP.below tV;have vV:=hB.trans (tV.mono hB.size);have KL:=IV q.locals (countB S) op w.heap.size gw ow cw ws vl vb _ LO.aM ⟨_,LO.locals⟩ (by omega) (by omega) ak QU hcw (jK Uu tV.size) (fun j hj=>(tV.cell (p:=⟨gw,ow+j,none⟩) Uu).trans (aX j hj)) zg (E1.on tV);unfold fN at KL;cases hl:dw q.locals (countB S) (op,ws)with
     |none=>
      have hx:=T4.out L7 hl;rw[hl]at KL;clear T1 T2 T3 T4 T5 aX hl Pe;go_wp2_with (go_at_call 170;refine KL.mono ?_;rintro e w2 ⟨kN,rfl⟩)
      go_ret3
      have hBq:=vV.trans (kN.mono vV.size);exact gW.bad (hBq.alloc hBq.size _) hx
     |some l=>
      have JJ:Hid (_):=T5.out L7 l hl n hn;rw[hl]at KL
      replace KL:=KL.mono (R':=fun e w'=>Below (wr.alloc (.cells #[.int .i64 (op:Nat),.slice (some ⟨gw,ow,none⟩) (ah op).length cw] 240)).heap.size (wr.alloc (.cells #[.int .i64 (op:Nat),.slice (some ⟨gw,ow,none⟩) (ah op).length cw] 240)) w'/\∃ap cp an cn,e=.returned (.tuple #[.agg #[.int .i64 (l.num:Nat),.int .i64 (l.op:Nat),.slice ap l.places.length cp,.int .i64 l.number,.int .i64 l.flag,.slice an l.next.length cn],.bool true])/\aC w.heap.size w' l (.slice ap l.places.length cp) (.slice an l.next.length cn)) fun e w' ⟨h1,vp,vn,h2,h3⟩=>by
       obtain⟨ap,cp,rfl⟩:=bG h3.places;obtain⟨an,cn,rfl⟩:=bG h3.next;exact⟨h1,ap,cp,an,cn,h2,⟨fo h3.places vV.size,fo h3.next vV.size⟩⟩
      obtain⟨gb,cb,AM,Ul,B9,tW⟩:=cW hP.blocks (by omega);rw[hn]at AM Ul tW;subst AM;have G1:wr.cell? ⟨gb,n,none⟩=some (us.getD n undef):=by
       rw[tW n (by omega),jA,jB (by rw[hP.SQ];omega)];rfl
      have Vx:wr.frozen? ⟨gb,n,none⟩=false:=by
       rcases hP.blocks.2 with⟨e,-⟩|⟨g',cap',cur',e,-,G2,-⟩
       ·cases e
       ·simp only[Value.slice.injEq,Option.some.injEq,Addr.mk.injEq,and_true]at e;obtain⟨rfl,-⟩:=e;exact frozen_of_heap G2 n
      have dp:(q.blocks.getD n []).length<=4000:=by have:=hq3 n;omega
      clear T1 T2 T3 T4 T5 aX hl Pe tW hq3 hq2;go_upto_region 12 with(go_at_call 170;refine KL.mono ?_;rintro e w2 ⟨kN,ap,cp,an,cn,rfl,Ii⟩;have me:=LO.below kN;have lW:Below w2.heap.size w2 (w2.alloc (.cells #[.int .i64 (k:Nat),.int .i64 (l.op:Nat),.slice ap l.places.length cp,.int .i64 l.number,.int .i64 l.flag,.slice an l.next.length cn] 115)):=(Below.refl _ _).alloc (jC _) _;have LN:=me.below lW;obtain⟨q0,q1,qf0,qf1⟩:=gS.facts LN)
      have dT:=vV.trans (kN.mono vV.size);have GV:=dT.trans (lW.mono dT.size);have AJ:(w2.alloc (.cells #[.int .i64 (k:Nat),.int .i64 (l.op:Nat),.slice ap l.places.length cp,.int .i64 l.number,.int .i64 l.flag,.slice an l.next.length cn] 115)).heap[w2.heap.size]?=some (.cells #[.int .i64 (k:Nat),.int .i64 (l.op:Nat),.slice ap l.places.length cp,.int .i64 l.number,.int .i64 l.flag,.slice an l.next.length cn] 115 (0,0)):=jD;have za:=Ii.below lW;have Z4:=(lW.cell (p:=⟨gb,n,none⟩) (jK (jK B9 tV.size) kN.size)).trans ((kN.cell (p:=⟨gb,n,none⟩) (jK B9 tV.size)).trans ((tV.cell (p:=⟨gb,n,none⟩) B9).trans G1));have hbfL:=(lW.frozen (p:=⟨gb,n,none⟩) (jK (jK B9 tV.size) kN.size)).trans ((kN.frozen (p:=⟨gb,n,none⟩) (jK B9 tV.size)).trans ((tV.frozen (p:=⟨gb,n,none⟩) B9).trans Vx));generalize (w2.alloc (.cells #[.int .i64 (k:Nat),.int .i64 (l.op:Nat),.slice ap l.places.length cp,.int .i64 l.number,.int .i64 l.flag,.slice an l.next.length cn] 115))=wL at*;have l0:wL.cell? ⟨w2.heap.size,0,none⟩=some (.int .i64 (k:Nat)):=by rw[cell_of_heap AJ];rfl
      have l1:wL.cell? ⟨w2.heap.size,1,none⟩=some (.int .i64 (l.op:Nat)):=by rw[cell_of_heap AJ];rfl
      have l2:wL.cell? ⟨w2.heap.size,2,none⟩=some (.slice ap l.places.length cp):=by rw[cell_of_heap AJ];rfl
      have l3:wL.cell? ⟨w2.heap.size,3,none⟩=some (.int .i64 l.number):=by rw[cell_of_heap AJ];rfl
      have l4:wL.cell? ⟨w2.heap.size,4,none⟩=some (.int .i64 l.flag):=by rw[cell_of_heap AJ];rfl
      have l5:wL.cell? ⟨w2.heap.size,5,none⟩=some (.slice an l.next.length cn):=by rw[cell_of_heap AJ];rfl
      have aF:Below wL.heap.size wL (wL.alloc (.cells #[.int .i64 (k:Nat),.int .i64 (l.op:Nat),.slice ap l.places.length cp,.int .i64 l.number,.int .i64 l.flag,.slice an l.next.length cn] 115)):=(Below.refl _ _).alloc (jC _) _;have kd:w.heap.size<=(wL.alloc (.cells #[.int .i64 (k:Nat),.int .i64 (l.op:Nat),.slice ap l.places.length cp,.int .i64 l.number,.int .i64 l.flag,.slice an l.next.length cn] 115)).heap.size:=jS GV.size aF.size;have qV:=aw (LN.each n (by omega)).row aF;obtain⟨m,hm⟩:∃m,m=(q.blocks.getD n []).length:=⟨_,rfl⟩;rw[<-hm]at qV dp;have Hm:Hid (m=(q.blocks.getD n []).length):=hm;have hgbz:w.heap.size<=gb:=(hP.blocks.lt gb rfl).1;clear hm;have Wt:=LN.below aF;have pI:=Wt.aM;have q1A:=(gS.facts Wt).2.1;have hgL:gb<wL.heap.size:=by have:=kN.size;have:=tV.size;have:=lW.size;omega
      have Z3:=(aF.cell (p:=⟨gb,n,none⟩) hgL).trans Z4;have X6:=Wt.blocks;have OT:(n:Int)<(n:Int)+1:=by omega
      go_region_law (refine Ap (by rfl) _ _ _ (by rfl) w.heap.size 115 in_ (.agg #[.int .i64 0,.int .i64 0,.slice none 0 0,.int .i64 0,.int .i64 0,.slice none 0 0]) 6 80 Tryz.underlying106 lu hn0 Tq hn2 (by rfl) (by decide) (us.getD n undef) _ _ (by rfl) qV wL.heap.size [.int .i64 (k:Nat),.int .i64 (l.op:Nat),.slice ap l.places.length cp,.int .i64 l.number,.int .i64 l.flag,.slice an l.next.length cn] (by rfl) jD (by rfl) FZ (by decide) (by omega) kd ?_;intro g4 c4 w4 hown4 hgrow4 hat4 hlt4;have mr:w4.heap[w.heap.size]?=_:=(hgrow4.block _ (lt_of_heap pI) (aU qV pI (by decide))).trans pI;have r1:=(cell_of_heap mr 1).trans (by rfl:_=some (Value.slice (some ⟨gb,0,none⟩) (n+1) cb));have lZ:(wL.alloc (.cells #[.int .i64 (k:Nat),.int .i64 (l.op:Nat),.slice ap l.places.length cp,.int .i64 l.number,.int .i64 l.flag,.slice an l.next.length cn] 115)).grownBy w4 (us.getD n undef).ownBlock:=⟨hgrow4.os,hgrow4.tape,hgrow4.output,hgrow4.size,hgrow4.block⟩;obtain⟨s1,s2⟩:=Hn X6 qV lZ (by omega) Z3)
      all_goals go_wp2_with fail
      all_goals exact⟨⟨k+1,_,vl,_,_,_,by omega,by go_num,rfl,LN.addLine HV.out n hn {l with num:=k} _ _ ⟨za.places,za.next⟩ aF rfl rfl (hat4.imp id fun e=>Nat.le_of_eq e.symm) (by rw[<-Hm.out];exact hown4) lZ,by unfold Hid;simp[QP.addLine,HV.out,hn],(dX GV (jC _) GV.size (LN.each n (by omega)).row lZ).trans (((bD.refl _ w4).setCell n _).below hgbz (dX GV (jC _) GV.size (LN.each n (by omega)).row lZ).size),JJ⟩,by simp[intOf];omega⟩
  ·have hw:=HM.out.whole bg;go_wp2
   go_ret3
   exact gW.Ic hB hw hP
end PrjQ
namespace PrjU
open Go Go.RowKit Sq Aux PrjF PrjG PrjH PrjI PrjJ PrjK PrjL PrjM PrjN PrjO PrjP PrjQ PrjR PrjS PrjT
theorem vO {z:Nat}{w:World}{v:Value}{ls:List ab}{vs:List (Value×Value)}(h:dD z w v ls vs):∃ad c,v=.slice ad ls.length c:=bG h.row
theorem lA {z:Nat}{w:World}{ad:Option Addr}{n c:Nat}{ls:List ab}{vs:List (Value×Value)}(h:dD z w (.slice ad n c) ls vs)(j:Nat)(hj:j<ls.length):
  ∃g ap cp an cn,ad=some ⟨g,0,none⟩/\n=ls.length/\ls.length<=c/\g<w.heap.size/\w.cell? ⟨g,j*6,none⟩=some (.int .i64 ((ls.getD j ab.nil).num:Nat))/\w.cell? ⟨g,j*6+1,none⟩=some (.int .i64 ((ls.getD j ab.nil).op:Nat))/\w.cell? ⟨g,j*6+2,none⟩=some (.slice ap (ls.getD j ab.nil).places.length cp)/\
   w.cell? ⟨g,j*6+3,none⟩=some (.int .i64 (ls.getD j ab.nil).number)/\w.cell? ⟨g,j*6+4,none⟩=some (.int .i64 (ls.getD j ab.nil).flag)/\w.cell? ⟨g,j*6+5,none⟩=some (.slice an (ls.getD j ab.nil).next.length cn)/\
   aC z w (ls.getD j ab.nil) (.slice ap (ls.getD j ab.nil).places.length cp) (.slice an (ls.getD j ab.nil).next.length cn):=by
 obtain⟨g,cap,hv,hc,hg,aX⟩:=cW h.row (by omega);simp only[Value.slice.injEq]at hv;obtain⟨rfl,rfl,rfl⟩:=hv;have hE:=h.each j hj;obtain⟨ap,cp,h1⟩:=bG hE.places;obtain⟨an,cn,h2⟩:=bG hE.next;have hjv:j<vs.length:=by rw[h.len];exact hj
 have hz:(ls.zip vs)[j]?=some (ls.getD j ab.nil,vs.getD j (undef,undef)):=by
  simp[List.getElem?_zip_eq_some,hj,hjv]
 have key:∀i,i<6->w.cell? ⟨g,j*6+i,none⟩=(dO (ls.getD j ab.nil,vs.getD j (undef,undef)))[i]?:=fun i hi=>by
  rw[aX _ (by omega),bd,ie dO 6 (fun _=>rfl) _ j i hi,hz];rfl
 have k0:=key 0 (by decide);have k1:=key 1 (by decide);have k2:=key 2 (by decide);have k3:=key 3 (by decide);have k4:=key 4 (by decide);have k5:=key 5 (by decide);rw[h1,h2]at hE;refine⟨g,ap,cp,an,cn,rfl,rfl,hc,hg,k0,k1,?_,k3,k4,?_,hE⟩
 ·rw[k2];show some (vs.getD j (undef,undef)).1=_;rw[h1]
 ·rw[k5];show some (vs.getD j (undef,undef)).2=_;rw[h2]
theorem Em {z a:Nat}{w:World}{q:QP}{vl vb:Value}{us:List Value}{vss:List (List (Value×Value))}(h:gS z a w q vl vb us vss)(j:Nat)(hj:j<q.blocks.length):
  ∃gb cb ad c,vb=.slice (some ⟨gb,0,none⟩) q.blocks.length cb/\q.blocks.length<=cb/\gb<w.heap.size/\w.cell? ⟨gb,j,none⟩=some (.slice ad (q.blocks.getD j []).length c)/\dD z w (.slice ad (q.blocks.getD j []).length c) (q.blocks.getD j []) (vss.getD j []):=by
 obtain⟨g,cap,hv,hc,hg,aX⟩:=cW h.blocks (by omega);have hE:=h.each j hj;obtain⟨ad,c,e⟩:=vO hE;rw[e]at hE;refine⟨g,cap,ad,c,hv,hc,hg,?_,hE⟩;rw[aX j (by omega),<-e,jA,jB (by rw[h.SQ];exact hj)];rfl
def iV (q:QP)(j i:Nat):List ab:=((q.blocks.getD j []).drop i)++(q.blocks.drop (j+1)).flatten
def jz (q:QP)(l:List ab):Option Nat:=(l.find? fun l=> !q.fits l).map (·.num)
theorem I5 (q:QP):q.misfit=jz q (q.blocks.drop 0).flatten:=rfl
theorem I4 (q:QP)(j:Nat)(hj:j<q.blocks.length):(q.blocks.drop j).flatten=iV q j 0:=by
 rw[jE hj,List.flatten_cons,iV,List.drop_zero];simp[hj]
theorem MC (q:QP)(j i:Nat)(hi:i<(q.blocks.getD j []).length):jz q (iV q j i)=if q.fits ((q.blocks.getD j []).getD i ab.nil)=true then jz q (iV q j (i+1))else some ((q.blocks.getD j []).getD i ab.nil).num:=by
 rw[jz,iV,jE hi,jW,List.find?_cons];have:(q.blocks.getD j []).getD i ab.nil=(q.blocks.getD j [])[i]:=by rw[jA,jB hi];rfl
 rw[this];cases q.fits (q.blocks.getD j [])[i]
 ·rfl
 ·rfl
theorem MB (q:QP)(j:Nat):iV q j (q.blocks.getD j []).length=(q.blocks.drop (j+1)).flatten:=by
 rw[iV,List.drop_length];rfl
def jj (q:QP)(w:World)(e:Ending)(w':World):Prop:=
 Below w.heap.size w w'/\match q.misfit with
  |some k=>e=.returned (.tuple #[.int .i64 (k:Nat),.bool true])
  |none=>e=.returned (.tuple #[.int .i64 0,.bool false])
theorem jj.some {q:QP}{w w':World}{k:Nat}(hb:Below w.heap.size w w')(h:q.misfit=some k):jj q w (.returned (.tuple #[.int .i64 (k:Nat),.bool true])) w':=by
 refine⟨hb,?_⟩;rw[h]
theorem jj.none {q:QP}{w w':World}(hb:Below w.heap.size w w')(h:q.misfit=none):jj q w (.returned (.tuple #[.int .i64 0,.bool false])) w':=by
 refine⟨hb,?_⟩;rw[h]
set_option maxRecDepth 20000 in
theorem I3 (q:QP)(nb z a:Nat)(vl vb:Value)(us:List Value)(vss:List (List (Value×Value)))(w:World)(hP:gS z a w q vl vb us vss)(bU:q.locals.length<=4000)(hq:AE nb q)(qS:q.blocks.length<=4000)(dp:∀j,(q.blocks.getD j []).length<=4000)(E:Env w):
  Calls Tryz.prog 118 #[.pointer (some ⟨a,0,none⟩)] w (jj q w):=by
 obtain⟨p0,p1,pf0,pf1⟩:=gS.facts hP;have HM:Hid (q.misfit=jz q (q.blocks.drop 0).flatten):=I5 q;obtain⟨adb,cb,AM⟩:=bG hP.blocks;subst AM;go_enter Tryz.func118,Tryz.ntmps118
 go_wp2
 go_loopg [13] (q.blocks.length) (fun g v13 wr=>∃j:Nat,j<=q.blocks.length/\g+j=q.blocks.length/\v13=.int .i64 j/\Below w.heap.size w wr/\Hid (q.misfit=jz q (q.blocks.drop j).flatten))
 case atStart=>exact⟨0,jQ _,rfl,rfl,Below.refl _ _,HM⟩
 case round=>
  obtain⟨j,hj,hgj,rfl,hB,HI⟩:=hrel;by_cases bg:j<q.blocks.length
  ·obtain⟨gb,cb',ad,c,e,B8,B9,aX,hBk⟩:=Em (hP.below hB) j bg;simp only[Value.slice.injEq,true_and]at e;obtain⟨rfl,rfl⟩:=e;have Zd:Hid (q.misfit=jz q (iV q j 0)):=HI.out.trans (congrArg _ (I4 q j bg));have pK:=dp j;have qU:∀l∈q.blocks.getD j [],fY q.locals.length nb l:=hq.lines _ (by simp[bg]);have HN:Hid (iV q j (q.blocks.getD j []).length=(q.blocks.drop (j+1)).flatten):=MB q j;have HS:Hid (∀i,i<(q.blocks.getD j []).length->jz q (iV q j i)=if q.fits ((q.blocks.getD j []).getD i ab.nil)=true then jz q (iV q j (i+1))else some ((q.blocks.getD j []).getD i ab.nil).num):=MC q j;generalize q.blocks.getD j []=aM at*;generalize vss.getD j []=vsj at*;go_wp2
   go_loopg [19] (aM.length) (fun g v19 wn=>∃i:Nat,i<=aM.length/\g+i=aM.length/\v19=.int .i64 i/\Below w.heap.size w wn/\Below wr.heap.size wr wn/\Hid (q.misfit=jz q (iV q j i)))
   case atStart=>exact⟨0,jQ _,rfl,rfl,hB,Below.refl _ _,Zd⟩
   case round=>
    obtain⟨i,hi,hgi,rfl,Zz,Rp,HJ⟩:=hrel;by_cases hli:i<aM.length
    ·obtain⟨gl,ap,cp,an,cn,rfl,-,AH,sf,k0,k1,k2,k3,k4,k5,Ii⟩:=lA (hBk.below Rp) i hli;have hS:=HS.out i hli;have hl:=qU (aM.getD i ab.nil) (by simp[hli]);generalize aM.getD i ab.nil=l at*;have lW:Below wr.heap.size wr (wr.alloc (.cells #[.int .i64 (l.num:Nat),.int .i64 (l.op:Nat),.slice ap l.places.length cp,.int .i64 l.number,.int .i64 l.flag,.slice an l.next.length cn] 115)):=(Below.refl _ _).alloc (jC _) _;have GV:=Zz.trans (lW.mono Zz.size);have LN:=(hP.below GV);have KF:=Oo q l nb z a vl _ ap an cp cn _ LN.aM ⟨_,LN.locals⟩ bU hl (Ii.below lW) (E.on GV);have kO:(wr.alloc (.cells #[.int .i64 (l.num:Nat),.int .i64 (l.op:Nat),.slice ap l.places.length cp,.int .i64 l.number,.int .i64 l.flag,.slice an l.next.length cn] 115)).cell? ⟨wr.heap.size,0,none⟩=some (.int .i64 (l.num:Nat)):=by simp
     have lj:wr.heap.size<(wr.alloc (.cells #[.int .i64 (l.num:Nat),.int .i64 (l.op:Nat),.slice ap l.places.length cp,.int .i64 l.number,.int .i64 l.flag,.slice an l.next.length cn] 115)).heap.size:=by simp
     cases hf:q.fits l with
     |false=>
      have hx:q.misfit=some l.num:=by rw[HJ.out,hS,hf];rfl
      rw[hf]at KF;clear hf hS HS;go_wp2_with (go_at_call 171;refine KF.mono ?_;rintro e w1 ⟨rfl,aG⟩;have Pd:=(aG.cell (p:=⟨wr.heap.size,0,none⟩) lj).trans kO)
      go_ret2
      exact jj.some (GV.trans (aG.mono GV.size)) hx
     |true=>
      have HJ2:Hid (q.misfit=jz q (iV q j (i+1))):=by unfold Hid;rw[HJ.out,hS,hf];rfl
      rw[hf]at KF;clear hf hS HS;go_wp2_with (go_at_call 171;refine KF.mono ?_;rintro e w1 ⟨rfl,aG⟩)
      go_roundg (aM.length-(i+1))
      case measure=>omega
      case rel=>exact⟨i+1,by omega,by omega,by go_num,GV.trans (aG.mono GV.size),(Rp.trans (lW.mono Rp.size)).trans (aG.mono (jS Rp.size lW.size)),HJ2⟩
    ·have HI3:Hid (q.misfit=jz q (q.blocks.drop (j+1)).flatten):=by
      unfold Hid;rw[HJ.out,show i=aM.length by omega,HN.out]
     go_wp2
     go_roundg (q.blocks.length-(j+1))
     case measure=>omega
     case rel=>exact⟨j+1,by omega,by omega,by go_num,Zz,HI3⟩
  ·have hx:q.misfit=none:=by rw[HI.out,jT (by omega)];rfl
   go_wp2
   go_ret2
   exact jj.none hB hx
end PrjU
namespace FlwM
open Go Go.RowKit Sq Aux PrjF PrjG PrjJ PrjK PrjL PrjM PrjO PrjP PrjS PrjU FlwA FlwB FlwC FlwD FlwE FlwF FlwG FlwH FlwI FlwJ FlwK FlwL
theorem KQ {s:List Nat}(h:ey s)(k:Nat){v:Nat}(hv:v<16):ey (s.set k v):=
 ⟨by simpa using h.len,fun i=>by
  rw[jA,jd];split
  ·split
   ·exact hv
   ·decide
  ·have:=h.lt i;rwa [jA]at this⟩
theorem s8 {m:Nat}(hm:m<16):∀(ps:List (Nat×Nat)) {s:List Nat},ey s->ey (gu m ps s)
 |[],_,h=>h
 |x::ps,s,h=>s8 hm ps (s:=s.set (ae x) m) (KQ h _ hm)
theorem tj:∀(ps:List (Nat×Nat)) {s:List Nat},ey s->ey (dQ ps s)
 |[],_,h=>h
 |x::ps,s,h=>tj ps (s:=s.set (ae x) (if x.2=3 then 8 else 1)) (KQ h _ (by split<;>decide))
theorem MH (q:QP)(x:Nat×Nat){s:List Nat}(h:ey s):cJ q x s<16:=by
 unfold cJ;split
 ·exact h.lt _
 ·decide
theorem mS (q:QP)(l:ab){s:List Nat}(h:ey s):ey (aL q l s):=by
 unfold aL;split
 ·exact tj _ h
 ·split
  ·exact tj _ h
  ·exact h
theorem fU (q:QP)(l:ab){s:List Nat}(h:ey s):ey (aq q l s):=by
 have ht:=mS q l h;unfold aq
 repeat' split
 ·exact s8 (by decide) _ ht
 ·exact s8 (MH q _ h) _ ht
 ·exact s8 (by decide) _ ht
 ·exact tj _ ht
 ·exact ht
def dm (l:ab)(i:Nat)(s:List Nat):List Nat:=if l.op=20 then gu (if i=0 then 4 else 2) [l.places.getD 0 (0,0)] s else s
theorem fV (l:ab)(i:Nat){s:List Nat}(h:ey s):ey (dm l i s):=by
 unfold dm;split
 ·exact s8 (by split<;>decide) _ h
 ·exact h
abbrev St:=List Nat×List (List Nat)×(Nat->Bool)
def gC (l:ab):List Nat->Nat->St->St
 |[],_,t=>t
 |n::ns,i,t=>gC l ns (i+1) (dm l i t.1,dR t.2.1 n (dm l i t.1),fR t.2.1 t.2.2 n (dm l i t.1))
def fD (q:QP):List ab->St->St
 |[],t=>t
 |l::ls,t=>fD q ls (gC l l.next 0 (aq q l t.1,t.2))
def eW (q:QP)(E:List (List Nat))(O:Nat->Bool)(b:Nat):St:=fD q (q.blocks.getD b []) (E.getD b [],E,O)
theorem C6 (q:QP)(ls:List ab)(i:Nat)(hi:i<ls.length)(t:St):fD q (ls.drop i) t=fD q (ls.drop (i+1)) (gC (ls.getD i ab.nil) (ls.getD i ab.nil).next 0 (aq q (ls.getD i ab.nil) t.1,t.2)):=by
 rw[jE hi];have:ls.getD i ab.nil=ls[i]:=by simp[hi]
 rw[this];rfl
theorem EW (l:ab)(ns:List Nat)(i:Nat)(hi:i<ns.length)(t:St):gC l (ns.drop i) i t=gC l (ns.drop (i+1)) (i+1) (dm l i t.1,dR t.2.1 (ns.getD i 0) (dm l i t.1),fR t.2.1 t.2.2 (ns.getD i 0) (dm l i t.1)):=by
 rw[jE hi];have:ns.getD i 0=ns[i]:=by simp[hi]
 rw[this];rfl
theorem oi {z:Nat}{w:World}{ad:Option Addr}{n c:Nat}{ls:List ab}{vs:List (Value×Value)}(h:dD z w (.slice ad n c) ls vs)(j:Nat)(hj:j<ls.length):
  ∃g ap cp an cn,ad=some ⟨g,0,none⟩/\n=ls.length/\ls.length<=c/\g<w.heap.size/\w.cell? ⟨g,j*6,none⟩=some (.int .i64 ((ls.getD j ab.nil).num:Nat))/\w.cell? ⟨g,j*6+1,none⟩=some (.int .i64 ((ls.getD j ab.nil).op:Nat))/\w.cell? ⟨g,j*6+2,none⟩=some (.slice ap (ls.getD j ab.nil).places.length cp)/\
   w.cell? ⟨g,j*6+3,none⟩=some (.int .i64 (ls.getD j ab.nil).number)/\w.cell? ⟨g,j*6+4,none⟩=some (.int .i64 (ls.getD j ab.nil).flag)/\w.cell? ⟨g,j*6+5,none⟩=some (.slice an (ls.getD j ab.nil).next.length cn)/\
   vs.getD j (undef,undef)=(.slice ap (ls.getD j ab.nil).places.length cp,.slice an (ls.getD j ab.nil).next.length cn):=by
 obtain⟨g,cap,hv,hc,hg,aX⟩:=cW h.row (by omega);simp only[Value.slice.injEq]at hv;obtain⟨rfl,rfl,rfl⟩:=hv;have hE:=h.each j hj;obtain⟨ap,cp,h1⟩:=bG hE.places;obtain⟨an,cn,h2⟩:=bG hE.next;have hjv:j<vs.length:=by rw[h.len];exact hj
 have hz:(ls.zip vs)[j]?=some (ls.getD j ab.nil,vs.getD j (undef,undef)):=by
  simp[List.getElem?_zip_eq_some,hj,hjv]
 have key:∀i,i<6->w.cell? ⟨g,j*6+i,none⟩=(dO (ls.getD j ab.nil,vs.getD j (undef,undef)))[i]?:=fun i hi=>by
  rw[aX _ (by omega),bd,ie dO 6 (fun _=>rfl) _ j i hi,hz];rfl
 have k0:=key 0 (by decide);have k1:=key 1 (by decide);have k2:=key 2 (by decide);have k3:=key 3 (by decide);have k4:=key 4 (by decide);have k5:=key 5 (by decide);refine⟨g,ap,cp,an,cn,rfl,rfl,hc,hg,k0,k1,?_,k3,k4,?_,Prod.ext h1 h2⟩
 ·rw[k2];show some (vs.getD j (undef,undef)).1=_;rw[h1]
 ·rw[k5];show some (vs.getD j (undef,undef)).2=_;rw[h2]
theorem fZ {z a:Nat}{w:World}{q:QP}{vl vb:Value}{us:List Value}{vss:List (List (Value×Value))}(h:gS z a w q vl vb us vss)(j:Nat)(hj:j<q.blocks.length):
  ∃gb cb ad c,vb=.slice (some ⟨gb,0,none⟩) q.blocks.length cb/\q.blocks.length<=cb/\gb<w.heap.size/\w.cell? ⟨gb,j,none⟩=some (.slice ad (q.blocks.getD j []).length c)/\us.getD j undef=.slice ad (q.blocks.getD j []).length c:=by
 obtain⟨g,cap,hv,hc,hg,aX⟩:=cW h.blocks (by omega);obtain⟨ad,c,e⟩:=vO (h.each j hj);refine⟨g,cap,ad,c,hv,hc,hg,?_,e⟩;rw[aX j (by omega),<-e,jA,jB (by rw[h.SQ];exact hj)];rfl
theorem Sr {z:Nat}{w:World}{an:Option Addr}{cn:Nat}{l:ab}{vp:Value}(h:aC z w l vp (.slice an l.next.length cn))(j:Nat)(hj:j<l.next.length):
  ∃g,an=some ⟨g,0,none⟩/\l.next.length<=cn/\g<w.heap.size/\w.cell? ⟨g,j,none⟩=some (.int .i64 ((l.next.getD j 0:Nat):Int)):=by
 obtain⟨g,cap,hv,hc,hg,aX⟩:=cW h.next (by omega);simp only[Value.slice.injEq]at hv;obtain⟨rfl,-,rfl⟩:=hv;refine⟨g,rfl,hc,hg,?_⟩;rw[aX j (by omega)];simp[eg,hj]
end FlwM
end Go.Proofs.YtmlgajhhnojdjaaGreatDoor

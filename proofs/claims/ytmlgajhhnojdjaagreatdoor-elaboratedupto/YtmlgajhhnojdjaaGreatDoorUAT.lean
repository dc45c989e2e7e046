import Derived.Test.YtmlgajhhnojdjaaGreatDoorUAR
set_option maxHeartbeats 8000000
namespace Go.Proofs.YtmlgajhhnojdjaaGreatDoor
namespace FlwR
open Go Go.RowKit Sq Aux PrjF PrjG PrjJ PrjK PrjL PrjM PrjO PrjP PrjQ PrjS PrjU FlwA FlwB FlwC FlwD FlwE FlwF FlwG FlwH FlwI FlwJ FlwK FlwL FlwM FlwN FlwO FlwP FlwQ
theorem Fk:(Tryz.prog.info? 209).map (fun i=>(i.zero.map Value.cells,i.size,i.bytes))=some (some (aj au).toArray,24,24):=by kernel_rfl
theorem DV:Tryz.prog.underlying 139=some (.slice 209):=by kernel_rfl
theorem NC:ey au:=⟨by decide,qI⟩
theorem PM (w:World)(n:Nat):dG (w.alloc (.cells (madeCells (aj au).toArray (n*24)) 209)) w.heap.size (List.replicate n au):=by
 refine⟨fun s hs=>by rw[List.eq_of_mem_replicate hs];exact NC,madeCells (aj au).toArray (n*24),by show(w.heap.push _)[w.heap.size]?=_;simp,by rw[size_madeCells];simp;omega,fun i j hi hj=> ?_⟩;rw[List.length_replicate]at hi;have hs:(aj au).toArray.size=24:=by decide
 have xW:j<(aj au).toArray.size:=by rw[hs];exact hj
 have e:(i*24+j)%(aj au).toArray.size=j:=by rw[hs];omega
 unfold madeCells;rw[Array.getElem?_map,Array.getElem?_range,jb (by omega),Option.map_some,e];rw[getElem!_pos _ j xW];have hz:(List.replicate n au).getD i []=au:=by simp[List.getD_eq_getElem?_getD,hi]
 have hl:j<au.length:=by simpa [au]using hj
 rw[hz];simp[aj,hl]
theorem x6 (n:Nat)(hn:n<=4000)(w:World):(Instr.makeSlice 139 (.int .i64 (n:Int)) (.int .i64 (n:Int))).run Tryz.prog w=.ok (.slice (some ⟨w.heap.size,0,none⟩) n n) (w.alloc (.cells (madeCells (aj au).toArray (n*24)) 209)):=by
 obtain⟨i,hi,hx⟩:=Option.map_eq_some_iff.1 Fk;simp only[Prod.mk.injEq]at hx;obtain⟨hz,hs,hb⟩:=hx;obtain⟨z,hz,hc⟩:=Option.map_eq_some_iff.1 hz;have:=run_make (P:=Tryz.prog) w 139 209 i z DV hi hz .i64 .i64 n n (by omega) (Int.le_refl _) (by rw[hb];omega) (by omega);rw[hs,hc]at this;simpa using this
section
variable {z a:Nat} {w w':World} {q:QP} {vl vb:Value} {us:List Value} {vss:List (List (Value×Value))}
set_option maxRecDepth 20000 in
theorem AB (h:gS z a w q vl vb us vss)(h0:0<q.blocks.length)(hn:q.blocks.length<=4000)(bU:q.locals.length<=12)(hq:AE q.blocks.length q)(dp:∀j,(q.blocks.getD j []).length<=4000)
  (I:List (List Nat)->(Nat->Bool)->Prop) (C9:I (dR (List.replicate q.blocks.length au) 0 aT) (fR (List.replicate q.blocks.length au) (fun _=>false) 0 aT))
  (hI:∀E O b,AP E->E.length=q.blocks.length->b<q.blocks.length->O b=true->I E O->I (eW q E (cI O b false) b).2.1 (eW q E (cI O b false) b).2.2):
  Calls Tryz.prog 90 #[.pointer (some ⟨a,0,none⟩)] w fun e w'=>∃ap mb E' O',e=.returned (.agg #[.pointer (some ⟨a,0,none⟩),.slice (some ⟨ap,0,none⟩) q.blocks.length q.blocks.length,.map (some mb)])/\
   gS z a w' q vl vb us vss/\E'.length=q.blocks.length/\dG w' ap E'/\cY w' mb q.blocks.length O'/\I E' O'/\(∀b,O' b=false)/\w.heap.size<=ap/\w.heap.size<=mb/\Below w.heap.size w w':=by
 obtain⟨p0,p1,-,-⟩:=gS.facts h;obtain⟨adb,cb,rfl⟩:=bG h.blocks;have YT:Below w.heap.size w (w.alloc (.cells #[.pointer none,.slice none 0 0,.map none] 165)):=(Below.refl _ _).alloc (jC _) _;have XN:=x6 q.blocks.length hn;have hmm:= @run_makeMap Tryz.prog;have p1R:=(YT.cell (p:=⟨a,1,none⟩) h.lt).trans p1;have hPR:=h.below YT;have GY:(w.alloc (.cells #[.pointer none,.slice none 0 0,.map none] 165)).heap[w.heap.size]?=some (.cells #[.pointer none,.slice none 0 0,.map none] 165 (0,0)):=jD;go_enter Tryz.func90,Tryz.ntmps90
 go_upto_region 1 with fail
 generalize (w.alloc (.cells #[.pointer none,.slice none 0 0,.map none] 165))=R at*;go_upto_region 2 with fail
 have aG:Below R.heap.size R (R.alloc (.cells (madeCells (aj au).toArray (q.blocks.length*24)) 209)):=(Below.refl _ _).alloc (jC _) _;have lh:=PM R q.blocks.length;have iQ:(R.alloc (.cells (madeCells (aj au).toArray (q.blocks.length*24)) 209)).heap.size=R.heap.size+1:=by simp
 generalize (R.alloc (.cells (madeCells (aj au).toArray (q.blocks.length*24)) 209))=R1 at*;have bH:Below R1.heap.size R1 (R1.alloc (.map #[] 0)):=(Below.refl _ _).alloc (jC _) _;have NQ:=cY.made R1 q.blocks.length;have Cc:(R1.alloc (.map #[] 0)).heap.size=R.heap.size+1+1:=by simp[iQ]
 generalize (R1.alloc (.map #[] 0))=R2 at*;have cT:Below R2.heap.size R2 (R2.alloc (.cells #[.pointer (some ⟨a,0,none⟩),.slice (some ⟨R.heap.size,0,none⟩) q.blocks.length q.blocks.length,.map (some (R.heap.size+1))] 165)):=(Below.refl _ _).alloc (jC _) _;have VS:(R2.alloc (.cells #[.pointer (some ⟨a,0,none⟩),.slice (some ⟨R.heap.size,0,none⟩) q.blocks.length q.blocks.length,.map (some (R.heap.size+1))] 165)).heap[R2.heap.size]?=some (.cells #[.pointer (some ⟨a,0,none⟩),.slice (some ⟨R.heap.size,0,none⟩) q.blocks.length q.blocks.length,.map (some (R.heap.size+1))] 165 (0,0)):=jD;generalize (R2.alloc (.cells #[.pointer (some ⟨a,0,none⟩),.slice (some ⟨R.heap.size,0,none⟩) q.blocks.length q.blocks.length,.map (some (R.heap.size+1))] 165))=R3 at*;have hwR:w.heap.size<R.heap.size:=lt_of_heap GY;have WI:Below R.heap.size R R3:=aG.trans ((bH.mono aG.size).trans (cT.mono (jS aG.size bH.size)));have Fa:dG R3 R.heap.size (List.replicate q.blocks.length au):=(lh.heap (bH.block _ lh.lt)).heap (cT.block _ (by omega));rw[iQ]at NQ;rw[Cc]at VS;have Ts:cY R3 (R.heap.size+1) q.blocks.length (fun _=>false):=NQ.heap (cT.block _ (by omega));have hW:jk z (R.heap.size+1+1) a R.heap.size (R.heap.size+1) R3 q vl (.slice adb q.blocks.length cb) us vss (List.replicate q.blocks.length au) (fun _=>false):=
  ⟨VS,hPR.below WI,by simp,Fa,Ts⟩
 have X7:=(WI.block w.heap.size hwR).trans GY;have qR:=YT.trans (WI.mono YT.size);have KF:=H4 hW h0 hn bU hq dp I C9 hI;clear aG bH cT lh NQ iQ Cc VS Ts Fa XN hmm p1R GY hPR p0 p1 C9 hI;have NI:w.heap.size<=R.heap.size:=by omega
 have RR:w.heap.size<=R.heap.size+1:=by omega
 generalize VT:R.heap.size+1+1=x at*;have hne1:w.heap.size≠R.heap.size:=by omega
 have hne2:w.heap.size≠R.heap.size+1:=by omega
 clear VT;generalize R.heap.size=ap at*;generalize ap+1=mb at*;go_wp2_with (go_at_call 144;refine KF.mono ?_;rintro e w1 ⟨rfl,E',O',oU,QL,eJ,lU⟩;obtain⟨c0,c1,c2⟩:=oU.facts;have lh:=(lU.block _ (lt_of_heap X7) hne1 hne2).trans X7;have d0:=(cell_of_heap lh 0).trans (by rfl:_=some (Value.pointer none));have d1:=(cell_of_heap lh 1).trans (by rfl:_=some (Value.slice none 0 0));have d2:=(cell_of_heap lh 2).trans (by rfl:_=some (Value.map none));have f0:=frozen_of_heap lh 0;have f1:=frozen_of_heap lh 1;have f2:=frozen_of_heap lh 2)
 have hrf:(((w1.setCell ⟨w.heap.size,0,none⟩ (.pointer (some ⟨a,0,none⟩))).setCell ⟨w.heap.size,1,none⟩ (.slice (some ⟨ap,0,none⟩) q.blocks.length q.blocks.length)).setCell ⟨w.heap.size,2,none⟩ (.map (some mb))).heap[w.heap.size]?=some (.cells #[.pointer (some ⟨a,0,none⟩),.slice (some ⟨ap,0,none⟩) q.blocks.length q.blocks.length,.map (some mb)] 165 (0,0)):=by
  rw[Go.Proofs.YtmlgajhhnojdjaaGreatDoor.Aux.heap_setCell_same (Go.Proofs.YtmlgajhhnojdjaaGreatDoor.Aux.heap_setCell_same (Go.Proofs.YtmlgajhhnojdjaaGreatDoor.Aux.heap_setCell_same lh 0 _) 1 _) 2 _];rfl
 have xS:bD w.heap.size w1 (((w1.setCell ⟨w.heap.size,0,none⟩ (.pointer (some ⟨a,0,none⟩))).setCell ⟨w.heap.size,1,none⟩ (.slice (some ⟨ap,0,none⟩) q.blocks.length q.blocks.length)).setCell ⟨w.heap.size,2,none⟩ (.map (some mb))):=(((bD.refl _ _).setCell 0 _).setCell 1 _).setCell 2 _;clear d0 d1 d2 f0 f1 f2 c0 c1 c2;generalize (((w1.setCell ⟨w.heap.size,0,none⟩ (.pointer (some ⟨a,0,none⟩))).setCell ⟨w.heap.size,1,none⟩ (.slice (some ⟨ap,0,none⟩) q.blocks.length q.blocks.length)).setCell ⟨w.heap.size,2,none⟩ (.map (some mb)))=wf at*;refine bodyPost_ret (bZ Tryz.results90 _ _ _ w.heap.size [.pointer (some ⟨a,0,none⟩),.slice (some ⟨ap,0,none⟩) q.blocks.length q.blocks.length,.map (some mb)] _ rfl (fun j v hv=>by rw[Nat.zero_add,cell_of_heap hrf];simpa using hv) Tryz.underlying165 rfl (by kernel_rfl)) rfl ?_;have LX:∀(g:Nat) (cs:Array Value) (e:TypeId) (f:Nat×Nat),w1.heap[g]?=some (.cells cs e f)->e≠165->wf.heap[g]?=w1.heap[g]?:=fun g cs e f hg he=>xS.block g (lt_of_heap hg) (fun e1=>by
  rw[e1,lh]at hg;simp only[Option.some.injEq,Obj.cells.injEq]at hg;exact he hg.2.1.symm)
 refine⟨ap,mb,E',O',rfl,?_,oU.len,oU.row.heap (xS.block _ oU.row.lt (by omega)),oU.mZ.heap (xS.block _ oU.mZ.lt (by omega)),QL,eJ,NI,RR,(qR.trans (lU.below NI RR qR.size)).trans (xS.below (jC _) (jS qR.size lU.size))⟩;exact(h.below ((qR.trans (lU.below NI RR qR.size)).trans (xS.below (jC _) (jS qR.size lU.size))))
set_option maxRecDepth 20000 in
theorem yr (h:gS z a w q vl vb us vss)(h0:0<q.blocks.length)(hn:q.blocks.length<=4000)(bU:q.locals.length<=12)(hq:AE q.blocks.length q)(dp:∀j,(q.blocks.getD j []).length<=4000)
  (I:List (List Nat)->(Nat->Bool)->Prop) (C9:I (dR (List.replicate q.blocks.length au) 0 aT) (fR (List.replicate q.blocks.length au) (fun _=>false) 0 aT))
  (hI:∀E O b,AP E->E.length=q.blocks.length->b<q.blocks.length->O b=true->I E O->I (eW q E (cI O b false) b).2.1 (eW q E (cI O b false) b).2.2):
  Calls Tryz.prog 54 #[.pointer (some ⟨a,0,none⟩)] w fun e w'=>(∃E',AP E'/\E'.length=q.blocks.length/\I E' (fun _=>false)/\e=.returned (Bz (aQ (cC q E') q.blocks.length 0)))/\Below w.heap.size w w':=by
 have KW:=AB h h0 hn bU hq dp I C9 hI;have KF:=fun x ap mb w1 E' (hW:jk z x a ap mb w1 q vl vb us vss E' (fun _=>false))=>yR hW hn bU hq dp
 go_enter Tryz.func54,Tryz.ntmps54
 go_upto_region 2 with(go_at_call 90;refine KW.mono ?_;rintro e w1 ⟨ap,mb,E',O',rfl,AY,AI,lh,ho1,QL,eJ,NI,RR,dH⟩)
 have hO:O'=fun _=>false:=funext eJ
 have WH:Below w1.heap.size w1 (w1.alloc (.cells #[.pointer (some ⟨a,0,none⟩),.slice (some ⟨ap,0,none⟩) q.blocks.length q.blocks.length,.map (some mb)] 165)):=(Below.refl _ _).alloc (jC _) _;have hX:(w1.alloc (.cells #[.pointer (some ⟨a,0,none⟩),.slice (some ⟨ap,0,none⟩) q.blocks.length q.blocks.length,.map (some mb)] 165)).heap[w1.heap.size]?=some (.cells #[.pointer (some ⟨a,0,none⟩),.slice (some ⟨ap,0,none⟩) q.blocks.length q.blocks.length,.map (some mb)] 165 (0,0)):=jD;have hW:jk z w1.heap.size a ap mb _ q vl vb us vss E' O':=⟨hX,AY.below WH,AI,lh.heap (WH.block _ lh.lt),ho1.below WH⟩;rw[hO]at hW QL;have KX:=KF _ _ _ _ _ hW;have hBX:=dH.trans (WH.mono dH.size);have ZD:AP E':=lh.1;obtain⟨r,hr⟩:∃r,Hid (aQ (cC q E') q.blocks.length 0=r):=⟨_,rfl⟩;rw[hr.out,sj]at KX;clear KF KW hW hX WH ho1 lh AY eJ hO C9 hI;generalize (w1.alloc (.cells #[.pointer (some ⟨a,0,none⟩),.slice (some ⟨ap,0,none⟩) q.blocks.length q.blocks.length,.map (some mb)] 165))=W at*;go_wp2_with (go_at_call 91;refine KX.mono ?_;rintro e w2 ⟨rfl,lV⟩)
 go_ret2
 refine⟨⟨E',ZD,AI,QL,?_⟩,hBX.trans (lV.below NI RR hBX.size)⟩;rw[hr.out,sj];rfl
end
end FlwR
namespace PrjV
open Go Go.RowKit Sq Aux PrjF PrjG PrjH PrjI PrjJ PrjK PrjL PrjM PrjN PrjO PrjP PrjQ PrjR PrjS PrjT PrjU
theorem p7 {ws:List B}{x:Nat×List B}(h:db ws=some x):x.1<23/\x.2.length=(ah x.1).length/\x.2=ws.drop 1:=by
 obtain⟨h1,h2⟩:=rU h;rw[db,h2]at h;simp only at h;split at h
 ·rename_i hc;refine⟨mH h2,?_,by rw[h1]⟩;rw[h1];simp only[List.length_drop];rw[h2];exact hc.1
 ·cases h
theorem xy (raw:Bool):∀(LS:List (List B)) (o:eA) (i:Nat) (S:List (Nat×List B)) (o':eA),ay raw LS o i=(S,o',none)->S.length=LS.length/\∀j,j<LS.length->∃ws x,LS[j]?=some ws/\S[j]?=some x/\db ws=some x
 |[],o,i,S,o',h=>by
  simp only[ay,Prod.mk.injEq]at h;obtain⟨rfl,-⟩:=h;exact⟨rfl,fun j hj=>by simp at hj⟩
 |ws::r,o,i,S,o',h=>by
  rw[ay]at h;cases hs:db ws with
  |none=>rw[hs]at h;simp at h
  |some x=>
   rw[hs]at h;simp only at h;by_cases ha:(aD raw o x.1).2=true
   ·rw[jb ha]at h;simp only[Prod.mk.injEq]at h;obtain⟨rfl,h2⟩:=h;obtain⟨i1,i2⟩:=xy raw r _ (i+1) _ o' (Prod.ext rfl h2);refine⟨by simp[i1],fun j hj=> ?_⟩;cases j with
    |zero=>exact⟨ws,x,rfl,rfl,hs⟩
    |succ j=>simpa using i2 j (by simpa using hj)
   ·rw[ja ha]at h;simp at h
theorem q6 (raw:Bool):∀(LS:List (List B)) (o:eA) (i:Nat) (S:List (Nat×List B)) (o':eA),ay raw LS o i=(S,o',none)->∀j,j<S.length->2<=(S.getD j (0,[])).1->o.sec=1\/1<=countB (S.take j)
 |[],o,i,S,o',h,j,hj,_=>by
  simp only[ay,Prod.mk.injEq]at h;obtain⟨rfl,-⟩:=h;simp at hj
 |ws::r,o,i,S,o',h,j,hj,h2=>by
  rw[ay]at h;cases hs:db ws with
  |none=>rw[hs]at h;simp at h
  |some x=>
   rw[hs]at h;simp only at h;by_cases ha:(aD raw o x.1).2=true
   ·rw[jb ha]at h;simp only[Prod.mk.injEq]at h;obtain⟨rfl,hr⟩:=h;have ak:∀(h2:2<=x.1),o.sec=1:=fun h2=>by
     rw[aD]at ha;split at ha
     ·simp at ha
     ·rw[ja (by omega),ja (by omega)]at ha;split at ha
      ·simp at ha
      ·rename_i h1;simpa using h1
    cases j with
    |zero=>exact .inl (ak (by simpa using h2))
    |succ j=>
     have ih:=q6 raw r _ (i+1) _ o' (Prod.ext rfl hr) j (by simpa using hj) (by simpa using h2);by_cases h1:x.1=1
     ·right;unfold countB;rw[List.take_succ_cons,List.filter_cons,jb (by simp[h1])];simp
     ·rcases ih with ih|ih
      ·left;by_cases h0:x.1=0
       ·rw[aD]at ih;split at ih
        ·exact ih
        ·exact ih
       ·exact ak (by omega)
      ·right;unfold countB at ih⊢;rw[List.take_succ_cons,List.filter_cons];split
       ·simp
       ·exact ih
   ·rw[ja ha]at h;simp at h
theorem Qg {raw:Bool}{L:List B}{S:List (Nat×List B)}{o:eA}(h:ay raw (L.map (split 32)) ⟨0,0,0⟩ 0=(S,o,none))(hL:L.length<=4000)(hlen:∀j,(word L j).length<=1048576):ya S/\S.length=L.length:=by
 obtain⟨h1,h2⟩:=xy raw _ _ _ _ _ h;rw[jc]at h1;have key:∀j,j<S.length->∃ws,ws=split 32 (word L j)/\db ws=some (S.getD j (0,[])):=fun j hj=>by
  obtain⟨ws,x,e1,e2,e3⟩:=h2 j (by simp;omega);refine⟨ws,?_,by rw[jA,e2];exact e3⟩;have DZ:j<L.length:=by omega
  rw[jJ,jB DZ]at e1;simp only[Option.map_some,Option.some.injEq]at e1;rw[<-e1];simp[word,DZ]
 refine⟨⟨by omega,fun j hj=> ?_,fun j hj=> ?_,fun j i=> ?_,fun j hj h2=> ?_⟩,h1⟩
 ·obtain⟨ws,-,hs⟩:=key j hj;exact(p7 hs).1
 ·obtain⟨ws,-,hs⟩:=key j hj;exact(p7 hs).2.1
 ·by_cases hj:j<S.length
  ·obtain⟨ws,e,hs⟩:=key j hj;rw[(p7 hs).2.2,e];have:word ((split 32 (word L j)).drop 1) i=word (split 32 (word L j)) (i+1):=by simp[word]
   rw[this];exact jS (ji 32 _ _) (hlen j)
  ·rw[jA,jG (by omega)];simp[word]
 ·have:=q6 raw _ _ _ _ _ h j hj h2;rcases this with h|h
  ·simp at h
  ·exact h
theorem lL (nb:Nat):∀(S:List (Nat×List B)) (i m:Nat) (q0 q:QP),aR nb S i q0=(q,none)->(∀b∈q0.blocks,b.length<=m)->q.locals.length<=q0.locals.length+S.length/\q.blocks.length<=q0.blocks.length+S.length/\∀b∈q.blocks,b.length<=m+S.length
 |[],i,m,q0,q,h,hm=>by
  simp only[aR,Prod.mk.injEq,and_true]at h;subst h;exact⟨jC _,jC _,hm⟩
 |x::r,i,m,q0,q,h,hm=>by
  rw[aR]at h;by_cases e0:x.1=0
  ·rw[jb e0]at h;split at h
   ·cases h
   ·obtain⟨i1,i2,i3⟩:=lL nb r (i+1) m _ q h hm;simp only[QP.addLocal,List.length_append,List.length_singleton]at i1 i2;exact⟨by simp;omega,by simp;omega,fun b hb=>by have:=i3 b hb;simp;omega⟩
  ·rw[ja e0]at h;by_cases e1:x.1=1
   ·rw[jb e1]at h;obtain⟨i1,i2,i3⟩:=lL nb r (i+1) m _ q h (fun b hb=>by
     simp only[QP.addBlock,List.mem_append,List.mem_singleton]at hb;rcases hb with hb|rfl
     ·exact hm b hb
     ·simp)
    simp only[QP.addBlock,List.length_append,List.length_singleton]at i1 i2;exact⟨by simp;omega,by simp;omega,fun b hb=>by have:=i3 b hb;simp;omega⟩
   ·rw[ja e1]at h;cases hl:dw q0.locals nb x with
    |none=>rw[hl]at h;cases h
    |some l=>
     rw[hl]at h;obtain⟨i1,i2,i3⟩:=lL nb r (i+1) (m+1) _ q h (fun b hb=>by
      simp only[QP.addLine,List.mem_append,List.mem_singleton]at hb;rcases hb with hb|rfl
      ·exact Nat.le_succ_of_le (hm b (List.dropLast_subset _ hb))
      ·rw[jV,List.length_singleton,List.getLastD_eq_getLast?];cases hq:q0.blocks.getLast? with
       |none=>simp
       |some b'=>have:=hm b' (List.mem_of_getLast? hq);simp;omega)
     simp only[QP.addLine,List.length_append,List.length_singleton,List.length_dropLast]at i1 i2;exact⟨by simp;omega,by simp;omega,fun b hb=>by have:=i3 b hb;simp;omega⟩
theorem Mw (l:B)(w:World)(h:l.length<=1048576)(E:Env w):
  Calls Tryz.prog 116 #[.string (bs l),.string ⟨#[10]⟩] w fun e w'=>e=.returned (.slice (some ⟨w.heap.size,0,none⟩) (split 10 l).length (split 10 l).length)/\Below w.heap.size w w'/\w.heap.size<w'.heap.size/\∀j,j<(split 10 l).length->w'.cell? ⟨w.heap.size,j,none⟩=some (.string (bs (word (split 10 l) j))):=by
 obtain⟨m,hm⟩:=E.ME;have hc:=CW 10 l.length l (jC _);refine(Tryz.strings_Split (bs l) ⟨#[10]⟩ m w (by rw[fI];omega) hm (by decide)).mono ?_;rintro e w' ⟨rfl,rfl⟩;rw[hc];refine⟨rfl,(Below.refl _ _).alloc (jC _) _,by simp,fun j hj=> ?_⟩;rw[((oL 10 (Lib.countB (bs l) ⟨#[10]⟩) l).2.2 (by omega))];have:(w.alloc (.cells (((split 10 l).map bs).map Value.string).toArray 9)).heap[w.heap.size]?=some (.cells (((split 10 l).map bs).map Value.string).toArray 9 (0,0)):=jD;rw[cell_of_heap this];simp[word,hj]
theorem lD (l:B)(w:World):Calls Tryz.prog 114 #[.string (bs l),.string ⟨#[10]⟩] w fun e w'=>e=.returned (.int .i64 (((split 10 l).length-1:Nat):Int))/\w'=w:=by
 have:=Tryz.strings_Count_one (bs l) 10 w;have e:(Lib.countByte (bs l).data.toList 10:Nat)=(split 10 l).length-1:=by
  rw[lO];simp[Lib.countByte,bs]
 rw[e]at this;exact this
end PrjV
namespace PrjW
open Go Go.RowKit Sq Aux PrjF PrjG PrjH PrjI PrjJ PrjK PrjL PrjM PrjN PrjO PrjP PrjQ PrjR PrjS PrjT PrjU PrjV
structure AR (z a:Nat)(w:World)(q:QP):Prop where
 at_:∃vl vb us vss,gS z a w q vl vb us vss
 ok:∃nb,nb<=4000/\AE nb q
 locals:q.locals.length<=4000
 blocks:q.blocks.length<=4000
 lines:∀j,(q.blocks.getD j []).length<=4000
def de (text:B)(raw:Bool)(w:World)(e:Ending)(w':World):Prop:=
 Below w.heap.size w w'/\∃v,e=.returned (.tuple #[v,.int .i64 ((az text raw).2.1:Nat),.int .i64 ((az text raw).2.2:Nat)])/\
  (((az text raw).1=none/\v=.pointer none)\/∃q a z,(az text raw).1=some q/\v=.pointer (some ⟨a,0,none⟩)/\w.heap.size<=z/\AR z a w' q)
theorem de.bad {text:B}{raw:Bool}{w w':World}{c k:Nat}(hb:Below w.heap.size w w')(h:az text raw=(none,c,k)):de text raw w (.returned (.tuple #[.pointer none,.int .i64 (c:Nat),.int .i64 (k:Nat)])) w':=
 ⟨hb,.pointer none,by rw[h],.inl ⟨by rw[h],rfl⟩⟩
theorem de.Ic {text:B}{raw:Bool}{w w':World}{q:QP}{a z:Nat}(hb:Below w.heap.size w w')(h:az text raw=(some q,0,0))(hz:w.heap.size<=z)(hg:AR z a w' q):de text raw w (.returned (.tuple #[.pointer (some ⟨a,0,none⟩),.int .i64 0,.int .i64 0])) w':=
 ⟨hb,.pointer (some ⟨a,0,none⟩),by rw[h];rfl,.inr ⟨q,a,z,by rw[h],rfl,hz,hg⟩⟩
section
variable {text:B} {raw:Bool}
theorem M8 (h:(split 10 text).length>(if raw then 4000 else 120)):az text raw=(none,1,0):=by rw[az,jb h]
theorem M7 (h:¬(split 10 text).length>(if raw then 4000 else 120)){k:Nat}(hs:(ay raw (br text) ⟨0,0,0⟩ 0).2.2=some k):az text raw=(none,2,k):=by
 rw[az,ja h,hs]
theorem Jf (h:¬(split 10 text).length>(if raw then 4000 else 120)){S:List (Nat×List B)}{o:eA}(hs:ay raw (br text) ⟨0,0,0⟩ 0=(S,o,none))(ho:¬o.sec=2):az text raw=(none,2,(split 10 text).length):=by
 rw[az,ja h,hs];simp only;rw[jb ho]
theorem Na (h:¬(split 10 text).length>(if raw then 4000 else 120)){S:List (Nat×List B)}{o:eA}(hs:ay raw (br text) ⟨0,0,0⟩ 0=(S,o,none))(ho:o.sec=2){k:Nat}(hl:(aR (countB S) S 0 QP.empty).2=some k):az text raw=(none,3,k):=by
 rw[az,ja h,hs];simp only;rw[ja (by simp[ho]),hl]
theorem Nb (h:¬(split 10 text).length>(if raw then 4000 else 120)){S:List (Nat×List B)}{o:eA}(hs:ay raw (br text) ⟨0,0,0⟩ 0=(S,o,none))(ho:o.sec=2){q:QP}(hl:aR (countB S) S 0 QP.empty=(q,none)){k:Nat}(hm:q.misfit=some k):az text raw=(none,4,k):=by
 rw[az,ja h,hs];simp only;rw[ja (by simp[ho]),hl];simp only;rw[hm]
theorem vy (h:¬(split 10 text).length>(if raw then 4000 else 120)){S:List (Nat×List B)}{o:eA}(hs:ay raw (br text) ⟨0,0,0⟩ 0=(S,o,none))(ho:o.sec=2){q:QP}(hl:aR (countB S) S 0 QP.empty=(q,none))(hm:q.misfit=none):az text raw=(some q,0,0):=by
 rw[az,ja h,hs];simp only;rw[ja (by simp[ho]),hl];simp only;rw[hm]
end
theorem AR.make {z a nb:Nat}{w:World}{S:List (Nat×List B)}{q:QP}(hn:nb=countB S)(hS:ya S)(hl:aR nb S 0 QP.empty=(q,none)){vl vb:Value}{us:List Value}{vss:List (List (Value×Value))}(hp:gS z a w q vl vb us vss):AR z a w q:=by
 have h1:=lL nb S 0 0 QP.empty q hl (fun b hb=>by simp[QP.empty]at hb);have h2:=mF nb S 0 QP.empty q hl (fun x hx=>by
  obtain⟨j,hj,rfl⟩:=List.getElem_of_mem hx;have:=hS.op j hj;simpa [List.getD_eq_getElem?_getD,hj]using this) ⟨fun x hx=>by simp[QP.empty]at hx,fun b hb=>by simp[QP.empty]at hb⟩
 have xV:=hS.mc;simp only[QP.empty,List.length_nil,Nat.zero_add]at h1;refine⟨⟨vl,vb,us,vss,hp⟩,⟨nb,by have:=countB_le S;omega,h2⟩,by omega,by omega,fun j=> ?_⟩;by_cases hj:j<q.blocks.length
 ·have:=h1.2.2 (q.blocks.getD j []) (by simp[hj]);omega
 ·rw[jA,jG (by omega)];simp
theorem Jp {raw:Bool}{L:List B}{w w':World}{e:Ending}(h:dI raw L w e w'):∃v7 v8 v9,e=.returned (.tuple #[v7,v8,v9])/\dI raw L w (.returned (.tuple #[v7,v8,v9])) w':=by
 have h':=h;unfold dI at h;obtain⟨-,h⟩:=h;split at h
 ·subst h;exact⟨_,_,_,rfl,h'⟩
 ·obtain⟨v,vs,rfl,-⟩:=h;exact⟨_,_,_,rfl,h'⟩
theorem Gw {raw:Bool}{L:List B}{w w':World}{v7 v8 v9:Value}(h:dI raw L w (.returned (.tuple #[v7,v8,v9])) w'):Below w.heap.size w w'/\((∃k:Nat,(ay raw (L.map (split 32)) ⟨0,0,0⟩ 0).2.2=some k/\v7=.slice none 0 0/\v8=.int .i64 (k:Nat)/\v9=.bool false)\/
  ∃S o vs,ay raw (L.map (split 32)) ⟨0,0,0⟩ 0=(S,o,none)/\v8=.int .i64 (L.length:Nat)/\v9=.bool (decide (o.sec=2))/\cZ w.heap.size w' v7 S vs):=by
 obtain⟨hb,h⟩:=h;refine⟨hb,?_⟩;generalize ay raw (L.map (split 32)) ⟨0,0,0⟩ 0=R at h⊢;obtain⟨S,o,x⟩:=R;cases x with
 |some k=>
  simp only[Ending.returned.injEq,Value.tuple.injEq,Array.mk.injEq,List.cons.injEq,and_true]at h;exact .inl ⟨k,rfl,h.1,h.2.1,h.2.2⟩
 |none=>
  obtain⟨v,vs,e,hs⟩:=h;simp only[Ending.returned.injEq,Value.tuple.injEq,Array.mk.injEq,List.cons.injEq,and_true]at e;obtain⟨rfl,h2,h3⟩:=e;exact .inr ⟨S,o,vs,rfl,h2,h3,hs⟩
theorem Mx {nb:Nat}{S:List (Nat×List B)}{w w':World}{e:Ending}(h:gW nb S w e w'):Below w.heap.size w w'/\((∃k:Nat,(aR nb S 0 QP.empty).2=some k/\e=.returned (.tuple #[.pointer none,.int .i64 (k:Nat),.bool false]))\/∃q a vl vb us vss,aR nb S 0 QP.empty=(q,none)/\e=.returned (.tuple #[.pointer (some ⟨a,0,none⟩),.int .i64 0,.bool true])/\gS w.heap.size a w' q vl vb us vss):=by
 obtain⟨hb,h⟩:=h;refine⟨hb,?_⟩;generalize aR nb S 0 QP.empty=R at h⊢;obtain⟨q,x⟩:=R;cases x with
 |some k=>exact .inl ⟨k,rfl,h⟩
 |none=>
  obtain⟨a,vl,vb,us,vss,h1,h2⟩:=h;exact .inr ⟨q,a,vl,vb,us,vss,rfl,h1,h2⟩
theorem MA {q:QP}{w w':World}{e:Ending}(h:jj q w e w'):Below w.heap.size w w'/\((∃k:Nat,q.misfit=some k/\e=.returned (.tuple #[.int .i64 (k:Nat),.bool true]))\/(q.misfit=none/\e=.returned (.tuple #[.int .i64 0,.bool false]))):=by
 obtain⟨hb,h⟩:=h;refine⟨hb,?_⟩;cases hm:q.misfit with
 |some k=>rw[hm]at h;exact .inl ⟨k,rfl,h⟩
 |none=>rw[hm]at h;exact .inr ⟨rfl,h⟩
theorem FK {z g cap:Nat}{S:List (Nat×List B)}{vs:List Value}(w:World)(h:cZ z w (.slice (some ⟨g,0,none⟩) S.length cap) S vs)(hS:ya S)(hg:g<w.heap.size)(jw:S.length<=cap)(E:Env w):
  Calls Tryz.prog 117 #[.slice (some ⟨g,0,none⟩) S.length cap] w fun e w'=>Below w.heap.size w w'/\((∃k:Nat,(aR (countB S) S 0 QP.empty).2=some k/\e=.returned (.tuple #[.pointer none,.int .i64 (k:Nat),.bool false]))\/∃q a,aR (countB S) S 0 QP.empty=(q,none)/\e=.returned (.tuple #[.pointer (some ⟨a,0,none⟩),.int .i64 0,.bool true])/\AR w.heap.size a w' q):=
 (I1 w h hS hg jw E).mono fun e w' hl=>by
  obtain⟨h1,h2|⟨q,a,vl,vb,us,vss,h3,h4,h5⟩⟩:=Mx hl
  ·exact⟨h1,.inl h2⟩
  ·exact⟨h1,.inr ⟨q,a,h3,h4,AR.make rfl hS h3 h5⟩⟩
theorem FN {z a:Nat}{q:QP}(w:World)(h:AR z a w q)(E:Env w):
  Calls Tryz.prog 118 #[.pointer (some ⟨a,0,none⟩)] w fun e w'=>Below w.heap.size w w'/\((∃k:Nat,q.misfit=some k/\e=.returned (.tuple #[.int .i64 (k:Nat),.bool true]))\/(q.misfit=none/\e=.returned (.tuple #[.int .i64 0,.bool false]))):=by
 obtain⟨⟨vl,vb,us,vss,hP⟩,⟨nb,-,hq⟩,h1,h2,h3⟩:=h;exact(I3 q nb z a vl vb us vss w hP h1 hq h2 h3 E).mono fun e w' hm=>MA hm
theorem AR.below {z a:Nat}{w w':World}{q:QP}(h:AR z a w q)(hb:Below w.heap.size w w'):AR z a w' q:=by
 obtain⟨⟨vl,vb,us,vss,hP⟩,h0,h1,h2,h3⟩:=h;exact⟨⟨vl,vb,us,vss,hP.below hb⟩,h0,h1,h2,h3⟩
set_option maxRecDepth 20000 in
theorem Cv (text:B)(raw:Bool)(w:World)(h:text.length<=1048576)(E:Env w):
  Calls Tryz.prog 72 #[.agg #[.bool raw,.int .i64 (if raw then 4000 else 120:Nat),.int .i64 (if raw then 2000 else 20:Nat)],.string (bs text)] w (de text raw w):=by
 have KSp:=fun w' (hL:(split 10 text).length<=4000) (g cap:Nat) (hc:(split 10 text).length<=cap) (hg:g<w'.heap.size) (aX:∀j,j<(split 10 text).length->w'.cell? ⟨g,j,none⟩=some (.string (bs (word (split 10 text) j)))) (E':Env w')=>
  Nk raw (if raw then 4000 else 120) g cap (split 10 text) w' hL hc hg aX (fun j=>jS (ji 10 text j) h) E'
 have RU:=iy 10 text;have KC:=fun w'=>lD text w'
 by_cases hlong:(split 10 text).length>(if raw then 4000 else 120)
 ·have hx:=M8 hlong;generalize (if raw then 4000 else 120:Nat)=ln at*;generalize (if raw then 2000 else 20:Nat)=mb at*;have Uo:(ln:Int)<=(((split 10 text).length-1:Nat):Int):=by omega
  generalize (split 10 text).length-1=yf at*;have aF:Below w.heap.size w (w.alloc (.cells #[.bool raw,.int .i64 (ln:Nat),.int .i64 (mb:Nat)] 130)):=(Below.refl _ _).alloc (jC _) _;go_enter Tryz.func72,Tryz.ntmps72
  go_wp2
  go_quiet ((go_at_call 114;exact Calls.quiet_of_same (KC _)))
  go_wp2
  go_ret3
  exact de.bad (below_drewN aF _) hx
 ·have hL:(split 10 text).length<=4000:=by cases raw<;>simp at hlong<;>omega
  have R1:=fun k=>M7 (raw:=raw) (text:=text) hlong (k:=k)
  have R2:=fun S o hs ho=>Jf (raw:=raw) (text:=text) hlong (S:=S) (o:=o) hs ho
  have R3:=fun S o hs ho k hl=>Na (raw:=raw) (text:=text) hlong (S:=S) (o:=o) hs ho (k:=k) hl
  have R4:=fun S o hs ho q hl k hm=>Nb (raw:=raw) (text:=text) hlong (S:=S) (o:=o) hs ho (q:=q) hl (k:=k) hm
  have R5:=fun S o hs ho q hl hm=>vy (raw:=raw) (text:=text) hlong (S:=S) (o:=o) hs ho (q:=q) hl hm
  have HR:Hid (_/\_/\_/\_/\_):=⟨R1,R2,R3,R4,R5⟩;clear R1 R2 R3 R4 R5;generalize (if raw then 4000 else 120:Nat)=ln at*;generalize (if raw then 2000 else 20:Nat)=mb at*;have Uo:¬(ln:Int)<=(((split 10 text).length-1:Nat):Int):=by omega
  have aF:Below w.heap.size w (w.alloc (.cells #[.bool raw,.int .i64 (ln:Nat),.int .i64 (mb:Nat)] 130)):=(Below.refl _ _).alloc (jC _) _;have V5:Hid (_):=RU;obtain⟨yf,Up⟩:∃yf,yf=(split 10 text).length-1:=⟨_,rfl⟩;rw[<-Up]at KC Uo;clear Up hlong;go_enter Tryz.func72,Tryz.ntmps72
  go_wp2
  go_quiet ((go_at_call 114;exact Calls.quiet_of_same (KC _)))
  go_wp2
  have rA:=below_drewN aF nq;have d0:((w.alloc (.cells #[.bool raw,.int .i64 (ln:Nat),.int .i64 (mb:Nat)] 130)).drewN nq).heap[w.heap.size]?=some (.cells #[.bool raw,.int .i64 (ln:Nat),.int .i64 (mb:Nat)] 130 (0,0)):=jD;generalize ((w.alloc (.cells #[.bool raw,.int .i64 (ln:Nat),.int .i64 (mb:Nat)] 130)).drewN nq)=W at*;have Uj:Below w.heap.size w W.drew:=⟨rA.os,rA.tape,rA.output,rA.size,rA.block⟩;have KL:=Mw text W.drew h (E.on Uj);have e0:W.cell? ⟨w.heap.size,0,none⟩=some (.bool raw):=by rw[cell_of_heap d0];rfl
  have e1:W.cell? ⟨w.heap.size,1,none⟩=some (.int .i64 (ln:Nat)):=by rw[cell_of_heap d0];rfl
  have e2:W.cell? ⟨w.heap.size,2,none⟩=some (.int .i64 (mb:Nat)):=by rw[cell_of_heap d0];rfl
  have hltW:=lt_of_heap d0;go_cut [7,8,9] (fun v7 v8 v9 wc=>∃w1,Below w.heap.size w w1/\dI raw (split 10 text) w1 (.returned (.tuple #[v7,v8,v9])) wc)
  case first=>
   go_region_with (first
    |(go_at_call 115;refine K1.mono ?_;rintro e w2 xX;obtain⟨v7,v8,v9,rfl,xX⟩:=Jp xX)
    |(go_at_call 116;refine KL.mono ?_;rintro e w1 ⟨rfl,aG,G3,xU⟩;have Uq:w1.heap[w.heap.size]?=_:=(aG.block w.heap.size hltW).trans d0;have c0:=(cell_of_heap Uq 0).trans (by rfl:_=some (Value.bool raw));have c1:=(cell_of_heap Uq 1).trans (by rfl:_=some (Value.int .i64 (ln:Nat)));have c2:=(cell_of_heap Uq 2).trans (by rfl:_=some (Value.int .i64 (mb:Nat)));have dH:Below w.heap.size w w1:=Uj.trans (aG.mono Uj.size);have K1:=KSp w1 hL W.heap.size (split 10 text).length (jC _) G3 xU (E.on dH)))
   all_goals go_wp2_with fail
   all_goals
    go_meet
    case rel=>exact⟨w1,dH,xX⟩
  case rest=>
   obtain⟨w1,dH,xX⟩:=hcut;obtain⟨bH,OO⟩:=Gw xX;have dT:=dH.trans (bH.mono dH.size);obtain⟨R1,R2,R3,R4,R5⟩:=HR.out;clear HR KSp KC KL xX;rcases OO with⟨k,hk,rfl,rfl,rfl⟩|⟨SS,o,vs,hs,rfl,rfl,Ij⟩
   ·have hx:=R1 k hk;clear R1 R2 R3 R4 R5 hk;go_wp2
    go_ret3
    exact de.bad dT hx
   ·obtain⟨qU,hlen⟩:=Qg hs hL (fun j=>jS (ji 10 text j) h);by_cases ho:o.sec=2
    ·have XR:decide (o.sec=2)=true:=by simp[ho]
     rw[XR];obtain⟨g,cap,rfl,jw,hg⟩:=Jl Ij (by have:=V5.out;omega);have KU:=FK wc Ij qU hg jw (E.on dT);have Q3:=fun k hl=>R3 SS o hs ho k hl
     have Q4:=fun q hl k hm=>R4 SS o hs ho q hl k hm
     have Q5:=fun q hl hm=>R5 SS o hs ho q hl hm
     have HQ:Hid (_/\_/\_):=⟨Q3,Q4,Q5⟩;clear R1 R2 R3 R4 R5 Q3 Q4 Q5 hs;have KM:=fun(q:QP) (a:Nat) (w3:World) (cT:Below wc.heap.size wc w3) (hG:AR wc.heap.size a w3 q)=>FN w3 hG ((E.on dT).on cT)
     generalize (aR (countB SS) SS 0 QP.empty)=LK at*;clear Ij qU RU hL hlen ho XR e0 e1 e2 d0 Uo;go_wp2_with (first
      |(go_at_call 117;refine KU.mono ?_;rintro e w3 ⟨cT,⟨k,hk,rfl⟩|⟨q,a,hq,rfl,hG⟩⟩)
      |(go_at_call 118;refine(KM q a w3 cT hG).mono ?_;rintro e w4 ⟨A7,⟨k,hk,rfl⟩|⟨hm,rfl⟩⟩))
     ·go_ret3
      exact de.bad (dT.trans (cT.mono dT.size)) (HQ.out.1 k hk)
     ·go_ret3
      have qR:=dT.trans (cT.mono dT.size);exact de.bad (qR.trans (A7.mono qR.size)) (HQ.out.2.1 q hq k hk)
     ·go_ret3
      have qR:=dT.trans (cT.mono dT.size);exact de.Ic (qR.trans (A7.mono qR.size)) (HQ.out.2.2 q hq hm) dT.size (hG.below A7)
    ·have hx:=R2 SS o hs ho;have XR:decide (o.sec=2)=false:=by simp[ho]
     rw[XR];clear R1 R2 R3 R4 R5 hs ho XR;go_wp2
     go_ret3
     exact de.bad dT hx
end PrjW
namespace RefI
theorem Xg:True:=trivial
end RefI
namespace RefJ
theorem Xh:True:=trivial
end RefJ
namespace RefK
theorem Xi:True:=trivial
end RefK
namespace RefL
theorem Xj:True:=trivial
end RefL
namespace RefN
theorem Xl:True:=trivial
end RefN
namespace RefM
theorem Xk:True:=trivial
end RefM
namespace PrjX
open Go Go.RowKit Sq Aux PrjF PrjG PrjJ PrjK PrjW RefM
set_option maxRecDepth 20000 in
theorem xv (text:B)(w:World)(h:text.length<=1048576)(E:Env w):Calls Tryz.prog 48 #[.string (bs text)] w (de text true w):=by
 have K:=Cv text true w h E
 replace K:=K.mono (R':=fun e w'=>∃v,e=.returned (.tuple #[v,.int .i64 ((az text true).2.1:Nat),.int .i64 ((az text true).2.2:Nat)])/\de text true w (.returned (.tuple #[v,.int .i64 ((az text true).2.1:Nat),.int .i64 ((az text true).2.2:Nat)])) w') fun e w' hp=>by
  have vZ:=hp;obtain⟨-,v,rfl,-⟩:=vZ;exact⟨v,rfl,hp⟩
 generalize (az text true).2.1=c1 at K;generalize (az text true).2.2=c2 at K;have K2:Calls Tryz.prog 72 #[.agg #[.bool true,.int .i64 4000,.int .i64 2000],.string (bs text)] w _:=K;go_enter Tryz.func48,Tryz.ntmps48
 go_wp2_with (go_at_call 72;refine K2.mono ?_;rintro e w1 ⟨v,rfl,hp⟩)
 go_ret3
 exact hp
set_option maxRecDepth 20000 in
theorem M6 (text:B)(w:World)(h:text.length<=1048576)(E:Env w):Calls Tryz.prog 53 #[.string (bs text)] w (de text false w):=by
 have K:=Cv text false w h E
 replace K:=K.mono (R':=fun e w'=>∃v,e=.returned (.tuple #[v,.int .i64 ((az text false).2.1:Nat),.int .i64 ((az text false).2.2:Nat)])/\de text false w (.returned (.tuple #[v,.int .i64 ((az text false).2.1:Nat),.int .i64 ((az text false).2.2:Nat)])) w') fun e w' hp=>by
  have vZ:=hp;obtain⟨-,v,rfl,-⟩:=vZ;exact⟨v,rfl,hp⟩
 generalize (az text false).2.1=c1 at K;generalize (az text false).2.2=c2 at K;have K2:Calls Tryz.prog 72 #[.agg #[.bool false,.int .i64 120,.int .i64 20],.string (bs text)] w _:=K;go_enter Tryz.func53,Tryz.ntmps53
 go_wp2_with (go_at_call 72;refine K2.mono ?_;rintro e w1 ⟨v,rfl,hp⟩)
 go_ret3
 exact hp
set_option maxRecDepth 20000 in
theorem N4 (text:B)(w:World)(h:text.length<=1048576)(E:Env w):Calls Tryz.prog 30 #[.string (bs text)] w fun e w'=>e=.returned (.tuple #[.int .i64 ((bY text true).2.1:Nat),.int .i64 ((bY text true).2.2:Nat)])/\Below w.heap.size w w':=by
 have K:=(xv text w h E).mono (R':=fun e w'=>∃v,e=.returned (.tuple #[v,.int .i64 ((bY text true).2.1:Nat),.int .i64 ((bY text true).2.2:Nat)])/\Below w.heap.size w w') fun e w' hp=>by
  obtain⟨hb,v,rfl,-⟩:=hp;rw[(mO text true).1];exact⟨v,rfl,hb⟩
 generalize (bY text true).2.1=c1 at*;generalize (bY text true).2.2=c2 at*;go_enter Tryz.func30,Tryz.ntmps30
 go_wp2_with (go_at_call 48;refine K.mono ?_;rintro e w1 ⟨v,rfl,hb⟩)
 go_ret2
 exact⟨rfl,hb⟩
end PrjX
end Go.Proofs.YtmlgajhhnojdjaaGreatDoor

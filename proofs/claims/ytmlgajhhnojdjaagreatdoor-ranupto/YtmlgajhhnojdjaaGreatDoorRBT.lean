import Derived.Test.YtmlgajhhnojdjaaGreatDoorRBR
import Derived.Laws.CopyOwn
namespace Go.Proofs.YtmlgajhhnojdjaaGreatDoor
namespace Ran
open Go Go.RowKit Sq Aux Go.Proofs.YtmlgajhhnojdjaaGreatDoor.Own Mac Sim RunA RunB RefM RefZf PrjS FlwA FlwF FlwI FlwK FlwJ FlwM FlwO FlwP FlwQ FlwS FlwV FlwY FlwZ
def LQ (m:RM):Value:=.agg #[.int .i64 ((m.out:Nat):Int),.int .i64 m.value,.string (bs m.trace),.int .i64 m.count]
theorem pS {α:Type}(n:Nat)(d:α)(k:Nat):(List.replicate n d).getD k d=d:=by
 rw[jA,jO];split<;>rfl
theorem Tp (q:QP)(ak:List Int):Ro q ak 0 (Own.start ak) RM.start:=by
 refine⟨⟨rfl,rfl,rfl,fun b hb=>by cases hb⟩,⟨rfl,rfl,rfl,rfl,rfl⟩,rfl,rfl,fun i _ _=> ?_,fun k _=> ?_,fun k _ h=> ?_,rfl,rfl⟩
 ·show(List.replicate 12 (0:Int)).getD i 0=(List.replicate 24 (0:Int)).getD (2*i) 0
  rw[pS,pS]
 ·show(List.replicate 24 (0:Nat)).getD k 0=if _ then 0 else if(List.replicate 24 (0:UInt8)).getD k 0=119 then(List.replicate 24 (0:Nat)).getD k 0 else 0
  rw[pS,pS];simp
 ·have h:(List.replicate 24 (0:UInt8)).getD k 0=119:=h;rw[pS]at h;exact absurd h (by decide)
theorem DM {k:Nat}(hk:k<24):aU.getD k 0=1:=by
 show(List.replicate 24 1).getD k 0=1
 rw[jA,jO,jb hk];rfl
theorem L5 (q:QP):iN q aU RM.start:=by
 refine⟨by decide,fun k hk=> ?_⟩;rw[DM hk];unfold s8;have h1:RM.start.has.getD k false=false:=pS 24 false k;have h2:RM.start.aZ.getD k 0=0:=pS 24 0 k;rw[h1,h2];split<;>decide
theorem DN:eH aU:=⟨by decide,fun k=>by
 by_cases hk:k<24
 ·rw[DM hk];decide
 ·rw[jA,jG (by show(List.replicate 24 1).length<=k;simp;omega)];decide⟩
theorem VR {text:B}{q:QP}(hg:Go.Proofs.YtmlgajhhnojdjaaGreatDoor.RunB.Good text q){p:RP}(hp:aJ text false=(some p,0,0)){ak:List Int}{n:Nat}{f:Fx}(hf:f.owns=true){ans:Nat×Int×Go.Proofs.YtmlgajhhnojdjaaGreatDoor.Own.Own}(hr:dZ q f.room n (q.blocks.getD 0 []) (Own.start ak)=some ans):
  LQ (eR f p ak n (p.blocks.getD 0 0) RM.start)=PD ans:=by
 obtain⟨p',E,Cq,hD,hn⟩:=hg.done;have e:=Cq.symm.trans hp;simp only[Prod.mk.injEq,Option.some.injEq,and_true]at e;subst e;have hS:=tB hg.read;have ic:=hD.both.aV;have hI:=hD.inv.inv;have hU:rP q (fun b=>E.getD b []):=⟨fun b hb=>hD.ok hb,hI.start,fun b hb hz x hx=>hI.step b hb rfl hz x hx⟩;have h0:¬E.getD 0 []=aq:=cQ DN hI.start (vw pB);have gW:∀b,b<q.blocks.length->¬E.getD b []=aq->cW q (q.blocks.getD b []) (E.getD b [])=none:=fun b hb hz=>by
  have:=cE _ _ _ hn b (jQ _) (by omega);rw[cU,ja hz]at this;exact this
 obtain⟨b1,b2⟩:=va hD.both hD.pos;obtain⟨e1,e2,e3,e4⟩:=E5 hD.both hS hf (fun b=>E.getD b []) hU hD.inv.full gW n (p'.blocks.getD 0 0) (E.getD 0 []) (Own.start ak) RM.start ans b1 (hD.ok hD.pos) ((hD.inv.full 0 hD.pos).resolve_left h0) (by rw[<-b2];exact gW 0 hD.pos h0) (by rw[<-b2];exact fun x hx=>hU.step 0 hD.pos h0 x hx) ((Bal.lT ic).mono _ _ _ DN (hD.ok hD.pos) hI.start ⟨DL q ak,Bal.PK q ak⟩) (Tp q ak) (CT (L5 q) (hD.ok hD.pos).len hI.start) rfl (by rw[<-b2];exact hr);unfold LQ PD;rw[e1,e2,e3,e4]
def FH (text:B)(ak:List Int)(fuel room:Int)(v:Value)(c k:Int):Prop:=
 (¬c=0/\(∀c' k',mf text c' k'->c'=c/\k'=k)/\v=z6)\/((∀c' k',mf text c' k'->c'=0/\k'=0)/\¬lj ak fuel room/\v=z6/\c=6/\k=0)\/
  (lj ak fuel room/\(∀c' k',mf text c' k'->c'=0/\k'=0)/\c=0/\k=0/\∃(p:RP) (f:Fx),aJ text false=(some p,0,0)/\f.owns=true/\f.room=room/\v=LQ (eR f p ak fuel.toNat (p.blocks.getD 0 0) RM.start))
theorem IT {text:B}{ak:List Int}{fuel room:Int}{v v':Value}{c k c' k':Int}(h:FI text ak fuel room v c k)(h':FH text ak fuel room v' c' k'):v=v'/\c=c'/\k=k':=by
 rcases h with⟨h1,h2,rfl⟩|⟨h1,h2,rfl,rfl,rfl⟩|⟨h1,rfl,rfl,q,ans,h2,h3,rfl⟩
 ·rcases h' with⟨g1,g2,rfl⟩|⟨g1,-⟩|⟨-,g1,-⟩
  ·exact⟨rfl,(g2 _ _ h1).1,(g2 _ _ h1).2⟩
  ·exact absurd (g1 _ _ h1).1 h2
  ·exact absurd (g1 _ _ h1).1 h2
 ·rcases h' with⟨g1,g2,-⟩|⟨-,-,rfl,rfl,rfl⟩|⟨g1,-⟩
  ·exact absurd (g2 _ _ h1).1.symm g1
  ·exact⟨rfl,rfl,rfl⟩
  ·exact absurd g1 h2
 ·rcases h' with⟨g1,g2,-⟩|⟨-,g1,-⟩|⟨-,-,rfl,rfl,p,f,g1,g2,rfl,rfl⟩
  ·exact absurd (g2 _ _ h2.chk).1.symm g1
  ·exact absurd h1 g1
  ·exact⟨(VR h2 g1 g2 h3).symm,rfl,rfl⟩
theorem FH.form {text:B}{ak:List Int}{fuel room:Int}{v:Value}{c k:Int}(h:FH text ak fuel room v c k):∃(o x:Int) (t:B) (l:Int),v=.agg #[.int .i64 o,.int .i64 x,.string (bs t),.int .i64 l]:=by
 rcases h with⟨-,-,rfl⟩|⟨-,-,rfl,-⟩|⟨-,-,-,-,p,f,-,-,-,rfl⟩
 ·exact⟨0,0,[],0,rfl⟩
 ·exact⟨0,0,[],0,rfl⟩
 ·exact⟨_,_,_,_,rfl⟩
end Ran
namespace Ran
open Go Go.RowKit Sq Aux Go.Proofs.YtmlgajhhnojdjaaGreatDoor.Own RunB PrjJ
set_option maxRecDepth 20000 in
theorem VC (n:Int)(w:World):Calls Tryz.prog 57 #[.int .i64 n] w fun e w'=>e=.returned (.int .i64 n)/\w'=w:=by
 go_enter Tryz.func57,Tryz.ntmps57
 go_wp2
 go_ret
 exact⟨rfl,rfl⟩
set_option maxRecDepth 20000 in
theorem IU (o x:Int)(t:B)(l:Int)(w:World):Calls Tryz.prog 41 #[.agg #[.int .i64 o,.int .i64 x,.string (bs t),.int .i64 l],.agg #[.int .i64 o,.int .i64 x,.string (bs t),.int .i64 l]] w fun e w'=>e=.returned (.bool true)/\Below w.heap.size w w':=by
 have KO:=fun W=>VC o W
 have b1:(o==o)=true:=by simp
 have b2:(x==x)=true:=by simp
 have b3:(l==l)=true:=by simp
 go_enter Tryz.func41,Tryz.ntmps41
 go_wp2_with (go_at_call 57;refine(KO _).mono ?_;rintro e w1 ⟨rfl,rfl⟩)
 go_ret
 exact⟨rfl,((Below.refl _ _).alloc (jC _) _).alloc (by simp) _⟩
theorem Yh (W:World)(a:Addr)(n c:Nat):(binOp .eql 42 (.slice (some a) n c) (.slice none 0 0)).run Tryz.prog W=.ok (.bool false) W:=by
 have h:∀d:Nat,(Op.equalIn (d+1) 42 (.slice (some a) n c) (.slice none 0 0)).run Tryz.prog W=.ok false W:=fun d=>by
  simp[Op.equalIn,run_underlying Tryz.underlying42]
 simp only[binOp];simp[Op.equal,Op.maxDepth,h 9999]
theorem Vt (W:World)(n c:Nat):(binOp .eql 42 (.slice none n c) (.slice none 0 0)).run Tryz.prog W=.ok (.bool true) W:=by
 have h:∀d:Nat,(Op.equalIn (d+1) 42 (.slice none n c) (.slice none 0 0)).run Tryz.prog W=.ok true W:=fun d=>by
  simp[Op.equalIn,run_underlying Tryz.underlying42]
 simp only[binOp];simp[Op.equal,Op.maxDepth,h 9999]
def vN (ak:List Int):List Value:=ak.map (Value.int .i64)++[.int .i64 (-99),.int .i64 (-99)]
def qy (w:World)(v:Value)(ak:List Int):Prop:=(v=.slice none 0 0/\ak=[])\/∃b,v=.slice (some ⟨b,0,none⟩) (ak.length+2) (ak.length+2)/\w.heap[b]?=some (.cells (vN ak).toArray 2 (0,0))
theorem qy.below {w w':World}{v:Value}{ak:List Int}(h:qy w v ak)(hb:Below w.heap.size w w'):qy w' v ak:=by
 rcases h with h|⟨b,h1,h2⟩
 ·exact .inl h
 ·exact .inr ⟨b,h1,by rw[hb.block _ (lt_of_heap h2)];exact h2⟩
theorem Hx {ak:List Int}{j:Nat}(hj:j<ak.length):(vN ak).toArray[j]?=some (.int .i64 (ak.getD j 0)):=by
 rw[List.getElem?_toArray,vN,jg (by simpa using hj),jJ,jB hj,jA,jB hj];rfl
theorem Sa {ak:List Int}{j:Nat}(hj:ak.length<=j)(XH:j<ak.length+2):(vN ak).toArray[j]?=some (.int .i64 (-99)):=by
 rw[List.getElem?_toArray,vN,jf (by simpa using hj),jc];have:j-ak.length=0\/j-ak.length=1:=by omega
 rcases this with e|e<;>rw[e]<;>rfl
theorem OI {w:World}{b:Nat}{ak:List Int}(h:w.heap[b]?=some (.cells (vN ak).toArray 2 (0,0)))(hl:ak.length<=1048576):bX w (.slice (some ⟨b,0,none⟩) ak.length (ak.length+2)) ak:=
 ⟨some ⟨b,0,none⟩,ak.length+2,rfl,by omega,by unfold maxLen;omega,fun j hj=>⟨b,0,rfl,lt_of_heap h,by rw[Nat.zero_add,cell_of_heap h,Hx hj]⟩⟩
theorem RV:(Tryz.prog.info? 2).map (fun i=>(i.zero.map Value.cells,i.size,i.bytes))=some (some #[.int .i64 0],1,8):=by kernel_rfl
theorem Tm:(Tryz.prog.info? 2).map (·.size)=some 1:=by kernel_rfl
theorem E4 (n:Nat)(hn:n<=1048578)(w:World):(Instr.makeSlice 42 (.int .i64 (n:Int)) (.int .i64 (n:Int))).run Tryz.prog w=.ok (.slice (some ⟨w.heap.size,0,none⟩) n n) (w.alloc (.cells (madeCells #[.int .i64 0] (n*1)) 2)):=by
 obtain⟨i,hi,hx⟩:=Option.map_eq_some_iff.1 RV;simp only[Prod.mk.injEq]at hx;obtain⟨hz,hs,hb⟩:=hx;obtain⟨z,hz,hc⟩:=Option.map_eq_some_iff.1 hz;have:=run_make (P:=Tryz.prog) w 42 2 i z Tryz.underlying42 hi hz .i64 .i64 n n (by omega) (Int.le_refl _) (by rw[hb];omega) (by omega);rw[hs,hc]at this;simpa using this
set_option maxRecDepth 20000 in
set_option maxHeartbeats 1000000 in
theorem Sb (c:Nat)(w:World):Calls Tryz.prog 39 #[.slice none 0 c] w fun e w'=>e=.returned (.slice none 0 0)/\w'=w:=by
 have qR:=Vt w 0 c;go_enter Tryz.func39,Tryz.ntmps39
 go_wp2
 go_ret
 exact⟨rfl,rfl⟩
theorem Sc (ak:List Int)(u v:Value):(((ak.map (Value.int .i64)++[u,v]).toArray.setIfInBounds ak.length (.int .i64 (-99))).setIfInBounds (ak.length+1) (.int .i64 (-99)))=(vN ak).toArray:=by
 rw[List.setIfInBounds_toArray,List.setIfInBounds_toArray];congr 1;rw[List.set_append_right _ _ (by simp),List.set_append_right _ _ (by simp)];simp[vN]
theorem Ys {l:List Value}(h:l.length=2):∃u v,l=[u,v]:=by
 match l,h with
 |[u,v],_=>exact⟨u,v,rfl⟩
set_option maxRecDepth 20000 in
set_option maxHeartbeats 1000000 in
theorem OJ (a:Addr)(c:Nat)(ak:List Int)(w:World)(hf:bX w (.slice (some a) ak.length c) ak)(hl:ak.length<=1048576):Calls Tryz.prog 39 #[.slice (some a) ak.length c] w fun e w'=>(∃b,e=.returned (.slice (some ⟨b,0,none⟩) (ak.length+2) (ak.length+2))/\w'.heap[b]?=some (.cells (vN ak).toArray 2 (0,0)))/\Below w.heap.size w w':=by
 have XL:=E4 (ak.length+2) (by omega) w;have qR:=Yh w a ak.length c;obtain⟨W1,ti⟩:∃W1,w.alloc (.cells (madeCells #[.int .i64 0] ((ak.length+2)*1)) 2)=W1:=⟨_,rfl⟩;have av:Below w.heap.size w W1:=by rw[<-ti];exact(Below.refl _ _).alloc (jC _) _
 have TZ:W1.heap[w.heap.size]?=some (.cells (madeCells #[.int .i64 0] ((ak.length+2)*1)) 2 (0,0)):=by rw[<-ti];exact jD
 rw[ti,show((ak.length+2:Nat):Int)=(ak.length:Int)+2 by omega]at XL;obtain⟨ad,c',e,h1,h2,h3⟩:=hf;simp only[Value.slice.injEq,true_and]at e;obtain⟨rfl,rfl⟩:=e;have ql:=run_copy_row (P:=Tryz.prog) W1 42 42 3 2 w.heap.size 0 (ak.length+2) (ak.length+2) a ak.length c _ 2 (ak.map (Value.int .i64)) Tryz.underlying42 Tm TZ (by rw[jc];show _=min _ _;omega) (fun j v hj=>by
   have ot:j<ak.length:=by simpa using(List.getElem?_eq_some_iff.1 hj).1
   obtain⟨g,f,e,hg,hc⟩:=h3 j ot;simp only[Option.some.injEq]at e;subst e;have Kd:(⟨g,f,none⟩:Addr).add j=⟨g,f+j,none⟩:=by unfold Addr.add;split<;>simp_all
   rw[Kd,av.cell (p:=⟨g,f+j,none⟩) hg,hc];rw[jJ,jB ot]at hj;rw[<-hj,jA,jB ot];rfl) (by rw[jc,size_madeCells];omega) (fun v hv=>by
   obtain⟨n,-,rfl⟩:=List.mem_map.1 hv;rfl)
 obtain⟨u,v,Wr⟩:=Ys (l:=(madeCells #[.int .i64 0] ((ak.length+2)*1)).toList.drop (0+(ak.map (Value.int .i64)).length)) (by rw[List.length_drop,Array.length_toList,size_madeCells,jc];omega);rw[Wr,List.take_zero,List.nil_append]at ql;obtain⟨W2,AS⟩:∃W2,W1.setRow w.heap.size (ak.map (Value.int .i64)++[u,v]).toArray=W2:=⟨_,rfl⟩;have Ki:W2.heap[w.heap.size]?=some (.cells (ak.map (Value.int .i64)++[u,v]).toArray 2 (0,0)):=by rw[<-AS];exact setRow_heap _ _ _ _ _ _ TZ
 have bT:Below w.heap.size w W2:=by rw[<-AS];exact below_setRow av (jC _) _
 rw[AS,jc]at ql;have ZV:=Aux.heap_setCell_same Ki ak.length (.int .i64 (-99));have hg4:=Aux.heap_setCell_same ZV (ak.length+1) (.int .i64 (-99));rw[Sc]at hg4;have c1:W2.cell? ⟨w.heap.size,ak.length,none⟩=some u:=by rw[cell_of_heap Ki,List.getElem?_toArray,jf (by simp)];simp
 have c2:W2.cell? ⟨w.heap.size,ak.length+1,none⟩=some v:=by rw[cell_of_heap Ki,List.getElem?_toArray,jf (by simp)];simp
 have f1:=frozen_of_heap Ki ak.length;have f2:=frozen_of_heap Ki (ak.length+1);have HB:Hid (Below w.heap.size w ((W2.setCell ⟨w.heap.size,ak.length,none⟩ (.int .i64 (-99))).setCell ⟨w.heap.size,ak.length+1,none⟩ (.int .i64 (-99)))):=(bT.setCell (p:=⟨w.heap.size,ak.length,none⟩) (jC _) _).setCell (p:=⟨w.heap.size,ak.length+1,none⟩) (jC _) _;have HG:Hid (_=_):=hg4;clear h3 TZ Ki ZV hg4 av bT ti AS Wr;go_enter Tryz.func39,Tryz.ntmps39
 go_wp2
 go_ret
 exact⟨⟨_,rfl,HG.out⟩,HB.out⟩
set_option maxRecDepth 20000 in
set_option maxHeartbeats 1000000 in
theorem DO (v vi:Value)(ak:List Int)(w:World)(hf:bX w vi ak)(hx:qy w v ak)(hl:ak.length<=1048576):Calls Tryz.prog 42 #[v,vi] w fun e w'=>e=.returned (.bool true)/\Below w.heap.size w w':=by
 obtain⟨ad,c,rfl,h1,h2,h3⟩:=hf;rcases hx with⟨rfl,rfl⟩|⟨b,rfl,hb⟩
 ·go_enter Tryz.func42,Tryz.ntmps42
  go_wp2
  go_loopw [5] (fun v5 wr=>v5=.int .i64 0/\wr=w) (fun _ _=>0)
  case atStart=>exact⟨rfl,rfl⟩
  case round=>
   obtain⟨rfl,rfl⟩:=hrel;go_wp2
   go_ret
   exact⟨rfl,Below.refl _ _⟩
 ·have HX:Hid (∀W,Below w.heap.size w W->∀k,k<ak.length+2->W.cell? ⟨b,k,none⟩=some (.int .i64 (if k<ak.length then ak.getD k 0 else-99))):=fun W hW k hk=>by
   rw[cell_of_heap ((hW.block b (lt_of_heap hb)).trans hb)];split
   ·rename_i h;exact Hx h
   ·exact Sa (by omega) hk
  have HF:Hid (∀W,Below w.heap.size w W->∀k,k<ak.length->∃g f,ad=some ⟨g,f,none⟩/\W.cell? ⟨g,f+k,none⟩=some (.int .i64 (ak.getD k 0))):=fun W hW k hk=>by
   obtain⟨g,f,e,hg,hc⟩:=h3 k hk;exact⟨g,f,e,(hW.cell (p:=⟨g,f+k,none⟩) hg).trans hc⟩
  clear h3 hb;generalize hN:ak.length=N at*;go_enter Tryz.func42,Tryz.ntmps42
  go_wp2
  go_loopw [5] (fun v5 wr=>∃k:Nat,k<=N+2/\v5=.int .i64 ((k:Nat):Int)/\Hid (Below w.heap.size w wr)) (fun v _=>N+2-(intOf v).toNat)
  case atStart=>exact⟨0,jQ _,rfl,Below.refl _ _⟩
  case round=>
   obtain⟨k,hk,rfl,HB⟩:=hrel;by_cases B7:k<N
   ·have x1:=HX.out _ HB.out k (by omega);rw[jb B7]at x1;obtain⟨g,f,rfl,y1⟩:=HF.out _ HB.out k B7;have i1:(k:Int)<(N:Int)+2:=by omega
    have i2:(k:Int)<N:=by omega
    have i3:¬(N:Int)<=k:=by omega
    generalize ak.getD k 0=z at*;have bz:(z==z)=true:=by simp
    clear HX HF;go_upto_region 4 with fail
    go_quiet (fail)
    go_wp2
    exact⟨⟨k+1,by omega,by go_num,below_drewN HB.out _⟩,by simp[intOf];omega⟩
   ·by_cases GJ:k<N+2
    ·have x1:=HX.out _ HB.out k (by omega);rw[ja B7]at x1;have i1:(k:Int)<(N:Int)+2:=by omega
     have i2:¬(k:Int)<N:=by omega
     have i3:(N:Int)<=k:=by omega
     clear HX HF;go_upto_region 4 with fail
     go_quiet (fail)
     go_wp2
     exact⟨⟨k+1,by omega,by go_num,below_drewN HB.out _⟩,by simp[intOf];omega⟩
    ·have i1:¬(k:Int)<(N:Int)+2:=by omega
     go_wp2
     go_ret
     exact⟨rfl,HB.out⟩
end Ran
end Go.Proofs.YtmlgajhhnojdjaaGreatDoor

import Derived.Test.YtmlgajhhnojdjaaGreatDoorRBS
import Derived.Laws.CopyOwn
import Derived.Test.YtmlgajhhnojdjaaGreatDoorRows
import Derived.Deep.Slices
import Derived.OpenShut
import Derived.ProofKit
namespace Go.Proofs.YtmlgajhhnojdjaaGreatDoor
namespace Ran
open Go Go.RowKit Sq Aux Go.Proofs.YtmlgajhhnojdjaaGreatDoor.Own RunB PrjJ
set_option maxRecDepth 20000 in
theorem VD (n:Int)(w:World):Calls Tryz.prog 57 #[.int .i64 n] w fun e w'=>e=.returned (.int .i64 n)/\w'=w:=by
 go_enter Tryz.func57,Tryz.ntmps57
 go_wp2
 go_ret
 exact⟨rfl,rfl⟩
set_option maxRecDepth 20000 in
theorem IV (o x:Int)(t:B)(l:Int)(w:World):Calls Tryz.prog 41 #[.agg #[.int .i64 o,.int .i64 x,.string (bs t),.int .i64 l],.agg #[.int .i64 o,.int .i64 x,.string (bs t),.int .i64 l]] w fun e w'=>e=.returned (.bool true)/\Below w.heap.size w w':=by
 have KO:=fun W=>VD o W
 have b1:(o==o)=true:=by simp
 have b2:(x==x)=true:=by simp
 have b3:(l==l)=true:=by simp
 go_enter Tryz.func41,Tryz.ntmps41
 go_wp2_with (go_at_call 57;refine(KO _).mono ?_;rintro e w1 ⟨rfl,rfl⟩)
 go_ret
 exact⟨rfl,((Below.refl _ _).alloc (jC _) _).alloc (by simp) _⟩
theorem Yi (W:World)(a:Addr)(n c:Nat):(binOp .eql 42 (.slice (some a) n c) (.slice none 0 0)).run Tryz.prog W=.ok (.bool false) W:=by
 have h:∀d:Nat,(Op.equalIn (d+1) 42 (.slice (some a) n c) (.slice none 0 0)).run Tryz.prog W=.ok false W:=fun d=>by
  simp[Op.equalIn,run_underlying Tryz.underlying42]
 simp only[binOp];simp[Op.equal,Op.maxDepth,h 9999]
theorem Vu (W:World)(n c:Nat):(binOp .eql 42 (.slice none n c) (.slice none 0 0)).run Tryz.prog W=.ok (.bool true) W:=by
 have h:∀d:Nat,(Op.equalIn (d+1) 42 (.slice none n c) (.slice none 0 0)).run Tryz.prog W=.ok true W:=fun d=>by
  simp[Op.equalIn,run_underlying Tryz.underlying42]
 simp only[binOp];simp[Op.equal,Op.maxDepth,h 9999]
def vO (al:List Int):List Value:=al.map (Value.int .i64)++[.int .i64 (-99),.int .i64 (-99)]
def qz (w:World)(v:Value)(al:List Int):Prop:=(v=.slice none 0 0/\al=[])\/∃b,v=.slice (some ⟨b,0,none⟩) (al.length+2) (al.length+2)/\w.heap[b]?=some (.cells (vO al).toArray 2 (0,0))
theorem qz.below {w w':World}{v:Value}{al:List Int}(h:qz w v al)(hb:Below w.heap.size w w'):qz w' v al:=by
 rcases h with h|⟨b,h1,h2⟩
 ·exact .inl h
 ·exact .inr ⟨b,h1,by rw[hb.block _ (lt_of_heap h2)];exact h2⟩
theorem Hy {al:List Int}{j:Nat}(hj:j<al.length):(vO al).toArray[j]?=some (.int .i64 (al.getD j 0)):=by
 rw[List.getElem?_toArray,vO,jg (by simpa using hj),jJ,jB hj,jA,jB hj];rfl
theorem Sb {al:List Int}{j:Nat}(hj:al.length<=j)(XI:j<al.length+2):(vO al).toArray[j]?=some (.int .i64 (-99)):=by
 rw[List.getElem?_toArray,vO,jf (by simpa using hj),jc];have:j-al.length=0\/j-al.length=1:=by omega
 rcases this with e|e<;>rw[e]<;>rfl
theorem OJ {w:World}{b:Nat}{al:List Int}(h:w.heap[b]?=some (.cells (vO al).toArray 2 (0,0)))(hl:al.length<=1048576):bY w (.slice (some ⟨b,0,none⟩) al.length (al.length+2)) al:=
 ⟨some ⟨b,0,none⟩,al.length+2,rfl,by omega,by unfold maxLen;omega,fun j hj=>⟨b,0,rfl,lt_of_heap h,by rw[Nat.zero_add,cell_of_heap h,Hy hj]⟩⟩
theorem RW:(Tryz.prog.info? 2).map (fun i=>(i.zero.map Value.cells,i.size,i.bytes))=some (some #[.int .i64 0],1,8):=by kernel_rfl
theorem Tn:(Tryz.prog.info? 2).map (·.size)=some 1:=by kernel_rfl
theorem E5 (n:Nat)(hn:n<=1048578)(w:World):(Instr.makeSlice 42 (.int .i64 (n:Int)) (.int .i64 (n:Int))).run Tryz.prog w=.ok (.slice (some ⟨w.heap.size,0,none⟩) n n) (w.alloc (.cells (madeCells #[.int .i64 0] (n*1)) 2)):=by
 obtain⟨i,hi,hx⟩:=Option.map_eq_some_iff.1 RW;simp only[Prod.mk.injEq]at hx;obtain⟨hz,hs,hb⟩:=hx;obtain⟨z,hz,hc⟩:=Option.map_eq_some_iff.1 hz;have:=run_make (P:=Tryz.prog) w 42 2 i z Tryz.underlying42 hi hz .i64 .i64 n n (by omega) (Int.le_refl _) (by rw[hb];omega) (by omega);rw[hs,hc]at this;simpa using this
set_option maxRecDepth 20000 in
set_option maxHeartbeats 1000000 in
theorem Sc (c:Nat)(w:World):Calls Tryz.prog 39 #[.slice none 0 c] w fun e w'=>e=.returned (.slice none 0 0)/\w'=w:=by
 have qS:=Vu w 0 c;go_enter Tryz.func39,Tryz.ntmps39
 go_wp2
 go_ret
 exact⟨rfl,rfl⟩
theorem Sd (al:List Int)(u v:Value):(((al.map (Value.int .i64)++[u,v]).toArray.setIfInBounds al.length (.int .i64 (-99))).setIfInBounds (al.length+1) (.int .i64 (-99)))=(vO al).toArray:=by
 rw[List.setIfInBounds_toArray,List.setIfInBounds_toArray];congr 1;rw[List.set_append_right _ _ (by simp),List.set_append_right _ _ (by simp)];simp[vO]
theorem Yt {l:List Value}(h:l.length=2):∃u v,l=[u,v]:=by
 match l,h with
 |[u,v],_=>exact⟨u,v,rfl⟩
set_option maxRecDepth 20000 in
set_option maxHeartbeats 1000000 in
theorem OK (a:Addr)(c:Nat)(al:List Int)(w:World)(hf:bY w (.slice (some a) al.length c) al)(hl:al.length<=1048576):Calls Tryz.prog 39 #[.slice (some a) al.length c] w fun e w'=>(∃b,e=.returned (.slice (some ⟨b,0,none⟩) (al.length+2) (al.length+2))/\w'.heap[b]?=some (.cells (vO al).toArray 2 (0,0)))/\Below w.heap.size w w':=by
 have XM:=E5 (al.length+2) (by omega) w;have qS:=Yi w a al.length c;obtain⟨W1,tj⟩:∃W1,w.alloc (.cells (madeCells #[.int .i64 0] ((al.length+2)*1)) 2)=W1:=⟨_,rfl⟩;have aw:Below w.heap.size w W1:=by rw[<-tj];exact(Below.refl _ _).alloc (jC _) _
 have T0:W1.heap[w.heap.size]?=some (.cells (madeCells #[.int .i64 0] ((al.length+2)*1)) 2 (0,0)):=by rw[<-tj];exact jD
 rw[tj,show((al.length+2:Nat):Int)=(al.length:Int)+2 by omega]at XM;obtain⟨ad,c',e,h1,h2,h3⟩:=hf;simp only[Value.slice.injEq,true_and]at e;obtain⟨rfl,rfl⟩:=e;have qm:=run_copy_row (P:=Tryz.prog) W1 42 42 3 2 w.heap.size 0 (al.length+2) (al.length+2) a al.length c _ 2 (al.map (Value.int .i64)) Tryz.underlying42 Tn T0 (by rw[jc];show _=min _ _;omega) (fun j v hj=>by
   have ou:j<al.length:=by simpa using(List.getElem?_eq_some_iff.1 hj).1
   obtain⟨g,f,e,hg,hc⟩:=h3 j ou;simp only[Option.some.injEq]at e;subst e;have Ke:(⟨g,f,none⟩:Addr).add j=⟨g,f+j,none⟩:=by unfold Addr.add;split<;>simp_all
   rw[Ke,aw.cell (p:=⟨g,f+j,none⟩) hg,hc];rw[jJ,jB ou]at hj;rw[<-hj,jA,jB ou];rfl) (by rw[jc,size_madeCells];omega) (fun v hv=>by
   obtain⟨n,-,rfl⟩:=List.mem_map.1 hv;rfl)
 obtain⟨u,v,Ws⟩:=Yt (l:=(madeCells #[.int .i64 0] ((al.length+2)*1)).toList.drop (0+(al.map (Value.int .i64)).length)) (by rw[List.length_drop,Array.length_toList,size_madeCells,jc];omega);rw[Ws,List.take_zero,List.nil_append]at qm;obtain⟨W2,AT⟩:∃W2,W1.setRow w.heap.size (al.map (Value.int .i64)++[u,v]).toArray=W2:=⟨_,rfl⟩;have Kj:W2.heap[w.heap.size]?=some (.cells (al.map (Value.int .i64)++[u,v]).toArray 2 (0,0)):=by rw[<-AT];exact setRow_heap _ _ _ _ _ _ T0
 have bU:Below w.heap.size w W2:=by rw[<-AT];exact below_setRow aw (jC _) _
 rw[AT,jc]at qm;have ZW:=Aux.heap_setCell_same Kj al.length (.int .i64 (-99));have hg4:=Aux.heap_setCell_same ZW (al.length+1) (.int .i64 (-99));rw[Sd]at hg4;have c1:W2.cell? ⟨w.heap.size,al.length,none⟩=some u:=by rw[cell_of_heap Kj,List.getElem?_toArray,jf (by simp)];simp
 have c2:W2.cell? ⟨w.heap.size,al.length+1,none⟩=some v:=by rw[cell_of_heap Kj,List.getElem?_toArray,jf (by simp)];simp
 have f1:=frozen_of_heap Kj al.length;have f2:=frozen_of_heap Kj (al.length+1);have HB:Hid (Below w.heap.size w ((W2.setCell ⟨w.heap.size,al.length,none⟩ (.int .i64 (-99))).setCell ⟨w.heap.size,al.length+1,none⟩ (.int .i64 (-99)))):=(bU.setCell (p:=⟨w.heap.size,al.length,none⟩) (jC _) _).setCell (p:=⟨w.heap.size,al.length+1,none⟩) (jC _) _;have HG:Hid (_=_):=hg4;clear h3 T0 Kj ZW hg4 aw bU tj AT Ws;go_enter Tryz.func39,Tryz.ntmps39
 go_wp2
 go_ret
 exact⟨⟨_,rfl,HG.out⟩,HB.out⟩
set_option maxRecDepth 20000 in
set_option maxHeartbeats 1000000 in
theorem DP (v vi:Value)(al:List Int)(w:World)(hf:bY w vi al)(hx:qz w v al)(hl:al.length<=1048576):Calls Tryz.prog 42 #[v,vi] w fun e w'=>e=.returned (.bool true)/\Below w.heap.size w w':=by
 obtain⟨ad,c,rfl,h1,h2,h3⟩:=hf;rcases hx with⟨rfl,rfl⟩|⟨b,rfl,hb⟩
 ·go_enter Tryz.func42,Tryz.ntmps42
  go_wp2
  go_loopw [5] (fun v5 wr=>v5=.int .i64 0/\wr=w) (fun _ _=>0)
  case atStart=>exact⟨rfl,rfl⟩
  case round=>
   obtain⟨rfl,rfl⟩:=hrel;go_wp2
   go_ret
   exact⟨rfl,Below.refl _ _⟩
 ·have HX:Hid (∀W,Below w.heap.size w W->∀k,k<al.length+2->W.cell? ⟨b,k,none⟩=some (.int .i64 (if k<al.length then al.getD k 0 else-99))):=fun W hW k hk=>by
   rw[cell_of_heap ((hW.block b (lt_of_heap hb)).trans hb)];split
   ·rename_i h;exact Hy h
   ·exact Sb (by omega) hk
  have HF:Hid (∀W,Below w.heap.size w W->∀k,k<al.length->∃g f,ad=some ⟨g,f,none⟩/\W.cell? ⟨g,f+k,none⟩=some (.int .i64 (al.getD k 0))):=fun W hW k hk=>by
   obtain⟨g,f,e,hg,hc⟩:=h3 k hk;exact⟨g,f,e,(hW.cell (p:=⟨g,f+k,none⟩) hg).trans hc⟩
  clear h3 hb;generalize hN:al.length=N at*;go_enter Tryz.func42,Tryz.ntmps42
  go_wp2
  go_loopw [5] (fun v5 wr=>∃k:Nat,k<=N+2/\v5=.int .i64 ((k:Nat):Int)/\Hid (Below w.heap.size w wr)) (fun v _=>N+2-(intOf v).toNat)
  case atStart=>exact⟨0,jQ _,rfl,Below.refl _ _⟩
  case round=>
   obtain⟨k,hk,rfl,HB⟩:=hrel;by_cases B8:k<N
   ·have x1:=HX.out _ HB.out k (by omega);rw[jb B8]at x1;obtain⟨g,f,rfl,y1⟩:=HF.out _ HB.out k B8;have i1:(k:Int)<(N:Int)+2:=by omega
    have i2:(k:Int)<N:=by omega
    have i3:¬(N:Int)<=k:=by omega
    generalize al.getD k 0=z at*;have bz:(z==z)=true:=by simp
    clear HX HF;go_upto_region 4 with fail
    go_quiet (fail)
    go_wp2
    exact⟨⟨k+1,by omega,by go_num,below_drewN HB.out _⟩,by simp[intOf];omega⟩
   ·by_cases GK:k<N+2
    ·have x1:=HX.out _ HB.out k (by omega);rw[ja B8]at x1;have i1:(k:Int)<(N:Int)+2:=by omega
     have i2:¬(k:Int)<N:=by omega
     have i3:(N:Int)<=k:=by omega
     clear HX HF;go_upto_region 4 with fail
     go_quiet (fail)
     go_wp2
     exact⟨⟨k+1,by omega,by go_num,below_drewN HB.out _⟩,by simp[intOf];omega⟩
    ·have i1:¬(k:Int)<(N:Int)+2:=by omega
     go_wp2
     go_ret
     exact⟨rfl,HB.out⟩
end Ran
namespace RunB
open Go Go.RowKit Sq Aux Go.Proofs.YtmlgajhhnojdjaaGreatDoor.Own RunA PrjG PrjJ PrjK PrjM PrjS FlwZ FlwZa MadC MadE
theorem FJ.form {text:B}{al:List Int}{fuel room:Int}{v:Value}{c k:Int}(h:FJ text al fuel room v c k):∃(o x:Int) (t:B) (l:Int),v=.agg #[.int .i64 o,.int .i64 x,.string (bs t),.int .i64 l]:=by
 rcases h with⟨-,-,rfl⟩|⟨-,-,rfl,-⟩|⟨-,-,-,q,ans,-,-,rfl⟩
 ·exact⟨0,0,[],0,rfl⟩
 ·exact⟨0,0,[],0,rfl⟩
 ·exact⟨_,_,_,_,rfl⟩
theorem CN (text:B)(vi:Value)(al:List Int)(fuel room:Int)(w:World)(hf:bY w vi al)(pH:∀n∈al,aO n)(h:text.length<=1048576)(E:Env w)(hp:Pow w):
  Calls Tryz.prog 23 #[.string (bs text),vi,.int .i64 fuel,.int .i64 room] w fun e w'=>(∃(o x:Int) (t:B) (l c k:Int),Hid (FJ text al fuel room (.agg #[.int .i64 o,.int .i64 x,.string (bs t),.int .i64 l]) c k)/\e=.returned (.tuple #[.agg #[.int .i64 o,.int .i64 x,.string (bs t),.int .i64 l],.int .i64 c,.int .i64 k]))/\Below w.heap.size w w':=by
 refine(Qo text vi al fuel room w hf pH h E hp).mono ?_;rintro e w' ⟨⟨v,c,k,hr,rfl⟩,hb⟩;obtain⟨o,x,t,l,rfl⟩:=hr.out.form;exact⟨⟨o,x,t,l,c,k,hr,rfl⟩,hb⟩
theorem Hi {w4 w6:World}{x:Obj}(hb:Below (w4.alloc x).heap.size (w4.alloc x) w6):w6.heap[w4.heap.size]?=some x/\w4.heap.size<w6.heap.size:=by
 have h:(w4.alloc x).heap[w4.heap.size]?=some x:=jD;have hs:=hb.size;have e:(w4.alloc x).heap.size=w4.heap.size+1:=by simp
 exact⟨by rw[hb.block _ (by omega)];exact h,by omega⟩
theorem Hj {w4 w6:World}{x y:Obj}(hb:Below (w4.alloc x).heap.size (w4.alloc x) w6):(w6.alloc y).heap[w4.heap.size]?=some x:=by
 have h:(w4.alloc x).heap[w4.heap.size]?=some x:=jD;have hs:=hb.size;have e:(w4.alloc x).heap.size=w4.heap.size+1:=by simp
 show(w6.heap.push y)[w4.heap.size]?=_
 rw[Array.getElem?_push_lt (by omega)];rw[<-h,<-hb.block _ (by omega),Array.getElem?_eq_getElem (by omega)]
end RunB
namespace Ran
open Go Go.RowKit Sq Aux Go.Proofs.YtmlgajhhnojdjaaGreatDoor.Own RunA RunB PrjG PrjX MadE Mac FlwZa
theorem za (text:B)(vi:Value)(al:List Int)(fuel room:Int)(w:World)(hf:bY w vi al)(pH:∀n∈al,aO n)(h:text.length<=1048576):
  Calls Tryz.prog 40 #[.string (bs text),vi,.int .i64 fuel,.int .i64 room] w fun e w'=>(∃(o x:Int) (t:B) (l c k:Int),Hid (FI text al fuel room (.agg #[.int .i64 o,.int .i64 x,.string (bs t),.int .i64 l]) c k)/\e=.returned (.tuple #[.agg #[.int .i64 o,.int .i64 x,.string (bs t),.int .i64 l],.int .i64 c,.int .i64 k]))/\Below w.heap.size w w':=by
 refine(LQ text vi al fuel room w hf pH h).mono ?_;rintro e w' ⟨⟨v,c,k,hr,rfl⟩,hb⟩;obtain⟨o,x,t,l,rfl⟩:=hr.out.form;exact⟨⟨o,x,t,l,c,k,hr,rfl⟩,hb⟩
theorem Mz {o x l o' x' l':Int}{t t':B}(h:Value.agg #[.int .i64 o,.int .i64 x,.string (bs t),.int .i64 l]=.agg #[.int .i64 o',.int .i64 x',.string (bs t'),.int .i64 l']):o=o'/\x=x'/\t=t'/\l=l':=by
 simp only[Value.agg.injEq,Array.mk.injEq,List.cons.injEq,Value.int.injEq,Value.string.injEq,true_and,and_true]at h;obtain⟨h1,h2,h3,h4⟩:=h;have:=congrArg ByteArray.toList h3;rw[aE,aE]at this;exact⟨h1,h2,this,h4⟩
set_option maxRecDepth 20000 in
set_option maxHeartbeats 2000000 in
theorem Te (text:B)(a:Addr)(c:Nat)(al:List Int)(fuel room:Int)(w:World)(hf:bY w (.slice (some a) al.length c) al)(hi:∀n∈al,aO n)(hl:al.length<=1048576)(h:text.length<=1048576)(E:Env w)(hp:Pow w):
  Calls Tryz.prog 22 #[.string (bs text),.slice (some a) al.length c,.int .i64 fuel,.int .i64 room] w fun e w'=>e=.returned (.bool true)/\Below w.heap.size w w':=by
 have KL:=OK a c al w hf hl;have KR:=fun w' v (hb:Below w.heap.size w w') (hv:bY w' v al)=>CN text v al fuel room w' hv hi h (E.on hb) (hp.below hb E.size)
 have KF:=fun w' (hb:Below w.heap.size w w')=>za text (.slice (some a) al.length c) al fuel room w' (eK hf hb (jC _)) hi h
 have KS:=fun w' v (hb:Below w.heap.size w w') (hv:qz w' v al)=>DP v (.slice (some a) al.length c) al w' (eK hf hb (jC _)) hv hl
 have KM:=fun o x t l w'=>IV o x t l w'
 have KN:=fun n w'=>M6 n w'
 have bb:∀c:Int,(c==c)=true:=fun c=>by simp
 clear hf hi h E hp;go_enter Tryz.func22,Tryz.ntmps22
 go_wp2_with (first
  |(go_at_call 39;refine KL.mono ?_;rintro e w1 ⟨⟨b,rfl,hB⟩,aw⟩;have X7:=OJ hB hl;have hL1:qz w1 (.slice (some ⟨b,0,none⟩) (al.length+2) (al.length+2)) al:=.inr ⟨b,rfl,hB⟩)
  |(go_at_call 23;refine(KR _ _ aw X7).mono ?_;rintro e w2 ⟨⟨o,x,t,l,c1,k1,Zu,rfl⟩,pF⟩;have V7:=(hL1.below pF).below ((Below.refl _ _).alloc (jC _) (.cells #[.int .i64 o,.int .i64 x,.string (bs t),.int .i64 l] 47));have bU:=(aw.trans (pF.mono aw.size)).alloc (jS aw.size pF.size) (.cells #[.int .i64 o,.int .i64 x,.string (bs t),.int .i64 l] 47))
  |(go_at_call 40;refine(KF _ bU).mono ?_;rintro e w3 ⟨⟨o',x',t',l',c2,k2,Zv,rfl⟩,AV⟩;obtain⟨ev,rfl,rfl⟩:=IU Zu.out Zv.out;obtain⟨rfl,rfl,rfl,rfl⟩:=Mz ev;clear ev Zu Zv;have hL3:=(V7.below AV).below ((Below.refl _ _).alloc (jC _) (.cells #[.int .i64 o,.int .i64 x,.string (bs t),.int .i64 l] 73));have lJ:=(bU.trans (AV.mono bU.size)).alloc (jS bU.size AV.size) (.cells #[.int .i64 o,.int .i64 x,.string (bs t),.int .i64 l] 73);have Qc:=Hj (y:=.cells #[.int .i64 o,.int .i64 x,.string (bs t),.int .i64 l] 73) AV;obtain⟨a0,a1,a2,a3,-⟩:=o8 Qc;have ec:¬w2.heap.size=w3.heap.size:=Nat.ne_of_lt (Hi AV).2)
  |(go_at_call 41;refine(KM _ _ _ _ _).mono ?_;rintro e w4 ⟨rfl,Ri⟩;have hL4:=hL3.below Ri;have Oa:=lJ.trans (Ri.mono lJ.size))
  |(go_at_call 42;refine(KS _ _ Oa hL4).mono ?_;rintro e w5 ⟨rfl,Xq⟩;have Dd:=Oa.trans (Xq.mono Oa.size);have e1:=bb c1;have e2:=bb k1)
  |(go_at_call 35;refine(KN _ _).mono ?_;rintro e w6 ⟨rfl,rfl⟩))
 go_ret
 exact⟨rfl,Dd⟩
set_option maxRecDepth 20000 in
set_option maxHeartbeats 2000000 in
theorem VR (text:B)(c:Nat)(fuel room:Int)(w:World)(hf:bY w (.slice none 0 c) [])(h:text.length<=1048576)(E:Env w)(hp:Pow w):
  Calls Tryz.prog 22 #[.string (bs text),.slice none 0 c,.int .i64 fuel,.int .i64 room] w fun e w'=>e=.returned (.bool true)/\Below w.heap.size w w':=by
 have hi:∀n∈([]:List Int),aO n:=fun n hn=>by cases hn
 have KL:=Sc c w;have KR:=fun w' v (hb:Below w.heap.size w w') (hv:bY w' v [])=>CN text v [] fuel room w' hv hi h (E.on hb) (hp.below hb E.size)
 have KF:=fun w' (hb:Below w.heap.size w w')=>za text (.slice none 0 c) [] fuel room w' (eK hf hb (jC _)) hi h
 have KS:=fun w' v (hb:Below w.heap.size w w') (hv:qz w' v [])=>DP v (.slice none 0 c) [] w' (eK hf hb (jC _)) hv (by decide)
 have KM:=fun o x t l w'=>IV o x t l w'
 have KN:=fun n w'=>M6 n w'
 have bb:∀c:Int,(c==c)=true:=fun c=>by simp
 clear hf hi h E hp;go_enter Tryz.func22,Tryz.ntmps22
 go_wp2_with (first
  |(go_at_call 39;refine KL.mono ?_;rintro e w1 ⟨rfl,tQ⟩;have aw:Below w.heap.size w w1:=(by rw[tQ];exact Below.refl _ _);have X7:=Gg w1;have hL1:qz w1 (.slice none 0 0) []:=.inl ⟨rfl,rfl⟩;clear tQ)
  |(go_at_call 23;refine(KR _ _ aw X7).mono ?_;rintro e w2 ⟨⟨o,x,t,l,c1,k1,Zu,rfl⟩,pF⟩;have V7:=(hL1.below pF).below ((Below.refl _ _).alloc (jC _) (.cells #[.int .i64 o,.int .i64 x,.string (bs t),.int .i64 l] 47));have bU:=(aw.trans (pF.mono aw.size)).alloc (jS aw.size pF.size) (.cells #[.int .i64 o,.int .i64 x,.string (bs t),.int .i64 l] 47))
  |(go_at_call 40;refine(KF _ bU).mono ?_;rintro e w3 ⟨⟨o',x',t',l',c2,k2,Zv,rfl⟩,AV⟩;obtain⟨ev,rfl,rfl⟩:=IU Zu.out Zv.out;obtain⟨rfl,rfl,rfl,rfl⟩:=Mz ev;clear ev Zu Zv;have hL3:=(V7.below AV).below ((Below.refl _ _).alloc (jC _) (.cells #[.int .i64 o,.int .i64 x,.string (bs t),.int .i64 l] 73));have lJ:=(bU.trans (AV.mono bU.size)).alloc (jS bU.size AV.size) (.cells #[.int .i64 o,.int .i64 x,.string (bs t),.int .i64 l] 73);have Qc:=Hj (y:=.cells #[.int .i64 o,.int .i64 x,.string (bs t),.int .i64 l] 73) AV;obtain⟨a0,a1,a2,a3,-⟩:=o8 Qc;have ec:¬w2.heap.size=w3.heap.size:=Nat.ne_of_lt (Hi AV).2)
  |(go_at_call 41;refine(KM _ _ _ _ _).mono ?_;rintro e w4 ⟨rfl,Ri⟩;have hL4:=hL3.below Ri;have Oa:=lJ.trans (Ri.mono lJ.size))
  |(go_at_call 42;refine(KS _ _ Oa hL4).mono ?_;rintro e w5 ⟨rfl,Xq⟩;have Dd:=Oa.trans (Xq.mono Oa.size);have e1:=bb c1;have e2:=bb k1)
  |(go_at_call 35;refine(KN _ _).mono ?_;rintro e w6 ⟨rfl,rfl⟩))
 go_ret
 exact⟨rfl,Dd⟩
theorem VQ (text:B)(vi:Value)(al:List Int)(fuel room:Int)(w:World)(hf:bY w vi al)(hi:∀n∈al,aO n)(hl:al.length<=1048576)(h:text.length<=1048576)(E:Env w)(hp:Pow w):
  Calls Tryz.prog 22 #[.string (bs text),vi,.int .i64 fuel,.int .i64 room] w fun e w'=>e=.returned (.bool true)/\Below w.heap.size w w':=by
 obtain⟨ad,c,rfl,h1,h2,h3⟩:=id hf;cases ad with
 |none=>
  have e:al=[]:=by
   cases al with
   |nil=>rfl
   |cons z zs=>
    obtain⟨g,f,e,-⟩:=h3 0 (by simp);cases e
  subst e;exact VR text c fuel room w hf h E hp
 |some a=>exact Te text a c al fuel room w hf hi hl h E hp
set_option maxRecDepth 20000 in
set_option maxHeartbeats 2000000 in
theorem Ug (one other:B)(vi vo:Value)(al ino:List Int)(fuel room less little:Int)(w:World)(hf:bY w vi al)(hfo:bY w vo ino)(hi:∀n∈al,aO n)(hio:∀n∈ino,aO n)(hl:al.length<=1048576)(hlo:ino.length<=1048576)(h1:one.length<=1048576)(h2:other.length<=1048576)(E:Env w)(hp:Pow w):
  Calls Tryz.prog 5 #[.string (bs one),vi,.int .i64 fuel,.int .i64 room,.string (bs other),vo,.int .i64 less,.int .i64 little] w fun e w'=>e=.returned (.bool true)/\Below w.heap.size w w':=by
 have K:=fun(t:B) (v:Value) (l:List Int) (f r:Int) (ht:t.length<=1048576) (hv:∀w',Below w.heap.size w w'->bY w' v l) (hn:∀n∈l,aO n) (hL:l.length<=1048576) (w':World) (hb:Below w.heap.size w w')=>(VQ t v l f r w' (hv w' hb) hn hL ht (E.on hb) (hp.below hb E.size)).mono (R':=fun e w''=>e=.returned (.bool true)/\Below w.heap.size w w'') fun e w'' ⟨h1,h2⟩=>⟨h1,hb.trans (h2.mono hb.size)⟩
 have F1:=fun w' (hb:Below w.heap.size w w')=>eK hf hb (jC _)
 have F2:=fun w' (hb:Below w.heap.size w w')=>eK hfo hb (jC _)
 have K1:=K one vi al fuel room h1 F1 hi hl;have K2:=K other vi al fuel room h2 F1 hi hl;have K3:=K one vo ino fuel room h1 F2 hio hlo;have K4:=K one vi al less room h1 F1 hi hl;have K5:=K one vi al fuel little h1 F1 hi hl;have K7:∀w',Below w.heap.size w w'->Calls Tryz.prog 22 #[.string ⟨#[108,101,116,32,110,32,105,110,116,10,108,101,116,32,112,32,98,111,120,10,98,108,111,99,107,10,115,101,116,32,110,32,53,10,110,101,119,32,112,32,110,10,108,111,97,100,32,110,32,112,10,101,110,100,32,110]⟩,.slice none 0 0,.int .i64 9,.int .i64 1] w' _:=K Vy (.slice none 0 0) [] 9 1 (by decide) (fun w' _=>Gg w') (fun n hn=>by cases hn) (by decide);have K0:=K1 w (Below.refl _ _);obtain⟨ad,c,rfl,-⟩:=hf;obtain⟨ado,co,rfl,-⟩:=hfo;clear K F1 F2 hi hio hl hlo h1 h2 E hp;go_enter Tryz.func5,Tryz.ntmps5
 go_wp2_with (first
  |(go_at_call 22;refine(K7 _ hb6).mono ?_;rintro e w7 ⟨rfl,hb7⟩)
  |(go_at_call 22;refine(K1 _ Dd).mono ?_;rintro e w6 ⟨rfl,hb6⟩;clear K1)
  |(go_at_call 22;refine(K5 _ Oa).mono ?_;rintro e w5 ⟨rfl,Dd⟩;clear K5)
  |(go_at_call 22;refine(K4 _ lJ).mono ?_;rintro e w4 ⟨rfl,Oa⟩;clear K4)
  |(go_at_call 22;refine(K3 _ bU).mono ?_;rintro e w3 ⟨rfl,lJ⟩;clear K3)
  |(go_at_call 22;refine(K2 _ aw).mono ?_;rintro e w2 ⟨rfl,bU⟩;clear K2)
  |(go_at_call 22;refine K0.mono ?_;rintro e w1 ⟨rfl,aw⟩;clear K0))
 go_ret
 exact⟨rfl,hb7⟩
end Ran
namespace PrjY
open Go Go.RowKit Sq PrjF PrjG
section
variable {H:Type} {enc:TypeId×Value->H} {P:Program} {w:World} {base:Nat} {sp:Nat->Bool} {held:Bool} {fuel:Nat} {t:TypeId} {cs:List Value} {p:List MemPlace}
theorem BX {l:B}(ht:P.underlying t=some .string)(h:DataW.trod enc P w base sp held fuel t cs=some (.lit (.string l),p)):cs=[.string (bs l)]:=by
 cases fuel with
 |zero=>simp[DataW.trod]at h
 |succ fuel=>
  match cs with
  |[]=>simp[DataW.trod,ht]at h
  |_::_::_=>simp[DataW.trod,ht]at h
  |[c]=>
   cases c<;>simp[DataW.trod,ht]at h
   obtain⟨-,h,-⟩:=h;rename_i s;rw[<-h];simp[bs]
theorem I9 {n:Nat}{e:TypeId}{ds:List (DataW H)}(ht:P.underlying t=some (.array n e))(h:DataW.trod enc P w base sp held fuel t cs=some (.agg ds,p)):
  ∃fuel',cs.length=P.cellsOf t/\ds.length=n/\∀i d,ds[i]?=some d->∃p',DataW.trod enc P w base sp held fuel' e ((cs.drop (i*P.cellsOf e)).take (P.cellsOf e))=some (d,p'):=by
 cases fuel with
 |zero=>simp[DataW.trod]at h
 |succ fuel=>
  simp only[DataW.trod,ht]at h;split at h
  ·rename_i hl;obtain⟨xs,hm,hx⟩:=Option.map_eq_some_iff.1 h;simp only[Prod.mk.injEq,DataW.agg.injEq]at hx;have Yb:xs.length=n:=by simpa using Lib.mapM_length hm
   refine⟨fuel,hl,by rw[<-hx.1];simpa using Yb,fun i d hd=> ?_⟩;rw[<-hx.1,jJ,Option.map_eq_some_iff]at hd;obtain⟨y,hy,rfl⟩:=hd;have hi:i<n:=by
    rcases Nat.lt_or_ge i n with hi|hi
    ·exact hi
    ·rw[jG (by omega)]at hy;cases hy
   obtain⟨b,hb,hf⟩:=Lib.mapM_at hm i i (by simp[hi]);rw[hy]at hb;cases hb
   exact⟨y.2,hf⟩
  ·cases h
theorem TB {f0 f1:Field}{a b:B}(ht:P.underlying t=some (.struct #[f0,f1]))(h0:f0.offset=0)(h1:f1.offset=1)(u0:P.underlying f0.type=some .string)(u1:P.underlying f1.type=some .string)(c0:P.cellsOf f0.type=1)(c1:P.cellsOf f1.type=1)(ct:P.cellsOf t=2)
  (h:DataW.trod enc P w base sp held fuel t cs=some (.agg [.lit (.string a),.lit (.string b)],p)):cs=[.string (bs a),.string (bs b)]:=by
 cases fuel with
 |zero=>simp[DataW.trod]at h
 |succ fuel=>
  simp only[DataW.trod,ht]at h;split at h
  ·rename_i hl;rw[ct]at hl;obtain⟨xs,hm,hx⟩:=Option.map_eq_some_iff.1 h;simp only[Prod.mk.injEq,DataW.agg.injEq]at hx;obtain⟨b0,fC,Od⟩:=Lib.mapM_at hm 0 f0 (by simp);obtain⟨b1,aw,pG⟩:=Lib.mapM_at hm 1 f1 (by simp);have e0:=congrArg (·[0]?) hx.1;have e1:=congrArg (·[1]?) hx.1;simp only[List.getElem?_map,fC,aw,Option.map_some,List.getElem?_cons_zero,List.getElem?_cons_succ,Option.some.injEq]at e0 e1;rw[h0,c0]at Od;rw[h1,c1]at pG;have g0:=BX (l:=a) (p:=b0.2) u0 (by rw[Od,<-e0]);have g1:=BX (l:=b) (p:=b1.2) u1 (by rw[pG,<-e1])
   match cs,hl with
   |[x,y],_=>
    simp only[List.drop_zero,List.take_succ_cons,List.take_zero,List.cons.injEq,and_true]at g0;simp only[List.drop_succ_cons,List.drop_zero,List.take_succ_cons,List.take_zero,List.cons.injEq,and_true]at g1;rw[g0,g1]
  ·cases h
end
theorem qK {α:Type}(f:α->List Value)(m:Nat)(hf:∀x,(f x).length=m):∀(l:List α) (cs:List Value),cs.length=l.length*m->(∀i x,l[i]?=some x->(cs.drop (i*m)).take m=f x)->cs=l.flatMap f
 |[],cs,hl,_=>by simpa using hl
 |x::l,cs,hl,h=>by
  have h0:=h 0 x rfl;rw[Nat.zero_mul,List.drop_zero]at h0;have ih:=qK f m hf l (cs.drop m) (by rw[List.length_drop,hl,jY,Nat.add_mul];omega) (fun i y hy=>by
   have:=h (i+1) y (by simpa using hy);rw[List.drop_drop,show m+i*m=(i+1)*m by rw[Nat.add_mul];omega];exact this)
  rw[List.flatMap_cons,<-h0,<-ih,List.take_append_drop]
theorem iZ {P:Program}{w:World}{n:String}{g:Nat}{cs:Array Value}(hg:P.globalNamed n=some g)(h:w.var? P n=some cs):(∀j,w.cell? ⟨g,j,none⟩=cs[j]?)/\g<w.heap.size:=by
 unfold World.var? at h;rw[hg]at h;simp only[Option.bind_some]at h;split at h
 ·rename_i cs' t f hh;cases h
  exact⟨fun j=>by simp[World.cell?,hh],by rw[Array.getElem?_eq_some_iff]at hh;exact hh.1⟩
 ·cases h
theorem IZ {H:Type}:(Rows.laid_stow_prog_shapes:DataW H)=.agg (fb.map fun x=> .agg [.lit (.string x.1),.lit (.string x.2)]):=rfl
theorem Mj {H:Type}:(Rows.laid_stow_prog_typeWords:DataW H)=.agg (j5.map fun x=> .lit (.string x)):=rfl
theorem EB {P:Program}{w:World}{g:Nat}{t:TypeId}{zero:Array Value}(h:w.ShapedOpen P)(hg:g<P.globals.size)(h0:((begin P (fun _ _=>0) default).world.heap[g]?).bind Obj.row?=some (zero,t))(hz:zero.size=1)
  (hb:P.buildable t=true) (hc:P.cellTypes P.depth t=some [t]) (hu:P.underlying t=some (.int .i64)):∃m:Int,w.cell? ⟨g,0,none⟩=some (.int .i64 m):=by
 obtain⟨cs,hh,hs,hr⟩:=h.1 g zero t hg h0;obtain⟨ts,hts,-,Cm⟩:=hr hb;rw[hc]at hts;cases hts
 have h1:0<cs.size:=by omega
 obtain⟨u,hu',cf⟩:=Cm 0 cs[0] (by simp[h1]);have:u=t:=by simpa using hu'.symm
 subst this;have aD:w.cell? ⟨g,0,none⟩=some cs[0]:=by simp[World.cell?,hh,h1]
 rw[aD];unfold Cell.ok at cf;rw[hu]at cf;cases hv:cs[0]<;>rw[hv]at cf<;>simp at cf
 rename_i k n;obtain⟨rfl,-⟩:=cf;exact⟨n,rfl⟩
theorem Yh {P:Program}{laid:List (String×DataW Unit)}{W:World}(hf:(laid.filter fun x=>x.2.handleName?.isSome)=[])(h:laidMetH P laid W):laidMet P laid W:=by
 unfold laidMetH at h;rw[hf]at h;exact h
theorem mA {P:Program}{w:World}{n:String}{d:DataW Unit}:∀{laid:List (String×DataW Unit)} {ps:List MemPlace},DataW.LaidVars P w laid ps->(n,d)∈laid->∃g t cs fuel p,P.globalNamed n=some g/\(P.globals[g]?).map (·.type)=some t/\w.var? P n=some cs/\DataW.trod (fun _=>()) P w 0 (fun _=>true) false fuel t cs.toList=some (d,p)
 |[],_,_,hm=>by cases hm
 |(n',d')::r,ps,h,hm=>by
  obtain⟨g,t,cs,fuel,p,q,h1,h2,h3,h4,h5,-⟩:=h;rcases jP.1 hm with e|hm
  ·cases e;exact⟨g,t,cs,fuel,p,h1,h2,h3,h4⟩
  ·exact mA h5 hm
theorem y5:Tryz.prog.globalNamed "stow/prog.shapes" =some 0:=by kernel_rfl
theorem Bn:Tryz.prog.globalNamed "stow/prog.typeWords" =some 1:=by kernel_rfl
theorem Ik:Tryz.prog.globalNamed "strconv.ErrSyntax" =some 9:=by kernel_rfl
theorem Bm:Tryz.prog.globalNamed "strconv.ErrRange" =some 10:=by kernel_rfl
theorem Jc:(Tryz.prog.globals[0]?).map (·.type)=some 148:=by kernel_rfl
theorem Mh:(Tryz.prog.globals[1]?).map (·.type)=some 149:=by kernel_rfl
theorem TF:(Tryz.prog.globals[9]?).map (·.type)=some 221:=by kernel_rfl
theorem TE:(Tryz.prog.globals[10]?).map (·.type)=some 221:=by kernel_rfl
theorem Ea:Tryz.prog.cellsOf 148=46:=by kernel_rfl
theorem yI:Tryz.prog.cellsOf 147=2:=by kernel_rfl
theorem FX:Tryz.prog.cellsOf 149=4:=by kernel_rfl
theorem pz:Tryz.prog.cellsOf 9=1:=by kernel_rfl
theorem many:Tryz.prog.globals.size=11:=by kernel_rfl
theorem Xb {laid:List (String×DataW Unit)}{W:World}(hL:laidMet Tryz.prog laid W)(Cs:W.ShapedOpen Tryz.prog)(m1:("stow/prog.shapes",Rows.laid_stow_prog_shapes)∈laid)(m2:("stow/prog.typeWords",Rows.laid_stow_prog_typeWords)∈laid)
  (m3:("strconv.ErrSyntax",Rows.laid_strconv_ErrSyntax)∈laid) (m4:("strconv.ErrRange",Rows.laid_strconv_ErrRange)∈laid):Env W:=by
 obtain⟨ps,hV,-⟩:=hL;refine⟨?_,?_,?_,?_,?_,?_⟩
 ·obtain⟨g,t,cs,fuel,p,h1,h2,h3,h4⟩:=mA hV m1;rw[y5]at h1;cases h1
  rw[Jc]at h2;cases h2
  rw[IZ]at h4;obtain⟨fuel',hl,hn,hi⟩:=I9 Tryz.underlying148 h4;rw[Ea]at hl;have zK:cs.toList=gq:=by
   refine qK (fun x:B×B=>[.string (bs x.1),.string (bs x.2)]) 2 (fun _=>rfl) fb cs.toList hl fun i x hx=> ?_
   obtain⟨p',Cr⟩:=hi i (.agg [.lit (.string x.1),.lit (.string x.2)]) (by rw[jJ,hx];rfl);rw[yI]at Cr;exact TB Tryz.underlying147 rfl rfl Tryz.underlying9 Tryz.underlying9 pz pz yI Cr
  obtain⟨hc,-⟩:=iZ y5 h3;intro j v hv;rw[Nat.zero_add,hc,<-Array.getElem?_toList,zK];exact hv
 ·obtain⟨g,t,cs,fuel,p,h1,h2,h3,h4⟩:=mA hV m2;rw[Bn]at h1;cases h1
  rw[Mh]at h2;cases h2
  rw[Mj]at h4;obtain⟨fuel',hl,hn,hi⟩:=I9 Tryz.underlying149 h4;rw[FX]at hl;have zK:cs.toList=j5.flatMap (fun x:B=>[.string (bs x)]):=by
   refine qK (fun x:B=>[.string (bs x)]) 1 (fun _=>rfl) j5 cs.toList hl fun i x hx=> ?_
   obtain⟨p',Cr⟩:=hi i (.lit (.string x)) (by rw[jJ,hx];rfl);rw[pz]at Cr;exact BX Tryz.underlying9 Cr
  obtain⟨hc,-⟩:=iZ Bn h3;intro j v hv;rw[Nat.zero_add,hc,<-Array.getElem?_toList,zK];exact hv
 ·exact EB Cs (by rw[many];decide) (g:=3) (t:=3) (zero:= #[.int .i64 0]) (by kernel_rfl) rfl (by kernel_rfl) (by kernel_rfl) Tryz.underlying3
 ·obtain⟨g,t,cs,fuel,p,h1,h2,h3,h4⟩:=mA hV m3;rw[Ik]at h1;cases h1
  rw[TF]at h2;cases h2
  obtain⟨fuel',u,v,zK,-⟩:=iface_of_trod Tryz.underlying221 h4;obtain⟨hc,-⟩:=iZ Ik h3;exact⟨u,v,by rw[hc,<-Array.getElem?_toList,zK];rfl⟩
 ·obtain⟨g,t,cs,fuel,p,h1,h2,h3,h4⟩:=mA hV m4;rw[Bm]at h1;cases h1
  rw[TE]at h2;cases h2
  obtain⟨fuel',u,v,zK,-⟩:=iface_of_trod Tryz.underlying221 h4;obtain⟨hc,-⟩:=iZ Bm h3;exact⟨u,v,by rw[hc,<-Array.getElem?_toList,zK];rfl⟩
 ·obtain⟨g,t,cs,fuel,p,h1,h2,h3,h4⟩:=mA hV m4;have:=(iZ Bm h3).2;omega
end PrjY
namespace PrjY
open Go Go.RowKit Sq Go.Proofs.YtmlgajhhnojdjaaGreatDoor.Own
theorem TD:(Tryz.prog.globals[4]?).map (·.type)=some 299:=by kernel_rfl
theorem S4 {H:Type}:(Rows.laid_internal_strconv_uint64pow10:DataW H)=Lib.tabData .u64 Lib.pow10Tab:=rfl
theorem NM:Tryz.prog.cellsOf 281=1:=by kernel_rfl
theorem NL:Tryz.prog.cellsOf 299=20:=by kernel_rfl
theorem C0:Tryz.prog.cellsOf 2=1:=by kernel_rfl
theorem Ym {laid:List (String×DataW Unit)}{W:World}(hL:laidMet Tryz.prog laid W)(m:("internal/strconv.uint64pow10",Rows.laid_internal_strconv_uint64pow10)∈laid):Own.Pow W:=by
 obtain⟨ps,hV,-⟩:=hL;obtain⟨g,t,cs,fuel,p,h1,h2,h3,h4⟩:=mA hV m;rw[S3]at h1;cases h1
 rw[TD]at h2;cases h2
 rw[S4]at h4;have:=Lib.cells_of_tab Tryz.underlying299 Tryz.underlying281 NM NL h4;unfold Own.Pow Lib.TabIs;rw[h3,<-this]
theorem lt_of_cell {W:World}{g o:Nat}{v:Value}(h:W.cell? ⟨g,o,none⟩=some v):g<W.heap.size:=by
 by_cases hg:g<W.heap.size
 ·exact hg
 ·rw[World.cell?]at h;simp only[Array.getElem?_eq_none (Nat.le_of_not_lt hg)]at h;cases h
theorem RZ {n:Int}(h:(Lit.int .i64 n).wf=true):aO n:=by
 have e1:IntKind.i64.min= -9223372036854775808:=rfl;have e2:IntKind.i64.max=9223372036854775807:=rfl;unfold aO;simpa [Lit.wf,e1,e2]using h
theorem C7 {H:Type}{enc:TypeId×Value->H}{W:World}{a0:Option Addr}{len cap fuel:Nat}{x:DataW H×List MemPlace}(h:DataW.trod enc Tryz.prog W 0 (fun _=>true) true fuel 42 [.slice a0 len cap]=some x):∃al,bY W (.slice a0 len cap) al/\∀n∈al,aO n:=by
 rcases Go.ChangeShapes.open_ints Tryz.underlying42 Tryz.underlying2 C0 h with⟨h0,-⟩|⟨a,len',cap',zs,h0,-,hl,hm,hzl,-,hx,hwf⟩
 ·simp only[List.cons.injEq,Value.slice.injEq,and_true]at h0;obtain⟨rfl,rfl,rfl⟩:=h0;exact⟨[],⟨none,0,rfl,jC _,jQ _,fun j hj=>absurd hj (Nat.not_lt_zero _)⟩,fun n hn=>by cases hn⟩
 ·simp only[List.cons.injEq,Value.slice.injEq,and_true]at h0;obtain⟨rfl,rfl,rfl⟩:=h0;simp only[if_true]at hzl;have htl:(zs.take len).length=len:=by rw[List.length_take];omega
  refine⟨zs.take len,⟨some a,cap,by rw[htl],by rw[htl];exact hl,hm,fun j hj=> ?_⟩,fun n hn=>RZ (hwf n (List.mem_of_mem_take hn))⟩;rw[htl]at hj;obtain⟨b,off,spot⟩:=a;have hc:=hx j (by omega);have hspot:spot=none:=by simpa [Addr.add]using World.cell?_spot (hx 0 (by omega))
  subst hspot;have tl:W.cell? ⟨b,off+j,none⟩=some (.int .i64 (zs.getD j 0)):=by
   by_cases e:j=0
   ·subst e;simpa [Addr.add]using hc
   ·simpa [Addr.add,e]using hc
  refine⟨b,off,rfl,lt_of_cell tl,?_⟩;rw[tl,jA,jA,List.getElem?_take_of_lt hj]
end PrjY
namespace PrjY
open Go Go.RowKit Sq Go.Proofs.YtmlgajhhnojdjaaGreatDoor.Own
theorem CZ {H:Type}:∀zs:List Int,Rows.uptoBulkAll (Go.ChangeShapes.lits (H:=H) .i64 zs)=zs.length
 |[]=>by simp[Go.ChangeShapes.lits,Rows.uptoBulkAll]
 |z::zs=>by
  have:=CZ (H:=H) zs;simp only[Go.ChangeShapes.lits,List.map_cons,Rows.uptoBulkAll,Rows.uptoBulk,List.length_cons]at this⊢;omega
theorem C6 {H:Type}{enc:TypeId×Value->H}{W:World}{a0:Option Addr}{len cap fuel:Nat}{x:DataW H×List MemPlace}(h:DataW.trod enc Tryz.prog W 0 (fun _=>true) true fuel 42 [.slice a0 len cap]=some x):len<=Rows.uptoBulk x.1:=by
 rcases Go.ChangeShapes.open_ints Tryz.underlying42 Tryz.underlying2 C0 h with⟨h0,-⟩|⟨a,len',cap',zs,h0,-,hl,hm,hzl,rfl,hx,hwf⟩
 ·simp only[List.cons.injEq,Value.slice.injEq,and_true]at h0;omega
 ·simp only[List.cons.injEq,Value.slice.injEq,and_true]at h0;obtain⟨rfl,rfl,rfl⟩:=h0;simp only[if_true]at hzl;have htl:(zs.take len).length=len:=by rw[List.length_take];omega
  simp only[Rows.uptoBulk,CZ];omega
end PrjY
namespace PrjZ
open Go Go.RowKit Sq
def vw {H:Type}:Nat->DataW H->List Value
 |0,_=>[]
 |_+1,.lit (.int k n)=>[.int k n]
 |_+1,.lit (.string l)=>[.string (bs l)]
 |n+1,.agg ds=>ds.flatMap (vw n)
 |_+1,_=>[]
def put (g:Nat)(cs:List Value)(h:Array Obj):Array Obj:=h.modify g fun
 | .cells _ t frozen=> .cells cs.toArray t frozen
 |o=>o
noncomputable def low:Nat:=(World.holding Tryz.prog default ⟨#[],#[],[]⟩).heap.size
noncomputable def x4 (os:Os):World:=
 let w0:=World.holding Tryz.prog os ⟨#[.cells #[.string (bs [118,97,108,117,101,32,111,117,116,32,111,102,32,114,97,110,103,101])] 327,.cells #[.string (bs [105,110,118,97,108,105,100,32,115,121,110,116,97,120])] 327],#[],[]⟩
 {w0 with heap:=put 0 (vw 8 (Rows.laid_stow_prog_shapes (H:=Unit))) (put 1 (vw 8 (Rows.laid_stow_prog_typeWords (H:=Unit))) (put 2 (vw 8 (Rows.laid_stow_prog_suffixes (H:=Unit)))
   (put 4 (vw 8 (Rows.laid_internal_strconv_uint64pow10 (H:=Unit))) (put 5 (vw 8 Rows.laid_unicode_utf8_first) (put 6 (vw 8 (Rows.laid_unicode_utf8_acceptRanges (H:=Unit)))
   (put 7 (vw 8 (Rows.laid_math_bits_deBruijn32tab (H:=Unit))) (put 8 (vw 8 (Rows.laid_math_bits_deBruijn64tab (H:=Unit)))
   (put 10 [.iface 325 (.pointer (some ⟨low,0,none⟩))] (put 9 [.iface 325 (.pointer (some ⟨low+1,0,none⟩))] w0.heap)))))))))}
theorem R7 (os:Os)(args:Array Value):laidMet Tryz.prog Rows.lookedUptoRow.laid ((x4 os).forCall (fun _ _=>0) ⟨#[],args,[]⟩).memory:=
 laidMet_of_run' 8 (by kernel_rfl) (by kernel_rfl)
end PrjZ
end Go.Proofs.YtmlgajhhnojdjaaGreatDoor

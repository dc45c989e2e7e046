/- Proved: the law Ran (Run is as the document says: of another program, of other inputs, with other fuel and room, too, and again) answers true and leaves what came in as it was. Conditions: what comes in is of bulk at most 2^20; the listed package variables hold what the program's text lays. -/
import Derived.Test.YtmlgajhhnojdjaaGreatDoorRBP
import Derived.Deep.Slices
import Derived.OpenShut
import Derived.ProofKit
import Derived.Test.YtmlgajhhnojdjaaGreatDoorCards
import Derived.Test.YtmlgajhhnojdjaaGreatDoorTie
import Derived.Deep.DeepWitnessRowRef
namespace Go.Proofs.YtmlgajhhnojdjaaGreatDoor
namespace Ran
open Go Go.RowKit Sq Aux Go.Proofs.YtmlgajhhnojdjaaGreatDoor.Own RunA RunB PrjG PrjX MadE Mac FlwZa
theorem za (text:B)(vi:Value)(al:List Int)(fuel room:Int)(w:World)(hf:bY w vi al)(pH:∀n∈al,aO n)(h:text.length<=1048576):
  Calls Tryz.prog 40 #[.string (bs text),vi,.int .i64 fuel,.int .i64 room] w fun e w'=>(∃(o x:Int) (t:B) (l c k:Int),Hid (FI text al fuel room (.agg #[.int .i64 o,.int .i64 x,.string (bs t),.int .i64 l]) c k)/\e=.returned (.tuple #[.agg #[.int .i64 o,.int .i64 x,.string (bs t),.int .i64 l],.int .i64 c,.int .i64 k]))/\Below w.heap.size w w':=by
 refine(LQ text vi al fuel room w hf pH h).mono ?_;rintro e w' ⟨⟨v,c,k,hr,rfl⟩,hb⟩;obtain⟨o,x,t,l,rfl⟩:=hr.out.form;exact⟨⟨o,x,t,l,c,k,hr,rfl⟩,hb⟩
theorem Mz {o x l o' x' l':Int}{t t':B}(h:Value.agg #[.int .i64 o,.int .i64 x,.string (bs t),.int .i64 l]=.agg #[.int .i64 o',.int .i64 x',.string (bs t'),.int .i64 l']):o=o'/\x=x'/\t=t'/\l=l':=by
 simp only[Value.agg.injEq,Array.mk.injEq,List.cons.injEq,Value.int.injEq,Value.string.injEq,true_and,and_true]at h;obtain⟨h1,h2,h3,h4⟩:=h;have:=congrArg ByteArray.toList h3;rw[aE,aE]at this;exact⟨h1,h2,this,h4⟩
set_option maxRecDepth 20000 in
set_option maxHeartbeats 2000000 in
theorem Te (text:B)(a:Addr)(c:Nat)(al:List Int)(fuel room:Int)(w:World)(hf:bY w (.slice (some a) al.length c) al)(hi:∀n∈al,aO n)(hl:al.length<=1048576)(h:text.length<=1048576)(E:Env w)(hp:Pow w):
  Calls Tryz.prog 22 #[.string (bs text),.slice (some a) al.length c,.int .i64 fuel,.int .i64 room] w fun e w'=>e=.returned (.bool true)/\Below w.heap.size w w':=by
 have KL:=OK a c al w hf hl;have KR:=fun w' v (hb:Below w.heap.size w w') (hv:bY w' v al)=>CN text v al fuel room w' hv hi h (E.on hb) (hp.below hb E.size)
 have KF:=fun w' (hb:Below w.heap.size w w')=>za text (.slice (some a) al.length c) al fuel room w' (eK hf hb (jC _)) hi h
 have KS:=fun w' v (hb:Below w.heap.size w w') (hv:qz w' v al)=>DP v (.slice (some a) al.length c) al w' (eK hf hb (jC _)) hv hl
 have KM:=fun o x t l w'=>IV o x t l w'
 have KN:=fun n w'=>M6 n w'
 have bb:∀c:Int,(c==c)=true:=fun c=>by simp
 clear hf hi h E hp;go_enter Tryz.func22,Tryz.ntmps22
 go_wp2_with (first
  |(go_at_call 39;refine KL.mono ?_;rintro e w1 ⟨⟨b,rfl,hB⟩,aw⟩;have X7:=OJ hB hl;have hL1:qz w1 (.slice (some ⟨b,0,none⟩) (al.length+2) (al.length+2)) al:=.inr ⟨b,rfl,hB⟩)
  |(go_at_call 23;refine(KR _ _ aw X7).mono ?_;rintro e w2 ⟨⟨o,x,t,l,c1,k1,Zu,rfl⟩,pF⟩;have V7:=(hL1.below pF).below ((Below.refl _ _).alloc (jC _) (.cells #[.int .i64 o,.int .i64 x,.string (bs t),.int .i64 l] 47));have bU:=(aw.trans (pF.mono aw.size)).alloc (jS aw.size pF.size) (.cells #[.int .i64 o,.int .i64 x,.string (bs t),.int .i64 l] 47))
  |(go_at_call 40;refine(KF _ bU).mono ?_;rintro e w3 ⟨⟨o',x',t',l',c2,k2,Zv,rfl⟩,AV⟩;obtain⟨ev,rfl,rfl⟩:=IU Zu.out Zv.out;obtain⟨rfl,rfl,rfl,rfl⟩:=Mz ev;clear ev Zu Zv;have hL3:=(V7.below AV).below ((Below.refl _ _).alloc (jC _) (.cells #[.int .i64 o,.int .i64 x,.string (bs t),.int .i64 l] 73));have lJ:=(bU.trans (AV.mono bU.size)).alloc (jS bU.size AV.size) (.cells #[.int .i64 o,.int .i64 x,.string (bs t),.int .i64 l] 73);have Qc:=Hj (y:=.cells #[.int .i64 o,.int .i64 x,.string (bs t),.int .i64 l] 73) AV;obtain⟨a0,a1,a2,a3,-⟩:=o8 Qc;have ec:¬w2.heap.size=w3.heap.size:=Nat.ne_of_lt (Hi AV).2)
  |(go_at_call 41;refine(KM _ _ _ _ _).mono ?_;rintro e w4 ⟨rfl,Ri⟩;have hL4:=hL3.below Ri;have Oa:=lJ.trans (Ri.mono lJ.size))
  |(go_at_call 42;refine(KS _ _ Oa hL4).mono ?_;rintro e w5 ⟨rfl,Xq⟩;have Dd:=Oa.trans (Xq.mono Oa.size);have e1:=bb c1;have e2:=bb k1)
  |(go_at_call 35;refine(KN _ _).mono ?_;rintro e w6 ⟨rfl,rfl⟩))
 go_ret
 exact⟨rfl,Dd⟩
set_option maxRecDepth 20000 in
set_option maxHeartbeats 2000000 in
theorem VR (text:B)(c:Nat)(fuel room:Int)(w:World)(hf:bY w (.slice none 0 c) [])(h:text.length<=1048576)(E:Env w)(hp:Pow w):
  Calls Tryz.prog 22 #[.string (bs text),.slice none 0 c,.int .i64 fuel,.int .i64 room] w fun e w'=>e=.returned (.bool true)/\Below w.heap.size w w':=by
 have hi:∀n∈([]:List Int),aO n:=fun n hn=>by cases hn
 have KL:=Sc c w;have KR:=fun w' v (hb:Below w.heap.size w w') (hv:bY w' v [])=>CN text v [] fuel room w' hv hi h (E.on hb) (hp.below hb E.size)
 have KF:=fun w' (hb:Below w.heap.size w w')=>za text (.slice none 0 c) [] fuel room w' (eK hf hb (jC _)) hi h
 have KS:=fun w' v (hb:Below w.heap.size w w') (hv:qz w' v [])=>DP v (.slice none 0 c) [] w' (eK hf hb (jC _)) hv (by decide)
 have KM:=fun o x t l w'=>IV o x t l w'
 have KN:=fun n w'=>M6 n w'
 have bb:∀c:Int,(c==c)=true:=fun c=>by simp
 clear hf hi h E hp;go_enter Tryz.func22,Tryz.ntmps22
 go_wp2_with (first
  |(go_at_call 39;refine KL.mono ?_;rintro e w1 ⟨rfl,tQ⟩;have aw:Below w.heap.size w w1:=(by rw[tQ];exact Below.refl _ _);have X7:=Gg w1;have hL1:qz w1 (.slice none 0 0) []:=.inl ⟨rfl,rfl⟩;clear tQ)
  |(go_at_call 23;refine(KR _ _ aw X7).mono ?_;rintro e w2 ⟨⟨o,x,t,l,c1,k1,Zu,rfl⟩,pF⟩;have V7:=(hL1.below pF).below ((Below.refl _ _).alloc (jC _) (.cells #[.int .i64 o,.int .i64 x,.string (bs t),.int .i64 l] 47));have bU:=(aw.trans (pF.mono aw.size)).alloc (jS aw.size pF.size) (.cells #[.int .i64 o,.int .i64 x,.string (bs t),.int .i64 l] 47))
  |(go_at_call 40;refine(KF _ bU).mono ?_;rintro e w3 ⟨⟨o',x',t',l',c2,k2,Zv,rfl⟩,AV⟩;obtain⟨ev,rfl,rfl⟩:=IU Zu.out Zv.out;obtain⟨rfl,rfl,rfl,rfl⟩:=Mz ev;clear ev Zu Zv;have hL3:=(V7.below AV).below ((Below.refl _ _).alloc (jC _) (.cells #[.int .i64 o,.int .i64 x,.string (bs t),.int .i64 l] 73));have lJ:=(bU.trans (AV.mono bU.size)).alloc (jS bU.size AV.size) (.cells #[.int .i64 o,.int .i64 x,.string (bs t),.int .i64 l] 73);have Qc:=Hj (y:=.cells #[.int .i64 o,.int .i64 x,.string (bs t),.int .i64 l] 73) AV;obtain⟨a0,a1,a2,a3,-⟩:=o8 Qc;have ec:¬w2.heap.size=w3.heap.size:=Nat.ne_of_lt (Hi AV).2)
  |(go_at_call 41;refine(KM _ _ _ _ _).mono ?_;rintro e w4 ⟨rfl,Ri⟩;have hL4:=hL3.below Ri;have Oa:=lJ.trans (Ri.mono lJ.size))
  |(go_at_call 42;refine(KS _ _ Oa hL4).mono ?_;rintro e w5 ⟨rfl,Xq⟩;have Dd:=Oa.trans (Xq.mono Oa.size);have e1:=bb c1;have e2:=bb k1)
  |(go_at_call 35;refine(KN _ _).mono ?_;rintro e w6 ⟨rfl,rfl⟩))
 go_ret
 exact⟨rfl,Dd⟩
theorem VQ (text:B)(vi:Value)(al:List Int)(fuel room:Int)(w:World)(hf:bY w vi al)(hi:∀n∈al,aO n)(hl:al.length<=1048576)(h:text.length<=1048576)(E:Env w)(hp:Pow w):
  Calls Tryz.prog 22 #[.string (bs text),vi,.int .i64 fuel,.int .i64 room] w fun e w'=>e=.returned (.bool true)/\Below w.heap.size w w':=by
 obtain⟨ad,c,rfl,h1,h2,h3⟩:=id hf;cases ad with
 |none=>
  have e:al=[]:=by
   cases al with
   |nil=>rfl
   |cons z zs=>
    obtain⟨g,f,e,-⟩:=h3 0 (by simp);cases e
  subst e;exact VR text c fuel room w hf h E hp
 |some a=>exact Te text a c al fuel room w hf hi hl h E hp
set_option maxRecDepth 20000 in
set_option maxHeartbeats 2000000 in
theorem Ug (one other:B)(vi vo:Value)(al ino:List Int)(fuel room less little:Int)(w:World)(hf:bY w vi al)(hfo:bY w vo ino)(hi:∀n∈al,aO n)(hio:∀n∈ino,aO n)(hl:al.length<=1048576)(hlo:ino.length<=1048576)(h1:one.length<=1048576)(h2:other.length<=1048576)(E:Env w)(hp:Pow w):
  Calls Tryz.prog 5 #[.string (bs one),vi,.int .i64 fuel,.int .i64 room,.string (bs other),vo,.int .i64 less,.int .i64 little] w fun e w'=>e=.returned (.bool true)/\Below w.heap.size w w':=by
 have K:=fun(t:B) (v:Value) (l:List Int) (f r:Int) (ht:t.length<=1048576) (hv:∀w',Below w.heap.size w w'->bY w' v l) (hn:∀n∈l,aO n) (hL:l.length<=1048576) (w':World) (hb:Below w.heap.size w w')=>(VQ t v l f r w' (hv w' hb) hn hL ht (E.on hb) (hp.below hb E.size)).mono (R':=fun e w''=>e=.returned (.bool true)/\Below w.heap.size w w'') fun e w'' ⟨h1,h2⟩=>⟨h1,hb.trans (h2.mono hb.size)⟩
 have F1:=fun w' (hb:Below w.heap.size w w')=>eK hf hb (jC _)
 have F2:=fun w' (hb:Below w.heap.size w w')=>eK hfo hb (jC _)
 have K1:=K one vi al fuel room h1 F1 hi hl;have K2:=K other vi al fuel room h2 F1 hi hl;have K3:=K one vo ino fuel room h1 F2 hio hlo;have K4:=K one vi al less room h1 F1 hi hl;have K5:=K one vi al fuel little h1 F1 hi hl;have K7:∀w',Below w.heap.size w w'->Calls Tryz.prog 22 #[.string ⟨#[108,101,116,32,110,32,105,110,116,10,108,101,116,32,112,32,98,111,120,10,98,108,111,99,107,10,115,101,116,32,110,32,53,10,110,101,119,32,112,32,110,10,108,111,97,100,32,110,32,112,10,101,110,100,32,110]⟩,.slice none 0 0,.int .i64 9,.int .i64 1] w' _:=K Vy (.slice none 0 0) [] 9 1 (by decide) (fun w' _=>Gg w') (fun n hn=>by cases hn) (by decide);have K0:=K1 w (Below.refl _ _);obtain⟨ad,c,rfl,-⟩:=hf;obtain⟨ado,co,rfl,-⟩:=hfo;clear K F1 F2 hi hio hl hlo h1 h2 E hp;go_enter Tryz.func5,Tryz.ntmps5
 go_wp2_with (first
  |(go_at_call 22;refine(K7 _ hb6).mono ?_;rintro e w7 ⟨rfl,hb7⟩)
  |(go_at_call 22;refine(K1 _ Dd).mono ?_;rintro e w6 ⟨rfl,hb6⟩;clear K1)
  |(go_at_call 22;refine(K5 _ Oa).mono ?_;rintro e w5 ⟨rfl,Dd⟩;clear K5)
  |(go_at_call 22;refine(K4 _ lJ).mono ?_;rintro e w4 ⟨rfl,Oa⟩;clear K4)
  |(go_at_call 22;refine(K3 _ bU).mono ?_;rintro e w3 ⟨rfl,lJ⟩;clear K3)
  |(go_at_call 22;refine(K2 _ aw).mono ?_;rintro e w2 ⟨rfl,bU⟩;clear K2)
  |(go_at_call 22;refine K0.mono ?_;rintro e w1 ⟨rfl,aw⟩;clear K0))
 go_ret
 exact⟨rfl,hb7⟩
end Ran
namespace PrjY
open Go Go.RowKit Sq PrjF PrjG
section
variable {H:Type} {enc:TypeId×Value->H} {P:Program} {w:World} {base:Nat} {sp:Nat->Bool} {held:Bool} {fuel:Nat} {t:TypeId} {cs:List Value} {p:List MemPlace}
theorem BX {l:B}(ht:P.underlying t=some .string)(h:DataW.trod enc P w base sp held fuel t cs=some (.lit (.string l),p)):cs=[.string (bs l)]:=by
 cases fuel with
 |zero=>simp[DataW.trod]at h
 |succ fuel=>
  match cs with
  |[]=>simp[DataW.trod,ht]at h
  |_::_::_=>simp[DataW.trod,ht]at h
  |[c]=>
   cases c<;>simp[DataW.trod,ht]at h
   obtain⟨-,h,-⟩:=h;rename_i s;rw[<-h];simp[bs]
theorem I9 {n:Nat}{e:TypeId}{ds:List (DataW H)}(ht:P.underlying t=some (.array n e))(h:DataW.trod enc P w base sp held fuel t cs=some (.agg ds,p)):
  ∃fuel',cs.length=P.cellsOf t/\ds.length=n/\∀i d,ds[i]?=some d->∃p',DataW.trod enc P w base sp held fuel' e ((cs.drop (i*P.cellsOf e)).take (P.cellsOf e))=some (d,p'):=by
 cases fuel with
 |zero=>simp[DataW.trod]at h
 |succ fuel=>
  simp only[DataW.trod,ht]at h;split at h
  ·rename_i hl;obtain⟨xs,hm,hx⟩:=Option.map_eq_some_iff.1 h;simp only[Prod.mk.injEq,DataW.agg.injEq]at hx;have Yb:xs.length=n:=by simpa using Lib.mapM_length hm
   refine⟨fuel,hl,by rw[<-hx.1];simpa using Yb,fun i d hd=> ?_⟩;rw[<-hx.1,jJ,Option.map_eq_some_iff]at hd;obtain⟨y,hy,rfl⟩:=hd;have hi:i<n:=by
    rcases Nat.lt_or_ge i n with hi|hi
    ·exact hi
    ·rw[jG (by omega)]at hy;cases hy
   obtain⟨b,hb,hf⟩:=Lib.mapM_at hm i i (by simp[hi]);rw[hy]at hb;cases hb
   exact⟨y.2,hf⟩
  ·cases h
theorem TB {f0 f1:Field}{a b:B}(ht:P.underlying t=some (.struct #[f0,f1]))(h0:f0.offset=0)(h1:f1.offset=1)(u0:P.underlying f0.type=some .string)(u1:P.underlying f1.type=some .string)(c0:P.cellsOf f0.type=1)(c1:P.cellsOf f1.type=1)(ct:P.cellsOf t=2)
  (h:DataW.trod enc P w base sp held fuel t cs=some (.agg [.lit (.string a),.lit (.string b)],p)):cs=[.string (bs a),.string (bs b)]:=by
 cases fuel with
 |zero=>simp[DataW.trod]at h
 |succ fuel=>
  simp only[DataW.trod,ht]at h;split at h
  ·rename_i hl;rw[ct]at hl;obtain⟨xs,hm,hx⟩:=Option.map_eq_some_iff.1 h;simp only[Prod.mk.injEq,DataW.agg.injEq]at hx;obtain⟨b0,fC,Od⟩:=Lib.mapM_at hm 0 f0 (by simp);obtain⟨b1,aw,pG⟩:=Lib.mapM_at hm 1 f1 (by simp);have e0:=congrArg (·[0]?) hx.1;have e1:=congrArg (·[1]?) hx.1;simp only[List.getElem?_map,fC,aw,Option.map_some,List.getElem?_cons_zero,List.getElem?_cons_succ,Option.some.injEq]at e0 e1;rw[h0,c0]at Od;rw[h1,c1]at pG;have g0:=BX (l:=a) (p:=b0.2) u0 (by rw[Od,<-e0]);have g1:=BX (l:=b) (p:=b1.2) u1 (by rw[pG,<-e1])
   match cs,hl with
   |[x,y],_=>
    simp only[List.drop_zero,List.take_succ_cons,List.take_zero,List.cons.injEq,and_true]at g0;simp only[List.drop_succ_cons,List.drop_zero,List.take_succ_cons,List.take_zero,List.cons.injEq,and_true]at g1;rw[g0,g1]
  ·cases h
end
theorem qK {α:Type}(f:α->List Value)(m:Nat)(hf:∀x,(f x).length=m):∀(l:List α) (cs:List Value),cs.length=l.length*m->(∀i x,l[i]?=some x->(cs.drop (i*m)).take m=f x)->cs=l.flatMap f
 |[],cs,hl,_=>by simpa using hl
 |x::l,cs,hl,h=>by
  have h0:=h 0 x rfl;rw[Nat.zero_mul,List.drop_zero]at h0;have ih:=qK f m hf l (cs.drop m) (by rw[List.length_drop,hl,jY,Nat.add_mul];omega) (fun i y hy=>by
   have:=h (i+1) y (by simpa using hy);rw[List.drop_drop,show m+i*m=(i+1)*m by rw[Nat.add_mul];omega];exact this)
  rw[List.flatMap_cons,<-h0,<-ih,List.take_append_drop]
theorem iZ {P:Program}{w:World}{n:String}{g:Nat}{cs:Array Value}(hg:P.globalNamed n=some g)(h:w.var? P n=some cs):(∀j,w.cell? ⟨g,j,none⟩=cs[j]?)/\g<w.heap.size:=by
 unfold World.var? at h;rw[hg]at h;simp only[Option.bind_some]at h;split at h
 ·rename_i cs' t f hh;cases h
  exact⟨fun j=>by simp[World.cell?,hh],by rw[Array.getElem?_eq_some_iff]at hh;exact hh.1⟩
 ·cases h
theorem IZ {H:Type}:(Rows.laid_stow_prog_shapes:DataW H)=.agg (fb.map fun x=> .agg [.lit (.string x.1),.lit (.string x.2)]):=rfl
theorem Mj {H:Type}:(Rows.laid_stow_prog_typeWords:DataW H)=.agg (j5.map fun x=> .lit (.string x)):=rfl
theorem EB {P:Program}{w:World}{g:Nat}{t:TypeId}{zero:Array Value}(h:w.ShapedOpen P)(hg:g<P.globals.size)(h0:((begin P (fun _ _=>0) default).world.heap[g]?).bind Obj.row?=some (zero,t))(hz:zero.size=1)
  (hb:P.buildable t=true) (hc:P.cellTypes P.depth t=some [t]) (hu:P.underlying t=some (.int .i64)):∃m:Int,w.cell? ⟨g,0,none⟩=some (.int .i64 m):=by
 obtain⟨cs,hh,hs,hr⟩:=h.1 g zero t hg h0;obtain⟨ts,hts,-,Cm⟩:=hr hb;rw[hc]at hts;cases hts
 have h1:0<cs.size:=by omega
 obtain⟨u,hu',cf⟩:=Cm 0 cs[0] (by simp[h1]);have:u=t:=by simpa using hu'.symm
 subst this;have aD:w.cell? ⟨g,0,none⟩=some cs[0]:=by simp[World.cell?,hh,h1]
 rw[aD];unfold Cell.ok at cf;rw[hu]at cf;cases hv:cs[0]<;>rw[hv]at cf<;>simp at cf
 rename_i k n;obtain⟨rfl,-⟩:=cf;exact⟨n,rfl⟩
theorem Yh {P:Program}{laid:List (String×DataW Unit)}{W:World}(hf:(laid.filter fun x=>x.2.handleName?.isSome)=[])(h:laidMetH P laid W):laidMet P laid W:=by
 unfold laidMetH at h;rw[hf]at h;exact h
theorem mA {P:Program}{w:World}{n:String}{d:DataW Unit}:∀{laid:List (String×DataW Unit)} {ps:List MemPlace},DataW.LaidVars P w laid ps->(n,d)∈laid->∃g t cs fuel p,P.globalNamed n=some g/\(P.globals[g]?).map (·.type)=some t/\w.var? P n=some cs/\DataW.trod (fun _=>()) P w 0 (fun _=>true) false fuel t cs.toList=some (d,p)
 |[],_,_,hm=>by cases hm
 |(n',d')::r,ps,h,hm=>by
  obtain⟨g,t,cs,fuel,p,q,h1,h2,h3,h4,h5,-⟩:=h;rcases jP.1 hm with e|hm
  ·cases e;exact⟨g,t,cs,fuel,p,h1,h2,h3,h4⟩
  ·exact mA h5 hm
theorem y5:Tryz.prog.globalNamed "stow/prog.shapes" =some 0:=by kernel_rfl
theorem Bn:Tryz.prog.globalNamed "stow/prog.typeWords" =some 1:=by kernel_rfl
theorem Ik:Tryz.prog.globalNamed "strconv.ErrSyntax" =some 9:=by kernel_rfl
theorem Bm:Tryz.prog.globalNamed "strconv.ErrRange" =some 10:=by kernel_rfl
theorem Jc:(Tryz.prog.globals[0]?).map (·.type)=some 148:=by kernel_rfl
theorem Mh:(Tryz.prog.globals[1]?).map (·.type)=some 149:=by kernel_rfl
theorem TF:(Tryz.prog.globals[9]?).map (·.type)=some 221:=by kernel_rfl
theorem TE:(Tryz.prog.globals[10]?).map (·.type)=some 221:=by kernel_rfl
theorem Ea:Tryz.prog.cellsOf 148=46:=by kernel_rfl
theorem yI:Tryz.prog.cellsOf 147=2:=by kernel_rfl
theorem FX:Tryz.prog.cellsOf 149=4:=by kernel_rfl
theorem pz:Tryz.prog.cellsOf 9=1:=by kernel_rfl
theorem many:Tryz.prog.globals.size=11:=by kernel_rfl
theorem Xb {laid:List (String×DataW Unit)}{W:World}(hL:laidMet Tryz.prog laid W)(Cs:W.ShapedOpen Tryz.prog)(m1:("stow/prog.shapes",Rows.laid_stow_prog_shapes)∈laid)(m2:("stow/prog.typeWords",Rows.laid_stow_prog_typeWords)∈laid)
  (m3:("strconv.ErrSyntax",Rows.laid_strconv_ErrSyntax)∈laid) (m4:("strconv.ErrRange",Rows.laid_strconv_ErrRange)∈laid):Env W:=by
 obtain⟨ps,hV,-⟩:=hL;refine⟨?_,?_,?_,?_,?_,?_⟩
 ·obtain⟨g,t,cs,fuel,p,h1,h2,h3,h4⟩:=mA hV m1;rw[y5]at h1;cases h1
  rw[Jc]at h2;cases h2
  rw[IZ]at h4;obtain⟨fuel',hl,hn,hi⟩:=I9 Tryz.underlying148 h4;rw[Ea]at hl;have zK:cs.toList=gq:=by
   refine qK (fun x:B×B=>[.string (bs x.1),.string (bs x.2)]) 2 (fun _=>rfl) fb cs.toList hl fun i x hx=> ?_
   obtain⟨p',Cr⟩:=hi i (.agg [.lit (.string x.1),.lit (.string x.2)]) (by rw[jJ,hx];rfl);rw[yI]at Cr;exact TB Tryz.underlying147 rfl rfl Tryz.underlying9 Tryz.underlying9 pz pz yI Cr
  obtain⟨hc,-⟩:=iZ y5 h3;intro j v hv;rw[Nat.zero_add,hc,<-Array.getElem?_toList,zK];exact hv
 ·obtain⟨g,t,cs,fuel,p,h1,h2,h3,h4⟩:=mA hV m2;rw[Bn]at h1;cases h1
  rw[Mh]at h2;cases h2
  rw[Mj]at h4;obtain⟨fuel',hl,hn,hi⟩:=I9 Tryz.underlying149 h4;rw[FX]at hl;have zK:cs.toList=j5.flatMap (fun x:B=>[.string (bs x)]):=by
   refine qK (fun x:B=>[.string (bs x)]) 1 (fun _=>rfl) j5 cs.toList hl fun i x hx=> ?_
   obtain⟨p',Cr⟩:=hi i (.lit (.string x)) (by rw[jJ,hx];rfl);rw[pz]at Cr;exact BX Tryz.underlying9 Cr
  obtain⟨hc,-⟩:=iZ Bn h3;intro j v hv;rw[Nat.zero_add,hc,<-Array.getElem?_toList,zK];exact hv
 ·exact EB Cs (by rw[many];decide) (g:=3) (t:=3) (zero:= #[.int .i64 0]) (by kernel_rfl) rfl (by kernel_rfl) (by kernel_rfl) Tryz.underlying3
 ·obtain⟨g,t,cs,fuel,p,h1,h2,h3,h4⟩:=mA hV m3;rw[Ik]at h1;cases h1
  rw[TF]at h2;cases h2
  obtain⟨fuel',u,v,zK,-⟩:=iface_of_trod Tryz.underlying221 h4;obtain⟨hc,-⟩:=iZ Ik h3;exact⟨u,v,by rw[hc,<-Array.getElem?_toList,zK];rfl⟩
 ·obtain⟨g,t,cs,fuel,p,h1,h2,h3,h4⟩:=mA hV m4;rw[Bm]at h1;cases h1
  rw[TE]at h2;cases h2
  obtain⟨fuel',u,v,zK,-⟩:=iface_of_trod Tryz.underlying221 h4;obtain⟨hc,-⟩:=iZ Bm h3;exact⟨u,v,by rw[hc,<-Array.getElem?_toList,zK];rfl⟩
 ·obtain⟨g,t,cs,fuel,p,h1,h2,h3,h4⟩:=mA hV m4;have:=(iZ Bm h3).2;omega
end PrjY
namespace PrjY
open Go Go.RowKit Sq Go.Proofs.YtmlgajhhnojdjaaGreatDoor.Own
theorem TD:(Tryz.prog.globals[4]?).map (·.type)=some 299:=by kernel_rfl
theorem S4 {H:Type}:(Rows.laid_internal_strconv_uint64pow10:DataW H)=Lib.tabData .u64 Lib.pow10Tab:=rfl
theorem NM:Tryz.prog.cellsOf 281=1:=by kernel_rfl
theorem NL:Tryz.prog.cellsOf 299=20:=by kernel_rfl
theorem C0:Tryz.prog.cellsOf 2=1:=by kernel_rfl
theorem Ym {laid:List (String×DataW Unit)}{W:World}(hL:laidMet Tryz.prog laid W)(m:("internal/strconv.uint64pow10",Rows.laid_internal_strconv_uint64pow10)∈laid):Own.Pow W:=by
 obtain⟨ps,hV,-⟩:=hL;obtain⟨g,t,cs,fuel,p,h1,h2,h3,h4⟩:=mA hV m;rw[S3]at h1;cases h1
 rw[TD]at h2;cases h2
 rw[S4]at h4;have:=Lib.cells_of_tab Tryz.underlying299 Tryz.underlying281 NM NL h4;unfold Own.Pow Lib.TabIs;rw[h3,<-this]
theorem lt_of_cell {W:World}{g o:Nat}{v:Value}(h:W.cell? ⟨g,o,none⟩=some v):g<W.heap.size:=by
 by_cases hg:g<W.heap.size
 ·exact hg
 ·rw[World.cell?]at h;simp only[Array.getElem?_eq_none (Nat.le_of_not_lt hg)]at h;cases h
theorem RZ {n:Int}(h:(Lit.int .i64 n).wf=true):aO n:=by
 have e1:IntKind.i64.min= -9223372036854775808:=rfl;have e2:IntKind.i64.max=9223372036854775807:=rfl;unfold aO;simpa [Lit.wf,e1,e2]using h
theorem C7 {H:Type}{enc:TypeId×Value->H}{W:World}{a0:Option Addr}{len cap fuel:Nat}{x:DataW H×List MemPlace}(h:DataW.trod enc Tryz.prog W 0 (fun _=>true) true fuel 42 [.slice a0 len cap]=some x):∃al,bY W (.slice a0 len cap) al/\∀n∈al,aO n:=by
 rcases Go.ChangeShapes.open_ints Tryz.underlying42 Tryz.underlying2 C0 h with⟨h0,-⟩|⟨a,len',cap',zs,h0,-,hl,hm,hzl,-,hx,hwf⟩
 ·simp only[List.cons.injEq,Value.slice.injEq,and_true]at h0;obtain⟨rfl,rfl,rfl⟩:=h0;exact⟨[],⟨none,0,rfl,jC _,jQ _,fun j hj=>absurd hj (Nat.not_lt_zero _)⟩,fun n hn=>by cases hn⟩
 ·simp only[List.cons.injEq,Value.slice.injEq,and_true]at h0;obtain⟨rfl,rfl,rfl⟩:=h0;simp only[if_true]at hzl;have htl:(zs.take len).length=len:=by rw[List.length_take];omega
  refine⟨zs.take len,⟨some a,cap,by rw[htl],by rw[htl];exact hl,hm,fun j hj=> ?_⟩,fun n hn=>RZ (hwf n (List.mem_of_mem_take hn))⟩;rw[htl]at hj;obtain⟨b,off,spot⟩:=a;have hc:=hx j (by omega);have hspot:spot=none:=by simpa [Addr.add]using World.cell?_spot (hx 0 (by omega))
  subst hspot;have tl:W.cell? ⟨b,off+j,none⟩=some (.int .i64 (zs.getD j 0)):=by
   by_cases e:j=0
   ·subst e;simpa [Addr.add]using hc
   ·simpa [Addr.add,e]using hc
  refine⟨b,off,rfl,lt_of_cell tl,?_⟩;rw[tl,jA,jA,List.getElem?_take_of_lt hj]
end PrjY
namespace PrjY
open Go Go.RowKit Sq Go.Proofs.YtmlgajhhnojdjaaGreatDoor.Own
theorem CZ {H:Type}:∀zs:List Int,Rows.uptoBulkAll (Go.ChangeShapes.lits (H:=H) .i64 zs)=zs.length
 |[]=>by simp[Go.ChangeShapes.lits,Rows.uptoBulkAll]
 |z::zs=>by
  have:=CZ (H:=H) zs;simp only[Go.ChangeShapes.lits,List.map_cons,Rows.uptoBulkAll,Rows.uptoBulk,List.length_cons]at this⊢;omega
theorem C6 {H:Type}{enc:TypeId×Value->H}{W:World}{a0:Option Addr}{len cap fuel:Nat}{x:DataW H×List MemPlace}(h:DataW.trod enc Tryz.prog W 0 (fun _=>true) true fuel 42 [.slice a0 len cap]=some x):len<=Rows.uptoBulk x.1:=by
 rcases Go.ChangeShapes.open_ints Tryz.underlying42 Tryz.underlying2 C0 h with⟨h0,-⟩|⟨a,len',cap',zs,h0,-,hl,hm,hzl,rfl,hx,hwf⟩
 ·simp only[List.cons.injEq,Value.slice.injEq,and_true]at h0;omega
 ·simp only[List.cons.injEq,Value.slice.injEq,and_true]at h0;obtain⟨rfl,rfl,rfl⟩:=h0;simp only[if_true]at hzl;have htl:(zs.take len).length=len:=by rw[List.length_take];omega
  simp only[Rows.uptoBulk,CZ];omega
end PrjY
namespace PrjZ
open Go Go.RowKit Sq
def vw {H:Type}:Nat->DataW H->List Value
 |0,_=>[]
 |_+1,.lit (.int k n)=>[.int k n]
 |_+1,.lit (.string l)=>[.string (bs l)]
 |n+1,.agg ds=>ds.flatMap (vw n)
 |_+1,_=>[]
def put (g:Nat)(cs:List Value)(h:Array Obj):Array Obj:=h.modify g fun
 | .cells _ t frozen=> .cells cs.toArray t frozen
 |o=>o
noncomputable def low:Nat:=(World.holding Tryz.prog default ⟨#[],#[],[]⟩).heap.size
noncomputable def x4 (os:Os):World:=
 let w0:=World.holding Tryz.prog os ⟨#[.cells #[.string (bs [118,97,108,117,101,32,111,117,116,32,111,102,32,114,97,110,103,101])] 327,.cells #[.string (bs [105,110,118,97,108,105,100,32,115,121,110,116,97,120])] 327],#[],[]⟩
 {w0 with heap:=put 0 (vw 8 (Rows.laid_stow_prog_shapes (H:=Unit))) (put 1 (vw 8 (Rows.laid_stow_prog_typeWords (H:=Unit))) (put 2 (vw 8 (Rows.laid_stow_prog_suffixes (H:=Unit)))
   (put 4 (vw 8 (Rows.laid_internal_strconv_uint64pow10 (H:=Unit))) (put 5 (vw 8 Rows.laid_unicode_utf8_first) (put 6 (vw 8 (Rows.laid_unicode_utf8_acceptRanges (H:=Unit)))
   (put 7 (vw 8 (Rows.laid_math_bits_deBruijn32tab (H:=Unit))) (put 8 (vw 8 (Rows.laid_math_bits_deBruijn64tab (H:=Unit)))
   (put 10 [.iface 325 (.pointer (some ⟨low,0,none⟩))] (put 9 [.iface 325 (.pointer (some ⟨low+1,0,none⟩))] w0.heap)))))))))}
theorem R7 (os:Os)(args:Array Value):laidMet Tryz.prog Rows.lookedUptoRow.laid ((x4 os).forCall (fun _ _=>0) ⟨#[],args,[]⟩).memory:=
 laidMet_of_run' 8 (by kernel_rfl) (by kernel_rfl)
end PrjZ
namespace ranCard
open Go.ChangeShapes Go.WideShapes Go.ChangeAt Go.RowKit
open Go.ChangeMaps (open_string shut_string)
theorem own:ownKnob Tryz.prog.godebug=none:=by kernel_rfl
theorem laidOut:laidOutB Tryz.prog=true:=by kernel_rfl
theorem Sn (s:ByteArray):s=Sq.bs s.data.toList:=by simp[Sq.bs]
theorem short {H:Type}{s u:ByteArray}{d e:DataW H}{n2 n3 n6 n7:Int}(hk:Rows.uptoSmall H [.lit (.string s.data.toList),d,.lit (.int .i64 n2),.lit (.int .i64 n3),.lit (.string u.data.toList),e,.lit (.int .i64 n6),.lit (.int .i64 n7)]=true):s.data.toList.length<=1048576/\u.data.toList.length<=1048576/\Rows.uptoBulk d<=1048576/\Rows.uptoBulk e<=1048576:=by
 have h:Rows.uptoBulkAll (H:=H) [.lit (.string s.data.toList),d,.lit (.int .i64 n2),.lit (.int .i64 n3),.lit (.string u.data.toList),e,.lit (.int .i64 n6),.lit (.int .i64 n7)]<=1048576:=of_decide_eq_true hk;simp only[Rows.uptoBulkAll,Rows.uptoBulk]at h;omega
section
variable {H:Type} {enc:TypeId×Value->H} {P:Program} {w:World} {base:Nat} {spare:Nat->Bool} {held:Bool}
theorem CI {t0 t1 t2 t3 t4 t5 t6 t7:TypeId}{args:Array Value}{ds:List (DataW H)}{ps:List MemPlace}(h:DataW.TrodAll enc P w base spare held [t0,t1,t2,t3,t4,t5,t6,t7] args.toList ds ps):
  ∃v0 v1 v2 v3 v4 v5 v6 v7 d0 d1 d2 d3 d4 d5 d6 d7 p0 p1 p2 p3 p4 p5 p6 p7,args= #[v0,v1,v2,v3,v4,v5,v6,v7]/\ds=[d0,d1,d2,d3,d4,d5,d6,d7]/\ps=p0++(p1++(p2++(p3++(p4++(p5++(p6++p7))))))/\DataW.Trod enc P w base spare held t0 v0 d0 p0/\DataW.Trod enc P w base spare held t1 v1 d1 p1/\DataW.Trod enc P w base spare held t2 v2 d2 p2/\DataW.Trod enc P w base spare held t3 v3 d3 p3/\
   DataW.Trod enc P w base spare held t4 v4 d4 p4/\DataW.Trod enc P w base spare held t5 v5 d5 p5/\DataW.Trod enc P w base spare held t6 v6 d6 p6/\DataW.Trod enc P w base spare held t7 v7 d7 p7:=by
 obtain⟨v0,r0,d0,e0,p0,q0,hargs,rfl,rfl,h0,hr⟩:=trodAll_cons h;obtain⟨v1,r1,d1,e1,p1,q1,rfl,rfl,rfl,h1,hr⟩:=trodAll_cons hr;obtain⟨v2,r2,d2,e2,p2,q2,rfl,rfl,rfl,h2,hr⟩:=trodAll_cons hr;obtain⟨v3,r3,d3,e3,p3,q3,rfl,rfl,rfl,h3,hr⟩:=trodAll_cons hr;obtain⟨v4,r4,d4,e4,p4,q4,rfl,rfl,rfl,h4,hr⟩:=trodAll_cons hr;obtain⟨v5,r5,d5,e5,p5,q5,rfl,rfl,rfl,h5,hr⟩:=trodAll_cons hr;obtain⟨v6,r6,d6,e6,p6,q6,rfl,rfl,rfl,h6,hr⟩:=trodAll_cons hr;obtain⟨v7,r7,d7,e7,p7,q7,rfl,rfl,rfl,h7,hr⟩:=trodAll_cons hr;obtain⟨rfl,rfl,rfl⟩:=trodAll_nil hr;exact⟨v0,v1,v2,v3,v4,v5,v6,v7,d0,d1,d2,d3,d4,d5,d6,d7,p0,p1,p2,p3,p4,p5,p6,p7,by cases args;simp_all,rfl,by simp,h0,h1,h2,h3,h4,h5,h6,h7⟩
theorem I8 {t0 t1 t2 t3 t4 t5 t6 t7:TypeId}{v0 v1 v2 v3 v4 v5 v6 v7:Value}{d0 d1 d2 d3 d4 d5 d6 d7:DataW H}{p0 p1 p2 p3 p4 p5 p6 p7:List MemPlace}(h0:DataW.Trod enc P w base spare held t0 v0 d0 p0)(h1:DataW.Trod enc P w base spare held t1 v1 d1 p1)(h2:DataW.Trod enc P w base spare held t2 v2 d2 p2)
  (h3:DataW.Trod enc P w base spare held t3 v3 d3 p3) (h4:DataW.Trod enc P w base spare held t4 v4 d4 p4) (h5:DataW.Trod enc P w base spare held t5 v5 d5 p5) (h6:DataW.Trod enc P w base spare held t6 v6 d6 p6) (h7:DataW.Trod enc P w base spare held t7 v7 d7 p7):
  DataW.TrodAll enc P w base spare held [t0,t1,t2,t3,t4,t5,t6,t7] [v0,v1,v2,v3,v4,v5,v6,v7] [d0,d1,d2,d3,d4,d5,d6,d7] (p0++(p1++(p2++(p3++(p4++(p5++(p6++p7))))))):=
 trodAll_cons_mk h0 (trodAll_cons_mk h1 (trodAll_cons_mk h2 (trodAll_cons_mk h3 (trodAll_mk4 h4 h5 h6 h7))))
end
set_option maxRecDepth 100000 in
theorem QE (H:Type)(enc:TypeId×Value->H)(W:World)(base:Nat)(args:Array Value)(ds gs:List (DataW H))(before:List MemPlace)
  (hval:∀(j:Nat) t v,Tryz.f5.params[j]?=some t->args[j]?=some v->Value.okWide Tryz.prog W .any base t v)
  (hW:DataW.Whole enc Tryz.prog Tryz.f5.params.toList Rows.ranSpec.vars false W args.toList ds gs before) (hk:Rows.uptoSmall H (ds++gs)=true) (hL:laidMetH Tryz.prog Rows.ranUptoRow.laid W) (Cs:W.ShapedOpen Tryz.prog):
  Calls Tryz.prog 5 args W fun e W'=>∃v,e=.returned v/\Rows.ranSpec.post enc Tryz.prog Tryz.f5 false true false false W args v W':=by
 have hM:=PrjY.Yh (by kernel_rfl) hL;have E:=PrjY.Xb (laid:=Rows.ranUptoRow.laid) hM Cs (by simp[Rows.ranUptoRow]) (by simp[Rows.ranUptoRow]) (by simp[Rows.ranUptoRow]) (by simp[Rows.ranUptoRow]);have hp:=PrjY.Ym (laid:=Rows.ranUptoRow.laid) hM (by simp[Rows.ranUptoRow]);have hW':=hW;obtain⟨p,q,hA0,hV,rfl,hfz,hnd⟩:=hW;have hA:DataW.TrodAll enc Tryz.prog W 0 (fun _=>true) true Tryz.f5.params.toList args.toList ds p:=hA0;rw[Tryz.params5]at hA;have hv0:=fun v (h:args[0]?=some v)=>hval 0 9 v (by rw[Tryz.params5];rfl) h
 have X7:=fun v (h:args[1]?=some v)=>hval 1 42 v (by rw[Tryz.params5];rfl) h
 have YY:=fun v (h:args[2]?=some v)=>hval 2 3 v (by rw[Tryz.params5];rfl) h
 have hv3:=fun v (h:args[3]?=some v)=>hval 3 3 v (by rw[Tryz.params5];rfl) h
 have hv4:=fun v (h:args[4]?=some v)=>hval 4 9 v (by rw[Tryz.params5];rfl) h
 have hv5:=fun v (h:args[5]?=some v)=>hval 5 42 v (by rw[Tryz.params5];rfl) h
 have hv6:=fun v (h:args[6]?=some v)=>hval 6 3 v (by rw[Tryz.params5];rfl) h
 have hv7:=fun v (h:args[7]?=some v)=>hval 7 3 v (by rw[Tryz.params5];rfl) h
 clear hval;obtain⟨v0,v1,v2,v3,v4,v5,v6,v7,d0,d1,d2,d3,d4,d5,d6,d7,p0,p1,p2,p3,p4,p5,p6,p7,rfl,rfl,rfl,h0,h1,h2,h3,h4,h5,h6,h7⟩:=CI hA;obtain⟨rfl,rfl⟩:=trodVars_none hV;obtain⟨s,rfl,rfl,rfl,ms⟩:=open_string Tryz.underlying9 (hv0 v0 rfl) h0;obtain⟨u,rfl,rfl,rfl,mu⟩:=open_string Tryz.underlying9 (hv4 v4 rfl) h4;obtain⟨a1,l1,c1,rfl⟩:=okWide_slice Tryz.underlying42 (X7 v1 rfl);obtain⟨a5,l5,c5,rfl⟩:=okWide_slice Tryz.underlying42 (hv5 v5 rfl);obtain⟨n2,rfl,rfl,rfl,w2⟩:=open_int Tryz.underlying3 (YY v2 rfl) h2;obtain⟨n3,rfl,rfl,rfl,w3⟩:=open_int Tryz.underlying3 (hv3 v3 rfl) h3;obtain⟨n6,rfl,rfl,rfl,w6⟩:=open_int Tryz.underlying3 (hv6 v6 rfl) h6;obtain⟨n7,rfl,rfl,rfl,w7⟩:=open_int Tryz.underlying3 (hv7 v7 rfl) h7;clear hA0;have aL:∀x,x∈p1\/x∈p5->x.block<W.heap.size:=fun x hx=>by simpa using hW'.lt x (by simpa using hx)
 have k1:∀W',Below W.heap.size W W'->DataW.Trod enc Tryz.prog W' 0 (fun b=>decide (b<W.heap.size)) true 42 (.slice a1 l1 c1) d1 p1:=fun W' hn=>Below.trod laidOut (by kernel_rfl) (of_decide_eq_true (by kernel_rfl)) h1 hn (fun x hx=>aL x (.inl hx))
 have k5:∀W',Below W.heap.size W W'->DataW.Trod enc Tryz.prog W' 0 (fun b=>decide (b<W.heap.size)) true 42 (.slice a5 l5 c5) d5 p5:=fun W' hn=>Below.trod laidOut (by kernel_rfl) (of_decide_eq_true (by kernel_rfl)) h5 hn (fun x hx=>aL x (.inr hx))
 obtain⟨f1,pG⟩:=h1;obtain⟨al,Wg,pH⟩:=PrjY.C7 pG;have aw:=PrjY.C6 pG;obtain⟨f5,hf5⟩:=h5;obtain⟨inq,Rv,hinq⟩:=PrjY.C7 hf5;have Dd:=PrjY.C6 hf5;simp only[List.append_nil]at hk;obtain⟨l1',l2',l3',l4'⟩:=short hk;have g1:al.length<=1048576:=by
  obtain⟨ad,c,e,-⟩:=Wg;simp only[Value.slice.injEq]at e;have aw:l1<=Rows.uptoBulk d1:=aw;omega
 have g5:inq.length<=1048576:=by
  obtain⟨ad,c,e,-⟩:=Rv;simp only[Value.slice.injEq]at e;have Dd:l5<=Rows.uptoBulk d5:=Dd;omega
 have walk:=Ran.Ug s.data.toList u.data.toList (.slice a1 l1 c1) (.slice a5 l5 c5) al inq n2 n3 n6 n7 W Wg Rv pH hinq g1 g5 l1' l2' E hp;rw[<-Sn,<-Sn]at walk;refine walk.mono fun e W' ⟨he,hb⟩=> ?_
 subst he;exact⟨_,rfl,_,_,_,[],_,[],hW',trodAll_mk1 (shut_bool Tryz.underlying4 _),I8 (shut_string Tryz.underlying9 ms) (k1 W' hb) (shut_int Tryz.underlying3 w2) (shut_int Tryz.underlying3 w3) (shut_string Tryz.underlying9 mu) (k5 W' hb) (shut_int Tryz.underlying3 w6) (shut_int Tryz.underlying3 w7),rfl,hb.frame _,fun h=>by cases h⟩
theorem reads (os:Os){H:Type}(enc:TypeId×Value->H):∃places,DataW.whole enc Tryz.prog ((PrjZ.x4 os).forCall (fun _ _=>0) ⟨#[],#[.string ⟨#[]⟩,.slice none 0 0,.int .i64 0,.int .i64 0,.string ⟨#[]⟩,.slice none 0 0,.int .i64 0,.int .i64 0],[]⟩).memory Tryz.f5.params.toList Rows.ranSpec.vars false ((#[.string ⟨#[]⟩,.slice none 0 0,.int .i64 0,.int .i64 0,.string ⟨#[]⟩,.slice none 0 0,.int .i64 0,.int .i64 0]:Array Value)).toList 8=some ([.lit (.string []),.nil,.lit (.int .i64 0),.lit (.int .i64 0),.lit (.string []),.nil,.lit (.int .i64 0),.lit (.int .i64 0)],[],places):=
 ⟨[],by kernel_rfl⟩
set_option maxRecDepth 100000 in
theorem Lh (os:Os)(started:os.Started)(H:Type)(enc:TypeId×Value->H)(F:Stop.Interp):
  ReturnsInHanded {} Tryz.checked os 5 .any ((Rows.OpenSpec.upto Rows.ranSpec).preRow enc Tryz.prog Tryz.f5 Rows.ranUptoRow.domain false Rows.ranUptoRow.laid) (((Rows.OpenSpec.upto Rows.ranSpec).at F).post enc Tryz.prog Tryz.f5 false true false false):=by
 obtain⟨places,hx⟩:=reads os enc;refine returnsInHanded_of_row (C:=Tryz.checked) (s:=Rows.OpenSpec.upto Rows.ranSpec) own started (by kernel_rfl) Tryz.func5
  (witness_row_at (enc:=enc) (C:=Tryz.checked) false (PrjZ.x4 os) #[.string ⟨#[]⟩,.slice none 0 0,.int .i64 0,.int .i64 0,.string ⟨#[]⟩,.slice none 0 0,.int .i64 0,.int .i64 0] rfl (by kernel_rfl) (by kernel_rfl) (by kernel_rfl)
   (OpenSpec.preRow_of_cond 8 hx (by kernel_rfl) (fun k hk=>by cases hk;kernel_rfl) (by kernel_rfl) (PrjZ.R7 os _))) ?_
 intro W base args ds gs before hval hW _ GG _ hL Cs _;exact QE H enc W base args ds gs before hval hW (GG _ rfl) hL Cs
theorem Tf:Rows.RanUptoSaid:=
 OpenClaim.holds_of_cond 5 Tryz.f5 rfl rfl rfl rfl rfl rfl rfl ⟨rfl,rfl,rfl,rfl,rfl⟩ rfl rfl rfl rfl rfl (by kernel_rfl) Tryz.func5 (by kernel_rfl)
  (of_decide_eq_true (by kernel_rfl)) (by unfold Func.isWrapper;first|(rw[jb (by decide+kernel)];kernel_rfl)|(rw[ja (by decide+kernel)];exact⟨rfl,rfl⟩))
  (fun os started H enc _ F=>by rw[OpenClaim.pre_eq_preRow];exact Lh os started H enc F)
theorem plain (f:FuncId)(fn:Func)(hf:Tryz.pinned.checked.prog.funcNamed "stow/stowlaw.Ran" =some f)(Oe:Tryz.pinned.checked.prog.funcs[f]?=some fn):
  true=Tryz.pinned.checked.prog.looks []/\∀(j:Nat) t,fn.params[j]?=some t->Tryz.pinned.checked.prog.wantsStandIn t=false:=by
 obtain rfl:f=5:=Option.some.inj ((show Tryz.prog.funcNamed "stow/stowlaw.Ran" =some 5 by kernel_rfl).symm.trans hf)|>.symm;obtain rfl:fn=Tryz.f5:=(Option.some.inj (Tryz.func5.symm.trans Oe)).symm;refine⟨by kernel_rfl,fun j t ht=> ?_⟩;rw[Tryz.params5]at ht;have hm:t=9\/t=42\/t=3:=by
  have h1:t∈[9,42,3,3,9,42,3,3]:=Array.mem_def.mp (Array.mem_of_getElem? ht);simp only[List.mem_cons,List.not_mem_nil,or_false]at h1;rcases h1 with h|h|h|h|h|h|h|h
  ·exact .inl h
  ·exact .inr (.inl h)
  ·exact .inr (.inr h)
  ·exact .inr (.inr h)
  ·exact .inl h
  ·exact .inr (.inl h)
  ·exact .inr (.inr h)
  ·exact .inr (.inr h)
 rcases hm with rfl|rfl|rfl
 ·exact(show Tryz.prog.wantsStandIn 9=false by kernel_rfl)
 ·exact(show Tryz.prog.wantsStandIn 42=false by kernel_rfl)
 ·exact(show Tryz.prog.wantsStandIn 3=false by kernel_rfl)
theorem cardUpto:Rows.RanUptoCardSaid:=
 Claim7.holds_tied_plain_at .later [] _ _ _ _ Tf (fun _ h=>by cases h) (by kernel_rfl) (fun _ h=>by cases h) ranUpto_row_tie rfl ⟨rfl,rfl⟩ (by kernel_rfl) rfl plain (by kernel_rfl)
end ranCard
end Go.Proofs.YtmlgajhhnojdjaaGreatDoor

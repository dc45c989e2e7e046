/- Proved: the law Ran (Run is as the document says: of another program, of other inputs, with other fuel and room, too, and again) answers true and leaves what came in as it was. Conditions: what comes in is of bulk at most 2^20; the listed package variables hold what the program's text lays. -/
import Derived.Test.YtmlgajhhnojdjaaGreatDoorRBU
import Derived.Test.YtmlgajhhnojdjaaGreatDoorCards
import Derived.Test.YtmlgajhhnojdjaaGreatDoorTie
import Derived.Deep.DeepWitnessRowRef
namespace Go.Proofs.YtmlgajhhnojdjaaGreatDoor
namespace Ran
open Go Go.RowKit Sq Aux Go.Proofs.YtmlgajhhnojdjaaGreatDoor.Own RunA RunB PrjG PrjX MadE Mac FlwZa
theorem y9 (text:B)(vi:Value)(ak:List Int)(fuel room:Int)(w:World)(hf:bX w vi ak)(pG:∀n∈ak,aN n)(h:text.length<=1048576):
  Calls Tryz.prog 40 #[.string (bs text),vi,.int .i64 fuel,.int .i64 room] w fun e w'=>(∃(o x:Int) (t:B) (l c k:Int),Hid (FH text ak fuel room (.agg #[.int .i64 o,.int .i64 x,.string (bs t),.int .i64 l]) c k)/\e=.returned (.tuple #[.agg #[.int .i64 o,.int .i64 x,.string (bs t),.int .i64 l],.int .i64 c,.int .i64 k]))/\Below w.heap.size w w':=by
 refine(LP text vi ak fuel room w hf pG h).mono ?_;rintro e w' ⟨⟨v,c,k,hr,rfl⟩,hb⟩;obtain⟨o,x,t,l,rfl⟩:=hr.out.form;exact⟨⟨o,x,t,l,c,k,hr,rfl⟩,hb⟩
theorem My {o x l o' x' l':Int}{t t':B}(h:Value.agg #[.int .i64 o,.int .i64 x,.string (bs t),.int .i64 l]=.agg #[.int .i64 o',.int .i64 x',.string (bs t'),.int .i64 l']):o=o'/\x=x'/\t=t'/\l=l':=by
 simp only[Value.agg.injEq,Array.mk.injEq,List.cons.injEq,Value.int.injEq,Value.string.injEq,true_and,and_true]at h;obtain⟨h1,h2,h3,h4⟩:=h;have:=congrArg ByteArray.toList h3;rw[aD,aD]at this;exact⟨h1,h2,this,h4⟩
set_option maxRecDepth 20000 in
set_option maxHeartbeats 2000000 in
theorem Td (text:B)(a:Addr)(c:Nat)(ak:List Int)(fuel room:Int)(w:World)(hf:bX w (.slice (some a) ak.length c) ak)(hi:∀n∈ak,aN n)(hl:ak.length<=1048576)(h:text.length<=1048576)(E:Env w)(hp:Pow w):
  Calls Tryz.prog 22 #[.string (bs text),.slice (some a) ak.length c,.int .i64 fuel,.int .i64 room] w fun e w'=>e=.returned (.bool true)/\Below w.heap.size w w':=by
 have KL:=OJ a c ak w hf hl;have KR:=fun w' v (hb:Below w.heap.size w w') (hv:bX w' v ak)=>CM text v ak fuel room w' hv hi h (E.on hb) (hp.below hb E.size)
 have KF:=fun w' (hb:Below w.heap.size w w')=>y9 text (.slice (some a) ak.length c) ak fuel room w' (eJ hf hb (jC _)) hi h
 have KS:=fun w' v (hb:Below w.heap.size w w') (hv:qy w' v ak)=>DO v (.slice (some a) ak.length c) ak w' (eJ hf hb (jC _)) hv hl
 have KM:=fun o x t l w'=>IU o x t l w'
 have KN:=fun n w'=>M5 n w'
 have bb:∀c:Int,(c==c)=true:=fun c=>by simp
 clear hf hi h E hp;go_enter Tryz.func22,Tryz.ntmps22
 go_wp2_with (first
  |(go_at_call 39;refine KL.mono ?_;rintro e w1 ⟨⟨b,rfl,hB⟩,av⟩;have X6:=OI hB hl;have hL1:qy w1 (.slice (some ⟨b,0,none⟩) (ak.length+2) (ak.length+2)) ak:=.inr ⟨b,rfl,hB⟩)
  |(go_at_call 23;refine(KR _ _ av X6).mono ?_;rintro e w2 ⟨⟨o,x,t,l,c1,k1,Zt,rfl⟩,pE⟩;have V6:=(hL1.below pE).below ((Below.refl _ _).alloc (jC _) (.cells #[.int .i64 o,.int .i64 x,.string (bs t),.int .i64 l] 47));have bT:=(av.trans (pE.mono av.size)).alloc (jS av.size pE.size) (.cells #[.int .i64 o,.int .i64 x,.string (bs t),.int .i64 l] 47))
  |(go_at_call 40;refine(KF _ bT).mono ?_;rintro e w3 ⟨⟨o',x',t',l',c2,k2,Zu,rfl⟩,AU⟩;obtain⟨ev,rfl,rfl⟩:=IT Zt.out Zu.out;obtain⟨rfl,rfl,rfl,rfl⟩:=My ev;clear ev Zt Zu;have hL3:=(V6.below AU).below ((Below.refl _ _).alloc (jC _) (.cells #[.int .i64 o,.int .i64 x,.string (bs t),.int .i64 l] 73));have lI:=(bT.trans (AU.mono bT.size)).alloc (jS bT.size AU.size) (.cells #[.int .i64 o,.int .i64 x,.string (bs t),.int .i64 l] 73);have Qb:=Hi (y:=.cells #[.int .i64 o,.int .i64 x,.string (bs t),.int .i64 l] 73) AU;obtain⟨a0,a1,a2,a3,-⟩:=o7 Qb;have ea:¬w2.heap.size=w3.heap.size:=Nat.ne_of_lt (Hh AU).2)
  |(go_at_call 41;refine(KM _ _ _ _ _).mono ?_;rintro e w4 ⟨rfl,Rh⟩;have hL4:=hL3.below Rh;have N9:=lI.trans (Rh.mono lI.size))
  |(go_at_call 42;refine(KS _ _ N9 hL4).mono ?_;rintro e w5 ⟨rfl,Xp⟩;have Dc:=N9.trans (Xp.mono N9.size);have e1:=bb c1;have e2:=bb k1)
  |(go_at_call 35;refine(KN _ _).mono ?_;rintro e w6 ⟨rfl,rfl⟩))
 go_ret
 exact⟨rfl,Dc⟩
set_option maxRecDepth 20000 in
set_option maxHeartbeats 2000000 in
theorem VQ (text:B)(c:Nat)(fuel room:Int)(w:World)(hf:bX w (.slice none 0 c) [])(h:text.length<=1048576)(E:Env w)(hp:Pow w):
  Calls Tryz.prog 22 #[.string (bs text),.slice none 0 c,.int .i64 fuel,.int .i64 room] w fun e w'=>e=.returned (.bool true)/\Below w.heap.size w w':=by
 have hi:∀n∈([]:List Int),aN n:=fun n hn=>by cases hn
 have KL:=Sb c w;have KR:=fun w' v (hb:Below w.heap.size w w') (hv:bX w' v [])=>CM text v [] fuel room w' hv hi h (E.on hb) (hp.below hb E.size)
 have KF:=fun w' (hb:Below w.heap.size w w')=>y9 text (.slice none 0 c) [] fuel room w' (eJ hf hb (jC _)) hi h
 have KS:=fun w' v (hb:Below w.heap.size w w') (hv:qy w' v [])=>DO v (.slice none 0 c) [] w' (eJ hf hb (jC _)) hv (by decide)
 have KM:=fun o x t l w'=>IU o x t l w'
 have KN:=fun n w'=>M5 n w'
 have bb:∀c:Int,(c==c)=true:=fun c=>by simp
 clear hf hi h E hp;go_enter Tryz.func22,Tryz.ntmps22
 go_wp2_with (first
  |(go_at_call 39;refine KL.mono ?_;rintro e w1 ⟨rfl,tP⟩;have av:Below w.heap.size w w1:=(by rw[tP];exact Below.refl _ _);have X6:=Gf w1;have hL1:qy w1 (.slice none 0 0) []:=.inl ⟨rfl,rfl⟩;clear tP)
  |(go_at_call 23;refine(KR _ _ av X6).mono ?_;rintro e w2 ⟨⟨o,x,t,l,c1,k1,Zt,rfl⟩,pE⟩;have V6:=(hL1.below pE).below ((Below.refl _ _).alloc (jC _) (.cells #[.int .i64 o,.int .i64 x,.string (bs t),.int .i64 l] 47));have bT:=(av.trans (pE.mono av.size)).alloc (jS av.size pE.size) (.cells #[.int .i64 o,.int .i64 x,.string (bs t),.int .i64 l] 47))
  |(go_at_call 40;refine(KF _ bT).mono ?_;rintro e w3 ⟨⟨o',x',t',l',c2,k2,Zu,rfl⟩,AU⟩;obtain⟨ev,rfl,rfl⟩:=IT Zt.out Zu.out;obtain⟨rfl,rfl,rfl,rfl⟩:=My ev;clear ev Zt Zu;have hL3:=(V6.below AU).below ((Below.refl _ _).alloc (jC _) (.cells #[.int .i64 o,.int .i64 x,.string (bs t),.int .i64 l] 73));have lI:=(bT.trans (AU.mono bT.size)).alloc (jS bT.size AU.size) (.cells #[.int .i64 o,.int .i64 x,.string (bs t),.int .i64 l] 73);have Qb:=Hi (y:=.cells #[.int .i64 o,.int .i64 x,.string (bs t),.int .i64 l] 73) AU;obtain⟨a0,a1,a2,a3,-⟩:=o7 Qb;have ea:¬w2.heap.size=w3.heap.size:=Nat.ne_of_lt (Hh AU).2)
  |(go_at_call 41;refine(KM _ _ _ _ _).mono ?_;rintro e w4 ⟨rfl,Rh⟩;have hL4:=hL3.below Rh;have N9:=lI.trans (Rh.mono lI.size))
  |(go_at_call 42;refine(KS _ _ N9 hL4).mono ?_;rintro e w5 ⟨rfl,Xp⟩;have Dc:=N9.trans (Xp.mono N9.size);have e1:=bb c1;have e2:=bb k1)
  |(go_at_call 35;refine(KN _ _).mono ?_;rintro e w6 ⟨rfl,rfl⟩))
 go_ret
 exact⟨rfl,Dc⟩
theorem VP (text:B)(vi:Value)(ak:List Int)(fuel room:Int)(w:World)(hf:bX w vi ak)(hi:∀n∈ak,aN n)(hl:ak.length<=1048576)(h:text.length<=1048576)(E:Env w)(hp:Pow w):
  Calls Tryz.prog 22 #[.string (bs text),vi,.int .i64 fuel,.int .i64 room] w fun e w'=>e=.returned (.bool true)/\Below w.heap.size w w':=by
 obtain⟨ad,c,rfl,h1,h2,h3⟩:=id hf;cases ad with
 |none=>
  have e:ak=[]:=by
   cases ak with
   |nil=>rfl
   |cons z zs=>
    obtain⟨g,f,e,-⟩:=h3 0 (by simp);cases e
  subst e;exact VQ text c fuel room w hf h E hp
 |some a=>exact Td text a c ak fuel room w hf hi hl h E hp
set_option maxRecDepth 20000 in
set_option maxHeartbeats 2000000 in
theorem Uf (one other:B)(vi vo:Value)(ak ino:List Int)(fuel room less little:Int)(w:World)(hf:bX w vi ak)(hfo:bX w vo ino)(hi:∀n∈ak,aN n)(hio:∀n∈ino,aN n)(hl:ak.length<=1048576)(hlo:ino.length<=1048576)(h1:one.length<=1048576)(h2:other.length<=1048576)(E:Env w)(hp:Pow w):
  Calls Tryz.prog 5 #[.string (bs one),vi,.int .i64 fuel,.int .i64 room,.string (bs other),vo,.int .i64 less,.int .i64 little] w fun e w'=>e=.returned (.bool true)/\Below w.heap.size w w':=by
 have K:=fun(t:B) (v:Value) (l:List Int) (f r:Int) (ht:t.length<=1048576) (hv:∀w',Below w.heap.size w w'->bX w' v l) (hn:∀n∈l,aN n) (hL:l.length<=1048576) (w':World) (hb:Below w.heap.size w w')=>(VP t v l f r w' (hv w' hb) hn hL ht (E.on hb) (hp.below hb E.size)).mono (R':=fun e w''=>e=.returned (.bool true)/\Below w.heap.size w w'') fun e w'' ⟨h1,h2⟩=>⟨h1,hb.trans (h2.mono hb.size)⟩
 have F1:=fun w' (hb:Below w.heap.size w w')=>eJ hf hb (jC _)
 have F2:=fun w' (hb:Below w.heap.size w w')=>eJ hfo hb (jC _)
 have K1:=K one vi ak fuel room h1 F1 hi hl;have K2:=K other vi ak fuel room h2 F1 hi hl;have K3:=K one vo ino fuel room h1 F2 hio hlo;have K4:=K one vi ak less room h1 F1 hi hl;have K5:=K one vi ak fuel little h1 F1 hi hl;have K7:∀w',Below w.heap.size w w'->Calls Tryz.prog 22 #[.string ⟨#[108,101,116,32,110,32,105,110,116,10,108,101,116,32,112,32,98,111,120,10,98,108,111,99,107,10,115,101,116,32,110,32,53,10,110,101,119,32,112,32,110,10,108,111,97,100,32,110,32,112,10,101,110,100,32,110]⟩,.slice none 0 0,.int .i64 9,.int .i64 1] w' _:=K Vx (.slice none 0 0) [] 9 1 (by decide) (fun w' _=>Gf w') (fun n hn=>by cases hn) (by decide);have K0:=K1 w (Below.refl _ _);obtain⟨ad,c,rfl,-⟩:=hf;obtain⟨ado,co,rfl,-⟩:=hfo;clear K F1 F2 hi hio hl hlo h1 h2 E hp;go_enter Tryz.func5,Tryz.ntmps5
 go_wp2_with (first
  |(go_at_call 22;refine(K7 _ hb6).mono ?_;rintro e w7 ⟨rfl,hb7⟩)
  |(go_at_call 22;refine(K1 _ Dc).mono ?_;rintro e w6 ⟨rfl,hb6⟩;clear K1)
  |(go_at_call 22;refine(K5 _ N9).mono ?_;rintro e w5 ⟨rfl,Dc⟩;clear K5)
  |(go_at_call 22;refine(K4 _ lI).mono ?_;rintro e w4 ⟨rfl,N9⟩;clear K4)
  |(go_at_call 22;refine(K3 _ bT).mono ?_;rintro e w3 ⟨rfl,lI⟩;clear K3)
  |(go_at_call 22;refine(K2 _ av).mono ?_;rintro e w2 ⟨rfl,bT⟩;clear K2)
  |(go_at_call 22;refine K0.mono ?_;rintro e w1 ⟨rfl,av⟩;clear K0))
 go_ret
 exact⟨rfl,hb7⟩
end Ran
namespace ranCard
open Go.ChangeShapes Go.WideShapes Go.ChangeAt Go.RowKit
open Go.ChangeMaps (open_string shut_string)
theorem own:ownKnob Tryz.prog.godebug=none:=by kernel_rfl
theorem laidOut:laidOutB Tryz.prog=true:=by kernel_rfl
theorem Sm (s:ByteArray):s=Sq.bs s.data.toList:=by simp[Sq.bs]
theorem short {H:Type}{s u:ByteArray}{d e:DataW H}{n2 n3 n6 n7:Int}(hk:Rows.uptoSmall H [.lit (.string s.data.toList),d,.lit (.int .i64 n2),.lit (.int .i64 n3),.lit (.string u.data.toList),e,.lit (.int .i64 n6),.lit (.int .i64 n7)]=true):s.data.toList.length<=1048576/\u.data.toList.length<=1048576/\Rows.uptoBulk d<=1048576/\Rows.uptoBulk e<=1048576:=by
 have h:Rows.uptoBulkAll (H:=H) [.lit (.string s.data.toList),d,.lit (.int .i64 n2),.lit (.int .i64 n3),.lit (.string u.data.toList),e,.lit (.int .i64 n6),.lit (.int .i64 n7)]<=1048576:=of_decide_eq_true hk;simp only[Rows.uptoBulkAll,Rows.uptoBulk]at h;omega
section
variable {H:Type} {enc:TypeId×Value->H} {P:Program} {w:World} {base:Nat} {spare:Nat->Bool} {held:Bool}
theorem CH {t0 t1 t2 t3 t4 t5 t6 t7:TypeId}{args:Array Value}{ds:List (DataW H)}{ps:List MemPlace}(h:DataW.TrodAll enc P w base spare held [t0,t1,t2,t3,t4,t5,t6,t7] args.toList ds ps):
  ∃v0 v1 v2 v3 v4 v5 v6 v7 d0 d1 d2 d3 d4 d5 d6 d7 p0 p1 p2 p3 p4 p5 p6 p7,args= #[v0,v1,v2,v3,v4,v5,v6,v7]/\ds=[d0,d1,d2,d3,d4,d5,d6,d7]/\ps=p0++(p1++(p2++(p3++(p4++(p5++(p6++p7))))))/\DataW.Trod enc P w base spare held t0 v0 d0 p0/\DataW.Trod enc P w base spare held t1 v1 d1 p1/\DataW.Trod enc P w base spare held t2 v2 d2 p2/\DataW.Trod enc P w base spare held t3 v3 d3 p3/\
   DataW.Trod enc P w base spare held t4 v4 d4 p4/\DataW.Trod enc P w base spare held t5 v5 d5 p5/\DataW.Trod enc P w base spare held t6 v6 d6 p6/\DataW.Trod enc P w base spare held t7 v7 d7 p7:=by
 obtain⟨v0,r0,d0,e0,p0,q0,hargs,rfl,rfl,h0,hr⟩:=trodAll_cons h;obtain⟨v1,r1,d1,e1,p1,q1,rfl,rfl,rfl,h1,hr⟩:=trodAll_cons hr;obtain⟨v2,r2,d2,e2,p2,q2,rfl,rfl,rfl,h2,hr⟩:=trodAll_cons hr;obtain⟨v3,r3,d3,e3,p3,q3,rfl,rfl,rfl,h3,hr⟩:=trodAll_cons hr;obtain⟨v4,r4,d4,e4,p4,q4,rfl,rfl,rfl,h4,hr⟩:=trodAll_cons hr;obtain⟨v5,r5,d5,e5,p5,q5,rfl,rfl,rfl,h5,hr⟩:=trodAll_cons hr;obtain⟨v6,r6,d6,e6,p6,q6,rfl,rfl,rfl,h6,hr⟩:=trodAll_cons hr;obtain⟨v7,r7,d7,e7,p7,q7,rfl,rfl,rfl,h7,hr⟩:=trodAll_cons hr;obtain⟨rfl,rfl,rfl⟩:=trodAll_nil hr;exact⟨v0,v1,v2,v3,v4,v5,v6,v7,d0,d1,d2,d3,d4,d5,d6,d7,p0,p1,p2,p3,p4,p5,p6,p7,by cases args;simp_all,rfl,by simp,h0,h1,h2,h3,h4,h5,h6,h7⟩
theorem I7 {t0 t1 t2 t3 t4 t5 t6 t7:TypeId}{v0 v1 v2 v3 v4 v5 v6 v7:Value}{d0 d1 d2 d3 d4 d5 d6 d7:DataW H}{p0 p1 p2 p3 p4 p5 p6 p7:List MemPlace}(h0:DataW.Trod enc P w base spare held t0 v0 d0 p0)(h1:DataW.Trod enc P w base spare held t1 v1 d1 p1)(h2:DataW.Trod enc P w base spare held t2 v2 d2 p2)
  (h3:DataW.Trod enc P w base spare held t3 v3 d3 p3) (h4:DataW.Trod enc P w base spare held t4 v4 d4 p4) (h5:DataW.Trod enc P w base spare held t5 v5 d5 p5) (h6:DataW.Trod enc P w base spare held t6 v6 d6 p6) (h7:DataW.Trod enc P w base spare held t7 v7 d7 p7):
  DataW.TrodAll enc P w base spare held [t0,t1,t2,t3,t4,t5,t6,t7] [v0,v1,v2,v3,v4,v5,v6,v7] [d0,d1,d2,d3,d4,d5,d6,d7] (p0++(p1++(p2++(p3++(p4++(p5++(p6++p7))))))):=
 trodAll_cons_mk h0 (trodAll_cons_mk h1 (trodAll_cons_mk h2 (trodAll_cons_mk h3 (trodAll_mk4 h4 h5 h6 h7))))
end
set_option maxRecDepth 100000 in
theorem QD (H:Type)(enc:TypeId×Value->H)(W:World)(base:Nat)(args:Array Value)(ds gs:List (DataW H))(before:List MemPlace)
  (hval:∀(j:Nat) t v,Tryz.f5.params[j]?=some t->args[j]?=some v->Value.okWide Tryz.prog W .any base t v)
  (hW:DataW.Whole enc Tryz.prog Tryz.f5.params.toList Rows.ranSpec.vars false W args.toList ds gs before) (hk:Rows.uptoSmall H (ds++gs)=true) (hL:laidMetH Tryz.prog Rows.ranUptoRow.laid W) (Cr:W.ShapedOpen Tryz.prog):
  Calls Tryz.prog 5 args W fun e W'=>∃v,e=.returned v/\Rows.ranSpec.post enc Tryz.prog Tryz.f5 false true false false W args v W':=by
 have hM:=PrjY.Yg (by kernel_rfl) hL;have E:=PrjY.Xa (laid:=Rows.ranUptoRow.laid) hM Cr (by simp[Rows.ranUptoRow]) (by simp[Rows.ranUptoRow]) (by simp[Rows.ranUptoRow]) (by simp[Rows.ranUptoRow]);have hp:=PrjY.Yl (laid:=Rows.ranUptoRow.laid) hM (by simp[Rows.ranUptoRow]);have hW':=hW;obtain⟨p,q,hA0,hV,rfl,hfz,hnd⟩:=hW;have hA:DataW.TrodAll enc Tryz.prog W 0 (fun _=>true) true Tryz.f5.params.toList args.toList ds p:=hA0;rw[Tryz.params5]at hA;have hv0:=fun v (h:args[0]?=some v)=>hval 0 9 v (by rw[Tryz.params5];rfl) h
 have X6:=fun v (h:args[1]?=some v)=>hval 1 42 v (by rw[Tryz.params5];rfl) h
 have YX:=fun v (h:args[2]?=some v)=>hval 2 3 v (by rw[Tryz.params5];rfl) h
 have hv3:=fun v (h:args[3]?=some v)=>hval 3 3 v (by rw[Tryz.params5];rfl) h
 have hv4:=fun v (h:args[4]?=some v)=>hval 4 9 v (by rw[Tryz.params5];rfl) h
 have hv5:=fun v (h:args[5]?=some v)=>hval 5 42 v (by rw[Tryz.params5];rfl) h
 have hv6:=fun v (h:args[6]?=some v)=>hval 6 3 v (by rw[Tryz.params5];rfl) h
 have hv7:=fun v (h:args[7]?=some v)=>hval 7 3 v (by rw[Tryz.params5];rfl) h
 clear hval;obtain⟨v0,v1,v2,v3,v4,v5,v6,v7,d0,d1,d2,d3,d4,d5,d6,d7,p0,p1,p2,p3,p4,p5,p6,p7,rfl,rfl,rfl,h0,h1,h2,h3,h4,h5,h6,h7⟩:=CH hA;obtain⟨rfl,rfl⟩:=trodVars_none hV;obtain⟨s,rfl,rfl,rfl,ms⟩:=open_string Tryz.underlying9 (hv0 v0 rfl) h0;obtain⟨u,rfl,rfl,rfl,mu⟩:=open_string Tryz.underlying9 (hv4 v4 rfl) h4;obtain⟨a1,l1,c1,rfl⟩:=okWide_slice Tryz.underlying42 (X6 v1 rfl);obtain⟨a5,l5,c5,rfl⟩:=okWide_slice Tryz.underlying42 (hv5 v5 rfl);obtain⟨n2,rfl,rfl,rfl,w2⟩:=open_int Tryz.underlying3 (YX v2 rfl) h2;obtain⟨n3,rfl,rfl,rfl,w3⟩:=open_int Tryz.underlying3 (hv3 v3 rfl) h3;obtain⟨n6,rfl,rfl,rfl,w6⟩:=open_int Tryz.underlying3 (hv6 v6 rfl) h6;obtain⟨n7,rfl,rfl,rfl,w7⟩:=open_int Tryz.underlying3 (hv7 v7 rfl) h7;clear hA0;have aK:∀x,x∈p1\/x∈p5->x.block<W.heap.size:=fun x hx=>by simpa using hW'.lt x (by simpa using hx)
 have k1:∀W',Below W.heap.size W W'->DataW.Trod enc Tryz.prog W' 0 (fun b=>decide (b<W.heap.size)) true 42 (.slice a1 l1 c1) d1 p1:=fun W' hn=>Below.trod laidOut (by kernel_rfl) (of_decide_eq_true (by kernel_rfl)) h1 hn (fun x hx=>aK x (.inl hx))
 have k5:∀W',Below W.heap.size W W'->DataW.Trod enc Tryz.prog W' 0 (fun b=>decide (b<W.heap.size)) true 42 (.slice a5 l5 c5) d5 p5:=fun W' hn=>Below.trod laidOut (by kernel_rfl) (of_decide_eq_true (by kernel_rfl)) h5 hn (fun x hx=>aK x (.inr hx))
 obtain⟨f1,pF⟩:=h1;obtain⟨ak,Wf,pG⟩:=PrjY.C6 pF;have av:=PrjY.C5 pF;obtain⟨f5,hf5⟩:=h5;obtain⟨inq,Ru,hinq⟩:=PrjY.C6 hf5;have Dc:=PrjY.C5 hf5;simp only[List.append_nil]at hk;obtain⟨l1',l2',l3',l4'⟩:=short hk;have g1:ak.length<=1048576:=by
  obtain⟨ad,c,e,-⟩:=Wf;simp only[Value.slice.injEq]at e;have av:l1<=Rows.uptoBulk d1:=av;omega
 have g5:inq.length<=1048576:=by
  obtain⟨ad,c,e,-⟩:=Ru;simp only[Value.slice.injEq]at e;have Dc:l5<=Rows.uptoBulk d5:=Dc;omega
 have walk:=Ran.Uf s.data.toList u.data.toList (.slice a1 l1 c1) (.slice a5 l5 c5) ak inq n2 n3 n6 n7 W Wf Ru pG hinq g1 g5 l1' l2' E hp;rw[<-Sm,<-Sm]at walk;refine walk.mono fun e W' ⟨he,hb⟩=> ?_
 subst he;exact⟨_,rfl,_,_,_,[],_,[],hW',trodAll_mk1 (shut_bool Tryz.underlying4 _),I7 (shut_string Tryz.underlying9 ms) (k1 W' hb) (shut_int Tryz.underlying3 w2) (shut_int Tryz.underlying3 w3) (shut_string Tryz.underlying9 mu) (k5 W' hb) (shut_int Tryz.underlying3 w6) (shut_int Tryz.underlying3 w7),rfl,hb.frame _,fun h=>by cases h⟩
theorem reads (os:Os){H:Type}(enc:TypeId×Value->H):∃places,DataW.whole enc Tryz.prog ((PrjZ.xZ os).forCall (fun _ _=>0) ⟨#[],#[.string ⟨#[]⟩,.slice none 0 0,.int .i64 0,.int .i64 0,.string ⟨#[]⟩,.slice none 0 0,.int .i64 0,.int .i64 0],[]⟩).memory Tryz.f5.params.toList Rows.ranSpec.vars false ((#[.string ⟨#[]⟩,.slice none 0 0,.int .i64 0,.int .i64 0,.string ⟨#[]⟩,.slice none 0 0,.int .i64 0,.int .i64 0]:Array Value)).toList 8=some ([.lit (.string []),.nil,.lit (.int .i64 0),.lit (.int .i64 0),.lit (.string []),.nil,.lit (.int .i64 0),.lit (.int .i64 0)],[],places):=
 ⟨[],by kernel_rfl⟩
set_option maxRecDepth 100000 in
theorem Lg (os:Os)(started:os.Started)(H:Type)(enc:TypeId×Value->H)(F:Stop.Interp):
  ReturnsInHanded {} Tryz.checked os 5 .any ((Rows.OpenSpec.upto Rows.ranSpec).preRow enc Tryz.prog Tryz.f5 Rows.ranUptoRow.domain false Rows.ranUptoRow.laid) (((Rows.OpenSpec.upto Rows.ranSpec).at F).post enc Tryz.prog Tryz.f5 false true false false):=by
 obtain⟨places,hx⟩:=reads os enc;refine returnsInHanded_of_row (C:=Tryz.checked) (s:=Rows.OpenSpec.upto Rows.ranSpec) own started (by kernel_rfl) Tryz.func5
  (witness_row_at (enc:=enc) (C:=Tryz.checked) false (PrjZ.xZ os) #[.string ⟨#[]⟩,.slice none 0 0,.int .i64 0,.int .i64 0,.string ⟨#[]⟩,.slice none 0 0,.int .i64 0,.int .i64 0] rfl (by kernel_rfl) (by kernel_rfl) (by kernel_rfl)
   (OpenSpec.preRow_of_cond 8 hx (by kernel_rfl) (fun k hk=>by cases hk;kernel_rfl) (by kernel_rfl) (PrjZ.R6 os _))) ?_
 intro W base args ds gs before hval hW _ GF _ hL Cr _;exact QD H enc W base args ds gs before hval hW (GF _ rfl) hL Cr
theorem Te:Rows.RanUptoSaid:=
 OpenClaim.holds_of_cond 5 Tryz.f5 rfl rfl rfl rfl rfl rfl rfl ⟨rfl,rfl,rfl,rfl,rfl⟩ rfl rfl rfl rfl rfl (by kernel_rfl) Tryz.func5 (by kernel_rfl)
  (of_decide_eq_true (by kernel_rfl)) (by unfold Func.isWrapper;first|(rw[jb (by decide+kernel)];kernel_rfl)|(rw[ja (by decide+kernel)];exact⟨rfl,rfl⟩))
  (fun os started H enc _ F=>by rw[OpenClaim.pre_eq_preRow];exact Lg os started H enc F)
theorem plain (f:FuncId)(fn:Func)(hf:Tryz.pinned.checked.prog.funcNamed "stow/stowlaw.Ran" =some f)(Od:Tryz.pinned.checked.prog.funcs[f]?=some fn):
  true=Tryz.pinned.checked.prog.looks []/\∀(j:Nat) t,fn.params[j]?=some t->Tryz.pinned.checked.prog.wantsStandIn t=false:=by
 obtain rfl:f=5:=Option.some.inj ((show Tryz.prog.funcNamed "stow/stowlaw.Ran" =some 5 by kernel_rfl).symm.trans hf)|>.symm;obtain rfl:fn=Tryz.f5:=(Option.some.inj (Tryz.func5.symm.trans Od)).symm;refine⟨by kernel_rfl,fun j t ht=> ?_⟩;rw[Tryz.params5]at ht;have hm:t=9\/t=42\/t=3:=by
  have h1:t∈[9,42,3,3,9,42,3,3]:=Array.mem_def.mp (Array.mem_of_getElem? ht);simp only[List.mem_cons,List.not_mem_nil,or_false]at h1;rcases h1 with h|h|h|h|h|h|h|h
  ·exact .inl h
  ·exact .inr (.inl h)
  ·exact .inr (.inr h)
  ·exact .inr (.inr h)
  ·exact .inl h
  ·exact .inr (.inl h)
  ·exact .inr (.inr h)
  ·exact .inr (.inr h)
 rcases hm with rfl|rfl|rfl
 ·exact(show Tryz.prog.wantsStandIn 9=false by kernel_rfl)
 ·exact(show Tryz.prog.wantsStandIn 42=false by kernel_rfl)
 ·exact(show Tryz.prog.wantsStandIn 3=false by kernel_rfl)
theorem cardUpto:Rows.RanUptoCardSaid:=
 Claim7.holds_tied_plain_at .later [] _ _ _ _ Te (fun _ h=>by cases h) (by kernel_rfl) (fun _ h=>by cases h) ranUpto_row_tie rfl ⟨rfl,rfl⟩ (by kernel_rfl) rfl plain (by kernel_rfl)
end ranCard
end Go.Proofs.YtmlgajhhnojdjaaGreatDoor

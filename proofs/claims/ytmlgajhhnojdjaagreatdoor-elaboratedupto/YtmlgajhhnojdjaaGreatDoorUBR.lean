/- Proved: the law Elaborated (of every program that Check takes, whatever comes in, whatever room there is: what Elaborate makes of it is a raw program that makes, uses and frees the same boxes at the same time, and is never broken) answers true and leaves what came in as it was. Conditions: what comes in is of bulk at most 2^20; the listed package variables hold what the program's text lays. -/
import Derived.Test.YtmlgajhhnojdjaaGreatDoorUBQ
import Derived.Deep.Slices
import Derived.OpenShut
import Derived.ProofKit
import Derived.Test.YtmlgajhhnojdjaaGreatDoorCards
import Derived.Test.YtmlgajhhnojdjaaGreatDoorTie
import Derived.Deep.DeepWitnessRowRef
namespace Go.Proofs.YtmlgajhhnojdjaaGreatDoor
namespace El
open Go Go.RowKit Sq Aux Go.Proofs.YtmlgajhhnojdjaaGreatDoor.Own RunA RunB Bal Ex PrjG PrjJ PrjK PrjM PrjS PrjX FlwP FlwQ FlwY FlwZ FlwZa MadC MadE
theorem Lt {text v:B}{aO:List Int}{room:Int}{va vb:Value}{ca ka cb kb:Int}(hi:∀x∈aO,bC x)(hE:Hc text v 0 0)(hR:Bw text aO 1000 room va ca ka)(hX:tD v aO 200000 room vb cb kb)(hm:l7 aO 1000 room)(G6:kh aO 200000 room):
  ca=0/\cb=0/\∃(a:Nat×Int×Own.Own) (b:Nat×Int×Br),va=Gl a/\vb=Jg b/\¬b.1=5/\b.2.2.yd.text.length<=6200000/\((a.1=2/\a.2.2.yd.text<+:b.2.2.yd.text)\/(¬a.1=2/\b.1=a.1/\b.2.1=a.2.1/\b.2.2.yd.text=a.2.2.yd.text/\b.2.2.yd.live=a.2.2.yd.live)):=by
 obtain⟨Ip,h|⟨-,-,p,q,E,g1,g2,g3,g4,rfl⟩⟩:=hE
 ·exact absurd rfl h.1
 ·have hT:=Ac g3 g2;have QS:=CH hT;have hex:=Hx hi hX G6;rcases hR with⟨h1,h2,-⟩|⟨-,h1,-⟩|⟨-,rfl,rfl,q1,a,hg,hr,rfl⟩
  ·exact absurd (CV h1 Ip).1 h2
  ·exact absurd hm h1
  ·rcases hX with⟨c',k',-,h2,-⟩|⟨-,h2,-⟩|⟨-,rfl,rfl,q2,b,h2,pM,rfl⟩
   ·rw[QS]at h2;cases h2
   ·exact absurd G6 h2
   ·rw[QS]at h2;simp only[Prod.mk.injEq,Option.some.injEq,and_true]at h2;subst h2;have h3:=hg.read;rw[g2]at h3;simp only[Prod.mk.injEq,Option.some.injEq,and_true]at h3;subst h3;have Tm:∀j,yt ((x4 (ki q E).locals.length (ki q E).blocks).getD j []) ((ki q E).blocks.getD j []):=fun j=>Cp _ _ j
    have Ba:da (ki q E) room 200000 ((ki q E).blocks.getD 0 []) (Br.start aO)=some b:=by
     have:=Ag (ls:=(ki q E).locals) Tm room 200000 _ _ (Br.start aO) (Tm 0);exact this.symm.trans pM
    obtain⟨k1,k2⟩:=Oj g3 g2 g4 aO room 200000 Ba;have k3:=k2 1000 a hr (by decide);have hlen:b.2.2.yd.text.length<=6200000:=by
     rcases hex.2 with⟨h,-⟩|⟨-,o,x,t,l,L,hv,-,ht,-⟩
     ·exact absurd rfl h
     ·simp only[Jg,Value.agg.injEq,Array.mk.injEq,List.cons.injEq,Value.int.injEq,Value.string.injEq,true_and,and_true]at hv;have:b.2.2.yd.text=t:=by have:=congrArg ByteArray.toList hv.2.2.1;rwa [bP,bP]at this
      rw[this];exact ht
    refine⟨rfl,rfl,a,b,rfl,rfl,k1,hlen,?_⟩;by_cases h2:a.1=2
    ·refine .inl ⟨h2,?_⟩;rcases k3 with⟨-,k4⟩|⟨-,-,k4⟩
     ·exact Qt k4
     ·rw[k4];exact List.prefix_refl _
    ·rcases k3 with⟨k4,-⟩|⟨k4,k5,k6⟩
     ·exact absurd k4 h2
     ·exact .inr ⟨h2,k4,k5,by rw[k6],by rw[k6]⟩
set_option maxRecDepth 20000 in
set_option maxHeartbeats 4000000 in
theorem yq (text:B)(vi:Value)(aO:List Int)(room:Int)(w:World)(h3:bC room)(hf:cy w vi aO)(lv:∀n∈aO,bC n)(h:text.length<=1048576)(E:Env w)(hS:oc w)(hp:Pow w):
  Calls Tryz.prog 12 #[.string (bs text),vi,.int .i64 room] w fun e w'=>e=.returned (.bool true)/\Below w.heap.size w w':=by
 have KA:=Lf w E hp;have KK:∀w',Calls Tryz.prog 16 #[.int .i64 room,.int .i64 51] w' fun e w''=>e=.returned (.int .i64 (s5 room 51:Nat))/\w''=w':=fun w'=>P9 room 51 w' h3 (by decide)
 have hk:=P8 room (n:=51) (by decide);generalize s5 room 51=k at*;have NM:∀x∈aO.take 100,bC x:=fun x hx=>lv x (List.mem_of_mem_take hx)
 have OU:(aO.take 100).length<=100:=by rw[List.length_take];omega
 have HM1:Hid (l7 (aO.take 100) 1000 (k:Int)):=⟨OU,by omega,by omega,by omega,by omega⟩;have JJ:Hid (kh (aO.take 100) 200000 (k:Int)):=⟨OU,by omega,by omega,by omega,by omega⟩;have KC:∀w',Below w.heap.size w w'->Calls Tryz.prog 21 #[.string (bs text)] w' _:=fun w' hb=>Bt text w' h (E.on hb)
 have KE:∀w',Below w.heap.size w w'->Calls Tryz.prog 32 #[.string (bs text)] w' _:=fun w' hb=>AQ text w' h (E.on hb) (hS.below hb E.size) (hp.below hb E.size)
 have KS:∀w',Below w.heap.size w w'->Calls Tryz.prog 26 #[vi] w' _:=fun w' hb=>Qk w' vi aO (iL hf hb (jC _))
 have KR:∀w' v,Below w.heap.size w w'->cy w' v (aO.take 100)->Calls Tryz.prog 23 #[.string (bs text),v,.int .i64 1000,.int .i64 (k:Int)] w' _:=fun w' v hb hv=>Lc text v (aO.take 100) 1000 k w' hv NM h (E.on hb) (hp.below hb E.size)
 have KL:∀(t:B) w',t.length<=1048576->Below w.heap.size w w'->Calls Tryz.prog 30 #[.string (bs t)] w' fun e w''=>e=.returned (.tuple #[.int .i64 ((az t true).2.1:Nat),.int .i64 ((az t true).2.2:Nat)])/\Below w'.heap.size w' w'':=fun t w' ht hb=>by
  have:=N4 t w' ht (E.on hb);rw[<-(mO t true).1]at this;exact this
 have KX:∀(t:B) w' v,t.length<=1048576->Below w.heap.size w w'->cy w' v (aO.take 100)->Calls Tryz.prog 31 #[.string (bs t),v,.int .i64 200000,.int .i64 (k:Int)] w' fun e w''=>(∃(o x:Int) (tt:B) (l c k':Int),Hid (tD t (aO.take 100) 200000 k (.agg #[.int .i64 o,.int .i64 x,.string (bs tt),.int .i64 l]) c k')/\e=.returned (.tuple #[.agg #[.int .i64 o,.int .i64 x,.string (bs tt),.int .i64 l],.int .i64 c,.int .i64 k']))/\Below w'.heap.size w' w'':=fun t w' v ht hb hv=>by
  refine(Lb t v (aO.take 100) 200000 k w' hv NM ht (E.on hb) (hp.below hb E.size)).mono ?_;rintro e w'' ⟨⟨v,c,k',hr,rfl⟩,bH⟩;obtain⟨o,x,tt,l,rfl⟩:=hr.out.form;exact⟨⟨o,x,tt,l,c,k',hr,rfl⟩,bH⟩
 have HI:Hid (∀x∈aO.take 100,bC x):=NM;clear h3 hf lv h E hp NM OU hS;go_enter Tryz.func12,Tryz.ntmps12
 go_upto_region 4 with(first
  |(go_at_call 25;refine KA.mono ?_;rintro e w1 ⟨rfl,aG⟩;clear KA)
  |(go_at_call 21;refine(KC _ aG).mono ?_;rintro e w2 ⟨⟨c,at_,Ip,rfl⟩,kN⟩;have bH:Below w.heap.size w w2:=aG.trans (kN.mono aG.size);clear KC)
  |(go_at_call 32;refine(KE _ bH).mono ?_;rintro e w3 ⟨⟨v,ce,ke,Vz,rfl⟩,sC⟩;have cT:Below w.heap.size w w3:=bH.trans (sC.mono bH.size);clear KE))
 obtain⟨rfl,rfl⟩:=CV Ip.out Vz.out.1;have cc:(c==c)=true:=by simp
 have ck:(at_==at_)=true:=by simp
 clear Ip aG bH kN sC;by_cases hc:c=0
 ·subst hc;obtain⟨rfl,hv⟩:at_=0/\∃p q E,bY text false=(some p,0,0)/\az text false=(some q,0,0)/\oZ text p q E/\aQ (cC q E) q.blocks.length 0=none/\v=mT (ki q E):=by
   obtain⟨-,h|⟨-,h1,h2⟩⟩:=Vz.out
   ·exact absurd rfl h.1
   ·exact⟨h1,h2⟩
  obtain⟨HL,Ym⟩:(az v true).2=(0,0)/\v.length<=1048576:=by
   obtain⟨p,q,E,-,g2,g3,-,rfl⟩:=hv;have hT:=Ac g3 g2;exact⟨by rw[CH hT],by have:=Nt hT;omega⟩
  have Zn:=KL v w3 Ym cT;rw[HL]at Zn;clear hv KL HL;go_upto_region 12 with(first
   |(go_at_call 30;refine Zn.mono ?_;rintro e w4 ⟨rfl,Ry⟩;have A7:Below w.heap.size w w4:=cT.trans (Ry.mono cT.size);clear Zn)
   |(go_at_call 16;refine(KK _).mono ?_;rintro e w2 ⟨rfl,rfl⟩;clear KK)
   |(go_at_call 26;have _:=fM;refine(KS _ fM).mono ?_;rintro e w2 ⟨⟨v5,rfl,hv5⟩,rfl⟩)
   |(go_at_call 26;refine(KS _ A7).mono ?_;rintro e w2 ⟨⟨v3,rfl,hv3⟩,rfl⟩)
   |(go_at_call 31;refine(KX _ _ _ Ym fM hv5).mono ?_;rintro e w6 ⟨⟨ob,xb,tb,lb,cb,kb,hRb,rfl⟩,ot⟩;have hra:=Px (y:=.cells #[.int .i64 ob,.int .i64 xb,.string (bs tb),.int .i64 lb] 47) ot;obtain⟨a0,a1,a2,a3,-⟩:=dz hra;obtain⟨X2,hlt6⟩:=Pv ot;obtain⟨q0,q1,q2,q3,-⟩:=dz X2)
   |(go_at_call 23;refine(KR _ _ A7 hv3).mono ?_;rintro e w7 ⟨⟨oa,xa,ta,la,ca,ka,hRa,rfl⟩,Db⟩;have fM:=A7.trans ((Db.alloc Db.size (.cells #[.int .i64 oa,.int .i64 xa,.string (bs ta),.int .i64 la] 47)).mono A7.size)))
  have HBZ:Hid (Below w.heap.size w (w6.alloc (.cells #[.int .i64 ob,.int .i64 xb,.string (bs tb),.int .i64 lb] 47))):=fM.trans ((ot.alloc ot.size _).mono fM.size);obtain⟨rfl,rfl,a,b,ea,eb,XP,hlen,pJ⟩:=Lt HI.out Vz.out hRa.out hRb.out HM1.out JJ.out;have hrb:(w6.alloc (.cells #[.int .i64 ob,.int .i64 xb,.string (bs tb),.int .i64 lb] 47)).heap[w6.heap.size]?=some (.cells #[.int .i64 ob,.int .i64 xb,.string (bs tb),.int .i64 lb] 47 (0,0)):=jD;obtain⟨r0,r1,r2,r3,-⟩:=dz hrb;clear HM1 JJ hRa hRb fM ot A7 cT Ry Db hv3 hv5 hra X2 KS KR KX Vz HI hrb;simp only[Gl,Jg,Value.agg.injEq,Array.mk.injEq,List.cons.injEq,Value.int.injEq,Value.string.injEq,true_and,and_true]at ea eb;obtain⟨rfl,rfl,eta,rfl⟩:=ea;obtain⟨rfl,rfl,etb,rfl⟩:=eb;obtain rfl:ta=a.2.2.yd.text:=by have:=congrArg ByteArray.toList eta;rwa [bP,bP]at this
  obtain rfl:tb=b.2.2.yd.text:=by have:=congrArg ByteArray.toList etb;rwa [bP,bP]at this
  clear eta etb;obtain⟨n,x,o⟩:=a;obtain⟨n',x',o'⟩:=b;simp only at*;generalize o.yd.text=ta at*;generalize o'.yd.text=tb at*;generalize o.yd.live=la at*;generalize o'.yd.live=lb at*;have b5:(((n':Nat):Int)==5)=false:=by rw[jZ];omega
  rcases pJ with⟨h2,XZ⟩|⟨h2,rfl,rfl,rfl,rfl⟩
  ·have b2:(((n:Nat):Int)==2)=true:=by rw[h2];rfl
   have HT:∀W,Calls Tryz.prog 27 #[.string (bs tb),.string (bs ta)] W fun e w'=>e=.returned (.bool true)/\w'=W:=fun W=>Jr _ _ W XZ (by omega)
   clear h2 XZ hlen XP;go_wp2_with (go_at_call 27;refine(HT _).mono ?_;rintro e w8 ⟨rfl,rfl⟩)
   go_ret
   exact⟨rfl,HBZ.out⟩
  ·have b2:(((n':Nat):Int)==2)=false:=by rw[jZ];omega
   have b1:(((n':Nat):Int)==((n':Nat):Int))=true:=by simp
   clear h2 hlen XP;go_wp2
   go_ret
   exact⟨rfl,HBZ.out⟩
 ·have cb:(c==0)=false:=by rw[jZ];exact hc
  obtain rfl:v=[]:=by
   obtain⟨-,h|⟨h,-⟩⟩:=Vz.out
   ·exact h.2
   ·exact absurd h hc
  have HB:Hid (Below _ _ _):=cT;clear hc Vz cT;go_wp2
  go_ret
  exact⟨rfl,HB.out⟩
end El
namespace PrjY
open Go Go.RowKit Sq PrjF PrjG
section
variable {H:Type} {enc:TypeId×Value->H} {P:Program} {w:World} {base:Nat} {sp:Nat->Bool} {held:Bool} {fuel:Nat} {t:TypeId} {cs:List Value} {p:List MemPlace}
theorem tq {l:B}(ht:P.underlying t=some .string)(h:DataW.trod enc P w base sp held fuel t cs=some (.lit (.string l),p)):cs=[.string (bs l)]:=by
 cases fuel with
 |zero=>simp[DataW.trod]at h
 |succ fuel=>
  match cs with
  |[]=>simp[DataW.trod,ht]at h
  |_::_::_=>simp[DataW.trod,ht]at h
  |[c]=>
   cases c<;>simp[DataW.trod,ht]at h
   obtain⟨-,h,-⟩:=h;rename_i s;rw[<-h];simp[bs]
theorem Ax {n:Nat}{e:TypeId}{ds:List (DataW H)}(ht:P.underlying t=some (.array n e))(h:DataW.trod enc P w base sp held fuel t cs=some (.agg ds,p)):
  ∃fuel',cs.length=P.cellsOf t/\ds.length=n/\∀i d,ds[i]?=some d->∃p',DataW.trod enc P w base sp held fuel' e ((cs.drop (i*P.cellsOf e)).take (P.cellsOf e))=some (d,p'):=by
 cases fuel with
 |zero=>simp[DataW.trod]at h
 |succ fuel=>
  simp only[DataW.trod,ht]at h;split at h
  ·rename_i hl;obtain⟨xs,hm,hx⟩:=Option.map_eq_some_iff.1 h;simp only[Prod.mk.injEq,DataW.agg.injEq]at hx;have D6:xs.length=n:=by simpa using Lib.mapM_length hm
   refine⟨fuel,hl,by rw[<-hx.1];simpa using D6,fun i d hd=> ?_⟩;rw[<-hx.1,jJ,Option.map_eq_some_iff]at hd;obtain⟨y,hy,rfl⟩:=hd;have hi:i<n:=by
    rcases Nat.lt_or_ge i n with hi|hi
    ·exact hi
    ·rw[jG (by omega)]at hy;cases hy
   obtain⟨b,hb,hf⟩:=Lib.mapM_at hm i i (by simp[hi]);rw[hy]at hb;cases hb
   exact⟨y.2,hf⟩
  ·cases h
theorem Qu {f0 f1:Field}{a b:B}(ht:P.underlying t=some (.struct #[f0,f1]))(h0:f0.offset=0)(h1:f1.offset=1)(u0:P.underlying f0.type=some .string)(u1:P.underlying f1.type=some .string)(c0:P.cellsOf f0.type=1)(c1:P.cellsOf f1.type=1)(ct:P.cellsOf t=2)
  (h:DataW.trod enc P w base sp held fuel t cs=some (.agg [.lit (.string a),.lit (.string b)],p)):cs=[.string (bs a),.string (bs b)]:=by
 cases fuel with
 |zero=>simp[DataW.trod]at h
 |succ fuel=>
  simp only[DataW.trod,ht]at h;split at h
  ·rename_i hl;rw[ct]at hl;obtain⟨xs,hm,hx⟩:=Option.map_eq_some_iff.1 h;simp only[Prod.mk.injEq,DataW.agg.injEq]at hx;obtain⟨b0,lo,NK⟩:=Lib.mapM_at hm 0 f0 (by simp);obtain⟨b1,aG,J8⟩:=Lib.mapM_at hm 1 f1 (by simp);have e0:=congrArg (·[0]?) hx.1;have e1:=congrArg (·[1]?) hx.1;simp only[List.getElem?_map,lo,aG,Option.map_some,List.getElem?_cons_zero,List.getElem?_cons_succ,Option.some.injEq]at e0 e1;rw[h0,c0]at NK;rw[h1,c1]at J8;have g0:=tq (l:=a) (p:=b0.2) u0 (by rw[NK,<-e0]);have g1:=tq (l:=b) (p:=b1.2) u1 (by rw[J8,<-e1])
   match cs,hl with
   |[x,y],_=>
    simp only[List.drop_zero,List.take_succ_cons,List.take_zero,List.cons.injEq,and_true]at g0;simp only[List.drop_succ_cons,List.drop_zero,List.take_succ_cons,List.take_zero,List.cons.injEq,and_true]at g1;rw[g0,g1]
  ·cases h
end
theorem lG {α:Type}(f:α->List Value)(m:Nat)(hf:∀x,(f x).length=m):∀(l:List α) (cs:List Value),cs.length=l.length*m->(∀i x,l[i]?=some x->(cs.drop (i*m)).take m=f x)->cs=l.flatMap f
 |[],cs,hl,_=>by simpa using hl
 |x::l,cs,hl,h=>by
  have h0:=h 0 x rfl;rw[Nat.zero_mul,List.drop_zero]at h0;have ih:=lG f m hf l (cs.drop m) (by rw[List.length_drop,hl,jY,Nat.add_mul];omega) (fun i y hy=>by
   have:=h (i+1) y (by simpa using hy);rw[List.drop_drop,show m+i*m=(i+1)*m by rw[Nat.add_mul];omega];exact this)
  rw[List.flatMap_cons,<-h0,<-ih,List.take_append_drop]
theorem gd {P:Program}{w:World}{n:String}{g:Nat}{cs:Array Value}(hg:P.globalNamed n=some g)(h:w.var? P n=some cs):(∀j,w.cell? ⟨g,j,none⟩=cs[j]?)/\g<w.heap.size:=by
 unfold World.var? at h;rw[hg]at h;simp only[Option.bind_some]at h;split at h
 ·rename_i cs' t f hh;cases h
  exact⟨fun j=>by simp[World.cell?,hh],by rw[Array.getElem?_eq_some_iff]at hh;exact hh.1⟩
 ·cases h
theorem Gu {H:Type}:(Rows.laid_stow_prog_shapes:DataW H)=.agg (eR.map fun x=> .agg [.lit (.string x.1),.lit (.string x.2)]):=rfl
theorem JE {H:Type}:(Rows.laid_stow_prog_typeWords:DataW H)=.agg (cN.map fun x=> .lit (.string x)):=rfl
theorem Dn {P:Program}{w:World}{g:Nat}{t:TypeId}{zero:Array Value}(h:w.ShapedOpen P)(hg:g<P.globals.size)(h0:((begin P (fun _ _=>0) default).world.heap[g]?).bind Obj.row?=some (zero,t))(hz:zero.size=1)
  (hb:P.buildable t=true) (hc:P.cellTypes P.depth t=some [t]) (hu:P.underlying t=some (.int .i64)):∃m:Int,w.cell? ⟨g,0,none⟩=some (.int .i64 m):=by
 obtain⟨cs,hh,hs,hr⟩:=h.1 g zero t hg h0;obtain⟨ts,hts,-,Rw⟩:=hr hb;rw[hc]at hts;cases hts
 have h1:0<cs.size:=by omega
 obtain⟨u,hu',qU⟩:=Rw 0 cs[0] (by simp[h1]);have:u=t:=by simpa using hu'.symm
 subst this;have aX:w.cell? ⟨g,0,none⟩=some cs[0]:=by simp[World.cell?,hh,h1]
 rw[aX];unfold Cell.ok at qU;rw[hu]at qU;cases hv:cs[0]<;>rw[hv]at qU<;>simp at qU
 rename_i k n;obtain⟨rfl,-⟩:=qU;exact⟨n,rfl⟩
theorem UW {P:Program}{laid:List (String×DataW Unit)}{W:World}(hf:(laid.filter fun x=>x.2.handleName?.isSome)=[])(h:laidMetH P laid W):laidMet P laid W:=by
 unfold laidMetH at h;rw[hf]at h;exact h
theorem jo {P:Program}{w:World}{n:String}{d:DataW Unit}:∀{laid:List (String×DataW Unit)} {ps:List MemPlace},DataW.LaidVars P w laid ps->(n,d)∈laid->∃g t cs fuel p,P.globalNamed n=some g/\(P.globals[g]?).map (·.type)=some t/\w.var? P n=some cs/\DataW.trod (fun _=>()) P w 0 (fun _=>true) false fuel t cs.toList=some (d,p)
 |[],_,_,hm=>by cases hm
 |(n',d')::r,ps,h,hm=>by
  obtain⟨g,t,cs,fuel,p,q,h1,h2,h3,h4,h5,-⟩:=h;rcases jP.1 hm with e|hm
  ·cases e;exact⟨g,t,cs,fuel,p,h1,h2,h3,h4⟩
  ·exact jo h5 hm
theorem xn:Tryz.prog.globalNamed "stow/prog.shapes" =some 0:=by kernel_rfl
theorem zL:Tryz.prog.globalNamed "stow/prog.typeWords" =some 1:=by kernel_rfl
theorem FT:Tryz.prog.globalNamed "strconv.ErrSyntax" =some 9:=by kernel_rfl
theorem zK:Tryz.prog.globalNamed "strconv.ErrRange" =some 10:=by kernel_rfl
theorem GM:(Tryz.prog.globals[0]?).map (·.type)=some 148:=by kernel_rfl
theorem JD:(Tryz.prog.globals[1]?).map (·.type)=some 149:=by kernel_rfl
theorem Qz:(Tryz.prog.globals[9]?).map (·.type)=some 221:=by kernel_rfl
theorem Qx:(Tryz.prog.globals[10]?).map (·.type)=some 221:=by kernel_rfl
theorem CU:Tryz.prog.cellsOf 148=46:=by kernel_rfl
theorem vP:Tryz.prog.cellsOf 147=2:=by kernel_rfl
theorem vR:Tryz.prog.cellsOf 149=4:=by kernel_rfl
theorem j8:Tryz.prog.cellsOf 9=1:=by kernel_rfl
theorem many:Tryz.prog.globals.size=11:=by kernel_rfl
theorem TV {laid:List (String×DataW Unit)}{W:World}(hL:laidMet Tryz.prog laid W)(zg:W.ShapedOpen Tryz.prog)(m1:("stow/prog.shapes",Rows.laid_stow_prog_shapes)∈laid)(m2:("stow/prog.typeWords",Rows.laid_stow_prog_typeWords)∈laid)
  (m3:("strconv.ErrSyntax",Rows.laid_strconv_ErrSyntax)∈laid) (m4:("strconv.ErrRange",Rows.laid_strconv_ErrRange)∈laid):Env W:=by
 obtain⟨ps,hV,-⟩:=hL;refine⟨?_,?_,?_,?_,?_,?_⟩
 ·obtain⟨g,t,cs,fuel,p,h1,h2,h3,h4⟩:=jo hV m1;rw[xn]at h1;cases h1
  rw[GM]at h2;cases h2
  rw[Gu]at h4;obtain⟨fuel',hl,hn,hi⟩:=Ax Tryz.underlying148 h4;rw[CU]at hl;have pJ:cs.toList=fh:=by
   refine lG (fun x:B×B=>[.string (bs x.1),.string (bs x.2)]) 2 (fun _=>rfl) eR cs.toList hl fun i x hx=> ?_
   obtain⟨p',vZ⟩:=hi i (.agg [.lit (.string x.1),.lit (.string x.2)]) (by rw[jJ,hx];rfl);rw[vP]at vZ;exact Qu Tryz.underlying147 rfl rfl Tryz.underlying9 Tryz.underlying9 j8 j8 vP vZ
  obtain⟨hc,-⟩:=gd xn h3;intro j v hv;rw[Nat.zero_add,hc,<-Array.getElem?_toList,pJ];exact hv
 ·obtain⟨g,t,cs,fuel,p,h1,h2,h3,h4⟩:=jo hV m2;rw[zL]at h1;cases h1
  rw[JD]at h2;cases h2
  rw[JE]at h4;obtain⟨fuel',hl,hn,hi⟩:=Ax Tryz.underlying149 h4;rw[vR]at hl;have pJ:cs.toList=cN.flatMap (fun x:B=>[.string (bs x)]):=by
   refine lG (fun x:B=>[.string (bs x)]) 1 (fun _=>rfl) cN cs.toList hl fun i x hx=> ?_
   obtain⟨p',vZ⟩:=hi i (.lit (.string x)) (by rw[jJ,hx];rfl);rw[j8]at vZ;exact tq Tryz.underlying9 vZ
  obtain⟨hc,-⟩:=gd zL h3;intro j v hv;rw[Nat.zero_add,hc,<-Array.getElem?_toList,pJ];exact hv
 ·exact Dn zg (by rw[many];decide) (g:=3) (t:=3) (zero:= #[.int .i64 0]) (by kernel_rfl) rfl (by kernel_rfl) (by kernel_rfl) Tryz.underlying3
 ·obtain⟨g,t,cs,fuel,p,h1,h2,h3,h4⟩:=jo hV m3;rw[FT]at h1;cases h1
  rw[Qz]at h2;cases h2
  obtain⟨fuel',u,v,pJ,-⟩:=iface_of_trod Tryz.underlying221 h4;obtain⟨hc,-⟩:=gd FT h3;exact⟨u,v,by rw[hc,<-Array.getElem?_toList,pJ];rfl⟩
 ·obtain⟨g,t,cs,fuel,p,h1,h2,h3,h4⟩:=jo hV m4;rw[zK]at h1;cases h1
  rw[Qx]at h2;cases h2
  obtain⟨fuel',u,v,pJ,-⟩:=iface_of_trod Tryz.underlying221 h4;obtain⟨hc,-⟩:=gd zK h3;exact⟨u,v,by rw[hc,<-Array.getElem?_toList,pJ];rfl⟩
 ·obtain⟨g,t,cs,fuel,p,h1,h2,h3,h4⟩:=jo hV m4;have:=(gd zK h3).2;omega
end PrjY
namespace PrjY
open Go Go.RowKit Sq Go.Proofs.YtmlgajhhnojdjaaGreatDoor.Own
theorem Qw:(Tryz.prog.globals[4]?).map (·.type)=some 299:=by kernel_rfl
theorem Qb {H:Type}:(Rows.laid_internal_strconv_uint64pow10:DataW H)=Lib.tabData .u64 Lib.pow10Tab:=rfl
theorem Ln:Tryz.prog.cellsOf 281=1:=by kernel_rfl
theorem Lm:Tryz.prog.cellsOf 299=20:=by kernel_rfl
theorem Lk:Tryz.prog.cellsOf 2=1:=by kernel_rfl
theorem UZ {laid:List (String×DataW Unit)}{W:World}(hL:laidMet Tryz.prog laid W)(m:("internal/strconv.uint64pow10",Rows.laid_internal_strconv_uint64pow10)∈laid):Own.Pow W:=by
 obtain⟨ps,hV,-⟩:=hL;obtain⟨g,t,cs,fuel,p,h1,h2,h3,h4⟩:=jo hV m;rw[Qa]at h1;cases h1
 rw[Qw]at h2;cases h2
 rw[Qb]at h4;have:=Lib.cells_of_tab Tryz.underlying299 Tryz.underlying281 Ln Lm h4;unfold Own.Pow Lib.TabIs;rw[h3,<-this]
theorem lt_of_cell {W:World}{g o:Nat}{v:Value}(h:W.cell? ⟨g,o,none⟩=some v):g<W.heap.size:=by
 by_cases hg:g<W.heap.size
 ·exact hg
 ·rw[World.cell?]at h;simp only[Array.getElem?_eq_none (Nat.le_of_not_lt hg)]at h;cases h
theorem Fm {n:Int}(h:(Lit.int .i64 n).wf=true):bC n:=by
 have e1:IntKind.i64.min= -9223372036854775808:=rfl;have e2:IntKind.i64.max=9223372036854775807:=rfl;unfold bC;simpa [Lit.wf,e1,e2]using h
theorem Ly {H:Type}{enc:TypeId×Value->H}{W:World}{a0:Option Addr}{len cap fuel:Nat}{x:DataW H×List MemPlace}(h:DataW.trod enc Tryz.prog W 0 (fun _=>true) true fuel 42 [.slice a0 len cap]=some x):∃aO,cy W (.slice a0 len cap) aO/\∀n∈aO,bC n:=by
 rcases Go.ChangeShapes.open_ints Tryz.underlying42 Tryz.underlying2 Lk h with⟨h0,-⟩|⟨a,len',cap',zs,h0,-,hl,hm,hzl,-,hx,hwf⟩
 ·simp only[List.cons.injEq,Value.slice.injEq,and_true]at h0;obtain⟨rfl,rfl,rfl⟩:=h0;exact⟨[],⟨none,0,rfl,jC _,jQ _,fun j hj=>absurd hj (Nat.not_lt_zero _)⟩,fun n hn=>by cases hn⟩
 ·simp only[List.cons.injEq,Value.slice.injEq,and_true]at h0;obtain⟨rfl,rfl,rfl⟩:=h0;simp only[if_true]at hzl;have Y3:(zs.take len).length=len:=by rw[List.length_take];omega
  refine⟨zs.take len,⟨some a,cap,by rw[Y3],by rw[Y3];exact hl,hm,fun j hj=> ?_⟩,fun n hn=>Fm (hwf n (List.mem_of_mem_take hn))⟩;rw[Y3]at hj;obtain⟨b,off,spot⟩:=a;have hc:=hx j (by omega);have Yc:spot=none:=by simpa [Addr.add]using World.cell?_spot (hx 0 (by omega))
  subst Yc;have pb:W.cell? ⟨b,off+j,none⟩=some (.int .i64 (zs.getD j 0)):=by
   by_cases e:j=0
   ·subst e;simpa [Addr.add]using hc
   ·simpa [Addr.add,e]using hc
  refine⟨b,off,rfl,lt_of_cell pb,?_⟩;rw[pb,jA,jA,List.getElem?_take_of_lt hj]
end PrjY
namespace PrjZ
open Go Go.RowKit Sq
def sw {H:Type}:Nat->DataW H->List Value
 |0,_=>[]
 |_+1,.lit (.int k n)=>[.int k n]
 |_+1,.lit (.string l)=>[.string (bs l)]
 |n+1,.agg ds=>ds.flatMap (sw n)
 |_+1,_=>[]
def put (g:Nat)(cs:List Value)(h:Array Obj):Array Obj:=h.modify g fun
 | .cells _ t frozen=> .cells cs.toArray t frozen
 |o=>o
noncomputable def low:Nat:=(World.holding Tryz.prog default ⟨#[],#[],[]⟩).heap.size
noncomputable def vd (os:Os):World:=
 let w0:=World.holding Tryz.prog os ⟨#[.cells #[.string (bs [118,97,108,117,101,32,111,117,116,32,111,102,32,114,97,110,103,101])] 327,.cells #[.string (bs [105,110,118,97,108,105,100,32,115,121,110,116,97,120])] 327],#[],[]⟩
 {w0 with heap:=put 0 (sw 8 (Rows.laid_stow_prog_shapes (H:=Unit))) (put 1 (sw 8 (Rows.laid_stow_prog_typeWords (H:=Unit))) (put 2 (sw 8 (Rows.laid_stow_prog_suffixes (H:=Unit)))
   (put 4 (sw 8 (Rows.laid_internal_strconv_uint64pow10 (H:=Unit))) (put 5 (sw 8 Rows.laid_unicode_utf8_first) (put 6 (sw 8 (Rows.laid_unicode_utf8_acceptRanges (H:=Unit)))
   (put 7 (sw 8 (Rows.laid_math_bits_deBruijn32tab (H:=Unit))) (put 8 (sw 8 (Rows.laid_math_bits_deBruijn64tab (H:=Unit)))
   (put 10 [.iface 325 (.pointer (some ⟨low,0,none⟩))] (put 9 [.iface 325 (.pointer (some ⟨low+1,0,none⟩))] w0.heap)))))))))}
end PrjZ
namespace PrjY
open Go Go.RowKit Sq PrjF PrjG El
theorem FR:Tryz.prog.globalNamed "stow/prog.suffixes" =some 2:=by kernel_rfl
theorem Qy:(Tryz.prog.globals[2]?).map (·.type)=some 149:=by kernel_rfl
theorem Qo {H:Type}:(Rows.laid_stow_prog_suffixes:DataW H)=.agg ([iW 0,iW 1,iW 2,iW 3].map fun x=> .lit (.string x)):=rfl
theorem U6 {laid:List (String×DataW Unit)}{W:World}(hL:laidMet Tryz.prog laid W)(m:("stow/prog.suffixes",Rows.laid_stow_prog_suffixes)∈laid):oc W:=by
 obtain⟨ps,hV,-⟩:=hL;obtain⟨g,t,cs,fuel,p,h1,h2,h3,h4⟩:=jo hV m;rw[FR]at h1;cases h1
 rw[Qy]at h2;cases h2
 rw[Qo]at h4;obtain⟨fuel',hl,hn,hi⟩:=Ax Tryz.underlying149 h4;rw[vR]at hl;have pJ:cs.toList=[iW 0,iW 1,iW 2,iW 3].flatMap (fun x:B=>[.string (bs x)]):=by
  refine lG (fun x:B=>[.string (bs x)]) 1 (fun _=>rfl) [iW 0,iW 1,iW 2,iW 3] cs.toList hl fun i x hx=> ?_
  obtain⟨p',vZ⟩:=hi i (.lit (.string x)) (by rw[jJ,hx];rfl);rw[j8]at vZ;exact tq Tryz.underlying9 vZ
 obtain⟨hc,-⟩:=gd FR h3;intro j v hv;rw[Nat.zero_add,hc,<-Array.getElem?_toList,pJ];exact hv
theorem Pw (os:Os)(args:Array Value):laidMet Tryz.prog Rows.plainUptoRow.laid ((PrjZ.vd os).forCall (fun _ _=>0) ⟨#[],args,[]⟩).memory:=
 laidMet_of_run' 8 (by kernel_rfl) (by kernel_rfl)
end PrjY
namespace elaboratedCard
open Go.ChangeShapes Go.WideShapes Go.ChangeAt Go.RowKit
open Go.ChangeMaps (open_string shut_string)
theorem own:ownKnob Tryz.prog.godebug=none:=by kernel_rfl
theorem laidOut:laidOutB Tryz.prog=true:=by kernel_rfl
theorem UT (s:ByteArray):s=Sq.bs s.data.toList:=by simp[Sq.bs]
theorem short {H:Type}{s:ByteArray}{r:List (DataW H)}(hk:Rows.uptoSmall H (.lit (.string s.data.toList)::r)=true):s.data.toList.length<=1048576:=by
 have h:Rows.uptoBulkAll (DataW.lit (H:=H) (.string s.data.toList)::r)<=1048576:=of_decide_eq_true hk;simp only[Rows.uptoBulkAll,Rows.uptoBulk]at h;omega
set_option maxRecDepth 100000 in
theorem Od (H:Type)(enc:TypeId×Value->H)(W:World)(base:Nat)(args:Array Value)(ds gs:List (DataW H))(before:List MemPlace)
  (Bc:∀(j:Nat) t v,Tryz.f12.params[j]?=some t->args[j]?=some v->Value.okWide Tryz.prog W .any base t v)
  (hW:DataW.Whole enc Tryz.prog Tryz.f12.params.toList Rows.elaboratedSpec.vars false W args.toList ds gs before) (hk:Rows.uptoSmall H (ds++gs)=true) (hL:laidMetH Tryz.prog Rows.elaboratedUptoRow.laid W) (zg:W.ShapedOpen Tryz.prog):
  Calls Tryz.prog 12 args W fun e W'=>∃v,e=.returned v/\Rows.elaboratedSpec.post enc Tryz.prog Tryz.f12 false true false false W args v W':=by
 have hM:=PrjY.UW (by kernel_rfl) hL;have E:=PrjY.TV (laid:=Rows.elaboratedUptoRow.laid) hM zg (by simp[Rows.elaboratedUptoRow]) (by simp[Rows.elaboratedUptoRow]) (by simp[Rows.elaboratedUptoRow]) (by simp[Rows.elaboratedUptoRow]);have hp:=PrjY.UZ (laid:=Rows.elaboratedUptoRow.laid) hM (by simp[Rows.elaboratedUptoRow]);have hS:=PrjY.U6 (laid:=Rows.elaboratedUptoRow.laid) hM (by simp[Rows.elaboratedUptoRow]);have hW':=hW;obtain⟨p,q,hA0,hV,rfl,hfz,AK⟩:=hW;have hA:DataW.TrodAll enc Tryz.prog W 0 (fun _=>true) true Tryz.f12.params.toList args.toList ds p:=hA0;rw[Tryz.params12]at hA;have hv0:=fun v (h:args[0]?=some v)=>Bc 0 9 v (by rw[Tryz.params12];rfl) h
 have NS:=fun v (h:args[1]?=some v)=>Bc 1 42 v (by rw[Tryz.params12];rfl) h
 have hv2:=fun v (h:args[2]?=some v)=>Bc 2 3 v (by rw[Tryz.params12];rfl) h
 clear Bc;obtain⟨v0,v1,v2,d0,d1,d2,p0,p1,p2,rfl,rfl,rfl,h0,h1,h2⟩:=trodAll_three hA;obtain⟨rfl,rfl⟩:=trodVars_none hV;obtain⟨s,rfl,rfl,rfl,ms⟩:=open_string Tryz.underlying9 (hv0 v0 rfl) h0;obtain⟨a1,l1,c1,rfl⟩:=okWide_slice Tryz.underlying42 (NS v1 rfl);obtain⟨n2,rfl,rfl,rfl,w2⟩:=open_int Tryz.underlying3 (hv2 v2 rfl) h2;clear hA0;have bg:∀x∈[]++p1++[],x.block<W.heap.size:=fun x hx=>by simpa using hW'.lt x (by simpa using hx)
 have k1:∀W',Below W.heap.size W W'->DataW.Trod enc Tryz.prog W' 0 (fun b=>decide (b<W.heap.size)) true 42 (.slice a1 l1 c1) d1 p1:=fun W' hn=>Below.trod laidOut (by kernel_rfl) (of_decide_eq_true (by kernel_rfl)) h1 hn (fun x hx=>bg x (by simp[hx]))
 obtain⟨f1,J8⟩:=h1;obtain⟨aO,Xt,lv⟩:=PrjY.Ly J8;simp only[List.append_nil]at hk;have l1':=short hk;have walk:=El.yq s.data.toList (.slice a1 l1 c1) aO n2 W (PrjY.Fm w2) Xt lv l1' E hS hp;rw[<-UT]at walk;refine walk.mono fun e W' ⟨he,hb⟩=> ?_
 subst he;exact⟨_,rfl,_,_,_,[],_,[],hW',trodAll_mk1 (shut_bool Tryz.underlying4 _),trodAll_mk3 (shut_string Tryz.underlying9 ms) (k1 W' hb) (shut_int Tryz.underlying3 w2),rfl,hb.frame _,fun h=>by cases h⟩
theorem reads (os:Os){H:Type}(enc:TypeId×Value->H):∃places,DataW.whole enc Tryz.prog ((PrjZ.vd os).forCall (fun _ _=>0) ⟨#[],#[.string ⟨#[]⟩,.slice none 0 0,.int .i64 0],[]⟩).memory Tryz.f12.params.toList Rows.elaboratedSpec.vars false ((#[.string ⟨#[]⟩,.slice none 0 0,.int .i64 0]:Array Value)).toList 8=some ([.lit (.string []),.nil,.lit (.int .i64 0)],[],places):=
 ⟨[],by kernel_rfl⟩
set_option maxRecDepth 100000 in
theorem IU (os:Os)(started:os.Started)(H:Type)(enc:TypeId×Value->H)(F:Stop.Interp):
  ReturnsInHanded {} Tryz.checked os 12 .any ((Rows.OpenSpec.upto Rows.elaboratedSpec).preRow enc Tryz.prog Tryz.f12 Rows.elaboratedUptoRow.domain false Rows.elaboratedUptoRow.laid) (((Rows.OpenSpec.upto Rows.elaboratedSpec).at F).post enc Tryz.prog Tryz.f12 false true false false):=by
 obtain⟨places,hx⟩:=reads os enc;refine returnsInHanded_of_row (C:=Tryz.checked) (s:=Rows.OpenSpec.upto Rows.elaboratedSpec) own started (by kernel_rfl) Tryz.func12
  (witness_row_at (enc:=enc) (C:=Tryz.checked) false (PrjZ.vd os) #[.string ⟨#[]⟩,.slice none 0 0,.int .i64 0] rfl (by kernel_rfl) (by kernel_rfl) (by kernel_rfl)
   (OpenSpec.preRow_of_cond 8 hx (by kernel_rfl) (fun k hk=>by cases hk;kernel_rfl) (by kernel_rfl) (PrjY.Pw os _))) ?_
 intro W base args ds gs before Bc hW _ zc _ hL zg _;exact Od H enc W base args ds gs before Bc hW (zc _ rfl) hL zg
theorem Qf:Rows.ElaboratedUptoSaid:=
 OpenClaim.holds_of_cond 12 Tryz.f12 rfl rfl rfl rfl rfl rfl rfl ⟨rfl,rfl,rfl,rfl,rfl⟩ rfl rfl rfl rfl rfl (by kernel_rfl) Tryz.func12 (by kernel_rfl)
  (of_decide_eq_true (by kernel_rfl)) (by unfold Func.isWrapper;first|(rw[jb (by decide+kernel)];kernel_rfl)|(rw[ja (by decide+kernel)];exact⟨rfl,rfl⟩))
  (fun os started H enc _ F=>by rw[OpenClaim.pre_eq_preRow];exact IU os started H enc F)
theorem plain (f:FuncId)(fn:Func)(hf:Tryz.pinned.checked.prog.funcNamed "stow/stowkeep.Elaborated" =some f)(Tg:Tryz.pinned.checked.prog.funcs[f]?=some fn):
  true=Tryz.pinned.checked.prog.looks []/\∀(j:Nat) t,fn.params[j]?=some t->Tryz.pinned.checked.prog.wantsStandIn t=false:=by
 obtain rfl:f=12:=Option.some.inj ((show Tryz.prog.funcNamed "stow/stowkeep.Elaborated" =some 12 by kernel_rfl).symm.trans hf)|>.symm;obtain rfl:fn=Tryz.f12:=(Option.some.inj (Tryz.func12.symm.trans Tg)).symm;refine⟨by kernel_rfl,fun j t ht=> ?_⟩;rw[Tryz.params12]at ht;have hm:t=9\/t=42\/t=3:=by
  have h1:t∈[9,42,3]:=Array.mem_def.mp (Array.mem_of_getElem? ht);simp only[List.mem_cons,List.not_mem_nil,or_false]at h1;rcases h1 with h|h|h
  ·exact .inl h
  ·exact .inr (.inl h)
  ·exact .inr (.inr h)
 rcases hm with rfl|rfl|rfl
 ·exact(show Tryz.prog.wantsStandIn 9=false by kernel_rfl)
 ·exact(show Tryz.prog.wantsStandIn 42=false by kernel_rfl)
 ·exact(show Tryz.prog.wantsStandIn 3=false by kernel_rfl)
theorem cardUpto:Rows.ElaboratedUptoCardSaid:=
 Claim7.holds_tied_plain_at .later [] _ _ _ _ Qf (fun _ h=>by cases h) (by kernel_rfl) (fun _ h=>by cases h) elaboratedUpto_row_tie rfl ⟨rfl,rfl⟩ (by kernel_rfl) rfl plain (by kernel_rfl)
end elaboratedCard
end Go.Proofs.YtmlgajhhnojdjaaGreatDoor

import Derived.Test.YtmlgajhhnojdjaaGreatDoorVBR
import Derived.Test.YtmlgajhhnojdjaaGreatDoorVBQ
set_option maxHeartbeats 8000000
namespace Go.Proofs.YtmlgajhhnojdjaaGreatDoor
namespace RunB
open Go Go.RowKit Sq Aux Go.Proofs.YtmlgajhhnojdjaaGreatDoor.Own RunA RefM PrjG PrjJ PrjK PrjM PrjS PrjW FlwA FlwP FlwQ FlwV FlwY FlwZ FlwZa
def Mi (text:B)(cX:List Int)(fuel room:Int)(v:Value)(c k:Int):Prop:=
 (fG text c k/\c≠0/\v=Ek)\/(fG text 0 0/\¬l7 cX fuel room/\v=Ek/\c=6/\k=0)\/
  (l7 cX fuel room/\c=0/\k=0/\∃q dv,Good text q/\dq q room fuel.toNat (q.blocks.getD 0 []) (Own.start cX)=some dv/\v=Gk dv)
set_option maxRecDepth 20000 in
theorem CP (ad:Option Addr)(n c:Nat)(f m r:Int)(w:World):Calls Tryz.prog 43 #[.slice ad n c,.int .i64 f,.int .i64 m,.int .i64 r] w fun e w'=>e=.returned (.bool (decide (n<=100/\0<=f/\f<=m/\0<=r/\r<=50)))/\w'=w:=by
 go_enter Tryz.func43,Tryz.ntmps43
 by_cases h1:n<=100<;>by_cases h2:0<=f<;>by_cases h3:f<=m<;>by_cases h4:0<=r<;>by_cases h5:r<=50
 all_goals
  go_wp2<;>(go_ret;simp[h1,h2,h3,h4,h5])
theorem OB {q:QP}{l:ab}(hl:lC q l):Th q l:=⟨tE hl,fun h=>by
 rcases h with e|e
 ·exact q6 hl e
 ·obtain⟨e0,e1,-⟩:=ra hl e;rw[e0,e1];rfl⟩
theorem IT {text:B}{q:QP}(hg:Good text q){z a:Nat}{w:World}(hG:xY z a w q)(vi:Value)(cX:List Int)(hf:eE w vi cX)(hinp:∀n∈cX,cY n)(fuel room:Int)(hm:l7 cX fuel room)(lB:Pow w)(ly:11<=w.heap.size):
  Calls Tryz.prog 44 #[.pointer (some ⟨a,0,none⟩),vi,.int .i64 fuel,.int .i64 room] w fun e w'=>(∃dv,e=.returned (Gk dv)/\Hid (dq q room fuel.toNat (q.blocks.getD 0 []) (Own.start cX)=some dv))/\Below w.heap.size w w':=by
 obtain⟨-,h0,h1,h2,h3⟩:=hm;obtain⟨f,rfl⟩:∃f:Nat,fuel=f:=⟨fuel.toNat,by omega⟩;obtain⟨r,rfl⟩:∃r:Nat,room=r:=⟨room.toNat,by omega⟩;obtain⟨p,E,hp,hD,hn⟩:=hg.done;have dS:=hD.both.oW;obtain⟨dv,ha,-⟩:=hg.run (EG dS) (Gs q cX) (r:Nat) f;obtain⟨vl,vb,us,vss,hP⟩:=hG.at_;have hS:=oT hg.read;have hq:=hD.both.LZ;refine(J8 hP vi cX hf hinp f r (by omega) (by omega) hD.pos hG.blocks dS hq hG.lines (fun j l hl=>OB ⟨hq.lines _ (eW hl) l hl,hS.has _ l hl,hS.fits _ l hl⟩) lB ly ha).mono ?_;rintro e w' ⟨rfl,hb⟩;exact⟨⟨dv,rfl,ha⟩,hb⟩
theorem qy {w1:World}{R:Nat}{u0 u1 u2 u3:Value}(hR:w1.heap[R]?=some (.cells #[u0,u1,u2,u3] 47 (0,0))):w1.cell? ⟨R,0,none⟩=some u0/\w1.cell? ⟨R,1,none⟩=some u1/\w1.cell? ⟨R,2,none⟩=some u2/\w1.cell? ⟨R,3,none⟩=some u3/\
  w1.frozen? ⟨R,0,none⟩=false/\w1.frozen? ⟨R,1,none⟩=false/\w1.frozen? ⟨R,2,none⟩=false/\w1.frozen? ⟨R,3,none⟩=false:=
 ⟨by rw[cell_of_heap hR];rfl,by rw[cell_of_heap hR];rfl,by rw[cell_of_heap hR];rfl,by rw[cell_of_heap hR];rfl,frozen_of_heap hR 0,frozen_of_heap hR 1,frozen_of_heap hR 2,frozen_of_heap hR 3⟩
theorem sD {w w1:World}{v:Value}{l:List Int}(h:eE w v l){b:Nat}(hb:Below b w w1)(hs:w.heap.size<=b):eE w1 v l:=by
 obtain⟨ad,c,rfl,h1,h2,h3⟩:=h;refine⟨ad,c,rfl,h1,h2,fun j hj=> ?_⟩;obtain⟨g,f,e,hg,hc⟩:=h3 j hj;exact⟨g,f,e,by have:=hb.size;omega,(hb.cell (p:=⟨g,f+j,none⟩) (jK hg hs)).trans hc⟩
theorem gN.B8 {text:B}{w w':World}{e:Ending}(h:gN text w e w'):Below w.heap.size w w'/\∃v c k,e=.returned (.tuple #[v,.int .i64 c,.int .i64 k])/\((¬c=0/\fG text c k)\/(c=0/\k=0/\∃q a z,v=.pointer (some ⟨a,0,none⟩)/\Good text q/\xY z a w' q)):=by
 obtain⟨hb,h|⟨p,q,E,h1,hq,h2,⟨n,h3,rfl⟩|⟨h3,a,z,rfl,-,hG⟩⟩⟩:=h
 ·obtain⟨c,k,h0,h1,rfl⟩:=h;exact⟨hb,_,_,_,rfl,.inl ⟨by omega,.inl ⟨c,k,h0,h1,rfl,rfl⟩⟩⟩
 ·exact⟨hb,_,_,_,rfl,.inl ⟨by decide,.inr ⟨p,q,E,h1,hq,h2,.inl ⟨n,h3,rfl,rfl⟩⟩⟩⟩
 ·exact⟨hb,_,_,_,rfl,.inr ⟨rfl,rfl,q,a,z,rfl,⟨hq,p,E,h1,h2,h3⟩,hG⟩⟩
theorem fS {fn:Func}{p u v:Tmp}{ty:TypeId}(h:fn.results= #[.cell p ty,.tmp u,.tmp v])(tmps:Array Value)(P:Program)(w:World)(b:Nat)(cs:List Value)(d:TypeDesc)(hp:tmps.getD p undef=.pointer (some ⟨b,0,none⟩))
  (hc:w.rangeAt b 0 cs) (hu:P.underlying ty=some d) (hd:d.isRow=true) (hi:(P.info? ty).map (·.size)=some cs.length):(results fn tmps).run P w=.ok (.tuple #[.agg cs.toArray,tmps.getD u undef,tmps.getD v undef]) w:=by
 have:=run_loadVar_mid (P:=P) w b 0 ty cs d hc hu hd hi;rw[Array.getD_eq_getD_getElem?]at hp;unfold results;simp[h,hp,asAddr,this]
set_option maxRecDepth 20000 in
theorem G4 (text:B)(vi:Value)(cX:List Int)(fuel room:Int)(w:World)(hf:eE w vi cX)(hinp:∀n∈cX,cY n)(h:text.length<=1048576)(E:Env w)(hp:Pow w):
  Calls Tryz.prog 23 #[.string (bs text),vi,.int .i64 fuel,.int .i64 room] w fun e w'=>(∃v c k,Hid (Mi text cX fuel room v c k)/\e=.returned (.tuple #[v,.int .i64 c,.int .i64 k]))/\Below w.heap.size w w':=by
 obtain⟨w0,rJ⟩:∃w0,w.alloc (.cells #[.int .i64 0,.int .i64 0,.string ⟨#[]⟩,.int .i64 0] 47)=w0:=⟨_,rfl⟩;have mV:Below w.heap.size w w0:=by rw[<-rJ];exact(Below.refl _ _).alloc (jC _) _
 have GO:w0.heap.size=w.heap.size+1:=by rw[<-rJ];simp
 have Sk:w0.heap[w.heap.size]?=some (.cells #[.int .i64 0,.int .i64 0,.string ⟨#[]⟩,.int .i64 0] 47 (0,0)):=by rw[<-rJ];exact jD
 have K:=kM text w0 h (E.on mV);go_enter Tryz.func23,Tryz.ntmps23
 go_upto_region 1 with fail
 try rw[rJ]
 clear rJ;have hR:∀W,Below w0.heap.size w0 W->W.heap[w.heap.size]?=some (.cells #[.int .i64 0,.int .i64 0,.string ⟨#[]⟩,.int .i64 0] 47 (0,0)):=fun W hW=>by rw[hW.block _ (by omega)];exact Sk
 have HR:Hid (∀W,Below w0.heap.size w0 W->W.heap[w.heap.size]?=some (.cells #[.int .i64 0,.int .i64 0,.string ⟨#[]⟩,.int .i64 0] 47 (0,0))):=hR;clear hR Sk;go_upto_region 2 with(go_at_call 38;refine K.mono ?_;rintro e w1 ⟨aB,MJ⟩;have GW:Hid (Below w0.heap.size w0 w1):=aB;obtain⟨-,v,c,k,rfl,DU⟩:=gN.B8 ⟨aB,MJ⟩;have HP:Hid _:=DU;clear MJ aB DU)
 rcases HP.out with⟨hc,NL⟩|⟨rfl,rfl,q,a,z,rfl,iO,hG⟩
 ·have cb:(c==0)=false:=by rw[jZ];exact hc
  have HC:Hid (¬c=0/\fG text c k):=⟨hc,NL⟩;clear hc NL HP;have mB:=HR.out w1 GW.out;obtain⟨d0,d1,d2,d3,f0,f1,f2,f3⟩:=qy mB;obtain⟨e4,yj⟩:=kP mB (.int .i64 0) (.int .i64 0) (.string ⟨#[]⟩) (.int .i64 0);go_wp2
  refine bodyPost_ret (fS Tryz.results23 _ _ _ w.heap.size [.int .i64 0,.int .i64 0,.string ⟨#[]⟩,.int .i64 0] _ rfl (fun j u hu=>by rw[Nat.zero_add,cell_of_heap e4];simpa using hu) Tryz.underlying47 rfl dy) rfl ?_;refine⟨⟨_,_,_,.inl ⟨HC.out.2,HC.out.1,rfl⟩,rfl⟩,(mV.trans (GW.out.mono (by omega))).trans yj⟩
 ·clear HP;have lB:=hp.below mV E.size;have N4:=lB.below GW.out (by have:=E.size;omega);have ly:11<=w1.heap.size:=by have:=E.size;have:=GW.out.size;omega
  have Pr:eE w1 vi cX:=sD (sD hf mV (jC _)) GW.out (jC _);obtain⟨ad,cap,rfl,-⟩:=id hf;have KM:=fun W=>CP ad cX.length cap fuel 1000 room W
  have S6:Hid (Good text q):=iO;clear iO;by_cases hm:l7 cX fuel room
  ·have hd:decide (cX.length<=100/\0<=fuel/\fuel<=1000/\0<=room/\room<=50)=true:=decide_eq_true hm;simp only[hd]at KM;have KR:=IT S6.out hG (.slice ad cX.length cap) cX Pr hinp fuel room hm N4 ly;have HM:Hid (l7 cX fuel room):=hm;clear hm hd lB N4 hf Pr hinp hG K;go_wp2_with (first
    |(go_at_call 43;refine(KM _).mono ?_;rintro e w2 ⟨rfl,rfl⟩)
    |(go_at_call 44;refine KR.mono ?_;rintro e w3 ⟨⟨dv,rfl,HA⟩,dR⟩;have xB:=HR.out w3 (GW.out.trans (dR.mono GW.out.size));obtain⟨d0,d1,d2,d3,f0,f1,f2,f3⟩:=qy xB;obtain⟨e4,yj⟩:=kP xB (.int .i64 ((dv.1:Nat):Int)) (.int .i64 dv.2.1) (.string (bs dv.2.2.yd.text)) (.int .i64 dv.2.2.yd.live);simp only[Gk]))
   refine bodyPost_ret (fS Tryz.results23 _ _ _ w.heap.size [.int .i64 ((dv.1:Nat):Int),.int .i64 dv.2.1,.string (bs dv.2.2.yd.text),.int .i64 dv.2.2.yd.live] _ rfl (fun j u hu=>by rw[Nat.zero_add,cell_of_heap e4];simpa using hu) Tryz.underlying47 rfl dy) rfl ?_;refine⟨⟨_,_,_,.inr (.inr ⟨HM.out,rfl,rfl,q,dv,S6.out,HA.out,rfl⟩),rfl⟩,((mV.trans (GW.out.mono (by omega))).trans (dR.mono (by have:=GW.out.size;omega))).trans yj⟩
  ·have hd:decide (cX.length<=100/\0<=fuel/\fuel<=1000/\0<=room/\room<=50)=false:=decide_eq_false hm;simp only[hd]at KM;have HM:Hid (¬l7 cX fuel room):=hm;clear hm hd lB N4 hf Pr hinp hG K;have mB:=HR.out w1 GW.out;obtain⟨d0,d1,d2,d3,f0,f1,f2,f3⟩:=qy mB;obtain⟨e4,yj⟩:=kP mB (.int .i64 0) (.int .i64 0) (.string ⟨#[]⟩) (.int .i64 0);go_wp2_with (go_at_call 43;refine(KM _).mono ?_;rintro e w2 ⟨rfl,rfl⟩)
   refine bodyPost_ret (fS Tryz.results23 _ _ _ w.heap.size [.int .i64 0,.int .i64 0,.string ⟨#[]⟩,.int .i64 0] _ rfl (fun j u hu=>by rw[Nat.zero_add,cell_of_heap e4];simpa using hu) Tryz.underlying47 rfl dy) rfl ?_;refine⟨⟨_,_,_,.inr (.inl ⟨S6.out.Xb,HM.out,rfl,rfl,rfl⟩),rfl⟩,(mV.trans (GW.out.mono (by omega))).trans yj⟩
end RunB
namespace MadM
open Go Sq MadA
structure MM where
 p:Bool
 q:Bool
 a:Bool
 b:Bool
 o:Fin 3
end MadM
namespace MadB
open Go Sq Aux FlwF FlwG FlwH FlwI FlwJ FlwM FlwO FlwP FlwQ FlwS FlwX FlwY MadA MadM
def nx (k:Fin 5):Fin 5:=match k with|0=>1|1=>2|2=>3|3=>0|4=>1
theorem tI (q:QP):∀(ls:List ab) (s:List Nat),(∀l∈ls,l.next=[])->eN q ls s=[]
 |[],_,_=>rfl
 |l::ls,s,h=>by
  rw[eN,h l (jM ..)];exact tI q ls _ fun x hx=>h x (jN _ hx)
theorem FN {q:QP}{E:List (List Nat)}{O:Nat->Bool}{ls:List ab}(hq:q.blocks=[ls])(hn:∀l∈ls,l.next=[])(h:zd q E O):aG (bK q E) q.blocks.length 0=dj q ls aA:=by
 have hl:q.blocks.length=1:=by rw[hq];rfl
 have hb:q.blocks.getD 0 []=ls:=by rw[hq];rfl
 have hU:mq q (fun _=>aA):=⟨fun _ _=>kU,pD _,fun b Hz _ x hx=>by
  have:b=0:=by omega
  subst this;rw[hb,tI q ls _ hn]at hx;cases hx⟩
 have h1:=h.inv.least _ hU 0 (by omega);have h2:=h.inv.start;have hs:=h.inv.ok.at (i:=0) (by rw[h.inv.len];omega);have he:E.getD 0 []=aA:=by
  refine DI hs.len (by decide) fun k hk=> ?_
  have a1:=h1 k hk;have a2:=h2 k hk;unfold p8 at a1 a2;rw[Nat.or_comm,a2]at a1;exact a1
 rw[hl];show(bK q E 0).or none=_
 unfold bK;rw[he,ja tR,hb,Option.or_none]
end MadB
namespace MadC
theorem Qz:True:=trivial
end MadC
namespace MadD
theorem QA:True:=trivial
end MadD
namespace MadE
open Go Go.RowKit Sq Aux PrjJ PrjK FlwI FlwP FlwQ FlwY FlwZ FlwZa MadA MadM MadB MadC MadD
def FM:QP:=⟨[([110],0),([112],1)],[[⟨3,2,[(0,0)],5,0,[]⟩,⟨4,9,[(1,0),(0,0)],0,0,[]⟩,⟨5,10,[(0,0),(1,0)],0,0,[]⟩,⟨6,22,[(0,0)],0,0,[]⟩]]⟩
set_option maxRecDepth 100000 in
theorem A7:ax pK false=(some FM,0,0):=by rfl
theorem DF {c k:Int}(ha:fG pK c k):c=0/\k=0:=by
 have hr:=A7;obtain⟨-,-,p,hp,-⟩:=pQ hr;rcases ha with⟨c',k',-,h1,-⟩|⟨p',q,E,-,h2,hD,h3⟩
 ·rw[hp]at h1;cases h1
 ·rw[hr]at h2;simp only[Prod.mk.injEq,Option.some.injEq,and_true]at h2;subst h2;have h4:=FN (q:=FM) rfl (by decide) hD.inv;have h5:dj FM _ aA=none:=(by decide:dj FM [⟨3,2,[(0,0)],5,0,[]⟩,⟨4,9,[(1,0),(0,0)],0,0,[]⟩,⟨5,10,[(0,0),(1,0)],0,0,[]⟩,⟨6,22,[(0,0)],0,0,[]⟩] aA=none);have h6:=h4.trans h5;rcases h3 with⟨n,h7,-⟩|⟨-,rfl,rfl⟩
  ·rw[h6]at h7;cases h7
  ·exact⟨rfl,rfl⟩
end MadE
namespace RunB
open Go Go.RowKit Sq Aux Go.Proofs.YtmlgajhhnojdjaaGreatDoor.Own RunA PrjG PrjJ PrjK PrjM PrjS FlwZ FlwZa MadE
def CX:Go.Proofs.YtmlgajhhnojdjaaGreatDoor.Own.Own:=⟨⟨[(5,false)],0,[43::Lib.itoa 1,60::Lib.itoa 1,45::Lib.itoa 1]⟩,[],5::List.replicate 11 0,List.replicate 24 0⟩
theorem LP:dq FM 1 9 (FM.blocks.getD 0 []) (Own.start [])=some (1,5,CX):=by rfl
theorem Iz:Lib.itoa 1=[49]:=by simp[Lib.itoa,Lib.decDigits]
def tD:Value:=.agg #[.int .i64 1,.int .i64 5,.string ⟨#[43,49,32,60,49,32,45,49]⟩,.int .i64 0]
theorem LO:Gk (1,5,CX)=tD:=by
 have e:CX.yd.text=[43,49,32,60,49,32,45,49]:=by
  show Lib.join [43::Lib.itoa 1,60::Lib.itoa 1,45::Lib.itoa 1] [32]=_
  rw[Iz];rfl
 unfold Gk tD;simp only[e];rfl
theorem Oq {v:Value}{c k:Int}(h:Mi pK [] 9 1 v c k):v=tD/\c=0/\k=0:=by
 have hm:l7 [] 9 1:=by unfold l7;simp
 rcases h with⟨h1,h2,-⟩|⟨-,h2,-⟩|⟨-,rfl,rfl,q,dv,hg,hr,rfl⟩
 ·exact absurd (DF h1).1 h2
 ·exact absurd hm h2
 ·have e:=hg.read.symm.trans A7;simp only[Prod.mk.injEq,Option.some.injEq,and_true]at e;subst e;have e2:=hr.symm.trans LP;cases e2
  exact⟨LO,rfl,rfl⟩
theorem Hk (w:World):eE w (.slice none 0 0) []:=⟨none,0,rfl,jC _,jQ _,fun _j hj=>absurd hj (Nat.not_lt_zero _)⟩
set_option maxRecDepth 20000 in
theorem Es (w:World)(E:Env w)(hp:Pow w):Calls Tryz.prog 25 #[] w fun e w'=>e=.returned (.bool true)/\Below w.heap.size w w':=by
 have KC:Calls Tryz.prog 21 #[.string ⟨#[108,101,116,32,110,32,105,110,116,10,108,101,116,32,112,32,98,111,120,10,98,108,111,99,107,10,115,101,116,32,110,32,53,10,110,101,119,32,112,32,110,10,108,111,97,100,32,110,32,112,10,101,110,100,32,110]⟩] w _:=(En pK w (by decide) E).mono (R':=fun e w'=>e=.returned (.tuple #[.int .i64 0,.int .i64 0])/\Below w.heap.size w w') fun e w' ⟨⟨c,k,ha,he⟩,hb⟩=>by
  obtain⟨rfl,rfl⟩:=DF ha.out;exact⟨he,hb⟩
 have KR:∀w',Env w'->Pow w'->Calls Tryz.prog 23 #[.string ⟨#[108,101,116,32,110,32,105,110,116,10,108,101,116,32,112,32,98,111,120,10,98,108,111,99,107,10,115,101,116,32,110,32,53,10,110,101,119,32,112,32,110,10,108,111,97,100,32,110,32,112,10,101,110,100,32,110]⟩,.slice none 0 0,.int .i64 9,.int .i64 1] w' _:=fun w' E' rY=>
  (G4 pK (.slice none 0 0) [] 9 1 w' (Hk w') (fun n hn=>by cases hn) (by decide) E' rY).mono (R':=fun e w''=>e=.returned (.tuple #[tD,.int .i64 0,.int .i64 0])/\Below w'.heap.size w' w'') fun e w'' ⟨⟨v,c,k,ha,he⟩,hb⟩=>by
  obtain⟨rfl,rfl,rfl⟩:=Oq ha.out;exact⟨he,hb⟩
 go_enter Tryz.func25,Tryz.ntmps25
 go_wp2_with (first
  |(go_at_call 21;refine KC.mono ?_;rintro e w1 ⟨rfl,aB⟩;have E1:=E.on aB;have yu:=hp.below aB E.size)
  |(go_at_call 23;refine(KR _ E1 yu).mono ?_;rintro e w2 ⟨rfl,bu⟩;simp only[tD]))
 go_ret
 exact⟨rfl,aB.trans ((bu.alloc bu.size _).mono aB.size)⟩
set_option maxRecDepth 20000 in
theorem Db (a b:B)(w:World)(h:a<+:b)(hl:b.length<=1099511627776):Calls Tryz.prog 27 #[.string (bs b),.string (bs a)] w fun e w'=>e=.returned (.bool true)/\w'=w:=by
 have hle:=h.length_le;have e1:(bs b).extract 0 (bs a).size=bs a:=by
  rw[extract_eq,bp,cu,Nat.sub_zero,List.drop_zero,<-List.prefix_iff_eq_take.1 h]
 have gP:(bs a).size<=(bs b).size:=by rw[cu,cu];exact hle
 have UH:(bs b).size<=1099511627776:=by rw[cu];exact hl
 generalize bs a=x at*;generalize bs b=y at*;go_enter Tryz.func27,Tryz.ntmps27
 go_wp2
 go_ret
 exact⟨rfl,rfl⟩
end RunB
namespace El
open Go Go.RowKit Sq Aux Go.Proofs.YtmlgajhhnojdjaaGreatDoor.Own RunA RunB PrjG PrjJ PrjK PrjM PrjS FlwP FlwQ FlwY FlwZ FlwZa
set_option maxRecDepth 20000 in
theorem kV (a b:B)(w:World)(hl:b.length<=1099511627776):Calls Tryz.prog 27 #[.string (bs b),.string (bs a)] w fun e w'=>e=.returned (.bool (a.isPrefixOf b))/\w'=w:=by
 cases h:a.isPrefixOf b with
 |true=>exact Db a b w (List.isPrefixOf_iff_prefix.1 h) hl
 |false=>
  have hn:¬a<+:b:=fun e=>by rw[List.isPrefixOf_iff_prefix.2 e]at h;cases h
  have UH:(bs b).size<=1099511627776:=by rw[cu];exact hl
  by_cases hle:a.length<=b.length
  ·have gP:(bs a).size<=(bs b).size:=by rw[cu,cu];exact hle
   have e1:(((bs b).extract 0 (bs a).size).toList==(bs a).toList)=false:=by
    rw[jZ];intro e;rw[extract_eq,bp,cu,Nat.sub_zero,List.drop_zero,bp,bp]at e;exact hn (List.prefix_iff_eq_take.2 e.symm)
   clear hn h hle;generalize bs a=x at*;generalize bs b=y at*;go_enter Tryz.func27,Tryz.ntmps27
   go_wp2
   go_ret
   exact⟨rfl,rfl⟩
  ·have gP:¬(bs a).size<=(bs b).size:=by rw[cu,cu];exact hle
   clear hn h hle;generalize bs a=x at*;generalize bs b=y at*;go_enter Tryz.func27,Tryz.ntmps27
   go_wp2
   go_ret
   exact⟨rfl,rfl⟩
theorem tX (p:B->Bool){A:List B}{k:Nat}(hk:k<A.length):(A.take (k+1)).countP p=(A.take k).countP p+if p (A.getD k [])=true then 1 else 0:=by
 rw[List.take_add_one,jB hk,List.countP_append,jA,jB hk];show _+List.countP p [A[k]]=_
 rw[List.countP_singleton];rfl
theorem xS {w:World}{z:Nat}{v:Value}{A:List B}(h:w.ownsRow z 9 1 v A.length (cellsOf A))(hp:0<A.length):∃g c,v=.slice (some ⟨g,0,none⟩) A.length c/\A.length<=c/\g<w.heap.size/\∀j,j<A.length->w.cell? ⟨g,j,none⟩=some (.string (bs (A.getD j []))):=by
 obtain⟨g,c,e,h1,h2,h3⟩:=bL h hp;refine⟨g,c,e,h1,h2,fun j hj=> ?_⟩;rw[h3 j (by omega),cellsOf,jJ,jB hj,jA,jB hj];rfl
set_option maxRecDepth 20000 in
theorem Eo (text:B)(w:World)(h:text.length<=1048576)(E:Env w)(hS:ks w)(hp:Pow w):
  Calls Tryz.prog 13 #[.string (bs text)] w fun e w'=>e=.returned (.bool true)/\Below w.heap.size w w':=by
 have KA:=Es w E hp;have KE:∀w',Below w.heap.size w w'->Calls Tryz.prog 32 #[.string (bs text)] w' _:=fun w' hb=>vC text w' h (E.on hb) (hS.below hb E.size) (hp.below hb E.size)
 have KN:∀(t:B) W,t.length<=1048576->Calls Tryz.prog 33 #[.string (bs t)] W _:=fun t W ht=>IM t W (by omega)
 have KL:∀(x:B) W,x.length<=1048576->Calls Tryz.prog 27 #[.string (bs x),.string ⟨#[108,101,116,32]⟩] W fun e w'=>e=.returned (.bool (cS x))/\w'=W:=fun x W hx=>kV [108,101,116,32] x W (by omega)
 have KD:∀(x:B) W,x.length<=1048576->Calls Tryz.prog 27 #[.string (bs x),.string ⟨#[101,110,100,32]⟩] W fun e w'=>e=.returned (.bool (qn x))/\w'=W:=fun x W hx=>kV [101,110,100,32] x W (by omega)
 have KF:∀(x:B) W,x.length<=1048576->Calls Tryz.prog 27 #[.string (bs x),.string ⟨#[102,108,97,103,32]⟩] W fun e w'=>e=.returned (.bool (yA x))/\w'=W:=fun x W hx=>kV [102,108,97,103,32] x W (by omega)
 have KT:∀(x:B) W,x.length<=1048576->Calls Tryz.prog 27 #[.string (bs x),.string ⟨#[116,101,115,116,32]⟩] W fun e w'=>e=.returned (.bool (yC x))/\w'=W:=fun x W hx=>kV [116,101,115,116,32] x W (by omega)
 clear E hp hS;go_enter Tryz.func13,Tryz.ntmps13
 go_upto_region 5 with(first
  |(go_at_call 25;refine KA.mono ?_;rintro e w1 ⟨rfl,aB⟩;clear KA)
  |(go_at_call 32;refine(KE _ aB).mono ?_;rintro e w3 ⟨⟨v,c,k,Su,rfl⟩,Qh⟩;have dR:Below w.heap.size w w3:=aB.trans (Qh.mono aB.size);clear KE))
 clear aB Qh;by_cases hc:c=0
 ·subst hc;obtain⟨HP,MP⟩:Hid (Dx (split 10 text) (split 10 v))/\v.length<=1048576/\(split 10 v).length<=4000/\(split 10 text).length<=1048577:=by
   obtain⟨-,h|⟨-,-,p,q,E,-,g2,g3,-,rfl⟩⟩:=Su.out
   ·exact absurd rfl h.1
   ·have hT:=tM g3 g2;rw[Dh hT];refine⟨I7 g3 g2,by have:=Gy hT;omega,by rw[ix];exact hT.sum,?_⟩;have:(split 10 text).length<=120:=by
     by_cases hl:(split 10 text).length>120
     ·rw[ax,jb (show(split 10 text).length>(if false=true then 4000 else 120)from hl)]at g2;cases g2
     ·omega
    omega
  obtain⟨MP,mO,NA⟩:=MP;have hA:∀x∈split 10 text,x.length<=1048576:=fun x hx=>jS (fP 10 text x hx) h
  have hB:∀x∈split 10 v,x.length<=1048576:=fun x hx=>jS (fP 10 v x hx) MP
  have K1:=KN text w3 h;go_upto_region 9 with(first
   |(go_at_call 33;have _:=JP;refine(KN v _ MP).mono ?_;rintro e w5 ⟨vb,rfl,Wi,gi⟩)
   |(go_at_call 33;refine K1.mono ?_;rintro e w4 ⟨va,rfl,Wh,JP⟩))
  have Qi:Below w.heap.size w w5:=(dR.trans (JP.mono dR.size)).trans (gi.mono (jS dR.size JP.size));have Rt:=al Wh gi;clear KN K1 Wh dR JP gi Su MP h;generalize split 10 text=A at*;generalize split 10 v=D at*;have Ac:=HP.out.more;obtain⟨ga,ca,rfl,Zb,La,Qn⟩:=xS Rt HP.out.pos;obtain⟨gb,cb,rfl,ym,sX,TV⟩:=xS Wi (by omega);have T6:∀j,j<A.length->A.getD j []∈A:=fun j hj=>by rw[jA,jB hj];exact jL hj
  have XW:∀j,j<D.length->D.getD j []∈D:=fun j hj=>by rw[jA,jB hj];exact jL hj
  clear Rt Wi;go_upto_region 12 with fail
  go_loopg [9,10,11] (A.length) (fun g v9 v10 v11 wr=>∃k:Nat,k<=A.length/\g+k=A.length/\v11=.int .i64 k/\v9=.int .i64 ((A.take k).countP cR:Nat)/\v10=.int .i64 ((A.take k).countP cS:Nat)/\Below w5.heap.size w5 wr)
  case atStart=>exact⟨0,jQ _,rfl,rfl,rfl,rfl,Below.refl _ _⟩
  case round=>
   obtain⟨k,hk,yp,rfl,rfl,rfl,pw⟩:=hrel;by_cases aP:k<A.length
   ·have q1:=(pw.cell (p:=⟨ga,k,none⟩) La).trans (Qn k aP);have xC:=hA _ (T6 k aP);have t1:=tX cR aP;have t2:=tX cS aP;have c1:(A.take k).countP cR<=(A.take k).length:=List.countP_le_length;have c2:(A.take k).countP cS<=(A.take k).length:=List.countP_le_length;rw[List.length_take]at c1 c2;have EX:(k:Int)<A.length:=by omega
    generalize (A.take k).countP cR=n1 at*;generalize (A.take k).countP cS=n2 at*;generalize A.getD k []=x at*;have K2:=KL x wr xC;cases hb:cR x<;>cases hl:cS x
    all_goals
     have Hz:(x==[98,108,111,99,107])=_:=hb;rw[hl]at K2;rw[hb]at t1;rw[hl]at t2;simp only[Bool.false_eq_true,if_false,if_true,Nat.add_zero]at t1 t2;go_wp2_with (go_at_call 27;refine K2.mono ?_;rintro e w6 ⟨rfl,rfl⟩)
     go_roundg (A.length-(k+1))
     case measure=>omega
     case rel=>exact⟨k+1,by omega,by omega,by go_num,by first|(rw[t1];done)|(rw[t1];go_num),by first|(rw[t2];done)|(rw[t2];go_num),pw⟩
   ·obtain rfl:k=A.length:=by omega
    rw[List.take_length];have HS:=HP.out.same;have cW:=HP.out.aD;have HF:=HP.out.jt;have rX:A.countP cR<=A.length:=List.countP_le_length;have vq:A.countP cS<=A.length:=List.countP_le_length;obtain⟨m,hm⟩:∃m,A.length=m+1:=⟨A.length-1,by have:=HP.out.pos;omega⟩;have gj:A.length-1=m:=by omega
    rw[gj]at HF;have q3:=Qn m (by omega);have VY:=hA _ (T6 m (by omega));generalize A.countP cR=n1 at*;generalize A.countP cS=n2 at*;have Zo:(n2:Int)<D.length:=by omega
    have Yk:¬(D.length:Int)<=n2:=by omega
    clear HP;go_upto_region 22 with fail
    go_loopg [13] (n2) (fun g v13 wr=>∃k:Nat,k<=n2/\g+k=n2/\v13=.int .i64 k/\Below w5.heap.size w5 wr)
    case atStart=>exact⟨0,jQ _,rfl,rfl,pw⟩
    case round=>
     clear pw;obtain⟨k,hk,yp,rfl,pw⟩:=hrel;by_cases sZ:k<n2
     ·have q1:=(pw.cell (p:=⟨ga,k,none⟩) La).trans (Qn k (by omega));have q2:=(pw.cell (p:=⟨gb,k,none⟩) sX).trans (TV k (by omega));have EX:(k:Int)<A.length:=by omega
      have JW:(k:Int)<D.length:=by omega
      have VW:(k:Int)<n2:=by omega
      rw[<-HS k sZ]at q2;generalize A.getD k []=x at*;have Oe:(x==x)=true:=by simp
      go_upto_region 24 with fail
      go_quiet (fail)
      go_wp2
      go_roundg (n2-(k+1))
      case measure=>omega
      case rel=>exact⟨k+1,by omega,by omega,by go_num,below_drewN pw _⟩
     ·obtain rfl:k=n2:=by omega
      have q2:=(pw.cell (p:=⟨gb,k,none⟩) sX).trans (TV k Ac);rw[cW]at q2;have q4:=(pw.cell (p:=⟨ga,m,none⟩) La).trans q3;have YJ:(A.length:Int)-1=(m:Nat):=by omega
      have SR:(m:Int)<A.length:=by omega
      have K2:=KD (A.getD m []) wr VY;have HL:∀x∈D,x.length<=1048576:=hB;clear HS q3 Qn hA T6 cW VY;generalize A.getD m []=lx at*;generalize zc:qn lx=lb at*;clear zc;go_upto_region 30 with(go_at_call 27;refine K2.mono ?_;rintro e w6 ⟨rfl,rfl⟩)
      clear K2 q2 q4;go_loopg [15] (D.length) (fun g v15 wr=>∃j:Nat,j<=D.length/\g+j=D.length/\v15=.int .i64 j/\Below w5.heap.size w5 wr)
      case atStart=>exact⟨0,jQ _,rfl,rfl,pw⟩
      case round=>
       clear pw;obtain⟨j,hj,SN,rfl,pw⟩:=hrel;have S3:Hid (Below w.heap.size w wr):=Qi.trans (pw.mono Qi.size);by_cases hltj:j<D.length
       ·have Q2:(j:Int)<D.length:=by omega
        have Zj:decide ((j:Int)<D.length)=true:=decide_eq_true Q2;by_cases h1:n1=1
        ·subst h1;cases lb with
         |true=>
          have q1:=(pw.cell (p:=⟨gb,j,none⟩) sX).trans (TV j hltj);have kF:=XW j hltj;obtain⟨f1,f2⟩:=HF rfl rfl _ kF;have K3:=KF _ wr (HL _ kF);have K4:=KT _ wr (HL _ kF);rw[f1]at K3;rw[f2]at K4;clear f1 f2 kF;generalize D.getD j []=x at*;go_wp2_with (first
           |(go_at_call 27;refine K3.mono ?_;rintro e w6 ⟨rfl,rfl⟩;clear K3)
           |(go_at_call 27;refine K4.mono ?_;rintro e w6 ⟨rfl,rfl⟩))
          go_roundg (D.length-(j+1))
          case measure=>omega
          case rel=>exact⟨j+1,by omega,by omega,by go_num,pw⟩
         |false=>
          go_wp2
          go_ret
          exact⟨rfl,S3.out⟩
        ·have Lf:((n1:Int)==1)=false:=by rw[jZ];omega
         go_wp2
         go_ret
         exact⟨rfl,S3.out⟩
       ·have Q2:¬(j:Int)<D.length:=by omega
        go_wp2
        go_ret
        exact⟨rfl,S3.out⟩
 ·have cb:(c==0)=false:=by rw[jZ];exact hc
  obtain rfl:v=[]:=by
   obtain⟨-,h|⟨h,-⟩⟩:=Su.out
   ·exact h.2
   ·exact absurd h hc
  have HB:Hid (Below _ _ _):=dR;clear hc Su dR;go_wp2
  go_ret
  exact⟨rfl,HB.out⟩
end El
end Go.Proofs.YtmlgajhhnojdjaaGreatDoor

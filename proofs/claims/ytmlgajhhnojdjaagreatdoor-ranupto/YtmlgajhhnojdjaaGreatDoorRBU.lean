import Derived.Test.YtmlgajhhnojdjaaGreatDoorRBS
import Derived.Test.YtmlgajhhnojdjaaGreatDoorRBT
namespace Go.Proofs.YtmlgajhhnojdjaaGreatDoor
namespace Mac
open Go Go.RowKit Sq Aux Go.Proofs.YtmlgajhhnojdjaaGreatDoor.Own RefRa RefA Sim PrjK PrjJ PrjL PrjM
def resM (m:RM):Value:=.agg #[.int .i64 ((m.out:Nat):Int),.int .i64 m.value,.string (bs m.trace),.int .i64 m.count]
structure VZ (w0:World)(x:Nat)(f:Fx)(p:RP)(ak:List Int):Prop where
 aR:∀(kp:List (Nat×List Value×Fin 3)) (i gw cw:Nat) (w:World) (m:RM) (t:Nat),p.body i->Row w0 (p.line i) gw->ca w0 x {f with kept:=kp} w m->m.out=0->m.Ok t->t<=1000000->ends (word (p.line i) 0)=false->
  Calls Tryz.prog 94 #[.pointer (some ⟨x,0,none⟩),.slice (some ⟨gw,0,none⟩) (p.line i).length cw] w (fun e w'=>e=.returned (.tuple #[])/\ca w0 x {f with kept:=kp} w' (m.aR f p ak (p.line i)))/\(m.aR f p ak (p.line i)).Ok (t+3)
 next:∀(kp:List (Nat×List Value×Fin 3)) (i gw cw:Nat) (w:World) (m:RM) (t:Nat),p.body i->Row w0 (p.line i) gw->ca w0 x {f with kept:=kp} w m->m.Ok t->ends (word (p.line i) 0)=true->¬word (p.line i) 0=[101,110,100]->
  Calls Tryz.prog 93 #[.pointer (some ⟨x,0,none⟩),.slice (some ⟨gw,0,none⟩) (p.line i).length cw] w (fun e w'=>e=.returned (.int .i64 ((eW p (m.next p (p.line i)).2:Nat):Int))/\ca w0 x {f with kept:=kp} w' (m.next p (p.line i)).1)/\(m.next p (p.line i)).1.Ok t/\oo p (eW p (m.next p (p.line i)).2)
 finish:∀(kp:List (Nat×List Value×Fin 3)) (i gw cw:Nat) (w:World) (m:RM) (t:Nat),p.body i->Row w0 (p.line i) gw->ca w0 x {f with kept:=kp} w m->m.out=0->m.Ok t->t<=1000000->word (p.line i) 0=[101,110,100]->
  Calls Tryz.prog 92 #[.pointer (some ⟨x,0,none⟩),.slice (some ⟨gw,0,none⟩) (p.line i).length cw] w (fun e w'=>e=.returned (.tuple #[])/\ca w0 x {f with kept:=kp} w' (m.finish f p (p.line i)))
section
variable {w0 w:World} {x gw cw:Nat} {f:Fx} {m:RM} {p:RP} {ws:List B} {t:Nat} {ak:List Int} {text:B} {raw:Bool} {vb vt:Value}
theorem O3 (hC:Ctx w0 p f)(hR:aE text false p)(hf:f.owns=true)(Rt:bX w0 f.vi ak)(hn:∀n∈ak,aN n):VZ w0 x f p ak:=
 ⟨fun kp i gw cw w m t hb fZ h h0 hO ht he=>QL (Uo (f:={f with kept:=kp}) ⟨hC.prog,hC.ok,hC.aV⟩ hR hb fZ hf Rt hn) h he h0 hO (by omega),
  fun kp i gw cw w m t hb fZ h hO he hn=>⟨rh (f:={f with kept:=kp}) ⟨hC.prog,hC.ok,hC.aV⟩ hR hb fZ h he hn,hO.next _,PI hR (Vs hC hR hb he hn)⟩,
  fun kp i gw cw w m t hb fZ h h0 hO ht hw=>J1 (f:={f with kept:=kp}) ⟨hC.prog,hC.ok,hC.aV⟩ hR hb fZ h hw h0 hf hO ht⟩
theorem LV (hR:aE text raw p){a:Nat}(ha:a<p.lines.length)(hb:al (p.line a)=true)(n:Nat)(m:RM):eR f p ak n (a+1) m=eR f p ak n a m:=by
 have h1:=hR.lE ha hb;cases n with
 |zero=>rfl
 |succ n=>rw[eR,eR,hb,h1.2.2];rfl
theorem PE {i n:Nat}(hb:p.body i)(h0:m.out=0)(he:ends (word (p.line i) 0)=false):eR f p ak (n+1) i m=eR f p ak n (i+1) (m.aR f p ak (p.line i)):=by
 have ea:¬word (p.line i) 0=[101,110,100]:=fun e=>by rw[e]at he;exact absurd he (by decide)
 rw[eR,ja (by rw[h0];decide),hb.2.2];simp only[Bool.false_eq_true,if_false];rw[ja ea,ja (by rw[he];decide)]
theorem PF {i n:Nat}(hb:p.body i)(h0:m.out=0)(he:ends (word (p.line i) 0)=true)(ea:¬word (p.line i) 0=[101,110,100]):eR f p ak (n+1) i m=eR f p ak n (eW p (m.next p (p.line i)).2) (m.next p (p.line i)).1:=by
 rw[eR,ja (by rw[h0];decide),hb.2.2];simp only[Bool.false_eq_true,if_false];rw[ja ea,jb he]
theorem Tc {i n:Nat}(hb:p.body i)(h0:m.out=0)(he:word (p.line i) 0=[101,110,100]):eR f p ak (n+1) i m=m.finish f p (p.line i):=by
 rw[eR,ja (by rw[h0];decide),hb.2.2];simp only[Bool.false_eq_true,if_false];rw[jb he]
theorem JR (h:w.ownsRow w0.heap.size 5 1 vt m.trace.length (ew m.trace)):(convert 93 9 vt).run Tryz.prog w=.ok (.string (bs m.trace)) w:=by
 by_cases hn:m.trace.length=0
 ·have e:m.trace=[]:=List.length_eq_zero_iff.mp hn;rcases h.2 with⟨rfl,-⟩|⟨g,cap,cur,rfl,-⟩
  ·rw[run_convert_bytes_string (e:=5) _ _ _ _ _ _ Tryz.underlying93 Tryz.underlying5 Tryz.underlying9,e];rfl
  ·have:=run_convert_bytes_back (P:=Tryz.prog) w 93 9 5 ⟨g,0,none⟩ cap m.trace Tryz.underlying93 Tryz.underlying5 Tryz.underlying9 (fun j hj=>absurd hj (by omega));exact this
 ·obtain⟨g,cap,rfl,hc,hg,aC⟩:=dJ h (by omega);refine run_convert_bytes_back (P:=Tryz.prog) w 93 9 5 ⟨g,0,none⟩ cap m.trace Tryz.underlying93 Tryz.underlying5 Tryz.underlying9 (fun j hj=> ?_);have Kd:(⟨g,0,none⟩:Addr).add j=⟨g,j,none⟩:=by unfold Addr.add;split<;>simp_all
  rw[Kd,aC j (by omega),ew,jJ,jB hj];rfl
theorem vG:(Tryz.prog.info? 73).map (·.size)=some 4:=by kernel_rfl
theorem xe {w1:World}{R:Nat}{u0 u1 u2 u3:Value}(hR:w1.heap[R]?=some (.cells #[u0,u1,u2,u3] 73 (0,0)))(v0 v1 v2 v3:Value):
  ((((w1.setCell ⟨R,0,none⟩ v0).setCell ⟨R,1,none⟩ v1).setCell ⟨R,2,none⟩ v2).setCell ⟨R,3,none⟩ v3).heap[R]?=some (.cells #[v0,v1,v2,v3] 73 (0,0))/\Below R w1 ((((w1.setCell ⟨R,0,none⟩ v0).setCell ⟨R,1,none⟩ v1).setCell ⟨R,2,none⟩ v2).setCell ⟨R,3,none⟩ v3):=by
 have e1:=Aux.heap_setCell_same hR 0 v0;have e2:=Aux.heap_setCell_same e1 1 v1;have e3:=Aux.heap_setCell_same e2 2 v2;have e4:=Aux.heap_setCell_same e3 3 v3;have hT:=((((bu.refl R w1).setCell 0 v0).setCell 1 v1).setCell 2 v2).setCell 3 v3;exact⟨e4,hT.below (jC _) (Nat.le_of_lt (lt_of_heap hR))⟩
theorem pT {w1:World}{R:Nat}{u0 u1 u2 u3:Value}(hR:w1.heap[R]?=some (.cells #[u0,u1,u2,u3] 73 (0,0))):w1.cell? ⟨R,0,none⟩=some u0/\w1.cell? ⟨R,1,none⟩=some u1/\w1.cell? ⟨R,2,none⟩=some u2/\w1.cell? ⟨R,3,none⟩=some u3/\
  w1.frozen? ⟨R,0,none⟩=false/\w1.frozen? ⟨R,1,none⟩=false/\w1.frozen? ⟨R,2,none⟩=false/\w1.frozen? ⟨R,3,none⟩=false:=
 ⟨by rw[cell_of_heap hR];rfl,by rw[cell_of_heap hR];rfl,by rw[cell_of_heap hR];rfl,by rw[cell_of_heap hR];rfl,frozen_of_heap hR 0,frozen_of_heap hR 1,frozen_of_heap hR 2,frozen_of_heap hR 3⟩
def Yo:List Value:=[.int .i64 0,.int .i64 0,.string ⟨#[]⟩,.int .i64 0]
set_option maxRecDepth 20000 in
set_option maxHeartbeats 4000000 in
theorem VO (hM:VZ w0 x f p ak)(hC:Ctx w0 p f)(Gz:aE text raw p)(h:ca w0 x f w m)(hO:m.Ok 0)(fuel:Nat)(hfu:fuel<=200000):
  Calls Tryz.prog 56 #[.pointer (some ⟨x,0,none⟩),.int .i64 (fuel:Nat)] w fun e w'=>e=.returned (resM (eR f p ak fuel (p.blocks.getD 0 0) m))/\Below w0.heap.size w0 w':=by
 obtain⟨vb,vt,hV⟩:=h;have fB:=Gz.first.1;obtain⟨s1,s2,-⟩:=RP.ki Gz.pre.blocks fB;obtain⟨w1,tP⟩:∃w1,w.alloc (.cells #[.int .i64 0,.int .i64 0,.string ⟨#[]⟩,.int .i64 0] 73)=w1:=⟨_,rfl⟩;have av:Below w.heap.size w w1:=by rw[<-tP];exact(Below.refl _ _).alloc (jC _) _
 have YI:w1.heap[w.heap.size]?=some (.cells #[.int .i64 0,.int .i64 0,.string ⟨#[]⟩,.int .i64 0] 73 (0,0)):=by rw[<-tP];exact jD
 have ld:=hV.below av;obtain⟨F,hF⟩:∃kp,kp=(w.heap.size,Yo,(2:Fin 3))::f.kept:=⟨_,rfl⟩;have HM:Hid (ca w0 x {f with kept:=F} w1 m):=by
  subst hF;exact⟨vb,vt,⟨ld.base,ld.aI,ld.boxes,ld.trace,ld.bq,ld.len,fun e he=>by
   simp only[List.mem_cons]at he;rcases he with rfl|he
   ·exact YI
   ·exact ld.loc e he⟩⟩
 have K1:Hid (∀wr m',ca w0 x {f with kept:=F} wr m'->wr.heap[w.heap.size]?=some (.cells #[.int .i64 0,.int .i64 0,.string ⟨#[]⟩,.int .i64 0] 73 (0,0))/\w.heap.size≠x):=by
  subst hF;rintro wr m' ⟨vb',vt',hX⟩;exact⟨hX.loc (w.heap.size,Yo,2) (by simp),hX.apart (e:=(w.heap.size,Yo,2)) (by simp)⟩
 have lx:w0.heap.size<=w.heap.size:=hV.bq.size;clear hF;have HP:=hC.prog.below ld.bq;obtain⟨gb,capb,l1,l2,l3⟩:=HP.An 0 fB;have TU:(0:Int)<p.blocks.length:=by omega
 obtain⟨c0,c1,c2,c3,c4,c5,c6,c7,c8,c9⟩:=ld.facts;have HR0:Hid (eR f p ak fuel (p.blocks.getD 0 0) m=eR f p ak fuel (p.blocks.getD 0 0) m):=rfl;have iq:oo p (p.blocks.getD 0 0):=.inr ⟨s1,s2⟩;generalize gC:eR f p ak fuel (p.blocks.getD 0 0) m=R at HR0⊢;have HE:Hid (eR f p ak fuel (p.blocks.getD 0 0) m=R):=gC;clear gC HR0;generalize p.blocks.getD 0 0=at0 at*;go_enter Tryz.func56,Tryz.ntmps56
 go_wp2_with fail
 have HO:Hid (m.Ok (3*(fuel-fuel))):=by rw[Nat.sub_self];exact hO
 clear c0 c1 c2 c3 c4 c5 c6 c7 c8 c9 l1 l2 l3 HP ld YI;try rw[tP]
 generalize hRR:w.heap.size=RB at*;clear tP hRR;go_loopg [1,5,6,7] (2*fuel+2) (fun g v1 v5 v6 v7 wr=>∃(n a:Nat) (mk:RM),n<=fuel/\v1=.int .i64 (n:Nat)/\v5=.int .i64 (a:Nat)/\Hid (ca w0 x {f with kept:=F} wr mk)/\Hid (eR f p ak n a mk=R)/\Hid (mk.out=0->mk.Ok (3*(fuel-n))/\oo p a/\g=2*n+(if al (p.line a)=true then 2 else 1)))
 case atStart=>exact⟨fuel,at0,m,jC _,rfl,rfl,HM,HE,fun _=>⟨HO.out,iq,by rw[jb s2]⟩⟩
 case round=>
  obtain⟨n,a,mk,hn,rfl,rfl,HK,Yy,HS⟩:=hrel;clear HM HO HE iq s1 s2;by_cases j9:mk.out=0
  ·obtain⟨mn,hsa,hg⟩:=HS.out j9;have HOk:Hid (mk.Ok (3*(fuel-n))):=mn;clear mn;have lH:a<p.lines.length:=by
    rcases hsa with hb|⟨hb,-⟩
    ·exact hb.1
    ·exact hb
   obtain⟨g0,cap0,gl,dr,r1,r2,r3,r4,r5,fZ⟩:=Ta (f:=f) hC.prog hC.ok lH;obtain⟨vb',vt',hX⟩:=HK.out;have c0:wr.cell? ⟨x,0,none⟩=some (.pointer (some ⟨f.a,0,none⟩)):=hX.facts.1;obtain⟨-,-,-,-,-,-,-,-,c8,-⟩:=hX.facts;rw[j9]at c8;have k1:=(hX.bq.cell (p:=⟨f.a,0,none⟩) hC.prog.lt).trans r1;have k2:=(hX.bq.cell (p:=⟨g0,a,none⟩) r3).trans r2;have tP:=hC.ok.words a lH;have k3:=fZ.at hX (j:=0) (by omega);have i1:(a:Int)<p.lines.length:=by omega
   have i2:(0:Int)<(p.line a).length:=by omega
   have hsz2:=hC.ok.size;by_cases bU:al (p.line a)=true
   ·have hwB:word (p.line a) 0=aQ:=by simpa [al]using bU
    have hw:word (p.line a) 0=[98,108,111,99,107]:=hwB;have HN:Hid (eR f p ak n (a+1) mk=R/\oo p (a+1)/\al (p.line (a+1))=false):=by
     have B6:=Gz.lE lH bU;exact⟨by rw[LV Gz lH bU];exact Yy.out,.inl B6,B6.2.2⟩
    rw[jb bU]at hg;rw[hw]at k3;clear r1 r2 r3 fZ j9;go_wp2_with fail
    go_roundg (2*n+1)
    case rel=>exact⟨n,a+1,mk,hn,rfl,by go_num,HK,HN.out.1,fun _=>⟨HOk.out,HN.out.2.1,by rw[HN.out.2.2];rfl⟩⟩
    case measure=>omega
   ·have hb:p.body a:=hsa.resolve_right (fun e=>bU e.2);have ZG:(word (p.line a) 0==[98,108,111,99,107])=false:=by rw[jZ];exact(vc hb).2
    rw[ja bU]at hg;cases n with
    |zero=>
     obtain⟨-,-,-,-,f5,-⟩:=hX.eA;have hX2:=hX.tF 2;have HN:Hid ({mk with out:=2}=R):=by unfold Hid;rw[<-Yy.out,eR,jb j9]
     clear r1 r2 r3 fZ j9;go_wp2_with fail
     go_roundg 0
     case rel=>exact⟨0,a,{mk with out:=2},hn,rfl,rfl,⟨_,_,hX2⟩,by rw[<-HN.out,eR,ja (by simp)];exact rfl,fun e=>by cases e⟩
     case measure=>omega
    |succ n=>
     have hF0:¬((n+1:Nat):Int)=0:=by omega
     have KE:=fun W=>Ed (word (p.line a) 0) W
     have iM:mk.Ok (3*(fuel-(n+1))):=HOk.out;have HNN:Hid (n+1<=fuel):=hn;by_cases sw:word (p.line a) 0=[101,110,100]
     ·have KF:=hM.finish F a gl dr wr mk _ hb fZ ⟨_,_,hX⟩ j9 iM (by omega) sw;have HN:Hid (eR f p ak n a (mk.finish f p (p.line a))=R):=by unfold Hid;rw[xf f p ak (AH _),<-Yy.out,Tc hb j9 sw]
      have HNO:Hid (¬(mk.finish f p (p.line a)).out=0):=AH _;rw[sw]at KE k3;clear r1 r2 r3 fZ j9 ZG sw;generalize mk.finish f p (p.line a)=m2 at*;go_wp2_with (first
       |(go_at_call 85;refine(KE _).mono ?_;rintro e w2 ⟨rfl,rfl⟩)
       |(go_at_call 92;refine KF.mono ?_;rintro e w2 ⟨rfl,Cj⟩))
      go_roundg 0
      case rel=>exact⟨n,a,m2,by have:=HNN.out;omega,by go_num,rfl,Cj,HN.out,fun e=>absurd e HNO.out⟩
      case measure=>omega
     ·have hef:(word (p.line a) 0==[101,110,100])=false:=by rw[jZ];exact sw
      cases he:ends (word (p.line a) 0)
      ·obtain⟨KD,V8⟩:=hM.aR F a gl dr wr mk _ hb fZ ⟨_,_,hX⟩ j9 iM (by omega) he;have HN:Hid (eR f p ak n (a+1) (mk.aR f p ak (p.line a))=R):=by unfold Hid;rw[<-Yy.out,PE hb j9 he]
       have HO3:Hid ((mk.aR f p ak (p.line a)).Ok (3*(fuel-n))):=V8.mono (by omega);have HB:Hid (p.body (a+1)):=Gz.qE hb he;rw[he]at KE;clear r1 r2 r3 fZ j9 sw iM V8;generalize mk.aR f p ak (p.line a)=m2 at*;go_wp2_with (first
        |(go_at_call 85;refine(KE _).mono ?_;rintro e w2 ⟨rfl,rfl⟩)
        |(go_at_call 94;refine KD.mono ?_;rintro e w2 ⟨rfl,Cj⟩))
       go_roundg (2*n+1)
       case rel=>exact⟨n,a+1,m2,by have:=HNN.out;omega,by go_num,by go_num,Cj,HN.out,fun _=>⟨HO3.out,.inl HB.out,by rw[HB.out.2.2];rfl⟩⟩
       case measure=>omega
      ·obtain⟨KD,V8,V9⟩:=hM.next F a gl dr wr mk _ hb fZ ⟨_,_,hX⟩ iM he sw;have HN:Hid (eR f p ak n (eW p (mk.next p (p.line a)).2) (mk.next p (p.line a)).1=R):=by unfold Hid;rw[<-Yy.out,PF hb j9 he sw]
       have HO3:Hid ((mk.next p (p.line a)).1.Ok (3*(fuel-n))):=V8.mono (by omega);have HS3:Hid (oo p (eW p (mk.next p (p.line a)).2)):=V9;rw[he]at KE;clear r1 r2 r3 fZ j9 sw iM V8 V9;generalize (mk.next p (p.line a)).1=m2 at*;generalize eW p (mk.next p (p.line a)).2=b2 at*;go_wp2_with (first
        |(go_at_call 85;refine(KE _).mono ?_;rintro e w2 ⟨rfl,rfl⟩)
        |(go_at_call 93;refine KD.mono ?_;rintro e w2 ⟨rfl,Cj⟩))
       go_roundg (2*n+(if al (p.line b2)=true then 2 else 1))
       case rel=>exact⟨n,b2,m2,by have:=HNN.out;omega,by go_num,rfl,Cj,HN.out,fun _=>⟨HO3.out,HS3.out,rfl⟩⟩
       case measure=>
        split<;>omega
  ·have HRR:Hid (mk=R):=by unfold Hid;rw[<-Yy.out,xf f p ak j9]
   obtain⟨t1,t2⟩:=K1.out _ _ HK.out;have t3:=t2.symm;obtain⟨d0,d1,d2,d3,e0,e1,e2,e3⟩:=pT t1;obtain⟨vb',vt',hX⟩:=HK.out;obtain⟨-,-,-,c3,-,c5,-,-,c8,c9⟩:=hX.facts;have hon:¬((mk.out:Nat):Int)=0:=by omega
   have HOL:Hid (Below w0.heap.size w0 wr):=hX.bq;obtain⟨ad,ct,rfl⟩:=vT hX.trace;obtain⟨p1,p2⟩:=xe t1 (.int .i64 ((mk.out:Nat):Int)) (.int .i64 mk.value) (.string (bs mk.trace)) (.int .i64 mk.count);have ktr:=hX.trace;have kcv:∀W:World,W.ownsRow w0.heap.size 5 1 (.slice ad mk.trace.length ct) mk.trace.length (ew mk.trace)->(convert 93 9 (.slice ad mk.trace.length ct)).run Tryz.prog W=.ok (.string (bs mk.trace)) W:=fun W hW=>JR hW
   have kne:=ar ktr t1 (by decide);have ksd:=ax ktr ((Below.refl wr.heap.size wr).drew);have kst:=ax (au (au (au (au ktr (a:=⟨RB,0,none⟩) (.int .i64 ((mk.out:Nat):Int)) kne) (a:=⟨RB,1,none⟩) (.int .i64 mk.value) kne) (a:=⟨RB,2,none⟩) (.string (bs mk.trace)) kne) (a:=⟨RB,3,none⟩) (.int .i64 mk.count) kne) ((Below.refl _ _).drew);clear hX HK j9;go_upto_region 16 with fail
   go_region_held3 (fun W'=>W'.cell? ⟨x,154,none⟩=some (.int .i64 ((mk.out:Nat):Int))/\W'.cell? ⟨x,155,none⟩=some (.int .i64 mk.value)/\W'.cell? ⟨x,151,none⟩=some (.slice ad mk.trace.length ct)/\W'.cell? ⟨x,149,none⟩=some (.int .i64 mk.count)/\W'.ownsRow w0.heap.size 5 1 (.slice ad mk.trace.length ct) mk.trace.length (ew mk.trace)) (first|go_keep|(refine⟨?_,?_,?_,?_,?_⟩<;>first|exact ksd|exact kst|go_keep)) (fail)
   have p3:(((((wr.setCell ⟨RB,0,none⟩ (.int .i64 ((mk.out:Nat):Int))).setCell ⟨RB,1,none⟩ (.int .i64 mk.value)).setCell ⟨RB,2,none⟩ (.string (bs mk.trace))).setCell ⟨RB,3,none⟩ (.int .i64 mk.count)).drew).heap[RB]?=some (.cells #[.int .i64 ((mk.out:Nat):Int),.int .i64 mk.value,.string (bs mk.trace),.int .i64 mk.count] 73 (0,0)):=p1;go_wp2_with fail
   refine bodyPost_ret (dP Tryz.results56 _ _ _ RB [.int .i64 ((mk.out:Nat):Int),.int .i64 mk.value,.string (bs mk.trace),.int .i64 mk.count] _ rfl (fun j u hu=>by rw[Nat.zero_add,cell_of_heap p3];simpa using hu) Tryz.underlying73 rfl vG) rfl ?_;exact⟨by rw[<-HRR.out];rfl,(HOL.out.trans (p2.mono lx)).drew⟩
end
end Mac
namespace Mac
open Go Go.RowKit Sq Aux Go.Proofs.YtmlgajhhnojdjaaGreatDoor.Own RefRa RefA Sim
def H7 (u o r v:Value):List Value:=[u,o]++(KQ (List.replicate 24 0)++(qi (List.replicate 24 false)++(mE (List.replicate 24 0)++(ew (List.replicate 24 0)++(qi (List.replicate 50 false)++[.slice none 0 0,.int .i64 0,r,.slice none 0 0,v,.int .i64 0,.int .i64 0,.int .i64 0])))))
@[simp] theorem Ww (p ad : Option Addr) (o : Bool) (r : Int) (l c : Nat) : EC (.agg (H7 (.pointer p) (.bool o) (.int .i64 r) (.slice ad l c)).toArray) = True := eq_true ⟨p, o, r, ad, l, c, rfl⟩
@[simp] theorem YA (u o r v : Value) : JD (.agg (H7 u o r v).toArray) = H7 u o r v := rfl
section
variable (d:Option Tmp) (x y z u:Operand) (t:TypeId) (ps:String) (af:Array Edge) (g:Option (Nat×Bool)) (a:Act) (w:World) (K:Act->World->Prop) (Q:Exit->Act->World->Prop)
end
theorem To:RM.start.Ok 0:=by
 have z:∀{α:Type} (n:Nat) (d:α) (k:Nat),(List.replicate n d).getD k d=d:=fun n d k=>by
  rw[jA,jO];split<;>rfl
 refine⟨fun j=> ?_,fun j=> ?_,fun j=> ?_,jC _,jQ _,by decide,jC _⟩
 ·show aN ((List.replicate 24 (0:Int)).getD j 0)
  rw[z];unfold aN;decide
 ·show(List.replicate 24 (0:Nat)).getD j 0<=0
  rw[z];decide
 ·show aN (([]:List (Int×Bool)).getD j (0,false)).1
  unfold aN;simp
end Mac
namespace Ran
open Go Go.RowKit Sq Aux Go.Proofs.YtmlgajhhnojdjaaGreatDoor.Own Mac Sim RunA RunB RefM RefZf FlwZ FlwZb
theorem OS (p ad:Option Addr)(l c:Nat)(r:Int):(((Tryz.zeroCells95.setIfInBounds 0 (.pointer p)).setIfInBounds 1 (.bool true)).setIfInBounds 150 (.int .i64 r)).setIfInBounds 152 (.slice ad l c)=(H7 (.pointer p) (.bool true) (.int .i64 r) (.slice ad l c)).toArray:=by kernel_rfl
theorem So (w:World)(a:Nat)(o:Bool)(r:Int)(vi:Value):ca w w.heap.size ⟨a,o,r,vi,[]⟩ (w.alloc (.cells (H7 (.pointer (some ⟨a,0,none⟩)) (.bool o) (.int .i64 r) vi).toArray 95)) RM.start:=
 ⟨.slice none 0 0,.slice none 0 0,⟨jC _,jD,World.ownsRow_nil _ _ _ _,World.ownsRow_nil _ _ _ _,(Below.refl _ _).alloc (jC _) _,⟨rfl,rfl,rfl,rfl,rfl⟩,fun e he=>by cases he⟩⟩
theorem Ce {text:B}{w w':World}{e:Ending}(h:qw text w e w'):Below w.heap.size w w'/\∃v c k,e=.returned (.tuple #[v,.int .i64 c,.int .i64 k])/\(∀c' k',mf text c' k'->c'=c/\k'=k)/\
  (¬c=0\/(c=0/\k=0/\∃(p:RP) (a:Nat),v=.pointer (some ⟨a,0,none⟩)/\aJ text false=(some p,0,0)/\bd w' a p/\p.Ok)):=by
 obtain⟨hb,v,c,k,he,hs⟩:=QC h;refine⟨hb,v,c,k,he,hs,?_⟩;obtain⟨-,⟨c1,k1,h1,h2⟩|⟨p,L,h1,hL,⟨h3,h2⟩|⟨h3,a,h2,hp,cd,-⟩⟩⟩:=h
 ·rw[he]at h2;simp only[Ending.returned.injEq,Value.tuple.injEq,Array.mk.injEq,List.cons.injEq,Value.int.injEq,true_and,and_true]at h2;obtain⟨-,rfl,rfl⟩:=h2;obtain⟨g1,-⟩:=y8 h1;exact .inl (by omega)
 ·rw[he]at h2;simp only[Ending.returned.injEq,Value.tuple.injEq,Array.mk.injEq,List.cons.injEq,Value.int.injEq,true_and,and_true]at h2;obtain⟨-,rfl,-⟩:=h2;exact .inl (by decide)
 ·rw[he]at h2;simp only[Ending.returned.injEq,Value.tuple.injEq,Array.mk.injEq,List.cons.injEq,Value.int.injEq,true_and,and_true]at h2;obtain⟨rfl,rfl,rfl⟩:=h2;exact .inr ⟨rfl,rfl,p,a,rfl,h1,hp,cd⟩
set_option maxRecDepth 20000 in
theorem Vm (ad:Option Addr)(n c:Nat)(f m r:Int)(w:World):Calls Tryz.prog 55 #[.slice ad n c,.int .i64 f,.int .i64 m,.int .i64 r] w fun e w'=>e=.returned (.bool (decide (n<=100/\0<=f/\f<=m/\0<=r/\r<=50)))/\w'=w:=by
 go_enter Tryz.func55,Tryz.ntmps55
 by_cases h1:n<=100<;>by_cases h2:0<=f<;>by_cases h3:f<=m<;>by_cases h4:0<=r<;>by_cases h5:r<=50
 all_goals
  go_wp2<;>(go_ret;simp[h1,h2,h3,h4,h5])
theorem Ss {text:B}{p:RP}(hp:aJ text false=(some p,0,0)){a:Nat}{w:World}(hP:bd w a p)(cd:p.Ok)(vi:Value)(ak:List Int)(hf:bX w vi ak)(pG:∀n∈ak,aN n)(fuel room:Int)(hm:lj ak fuel room)(W:World)(hW:ca w w.heap.size ⟨a,true,room,vi,[]⟩ W RM.start):
  Calls Tryz.prog 56 #[.pointer (some ⟨w.heap.size,0,none⟩),.int .i64 fuel] W fun e w'=>e=.returned (LQ (eR ⟨a,true,room,vi,[]⟩ p ak fuel.toNat (p.blocks.getD 0 0) RM.start))/\Below w.heap.size w w':=by
 obtain⟨hR,-⟩:=jy hp;obtain⟨-,h0,h1,-⟩:=hm;obtain⟨n,rfl⟩:∃n:Nat,fuel=n:=⟨fuel.toNat,by omega⟩;have hC:Ctx w p ⟨a,true,room,vi,[]⟩:=⟨hP,cd,hR.pre.aV⟩;exact VO (O3 hC hR rfl hf pG) hC hR hW To n (by omega)
set_option maxRecDepth 20000 in
set_option maxHeartbeats 4000000 in
theorem LP (text:B)(vi:Value)(ak:List Int)(fuel room:Int)(w:World)(hf:bX w vi ak)(pG:∀n∈ak,aN n)(h:text.length<=1048576):
  Calls Tryz.prog 40 #[.string (bs text),vi,.int .i64 fuel,.int .i64 room] w fun e w'=>(∃v c k,Hid (FH text ak fuel room v c k)/\e=.returned (.tuple #[v,.int .i64 c,.int .i64 k]))/\Below w.heap.size w w':=by
 obtain⟨w0,qS⟩:∃w0,w.alloc (.cells #[.int .i64 0,.int .i64 0,.string ⟨#[]⟩,.int .i64 0] 73)=w0:=⟨_,rfl⟩;have fB:Below w.heap.size w w0:=by rw[<-qS];exact(Below.refl _ _).alloc (jC _) _
 have Oj:w0.heap.size=w.heap.size+1:=by rw[<-qS];simp
 have Xh:w0.heap[w.heap.size]?=some (.cells #[.int .i64 0,.int .i64 0,.string ⟨#[]⟩,.int .i64 0] 73 (0,0)):=by rw[<-qS];exact jD
 have K:=FX text w0 (by omega);go_enter Tryz.func40,Tryz.ntmps40
 go_upto_region 1 with fail
 try rw[qS]
 clear qS;have HR:Hid (∀W,Below w0.heap.size w0 W->W.heap[w.heap.size]?=some (.cells #[.int .i64 0,.int .i64 0,.string ⟨#[]⟩,.int .i64 0] 73 (0,0))):=fun W hW=>by rw[hW.block _ (by omega)];exact Xh
 clear Xh;go_upto_region 2 with(go_at_call 34;refine K.mono ?_;rintro e w1 GO;obtain⟨av,v,c,k,rfl,Wt,Kj⟩:=Ce GO;have Ca:Hid (Below w0.heap.size w0 w1):=av;have HS:Hid (∀c' k',mf text c' k'->c'=c/\k'=k):=Wt;have HP:Hid _:=Kj;clear GO av Kj Wt)
 rcases HP.out with hc|⟨rfl,rfl,p,a,rfl,MU,yQ,cd⟩
 ·have cb:(c==0)=false:=by rw[jZ];exact hc
  have HC:Hid (¬c=0):=hc;clear hc HP;have oC:=HR.out w1 Ca.out;obtain⟨d0,d1,d2,d3,f0,f1,f2,f3⟩:=pT oC;obtain⟨e4,zi⟩:=xe oC (.int .i64 0) (.int .i64 0) (.string ⟨#[]⟩) (.int .i64 0);go_wp2
  refine bodyPost_ret (dY Tryz.results40 _ _ _ w.heap.size [.int .i64 0,.int .i64 0,.string ⟨#[]⟩,.int .i64 0] _ rfl (fun j u hu=>by rw[Nat.zero_add,cell_of_heap e4];simpa using hu) Tryz.underlying73 rfl vG) rfl ?_;refine⟨⟨_,_,_,.inl ⟨HC.out,HS.out,rfl⟩,rfl⟩,(fB.trans (Ca.out.mono (by omega))).trans zi⟩
 ·clear HP;have pF:bX w1 vi ak:=eJ (eJ hf fB (jC _)) Ca.out (jC _);obtain⟨ad,cap,rfl,-⟩:=id hf;have KM:=fun W=>Vm ad ak.length cap fuel 1000 room W
  by_cases hm:lj ak fuel room
  ·have hd:decide (ak.length<=100/\0<=fuel/\fuel<=1000/\0<=room/\room<=50)=true:=decide_eq_true hm;simp only[hd]at KM;have hMS:=So w1 a true room (.slice ad ak.length cap);have KR:=Ss MU yQ cd (.slice ad ak.length cap) ak pF pG fuel room hm _ hMS;rw[<-OS]at KR;have Uc:Hid (aJ text false=(some p,0,0)):=MU;have HM:Hid (lj ak fuel room):=hm;clear hm hd hf pF pG yQ K cd MU hMS;go_wp2_with (first
    |(go_at_call 55;refine(KM _).mono ?_;rintro e w2 ⟨rfl,rfl⟩)
    |(go_at_call 56;refine KR.mono ?_;rintro e w3 ⟨rfl,lI⟩;have hr3:=HR.out w3 (Ca.out.trans (lI.mono Ca.out.size));obtain⟨d0,d1,d2,d3,f0,f1,f2,f3⟩:=pT hr3;obtain⟨e4,zi⟩:=xe hr3 (.int .i64 (((eR ⟨a,true,room,.slice ad ak.length cap,[]⟩ p ak fuel.toNat (p.blocks.getD 0 0) RM.start).out:Nat):Int)) (.int .i64 (eR ⟨a,true,room,.slice ad ak.length cap,[]⟩ p ak fuel.toNat (p.blocks.getD 0 0) RM.start).value) (.string (bs (eR ⟨a,true,room,.slice ad ak.length cap,[]⟩ p ak fuel.toNat (p.blocks.getD 0 0) RM.start).trace)) (.int .i64 (eR ⟨a,true,room,.slice ad ak.length cap,[]⟩ p ak fuel.toNat (p.blocks.getD 0 0) RM.start).count);have HRR:Hid (∃(p':RP) (f:Fx),aJ text false=(some p',0,0)/\f.owns=true/\f.room=room/\LQ (eR ⟨a,true,room,.slice ad ak.length cap,[]⟩ p ak fuel.toNat (p.blocks.getD 0 0) RM.start)=LQ (eR f p' ak fuel.toNat (p'.blocks.getD 0 0) RM.start)):=⟨p,_,Uc.out,rfl,rfl,rfl⟩;generalize eR ⟨a,true,room,.slice ad ak.length cap,[]⟩ p ak fuel.toNat (p.blocks.getD 0 0) RM.start=R at*;simp only[LQ]))
   refine bodyPost_ret (dY Tryz.results40 _ _ _ w.heap.size [.int .i64 ((R.out:Nat):Int),.int .i64 R.value,.string (bs R.trace),.int .i64 R.count] _ rfl (fun j u hu=>by rw[Nat.zero_add,cell_of_heap e4];simpa using hu) Tryz.underlying73 rfl vG) rfl ?_;obtain⟨p',f,g1,g2,g3,g4⟩:=HRR.out;refine⟨⟨_,_,_,.inr (.inr ⟨HM.out,HS.out,rfl,rfl,p',f,g1,g2,g3,g4⟩),rfl⟩,((fB.trans (Ca.out.mono (by omega))).trans (lI.mono (by have:=Ca.out.size;omega))).trans zi⟩
  ·have hd:decide (ak.length<=100/\0<=fuel/\fuel<=1000/\0<=room/\room<=50)=false:=decide_eq_false hm;simp only[hd]at KM;have HM:Hid (¬lj ak fuel room):=hm;clear hm hd hf pF pG yQ K cd MU;have oC:=HR.out w1 Ca.out;obtain⟨d0,d1,d2,d3,f0,f1,f2,f3⟩:=pT oC;obtain⟨e4,zi⟩:=xe oC (.int .i64 0) (.int .i64 0) (.string ⟨#[]⟩) (.int .i64 0);go_wp2_with (go_at_call 55;refine(KM _).mono ?_;rintro e w2 ⟨rfl,rfl⟩)
   refine bodyPost_ret (dY Tryz.results40 _ _ _ w.heap.size [.int .i64 0,.int .i64 0,.string ⟨#[]⟩,.int .i64 0] _ rfl (fun j u hu=>by rw[Nat.zero_add,cell_of_heap e4];simpa using hu) Tryz.underlying73 rfl vG) rfl ?_;refine⟨⟨_,_,_,.inr (.inl ⟨HS.out,HM.out,rfl,rfl,rfl⟩),rfl⟩,(fB.trans (Ca.out.mono (by omega))).trans zi⟩
end Ran
end Go.Proofs.YtmlgajhhnojdjaaGreatDoor

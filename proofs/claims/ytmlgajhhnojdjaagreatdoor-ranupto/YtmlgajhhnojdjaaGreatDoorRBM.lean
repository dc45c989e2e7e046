import Derived.Test.YtmlgajhhnojdjaaGreatDoorRBL
namespace Go.Proofs.YtmlgajhhnojdjaaGreatDoor
namespace Mac
open Go Go.RowKit Sq Aux Go.Proofs.YtmlgajhhnojdjaaGreatDoor.Own RefRa RefA Sim PrjK PrjJ PrjL PrjM
def resM (m:RM):Value:=.agg #[.int .i64 ((m.out:Nat):Int),.int .i64 m.value,.string (bs m.trace),.int .i64 m.count]
structure V0 (w0:World)(x:Nat)(f:Fx)(p:RP)(al:List Int):Prop where
 aS:∀(kp:List (Nat×List Value×Fin 3)) (i gw cw:Nat) (w:World) (m:RM) (t:Nat),p.body i->Row w0 (p.line i) gw->cd w0 x {f with kept:=kp} w m->m.out=0->m.Ok t->t<=1000000->ends (word (p.line i) 0)=false->
  Calls Tryz.prog 94 #[.pointer (some ⟨x,0,none⟩),.slice (some ⟨gw,0,none⟩) (p.line i).length cw] w (fun e w'=>e=.returned (.tuple #[])/\cd w0 x {f with kept:=kp} w' (m.aS f p al (p.line i)))/\(m.aS f p al (p.line i)).Ok (t+3)
 next:∀(kp:List (Nat×List Value×Fin 3)) (i gw cw:Nat) (w:World) (m:RM) (t:Nat),p.body i->Row w0 (p.line i) gw->cd w0 x {f with kept:=kp} w m->m.Ok t->ends (word (p.line i) 0)=true->¬word (p.line i) 0=[101,110,100]->
  Calls Tryz.prog 93 #[.pointer (some ⟨x,0,none⟩),.slice (some ⟨gw,0,none⟩) (p.line i).length cw] w (fun e w'=>e=.returned (.int .i64 ((eX p (m.next p (p.line i)).2:Nat):Int))/\cd w0 x {f with kept:=kp} w' (m.next p (p.line i)).1)/\(m.next p (p.line i)).1.Ok t/\oq p (eX p (m.next p (p.line i)).2)
 finish:∀(kp:List (Nat×List Value×Fin 3)) (i gw cw:Nat) (w:World) (m:RM) (t:Nat),p.body i->Row w0 (p.line i) gw->cd w0 x {f with kept:=kp} w m->m.out=0->m.Ok t->t<=1000000->word (p.line i) 0=[101,110,100]->
  Calls Tryz.prog 92 #[.pointer (some ⟨x,0,none⟩),.slice (some ⟨gw,0,none⟩) (p.line i).length cw] w (fun e w'=>e=.returned (.tuple #[])/\cd w0 x {f with kept:=kp} w' (m.finish f p (p.line i)))
section
variable {w0 w:World} {x gw cw:Nat} {f:Fx} {m:RM} {p:RP} {ws:List B} {t:Nat} {al:List Int} {text:B} {raw:Bool} {vb vt:Value}
theorem O4 (hC:Ctx w0 p f)(hR:aF text false p)(hf:f.owns=true)(Ru:bY w0 f.vi al)(hn:∀n∈al,aO n):V0 w0 x f p al:=
 ⟨fun kp i gw cw w m t hb ga h h0 hO ht he=>QM (Up (f:={f with kept:=kp}) ⟨hC.prog,hC.ok,hC.aW⟩ hR hb ga hf Ru hn) h he h0 hO (by omega),
  fun kp i gw cw w m t hb ga h hO he hn=>⟨ri (f:={f with kept:=kp}) ⟨hC.prog,hC.ok,hC.aW⟩ hR hb ga h he hn,hO.next _,PJ hR (Vt hC hR hb he hn)⟩,
  fun kp i gw cw w m t hb ga h h0 hO ht hw=>J2 (f:={f with kept:=kp}) ⟨hC.prog,hC.ok,hC.aW⟩ hR hb ga h hw h0 hf hO ht⟩
theorem LW (hR:aF text raw p){a:Nat}(ha:a<p.lines.length)(hb:ao (p.line a)=true)(n:Nat)(m:RM):eS f p al n (a+1) m=eS f p al n a m:=by
 have h1:=hR.lF ha hb;cases n with
 |zero=>rfl
 |succ n=>rw[eS,eS,hb,h1.2.2];rfl
theorem PF {i n:Nat}(hb:p.body i)(h0:m.out=0)(he:ends (word (p.line i) 0)=false):eS f p al (n+1) i m=eS f p al n (i+1) (m.aS f p al (p.line i)):=by
 have ec:¬word (p.line i) 0=[101,110,100]:=fun e=>by rw[e]at he;exact absurd he (by decide)
 rw[eS,ja (by rw[h0];decide),hb.2.2];simp only[Bool.false_eq_true,if_false];rw[ja ec,ja (by rw[he];decide)]
theorem PG {i n:Nat}(hb:p.body i)(h0:m.out=0)(he:ends (word (p.line i) 0)=true)(ec:¬word (p.line i) 0=[101,110,100]):eS f p al (n+1) i m=eS f p al n (eX p (m.next p (p.line i)).2) (m.next p (p.line i)).1:=by
 rw[eS,ja (by rw[h0];decide),hb.2.2];simp only[Bool.false_eq_true,if_false];rw[ja ec,jb he]
theorem Td {i n:Nat}(hb:p.body i)(h0:m.out=0)(he:word (p.line i) 0=[101,110,100]):eS f p al (n+1) i m=m.finish f p (p.line i):=by
 rw[eS,ja (by rw[h0];decide),hb.2.2];simp only[Bool.false_eq_true,if_false];rw[jb he]
theorem JS (h:w.ownsRow w0.heap.size 5 1 vt m.trace.length (ey m.trace)):(convert 93 9 vt).run Tryz.prog w=.ok (.string (bs m.trace)) w:=by
 by_cases hn:m.trace.length=0
 ·have e:m.trace=[]:=List.length_eq_zero_iff.mp hn;rcases h.2 with⟨rfl,-⟩|⟨g,cap,cur,rfl,-⟩
  ·rw[run_convert_bytes_string (e:=5) _ _ _ _ _ _ Tryz.underlying93 Tryz.underlying5 Tryz.underlying9,e];rfl
  ·have:=run_convert_bytes_back (P:=Tryz.prog) w 93 9 5 ⟨g,0,none⟩ cap m.trace Tryz.underlying93 Tryz.underlying5 Tryz.underlying9 (fun j hj=>absurd hj (by omega));exact this
 ·obtain⟨g,cap,rfl,hc,hg,aD⟩:=dK h (by omega);refine run_convert_bytes_back (P:=Tryz.prog) w 93 9 5 ⟨g,0,none⟩ cap m.trace Tryz.underlying93 Tryz.underlying5 Tryz.underlying9 (fun j hj=> ?_);have Ke:(⟨g,0,none⟩:Addr).add j=⟨g,j,none⟩:=by unfold Addr.add;split<;>simp_all
  rw[Ke,aD j (by omega),ey,jJ,jB hj];rfl
theorem vH:(Tryz.prog.info? 73).map (·.size)=some 4:=by kernel_rfl
theorem xf {w1:World}{R:Nat}{u0 u1 u2 u3:Value}(hR:w1.heap[R]?=some (.cells #[u0,u1,u2,u3] 73 (0,0)))(v0 v1 v2 v3:Value):
  ((((w1.setCell ⟨R,0,none⟩ v0).setCell ⟨R,1,none⟩ v1).setCell ⟨R,2,none⟩ v2).setCell ⟨R,3,none⟩ v3).heap[R]?=some (.cells #[v0,v1,v2,v3] 73 (0,0))/\Below R w1 ((((w1.setCell ⟨R,0,none⟩ v0).setCell ⟨R,1,none⟩ v1).setCell ⟨R,2,none⟩ v2).setCell ⟨R,3,none⟩ v3):=by
 have e1:=Aux.heap_setCell_same hR 0 v0;have e2:=Aux.heap_setCell_same e1 1 v1;have e3:=Aux.heap_setCell_same e2 2 v2;have e4:=Aux.heap_setCell_same e3 3 v3;have hT:=((((bw.refl R w1).setCell 0 v0).setCell 1 v1).setCell 2 v2).setCell 3 v3;exact⟨e4,hT.below (jC _) (Nat.le_of_lt (lt_of_heap hR))⟩
theorem pU {w1:World}{R:Nat}{u0 u1 u2 u3:Value}(hR:w1.heap[R]?=some (.cells #[u0,u1,u2,u3] 73 (0,0))):w1.cell? ⟨R,0,none⟩=some u0/\w1.cell? ⟨R,1,none⟩=some u1/\w1.cell? ⟨R,2,none⟩=some u2/\w1.cell? ⟨R,3,none⟩=some u3/\
  w1.frozen? ⟨R,0,none⟩=false/\w1.frozen? ⟨R,1,none⟩=false/\w1.frozen? ⟨R,2,none⟩=false/\w1.frozen? ⟨R,3,none⟩=false:=
 ⟨by rw[cell_of_heap hR];rfl,by rw[cell_of_heap hR];rfl,by rw[cell_of_heap hR];rfl,by rw[cell_of_heap hR];rfl,frozen_of_heap hR 0,frozen_of_heap hR 1,frozen_of_heap hR 2,frozen_of_heap hR 3⟩
def Yp:List Value:=[.int .i64 0,.int .i64 0,.string ⟨#[]⟩,.int .i64 0]
set_option maxRecDepth 20000 in
set_option maxHeartbeats 4000000 in
theorem VP (hM:V0 w0 x f p al)(hC:Ctx w0 p f)(GA:aF text raw p)(h:cd w0 x f w m)(hO:m.Ok 0)(fuel:Nat)(hfu:fuel<=200000):
  Calls Tryz.prog 56 #[.pointer (some ⟨x,0,none⟩),.int .i64 (fuel:Nat)] w fun e w'=>e=.returned (resM (eS f p al fuel (p.blocks.getD 0 0) m))/\Below w0.heap.size w0 w':=by
 obtain⟨vb,vt,hV⟩:=h;have fC:=GA.first.1;obtain⟨s1,s2,-⟩:=RP.kj GA.pre.blocks fC;obtain⟨w1,tQ⟩:∃w1,w.alloc (.cells #[.int .i64 0,.int .i64 0,.string ⟨#[]⟩,.int .i64 0] 73)=w1:=⟨_,rfl⟩;have aw:Below w.heap.size w w1:=by rw[<-tQ];exact(Below.refl _ _).alloc (jC _) _
 have YJ:w1.heap[w.heap.size]?=some (.cells #[.int .i64 0,.int .i64 0,.string ⟨#[]⟩,.int .i64 0] 73 (0,0)):=by rw[<-tQ];exact jD
 have lf:=hV.below aw;obtain⟨F,hF⟩:∃kp,kp=(w.heap.size,Yp,(2:Fin 3))::f.kept:=⟨_,rfl⟩;have HM:Hid (cd w0 x {f with kept:=F} w1 m):=by
  subst hF;exact⟨vb,vt,⟨lf.base,lf.aJ,lf.boxes,lf.trace,lf.br,lf.len,fun e he=>by
   simp only[List.mem_cons]at he;rcases he with rfl|he
   ·exact YJ
   ·exact lf.loc e he⟩⟩
 have K1:Hid (∀wr m',cd w0 x {f with kept:=F} wr m'->wr.heap[w.heap.size]?=some (.cells #[.int .i64 0,.int .i64 0,.string ⟨#[]⟩,.int .i64 0] 73 (0,0))/\w.heap.size≠x):=by
  subst hF;rintro wr m' ⟨vb',vt',hX⟩;exact⟨hX.loc (w.heap.size,Yp,2) (by simp),hX.apart (e:=(w.heap.size,Yp,2)) (by simp)⟩
 have ly:w0.heap.size<=w.heap.size:=hV.br.size;clear hF;have HP:=hC.prog.below lf.br;obtain⟨gb,capb,l1,l2,l3⟩:=HP.Ao 0 fC;have TV:(0:Int)<p.blocks.length:=by omega
 obtain⟨c0,c1,c2,c3,c4,c5,c6,c7,c8,c9⟩:=lf.facts;have HR0:Hid (eS f p al fuel (p.blocks.getD 0 0) m=eS f p al fuel (p.blocks.getD 0 0) m):=rfl;have ir:oq p (p.blocks.getD 0 0):=.inr ⟨s1,s2⟩;generalize gD:eS f p al fuel (p.blocks.getD 0 0) m=R at HR0⊢;have HE:Hid (eS f p al fuel (p.blocks.getD 0 0) m=R):=gD;clear gD HR0;generalize p.blocks.getD 0 0=at0 at*;go_enter Tryz.func56,Tryz.ntmps56
 go_wp2_with fail
 have HO:Hid (m.Ok (3*(fuel-fuel))):=by rw[Nat.sub_self];exact hO
 clear c0 c1 c2 c3 c4 c5 c6 c7 c8 c9 l1 l2 l3 HP lf YJ;try rw[tQ]
 generalize hRR:w.heap.size=RB at*;clear tQ hRR;go_loopg [1,5,6,7] (2*fuel+2) (fun g v1 v5 v6 v7 wr=>∃(n a:Nat) (mk:RM),n<=fuel/\v1=.int .i64 (n:Nat)/\v5=.int .i64 (a:Nat)/\Hid (cd w0 x {f with kept:=F} wr mk)/\Hid (eS f p al n a mk=R)/\Hid (mk.out=0->mk.Ok (3*(fuel-n))/\oq p a/\g=2*n+(if ao (p.line a)=true then 2 else 1)))
 case atStart=>exact⟨fuel,at0,m,jC _,rfl,rfl,HM,HE,fun _=>⟨HO.out,ir,by rw[jb s2]⟩⟩
 case round=>
  obtain⟨n,a,mk,hn,rfl,rfl,HK,Yz,HS⟩:=hrel;clear HM HO HE ir s1 s2;by_cases ka:mk.out=0
  ·obtain⟨mo,hsa,hg⟩:=HS.out ka;have HOk:Hid (mk.Ok (3*(fuel-n))):=mo;clear mo;have lI:a<p.lines.length:=by
    rcases hsa with hb|⟨hb,-⟩
    ·exact hb.1
    ·exact hb
   obtain⟨g0,cap0,gl,dt,r1,r2,r3,r4,r5,ga⟩:=Tb (f:=f) hC.prog hC.ok lI;obtain⟨vb',vt',hX⟩:=HK.out;have c0:wr.cell? ⟨x,0,none⟩=some (.pointer (some ⟨f.a,0,none⟩)):=hX.facts.1;obtain⟨-,-,-,-,-,-,-,-,c8,-⟩:=hX.facts;rw[ka]at c8;have k1:=(hX.br.cell (p:=⟨f.a,0,none⟩) hC.prog.lt).trans r1;have k2:=(hX.br.cell (p:=⟨g0,a,none⟩) r3).trans r2;have tQ:=hC.ok.words a lI;have k3:=ga.at hX (j:=0) (by omega);have i1:(a:Int)<p.lines.length:=by omega
   have i2:(0:Int)<(p.line a).length:=by omega
   have hsz2:=hC.ok.size;by_cases bV:ao (p.line a)=true
   ·have hwB:word (p.line a) 0=aR:=by simpa [ao]using bV
    have hw:word (p.line a) 0=[98,108,111,99,107]:=hwB;have HN:Hid (eS f p al n (a+1) mk=R/\oq p (a+1)/\ao (p.line (a+1))=false):=by
     have B7:=GA.lF lI bV;exact⟨by rw[LW GA lI bV];exact Yz.out,.inl B7,B7.2.2⟩
    rw[jb bV]at hg;rw[hw]at k3;clear r1 r2 r3 ga ka;go_wp2_with fail
    go_roundg (2*n+1)
    case rel=>exact⟨n,a+1,mk,hn,rfl,by go_num,HK,HN.out.1,fun _=>⟨HOk.out,HN.out.2.1,by rw[HN.out.2.2];rfl⟩⟩
    case measure=>omega
   ·have hb:p.body a:=hsa.resolve_right (fun e=>bV e.2);have ZH:(word (p.line a) 0==[98,108,111,99,107])=false:=by rw[jZ];exact(vd hb).2
    rw[ja bV]at hg;cases n with
    |zero=>
     obtain⟨-,-,-,-,f5,-⟩:=hX.eB;have hX2:=hX.tG 2;have HN:Hid ({mk with out:=2}=R):=by unfold Hid;rw[<-Yz.out,eS,jb ka]
     clear r1 r2 r3 ga ka;go_wp2_with fail
     go_roundg 0
     case rel=>exact⟨0,a,{mk with out:=2},hn,rfl,rfl,⟨_,_,hX2⟩,by rw[<-HN.out,eS,ja (by simp)];exact rfl,fun e=>by cases e⟩
     case measure=>omega
    |succ n=>
     have hF0:¬((n+1:Nat):Int)=0:=by omega
     have KE:=fun W=>Ee (word (p.line a) 0) W
     have iN:mk.Ok (3*(fuel-(n+1))):=HOk.out;have HNN:Hid (n+1<=fuel):=hn;by_cases sx:word (p.line a) 0=[101,110,100]
     ·have KF:=hM.finish F a gl dt wr mk _ hb ga ⟨_,_,hX⟩ ka iN (by omega) sx;have HN:Hid (eS f p al n a (mk.finish f p (p.line a))=R):=by unfold Hid;rw[xg f p al (AI _),<-Yz.out,Td hb ka sx]
      have HNO:Hid (¬(mk.finish f p (p.line a)).out=0):=AI _;rw[sx]at KE k3;clear r1 r2 r3 ga ka ZH sx;generalize mk.finish f p (p.line a)=m2 at*;go_wp2_with (first
       |(go_at_call 85;refine(KE _).mono ?_;rintro e w2 ⟨rfl,rfl⟩)
       |(go_at_call 92;refine KF.mono ?_;rintro e w2 ⟨rfl,Ck⟩))
      go_roundg 0
      case rel=>exact⟨n,a,m2,by have:=HNN.out;omega,by go_num,rfl,Ck,HN.out,fun e=>absurd e HNO.out⟩
      case measure=>omega
     ·have hef:(word (p.line a) 0==[101,110,100])=false:=by rw[jZ];exact sx
      cases he:ends (word (p.line a) 0)
      ·obtain⟨KD,V9⟩:=hM.aS F a gl dt wr mk _ hb ga ⟨_,_,hX⟩ ka iN (by omega) he;have HN:Hid (eS f p al n (a+1) (mk.aS f p al (p.line a))=R):=by unfold Hid;rw[<-Yz.out,PF hb ka he]
       have HO3:Hid ((mk.aS f p al (p.line a)).Ok (3*(fuel-n))):=V9.mono (by omega);have HB:Hid (p.body (a+1)):=GA.qF hb he;rw[he]at KE;clear r1 r2 r3 ga ka sx iN V9;generalize mk.aS f p al (p.line a)=m2 at*;go_wp2_with (first
        |(go_at_call 85;refine(KE _).mono ?_;rintro e w2 ⟨rfl,rfl⟩)
        |(go_at_call 94;refine KD.mono ?_;rintro e w2 ⟨rfl,Ck⟩))
       go_roundg (2*n+1)
       case rel=>exact⟨n,a+1,m2,by have:=HNN.out;omega,by go_num,by go_num,Ck,HN.out,fun _=>⟨HO3.out,.inl HB.out,by rw[HB.out.2.2];rfl⟩⟩
       case measure=>omega
      ·obtain⟨KD,V9,Wa⟩:=hM.next F a gl dt wr mk _ hb ga ⟨_,_,hX⟩ iN he sx;have HN:Hid (eS f p al n (eX p (mk.next p (p.line a)).2) (mk.next p (p.line a)).1=R):=by unfold Hid;rw[<-Yz.out,PG hb ka he sx]
       have HO3:Hid ((mk.next p (p.line a)).1.Ok (3*(fuel-n))):=V9.mono (by omega);have HS3:Hid (oq p (eX p (mk.next p (p.line a)).2)):=Wa;rw[he]at KE;clear r1 r2 r3 ga ka sx iN V9 Wa;generalize (mk.next p (p.line a)).1=m2 at*;generalize eX p (mk.next p (p.line a)).2=b2 at*;go_wp2_with (first
        |(go_at_call 85;refine(KE _).mono ?_;rintro e w2 ⟨rfl,rfl⟩)
        |(go_at_call 93;refine KD.mono ?_;rintro e w2 ⟨rfl,Ck⟩))
       go_roundg (2*n+(if ao (p.line b2)=true then 2 else 1))
       case rel=>exact⟨n,b2,m2,by have:=HNN.out;omega,by go_num,rfl,Ck,HN.out,fun _=>⟨HO3.out,HS3.out,rfl⟩⟩
       case measure=>
        split<;>omega
  ·have HRR:Hid (mk=R):=by unfold Hid;rw[<-Yz.out,xg f p al ka]
   obtain⟨t1,t2⟩:=K1.out _ _ HK.out;have t3:=t2.symm;obtain⟨d0,d1,d2,d3,e0,e1,e2,e3⟩:=pU t1;obtain⟨vb',vt',hX⟩:=HK.out;obtain⟨-,-,-,c3,-,c5,-,-,c8,c9⟩:=hX.facts;have hon:¬((mk.out:Nat):Int)=0:=by omega
   have HOL:Hid (Below w0.heap.size w0 wr):=hX.br;obtain⟨ad,ct,rfl⟩:=vU hX.trace;obtain⟨p1,p2⟩:=xf t1 (.int .i64 ((mk.out:Nat):Int)) (.int .i64 mk.value) (.string (bs mk.trace)) (.int .i64 mk.count);have ktr:=hX.trace;have kcv:∀W:World,W.ownsRow w0.heap.size 5 1 (.slice ad mk.trace.length ct) mk.trace.length (ey mk.trace)->(convert 93 9 (.slice ad mk.trace.length ct)).run Tryz.prog W=.ok (.string (bs mk.trace)) W:=fun W hW=>JS hW
   have kne:=au ktr t1 (by decide);have ksd:=ay ktr ((Below.refl wr.heap.size wr).drew);have kst:=ay (av (av (av (av ktr (a:=⟨RB,0,none⟩) (.int .i64 ((mk.out:Nat):Int)) kne) (a:=⟨RB,1,none⟩) (.int .i64 mk.value) kne) (a:=⟨RB,2,none⟩) (.string (bs mk.trace)) kne) (a:=⟨RB,3,none⟩) (.int .i64 mk.count) kne) ((Below.refl _ _).drew);clear hX HK ka;go_upto_region 16 with fail
   go_region_held3 (fun W'=>W'.cell? ⟨x,154,none⟩=some (.int .i64 ((mk.out:Nat):Int))/\W'.cell? ⟨x,155,none⟩=some (.int .i64 mk.value)/\W'.cell? ⟨x,151,none⟩=some (.slice ad mk.trace.length ct)/\W'.cell? ⟨x,149,none⟩=some (.int .i64 mk.count)/\W'.ownsRow w0.heap.size 5 1 (.slice ad mk.trace.length ct) mk.trace.length (ey mk.trace)) (first|go_keep|(refine⟨?_,?_,?_,?_,?_⟩<;>first|exact ksd|exact kst|go_keep)) (fail)
   have p3:(((((wr.setCell ⟨RB,0,none⟩ (.int .i64 ((mk.out:Nat):Int))).setCell ⟨RB,1,none⟩ (.int .i64 mk.value)).setCell ⟨RB,2,none⟩ (.string (bs mk.trace))).setCell ⟨RB,3,none⟩ (.int .i64 mk.count)).drew).heap[RB]?=some (.cells #[.int .i64 ((mk.out:Nat):Int),.int .i64 mk.value,.string (bs mk.trace),.int .i64 mk.count] 73 (0,0)):=p1;go_wp2_with fail
   refine bodyPost_ret (dQ Tryz.results56 _ _ _ RB [.int .i64 ((mk.out:Nat):Int),.int .i64 mk.value,.string (bs mk.trace),.int .i64 mk.count] _ rfl (fun j u hu=>by rw[Nat.zero_add,cell_of_heap p3];simpa using hu) Tryz.underlying73 rfl vH) rfl ?_;exact⟨by rw[<-HRR.out];rfl,(HOL.out.trans (p2.mono ly)).drew⟩
end
end Mac
namespace Mac
open Go Go.RowKit Sq Aux Go.Proofs.YtmlgajhhnojdjaaGreatDoor.Own RefRa RefA Sim
def H8 (u o r v:Value):List Value:=[u,o]++(KV (List.replicate 24 0)++(qj (List.replicate 24 false)++(mF (List.replicate 24 0)++(ey (List.replicate 24 0)++(qj (List.replicate 50 false)++[.slice none 0 0,.int .i64 0,r,.slice none 0 0,v,.int .i64 0,.int .i64 0,.int .i64 0])))))
@[simp] theorem Wx (p ad : Option Addr) (o : Bool) (r : Int) (l c : Nat) : ED (.agg (H8 (.pointer p) (.bool o) (.int .i64 r) (.slice ad l c)).toArray) = True := eq_true ⟨p, o, r, ad, l, c, rfl⟩
@[simp] theorem YB (u o r v : Value) : JE (.agg (H8 u o r v).toArray) = H8 u o r v := rfl
section
variable (d:Option Tmp) (x y z u:Operand) (t:TypeId) (ps:String) (af:Array Edge) (g:Option (Nat×Bool)) (a:Act) (w:World) (K:Act->World->Prop) (Q:Exit->Act->World->Prop)
end
theorem Tp:RM.start.Ok 0:=by
 have z:∀{α:Type} (n:Nat) (d:α) (k:Nat),(List.replicate n d).getD k d=d:=fun n d k=>by
  rw[jA,jO];split<;>rfl
 refine⟨fun j=> ?_,fun j=> ?_,fun j=> ?_,jC _,jQ _,by decide,jC _⟩
 ·show aO ((List.replicate 24 (0:Int)).getD j 0)
  rw[z];unfold aO;decide
 ·show(List.replicate 24 (0:Nat)).getD j 0<=0
  rw[z];decide
 ·show aO (([]:List (Int×Bool)).getD j (0,false)).1
  unfold aO;simp
end Mac
namespace Aux
open Go Go.RowKit Sq RefR
def aT (w:World)(g:Nat)(L:List WS):Prop:=
 ∃cs,w.heap[g]?=some (.cells cs 155 (0,0))/\cs.size=25*L.length/\∀i j,i<L.length->j<25->cs[i*25+j]?=(lw L i).cells[j]?
section
variable {w w':World} {g:Nat} {L:List WS}
theorem aT.lt (h:aT w g L):g<w.heap.size:=by
 obtain⟨cs,h,-⟩:=h;rw[Array.getElem?_eq_some_iff]at h;exact h.1
theorem aT.below (h:aT w g L)(hb:Below w.heap.size w w'):aT w' g L:=by
 have hl:=h.lt;obtain⟨cs,h,h'⟩:=h;exact⟨cs,by rw[hb.block g hl];exact h,h'⟩
theorem aT.drew (h:aT w g L):aT w.drew g L:=h
theorem aT.drewN (h:aT w g L)(n:Nat):aT (w.drewN n) g L:=h
theorem aT.range (h:aT w g L)(hr:cP L)(i:Nat)(hi:i<L.length):w.rangeAt g (i*25) (lw L i).cells:=fun j v hv=>by
 obtain⟨cs,h,-,h'⟩:=h;have hj:j<25:=by
  rw[<-WS.cT (hr.fe i).ok];exact(List.getElem?_eq_some_iff.mp hv).1
 rw[cell_of_heap h,h' i j hi hj];exact hv
theorem aT.there (h:aT w g L)(i:Nat)(hi:i<L.length):w.there g (i*25) 25:=fun j hj=>by
 obtain⟨cs,h,hs,h'⟩:=h;rw[cell_of_heap h,frozen_of_heap h];have:i*25+j<cs.size:=by rw[hs];omega
 simp[this]
theorem aT.known (h:aT w g L)(i:Nat)(hi:i<L.length):w.cell? ⟨g,i*25,none⟩=some (.bool (lw L i).known):=by
 obtain⟨cs,h,-,h'⟩:=h;rw[cell_of_heap h,show i*25=i*25+0 by omega,h' i 0 hi (by omega)];rfl
theorem aT.frozen (h:aT w g L)(o:Nat):w.frozen? ⟨g,o,none⟩=false:=by
 obtain⟨cs,h,-⟩:=h;exact frozen_of_heap h o
theorem aT.store (h:aT w g L)(i:Nat)(hi:i<L.length){t:WS}(ht:t.Ok):aT (w.setCells g (i*25) t.cells) g (L.set i t):=by
 obtain⟨cs,h,hs,h'⟩:=h;obtain⟨cs',h1,h2,h3⟩:=eL g t.cells (i*25) w _ _ _ h;have hl:=WS.cT ht;refine⟨cs',h1,by rw[h2,hs];simp,fun a j ha hj=> ?_⟩;rw[List.length_set]at ha;rw[h3,lj L i t hi,hl];by_cases hai:a=i
 ·subst hai;rw[jb (by omega),jb rfl,show a*25+j-a*25=j by omega]
 ·rw[ja (by omega),ja hai];exact h' a j ha hj
theorem aT.other {b:Nat}(h:aT w g L)(ec:g≠b)(o:Nat)(vs:List Value):aT (w.setCells b o vs) g L:=by
 obtain⟨cs,h,h'⟩:=h;exact⟨cs,by rw[de b vs o w g ec];exact h,h'⟩
theorem aT.setCell (h:aT w g L)(i j:Nat)(hi:i<L.length)(hj:j<25)(v:Value){t:WS}(ht:t.Ok)(he:t.cells=(lw L i).cells.set j v):aT (w.setCell ⟨g,i*25+j,none⟩ v) g (L.set i t):=by
 obtain⟨cs,h,hs,h'⟩:=h;refine⟨_,heap_setCell_same h _ v,by simp[hs],fun a k ha hk=> ?_⟩;rw[List.length_set]at ha;rw[Array.getElem?_setIfInBounds,lj L i t hi];by_cases hai:a=i
 ·subst hai;rw[jb rfl,he,jd];by_cases hjk:j=k
  ·subst hjk;have hl:=WS.cT ht;rw[he,List.length_set]at hl;rw[jb rfl,jb (by rw[hs];omega),jb rfl,jb (by omega)]
  ·rw[ja (by omega),ja hjk];exact h' a k ha hk
 ·rw[ja (by omega),ja hai];exact h' a k ha hk
end
def dE (w:World)(b o:Nat):Array Value:=((List.range 25).map fun j=>(w.cell? ⟨b,o+j,none⟩).getD undef).toArray
def qh (w:World)(b o:Nat):Prop:=∃s:WS,s.Ok/\w.rangeAt b o s.cells/\w.there b o 25
theorem yv {w:World}{b o:Nat}{s:WS}(hs:s.Ok)(h:w.rangeAt b o s.cells):dE w b o=s.cells.toArray:=by
 unfold dE;congr 1;apply List.ext_getElem?
 intro j;rw[jJ];have hl:=WS.cT hs;by_cases hj:j<25
 ·rw[List.getElem?_range hj,Option.map_some];have hv:s.cells[j]?=some s.cells[j]:=jB _;rw[h j _ hv,hv];rfl
 ·rw[jG (by simp;omega),jG (by rw[hl];omega)];rfl
def pR:Value->Nat
 | .pointer (some ad)=>ad.off
 |_=>0
def xv (w:World)(v:Value):Prop:=∃b o,v=.pointer (some ⟨b,o,none⟩)/\qh w b o
@[simp] theorem mL (ad : Addr) : pR (.pointer (some ad)) = ad.off := rfl
@[simp] theorem Yn (w : World) (b o : Nat) : xv w (.pointer (some ⟨b, o, none⟩)) = qh w b o := by
 simp only[xv,Value.pointer.injEq,Option.some.injEq,Addr.mk.injEq,and_true,eq_iff_iff];exact⟨fun⟨b',o',⟨h1,h2⟩,h⟩=>by rw[h1,h2];exact h,fun h=>⟨b,o,⟨rfl,rfl⟩,h⟩⟩
theorem Lm (w:World)(b o:Nat)(h:qh w b o):(loadVar 155 ⟨b,o,none⟩).run Tryz.prog w=.ok (.agg (dE w b o)) w:=by
 obtain⟨s,hs,hr,ht⟩:=h;rw[yv hs hr];exact run_loadVar_mid w b o 155 s.cells _ hr Tryz.underlying155 rfl (eD hs)
theorem I5 (w:World)(b o:Nat)(xs:Array Value)(h:qh w b o)(hx:dh xs):(storeVar 155 ⟨b,o,none⟩ (.agg xs)).run Tryz.prog w=.ok () (w.setCells b o xs.toList):=by
 obtain⟨s,hs,hr,ht⟩:=h;obtain⟨t,Om,rfl⟩:=hx;refine run_storeVar_mid w b o 155 t.cells.toArray ?_ (ov Om) (all_oneCell_toArray (WS.xE t))
 rwa [<-WS.cT Om,<-List.size_toArray]at ht
section
variable (d:Option Tmp) (x y:Operand) (t:TypeId) (ps:String) (af:Array Edge) (g:Option (Nat×Bool)) (a:Act) (w:World) (K:Act->World->Prop) (Q:Exit->Act->World->Prop)
theorem mO (h:xv w (a.eval x)):Oper.wp Tryz.prog {dst:=d,op:=Op.load 155 x,type:=t,pos:=ps,after:=af,guard:=g} a w K Q=K (a.put d (.agg (dE w (jy (a.eval x)) (pR (a.eval x))))) w:=by
 obtain⟨b,o,hb,hh⟩:=h;have:=Lm w b o hh;unfold Oper.wp execOp;simp only[hb,Instr.loadAt,Instr.sureAddr,Sem.run_bind,Sem.run_pure,Result.andThen_ok,this,lO,mL];rfl
theorem kY (h:xv w (a.eval x))(h':rK (a.eval y)):Oper.wp Tryz.prog {dst:=d,op:=Op.store 155 x y,type:=t,pos:=ps,after:=af,guard:=g} a w K Q=K (a.put d undef) (w.setCells (jy (a.eval x)) (pR (a.eval x)) (qC (a.eval y)).toList):=by
 obtain⟨b,o,hb,hh⟩:=h;obtain⟨xs,hy,hx⟩:=h';have:=I5 w b o xs hh hx;unfold Oper.wp execOp;simp only[hb,hy,Instr.storeAt,Instr.sureAddr,Sem.run_bind,Sem.run_pure,Result.andThen_ok,this,lO,mL,tX];rfl
end
section
variable (o:Oper) (a:Act) (w:World) (K:Act->World->Prop) (Q:Exit->Act->World->Prop)
theorem zu (hl:iH o=true)(h:xv w (a.eval (lM o))):Oper.wp Tryz.prog o a w K Q=K (a.put o.dst (.agg (dE w (jy (a.eval (lM o))) (pR (a.eval (lM o)))))) w:=by
 obtain⟨d,op,t,ps,af,g⟩:=o;unfold iH at hl;split at hl
 ·rename_i t' x heq;simp only at heq;subst heq;obtain rfl:t'=155:=by simpa using hl
  exact mO d x t ps af g a w K Q h
 ·cases hl
theorem yy (hl:gx o=true)(h:xv w (a.eval (lS o)))(h':rK (a.eval (iJ o))):Oper.wp Tryz.prog o a w K Q=K (a.put o.dst undef) (w.setCells (jy (a.eval (lS o))) (pR (a.eval (lS o))) (qC (a.eval (iJ o))).toList):=by
 obtain⟨d,op,t,ps,af,g⟩:=o;unfold gx at hl;split at hl
 ·rename_i t' x y heq;simp only at heq;subst heq;obtain rfl:t'=155:=by simpa using hl
  exact kY d x y t ps af g a w K Q h h'
 ·cases hl
end
theorem aB.eC {w:World}{b:Nat}{s:WS}(h:aB w b s)(hs:s.Ok):qh w b 0:=⟨s,hs,h.range,h.there hs⟩
theorem aT.eC {w:World}{g:Nat}{L:List WS}(h:aT w g L)(hr:cP L)(i:Nat)(hi:i<L.length):qh w g (i*25):=⟨_,(hr.fe i).ok,h.range hr i hi,h.there i hi⟩
theorem aB.dE {w:World}{b:Nat}{s:WS}(h:aB w b s)(hs:s.Ok):Aux.dE w b 0=s.cells.toArray:=yv hs h.range
theorem aT.dE {w:World}{g:Nat}{L:List WS}(h:aT w g L)(hr:cP L)(i:Nat)(hi:i<L.length):Aux.dE w g (i*25)=(lw L i).cells.toArray:=yv (hr.fe i).ok (h.range hr i hi)
end Aux
namespace Aux
open Go Go.RowKit Sq RefR
theorem KQ:(Tryz.prog.info? 155).map (fun i=>(i.zero.map Value.cells,i.size,i.bytes))=some (some aI.cells.toArray,25,392):=by kernel_rfl
theorem Mk:Tryz.prog.underlying 152=some (.slice 155):=by kernel_rfl
theorem Bl (w:World)(n:Nat):aT (w.alloc (.cells (madeCells aI.cells.toArray (n*25)) 155)) w.heap.size (List.replicate n aI):=by
 refine⟨madeCells aI.cells.toArray (n*25),by show(w.heap.push _)[w.heap.size]?=_;simp,by rw[size_madeCells];simp;omega,fun i j hi hj=> ?_⟩;rw[List.length_replicate]at hi;rw[zU];have hs:aI.cells.toArray.size=25:=by decide
 have Jr:j<aI.cells.toArray.size:=by rw[hs];exact hj
 have e:(i*25+j)%aI.cells.toArray.size=j:=by rw[hs];omega
 unfold madeCells;rw[Array.getElem?_map,Array.getElem?_range,jb (by omega),Option.map_some,e];rw[getElem!_pos _ j Jr];have:aI.cells[j]?=some aI.cells[j]:=jB _;rw[this];simp
theorem CE (n:Nat)(hn:n<=4000)(w:World):(Instr.makeSlice 152 (.int .i64 (n:Int)) (.int .i64 (n:Int))).run Tryz.prog w=.ok (.slice (some ⟨w.heap.size,0,none⟩) n n) (w.alloc (.cells (madeCells aI.cells.toArray (n*25)) 155)):=by
 obtain⟨i,hi,hx⟩:=Option.map_eq_some_iff.1 KQ;simp only[Prod.mk.injEq]at hx;obtain⟨hz,hs,hb⟩:=hx;obtain⟨z,hz,hc⟩:=Option.map_eq_some_iff.1 hz;have:=run_make (P:=Tryz.prog) w 152 155 i z Mk hi hz .i64 .i64 n n (by omega) (Int.le_refl _) (by rw[hb];omega) (by omega);rw[hs,hc]at this;simpa using this
theorem zI (w:World):qh (w.alloc (.cells #[.bool false,.string ⟨#[]⟩,.string ⟨#[]⟩,.string ⟨#[]⟩,.string ⟨#[]⟩,.string ⟨#[]⟩,.string ⟨#[]⟩,.string ⟨#[]⟩,.string ⟨#[]⟩,.string ⟨#[]⟩,.string ⟨#[]⟩,.string ⟨#[]⟩,.string ⟨#[]⟩,.string ⟨#[]⟩,.string ⟨#[]⟩,.string ⟨#[]⟩,.string ⟨#[]⟩,.string ⟨#[]⟩,.string ⟨#[]⟩,.string ⟨#[]⟩,.string ⟨#[]⟩,.string ⟨#[]⟩,.string ⟨#[]⟩,.string ⟨#[]⟩,.string ⟨#[]⟩] 155)) w.heap.size 0:=aB.eC (aB.new w aI) bF
theorem z6 (w:World){t:WS}(ht:t.Ok):aB ((w.alloc (.cells #[.bool false,.string ⟨#[]⟩,.string ⟨#[]⟩,.string ⟨#[]⟩,.string ⟨#[]⟩,.string ⟨#[]⟩,.string ⟨#[]⟩,.string ⟨#[]⟩,.string ⟨#[]⟩,.string ⟨#[]⟩,.string ⟨#[]⟩,.string ⟨#[]⟩,.string ⟨#[]⟩,.string ⟨#[]⟩,.string ⟨#[]⟩,.string ⟨#[]⟩,.string ⟨#[]⟩,.string ⟨#[]⟩,.string ⟨#[]⟩,.string ⟨#[]⟩,.string ⟨#[]⟩,.string ⟨#[]⟩,.string ⟨#[]⟩,.string ⟨#[]⟩,.string ⟨#[]⟩] 155)).setCells w.heap.size 0 t.cells) w.heap.size t:=(aB.new w aI).store bF ht
theorem fH {w0 w:World}{B:Nat}(h:Below B w0 w)(hB:B<=w.heap.size)(cs:List Value):Below B w0 ((w.alloc (.cells #[.bool false,.string ⟨#[]⟩,.string ⟨#[]⟩,.string ⟨#[]⟩,.string ⟨#[]⟩,.string ⟨#[]⟩,.string ⟨#[]⟩,.string ⟨#[]⟩,.string ⟨#[]⟩,.string ⟨#[]⟩,.string ⟨#[]⟩,.string ⟨#[]⟩,.string ⟨#[]⟩,.string ⟨#[]⟩,.string ⟨#[]⟩,.string ⟨#[]⟩,.string ⟨#[]⟩,.string ⟨#[]⟩,.string ⟨#[]⟩,.string ⟨#[]⟩,.string ⟨#[]⟩,.string ⟨#[]⟩,.string ⟨#[]⟩,.string ⟨#[]⟩,.string ⟨#[]⟩] 155)).setCells w.heap.size 0 cs):=az (h.alloc hB _) hB 0 cs
end Aux
namespace RefZeR
open Go.RowKit Sq RefA RefR RefT RefU RefZc RefZd Aux
attribute [local go_sem ↓] mO kY
attribute [local go_sem] zI
def bg (n:Nat):Code->Option Code
 | .region k ops d=>if k=n then some (.region k ops d)else none
 | .seq a b=>match bg n a with
  |some c=>some c
  |none=>bg n b
 | .block _ c=>bg n c
 | .loop c=>bg n c
 | .scope c=>bg n c
 | .cond _ a b=>match bg n a with
  |some c=>some c
  |none=>bg n b
 |_=>none
noncomputable def W6:Code:=((Tryz.f52.body.bind (bg 38)).getD .skip)
theorem Bq (w:World):aB (w.alloc (.cells #[.bool false,.string ⟨#[]⟩,.string ⟨#[]⟩,.string ⟨#[]⟩,.string ⟨#[]⟩,.string ⟨#[]⟩,.string ⟨#[]⟩,.string ⟨#[]⟩,.string ⟨#[]⟩,.string ⟨#[]⟩,.string ⟨#[]⟩,.string ⟨#[]⟩,.string ⟨#[]⟩,.string ⟨#[]⟩,.string ⟨#[]⟩,.string ⟨#[]⟩,.string ⟨#[]⟩,.string ⟨#[]⟩,.string ⟨#[]⟩,.string ⟨#[]⟩,.string ⟨#[]⟩,.string ⟨#[]⟩,.string ⟨#[]⟩,.string ⟨#[]⟩,.string ⟨#[]⟩] 155)).drew w.heap.size aI:=aB.new w aI
theorem oE {B:Nat}{w0 w:World}(h:Below B w0 w)(hB:B<=w.heap.size):Below B w0 (w.alloc (.cells #[.bool false,.string ⟨#[]⟩,.string ⟨#[]⟩,.string ⟨#[]⟩,.string ⟨#[]⟩,.string ⟨#[]⟩,.string ⟨#[]⟩,.string ⟨#[]⟩,.string ⟨#[]⟩,.string ⟨#[]⟩,.string ⟨#[]⟩,.string ⟨#[]⟩,.string ⟨#[]⟩,.string ⟨#[]⟩,.string ⟨#[]⟩,.string ⟨#[]⟩,.string ⟨#[]⟩,.string ⟨#[]⟩,.string ⟨#[]⟩,.string ⟨#[]⟩,.string ⟨#[]⟩,.string ⟨#[]⟩,.string ⟨#[]⟩,.string ⟨#[]⟩,.string ⟨#[]⟩] 155)).drew:=below_drewN (h.alloc hB _) 1
set_option maxRecDepth 100000 in
set_option maxHeartbeats 8000000 in
theorem reg38 (a G n i g0 cap0 gl dt m:Nat)(t:WS×Bool)(s:WS)(L:List WS)(wr:World)(K:Act->World->Prop)(K1 K2 K3:Act->World->Prop)(P:Ending->World->Prop){u1 u2 u4 u5 u6 u7 u8 u9 u10 u11 u12 u13 u14 u15 u16 u17 u18 u19 u21 u22 u23 u24 u25 u26 u27 u28 u29 u30 u31 u32 u33 u34 u35 u36 u37 u38 u39 u40 u41 u42 u43 u44 u45 u46 u47 u48 u49 u50 u51 u52 u53 u54 u55 u56 u57 u58 u59 u60 u61 u62 u63 u64 u65 u66 u67 u68 u69 u70 u71 u72 u73 u74 u75 u76 u77 u78 u79 u80 u81 u82 u83 u84 u85 u86 u87 u88 u89 u90 u91 u92 u93 u94 u95 u96 u97 u98 u99 u100 u101 u102 u103 u104 u105 u106 u107 u108 u109 u110 u111 u112 u113 u114 u115 u116 u117 u118 u119 u120 u121 u122 u123 u124 u125 u126 u127 u128 u129 u130 u131 u132 u133 u134 u135 u136 u137 u138 u139 u140 u141 u142 u143 u144 u145 u146 u147 u148 u149 u150 u151 u152 u153 u154 u155 u156 u157 u158 u159 u160 u161 u162 u163 u164 u165 u166 u167 u168 u169 u170 u171 u172 u173 u174 u175 u176 u177 u178 u179 u180 u181 u182 u183 u184 u185 u186 u187 u188 u189 u190 u191 u192 u193 u194 u195 u196 u197 u198 u199 u200 u201 u202 u203 u204 u205 u206 u207 u208 u209 u210 u211 u212 u213 u214 u215 u216 u217 u218 u219:Value}
  (lg:i<n) (Co:i<L.length) (hO:cP L) (hs:lw L i=s) (hF:t.1.dT) (hR:aT wr G L)
  (Cm:∀W,Below wr.heap.size wr W->W.cell? ⟨a,0,none⟩=some (.slice (some ⟨g0,0,none⟩) n cap0))
  (vD:∀W,Below wr.heap.size wr W->W.cell? ⟨g0,i,none⟩=some (.slice (some ⟨gl,0,none⟩) m dt))
  (Ue:∀W,Below wr.heap.size wr W->Calls Tryz.prog 84 #[.pointer (some ⟨a,0,none⟩),.slice (some ⟨gl,0,none⟩) m dt,.agg s.cells.toArray] W fun e w'=>e=.returned (.tuple #[.agg t.1.cells.toArray,.bool t.2])/\Below W.heap.size W w')
  (hK:∀(x194 x195 x196 x197 x198 x199 x200 x201 x202 x203 x204 x205 x206 x207 x208 x209 x21:Value) (w':World),aT w' G L->Below wr.heap.size wr w'->K ⟨(List.toArray ((.pointer (some ⟨a,0,none⟩))::u1::u2::(.slice (some ⟨G,0,none⟩) n n)::u4::u5::u6::u7::u8::u9::u10::u11::u12::u13::u14::u15::u16::u17::u18::u19::(.int .i64 i)::x21::(.bool t.2)::u23::u24::u25::u26::u27::u28::u29::u30::u31::u32::u33::u34::u35::u36::u37::u38::u39::u40::u41::u42::u43::u44::u45::u46::u47::u48::u49::u50::u51::u52::u53::u54::u55::u56::u57::u58::u59::u60::u61::u62::u63::u64::u65::u66::u67::u68::u69::u70::u71::u72::u73::u74::u75::u76::u77::u78::u79::u80::u81::u82::u83::u84::u85::u86::u87::u88::u89::u90::u91::u92::u93::u94::u95::u96::u97::u98::u99::u100::u101::u102::u103::u104::u105::u106::u107::u108::u109::u110::u111::u112::u113::u114::u115::u116::u117::u118::u119::u120::u121::u122::u123::u124::u125::u126::u127::u128::u129::u130::u131::u132::u133::u134::u135::u136::u137::u138::u139::u140::u141::u142::u143::u144::u145::u146::u147::u148::u149::u150::u151::u152::u153::u154::u155::u156::u157::u158::u159::u160::u161::u162::u163::u164::u165::u166::u167::u168::u169::u170::u171::u172::u173::u174::u175::u176::u177::u178::u179::u180::u181::u182::u183::u184::u185::u186::u187::u188::u189::u190::u191::u192::u193::x194::x195::x196::x197::x198::x199::x200::x201::x202::x203::x204::x205::x206::x207::x208::x209::u210::u211::u212::u213::u214::u215::u216::u217::u218::u219::[])),[]⟩ w'):
  Code.wp Tryz.prog W6 (Exit.then K (Exit.inBlock 9 (Exit.then K1 (Exit.then K2 (Exit.inBlock 8 (Exit.then K3 (bodyPost Tryz.prog Tryz.f52 P))))))) ⟨(List.toArray ((.pointer (some ⟨a,0,none⟩))::u1::u2::(.slice (some ⟨G,0,none⟩) n n)::u4::u5::u6::u7::u8::u9::u10::u11::u12::u13::u14::u15::u16::u17::u18::u19::(.int .i64 i)::u21::u22::u23::u24::u25::u26::u27::u28::u29::u30::u31::u32::u33::u34::u35::u36::u37::u38::u39::u40::u41::u42::u43::u44::u45::u46::u47::u48::u49::u50::u51::u52::u53::u54::u55::u56::u57::u58::u59::u60::u61::u62::u63::u64::u65::u66::u67::u68::u69::u70::u71::u72::u73::u74::u75::u76::u77::u78::u79::u80::u81::u82::u83::u84::u85::u86::u87::u88::u89::u90::u91::u92::u93::u94::u95::u96::u97::u98::u99::u100::u101::u102::u103::u104::u105::u106::u107::u108::u109::u110::u111::u112::u113::u114::u115::u116::u117::u118::u119::u120::u121::u122::u123::u124::u125::u126::u127::u128::u129::u130::u131::u132::u133::u134::u135::u136::u137::u138::u139::u140::u141::u142::u143::u144::u145::u146::u147::u148::u149::u150::u151::u152::u153::u154::u155::u156::u157::u158::u159::u160::u161::u162::u163::u164::u165::u166::u167::u168::u169::u170::u171::u172::u173::u174::u175::u176::u177::u178::u179::u180::u181::u182::u183::u184::u185::u186::u187::u188::u189::u190::u191::u192::u193::u194::u195::u196::u197::u198::u199::u200::u201::u202::u203::u204::u205::u206::u207::u208::u209::u210::u211::u212::u213::u214::u215::u216::u217::u218::u219::[])),[]⟩ wr:=by
 subst hs;have U0:(i:Int)<n:=by omega
 have xT:dh t.1.cells.toArray:=⟨_,hF.ok,rfl⟩;have GA:aT wr.drew G L:=hR;have mZ:=Cm wr (Below.refl _ _);have AW:=vD wr (Below.refl _ _);have A1:=Bq wr;have fC:=oE (Below.refl wr.heap.size wr) (jC _);have sb:Below wr.heap.size wr wr.drew:=below_drewN (Below.refl _ _) 1;have hh:=GA.eC hO i Co;have hv:=GA.dE hO i Co;have hh2:=(hR.below fC).eC hO i Co;have YY:=(hR.below fC).dE hO i Co;have hcA:∀o,(wr.alloc o).cell? ⟨a,0,none⟩=some (.slice (some ⟨g0,0,none⟩) n cap0):=fun o=>Cm _ (bG wr o)
 have hclA:∀o,(wr.alloc o).cell? ⟨g0,i,none⟩=some (.slice (some ⟨gl,0,none⟩) m dt):=fun o=>vD _ (bG wr o)
 have HSA:=Ue _ fC;have HSB:=Ue _ sb
 conv=>arg 2;whnf
 go_region_law (first
  |(go_simp;go_at_call 84;refine HSA.mono ?_;rintro e w1 ⟨rfl,aw⟩;have Ez:qh w1 wr.heap.size 0:=(A1.below aw).eC bF)
  |(go_simp;go_at_call 84;refine HSB.mono ?_;rintro e w1 ⟨rfl,aw⟩))
 all_goals go_wp2_with fail
 all_goals first
  |exact hK _ _ _ _ _ _ _ _ _ _ _ _ _ _ _ _ _ _ (((hR.below fC).below aw).other (Nat.ne_of_lt hR.lt) 0 _) (az (fC.trans (aw.mono fC.size)) (jC _) 0 _)
  |exact hK _ _ _ _ _ _ _ _ _ _ _ _ _ _ _ _ _ _ ((GA.below aw).below (fH (Below.refl _ _) (jC _) _)) (sb.trans ((fH aw aw.size _).mono (jC _)))
end RefZeR
end Go.Proofs.YtmlgajhhnojdjaaGreatDoor

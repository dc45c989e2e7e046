import Derived.Test.YtmlgajhhnojdjaaGreatDoorRBR
namespace Go.Proofs.YtmlgajhhnojdjaaGreatDoor
namespace Mac
open Go Go.RowKit Sq Aux Go.Proofs.YtmlgajhhnojdjaaGreatDoor.Own RefRa RefA Sim PrjK PrjJ PrjL PrjM
def resM (m:RM):Value:=.agg #[.int .i64 ((m.out:Nat):Int),.int .i64 m.value,.string (bs m.trace),.int .i64 m.count]
structure V0 (w0:World)(x:Nat)(f:Fx)(p:RP)(al:List Int):Prop where
 aS:∀(kp:List (Nat×List Value×Fin 3)) (i gw cw:Nat) (w:World) (m:RM) (t:Nat),p.body i->Row w0 (p.line i) gw->cd w0 x {f with kept:=kp} w m->m.out=0->m.Ok t->t<=1000000->ends (word (p.line i) 0)=false->
  Calls Tryz.prog 94 #[.pointer (some ⟨x,0,none⟩),.slice (some ⟨gw,0,none⟩) (p.line i).length cw] w (fun e w'=>e=.returned (.tuple #[])/\cd w0 x {f with kept:=kp} w' (m.aS f p al (p.line i)))/\(m.aS f p al (p.line i)).Ok (t+3)
 next:∀(kp:List (Nat×List Value×Fin 3)) (i gw cw:Nat) (w:World) (m:RM) (t:Nat),p.body i->Row w0 (p.line i) gw->cd w0 x {f with kept:=kp} w m->m.Ok t->ends (word (p.line i) 0)=true->¬word (p.line i) 0=[101,110,100]->
  Calls Tryz.prog 93 #[.pointer (some ⟨x,0,none⟩),.slice (some ⟨gw,0,none⟩) (p.line i).length cw] w (fun e w'=>e=.returned (.int .i64 ((eX p (m.next p (p.line i)).2:Nat):Int))/\cd w0 x {f with kept:=kp} w' (m.next p (p.line i)).1)/\(m.next p (p.line i)).1.Ok t/\oq p (eX p (m.next p (p.line i)).2)
 finish:∀(kp:List (Nat×List Value×Fin 3)) (i gw cw:Nat) (w:World) (m:RM) (t:Nat),p.body i->Row w0 (p.line i) gw->cd w0 x {f with kept:=kp} w m->m.out=0->m.Ok t->t<=1000000->word (p.line i) 0=[101,110,100]->
  Calls Tryz.prog 92 #[.pointer (some ⟨x,0,none⟩),.slice (some ⟨gw,0,none⟩) (p.line i).length cw] w (fun e w'=>e=.returned (.tuple #[])/\cd w0 x {f with kept:=kp} w' (m.finish f p (p.line i)))
section
variable {w0 w:World} {x gw cw:Nat} {f:Fx} {m:RM} {p:RP} {ws:List B} {t:Nat} {al:List Int} {text:B} {raw:Bool} {vb vt:Value}
theorem O4 (hC:Ctx w0 p f)(hR:aF text false p)(hf:f.owns=true)(Ru:bY w0 f.vi al)(hn:∀n∈al,aO n):V0 w0 x f p al:=
 ⟨fun kp i gw cw w m t hb ga h h0 hO ht he=>QM (Up (f:={f with kept:=kp}) ⟨hC.prog,hC.ok,hC.aW⟩ hR hb ga hf Ru hn) h he h0 hO (by omega),
  fun kp i gw cw w m t hb ga h hO he hn=>⟨ri (f:={f with kept:=kp}) ⟨hC.prog,hC.ok,hC.aW⟩ hR hb ga h he hn,hO.next _,PJ hR (Vt hC hR hb he hn)⟩,
  fun kp i gw cw w m t hb ga h h0 hO ht hw=>J2 (f:={f with kept:=kp}) ⟨hC.prog,hC.ok,hC.aW⟩ hR hb ga h hw h0 hf hO ht⟩
theorem LW (hR:aF text raw p){a:Nat}(ha:a<p.lines.length)(hb:ao (p.line a)=true)(n:Nat)(m:RM):eS f p al n (a+1) m=eS f p al n a m:=by
 have h1:=hR.lF ha hb;cases n with
 |zero=>rfl
 |succ n=>rw[eS,eS,hb,h1.2.2];rfl
theorem PF {i n:Nat}(hb:p.body i)(h0:m.out=0)(he:ends (word (p.line i) 0)=false):eS f p al (n+1) i m=eS f p al n (i+1) (m.aS f p al (p.line i)):=by
 have ec:¬word (p.line i) 0=[101,110,100]:=fun e=>by rw[e]at he;exact absurd he (by decide)
 rw[eS,ja (by rw[h0];decide),hb.2.2];simp only[Bool.false_eq_true,if_false];rw[ja ec,ja (by rw[he];decide)]
theorem PG {i n:Nat}(hb:p.body i)(h0:m.out=0)(he:ends (word (p.line i) 0)=true)(ec:¬word (p.line i) 0=[101,110,100]):eS f p al (n+1) i m=eS f p al n (eX p (m.next p (p.line i)).2) (m.next p (p.line i)).1:=by
 rw[eS,ja (by rw[h0];decide),hb.2.2];simp only[Bool.false_eq_true,if_false];rw[ja ec,jb he]
theorem Td {i n:Nat}(hb:p.body i)(h0:m.out=0)(he:word (p.line i) 0=[101,110,100]):eS f p al (n+1) i m=m.finish f p (p.line i):=by
 rw[eS,ja (by rw[h0];decide),hb.2.2];simp only[Bool.false_eq_true,if_false];rw[jb he]
theorem JS (h:w.ownsRow w0.heap.size 5 1 vt m.trace.length (ey m.trace)):(convert 93 9 vt).run Tryz.prog w=.ok (.string (bs m.trace)) w:=by
 by_cases hn:m.trace.length=0
 ·have e:m.trace=[]:=List.length_eq_zero_iff.mp hn;rcases h.2 with⟨rfl,-⟩|⟨g,cap,cur,rfl,-⟩
  ·rw[run_convert_bytes_string (e:=5) _ _ _ _ _ _ Tryz.underlying93 Tryz.underlying5 Tryz.underlying9,e];rfl
  ·have:=run_convert_bytes_back (P:=Tryz.prog) w 93 9 5 ⟨g,0,none⟩ cap m.trace Tryz.underlying93 Tryz.underlying5 Tryz.underlying9 (fun j hj=>absurd hj (by omega));exact this
 ·obtain⟨g,cap,rfl,hc,hg,aD⟩:=dK h (by omega);refine run_convert_bytes_back (P:=Tryz.prog) w 93 9 5 ⟨g,0,none⟩ cap m.trace Tryz.underlying93 Tryz.underlying5 Tryz.underlying9 (fun j hj=> ?_);have Ke:(⟨g,0,none⟩:Addr).add j=⟨g,j,none⟩:=by unfold Addr.add;split<;>simp_all
  rw[Ke,aD j (by omega),ey,jJ,jB hj];rfl
theorem vH:(Tryz.prog.info? 73).map (·.size)=some 4:=by kernel_rfl
theorem xf {w1:World}{R:Nat}{u0 u1 u2 u3:Value}(hR:w1.heap[R]?=some (.cells #[u0,u1,u2,u3] 73 (0,0)))(v0 v1 v2 v3:Value):
  ((((w1.setCell ⟨R,0,none⟩ v0).setCell ⟨R,1,none⟩ v1).setCell ⟨R,2,none⟩ v2).setCell ⟨R,3,none⟩ v3).heap[R]?=some (.cells #[v0,v1,v2,v3] 73 (0,0))/\Below R w1 ((((w1.setCell ⟨R,0,none⟩ v0).setCell ⟨R,1,none⟩ v1).setCell ⟨R,2,none⟩ v2).setCell ⟨R,3,none⟩ v3):=by
 have e1:=Aux.heap_setCell_same hR 0 v0;have e2:=Aux.heap_setCell_same e1 1 v1;have e3:=Aux.heap_setCell_same e2 2 v2;have e4:=Aux.heap_setCell_same e3 3 v3;have hT:=((((bw.refl R w1).setCell 0 v0).setCell 1 v1).setCell 2 v2).setCell 3 v3;exact⟨e4,hT.below (jC _) (Nat.le_of_lt (lt_of_heap hR))⟩
theorem pU {w1:World}{R:Nat}{u0 u1 u2 u3:Value}(hR:w1.heap[R]?=some (.cells #[u0,u1,u2,u3] 73 (0,0))):w1.cell? ⟨R,0,none⟩=some u0/\w1.cell? ⟨R,1,none⟩=some u1/\w1.cell? ⟨R,2,none⟩=some u2/\w1.cell? ⟨R,3,none⟩=some u3/\
  w1.frozen? ⟨R,0,none⟩=false/\w1.frozen? ⟨R,1,none⟩=false/\w1.frozen? ⟨R,2,none⟩=false/\w1.frozen? ⟨R,3,none⟩=false:=
 ⟨by rw[cell_of_heap hR];rfl,by rw[cell_of_heap hR];rfl,by rw[cell_of_heap hR];rfl,by rw[cell_of_heap hR];rfl,frozen_of_heap hR 0,frozen_of_heap hR 1,frozen_of_heap hR 2,frozen_of_heap hR 3⟩
def Yp:List Value:=[.int .i64 0,.int .i64 0,.string ⟨#[]⟩,.int .i64 0]
set_option maxRecDepth 20000 in
set_option maxHeartbeats 4000000 in
theorem VP (hM:V0 w0 x f p al)(hC:Ctx w0 p f)(GA:aF text raw p)(h:cd w0 x f w m)(hO:m.Ok 0)(fuel:Nat)(hfu:fuel<=200000):
  Calls Tryz.prog 56 #[.pointer (some ⟨x,0,none⟩),.int .i64 (fuel:Nat)] w fun e w'=>e=.returned (resM (eS f p al fuel (p.blocks.getD 0 0) m))/\Below w0.heap.size w0 w':=by
 obtain⟨vb,vt,hV⟩:=h;have fC:=GA.first.1;obtain⟨s1,s2,-⟩:=RP.kj GA.pre.blocks fC;obtain⟨w1,tQ⟩:∃w1,w.alloc (.cells #[.int .i64 0,.int .i64 0,.string ⟨#[]⟩,.int .i64 0] 73)=w1:=⟨_,rfl⟩;have aw:Below w.heap.size w w1:=by rw[<-tQ];exact(Below.refl _ _).alloc (jC _) _
 have YJ:w1.heap[w.heap.size]?=some (.cells #[.int .i64 0,.int .i64 0,.string ⟨#[]⟩,.int .i64 0] 73 (0,0)):=by rw[<-tQ];exact jD
 have lf:=hV.below aw;obtain⟨F,hF⟩:∃kp,kp=(w.heap.size,Yp,(2:Fin 3))::f.kept:=⟨_,rfl⟩;have HM:Hid (cd w0 x {f with kept:=F} w1 m):=by
  subst hF;exact⟨vb,vt,⟨lf.base,lf.aJ,lf.boxes,lf.trace,lf.br,lf.len,fun e he=>by
   simp only[List.mem_cons]at he;rcases he with rfl|he
   ·exact YJ
   ·exact lf.loc e he⟩⟩
 have K1:Hid (∀wr m',cd w0 x {f with kept:=F} wr m'->wr.heap[w.heap.size]?=some (.cells #[.int .i64 0,.int .i64 0,.string ⟨#[]⟩,.int .i64 0] 73 (0,0))/\w.heap.size≠x):=by
  subst hF;rintro wr m' ⟨vb',vt',hX⟩;exact⟨hX.loc (w.heap.size,Yp,2) (by simp),hX.apart (e:=(w.heap.size,Yp,2)) (by simp)⟩
 have ly:w0.heap.size<=w.heap.size:=hV.br.size;clear hF;have HP:=hC.prog.below lf.br;obtain⟨gb,capb,l1,l2,l3⟩:=HP.Ao 0 fC;have TV:(0:Int)<p.blocks.length:=by omega
 obtain⟨c0,c1,c2,c3,c4,c5,c6,c7,c8,c9⟩:=lf.facts;have HR0:Hid (eS f p al fuel (p.blocks.getD 0 0) m=eS f p al fuel (p.blocks.getD 0 0) m):=rfl;have ir:oq p (p.blocks.getD 0 0):=.inr ⟨s1,s2⟩;generalize gD:eS f p al fuel (p.blocks.getD 0 0) m=R at HR0⊢;have HE:Hid (eS f p al fuel (p.blocks.getD 0 0) m=R):=gD;clear gD HR0;generalize p.blocks.getD 0 0=at0 at*;go_enter Tryz.func56,Tryz.ntmps56
 go_wp2_with fail
 have HO:Hid (m.Ok (3*(fuel-fuel))):=by rw[Nat.sub_self];exact hO
 clear c0 c1 c2 c3 c4 c5 c6 c7 c8 c9 l1 l2 l3 HP lf YJ;try rw[tQ]
 generalize hRR:w.heap.size=RB at*;clear tQ hRR;go_loopg [1,5,6,7] (2*fuel+2) (fun g v1 v5 v6 v7 wr=>∃(n a:Nat) (mk:RM),n<=fuel/\v1=.int .i64 (n:Nat)/\v5=.int .i64 (a:Nat)/\Hid (cd w0 x {f with kept:=F} wr mk)/\Hid (eS f p al n a mk=R)/\Hid (mk.out=0->mk.Ok (3*(fuel-n))/\oq p a/\g=2*n+(if ao (p.line a)=true then 2 else 1)))
 case atStart=>exact⟨fuel,at0,m,jC _,rfl,rfl,HM,HE,fun _=>⟨HO.out,ir,by rw[jb s2]⟩⟩
 case round=>
  obtain⟨n,a,mk,hn,rfl,rfl,HK,Yz,HS⟩:=hrel;clear HM HO HE ir s1 s2;by_cases ka:mk.out=0
  ·obtain⟨mo,hsa,hg⟩:=HS.out ka;have HOk:Hid (mk.Ok (3*(fuel-n))):=mo;clear mo;have lI:a<p.lines.length:=by
    rcases hsa with hb|⟨hb,-⟩
    ·exact hb.1
    ·exact hb
   obtain⟨g0,cap0,gl,dt,r1,r2,r3,r4,r5,ga⟩:=Tb (f:=f) hC.prog hC.ok lI;obtain⟨vb',vt',hX⟩:=HK.out;have c0:wr.cell? ⟨x,0,none⟩=some (.pointer (some ⟨f.a,0,none⟩)):=hX.facts.1;obtain⟨-,-,-,-,-,-,-,-,c8,-⟩:=hX.facts;rw[ka]at c8;have k1:=(hX.br.cell (p:=⟨f.a,0,none⟩) hC.prog.lt).trans r1;have k2:=(hX.br.cell (p:=⟨g0,a,none⟩) r3).trans r2;have tQ:=hC.ok.words a lI;have k3:=ga.at hX (j:=0) (by omega);have i1:(a:Int)<p.lines.length:=by omega
   have i2:(0:Int)<(p.line a).length:=by omega
   have hsz2:=hC.ok.size;by_cases bV:ao (p.line a)=true
   ·have hwB:word (p.line a) 0=aR:=by simpa [ao]using bV
    have hw:word (p.line a) 0=[98,108,111,99,107]:=hwB;have HN:Hid (eS f p al n (a+1) mk=R/\oq p (a+1)/\ao (p.line (a+1))=false):=by
     have B7:=GA.lF lI bV;exact⟨by rw[LW GA lI bV];exact Yz.out,.inl B7,B7.2.2⟩
    rw[jb bV]at hg;rw[hw]at k3;clear r1 r2 r3 ga ka;go_wp2_with fail
    go_roundg (2*n+1)
    case rel=>exact⟨n,a+1,mk,hn,rfl,by go_num,HK,HN.out.1,fun _=>⟨HOk.out,HN.out.2.1,by rw[HN.out.2.2];rfl⟩⟩
    case measure=>omega
   ·have hb:p.body a:=hsa.resolve_right (fun e=>bV e.2);have ZH:(word (p.line a) 0==[98,108,111,99,107])=false:=by rw[jZ];exact(vd hb).2
    rw[ja bV]at hg;cases n with
    |zero=>
     obtain⟨-,-,-,-,f5,-⟩:=hX.eB;have hX2:=hX.tG 2;have HN:Hid ({mk with out:=2}=R):=by unfold Hid;rw[<-Yz.out,eS,jb ka]
     clear r1 r2 r3 ga ka;go_wp2_with fail
     go_roundg 0
     case rel=>exact⟨0,a,{mk with out:=2},hn,rfl,rfl,⟨_,_,hX2⟩,by rw[<-HN.out,eS,ja (by simp)];exact rfl,fun e=>by cases e⟩
     case measure=>omega
    |succ n=>
     have hF0:¬((n+1:Nat):Int)=0:=by omega
     have KE:=fun W=>Ee (word (p.line a) 0) W
     have iN:mk.Ok (3*(fuel-(n+1))):=HOk.out;have HNN:Hid (n+1<=fuel):=hn;by_cases sx:word (p.line a) 0=[101,110,100]
     ·have KF:=hM.finish F a gl dt wr mk _ hb ga ⟨_,_,hX⟩ ka iN (by omega) sx;have HN:Hid (eS f p al n a (mk.finish f p (p.line a))=R):=by unfold Hid;rw[xg f p al (AI _),<-Yz.out,Td hb ka sx]
      have HNO:Hid (¬(mk.finish f p (p.line a)).out=0):=AI _;rw[sx]at KE k3;clear r1 r2 r3 ga ka ZH sx;generalize mk.finish f p (p.line a)=m2 at*;go_wp2_with (first
       |(go_at_call 85;refine(KE _).mono ?_;rintro e w2 ⟨rfl,rfl⟩)
       |(go_at_call 92;refine KF.mono ?_;rintro e w2 ⟨rfl,Ck⟩))
      go_roundg 0
      case rel=>exact⟨n,a,m2,by have:=HNN.out;omega,by go_num,rfl,Ck,HN.out,fun e=>absurd e HNO.out⟩
      case measure=>omega
     ·have hef:(word (p.line a) 0==[101,110,100])=false:=by rw[jZ];exact sx
      cases he:ends (word (p.line a) 0)
      ·obtain⟨KD,V9⟩:=hM.aS F a gl dt wr mk _ hb ga ⟨_,_,hX⟩ ka iN (by omega) he;have HN:Hid (eS f p al n (a+1) (mk.aS f p al (p.line a))=R):=by unfold Hid;rw[<-Yz.out,PF hb ka he]
       have HO3:Hid ((mk.aS f p al (p.line a)).Ok (3*(fuel-n))):=V9.mono (by omega);have HB:Hid (p.body (a+1)):=GA.qF hb he;rw[he]at KE;clear r1 r2 r3 ga ka sx iN V9;generalize mk.aS f p al (p.line a)=m2 at*;go_wp2_with (first
        |(go_at_call 85;refine(KE _).mono ?_;rintro e w2 ⟨rfl,rfl⟩)
        |(go_at_call 94;refine KD.mono ?_;rintro e w2 ⟨rfl,Ck⟩))
       go_roundg (2*n+1)
       case rel=>exact⟨n,a+1,m2,by have:=HNN.out;omega,by go_num,by go_num,Ck,HN.out,fun _=>⟨HO3.out,.inl HB.out,by rw[HB.out.2.2];rfl⟩⟩
       case measure=>omega
      ·obtain⟨KD,V9,Wa⟩:=hM.next F a gl dt wr mk _ hb ga ⟨_,_,hX⟩ iN he sx;have HN:Hid (eS f p al n (eX p (mk.next p (p.line a)).2) (mk.next p (p.line a)).1=R):=by unfold Hid;rw[<-Yz.out,PG hb ka he sx]
       have HO3:Hid ((mk.next p (p.line a)).1.Ok (3*(fuel-n))):=V9.mono (by omega);have HS3:Hid (oq p (eX p (mk.next p (p.line a)).2)):=Wa;rw[he]at KE;clear r1 r2 r3 ga ka sx iN V9 Wa;generalize (mk.next p (p.line a)).1=m2 at*;generalize eX p (mk.next p (p.line a)).2=b2 at*;go_wp2_with (first
        |(go_at_call 85;refine(KE _).mono ?_;rintro e w2 ⟨rfl,rfl⟩)
        |(go_at_call 93;refine KD.mono ?_;rintro e w2 ⟨rfl,Ck⟩))
       go_roundg (2*n+(if ao (p.line b2)=true then 2 else 1))
       case rel=>exact⟨n,b2,m2,by have:=HNN.out;omega,by go_num,rfl,Ck,HN.out,fun _=>⟨HO3.out,HS3.out,rfl⟩⟩
       case measure=>
        split<;>omega
  ·have HRR:Hid (mk=R):=by unfold Hid;rw[<-Yz.out,xg f p al ka]
   obtain⟨t1,t2⟩:=K1.out _ _ HK.out;have t3:=t2.symm;obtain⟨d0,d1,d2,d3,e0,e1,e2,e3⟩:=pU t1;obtain⟨vb',vt',hX⟩:=HK.out;obtain⟨-,-,-,c3,-,c5,-,-,c8,c9⟩:=hX.facts;have hon:¬((mk.out:Nat):Int)=0:=by omega
   have HOL:Hid (Below w0.heap.size w0 wr):=hX.br;obtain⟨ad,ct,rfl⟩:=vU hX.trace;obtain⟨p1,p2⟩:=xf t1 (.int .i64 ((mk.out:Nat):Int)) (.int .i64 mk.value) (.string (bs mk.trace)) (.int .i64 mk.count);have ktr:=hX.trace;have kcv:∀W:World,W.ownsRow w0.heap.size 5 1 (.slice ad mk.trace.length ct) mk.trace.length (ey mk.trace)->(convert 93 9 (.slice ad mk.trace.length ct)).run Tryz.prog W=.ok (.string (bs mk.trace)) W:=fun W hW=>JS hW
   have kne:=au ktr t1 (by decide);have ksd:=ay ktr ((Below.refl wr.heap.size wr).drew);have kst:=ay (av (av (av (av ktr (a:=⟨RB,0,none⟩) (.int .i64 ((mk.out:Nat):Int)) kne) (a:=⟨RB,1,none⟩) (.int .i64 mk.value) kne) (a:=⟨RB,2,none⟩) (.string (bs mk.trace)) kne) (a:=⟨RB,3,none⟩) (.int .i64 mk.count) kne) ((Below.refl _ _).drew);clear hX HK ka;go_upto_region 16 with fail
   go_region_held3 (fun W'=>W'.cell? ⟨x,154,none⟩=some (.int .i64 ((mk.out:Nat):Int))/\W'.cell? ⟨x,155,none⟩=some (.int .i64 mk.value)/\W'.cell? ⟨x,151,none⟩=some (.slice ad mk.trace.length ct)/\W'.cell? ⟨x,149,none⟩=some (.int .i64 mk.count)/\W'.ownsRow w0.heap.size 5 1 (.slice ad mk.trace.length ct) mk.trace.length (ey mk.trace)) (first|go_keep|(refine⟨?_,?_,?_,?_,?_⟩<;>first|exact ksd|exact kst|go_keep)) (fail)
   have p3:(((((wr.setCell ⟨RB,0,none⟩ (.int .i64 ((mk.out:Nat):Int))).setCell ⟨RB,1,none⟩ (.int .i64 mk.value)).setCell ⟨RB,2,none⟩ (.string (bs mk.trace))).setCell ⟨RB,3,none⟩ (.int .i64 mk.count)).drew).heap[RB]?=some (.cells #[.int .i64 ((mk.out:Nat):Int),.int .i64 mk.value,.string (bs mk.trace),.int .i64 mk.count] 73 (0,0)):=p1;go_wp2_with fail
   refine bodyPost_ret (dQ Tryz.results56 _ _ _ RB [.int .i64 ((mk.out:Nat):Int),.int .i64 mk.value,.string (bs mk.trace),.int .i64 mk.count] _ rfl (fun j u hu=>by rw[Nat.zero_add,cell_of_heap p3];simpa using hu) Tryz.underlying73 rfl vH) rfl ?_;exact⟨by rw[<-HRR.out];rfl,(HOL.out.trans (p2.mono ly)).drew⟩
end
end Mac
namespace Mac
open Go Go.RowKit Sq Aux Go.Proofs.YtmlgajhhnojdjaaGreatDoor.Own RefRa RefA Sim
def H8 (u o r v:Value):List Value:=[u,o]++(KV (List.replicate 24 0)++(qj (List.replicate 24 false)++(mF (List.replicate 24 0)++(ey (List.replicate 24 0)++(qj (List.replicate 50 false)++[.slice none 0 0,.int .i64 0,r,.slice none 0 0,v,.int .i64 0,.int .i64 0,.int .i64 0])))))
@[simp] theorem YB (u o r v : Value) : JE (.agg (H8 u o r v).toArray) = H8 u o r v := rfl
section
variable (d:Option Tmp) (x y z u:Operand) (t:TypeId) (ps:String) (af:Array Edge) (g:Option (Nat×Bool)) (a:Act) (w:World) (K:Act->World->Prop) (Q:Exit->Act->World->Prop)
end
theorem Tp:RM.start.Ok 0:=by
 have z:∀{α:Type} (n:Nat) (d:α) (k:Nat),(List.replicate n d).getD k d=d:=fun n d k=>by
  rw[jA,jO];split<;>rfl
 refine⟨fun j=> ?_,fun j=> ?_,fun j=> ?_,jC _,jQ _,by decide,jC _⟩
 ·show aO ((List.replicate 24 (0:Int)).getD j 0)
  rw[z];unfold aO;decide
 ·show(List.replicate 24 (0:Nat)).getD j 0<=0
  rw[z];decide
 ·show aO (([]:List (Int×Bool)).getD j (0,false)).1
  unfold aO;simp
end Mac
namespace Ran
open Go Go.RowKit Sq Aux Go.Proofs.YtmlgajhhnojdjaaGreatDoor.Own Mac Sim RunA RunB RefM RefZf PrjS FlwA FlwF FlwI FlwK FlwJ FlwM FlwO FlwP FlwQ FlwS FlwV FlwY FlwZ
def LU (m:RM):Value:=.agg #[.int .i64 ((m.out:Nat):Int),.int .i64 m.value,.string (bs m.trace),.int .i64 m.count]
theorem pT {α:Type}(n:Nat)(d:α)(k:Nat):(List.replicate n d).getD k d=d:=by
 rw[jA,jO];split<;>rfl
theorem Tq (q:QP)(al:List Int):Ro q al 0 (Own.start al) RM.start:=by
 refine⟨⟨rfl,rfl,rfl,fun b hb=>by cases hb⟩,⟨rfl,rfl,rfl,rfl,rfl⟩,rfl,rfl,fun i _ _=> ?_,fun k _=> ?_,fun k _ h=> ?_,rfl,rfl⟩
 ·show(List.replicate 12 (0:Int)).getD i 0=(List.replicate 24 (0:Int)).getD (2*i) 0
  rw[pT,pT]
 ·show(List.replicate 24 (0:Nat)).getD k 0=if _ then 0 else if(List.replicate 24 (0:UInt8)).getD k 0=119 then(List.replicate 24 (0:Nat)).getD k 0 else 0
  rw[pT,pT];simp
 ·have h:(List.replicate 24 (0:UInt8)).getD k 0=119:=h;rw[pT]at h;exact absurd h (by decide)
theorem DN {k:Nat}(hk:k<24):aV.getD k 0=1:=by
 show(List.replicate 24 1).getD k 0=1
 rw[jA,jO,jb hk];rfl
theorem L6 (q:QP):iO q aV RM.start:=by
 refine⟨by decide,fun k hk=> ?_⟩;rw[DN hk];unfold s9;have h1:RM.start.has.getD k false=false:=pT 24 false k;have h2:RM.start.ba.getD k 0=0:=pT 24 0 k;rw[h1,h2];split<;>decide
theorem DO:eI aV:=⟨by decide,fun k=>by
 by_cases hk:k<24
 ·rw[DN hk];decide
 ·rw[jA,jG (by show(List.replicate 24 1).length<=k;simp;omega)];decide⟩
theorem VS {text:B}{q:QP}(hg:Go.Proofs.YtmlgajhhnojdjaaGreatDoor.RunB.Good text q){p:RP}(hp:aK text false=(some p,0,0)){al:List Int}{n:Nat}{f:Fx}(hf:f.owns=true){ans:Nat×Int×Go.Proofs.YtmlgajhhnojdjaaGreatDoor.Own.Own}(hr:ea q f.room n (q.blocks.getD 0 []) (Own.start al)=some ans):
  LU (eS f p al n (p.blocks.getD 0 0) RM.start)=PE ans:=by
 obtain⟨p',E,Cr,hD,hn⟩:=hg.done;have e:=Cr.symm.trans hp;simp only[Prod.mk.injEq,Option.some.injEq,and_true]at e;subst e;have hS:=tC hg.read;have ie:=hD.both.aW;have hI:=hD.inv.inv;have hU:rQ q (fun b=>E.getD b []):=⟨fun b hb=>hD.ok hb,hI.start,fun b hb hz x hx=>hI.step b hb rfl hz x hx⟩;have h0:¬E.getD 0 []=ar:=cR DO hI.start (vy pC);have gX:∀b,b<q.blocks.length->¬E.getD b []=ar->cX q (q.blocks.getD b []) (E.getD b [])=none:=fun b hb hz=>by
  have:=cF _ _ _ hn b (jQ _) (by omega);rw[cV,ja hz]at this;exact this
 obtain⟨b1,b2⟩:=vc hD.both hD.pos;obtain⟨e1,e2,e3,e4⟩:=E6 hD.both hS hf (fun b=>E.getD b []) hU hD.inv.full gX n (p'.blocks.getD 0 0) (E.getD 0 []) (Own.start al) RM.start ans b1 (hD.ok hD.pos) ((hD.inv.full 0 hD.pos).resolve_left h0) (by rw[<-b2];exact gX 0 hD.pos h0) (by rw[<-b2];exact fun x hx=>hU.step 0 hD.pos h0 x hx) ((Bal.lU ie).mono _ _ _ DO (hD.ok hD.pos) hI.start ⟨DM q al,Bal.PL q al⟩) (Tq q al) (CU (L6 q) (hD.ok hD.pos).len hI.start) rfl (by rw[<-b2];exact hr);unfold LU PE;rw[e1,e2,e3,e4]
def FI (text:B)(al:List Int)(fuel room:Int)(v:Value)(c k:Int):Prop:=
 (¬c=0/\(∀c' k',mg text c' k'->c'=c/\k'=k)/\v=z7)\/((∀c' k',mg text c' k'->c'=0/\k'=0)/\¬ll al fuel room/\v=z7/\c=6/\k=0)\/
  (ll al fuel room/\(∀c' k',mg text c' k'->c'=0/\k'=0)/\c=0/\k=0/\∃(p:RP) (f:Fx),aK text false=(some p,0,0)/\f.owns=true/\f.room=room/\v=LU (eS f p al fuel.toNat (p.blocks.getD 0 0) RM.start))
theorem IU {text:B}{al:List Int}{fuel room:Int}{v v':Value}{c k c' k':Int}(h:FJ text al fuel room v c k)(h':FI text al fuel room v' c' k'):v=v'/\c=c'/\k=k':=by
 rcases h with⟨h1,h2,rfl⟩|⟨h1,h2,rfl,rfl,rfl⟩|⟨h1,rfl,rfl,q,ans,h2,h3,rfl⟩
 ·rcases h' with⟨g1,g2,rfl⟩|⟨g1,-⟩|⟨-,g1,-⟩
  ·exact⟨rfl,(g2 _ _ h1).1,(g2 _ _ h1).2⟩
  ·exact absurd (g1 _ _ h1).1 h2
  ·exact absurd (g1 _ _ h1).1 h2
 ·rcases h' with⟨g1,g2,-⟩|⟨-,-,rfl,rfl,rfl⟩|⟨g1,-⟩
  ·exact absurd (g2 _ _ h1).1.symm g1
  ·exact⟨rfl,rfl,rfl⟩
  ·exact absurd g1 h2
 ·rcases h' with⟨g1,g2,-⟩|⟨-,g1,-⟩|⟨-,-,rfl,rfl,p,f,g1,g2,rfl,rfl⟩
  ·exact absurd (g2 _ _ h2.chk).1.symm g1
  ·exact absurd h1 g1
  ·exact⟨(VS h2 g1 g2 h3).symm,rfl,rfl⟩
theorem FI.form {text:B}{al:List Int}{fuel room:Int}{v:Value}{c k:Int}(h:FI text al fuel room v c k):∃(o x:Int) (t:B) (l:Int),v=.agg #[.int .i64 o,.int .i64 x,.string (bs t),.int .i64 l]:=by
 rcases h with⟨-,-,rfl⟩|⟨-,-,rfl,-⟩|⟨-,-,-,-,p,f,-,-,-,rfl⟩
 ·exact⟨0,0,[],0,rfl⟩
 ·exact⟨0,0,[],0,rfl⟩
 ·exact⟨_,_,_,_,rfl⟩
end Ran
namespace Ran
open Go Go.RowKit Sq Aux Go.Proofs.YtmlgajhhnojdjaaGreatDoor.Own Mac Sim RunA RunB RefM RefZf FlwZ FlwZb
theorem OT (p ad:Option Addr)(l c:Nat)(r:Int):(((Tryz.zeroCells95.setIfInBounds 0 (.pointer p)).setIfInBounds 1 (.bool true)).setIfInBounds 150 (.int .i64 r)).setIfInBounds 152 (.slice ad l c)=(H8 (.pointer p) (.bool true) (.int .i64 r) (.slice ad l c)).toArray:=by kernel_rfl
theorem Sp (w:World)(a:Nat)(o:Bool)(r:Int)(vi:Value):cd w w.heap.size ⟨a,o,r,vi,[]⟩ (w.alloc (.cells (H8 (.pointer (some ⟨a,0,none⟩)) (.bool o) (.int .i64 r) vi).toArray 95)) RM.start:=
 ⟨.slice none 0 0,.slice none 0 0,⟨jC _,jD,World.ownsRow_nil _ _ _ _,World.ownsRow_nil _ _ _ _,(Below.refl _ _).alloc (jC _) _,⟨rfl,rfl,rfl,rfl,rfl⟩,fun e he=>by cases he⟩⟩
theorem Cf {text:B}{w w':World}{e:Ending}(h:qx text w e w'):Below w.heap.size w w'/\∃v c k,e=.returned (.tuple #[v,.int .i64 c,.int .i64 k])/\(∀c' k',mg text c' k'->c'=c/\k'=k)/\
  (¬c=0\/(c=0/\k=0/\∃(p:RP) (a:Nat),v=.pointer (some ⟨a,0,none⟩)/\aK text false=(some p,0,0)/\bf w' a p/\p.Ok)):=by
 obtain⟨hb,v,c,k,he,hs⟩:=QD h;refine⟨hb,v,c,k,he,hs,?_⟩;obtain⟨-,⟨c1,k1,h1,h2⟩|⟨p,L,h1,hL,⟨h3,h2⟩|⟨h3,a,h2,hp,cf,-⟩⟩⟩:=h
 ·rw[he]at h2;simp only[Ending.returned.injEq,Value.tuple.injEq,Array.mk.injEq,List.cons.injEq,Value.int.injEq,true_and,and_true]at h2;obtain⟨-,rfl,rfl⟩:=h2;obtain⟨g1,-⟩:=y9 h1;exact .inl (by omega)
 ·rw[he]at h2;simp only[Ending.returned.injEq,Value.tuple.injEq,Array.mk.injEq,List.cons.injEq,Value.int.injEq,true_and,and_true]at h2;obtain⟨-,rfl,-⟩:=h2;exact .inl (by decide)
 ·rw[he]at h2;simp only[Ending.returned.injEq,Value.tuple.injEq,Array.mk.injEq,List.cons.injEq,Value.int.injEq,true_and,and_true]at h2;obtain⟨rfl,rfl,rfl⟩:=h2;exact .inr ⟨rfl,rfl,p,a,rfl,h1,hp,cf⟩
set_option maxRecDepth 20000 in
theorem Vn (ad:Option Addr)(n c:Nat)(f m r:Int)(w:World):Calls Tryz.prog 55 #[.slice ad n c,.int .i64 f,.int .i64 m,.int .i64 r] w fun e w'=>e=.returned (.bool (decide (n<=100/\0<=f/\f<=m/\0<=r/\r<=50)))/\w'=w:=by
 go_enter Tryz.func55,Tryz.ntmps55
 by_cases h1:n<=100<;>by_cases h2:0<=f<;>by_cases h3:f<=m<;>by_cases h4:0<=r<;>by_cases h5:r<=50
 all_goals
  go_wp2<;>(go_ret;simp[h1,h2,h3,h4,h5])
theorem Su {text:B}{p:RP}(hp:aK text false=(some p,0,0)){a:Nat}{w:World}(hP:bf w a p)(cf:p.Ok)(vi:Value)(al:List Int)(hf:bY w vi al)(pH:∀n∈al,aO n)(fuel room:Int)(hm:ll al fuel room)(W:World)(hW:cd w w.heap.size ⟨a,true,room,vi,[]⟩ W RM.start):
  Calls Tryz.prog 56 #[.pointer (some ⟨w.heap.size,0,none⟩),.int .i64 fuel] W fun e w'=>e=.returned (LU (eS ⟨a,true,room,vi,[]⟩ p al fuel.toNat (p.blocks.getD 0 0) RM.start))/\Below w.heap.size w w':=by
 obtain⟨hR,-⟩:=jz hp;obtain⟨-,h0,h1,-⟩:=hm;obtain⟨n,rfl⟩:∃n:Nat,fuel=n:=⟨fuel.toNat,by omega⟩;have hC:Ctx w p ⟨a,true,room,vi,[]⟩:=⟨hP,cf,hR.pre.aW⟩;exact VP (O4 hC hR rfl hf pH) hC hR hW Tp n (by omega)
set_option maxRecDepth 20000 in
set_option maxHeartbeats 4000000 in
theorem LQ (text:B)(vi:Value)(al:List Int)(fuel room:Int)(w:World)(hf:bY w vi al)(pH:∀n∈al,aO n)(h:text.length<=1048576):
  Calls Tryz.prog 40 #[.string (bs text),vi,.int .i64 fuel,.int .i64 room] w fun e w'=>(∃v c k,Hid (FI text al fuel room v c k)/\e=.returned (.tuple #[v,.int .i64 c,.int .i64 k]))/\Below w.heap.size w w':=by
 obtain⟨w0,qT⟩:∃w0,w.alloc (.cells #[.int .i64 0,.int .i64 0,.string ⟨#[]⟩,.int .i64 0] 73)=w0:=⟨_,rfl⟩;have fC:Below w.heap.size w w0:=by rw[<-qT];exact(Below.refl _ _).alloc (jC _) _
 have Ol:w0.heap.size=w.heap.size+1:=by rw[<-qT];simp
 have Xi:w0.heap[w.heap.size]?=some (.cells #[.int .i64 0,.int .i64 0,.string ⟨#[]⟩,.int .i64 0] 73 (0,0)):=by rw[<-qT];exact jD
 have K:=FY text w0 (by omega);go_enter Tryz.func40,Tryz.ntmps40
 go_upto_region 1 with fail
 try rw[qT]
 clear qT;have HR:Hid (∀W,Below w0.heap.size w0 W->W.heap[w.heap.size]?=some (.cells #[.int .i64 0,.int .i64 0,.string ⟨#[]⟩,.int .i64 0] 73 (0,0))):=fun W hW=>by rw[hW.block _ (by omega)];exact Xi
 clear Xi;go_upto_region 2 with(go_at_call 34;refine K.mono ?_;rintro e w1 GP;obtain⟨aw,v,c,k,rfl,Wu,Kk⟩:=Cf GP;have Cb:Hid (Below w0.heap.size w0 w1):=aw;have HS:Hid (∀c' k',mg text c' k'->c'=c/\k'=k):=Wu;have HP:Hid _:=Kk;clear GP aw Kk Wu)
 rcases HP.out with hc|⟨rfl,rfl,p,a,rfl,MV,yR,cf⟩
 ·have cb:(c==0)=false:=by rw[jZ];exact hc
  have HC:Hid (¬c=0):=hc;clear hc HP;have oD:=HR.out w1 Cb.out;obtain⟨d0,d1,d2,d3,f0,f1,f2,f3⟩:=pU oD;obtain⟨e4,zj⟩:=xf oD (.int .i64 0) (.int .i64 0) (.string ⟨#[]⟩) (.int .i64 0);go_wp2
  refine bodyPost_ret (dZ Tryz.results40 _ _ _ w.heap.size [.int .i64 0,.int .i64 0,.string ⟨#[]⟩,.int .i64 0] _ rfl (fun j u hu=>by rw[Nat.zero_add,cell_of_heap e4];simpa using hu) Tryz.underlying73 rfl vH) rfl ?_;refine⟨⟨_,_,_,.inl ⟨HC.out,HS.out,rfl⟩,rfl⟩,(fC.trans (Cb.out.mono (by omega))).trans zj⟩
 ·clear HP;have pG:bY w1 vi al:=eK (eK hf fC (jC _)) Cb.out (jC _);obtain⟨ad,cap,rfl,-⟩:=id hf;have KM:=fun W=>Vn ad al.length cap fuel 1000 room W
  by_cases hm:ll al fuel room
  ·have hd:decide (al.length<=100/\0<=fuel/\fuel<=1000/\0<=room/\room<=50)=true:=decide_eq_true hm;simp only[hd]at KM;have hMS:=Sp w1 a true room (.slice ad al.length cap);have KR:=Su MV yR cf (.slice ad al.length cap) al pG pH fuel room hm _ hMS;rw[<-OT]at KR;have Ud:Hid (aK text false=(some p,0,0)):=MV;have HM:Hid (ll al fuel room):=hm;clear hm hd hf pG pH yR K cf MV hMS;go_wp2_with (first
    |(go_at_call 55;refine(KM _).mono ?_;rintro e w2 ⟨rfl,rfl⟩)
    |(go_at_call 56;refine KR.mono ?_;rintro e w3 ⟨rfl,lJ⟩;have hr3:=HR.out w3 (Cb.out.trans (lJ.mono Cb.out.size));obtain⟨d0,d1,d2,d3,f0,f1,f2,f3⟩:=pU hr3;obtain⟨e4,zj⟩:=xf hr3 (.int .i64 (((eS ⟨a,true,room,.slice ad al.length cap,[]⟩ p al fuel.toNat (p.blocks.getD 0 0) RM.start).out:Nat):Int)) (.int .i64 (eS ⟨a,true,room,.slice ad al.length cap,[]⟩ p al fuel.toNat (p.blocks.getD 0 0) RM.start).value) (.string (bs (eS ⟨a,true,room,.slice ad al.length cap,[]⟩ p al fuel.toNat (p.blocks.getD 0 0) RM.start).trace)) (.int .i64 (eS ⟨a,true,room,.slice ad al.length cap,[]⟩ p al fuel.toNat (p.blocks.getD 0 0) RM.start).count);have HRR:Hid (∃(p':RP) (f:Fx),aK text false=(some p',0,0)/\f.owns=true/\f.room=room/\LU (eS ⟨a,true,room,.slice ad al.length cap,[]⟩ p al fuel.toNat (p.blocks.getD 0 0) RM.start)=LU (eS f p' al fuel.toNat (p'.blocks.getD 0 0) RM.start)):=⟨p,_,Ud.out,rfl,rfl,rfl⟩;generalize eS ⟨a,true,room,.slice ad al.length cap,[]⟩ p al fuel.toNat (p.blocks.getD 0 0) RM.start=R at*;simp only[LU]))
   refine bodyPost_ret (dZ Tryz.results40 _ _ _ w.heap.size [.int .i64 ((R.out:Nat):Int),.int .i64 R.value,.string (bs R.trace),.int .i64 R.count] _ rfl (fun j u hu=>by rw[Nat.zero_add,cell_of_heap e4];simpa using hu) Tryz.underlying73 rfl vH) rfl ?_;obtain⟨p',f,g1,g2,g3,g4⟩:=HRR.out;refine⟨⟨_,_,_,.inr (.inr ⟨HM.out,HS.out,rfl,rfl,p',f,g1,g2,g3,g4⟩),rfl⟩,((fC.trans (Cb.out.mono (by omega))).trans (lJ.mono (by have:=Cb.out.size;omega))).trans zj⟩
  ·have hd:decide (al.length<=100/\0<=fuel/\fuel<=1000/\0<=room/\room<=50)=false:=decide_eq_false hm;simp only[hd]at KM;have HM:Hid (¬ll al fuel room):=hm;clear hm hd hf pG pH yR K cf MV;have oD:=HR.out w1 Cb.out;obtain⟨d0,d1,d2,d3,f0,f1,f2,f3⟩:=pU oD;obtain⟨e4,zj⟩:=xf oD (.int .i64 0) (.int .i64 0) (.string ⟨#[]⟩) (.int .i64 0);go_wp2_with (go_at_call 55;refine(KM _).mono ?_;rintro e w2 ⟨rfl,rfl⟩)
   refine bodyPost_ret (dZ Tryz.results40 _ _ _ w.heap.size [.int .i64 0,.int .i64 0,.string ⟨#[]⟩,.int .i64 0] _ rfl (fun j u hu=>by rw[Nat.zero_add,cell_of_heap e4];simpa using hu) Tryz.underlying73 rfl vH) rfl ?_;refine⟨⟨_,_,_,.inr (.inl ⟨HS.out,HM.out,rfl,rfl,rfl⟩),rfl⟩,(fC.trans (Cb.out.mono (by omega))).trans zj⟩
end Ran
namespace MadA
open Go Sq
def Yk (i:Fin 5):B:=match i with
 |0=>[112]|1=>[113]|2=>[120,46,97]|3=>[120,46,98]|4=>[111,46,115]
def Yl (i:Fin 5):Nat×Nat:=match i with
 |0=>(1,0)|1=>(2,0)|2=>(3,1)|3=>(3,2)|4=>(4,3)
inductive ML where
 |new (i:Fin 5)
 |load (i:Fin 5)
 |store (i:Fin 5)
 |move (i k:Fin 5)
 |drop (i:Fin 5)
 |some (k:Fin 5)
def ML.text:ML->B
 |new i=>[110,101,119,32]++Yk i++[32,110]
 |load i=>[108,111,97,100,32,110,32]++Yk i
 |store i=>[115,116,111,114,101,32]++Yk i++[32,110]
 |move i k=>[109,111,118,101,32]++Yk i++([32]++Yk k)
 |drop i=>[100,114,111,112,32]++Yk i
 |some k=>[115,111,109,101,32,111,32]++Yk k
def ML.q (n:Nat):ML->ab
 |new i=>⟨n,9,[Yl i,(0,0)],0,0,[]⟩
 |load i=>⟨n,10,[(0,0),Yl i],0,0,[]⟩
 |store i=>⟨n,11,[Yl i,(0,0)],0,0,[]⟩
 |move i k=>⟨n,12,[Yl i,Yl k],0,0,[]⟩
 |drop i=>⟨n,15,[Yl i],0,0,[]⟩
 |some k=>⟨n,14,[(4,0),Yl k],0,0,[]⟩
instance:DecidableEq ab:=fun x y=>decidable_of_iff (x.num=y.num/\x.op=y.op/\x.places=y.places/\x.number=y.number/\x.flag=y.flag/\x.next=y.next)
 ⟨fun⟨h1,h2,h3,h4,h5,h6⟩=>by cases x;cases y;simp only at h1 h2 h3 h4 h5 h6;subst h1 h2 h3 h4 h5 h6;rfl,fun h=>by subst h;exact⟨rfl,rfl,rfl,rfl,rfl,rfl⟩⟩
end MadA
namespace MadM
open Go Sq MadA
structure MM where
 p:Bool
 q:Bool
 a:Bool
 b:Bool
 o:Fin 3
def MM.has (m:MM)(k:Fin 5):Bool:=match k with|0=>m.p|1=>m.q|2=>m.a|3=>m.b|4=>m.o==1
end MadM
namespace MadB
theorem ZP:True:=trivial
end MadB
namespace MadC
theorem ZQ:True:=trivial
end MadC
namespace MadD
theorem ZR:True:=trivial
end MadD
namespace MadE
theorem ZS:True:=trivial
end MadE
namespace RunB
open Go Go.RowKit Sq Aux Go.Proofs.YtmlgajhhnojdjaaGreatDoor.Own RunA PrjG PrjJ PrjK PrjM PrjS FlwZ FlwZa MadE
theorem Gg (w:World):bY w (.slice none 0 0) []:=⟨none,0,rfl,jC _,jQ _,fun _j hj=>absurd hj (Nat.not_lt_zero _)⟩
end RunB
end Go.Proofs.YtmlgajhhnojdjaaGreatDoor

import Derived.Test.YtmlgajhhnojdjaaGreatDoorVBF
set_option maxHeartbeats 8000000
namespace Go.Proofs.YtmlgajhhnojdjaaGreatDoor
namespace El
open Go Go.RowKit Sq Aux PrjF PrjG PrjJ PrjK PrjL PrjM PrjP PrjQ PrjS FlwA FlwE
section
variable {z x a:Nat} {w0 w:World} {ve:Value} {un:List Bool} {m:Mk} {O:Nat->Prop}
theorem ie {z:Nat}{w:World}{l:ab}{vp vn:Value}{g:Nat}(h:aE z w l vp vn)(hb:w.heap[g]?=some (.cells (cT (l,vp,vn)).toArray 115 (0,0))):mo z w ⟨g,0,none⟩ [l] [(vp,vn)]:=by
 refine⟨rfl,fun j u hu=> ?_,fun j hj=> ?_⟩
 ·have:(aK [l] [(vp,vn)])=cT (l,vp,vn):=by simp[aK]
  rw[this]at hu;exact World.news_of_block hb j u (by simpa using hu)
 ·simp at hj;subst hj;exact h
theorem qu {O O':Nat->Prop}{w w':World}{b:Nat}{e:TypeId}{s:Nat}{v:Value}{n:Nat}{xs:List Value}(h:w.ownsRow b e s v n xs)(hF:Fr O w O' w')(hO:∀g,v.ownBlock=some g->¬O g):w'.ownsRow b e s v n xs:=
 dH h fun g hg=>hF.block g (h.lt g hg).2 (hO g hg)
theorem LD {O O':Nat->Prop}{w w':World}{l:ab}{vp vn:Value}(h:aE z w l vp vn)(hF:Fr O w O' w')(hp:∀g,vp.ownBlock=some g->¬O g)(hn:∀g,vn.ownBlock=some g->¬O g):aE z w' l vp vn:=
 ⟨qu h.places hF hp,qu h.next hF hn⟩
theorem dM.grown {w':World}{vb v:Value}{us:List Value}{vss:List (List (Value×Value))}(h:dM z w0 x a ve w un m O vb us vss){zz n:Nat}{xs:List Value}(hr:w.ownsRow zz 115 6 v n xs)(hO:∀g,v.ownBlock=some g->¬O g/\w0.heap.size<=g)(hg:w.grownBy w' v.ownBlock):dM z w0 x a ve w' un m O vb us vss:=by
 have own:∀{e:TypeId} {s:Nat} {u:Value} {n':Nat} {ys:List Value},w.ownsRow z e s u n' ys->(∀k,u.ownBlock=some k->O k)->w'.ownsRow z e s u n' ys:=fun{e s u n' ys} hv hk=>by
  refine hv.kept hg ?_;cases hx:u.ownBlock with
  |none=>exact .inl rfl
  |some k=>exact .inr fun e2=>(hO k e2.symm).1 (hk k hx)
 refine⟨h.Em,by rw[hg.block x h.lt (fun e=>(hO x e.symm).1 h.ox)];exact h.aD,h.ul,h.bz.trans ⟨hg.os,hg.tape,hg.output,hg.size,fun k hk=>hg.block k (jK hk h.bz.size) (fun e=>by have:=(hO k e.symm).2;omega)⟩,own h.blocks h.ob,h.vl,fun j hj=>(h.each j hj).bE (own (h.each j hj).row (h.ou j hj)) (fun he hv=>hv.kept hg (cJ hv hr (by rcases he with rfl|rfl<;>decide))),h.apart,h.ox,h.ob,h.ou,fun k hk=>⟨(h.hi k hk).1,jK (h.hi k hk).2 hg.size⟩⟩
theorem dM.zE {vb:Value}{us:List Value}{vss:List (List (Value×Value))}(h:dM z w0 x a ve w un m O vb us vss){k:Nat}(hO:¬O k)(hk:w0.heap.size<=k){cs:Array Value}{f:Nat×Nat}(hb:w.heap[k]?=some (.cells cs 115 f))(j:Nat)(u:Value):dM z w0 x a ve (w.setCell ⟨k,j,none⟩ u) un m O vb us vss:=by
 have own:∀{e:TypeId} {s:Nat} {v:Value} {n':Nat} {ys:List Value},w.ownsRow z e s v n' ys->(∀i,v.ownBlock=some i->O i)->(w.setCell ⟨k,j,none⟩ u).ownsRow z e s v n' ys:=fun hv hi=>aC hv _ fun e=>hO (hi k e)
 have X6:¬x=k:=fun e=>hO (e▸h.ox)
 refine⟨h.Em,by rw[Below.heap_setCell _ _ _ _ (by show x≠k;exact X6)];exact h.aD,h.ul,h.bz.trans ⟨rfl,rfl,rfl,by simp,fun i hi=>Below.heap_setCell _ _ _ _ (by show i≠k;omega)⟩,own h.blocks h.ob,h.vl,fun i hi=>(h.each i hi).bE (own (h.each i hi).row (h.ou i hi)) (fun he hv=>aC hv _ (az hv hb (by rcases he with rfl|rfl<;>decide))),h.apart,h.ox,h.ob,h.ou,fun i hi=>by simpa using h.hi i hi⟩
theorem CM {zz ga ca g12 c12 gn2 N:Nat}{W9 w10 w11 w12:World}{ls:List ab}{vs:List (Value×Value)}(hlen:vs.length=ls.length)(hE:∀j,j<ls.length->aE z W9 (ls.getD j ab.nil) (vs.getD j (undef,undef)).1 (vs.getD j (undef,undef)).2)
  (sR:Below W9.heap.size W9 w10) (ry:Below w10.heap.size w10 w11) (hz:z<=W9.heap.size) (QY:W9.heap.size<=gn2) (Nw:w10.heap[gn2]?=some (.cells #[.int .i64 ((N:Nat):Int)] 3 (0,0)))
  (Ca:w11.ownsRow zz 115 6 (.slice (some ⟨ga,0,none⟩) ls.length ca) ls.length (aK ls vs)) (eG:w12.ownsRow zz 115 6 (.slice (some ⟨g12,0,none⟩) (ls.length+1) c12) (ls.length+1) (aK ls vs++[.int .i64 0,.int .i64 18,.slice none 0 0,.int .i64 0,.int .i64 0,.slice (some ⟨gn2,0,none⟩) 1 1]))
  (hgrow:w11.grownBy w12 (some ga)):mo z w12 ⟨g12,0,none⟩ (ls++[dC N]) (vs++[(.slice none 0 0,.slice (some ⟨gn2,0,none⟩) 1 1)]):=by
 have ec:aK (ls++[dC N]) (vs++[(.slice none 0 0,.slice (some ⟨gn2,0,none⟩) 1 1)])=aK ls vs++[.int .i64 0,.int .i64 18,.slice none 0 0,.int .i64 0,.int .i64 0,.slice (some ⟨gn2,0,none⟩) 1 1]:=by
  unfold aK;rw[List.zip_append hlen.symm];simp[cT,dC]
 have kept:∀{e:TypeId} {s:Nat} {v:Value} {n:Nat} {xs:List Value},e=119\/e=3->w10.ownsRow z e s v n xs->w12.ownsRow z e s v n xs:=fun he hv=>
  (al hv ry).kept hgrow (cJ (al hv ry) Ca (by rcases he with rfl|rfl<;>decide))
 refine⟨by simp[hlen],fun j u hu=> ?_,fun j hj=> ?_⟩
 ·rw[ec]at hu;exact eG.cells (g:=g12) rfl j u hu
 ·rw[jV,List.length_singleton]at hj;by_cases aP:j<ls.length
  ·rw[jA,jg aP,<-jA,jA (l:=vs++_),jg (by omega),<-jA];exact((hE j aP).below sR).bE kept
  ·have ej:j=ls.length:=by omega
   have e1:(ls++[dC N]).getD j ab.nil=dC N:=by rw[ej];simp[List.getD_eq_getElem?_getD]
   have e2:(vs++[((.slice none 0 0:Value),(.slice (some ⟨gn2,0,none⟩) 1 1:Value))]).getD j (undef,undef)=(.slice none 0 0,.slice (some ⟨gn2,0,none⟩) 1 1):=by rw[ej,<-hlen];simp[List.getD_eq_getElem?_getD]
   rw[e1,e2];refine⟨World.ownsRow_nil _ _ _ _,kept (.inr rfl) ?_⟩;exact⟨rfl,.inr ⟨gn2,1,_,rfl,by omega,Nw,jC _,by unfold maxLen;omega,rfl,rfl⟩⟩
theorem bG.fresh (h:bG z w0 x a ve w un m O){k:Nat}(hk:w.heap.size<=k):¬O k:=by
 obtain⟨vb,us,vss,h⟩:=h;exact fun e=>by have:=(h.hi k e).2;omega
theorem bG.base (h:bG z w0 x a ve w un m O):w0.heap.size<=w.heap.size:=by
 obtain⟨vb,us,vss,h⟩:=h;exact h.bz.size
end
end El
namespace El
open Go Go.RowKit Sq Aux PrjF PrjG PrjJ PrjK PrjL PrjM PrjP PrjQ PrjS FlwA FlwE
section
variable {z x a:Nat} {w0 w:World} {ve:Value} {un:List Bool} {m:Mk} {O:Nat->Prop}
theorem Iv (w:World)(hz:z<=w.heap.size)(ns:List Nat)(hn:ns.length<=100):(w.alloc (.cells (df ns).toArray 3)).ownsRow z 3 1 (.slice (some ⟨w.heap.size,0,none⟩) ns.length ns.length) ns.length (df ns):=by
 have hl:(df ns).length=ns.length*1:=by simp[df]
 refine⟨hl,.inr ⟨w.heap.size,ns.length,(df ns).toArray,rfl,hz,jD,jC _,by unfold maxLen;omega,by simpa using hl,?_⟩⟩;rw[<-hl];simp
set_option maxRecDepth 20000 in
theorem zO (h:bG z w0 x a ve w un m O)(km:m.at_<m.blocks.length)(t:ab){ap:Option Addr}{cp:Nat}{vn:Value}(hp:w.ownsRow z 119 2 (.slice ap t.places.length cp) t.places.length (aM t.places))(hpO:∀g,(Value.slice ap t.places.length cp).ownBlock=some g->¬O g)
  {ga ca zz:Nat} {ls:List ab} {vs:List (Value×Value)} (hA:w.ownsRow zz 115 6 (.slice (some ⟨ga,0,none⟩) ls.length ca) ls.length (aK ls vs)) (hAO:¬O ga/\w0.heap.size<=ga) (hAl:mo z w ⟨ga,0,none⟩ ls vs)
  (hAn:∀j,j<ls.length->∀g,(vs.getD j (undef,undef)).1.ownBlock=some g\/(vs.getD j (undef,undef)).2.ownBlock=some g->¬O g) (hm:m.blocks.length<=100000) (hb:(m.blocks.getD m.at_ []).length<=100000) (hl:ls.length<=1000):
  Calls Tryz.prog 210 #[.pointer (some ⟨x,0,none⟩),.agg #[.int .i64 (t.num:Nat),.int .i64 (t.op:Nat),.slice ap t.places.length cp,.int .i64 t.number,.int .i64 t.flag,vn],.slice (some ⟨ga,0,none⟩) ls.length ca] w fun e w'=>e=.returned (.tuple #[])/\∃O',bG z w0 x a ve w' un (m.fork t ls) O'/\Fr (fun k=>O k\/k=ga) w O' w':=by
 obtain⟨ib,Ud,mV,aB,bu⟩:=info_parts s5;obtain⟨vb,us,vss,h⟩:=h;obtain⟨W1,k9⟩:∃W1,w.alloc (.cells #[.int .i64 (t.num:Nat),.int .i64 (t.op:Nat),.slice ap t.places.length cp,.int .i64 t.number,.int .i64 t.flag,vn] 115)=W1:=⟨_,rfl⟩;have dk:Below w.heap.size w W1:=by rw[<-k9];exact(Below.refl _ _).alloc (jC _) _
 have gC:W1.heap.size=w.heap.size+1:=by rw[<-k9];simp
 have BI:W1.heap[w.heap.size]?=some (.cells #[.int .i64 (t.num:Nat),.int .i64 (t.op:Nat),.slice ap t.places.length cp,.int .i64 t.number,.int .i64 t.flag,vn] 115 (0,0)):=by rw[<-k9];exact jD
 have h1:=h.below dk;obtain⟨c0,c1,c26,c27,f26,f27⟩:=h1.facts;obtain⟨gb,cb,vy,NJ,sX,-⟩:=bL h.blocks (by omega);obtain⟨N,hN⟩:∃N,m.blocks.length=N:=⟨_,rfl⟩;rw[hN]at hm vy;subst vy;have Y7:¬9223372036854775807<N:=by omega
 go_enter Tryz.func210,Tryz.ntmps210
 go_upto_region 1 with fail
 try rw[k9]
 clear k9;go_quiet (fail)
 go_upto_region 2 with fail
 obtain⟨W2,p5⟩:∃W2,W1.drewN nq=W2:=⟨_,rfl⟩;have dp:Below W1.heap.size W1 W2:=by rw[<-p5];exact below_drewN (Below.refl _ _) nq
 rw[p5];clear p5;have mN:w.heap.size+1<=W2.heap.size:=by have:=dp.size;omega
 have h2:=h1.below dp;have Hx:=(dp.block w.heap.size (by omega)).trans BI;clear c0 c1 c26 c27 f26 f27 h1 BI;obtain⟨c0,c1,c26,c27,f26,f27⟩:=h2.facts;have yk:Below W2.heap.size W2 (W2.alloc (.cells #[.slice none 0 0,.slice none 0 0] 106)):=(Below.refl _ _).alloc (jC _) _;have dY:=al h2.blocks yk;have hz:z<=W2.heap.size+1:=by have:=h2.Em;have:=h2.bz.size;omega
 rw[hN]at dY;have HX:Hid (∀w4,(W2.alloc (.cells #[.slice none 0 0,.slice none 0 0] 106)).grownBy w4 (some gb)->w4.frozen? ⟨x,26,none⟩=false/\w4.cell? ⟨x,26,none⟩=some (.slice (some ⟨gb,0,none⟩) N cb)):=fun w4 hg=>by
  have hx:=h2.lt;have Ls:some x≠some gb:=aF dY (h2.below yk).aD (by decide);have xC:x<(W2.alloc (.cells #[.slice none 0 0,.slice none 0 0] 106)).heap.size:=jK hx yk.size;exact⟨(hg.frozen_far ⟨x,26,none⟩ xC Ls).trans (h2.below yk).facts.2.2.2.2.1,(hg.cell_far ⟨x,26,none⟩ xC Ls).trans (h2.below yk).facts.2.2.1⟩
 have HH:Hid (dM z w0 x a ve W2 un m O (.slice (some ⟨gb,0,none⟩) N cb) us vss):=h2;clear h2;go_upto_region 3 with(at_builtin;go_must (refine wpList_append_lies _ rfl _ _ 108 rfl z 106 ib (.slice none 0 0) 1 24 Tryz.underlying108 Ud mV aB bu rfl (by decide) (.slice (some ⟨gb,0,none⟩) N cb) N us rfl dY ⟨W2.heap.size,0,none⟩ 2 2 [.slice none 0 0,.slice none 0 0] rfl rfl (World.news_of_block jD) (by intro u' hu;simp at hu;subst hu;rfl) (by decide) (by unfold maxLen;omega) (by omega) (by simp;omega) (W2.heap.size+1) (by simp) ?_);intro g4 c4 w4 hown4 hgrow4 hat4 hlt4;obtain⟨xf,xc⟩:=HX.out w4 hgrow4)
 obtain⟨h4,F4⟩:=HH.out.Nf (v':=.slice (some ⟨g4,0,none⟩) (N+2) c4) (w3:=w4) yk (fun g hg=>by
  simp only[Value.ownBlock,Option.some.injEq]at hg;subst hg;exact hat4.imp id fun e=>by rw[e];simp) (by rw[hN];exact hown4) hgrow4
 obtain⟨O1,gh⟩:∃O1:Nat->Prop,O1=fun k=>O k\/(W2.heap.size<=k/\k<w4.heap.size):=⟨_,rfl⟩
 rw[<-gh]at h4 F4;obtain⟨W4,VL⟩:∃W4,w4.setCell ⟨x,26,none⟩ (.slice (some ⟨g4,0,none⟩) (N+2) c4)=W4:=⟨_,rfl⟩;rw[VL]at h4 F4⊢;have QX:¬O w.heap.size:=fun e=>by have:=(h.hi _ e).2;omega
 have P2:¬O1 w.heap.size:=by rw[gh];rintro(e|e);exact QX e;omega
 have Nx:=(F4.block w.heap.size (by omega) QX).trans Hx;have P1:∀k,k<w.heap.size->¬O k->¬O1 k:=fun k hk hn=>by rw[gh];rintro(e|e);exact hn e;omega
 have Tl:Below w.heap.size w W2:=dk.trans (dp.mono dk.size);have F04:Fr O w O1 W4:=(Fr.of Tl).trans F4;clear VL hgrow4 hown4 hat4 hlt4 gh HX HH dY yk Hx xf xc c0 c1 c26 c27 f26 f27 F4 dp dk;have Zs:w.heap.size<W4.heap.size:=lt_of_heap Nx;have NK:W4.frozen? ⟨w.heap.size,5,none⟩=false:=frozen_of_heap Nx 5;have Qp:W4.cell? ⟨w.heap.size,5,none⟩=some vn:=by rw[cell_of_heap Nx];rfl
 go_upto_region 4 with fail
 obtain⟨W5,Mu⟩:∃W5,W4.setCell ⟨w.heap.size,5,none⟩ (.slice (some ⟨W4.heap.size,0,none⟩) 2 2)=W5:=⟨_,rfl⟩;have h5:=h4.zE P2 h.bz.size Nx 5 (.slice (some ⟨W4.heap.size,0,none⟩) 2 2);have OT:=Aux.heap_setCell_same Nx 5 (.slice (some ⟨W4.heap.size,0,none⟩) 2 2);have VC:W5.heap.size=W4.heap.size:=by rw[<-Mu];simp
 have Rp:W5.ownsRow z 119 2 (.slice ap t.places.length cp) t.places.length (aM t.places):=by
  have V9:=qu hp F04 hpO;rw[<-Mu];exact aC V9 _ (az V9 Nx (by decide))
 have Cb:∀k,k<w.heap.size->W5.heap[k]?=W4.heap[k]?:=fun k hk=>by rw[<-Mu];exact Below.heap_setCell _ _ _ _ (by show k≠w.heap.size;omega)
 have F05:Fr O w O1 W5:=⟨by rw[<-Mu];exact F04.os,by rw[<-Mu];exact F04.tape,by rw[<-Mu];exact F04.output,by rw[VC];exact F04.size,fun k hk hn=>(Cb k hk).trans (F04.block k hk hn),F04.new⟩;rw[Mu]at h5 OT⊢;clear Mu Cb F04 h4 Nx NK Qp;have OT:W5.heap[w.heap.size]?=some (.cells #[.int .i64 (t.num:Nat),.int .i64 (t.op:Nat),.slice ap t.places.length cp,.int .i64 t.number,.int .i64 t.flag,.slice (some ⟨W4.heap.size,0,none⟩) 2 2] 115 (0,0)):=OT;rw[<-VC]at OT⊢;have Ww:z<=W5.heap.size:=by have:=h5.Em;have:=h5.bz.size;omega
 have jw:(W5.alloc (.cells #[.int .i64 (N:Nat),.int .i64 ((N:Int)+1)] 3)).ownsRow z 3 1 (.slice (some ⟨W5.heap.size,0,none⟩) 2 2) 2 (df [N,N+1]):=Iv W5 Ww [N,N+1] (by simp);obtain⟨W6,TI⟩:∃W6,W5.alloc (.cells #[.int .i64 (N:Nat),.int .i64 ((N:Int)+1)] 3)=W6:=⟨_,rfl⟩;have PR:Below W5.heap.size W5 W6:=by rw[<-TI];exact(Below.refl _ _).alloc (jC _) _
 rw[TI]at jw⊢;clear TI;obtain⟨gn,QY⟩:∃gn,W5.heap.size=gn:=⟨_,rfl⟩;have Wj:w.heap.size<W5.heap.size:=by omega
 have Mq:=(PR.block _ Wj).trans OT;have Wa:=al Rp PR;have h6:=h5.below PR;have F06:Fr O w O1 W6:=F05.trans (Fr.of PR);rw[QY]at Mq jw⊢;clear h5 OT Rp F05 Ww;have l0:W6.cell? ⟨w.heap.size,0,none⟩=some (.int .i64 (t.num:Nat)):=by rw[cell_of_heap Mq];rfl
 have l1:W6.cell? ⟨w.heap.size,1,none⟩=some (.int .i64 (t.op:Nat)):=by rw[cell_of_heap Mq];rfl
 have l2:W6.cell? ⟨w.heap.size,2,none⟩=some (.slice ap t.places.length cp):=by rw[cell_of_heap Mq];rfl
 have l3:W6.cell? ⟨w.heap.size,3,none⟩=some (.int .i64 t.number):=by rw[cell_of_heap Mq];rfl
 have l4:W6.cell? ⟨w.heap.size,4,none⟩=some (.int .i64 t.flag):=by rw[cell_of_heap Mq];rfl
 have l5:W6.cell? ⟨w.heap.size,5,none⟩=some (.slice (some ⟨gn,0,none⟩) 2 2):=by rw[cell_of_heap Mq];rfl
 have PS:Below W6.heap.size W6 (W6.alloc (.cells #[.int .i64 (t.num:Nat),.int .i64 (t.op:Nat),.slice ap t.places.length cp,.int .i64 t.number,.int .i64 t.flag,.slice (some ⟨gn,0,none⟩) 2 2] 115)):=(Below.refl _ _).alloc (jC _) _;have Cd:aE z W6 {t with next:=[N,N+1]} (.slice ap t.places.length cp) (.slice (some ⟨gn,0,none⟩) 2 2):=⟨Wa,jw⟩;have KP:=fz (ls:=[{t with next:=[N,N+1]}]) (c:=1) ⟨_,_,_,h6.below PS⟩ (by show m.at_<(m.blocks++[[],[]]).length;simp;omega) (ie (Cd.below PS) jD) (by simp) (by show((m.blocks++[[],[]]).getD m.at_ []).length+1<=_;rw[sh];omega);go_upto_region 5 with(go_at_call 130;refine KP.mono ?_;rintro e w8 ⟨rfl,O2,h8,F8⟩)
 have P0:¬O1 ga:=P1 ga (hA.lt ga rfl).2 hAO.1;have F08:Fr O w O2 w8:=(F06.trans (Fr.of PS)).trans F8;have NR:m.at_<m.blocks.length:=km;obtain⟨M1,DQ⟩:∃M1:Mk,(⟨m.blocks++[[],[]],m.at_⟩:Mk).put [{t with next:=[N,N+1]}]=M1:=⟨_,rfl⟩;have Xz:M1.blocks.length=N+2:=by rw[<-DQ,dV];simp[hN]
 have Ty:M1.blocks.getD N []=[]:=by
  rw[<-DQ,jq _ _ (by simp;omega),ja (by show¬N=m.at_;omega),sh,jA,jG (by omega)];rfl
 rw[DQ]at h8;obtain⟨vb8,us8,vss8,h8⟩:=h8;obtain⟨h9,F9⟩:=h8.setAt N;obtain⟨c0,c1,c26,c27,f26,f27⟩:=h8.facts;obtain⟨W9,TJ⟩:∃W9,w8.setCell ⟨x,27,none⟩ (.int .i64 (N:Nat))=W9:=⟨_,rfl⟩;rw[TJ]at h9 F9;have F09:Fr O w O2 W9:=F08.trans F9;have Xk:=qu hA F09 (fun g hg=>by simp only[Value.ownBlock,Option.some.injEq]at hg;subst hg;exact hAO.1);have Vn:∀j,j<ls.length->aE z W9 (ls.getD j ab.nil) (vs.getD j (undef,undef)).1 (vs.getD j (undef,undef)).2:=fun j hj=>LD (hAl.each j hj) F09 (fun g hg=>hAn j hj g (.inl hg)) (fun g hg=>hAn j hj g (.inr hg))
 have P3:¬O2 ga:=fun e=>by
  rcases F8.new ga e with e|e
  ·exact P0 e
  ·have:=(hA.lt ga rfl).2;have:=F06.size;have:=PS.size;omega
 have HE:Hid (∀j,j<ls.length->aE z W9 (ls.getD j ab.nil) (vs.getD j (undef,undef)).1 (vs.getD j (undef,undef)).2):=Vn;have HN:Hid (m.blocks.length=N):=hN;have WJ:Hid (vs.length=ls.length):=hAl.len;have YZ:z<=W9.heap.size:=by have:=h9.Em;have:=h9.bz.size;omega
 have HM:Hid (_=M1):=DQ;have H9:Hid (_):=h9;have WE:Hid (_):=F09;have KT:Calls Tryz.prog 131 #[.int .i64 ((N:Int)+1)] W9 _:=rh (N+1) W9;obtain⟨il,SO,mW,vr,JX⟩:=info_parts oH;clear KP l0 l1 l2 l3 l4 l5 Cd h6 Mq Wa jw PS F8 F08 F06 h8 F9 DQ Vn h9 F09 P1 P2 PR hN hAl hAn hp hpO;go_upto_region 6 with fail
 try rw[TJ]
 clear TJ c0 c1 c26 c27 f26 f27;go_upto_region 7 with(first
  |(go_at_call 131;refine KT.mono ?_;rintro e w10 ⟨gn2,rfl,sR,T9,Nw⟩;have ry:Below w10.heap.size w10 (w10.alloc (.cells #[.int .i64 0,.int .i64 18,.slice none 0 0,.int .i64 0,.int .i64 0,.slice (some ⟨gn2,0,none⟩) 1 1] 115)):=(Below.refl _ _).alloc (jC _) _;have Ca:=al (al Xk sR) ry;have US:zz<=(w10.alloc (.cells #[.int .i64 0,.int .i64 18,.slice none 0 0,.int .i64 0,.int .i64 0,.slice (some ⟨gn2,0,none⟩) 1 1] 115)).heap.size:=(by have:=(Ca.lt ga rfl).1;have:=(Ca.lt ga rfl).2;omega))
  |(at_builtin;go_must (refine fF rfl _ _ 105 rfl zz 115 il (.agg #[.int .i64 0,.int .i64 0,.slice none 0 0,.int .i64 0,.int .i64 0,.slice none 0 0]) 6 80 Tryz.underlying105 SO mW vr JX rfl (by decide) (.slice (some ⟨ga,0,none⟩) ls.length ca) ls.length (aK ls vs) rfl Ca w10.heap.size [.int .i64 0,.int .i64 18,.slice none 0 0,.int .i64 0,.int .i64 0,.slice (some ⟨gn2,0,none⟩) 1 1] rfl jD rfl A0 (by decide) (by omega) US ?_);intro g12 c12 w12 hown12 hgrow12 hat12 hlt12;have PW:=CM (z:=z) (N:=N+1) WJ.out HE.out sR ry YZ T9 Nw Ca hown12 hgrow12;have cV:=((H9.out.below sR).below ry).grown Ca (fun g hg=>by simp only[Value.ownBlock,Option.some.injEq]at hg;subst hg;exact⟨P3,hAO.2⟩) hgrow12;have PK:=fz (c:=c12) ⟨_,_,_,cV⟩ (by show N<M1.blocks.length;omega) PW (by simp) (by show(M1.blocks.getD N []).length+_<=_;rw[Ty];simp;omega);rw[jV,List.length_singleton]at PK;have GX:Hid (_):=hgrow12;clear hgrow12 PW cV)
  |(go_at_call 130;refine PK.mono ?_;rintro e w13 ⟨rfl,O3,yi,F13⟩))
 obtain⟨vF,F14⟩:=yi.setAt (N+1);obtain⟨vb13,us13,vss13,yi⟩:=yi;obtain⟨d0,d1,d26,d27,e26,e27⟩:=yi.facts;have F12:Fr (fun k=>O k\/k=ga) w O2 w12:=by
  have ON:=WE.out;have Zu:=ON.size;refine⟨GX.out.os.trans (ry.os.trans (sR.os.trans ON.os)),GX.out.tape.trans (ry.tape.trans (sR.tape.trans ON.tape)),GX.out.output.trans (ry.output.trans (sR.output.trans ON.output)),by have:=GX.out.size;have:=sR.size;have:=ry.size;omega,fun k hk hn=> ?_,fun k hk=>(ON.new k hk).imp .inl id⟩;have Sb:=sR.size;rw[GX.out.block k (by have:=ry.size;omega) (fun e=>hn (.inr (by simpa [Value.ownBlock]using e))),ry.block k (by omega),sR.block k (by omega)];exact ON.block k hk (fun e=>hn (.inl e))
 go_wp2_with fail
 go_end0
 refine⟨rfl,O3,?_,(F12.trans F13).trans F14⟩;have em:m.fork t ls=⟨((⟨M1.blocks,N⟩:Mk).put (ls++[dC (N+1)])).blocks,N+1⟩:=by
  unfold Mk.fork;rw[HN.out,<-HM.out]
 rw[em];exact vF
end
end El
namespace El
open Go Go.RowKit Sq Aux PrjF PrjG PrjJ PrjK PrjL PrjM PrjP PrjQ PrjS FlwA FlwB FlwE FlwF FlwJ
attribute [local go_sem ↓] bY bJ
theorem rV:∀v:Nat,v<16->((bits .and .u8 (v:Int) 2 !=0)= !(v&&&2==0))/\((bits .and .u8 (v:Int) 2==0)=(v&&&2==0))/\(((v:Int) !=2)= !(v==2))/\(((v:Int)==2)=(v==2)):=by decide
set_option maxRecDepth 20000 in
theorem kH (s:List Nat)(hs:dn s)(p:Nat×Nat)(hp:p.1<12)(w:World):Calls Tryz.prog 127 #[.agg (ag s).toArray,.agg #[.int .i64 (p.1:Nat),.int .i64 (p.2:Nat)]] w fun e w'=>e=.returned (.bool (dW (s.getD (ah p) 0)))/\Below w.heap.size w w':=by
 obtain⟨V,hV⟩:∃V,w.alloc (.cells (ag s).toArray 209)=V:=⟨_,rfl⟩;have hS:aj V w.heap.size s:=by rw[<-hV];exact aj.new w hs.len
 have dk:Below w.heap.size w V:=by rw[<-hV];exact(Below.refl _ _).alloc (jC _) _
 have gO:ah p<24:=by unfold ah;split<;>omega
 have Im:(ah p:Int)<24:=by omega
 have dp:Below V.heap.size V (V.alloc (.cells #[.int .i64 (p.1:Nat),.int .i64 (p.2:Nat)] 119)):=(Below.refl _ _).alloc (jC _) _;have gP:V.heap.size=w.heap.size+1:=by rw[<-hV];simp
 have mN:=hS.below dp hS.lt;have KS:=cf p (V.alloc (.cells #[.int .i64 (p.1:Nat),.int .i64 (p.2:Nat)] 119)) (by omega);obtain⟨v,hv⟩:∃v,s.getD (ah p) 0=v:=⟨_,rfl⟩;have aP:=hs.lt (ah p);rw[hv]at aP⊢;have Io:Hid (s.getD (ah p) 0=v):=hv;obtain⟨t1,t2,t3,t4⟩:=rV v aP;clear hv hS;unfold dW;cases e1:(v&&&2==0)<;>cases e2:(v==2)<;>rw[e1]at t1 t2<;>rw[e2]at t3 t4<;>clear e1 e2
 all_goals
  go_enter Tryz.func127,Tryz.ntmps127
  go_wp2_with (go_at_call 62;refine KS.mono ?_;rintro e w1 ⟨rfl,aB⟩;have gC:=aj.cell (mN.below aB mN.lt) (ah p) gO;rw[Io.out]at gC)
  go_ret
  exact⟨rfl,dk.trans ((dp.trans (aB.mono dp.size)).mono dk.size)⟩
end El
end Go.Proofs.YtmlgajhhnojdjaaGreatDoor

import Derived.Test.YtmlgajhhnojdjaaGreatDoorVBG
set_option maxHeartbeats 8000000
namespace Go.Proofs.YtmlgajhhnojdjaaGreatDoor
namespace El
open Go Go.RowKit Sq Aux PrjF PrjG PrjJ PrjK PrjL PrjM PrjP PrjQ PrjS PrjT FlwA FlwB FlwE FlwF FlwJ
attribute [local go_sem ↓] bY bJ
structure Mk.Small (m:Mk)(k:Nat):Prop where
 at_:m.at_<m.blocks.length
 many:m.blocks.length<=k
 lines:∀j,(m.blocks.getD j []).length<=k
theorem Mk.Small.mono {m:Mk}{k n:Nat}(h:m.Small k)(hn:k<=n):m.Small n:=⟨h.at_,by have:=h.many;omega,fun j=>by have:=h.lines j;omega⟩
theorem Mk.Small.line {m:Mk}{k:Nat}(h:m.Small k)(l:ab):(m.put [l]).Small (k+2):=by
 refine⟨by rw[dV];exact h.at_,by rw[dV];have:=h.many;omega,fun j=> ?_⟩;have:=h.lines j;rw[jq _ _ h.at_];split
 ·rw[jV,List.length_singleton];omega
 ·omega
theorem Mk.Small.fork {m:Mk}{k:Nat}(h:m.Small k)(t:ab){sd:List ab}(hs:sd.length<=1):(m.fork t sd).Small (k+2):=by
 refine⟨by rw[lN];show m.blocks.length+1<_;omega,by rw[lN];have:=h.many;omega,fun j=> ?_⟩;have:=h.lines j;rw[my _ _ _ h.at_];split
 ·rw[jV,List.length_singleton];omega
 split
 ·rw[jV,List.length_singleton];omega
 ·omega
def Item.qA:Item->Prop
 | .line _=>True
 | .fork _ sd=>sd.length<=1
theorem Mk.Small.items:∀(is:List Item) {m:Mk} {k:Nat},m.Small k->(∀i∈is,i.qA)->(m.items is).Small (k+2*is.length)
 |[],_,_,h,_=>h
 | .line l::is,m,k,h,hs=>by
  have:=Mk.Small.items is (h.line l) (fun i hi=>hs i (jN _ hi));exact this.mono (by simp only[List.length_cons];omega)
 | .fork t sd::is,m,k,h,hs=>by
  have:=Mk.Small.items is (h.fork t (hs _ (jM ..))) (fun i hi=>hs i (jN _ hi));exact this.mono (by simp only[List.length_cons];omega)
theorem B5 (v:Nat)(x:Nat×Nat):(∀i∈cd v x,i.qA)/\(cd v x).length<=1:=by
 unfold cd;split
 ·exact⟨fun i hi=>by rw[jI.1 hi];show [ji x].length<=1;simp,by simp⟩
 split
 ·exact⟨fun i hi=>by rw[jI.1 hi];trivial,by simp⟩
 ·exact⟨fun i hi=>(by cases hi),by simp⟩
theorem fJ (s:List Nat):∀ps:List (Nat×Nat),(∀i∈aN s ps,i.qA)/\(aN s ps).length<=ps.length
 |[]=>⟨fun i hi=>(by cases hi),jC _⟩
 |x::ps=>by
  obtain⟨h1,h2⟩:=fJ s ps;obtain⟨h3,h4⟩:=B5 (s.getD (ah x) 0) x;have e:aN s (x::ps)=cd (s.getD (ah x) 0) x++aN s ps:=rfl;rw[e];refine⟨fun i hi=> ?_,by rw[jV,jY];omega⟩;rcases List.mem_append.1 hi with h|h
  ·exact h3 i h
  ·exact h1 i h
theorem rv (s:List Nat){ps:List (Nat×Nat)}{k:Nat}(hk:k<ps.length):aN s (ps.take (k+1))=aN s (ps.take k)++cd (s.getD (ah (ps.getD k (0,0))) 0) (ps.getD k (0,0)):=by
 have e:ps.take (k+1)=ps.take k++[ps.getD k (0,0)]:=by
  rw[List.take_add_one,jB hk,jA,jB hk];rfl
 rw[e];simp[aN]
theorem FW (w:World){z:Nat}(hz:z<=w.heap.size)(p:Nat×Nat):(w.alloc (.cells #[.int .i64 (p.1:Nat),.int .i64 (p.2:Nat)] 119)).ownsRow z 119 2 (.slice (some ⟨w.heap.size,0,none⟩) 1 1) 1 (aM [p]):=
 ⟨rfl,.inr ⟨w.heap.size,1,_,rfl,hz,jD,jC _,by unfold maxLen;omega,rfl,rfl⟩⟩
theorem AN {w:World}{z g:Nat}{l:ab}{vp vn:Value}(hz:z<=g)(hb:w.heap[g]?=some (.cells (cT (l,vp,vn)).toArray 115 (0,0))):w.ownsRow z 115 6 (.slice (some ⟨g,0,none⟩) 1 1) 1 (aK [l] [(vp,vn)]):=by
 have:(aK [l] [(vp,vn)])=cT (l,vp,vn):=by simp[aK]
 rw[this];exact⟨rfl,.inr ⟨g,1,_,rfl,hz,hb,jC _,by unfold maxLen;omega,rfl,rfl⟩⟩
section
variable {z x a:Nat} {w0 w:World} {ve:Value} {un:List Bool} {m:Mk} {O:Nat->Prop}
theorem Hq {W:World}{ga K:Nat}(h:bG z w0 x a ve w un m O)(hm:m.Small K)(hK:K<=100000)(hW:Below w.heap.size w W)(t:ab){ap:Option Addr}{cp:Nat}{vn:Value}(hp:w.ownsRow z 119 2 (.slice ap t.places.length cp) t.places.length (aM t.places))(hpO:∀g,(Value.slice ap t.places.length cp).ownBlock=some g->¬O g)
  {l:ab} {vp vn':Value} (hl:aE z w l vp vn') (hlO:∀g,vp.ownBlock=some g\/vn'.ownBlock=some g->¬O g) (La:w.heap.size<=ga) (hR:W.heap[ga]?=some (.cells (cT (l,vp,vn')).toArray 115 (0,0))):
  Calls Tryz.prog 210 #[.pointer (some ⟨x,0,none⟩),.agg #[.int .i64 (t.num:Nat),.int .i64 (t.op:Nat),.slice ap t.places.length cp,.int .i64 t.number,.int .i64 t.flag,vn],.slice (some ⟨ga,0,none⟩) 1 1] W fun e w'=>e=.returned (.tuple #[])/\∃O',bG z w0 x a ve w' un (m.fork t [l]) O'/\Fr O w O' w':=by
 have hb:=h.base;have KF:=zO (h.below hW) hm.at_ t (vn:=vn) (al hp hW) hpO (ls:=[l]) (vs:=[(vp,vn')]) (ca:=1) (zz:=w.heap.size) (AN La hR) ⟨h.fresh La,by omega⟩ (ie (hl.below hW) hR) (fun j hj g hg=>by
  simp at hj;subst hj;exact hlO g hg) (by have:=hm.many;omega) (by have:=hm.lines m.at_;omega) (by simp)
 refine KF.mono ?_;rintro e w' ⟨rfl,O',h',F'⟩;have J1:=hW.size;refine⟨rfl,O',h',F'.os.trans hW.os,F'.tape.trans hW.tape,F'.output.trans hW.output,jS hW.size F'.size,fun k hk hn=> ?_,fun k hk=> ?_⟩
 ·rw[F'.block k (by omega) (by rintro(e|e);exact hn e;omega)];exact hW.block k hk
 ·rcases F'.new k hk with(e|e)|e
  ·exact .inl e
  ·exact .inr (by omega)
  ·exact .inr (by omega)
set_option maxRecDepth 20000 in
theorem sI {K:Nat}(h:bG z w0 x a ve w un m O)(hm:m.Small K)(hK:K<=90000)(s:List Nat)(hs:dn s){ps:List (Nat×Nat)}{ad:Option Addr}{c zp:Nat}(hp:ay zp w (.slice ad ps.length c) ps)(hpO:∀g,(Value.slice ad ps.length c).ownBlock=some g->¬O g)(hx:∀y∈ps,y.1<12)(hlen:ps.length<=100):
  Calls Tryz.prog 179 #[.pointer (some ⟨x,0,none⟩),.agg (ag s).toArray,.slice ad ps.length c] w fun e w'=>e=.returned (.tuple #[])/\∃O',bG z w0 x a ve w' un (m.items (aN s ps)) O'/\Fr O w O' w':=by
 obtain⟨V,hV⟩:∃V,w.alloc (.cells (ag s).toArray 209)=V:=⟨_,rfl⟩;have Hy:aj V w.heap.size s:=by rw[<-hV];exact aj.new w hs.len
 have zZ:Below w.heap.size w V:=by rw[<-hV];exact(Below.refl _ _).alloc (jC _) _
 have gP:V.heap.size=w.heap.size+1:=by rw[<-hV];simp
 have Mt:=h.below zZ;have Yv:=al hp zZ;have OR:¬O w.heap.size:=h.fresh (jC _);have Zz:z<=w.heap.size:=by obtain⟨vb,us,vss,h'⟩:=h;have:=h'.Em;have:=h'.bz.size;omega
 have DS:ps.length<=c\/ps.length=0:=by
  rcases hp.2 with⟨-,e⟩|⟨g,cap,cur,e,-,-,h1,-⟩
  ·exact .inr e
  ·simp only[Value.slice.injEq]at e;exact .inl (by omega)
 go_enter Tryz.func179,Tryz.ntmps179
 go_wp2
 try rw[hV]
 clear hV;go_loopg [11] (ps.length) (fun g v11 wr=>∃(k:Nat) (O':Nat->Prop),k<=ps.length/\g+k=ps.length/\v11=.int .i64 k/\bG z w0 x a ve wr un (m.items (aN s (ps.take k))) O'/\Fr O V O' wr)
 case atStart=>exact⟨0,O,jQ _,rfl,rfl,Mt,Fr.refl _ _⟩
 case round=>
  obtain⟨k,O',hk,yp,rfl,iC,hF⟩:=hrel;by_cases aP:k<ps.length
  ·have vu:ay zp wr (.slice ad ps.length c) ps:=qu Yv hF hpO;have rA:aj wr w.heap.size s:=⟨Hy.1,(hF.block _ Hy.lt OR).trans Hy.2⟩;obtain⟨gp,rfl,-,kC,Cl,c1,c2⟩:=bB vu k aP;have lf:=hx (ps.getD k (0,0)) (by simp[aP]);have HS:=rv s aP;have Lp:(m.items (aN s (ps.take k))).Small (K+2*100):=(hm.items _ (fJ s _).1).mono (by have:=(fJ s (ps.take k)).2;rw[List.length_take]at this;omega);generalize ps.getD k (0,0)=p at*;have HI:Hid (m.items (aN s (ps.take (k+1)))=(m.items (aN s (ps.take k))).items (cd (s.getD (ah p) 0) p)):=by unfold Hid;rw[HS,fM]
   clear HS;generalize m.items (aN s (ps.take k))=mk at*;have EX:(k:Int)<ps.length:=by omega
   have gO:ah p<24:=by unfold ah;split<;>omega
   have Im:(ah p:Int)<24:=by omega
   have SX:w.heap.size<wr.heap.size:=lt_of_heap rA.2;go_upto_region 5 with fail
   have aB:Below wr.heap.size wr (wr.alloc (.cells #[.int .i64 (p.1:Nat),.int .i64 (p.2:Nat)] 119)):=(Below.refl _ _).alloc (jC _) _;have mZ:(wr.alloc (.cells #[.int .i64 (p.1:Nat),.int .i64 (p.2:Nat)] 119)).heap.size=wr.heap.size+1:=by simp
   have mB:(wr.alloc (.cells #[.int .i64 (p.1:Nat),.int .i64 (p.2:Nat)] 119)).heap[wr.heap.size]?=some (.cells #[.int .i64 (p.1:Nat),.int .i64 (p.2:Nat)] 119 (0,0)):=jD;generalize wr.alloc (.cells #[.int .i64 (p.1:Nat),.int .i64 (p.2:Nat)] 119)=A1 at*;have bu:Below A1.heap.size A1 (A1.alloc (.cells #[.int .i64 (p.1:Nat),.int .i64 (p.2:Nat)] 119)):=(Below.refl _ _).alloc (jC _) _;have Cq:(A1.alloc (.cells #[.int .i64 (p.1:Nat),.int .i64 (p.2:Nat)] 119)).heap.size=wr.heap.size+2:=by simp[mZ]
   have mQ:=FW A1 (z:=z) (by omega) p;generalize A1.alloc (.cells #[.int .i64 (p.1:Nat),.int .i64 (p.2:Nat)] 119)=A2 at*;rw[mZ]at mQ;have dR:Below A2.heap.size A2 (A2.alloc (.cells #[.int .i64 0,.int .i64 16,.slice (some ⟨wr.heap.size+1,0,none⟩) 1 1,.int .i64 0,.int .i64 0,.slice none 0 0] 115)):=(Below.refl _ _).alloc (jC _) _;have Il:(A2.alloc (.cells #[.int .i64 0,.int .i64 16,.slice (some ⟨wr.heap.size+1,0,none⟩) 1 1,.int .i64 0,.int .i64 0,.slice none 0 0] 115)).heap.size=wr.heap.size+3:=by simp[Cq]
   have xB:(A2.alloc (.cells #[.int .i64 0,.int .i64 16,.slice (some ⟨wr.heap.size+1,0,none⟩) 1 1,.int .i64 0,.int .i64 0,.slice none 0 0] 115)).heap[A2.heap.size]?=some (.cells #[.int .i64 0,.int .i64 16,.slice (some ⟨wr.heap.size+1,0,none⟩) 1 1,.int .i64 0,.int .i64 0,.slice none 0 0] 115 (0,0)):=jD;rw[Cq]at xB;generalize A2.alloc (.cells #[.int .i64 0,.int .i64 16,.slice (some ⟨wr.heap.size+1,0,none⟩) 1 1,.int .i64 0,.int .i64 0,.slice none 0 0] 115)=A3 at*;have vk:Below wr.heap.size wr A3:=(aB.trans (bu.mono aB.size)).trans (dR.mono (by omega));have N5:=(dR.block wr.heap.size (by omega)).trans ((bu.block wr.heap.size (by omega)).trans mB);have Af:=al mQ dR;have Nu:=iC.below vk;have BK:=rA.below vk SX;have TB:¬O' (wr.heap.size+1):=iC.fresh (by omega);have EY:aE z A3 (ji p) (.slice (some ⟨wr.heap.size+1,0,none⟩) 1 1) (.slice none 0 0):=⟨Af,World.ownsRow_nil _ _ _ _⟩;clear aB mZ mB bu Cq mQ dR Af;have p0:A3.cell? ⟨wr.heap.size,0,none⟩=some (.int .i64 (p.1:Nat)):=by rw[cell_of_heap N5];rfl
   have p1:A3.cell? ⟨wr.heap.size,1,none⟩=some (.int .i64 (p.2:Nat)):=by rw[cell_of_heap N5];rfl
   have YH:=aj.has BK;have YI:=aj.of BK;have KU:=kH s hs p lf A3;obtain⟨v,hv⟩:∃v,s.getD (ah p) 0=v:=⟨_,rfl⟩;have MP:=hs.lt (ah p);rw[hv]at KU HI MP;have HV:Hid (s.getD (ah p) 0=v):=hv;clear hv;have HF:Hid (_):=hF;have U7:Hid (_):=iC;have U6:Hid (_):=EY;clear hF iC EY;cases hu:dW v with
   |true=>
    have Aa:cd v p=[.fork (y5 (ah p)) [ji p]]:=by unfold cd;rw[jb hu]
    rw[hu]at KU;clear hu;go_upto_region 6 with(go_at_call 127;refine KU.mono ?_;rintro e w5 ⟨rfl,gi⟩;have E7:=(gi.block (wr.heap.size+2) (by omega)).trans xB;have Rp:=(gi.block wr.heap.size (by omega)).trans N5;have Wj:=gi.size)
    have Cb:Below A3.heap.size A3 w5:=gi;have l0:w5.cell? ⟨wr.heap.size+2,0,none⟩=some (.int .i64 0):=by rw[cell_of_heap E7];rfl
    have l1:w5.cell? ⟨wr.heap.size+2,1,none⟩=some (.int .i64 16):=by rw[cell_of_heap E7];rfl
    have l2:w5.cell? ⟨wr.heap.size+2,2,none⟩=some (.slice (some ⟨wr.heap.size+1,0,none⟩) 1 1):=by rw[cell_of_heap E7];rfl
    have l3:w5.cell? ⟨wr.heap.size+2,3,none⟩=some (.int .i64 0):=by rw[cell_of_heap E7];rfl
    have l4:w5.cell? ⟨wr.heap.size+2,4,none⟩=some (.int .i64 0):=by rw[cell_of_heap E7];rfl
    have l5:w5.cell? ⟨wr.heap.size+2,5,none⟩=some (.slice none 0 0):=by rw[cell_of_heap E7];rfl
    have d0:w5.cell? ⟨wr.heap.size,0,none⟩=some (.int .i64 (p.1:Nat)):=by rw[cell_of_heap Rp];rfl
    have d1:w5.cell? ⟨wr.heap.size,1,none⟩=some (.int .i64 (p.2:Nat)):=by rw[cell_of_heap Rp];rfl
    have JI:=cf p w5.drew (by omega);obtain⟨WA,Ch⟩:∃WA,w5.drew.alloc (.cells #[.int .i64 0,.int .i64 16,.slice (some ⟨wr.heap.size+1,0,none⟩) 1 1,.int .i64 0,.int .i64 0,.slice none 0 0] 115)=WA:=⟨_,rfl⟩;have R8:=cf p WA (by omega);have Kt:WA.heap[w5.heap.size]?=some (.cells #[.int .i64 0,.int .i64 16,.slice (some ⟨wr.heap.size+1,0,none⟩) 1 1,.int .i64 0,.int .i64 0,.slice none 0 0] 115 (0,0)):=by rw[<-Ch];exact jD
    have yk:Below w5.heap.size w5 WA:=by rw[<-Ch];exact⟨rfl,rfl,rfl,by simp,fun k hk=>by show(w5.heap.push _)[k]?=_;rw[Array.getElem?_push_lt hk];simp[hk]⟩
    have d2:WA.cell? ⟨wr.heap.size,0,none⟩=some (.int .i64 (p.1:Nat)):=(yk.cell (p:=⟨wr.heap.size,0,none⟩) (by show wr.heap.size<_;omega)).trans d0;have d3:WA.cell? ⟨wr.heap.size,1,none⟩=some (.int .i64 (p.2:Nat)):=(yk.cell (p:=⟨wr.heap.size,1,none⟩) (by show wr.heap.size<_;omega)).trans d1;have KF:=fun(W:World) (ga:Nat) (h1:Below A3.heap.size A3 W) (h2:A3.heap.size<=ga) (h3:W.heap[ga]?=some (.cells #[.int .i64 0,.int .i64 16,.slice (some ⟨wr.heap.size+1,0,none⟩) 1 1,.int .i64 0,.int .i64 0,.slice none 0 0] 115 (0,0)))=>
     Hq (vn:=.slice none 0 0) Nu Lp (by omega) h1 (y5 (ah p)) (World.ownsRow_nil A3 z 119 2) (fun g hg=>by cases hg) U6.out (fun g hg=>by
      rcases hg with hg|hg
      ·simp only[Value.ownBlock,Option.some.injEq]at hg;subst hg;exact TB
      ·cases hg) h2 h3
    have KA:Hid (∀w6,Below w5.heap.size w5 w6->(w6.cell? ⟨wr.heap.size+2,0,none⟩=some (.int .i64 0)/\w6.cell? ⟨wr.heap.size+2,1,none⟩=some (.int .i64 16)/\w6.cell? ⟨wr.heap.size+2,2,none⟩=some (.slice (some ⟨wr.heap.size+1,0,none⟩) 1 1)/\w6.cell? ⟨wr.heap.size+2,3,none⟩=some (.int .i64 0)/\w6.cell? ⟨wr.heap.size+2,4,none⟩=some (.int .i64 0)/\w6.cell? ⟨wr.heap.size+2,5,none⟩=some (.slice none 0 0))):=fun w6 hb=>by
     have Co:=(hb.block (wr.heap.size+2) (by omega)).trans E7;exact⟨by rw[cell_of_heap Co];rfl,by rw[cell_of_heap Co];rfl,by rw[cell_of_heap Co];rfl,by rw[cell_of_heap Co];rfl,by rw[cell_of_heap Co];rfl,by rw[cell_of_heap Co];rfl⟩
    have WO:=fun(w6:World) (hb:Below w5.heap.size w5 w6)=>KF (w6.alloc (.cells #[.int .i64 0,.int .i64 16,.slice (some ⟨wr.heap.size+1,0,none⟩) 1 1,.int .i64 0,.int .i64 0,.slice none 0 0] 115)) w6.heap.size ((Cb.trans (hb.mono Cb.size)).alloc (by have:=hb.size;omega) _) (by have:=hb.size;omega) jD
    have WQ:=fun(w6:World) (hb:Below WA.heap.size WA w6)=>KF w6 w5.heap.size ((Cb.trans (yk.mono Cb.size)).trans (hb.mono (by have:=yk.size;omega))) (by omega) ((hb.block w5.heap.size (lt_of_heap Kt)).trans Kt)
    clear KF Kt yk;go_region_law (first
     |(go_simp;go_at_call 62;refine JI.mono ?_;rintro e w6 ⟨rfl,vI⟩;have sV:Below w5.heap.size w5 w6:=⟨vI.os,vI.tape,vI.output,vI.size,vI.block⟩;obtain⟨k0,k1,k2,k3,k4,k5⟩:=KA.out w6 sV;have OJ:=WO w6 sV)
     |(go_simp;go_at_call 62;refine R8.mono ?_;rintro e w6 ⟨rfl,vI⟩;have OJ:=WQ w6 vI)
     |(go_simp;go_at_call 210;refine OJ.mono ?_;rintro e w9 ⟨rfl,O9,h9,F9⟩))
    all_goals go_wp2_with fail
    all_goals
     go_roundg (ps.length-(k+1))
     case measure=>omega
     case rel=>exact⟨k+1,O9,by omega,by omega,by go_num,by rw[HI.out,Aa];exact h9,HF.out.trans ((Fr.of vk).trans F9)⟩
   |false=>
    have RE:∀W,Below A3.heap.size A3 W->W.heap[wr.heap.size+2]?=some (.cells #[.int .i64 0,.int .i64 16,.slice (some ⟨wr.heap.size+1,0,none⟩) 1 1,.int .i64 0,.int .i64 0,.slice none 0 0] 115 (0,0)):=fun W hW=>(hW.block _ (by omega)).trans xB
    have HC:Hid (∀W,Below A3.heap.size A3 W->(W.cell? ⟨wr.heap.size+2,0,none⟩=some (.int .i64 0)/\W.cell? ⟨wr.heap.size+2,1,none⟩=some (.int .i64 16)/\W.cell? ⟨wr.heap.size+2,2,none⟩=some (.slice (some ⟨wr.heap.size+1,0,none⟩) 1 1)/\W.cell? ⟨wr.heap.size+2,3,none⟩=some (.int .i64 0)/\W.cell? ⟨wr.heap.size+2,4,none⟩=some (.int .i64 0)/\W.cell? ⟨wr.heap.size+2,5,none⟩=some (.slice none 0 0))):=fun W hb=>by
     have Co:=RE W hb;exact⟨by rw[cell_of_heap Co];rfl,by rw[cell_of_heap Co];rfl,by rw[cell_of_heap Co];rfl,by rw[cell_of_heap Co];rfl,by rw[cell_of_heap Co];rfl,by rw[cell_of_heap Co];rfl⟩
    rw[hu]at KU;have HU:Hid (dW v=false):=hu;clear hu RE;obtain⟨-,-,-,t4⟩:=rV v MP;have HP:Hid (∀W,Below A3.heap.size A3 W->Calls Tryz.prog 130 #[.pointer (some ⟨x,0,none⟩),.slice (some ⟨W.heap.size,0,none⟩) 1 1] (W.alloc (.cells #[.int .i64 0,.int .i64 16,.slice (some ⟨wr.heap.size+1,0,none⟩) 1 1,.int .i64 0,.int .i64 0,.slice none 0 0] 115)) fun e w'=>e=.returned (.tuple #[])/\∃O9,bG z w0 x a ve w' un (mk.put [ji p]) O9/\Fr O' A3 O9 w'):=fun W hW=>by
     have Ch:Below A3.heap.size A3 (W.alloc (.cells #[.int .i64 0,.int .i64 16,.slice (some ⟨wr.heap.size+1,0,none⟩) 1 1,.int .i64 0,.int .i64 0,.slice none 0 0] 115)):=hW.alloc hW.size _;have KP:=fz (c:=1) (ls:=[ji p]) (Nu.below Ch) Lp.at_ (ie (g:=W.heap.size) (U6.out.below Ch) jD) (by simp) (by have:=Lp.lines mk.at_;rw[List.length_singleton];omega);refine KP.mono ?_;rintro e w' ⟨rfl,O9,h9,F9⟩;exact⟨rfl,O9,h9,(Fr.of Ch).trans F9⟩
    have Va:Hid (∀W,Below A3.heap.size A3 W->W.cell? ⟨w.heap.size,ah p,none⟩=some (.int .u8 (v:Nat))):=fun W hW=>by
     have:=aj.cell (BK.below hW (by omega)) (ah p) gO;rw[HV.out]at this;exact this
    have U0:Hid (∀W,Below A3.heap.size A3 W->W.cell? ⟨wr.heap.size,0,none⟩=some (.int .i64 (p.1:Nat))/\W.cell? ⟨wr.heap.size,1,none⟩=some (.int .i64 (p.2:Nat))):=fun W hW=>⟨(hW.cell (p:=⟨wr.heap.size,0,none⟩) (by show wr.heap.size<_;omega)).trans p0,(hW.cell (p:=⟨wr.heap.size,1,none⟩) (by show wr.heap.size<_;omega)).trans p1⟩
    cases e2:(v==2)with
    |true=>
     rw[e2]at t4;have Aa:cd v p=[.line (ji p)]:=by unfold cd;rw[ja (by rw[HU.out];decide),jb (by simpa using e2)]
     clear e2;go_wp2_with (first
      |(go_at_call 127;refine KU.mono ?_;rintro e w5 ⟨rfl,gi⟩;obtain⟨d0,d1⟩:=U0.out w5 gi;have JI:=cf p w5 (by omega))
      |(go_at_call 62;refine JI.mono ?_;rintro e w6 ⟨rfl,vI⟩;have JQ:=gi.trans (vI.mono gi.size);have s6:=Va.out w6 JQ;obtain⟨k0,k1,k2,k3,k4,k5⟩:=HC.out w6 JQ;have KP:=HP.out w6 JQ)
      |(go_at_call 130;refine KP.mono ?_;rintro e w9 ⟨rfl,O9,h9,F9⟩))
     go_roundg (ps.length-(k+1))
     case measure=>omega
     case rel=>exact⟨k+1,O9,by omega,by omega,by go_num,by rw[HI.out,Aa];exact h9,HF.out.trans ((Fr.of vk).trans F9)⟩
    |false=>
     rw[e2]at t4;have Aa:cd v p=[]:=by unfold cd;rw[ja (by rw[HU.out];decide),ja (by simpa using e2)]
     clear e2;go_wp2_with (first
      |(go_at_call 127;refine KU.mono ?_;rintro e w5 ⟨rfl,gi⟩;obtain⟨d0,d1⟩:=U0.out w5 gi;have JI:=cf p w5 (by omega))
      |(go_at_call 62;refine JI.mono ?_;rintro e w6 ⟨rfl,vI⟩;have JQ:=gi.trans (vI.mono gi.size);have s6:=Va.out w6 JQ))
     go_roundg (ps.length-(k+1))
     case measure=>omega
     case rel=>exact⟨k+1,O',by omega,by omega,by go_num,by rw[HI.out,Aa];exact Nu.below JQ,HF.out.trans ((Fr.of vk).trans (Fr.of JQ))⟩
  ·have la:k=ps.length:=by omega
   subst la;rw[List.take_length]at iC;go_wp2
   go_end0
   exact⟨rfl,O',iC,(Fr.of zZ).trans hF⟩
end
end El
namespace El
open Go Go.RowKit Sq Aux PrjF PrjG PrjJ PrjK PrjL PrjM PrjP PrjQ PrjS PrjT FlwA FlwB FlwE FlwF FlwJ
attribute [local go_sem ↓] bY bJ
def Dn (un:List Bool):Array Value:=(un.map Value.bool).toArray
def OG (w:World)(b o:Nat):Array Value:=((List.range 24).map fun j=>(w.cell? ⟨b,o+j,none⟩).getD undef).toArray
def GZ (w:World)(b o:Nat):Prop:=∃un:List Bool,un.length=24/\w.rangeAt b o (un.map Value.bool)
def Mg (w:World)(v:Value):Prop:=∃b o,v=.pointer (some ⟨b,o,none⟩)/\GZ w b o
@[simp] theorem PD (w : World) (b o : Nat) : Mg w (.pointer (some ⟨b, o, none⟩)) = GZ w b o := propext ⟨fun ⟨_, _, e, h⟩ => by cases e; exact h, fun h => ⟨b, o, rfl, h⟩⟩
theorem Ei {w:World}{b o:Nat}{un:List Bool}(hl:un.length=24)(h:w.rangeAt b o (un.map Value.bool)):OG w b o=Dn un:=by
 unfold OG Dn;congr 1;apply List.ext_getElem?
 intro j;rw[jJ];by_cases hj:j<24
 ·rw[List.getElem?_range hj];have rI:j<(un.map Value.bool).length:=by simpa [hl]using hj
  have:=h j (un.map Value.bool)[j] (jB rI);rw[Option.map_some,this,jB rI];rfl
 ·rw[jG (by simp;omega),jG (by simp[hl];omega)];rfl
theorem Lu:(Tryz.prog.info? 88).map (·.size)=some 24:=by kernel_rfl
section
variable (d:Option Tmp) (x:Operand) (t:TypeId) (ps:String) (af:Array Edge) (g:Option (Nat×Bool)) (a:Act) (w:World) (K:Act->World->Prop) (Q:Exit->Act->World->Prop)
theorem Ds (h:Mg w (a.eval x)):Oper.wp Tryz.prog {dst:=d,op:=Op.load 88 x,type:=t,pos:=ps,after:=af,guard:=g} a w K Q=K (a.put d (.agg (OG w (yQ (a.eval x)) (yR (a.eval x))))) w:=by
 obtain⟨b,o,hb,un,hl,hr⟩:=h;have:=run_loadVar_mid (P:=Tryz.prog) w b o 88 (un.map Value.bool) _ hr Tryz.underlying88 rfl (by rw[jc,hl];exact Lu);have e:=Ei hl hr;unfold Oper.wp execOp;simp only[hb,Instr.loadAt,Instr.sureAddr,Sem.run_bind,Sem.run_pure,Result.andThen_ok,this,oQ,oR,e];rfl
end
theorem Is (un:List Bool)(hl:un.length=24)(k:Nat)(hk:k<24)(w:World):Sem.run Tryz.prog (Instr.index 88 (.agg (Dn un)) (.int .i64 k)) w=.ok (.bool (un.getD k false)) w:=by
 match un,hl with
 |[b0,b1,b2,b3,b4,b5,b6,b7,b8,b9,b10,b11,b12,b13,b14,b15,b16,b17,b18,b19,BF,b21,b22,b23],_=>
  have h:k=0\/k=1\/k=2\/k=3\/k=4\/k=5\/k=6\/k=7\/k=8\/k=9\/k=10\/k=11\/k=12\/k=13\/k=14\/k=15\/k=16\/k=17\/k=18\/k=19\/k=20\/k=21\/k=22\/k=23:=by omega
  rcases h with rfl|rfl|rfl|rfl|rfl|rfl|rfl|rfl|rfl|rfl|rfl|rfl|rfl|rfl|rfl|rfl|rfl|rfl|rfl|rfl|rfl|rfl|rfl|rfl<;>(refine Eq.trans ?_ rfl;kernel_rfl)
attribute [local go_sem ↓] Ds
section
variable {z x a:Nat} {w0 w:World} {ve:Value} {un:List Bool} {m:Mk} {O:Nat->Prop}
theorem dM.Ej {vb:Value}{us:List Value}{vss:List (List (Value×Value))}(h:dM z w0 x a ve w un m O vb us vss):w.rangeAt x 2 (un.map Value.bool):=fun j v hv=>by
 have hj:j<24:=by
  have:=(List.getElem?_eq_some_iff.1 hv).1;simpa [h.ul]using this
 rw[(h.OE hj).1,<-hv,jJ,jB (by rw[h.ul];exact hj),jA,jB (by rw[h.ul];exact hj)];rfl
theorem k7 (un:List Bool)(s t:List Nat)(k:Nat):aY un s t (k+1)=aY un s t k++dw (un.getD k false) (s.getD k 0) (t.getD k 0) k:=by simp[aY,List.range_succ]
theorem B2 (u:Bool)(was Ix k:Nat):(∀i∈dw u was Ix k,i.qA)/\(dw u was Ix k).length<=1:=by
 unfold dw;split
 ·exact⟨fun i hi=>(by cases hi),by simp⟩
 split
 ·exact⟨fun i hi=>by rw[jI.1 hi];trivial,by simp⟩
 split
 ·exact⟨fun i hi=>by rw[jI.1 hi];trivial,by simp⟩
 ·exact⟨fun i hi=>(by cases hi),by simp⟩
theorem fI (un:List Bool)(s t:List Nat):∀n,(∀i∈aY un s t n,i.qA)/\(aY un s t n).length<=n
 |0=>⟨fun i hi=>(by cases hi),jC _⟩
 |n+1=>by
  obtain⟨h1,h2⟩:=fI un s t n;obtain⟨h3,h4⟩:=B2 (un.getD n false) (s.getD n 0) (t.getD n 0) n;rw[k7];refine⟨fun i hi=> ?_,by rw[jV];omega⟩;rcases List.mem_append.1 hi with h|h
  ·exact h1 i h
  ·exact h3 i h
theorem Bg {K:Nat}(h:bG z w0 x a ve w un m O)(hm:m.Small K)(hK:K<=900000)(k:Nat)(v:Int)(W:World)(hW:Below w.heap.size w W):Calls Tryz.prog 130 #[.pointer (some ⟨x,0,none⟩),.slice (some ⟨W.heap.size,0,none⟩) 1 1] (W.alloc (.cells #[.int .i64 0,.int .i64 17,.slice none 0 0,.int .i64 v,.int .i64 (k:Nat),.slice none 0 0] 115)) fun e w'=>e=.returned (.tuple #[])/\∃O9,bG z w0 x a ve w' un (m.put [dB k v]) O9/\Fr O w O9 w':=by
 have Ch:Below w.heap.size w (W.alloc (.cells #[.int .i64 0,.int .i64 17,.slice none 0 0,.int .i64 v,.int .i64 (k:Nat),.slice none 0 0] 115)):=hW.alloc hW.size _;have EY:aE z (W.alloc (.cells #[.int .i64 0,.int .i64 17,.slice none 0 0,.int .i64 v,.int .i64 (k:Nat),.slice none 0 0] 115)) (dB k v) (.slice none 0 0) (.slice none 0 0):=⟨World.ownsRow_nil _ _ _ _,World.ownsRow_nil _ _ _ _⟩;have KP:=fz (c:=1) (ls:=[dB k v]) (h.below Ch) hm.at_ (ie (g:=W.heap.size) EY jD) (by simp) (by have:=hm.lines m.at_;rw[List.length_singleton];omega);refine KP.mono ?_;rintro e w' ⟨rfl,O9,h9,F9⟩;exact⟨rfl,O9,h9,(Fr.of Ch).trans F9⟩
set_option maxRecDepth 20000 in
theorem yW {K:Nat}(h:bG z w0 x a ve w un m O)(hm:m.Small K)(hK:K<=90000)(s t:List Nat)(hs:dn s)(ht:dn t):
  Calls Tryz.prog 180 #[.pointer (some ⟨x,0,none⟩),.agg (ag s).toArray,.agg (ag t).toArray] w fun e w'=>e=.returned (.tuple #[])/\∃O',bG z w0 x a ve w' un (m.items (aY un s t 24)) O'/\Fr O w O' w':=by
 obtain⟨V1,vo⟩:∃V1,w.alloc (.cells (ag s).toArray 209)=V1:=⟨_,rfl⟩;have gC:aj V1 w.heap.size s:=by rw[<-vo];exact aj.new w hs.len
 have dk:Below w.heap.size w V1:=by rw[<-vo];exact(Below.refl _ _).alloc (jC _) _
 have oY:V1.heap.size=w.heap.size+1:=by rw[<-vo];simp
 obtain⟨V,hV⟩:∃V,V1.alloc (.cells (ag t).toArray 209)=V:=⟨_,rfl⟩;have jk:aj V (w.heap.size+1) t:=by rw[<-hV,<-oY];exact aj.new V1 ht.len
 have dp:Below V1.heap.size V1 V:=by rw[<-hV];exact(Below.refl _ _).alloc (jC _) _
 have oZ:V.heap.size=w.heap.size+2:=by rw[<-hV];simp[oY]
 have mN:=gC.below dp gC.lt;have zZ:Below w.heap.size w V:=dk.trans (dp.mono (by omega));have Mt:=h.below zZ;have Mo:¬O w.heap.size:=h.fresh (jC _);have gh:¬O (w.heap.size+1):=h.fresh (by omega);obtain⟨vb,us,vss,km⟩:=Mt;have UK:GZ V x 2:=⟨un,km.ul,km.Ej⟩;have YR:=Ei km.ul km.Ej;have SW:=km.ul;have c0:V.cell? ⟨x,0,none⟩=_:=km.facts.1;go_enter Tryz.func180,Tryz.ntmps180
 go_upto_region 1 with fail
 try rw[vo]
 try rw[hV]
 clear hV vo;go_wp2
 have HV:Hid (bG z w0 x a ve V un m O):=⟨_,_,_,km⟩;clear km UK YR c0;go_loopg [14] (24) (fun g v14 wr=>∃(k:Nat) (O':Nat->Prop),k<=24/\g+k=24/\v14=.int .i64 k/\bG z w0 x a ve wr un (m.items (aY un s t k)) O'/\Fr O V O' wr)
 case atStart=>exact⟨0,O,jQ _,rfl,rfl,HV.out,Fr.refl _ _⟩
 case round=>
  obtain⟨k,O',hk,yp,rfl,iC,hF⟩:=hrel;by_cases aP:k<24
  ·have rA:aj wr w.heap.size s:=⟨mN.1,(hF.block _ mN.lt Mo).trans mN.2⟩;have rB:aj wr (w.heap.size+1) t:=⟨jk.1,(hF.block _ jk.lt gh).trans jk.2⟩;have Lp:(m.items (aY un s t k)).Small (K+2*24):=(hm.items _ (fI un s t k).1).mono (by have:=(fI un s t k).2;omega);have HI:Hid (m.items (aY un s t (k+1))=(m.items (aY un s t k)).items (dw (un.getD k false) (s.getD k 0) (t.getD k 0) k)):=by unfold Hid;rw[k7,fM]
   generalize m.items (aY un s t k)=mk at*;have Zx:=Is un SW k aP;have d1:=rA.cell k aP;have d2:=rB.cell k aP;have EX:(k:Int)<24:=by omega
   have v1:=hs.lt k;have v2:=ht.lt k;generalize un.getD k false=u at*;generalize s.getD k 0=v at*;generalize t.getD k 0=y at*;obtain⟨t1,t2,t3,t4⟩:=rV v v1;obtain⟨r1,r2,r3,r4⟩:=rV y v2;have KP:=fun(v:Int) (W:World) (hW:Below wr.heap.size wr W)=>Bg iC Lp (by omega) k v W hW
   have KG:=fun(v:Int) (W:World)=>lL (k:Nat) v W
   have HF:Hid (_):=hF;have U7:Hid (_):=iC;clear hF iC;go_upto_region 4 with fail
   go_quiet (fail)
   obtain⟨W,hW⟩:∃W,wr.drewN nq=W:=⟨_,rfl⟩;have Kq:Below wr.heap.size wr W:=by rw[<-hW];exact below_drewN (Below.refl _ _) nq
   rw[hW];clear hW;have nput:dw u v y k=[]->bG z w0 x a ve W un (m.items (aY un s t (k+1))) O':=fun e=>by rw[HI.out,e];exact bG.below U7.out Kq
   cases u with
   |false=>
    have Aa:dw false v y k=[]:=rfl;have hM:=nput Aa;clear nput;go_wp2
    go_roundg (24-(k+1))
    case measure=>omega
    case rel=>exact⟨k+1,O',by omega,by omega,by go_num,hM,HF.out.trans (Fr.of Kq)⟩
   |true=>
    cases b1:(y==2)with
    |true=>
     rw[b1]at r3 r4;have y2:y=2:=by simpa using b1
     cases b2:(v==2)with
     |true=>
      rw[b2]at t3 t4;have Aa:dw true v y k=[]:=by
       unfold dw;rw[ja (by decide),ja (fun e=>e.2 (by simpa using b2)),ja (fun e=>absurd e.1 (by rw[y2];decide))]
      have hM:=nput Aa;have b3:(y&&&2==0)=false:=by rw[y2];rfl
      rw[b3]at r1 r2;clear nput b1 b2 b3 y2;go_wp2
      go_roundg (24-(k+1))
      case measure=>omega
      case rel=>exact⟨k+1,O',by omega,by omega,by go_num,hM,HF.out.trans (Fr.of Kq)⟩
     |false=>
      rw[b2]at t3 t4;have Aa:dw true v y k=[.line (dB k 1)]:=by
       unfold dw;rw[ja (by decide),jb ⟨y2,by simpa using b2⟩]
      clear nput b1 b2 y2;have Te:=KG 1 W;go_wp2_with (first
       |(go_at_call 211;refine Te.mono ?_;rintro e w1 ⟨rfl,aB⟩;have bu:=Kq.trans (aB.mono Kq.size);have Tf:=KP 1 w1 bu)
       |(go_at_call 130;refine Tf.mono ?_;rintro e w9 ⟨rfl,O9,h9,F9⟩))
      go_roundg (24-(k+1))
      case measure=>omega
      case rel=>exact⟨k+1,O9,by omega,by omega,by go_num,by rw[HI.out,Aa];exact h9,HF.out.trans F9⟩
    |false=>
     rw[b1]at r3 r4;have y2:¬y=2:=by simpa using b1
     cases b3:(y&&&2==0)with
     |true=>
      rw[b3]at r1 r2;cases b4:(v&&&2==0)with
      |true=>
       rw[b4]at t1 t2;have Aa:dw true v y k=[]:=by
        unfold dw;rw[ja (by decide),ja (fun e=>y2 e.1),ja (fun e=>e.2 (by simpa using b4))]
       have hM:=nput Aa;clear nput b1 b3 b4 y2;go_wp2
       go_roundg (24-(k+1))
       case measure=>omega
       case rel=>exact⟨k+1,O',by omega,by omega,by go_num,hM,HF.out.trans (Fr.of Kq)⟩
      |false=>
       rw[b4]at t1 t2;have Aa:dw true v y k=[.line (dB k 0)]:=by
        unfold dw;rw[ja (by decide),ja (fun e=>y2 e.1),jb ⟨by simpa using b3,by simpa using b4⟩]
       clear nput b1 b3 b4 y2;have Te:=KG 0 W;go_wp2_with (first
        |(go_at_call 211;refine Te.mono ?_;rintro e w1 ⟨rfl,aB⟩;have bu:=Kq.trans (aB.mono Kq.size);have Tf:=KP 0 w1 bu)
        |(go_at_call 130;refine Tf.mono ?_;rintro e w9 ⟨rfl,O9,h9,F9⟩))
       go_roundg (24-(k+1))
       case measure=>omega
       case rel=>exact⟨k+1,O9,by omega,by omega,by go_num,by rw[HI.out,Aa];exact h9,HF.out.trans F9⟩
     |false=>
      rw[b3]at r1 r2;have Aa:dw true v y k=[]:=by
       unfold dw;rw[ja (by decide),ja (fun e=>y2 e.1),ja (fun e=>by have:=e.1;simp[this]at b3)]
      have hM:=nput Aa;clear nput b1 b3 y2;go_wp2
      go_roundg (24-(k+1))
      case measure=>omega
      case rel=>exact⟨k+1,O',by omega,by omega,by go_num,hM,HF.out.trans (Fr.of Kq)⟩
  ·have la:k=24:=by omega
   subst la;go_wp2
   go_end0
   exact⟨rfl,O',iC,(Fr.of zZ).trans hF⟩
end
end El
end Go.Proofs.YtmlgajhhnojdjaaGreatDoor

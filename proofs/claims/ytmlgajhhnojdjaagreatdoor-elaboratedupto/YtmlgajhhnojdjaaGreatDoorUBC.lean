import Derived.Test.YtmlgajhhnojdjaaGreatDoorUBB
set_option maxHeartbeats 8000000
namespace Go.Proofs.YtmlgajhhnojdjaaGreatDoor
namespace El
open Go Go.RowKit Sq Aux PrjF PrjG PrjJ PrjK PrjL PrjM PrjP PrjQ PrjS PrjT FlwA FlwB FlwE FlwF FlwJ
attribute [local go_sem ↓] dd cO
structure Mk.Small (m:Mk)(k:Nat):Prop where
 at_:m.at_<m.blocks.length
 many:m.blocks.length<=k
 lines:∀j,(m.blocks.getD j []).length<=k
theorem Mk.Small.mono {m:Mk}{k n:Nat}(h:m.Small k)(hn:k<=n):m.Small n:=⟨h.at_,by have:=h.many;omega,fun j=>by have:=h.lines j;omega⟩
theorem Mk.Small.line {m:Mk}{k:Nat}(h:m.Small k)(l:ab):(m.put [l]).Small (k+2):=by
 refine⟨by rw[fH];exact h.at_,by rw[fH];have:=h.many;omega,fun j=> ?_⟩;have:=h.lines j;rw[l9 _ _ h.at_];split
 ·rw[jV,List.length_singleton];omega
 ·omega
theorem Mk.Small.fork {m:Mk}{k:Nat}(h:m.Small k)(t:ab){sd:List ab}(hs:sd.length<=1):(m.fork t sd).Small (k+2):=by
 refine⟨by rw[pB];show m.blocks.length+1<_;omega,by rw[pB];have:=h.many;omega,fun j=> ?_⟩;have:=h.lines j;rw[qp _ _ _ h.at_];split
 ·rw[jV,List.length_singleton];omega
 split
 ·rw[jV,List.length_singleton];omega
 ·omega
def Item.vA:Item->Prop
 | .line _=>True
 | .fork _ sd=>sd.length<=1
theorem Mk.Small.items:∀(is:List Item) {m:Mk} {k:Nat},m.Small k->(∀i∈is,i.vA)->(m.items is).Small (k+2*is.length)
 |[],_,_,h,_=>h
 | .line l::is,m,k,h,hs=>by
  have:=Mk.Small.items is (h.line l) (fun i hi=>hs i (jN _ hi));exact this.mono (by simp only[List.length_cons];omega)
 | .fork t sd::is,m,k,h,hs=>by
  have:=Mk.Small.items is (h.fork t (hs _ (jM ..))) (fun i hi=>hs i (jN _ hi));exact this.mono (by simp only[List.length_cons];omega)
theorem H6 (v:Nat)(x:Nat×Nat):(∀i∈cR v x,i.vA)/\(cR v x).length<=1:=by
 unfold cR;split
 ·exact⟨fun i hi=>by rw[jI.1 hi];show [kJ x].length<=1;simp,by simp⟩
 split
 ·exact⟨fun i hi=>by rw[jI.1 hi];trivial,by simp⟩
 ·exact⟨fun i hi=>(by cases hi),by simp⟩
theorem iN (s:List Nat):∀ps:List (Nat×Nat),(∀i∈aN s ps,i.vA)/\(aN s ps).length<=ps.length
 |[]=>⟨fun i hi=>(by cases hi),jC _⟩
 |x::ps=>by
  obtain⟨h1,h2⟩:=iN s ps;obtain⟨h3,h4⟩:=H6 (s.getD (ae x) 0) x;have e:aN s (x::ps)=cR (s.getD (ae x) 0) x++aN s ps:=rfl;rw[e];refine⟨fun i hi=> ?_,by rw[jV,jY];omega⟩;rcases List.mem_append.1 hi with h|h
  ·exact h3 i h
  ·exact h1 i h
theorem xN (s:List Nat){ps:List (Nat×Nat)}{k:Nat}(hk:k<ps.length):aN s (ps.take (k+1))=aN s (ps.take k)++cR (s.getD (ae (ps.getD k (0,0))) 0) (ps.getD k (0,0)):=by
 have e:ps.take (k+1)=ps.take k++[ps.getD k (0,0)]:=by
  rw[List.take_add_one,jB hk,jA,jB hk];rfl
 rw[e];simp[aN]
theorem MX (w:World){z:Nat}(hz:z<=w.heap.size)(p:Nat×Nat):(w.alloc (.cells #[.int .i64 (p.1:Nat),.int .i64 (p.2:Nat)] 119)).ownsRow z 119 2 (.slice (some ⟨w.heap.size,0,none⟩) 1 1) 1 (bf [p]):=
 ⟨rfl,.inr ⟨w.heap.size,1,_,rfl,hz,jD,jC _,by unfold maxLen;omega,rfl,rfl⟩⟩
theorem FG {w:World}{z g:Nat}{l:ab}{vp vn:Value}(hz:z<=g)(hb:w.heap[g]?=some (.cells (dO (l,vp,vn)).toArray 115 (0,0))):w.ownsRow z 115 6 (.slice (some ⟨g,0,none⟩) 1 1) 1 (bd [l] [(vp,vn)]):=by
 have:(bd [l] [(vp,vn)])=dO (l,vp,vn):=by simp[bd]
 rw[this];exact⟨rfl,.inr ⟨g,1,_,rfl,hz,hb,jC _,by unfold maxLen;omega,rfl,rfl⟩⟩
section
variable {z x a:Nat} {w0 w:World} {ve:Value} {un:List Bool} {m:Mk} {O:Nat->Prop}
theorem Ow {W:World}{ga K:Nat}(h:cH z w0 x a ve w un m O)(hm:m.Small K)(hK:K<=100000)(hW:Below w.heap.size w W)(t:ab){ap:Option Addr}{cp:Nat}{vn:Value}(hp:w.ownsRow z 119 2 (.slice ap t.places.length cp) t.places.length (bf t.places))(hpO:∀g,(Value.slice ap t.places.length cp).ownBlock=some g->¬O g)
  {l:ab} {vp vn':Value} (hl:aC z w l vp vn') (hlO:∀g,vp.ownBlock=some g\/vn'.ownBlock=some g->¬O g) (NL:w.heap.size<=ga) (hR:W.heap[ga]?=some (.cells (dO (l,vp,vn')).toArray 115 (0,0))):
  Calls Tryz.prog 210 #[.pointer (some ⟨x,0,none⟩),.agg #[.int .i64 (t.num:Nat),.int .i64 (t.op:Nat),.slice ap t.places.length cp,.int .i64 t.number,.int .i64 t.flag,vn],.slice (some ⟨ga,0,none⟩) 1 1] W fun e w'=>e=.returned (.tuple #[])/\∃O',cH z w0 x a ve w' un (m.fork t [l]) O'/\Fr O w O' w':=by
 have hb:=h.base;have KF:=EK (h.below hW) hm.at_ t (vn:=vn) (aw hp hW) hpO (ls:=[l]) (vs:=[(vp,vn')]) (ca:=1) (zz:=w.heap.size) (FG NL hR) ⟨h.fresh NL,by omega⟩ (kR (hl.below hW) hR) (fun j hj g hg=>by
  simp at hj;subst hj;exact hlO g hg) (by have:=hm.many;omega) (by have:=hm.lines m.at_;omega) (by simp)
 refine KF.mono ?_;rintro e w' ⟨rfl,O',h',F'⟩;have QV:=hW.size;refine⟨rfl,O',h',F'.os.trans hW.os,F'.tape.trans hW.tape,F'.output.trans hW.output,jS hW.size F'.size,fun k hk hn=> ?_,fun k hk=> ?_⟩
 ·rw[F'.block k (by omega) (by rintro(e|e);exact hn e;omega)];exact hW.block k hk
 ·rcases F'.new k hk with(e|e)|e
  ·exact .inl e
  ·exact .inr (by omega)
  ·exact .inr (by omega)
set_option maxRecDepth 20000 in
theorem sy {K:Nat}(h:cH z w0 x a ve w un m O)(hm:m.Small K)(hK:K<=90000)(s:List Nat)(hs:ey s){ps:List (Nat×Nat)}{ad:Option Addr}{c zp:Nat}(hp:aI zp w (.slice ad ps.length c) ps)(hpO:∀g,(Value.slice ad ps.length c).ownBlock=some g->¬O g)(hx:∀y∈ps,y.1<12)(hlen:ps.length<=100):
  Calls Tryz.prog 179 #[.pointer (some ⟨x,0,none⟩),.agg (aj s).toArray,.slice ad ps.length c] w fun e w'=>e=.returned (.tuple #[])/\∃O',cH z w0 x a ve w' un (m.items (aN s ps)) O'/\Fr O w O' w':=by
 obtain⟨V,hV⟩:∃V,w.alloc (.cells (aj s).toArray 209)=V:=⟨_,rfl⟩;have OG:av V w.heap.size s:=by rw[<-hV];exact av.new w hs.len
 have EX:Below w.heap.size w V:=by rw[<-hV];exact(Below.refl _ _).alloc (jC _) _
 have lj:V.heap.size=w.heap.size+1:=by rw[<-hV];simp
 have Tc:=h.below EX;have hpV:=aw hp EX;have Vo:¬O w.heap.size:=h.fresh (jC _);have hwz:z<=w.heap.size:=by obtain⟨vb,us,vss,h'⟩:=h;have:=h'.K9;have:=h'.aZ.size;omega
 have AH:ps.length<=c\/ps.length=0:=by
  rcases hp.2 with⟨-,e⟩|⟨g,cap,cur,e,-,-,h1,-⟩
  ·exact .inr e
  ·simp only[Value.slice.injEq]at e;exact .inl (by omega)
 go_enter Tryz.func179,Tryz.ntmps179
 go_wp2
 try rw[hV]
 clear hV;go_loopg [11] (ps.length) (fun g v11 wr=>∃(k:Nat) (O':Nat->Prop),k<=ps.length/\g+k=ps.length/\v11=.int .i64 k/\cH z w0 x a ve wr un (m.items (aN s (ps.take k))) O'/\Fr O V O' wr)
 case atStart=>exact⟨0,O,jQ _,rfl,rfl,Tc,Fr.refl _ _⟩
 case round=>
  obtain⟨k,O',hk,Ca,rfl,ll,hF⟩:=hrel;by_cases bg:k<ps.length
  ·have yi:aI zp wr (.slice ad ps.length c) ps:=vq hpV hF hpO;have xR:av wr w.heap.size s:=⟨OG.1,(hF.block _ OG.lt Vo).trans OG.2⟩;obtain⟨gp,rfl,-,gP,G4,c1,c2⟩:=bK yi k bg;have j6:=hx (ps.getD k (0,0)) (by simp[bg]);have HS:=xN s bg;have RY:(m.items (aN s (ps.take k))).Small (K+2*100):=(hm.items _ (iN s _).1).mono (by have:=(iN s (ps.take k)).2;rw[List.length_take]at this;omega);generalize ps.getD k (0,0)=p at*;have HI:Hid (m.items (aN s (ps.take (k+1)))=(m.items (aN s (ps.take k))).items (cR (s.getD (ae p) 0) p)):=by unfold Hid;rw[HS,iS]
   clear HS;generalize m.items (aN s (ps.take k))=mk at*;have NO:(k:Int)<ps.length:=by omega
   have lH:ae p<24:=by unfold ae;split<;>omega
   have NR:(ae p:Int)<24:=by omega
   have Y6:w.heap.size<wr.heap.size:=lt_of_heap xR.2;go_upto_region 5 with fail
   have aG:Below wr.heap.size wr (wr.alloc (.cells #[.int .i64 (p.1:Nat),.int .i64 (p.2:Nat)] 119)):=(Below.refl _ _).alloc (jC _) _;have iQ:(wr.alloc (.cells #[.int .i64 (p.1:Nat),.int .i64 (p.2:Nat)] 119)).heap.size=wr.heap.size+1:=by simp
   have lh:(wr.alloc (.cells #[.int .i64 (p.1:Nat),.int .i64 (p.2:Nat)] 119)).heap[wr.heap.size]?=some (.cells #[.int .i64 (p.1:Nat),.int .i64 (p.2:Nat)] 119 (0,0)):=jD;generalize wr.alloc (.cells #[.int .i64 (p.1:Nat),.int .i64 (p.2:Nat)] 119)=A1 at*;have bH:Below A1.heap.size A1 (A1.alloc (.cells #[.int .i64 (p.1:Nat),.int .i64 (p.2:Nat)] 119)):=(Below.refl _ _).alloc (jC _) _;have Cc:(A1.alloc (.cells #[.int .i64 (p.1:Nat),.int .i64 (p.2:Nat)] 119)).heap.size=wr.heap.size+2:=by simp[iQ]
   have pM:=MX A1 (z:=z) (by omega) p;generalize A1.alloc (.cells #[.int .i64 (p.1:Nat),.int .i64 (p.2:Nat)] 119)=A2 at*;rw[iQ]at pM;have cT:Below A2.heap.size A2 (A2.alloc (.cells #[.int .i64 0,.int .i64 16,.slice (some ⟨wr.heap.size+1,0,none⟩) 1 1,.int .i64 0,.int .i64 0,.slice none 0 0] 115)):=(Below.refl _ _).alloc (jC _) _;have Ph:(A2.alloc (.cells #[.int .i64 0,.int .i64 16,.slice (some ⟨wr.heap.size+1,0,none⟩) 1 1,.int .i64 0,.int .i64 0,.slice none 0 0] 115)).heap.size=wr.heap.size+3:=by simp[Cc]
   have zf:(A2.alloc (.cells #[.int .i64 0,.int .i64 16,.slice (some ⟨wr.heap.size+1,0,none⟩) 1 1,.int .i64 0,.int .i64 0,.slice none 0 0] 115)).heap[A2.heap.size]?=some (.cells #[.int .i64 0,.int .i64 16,.slice (some ⟨wr.heap.size+1,0,none⟩) 1 1,.int .i64 0,.int .i64 0,.slice none 0 0] 115 (0,0)):=jD;rw[Cc]at zf;generalize A2.alloc (.cells #[.int .i64 0,.int .i64 16,.slice (some ⟨wr.heap.size+1,0,none⟩) 1 1,.int .i64 0,.int .i64 0,.slice none 0 0] 115)=A3 at*;have qR:Below wr.heap.size wr A3:=(aG.trans (bH.mono aG.size)).trans (cT.mono (by omega));have UF:=(cT.block wr.heap.size (by omega)).trans ((bH.block wr.heap.size (by omega)).trans lh);have Fa:=aw pM cT;have T6:=ll.below qR;have GZ:=xR.below qR Y6;have ZO:¬O' (wr.heap.size+1):=ll.fresh (by omega);have LZ:aC z A3 (kJ p) (.slice (some ⟨wr.heap.size+1,0,none⟩) 1 1) (.slice none 0 0):=⟨Fa,World.ownsRow_nil _ _ _ _⟩;clear aG iQ lh bH Cc pM cT Fa;have p0:A3.cell? ⟨wr.heap.size,0,none⟩=some (.int .i64 (p.1:Nat)):=by rw[cell_of_heap UF];rfl
   have p1:A3.cell? ⟨wr.heap.size,1,none⟩=some (.int .i64 (p.2:Nat)):=by rw[cell_of_heap UF];rfl
   have hsth:=av.has GZ;have hsto:=av.of GZ;have KU:=oB s hs p j6 A3;obtain⟨v,hv⟩:∃v,s.getD (ae p) 0=v:=⟨_,rfl⟩;have Ym:=hs.lt (ae p);rw[hv]at KU HI Ym;have HV:Hid (s.getD (ae p) 0=v):=hv;clear hv;have HF:Hid (_):=hF;have HMr:Hid (_):=ll;have HLA:Hid (_):=LZ;clear hF ll LZ;cases hu:cg v with
   |true=>
    have E6:cR v p=[.fork (vD (ae p)) [kJ p]]:=by unfold cR;rw[jb hu]
    rw[hu]at KU;clear hu;go_upto_region 6 with(go_at_call 127;refine KU.mono ?_;rintro e w5 ⟨rfl,fM⟩;have L8:=(fM.block (wr.heap.size+2) (by omega)).trans zf;have XV:=(fM.block wr.heap.size (by omega)).trans UF;have hs5:=fM.size)
    have Ih:Below A3.heap.size A3 w5:=fM;have l0:w5.cell? ⟨wr.heap.size+2,0,none⟩=some (.int .i64 0):=by rw[cell_of_heap L8];rfl
    have l1:w5.cell? ⟨wr.heap.size+2,1,none⟩=some (.int .i64 16):=by rw[cell_of_heap L8];rfl
    have l2:w5.cell? ⟨wr.heap.size+2,2,none⟩=some (.slice (some ⟨wr.heap.size+1,0,none⟩) 1 1):=by rw[cell_of_heap L8];rfl
    have l3:w5.cell? ⟨wr.heap.size+2,3,none⟩=some (.int .i64 0):=by rw[cell_of_heap L8];rfl
    have l4:w5.cell? ⟨wr.heap.size+2,4,none⟩=some (.int .i64 0):=by rw[cell_of_heap L8];rfl
    have l5:w5.cell? ⟨wr.heap.size+2,5,none⟩=some (.slice none 0 0):=by rw[cell_of_heap L8];rfl
    have d0:w5.cell? ⟨wr.heap.size,0,none⟩=some (.int .i64 (p.1:Nat)):=by rw[cell_of_heap XV];rfl
    have d1:w5.cell? ⟨wr.heap.size,1,none⟩=some (.int .i64 (p.2:Nat)):=by rw[cell_of_heap XV];rfl
    have QG:=dc p w5.drew (by omega);obtain⟨WA,Il⟩:∃WA,w5.drew.alloc (.cells #[.int .i64 0,.int .i64 16,.slice (some ⟨wr.heap.size+1,0,none⟩) 1 1,.int .i64 0,.int .i64 0,.slice none 0 0] 115)=WA:=⟨_,rfl⟩;have YE:=dc p WA (by omega);have Ru:WA.heap[w5.heap.size]?=some (.cells #[.int .i64 0,.int .i64 16,.slice (some ⟨wr.heap.size+1,0,none⟩) 1 1,.int .i64 0,.int .i64 0,.slice none 0 0] 115 (0,0)):=by rw[<-Il];exact jD
    have AX:Below w5.heap.size w5 WA:=by rw[<-Il];exact⟨rfl,rfl,rfl,by simp,fun k hk=>by show(w5.heap.push _)[k]?=_;rw[Array.getElem?_push_lt hk];simp[hk]⟩
    have d2:WA.cell? ⟨wr.heap.size,0,none⟩=some (.int .i64 (p.1:Nat)):=(AX.cell (p:=⟨wr.heap.size,0,none⟩) (by show wr.heap.size<_;omega)).trans d0;have d3:WA.cell? ⟨wr.heap.size,1,none⟩=some (.int .i64 (p.2:Nat)):=(AX.cell (p:=⟨wr.heap.size,1,none⟩) (by show wr.heap.size<_;omega)).trans d1;have KF:=fun(W:World) (ga:Nat) (h1:Below A3.heap.size A3 W) (h2:A3.heap.size<=ga) (h3:W.heap[ga]?=some (.cells #[.int .i64 0,.int .i64 16,.slice (some ⟨wr.heap.size+1,0,none⟩) 1 1,.int .i64 0,.int .i64 0,.slice none 0 0] 115 (0,0)))=>
     Ow (vn:=.slice none 0 0) T6 RY (by omega) h1 (vD (ae p)) (World.ownsRow_nil A3 z 119 2) (fun g hg=>by cases hg) HLA.out (fun g hg=>by
      rcases hg with hg|hg
      ·simp only[Value.ownBlock,Option.some.injEq]at hg;subst hg;exact ZO
      ·cases hg) h2 h3
    have KA:Hid (∀w6,Below w5.heap.size w5 w6->(w6.cell? ⟨wr.heap.size+2,0,none⟩=some (.int .i64 0)/\w6.cell? ⟨wr.heap.size+2,1,none⟩=some (.int .i64 16)/\w6.cell? ⟨wr.heap.size+2,2,none⟩=some (.slice (some ⟨wr.heap.size+1,0,none⟩) 1 1)/\w6.cell? ⟨wr.heap.size+2,3,none⟩=some (.int .i64 0)/\w6.cell? ⟨wr.heap.size+2,4,none⟩=some (.int .i64 0)/\w6.cell? ⟨wr.heap.size+2,5,none⟩=some (.slice none 0 0))):=fun w6 hb=>by
     have Iz:=(hb.block (wr.heap.size+2) (by omega)).trans L8;exact⟨by rw[cell_of_heap Iz];rfl,by rw[cell_of_heap Iz];rfl,by rw[cell_of_heap Iz];rfl,by rw[cell_of_heap Iz];rfl,by rw[cell_of_heap Iz];rfl,by rw[cell_of_heap Iz];rfl⟩
    have KFA:=fun(w6:World) (hb:Below w5.heap.size w5 w6)=>KF (w6.alloc (.cells #[.int .i64 0,.int .i64 16,.slice (some ⟨wr.heap.size+1,0,none⟩) 1 1,.int .i64 0,.int .i64 0,.slice none 0 0] 115)) w6.heap.size ((Ih.trans (hb.mono Ih.size)).alloc (by have:=hb.size;omega) _) (by have:=hb.size;omega) jD
    have KFB:=fun(w6:World) (hb:Below WA.heap.size WA w6)=>KF w6 w5.heap.size ((Ih.trans (AX.mono Ih.size)).trans (hb.mono (by have:=AX.size;omega))) (by omega) ((hb.block w5.heap.size (lt_of_heap Ru)).trans Ru)
    clear KF Ru AX;go_region_law (first
     |(go_simp;go_at_call 62;refine QG.mono ?_;rintro e w6 ⟨rfl,ot⟩;have ov:Below w5.heap.size w5 w6:=⟨ot.os,ot.tape,ot.output,ot.size,ot.block⟩;obtain⟨k0,k1,k2,k3,k4,k5⟩:=KA.out w6 ov;have Ve:=KFA w6 ov)
     |(go_simp;go_at_call 62;refine YE.mono ?_;rintro e w6 ⟨rfl,ot⟩;have Ve:=KFB w6 ot)
     |(go_simp;go_at_call 210;refine Ve.mono ?_;rintro e w9 ⟨rfl,O9,h9,F9⟩))
    all_goals go_wp2_with fail
    all_goals
     go_roundg (ps.length-(k+1))
     case measure=>omega
     case rel=>exact⟨k+1,O9,by omega,by omega,by go_num,by rw[HI.out,E6];exact h9,HF.out.trans ((Fr.of qR).trans F9)⟩
   |false=>
    have Yh:∀W,Below A3.heap.size A3 W->W.heap[wr.heap.size+2]?=some (.cells #[.int .i64 0,.int .i64 16,.slice (some ⟨wr.heap.size+1,0,none⟩) 1 1,.int .i64 0,.int .i64 0,.slice none 0 0] 115 (0,0)):=fun W hW=>(hW.block _ (by omega)).trans zf
    have HC:Hid (∀W,Below A3.heap.size A3 W->(W.cell? ⟨wr.heap.size+2,0,none⟩=some (.int .i64 0)/\W.cell? ⟨wr.heap.size+2,1,none⟩=some (.int .i64 16)/\W.cell? ⟨wr.heap.size+2,2,none⟩=some (.slice (some ⟨wr.heap.size+1,0,none⟩) 1 1)/\W.cell? ⟨wr.heap.size+2,3,none⟩=some (.int .i64 0)/\W.cell? ⟨wr.heap.size+2,4,none⟩=some (.int .i64 0)/\W.cell? ⟨wr.heap.size+2,5,none⟩=some (.slice none 0 0))):=fun W hb=>by
     have Iz:=Yh W hb;exact⟨by rw[cell_of_heap Iz];rfl,by rw[cell_of_heap Iz];rfl,by rw[cell_of_heap Iz];rfl,by rw[cell_of_heap Iz];rfl,by rw[cell_of_heap Iz];rfl,by rw[cell_of_heap Iz];rfl⟩
    rw[hu]at KU;have HU:Hid (cg v=false):=hu;clear hu Yh;obtain⟨-,-,-,t4⟩:=yb v Ym;have HP:Hid (∀W,Below A3.heap.size A3 W->Calls Tryz.prog 130 #[.pointer (some ⟨x,0,none⟩),.slice (some ⟨W.heap.size,0,none⟩) 1 1] (W.alloc (.cells #[.int .i64 0,.int .i64 16,.slice (some ⟨wr.heap.size+1,0,none⟩) 1 1,.int .i64 0,.int .i64 0,.slice none 0 0] 115)) fun e w'=>e=.returned (.tuple #[])/\∃O9,cH z w0 x a ve w' un (mk.put [kJ p]) O9/\Fr O' A3 O9 w'):=fun W hW=>by
     have Il:Below A3.heap.size A3 (W.alloc (.cells #[.int .i64 0,.int .i64 16,.slice (some ⟨wr.heap.size+1,0,none⟩) 1 1,.int .i64 0,.int .i64 0,.slice none 0 0] 115)):=hW.alloc hW.size _;have KP:=iz (c:=1) (ls:=[kJ p]) (T6.below Il) RY.at_ (kR (g:=W.heap.size) (HLA.out.below Il) jD) (by simp) (by have:=RY.lines mk.at_;rw[List.length_singleton];omega);refine KP.mono ?_;rintro e w' ⟨rfl,O9,h9,F9⟩;exact⟨rfl,O9,h9,(Fr.of Il).trans F9⟩
    have HS5:Hid (∀W,Below A3.heap.size A3 W->W.cell? ⟨w.heap.size,ae p,none⟩=some (.int .u8 (v:Nat))):=fun W hW=>by
     have:=av.cell (GZ.below hW (by omega)) (ae p) lH;rw[HV.out]at this;exact this
    have HD5:Hid (∀W,Below A3.heap.size A3 W->W.cell? ⟨wr.heap.size,0,none⟩=some (.int .i64 (p.1:Nat))/\W.cell? ⟨wr.heap.size,1,none⟩=some (.int .i64 (p.2:Nat))):=fun W hW=>⟨(hW.cell (p:=⟨wr.heap.size,0,none⟩) (by show wr.heap.size<_;omega)).trans p0,(hW.cell (p:=⟨wr.heap.size,1,none⟩) (by show wr.heap.size<_;omega)).trans p1⟩
    cases e2:(v==2)with
    |true=>
     rw[e2]at t4;have E6:cR v p=[.line (kJ p)]:=by unfold cR;rw[ja (by rw[HU.out];decide),jb (by simpa using e2)]
     clear e2;go_wp2_with (first
      |(go_at_call 127;refine KU.mono ?_;rintro e w5 ⟨rfl,fM⟩;obtain⟨d0,d1⟩:=HD5.out w5 fM;have QG:=dc p w5 (by omega))
      |(go_at_call 62;refine QG.mono ?_;rintro e w6 ⟨rfl,ot⟩;have Db:=fM.trans (ot.mono fM.size);have s6:=HS5.out w6 Db;obtain⟨k0,k1,k2,k3,k4,k5⟩:=HC.out w6 Db;have KP:=HP.out w6 Db)
      |(go_at_call 130;refine KP.mono ?_;rintro e w9 ⟨rfl,O9,h9,F9⟩))
     go_roundg (ps.length-(k+1))
     case measure=>omega
     case rel=>exact⟨k+1,O9,by omega,by omega,by go_num,by rw[HI.out,E6];exact h9,HF.out.trans ((Fr.of qR).trans F9)⟩
    |false=>
     rw[e2]at t4;have E6:cR v p=[]:=by unfold cR;rw[ja (by rw[HU.out];decide),ja (by simpa using e2)]
     clear e2;go_wp2_with (first
      |(go_at_call 127;refine KU.mono ?_;rintro e w5 ⟨rfl,fM⟩;obtain⟨d0,d1⟩:=HD5.out w5 fM;have QG:=dc p w5 (by omega))
      |(go_at_call 62;refine QG.mono ?_;rintro e w6 ⟨rfl,ot⟩;have Db:=fM.trans (ot.mono fM.size);have s6:=HS5.out w6 Db))
     go_roundg (ps.length-(k+1))
     case measure=>omega
     case rel=>exact⟨k+1,O',by omega,by omega,by go_num,by rw[HI.out,E6];exact T6.below Db,HF.out.trans ((Fr.of qR).trans (Fr.of Db))⟩
  ·have mY:k=ps.length:=by omega
   subst mY;rw[List.take_length]at ll;go_wp2
   go_end0
   exact⟨rfl,O',ll,(Fr.of EX).trans hF⟩
end
end El
namespace El
open Go Go.RowKit Sq Aux PrjF PrjG PrjJ PrjK PrjL PrjM PrjP PrjQ PrjS PrjT FlwA FlwB FlwE FlwF FlwJ
attribute [local go_sem ↓] dd cO
def JF (un:List Bool):Array Value:=(un.map Value.bool).toArray
def U9 (w:World)(b o:Nat):Array Value:=((List.range 24).map fun j=>(w.cell? ⟨b,o+j,none⟩).getD undef).toArray
def N0 (w:World)(b o:Nat):Prop:=∃un:List Bool,un.length=24/\w.rangeAt b o (un.map Value.bool)
def SY (w:World)(v:Value):Prop:=∃b o,v=.pointer (some ⟨b,o,none⟩)/\N0 w b o
@[simp] theorem VZ (w : World) (b o : Nat) : SY w (.pointer (some ⟨b, o, none⟩)) = N0 w b o := propext ⟨fun ⟨_, _, e, h⟩ => by cases e; exact h, fun h => ⟨b, o, rfl, h⟩⟩
theorem K6 {w:World}{b o:Nat}{un:List Bool}(hl:un.length=24)(h:w.rangeAt b o (un.map Value.bool)):U9 w b o=JF un:=by
 unfold U9 JF;congr 1;apply List.ext_getElem?
 intro j;rw[jJ];by_cases hj:j<24
 ·rw[List.getElem?_range hj];have xW:j<(un.map Value.bool).length:=by simpa [hl]using hj
  have:=h j (un.map Value.bool)[j] (jB xW);rw[Option.map_some,this,jB xW];rfl
 ·rw[jG (by simp;omega),jG (by simp[hl];omega)];rfl
theorem R8:(Tryz.prog.info? 88).map (·.size)=some 24:=by kernel_rfl
section
variable (d:Option Tmp) (x:Operand) (t:TypeId) (ps:String) (af:Array Edge) (g:Option (Nat×Bool)) (a:Act) (w:World) (K:Act->World->Prop) (Q:Exit->Act->World->Prop)
theorem JI (h:SY w (a.eval x)):Oper.wp Tryz.prog {dst:=d,op:=Op.load 88 x,type:=t,pos:=ps,after:=af,guard:=g} a w K Q=K (a.put d (.agg (U9 w (DD (a.eval x)) (DE (a.eval x))))) w:=by
 obtain⟨b,o,hb,un,hl,hr⟩:=h;have:=run_loadVar_mid (P:=Tryz.prog) w b o 88 (un.map Value.bool) _ hr Tryz.underlying88 rfl (by rw[jc,hl];exact R8);have e:=K6 hl hr;unfold Oper.wp execOp;simp only[hb,Instr.loadAt,Instr.sureAddr,Sem.run_bind,Sem.run_pure,Result.andThen_ok,this,rQ,rR,e];rfl
end
theorem Pn (un:List Bool)(hl:un.length=24)(k:Nat)(hk:k<24)(w:World):Sem.run Tryz.prog (Instr.index 88 (.agg (JF un)) (.int .i64 k)) w=.ok (.bool (un.getD k false)) w:=by
 match un,hl with
 |[b0,b1,b2,b3,b4,b5,b6,b7,b8,b9,b10,b11,b12,b13,b14,b15,b16,b17,b18,b19,rl,b21,b22,b23],_=>
  have h:k=0\/k=1\/k=2\/k=3\/k=4\/k=5\/k=6\/k=7\/k=8\/k=9\/k=10\/k=11\/k=12\/k=13\/k=14\/k=15\/k=16\/k=17\/k=18\/k=19\/k=20\/k=21\/k=22\/k=23:=by omega
  rcases h with rfl|rfl|rfl|rfl|rfl|rfl|rfl|rfl|rfl|rfl|rfl|rfl|rfl|rfl|rfl|rfl|rfl|rfl|rfl|rfl|rfl|rfl|rfl|rfl<;>(refine Eq.trans ?_ rfl;kernel_rfl)
attribute [local go_sem ↓] JI
section
variable {z x a:Nat} {w0 w:World} {ve:Value} {un:List Bool} {m:Mk} {O:Nat->Prop}
theorem fx.K7 {vb:Value}{us:List Value}{vss:List (List (Value×Value))}(h:fx z w0 x a ve w un m O vb us vss):w.rangeAt x 2 (un.map Value.bool):=fun j v hv=>by
 have hj:j<24:=by
  have:=(List.getElem?_eq_some_iff.1 hv).1;simpa [h.ul]using this
 rw[(h.U7 hj).1,<-hv,jJ,jB (by rw[h.ul];exact hj),jA,jB (by rw[h.ul];exact hj)];rfl
theorem oT (un:List Bool)(s t:List Nat)(k:Nat):a8 un s t (k+1)=a8 un s t k++eM (un.getD k false) (s.getD k 0) (t.getD k 0) k:=by simp[a8,List.range_succ]
theorem HY (u:Bool)(was Kg k:Nat):(∀i∈eM u was Kg k,i.vA)/\(eM u was Kg k).length<=1:=by
 unfold eM;split
 ·exact⟨fun i hi=>(by cases hi),by simp⟩
 split
 ·exact⟨fun i hi=>by rw[jI.1 hi];trivial,by simp⟩
 split
 ·exact⟨fun i hi=>by rw[jI.1 hi];trivial,by simp⟩
 ·exact⟨fun i hi=>(by cases hi),by simp⟩
theorem iM (un:List Bool)(s t:List Nat):∀n,(∀i∈a8 un s t n,i.vA)/\(a8 un s t n).length<=n
 |0=>⟨fun i hi=>(by cases hi),jC _⟩
 |n+1=>by
  obtain⟨h1,h2⟩:=iM un s t n;obtain⟨h3,h4⟩:=HY (un.getD n false) (s.getD n 0) (t.getD n 0) n;rw[oT];refine⟨fun i hi=> ?_,by rw[jV];omega⟩;rcases List.mem_append.1 hi with h|h
  ·exact h1 i h
  ·exact h3 i h
theorem Gg {K:Nat}(h:cH z w0 x a ve w un m O)(hm:m.Small K)(hK:K<=900000)(k:Nat)(v:Int)(W:World)(hW:Below w.heap.size w W):Calls Tryz.prog 130 #[.pointer (some ⟨x,0,none⟩),.slice (some ⟨W.heap.size,0,none⟩) 1 1] (W.alloc (.cells #[.int .i64 0,.int .i64 17,.slice none 0 0,.int .i64 v,.int .i64 (k:Nat),.slice none 0 0] 115)) fun e w'=>e=.returned (.tuple #[])/\∃O9,cH z w0 x a ve w' un (m.put [dE k v]) O9/\Fr O w O9 w':=by
 have Il:Below w.heap.size w (W.alloc (.cells #[.int .i64 0,.int .i64 17,.slice none 0 0,.int .i64 v,.int .i64 (k:Nat),.slice none 0 0] 115)):=hW.alloc hW.size _;have LZ:aC z (W.alloc (.cells #[.int .i64 0,.int .i64 17,.slice none 0 0,.int .i64 v,.int .i64 (k:Nat),.slice none 0 0] 115)) (dE k v) (.slice none 0 0) (.slice none 0 0):=⟨World.ownsRow_nil _ _ _ _,World.ownsRow_nil _ _ _ _⟩;have KP:=iz (c:=1) (ls:=[dE k v]) (h.below Il) hm.at_ (kR (g:=W.heap.size) LZ jD) (by simp) (by have:=hm.lines m.at_;rw[List.length_singleton];omega);refine KP.mono ?_;rintro e w' ⟨rfl,O9,h9,F9⟩;exact⟨rfl,O9,h9,(Fr.of Il).trans F9⟩
set_option maxRecDepth 20000 in
theorem DO {K:Nat}(h:cH z w0 x a ve w un m O)(hm:m.Small K)(hK:K<=90000)(s t:List Nat)(hs:ey s)(ht:ey t):
  Calls Tryz.prog 180 #[.pointer (some ⟨x,0,none⟩),.agg (aj s).toArray,.agg (aj t).toArray] w fun e w'=>e=.returned (.tuple #[])/\∃O',cH z w0 x a ve w' un (m.items (a8 un s t 24)) O'/\Fr O w O' w':=by
 obtain⟨V1,AF⟩:∃V1,w.alloc (.cells (aj s).toArray 209)=V1:=⟨_,rfl⟩;have ju:av V1 w.heap.size s:=by rw[<-AF];exact av.new w hs.len
 have dH:Below w.heap.size w V1:=by rw[<-AF];exact(Below.refl _ _).alloc (jC _) _
 have tY:V1.heap.size=w.heap.size+1:=by rw[<-AF];simp
 obtain⟨V,hV⟩:∃V,V1.alloc (.cells (aj t).toArray 209)=V:=⟨_,rfl⟩;have lV:av V (w.heap.size+1) t:=by rw[<-hV,<-tY];exact av.new V1 ht.len
 have dT:Below V1.heap.size V1 V:=by rw[<-hV];exact(Below.refl _ _).alloc (jC _) _
 have tZ:V.heap.size=w.heap.size+2:=by rw[<-hV];simp[tY]
 have qK:=ju.below dT ju.lt;have EX:Below w.heap.size w V:=dH.trans (dT.mono (by omega));have Tc:=h.below EX;have NH:¬O w.heap.size:=h.fresh (jC _);have eJ:¬O (w.heap.size+1):=h.fresh (by omega);obtain⟨vb,us,vss,mX⟩:=Tc;have VR:N0 V x 2:=⟨un,mX.ul,mX.K7⟩;have huo:=K6 mX.ul mX.K7;have Y4:=mX.ul;have c0:V.cell? ⟨x,0,none⟩=_:=mX.facts.1;go_enter Tryz.func180,Tryz.ntmps180
 go_upto_region 1 with fail
 try rw[AF]
 try rw[hV]
 clear hV AF;go_wp2
 have HV:Hid (cH z w0 x a ve V un m O):=⟨_,_,_,mX⟩;clear mX VR huo c0;go_loopg [14] (24) (fun g v14 wr=>∃(k:Nat) (O':Nat->Prop),k<=24/\g+k=24/\v14=.int .i64 k/\cH z w0 x a ve wr un (m.items (a8 un s t k)) O'/\Fr O V O' wr)
 case atStart=>exact⟨0,O,jQ _,rfl,rfl,HV.out,Fr.refl _ _⟩
 case round=>
  obtain⟨k,O',hk,Ca,rfl,ll,hF⟩:=hrel;by_cases bg:k<24
  ·have xR:av wr w.heap.size s:=⟨qK.1,(hF.block _ qK.lt NH).trans qK.2⟩;have xS:av wr (w.heap.size+1) t:=⟨lV.1,(hF.block _ lV.lt eJ).trans lV.2⟩;have RY:(m.items (a8 un s t k)).Small (K+2*24):=(hm.items _ (iM un s t k).1).mono (by have:=(iM un s t k).2;omega);have HI:Hid (m.items (a8 un s t (k+1))=(m.items (a8 un s t k)).items (eM (un.getD k false) (s.getD k 0) (t.getD k 0) k)):=by unfold Hid;rw[oT,iS]
   generalize m.items (a8 un s t k)=mk at*;have huk:=Pn un Y4 k bg;have d1:=xR.cell k bg;have d2:=xS.cell k bg;have NO:(k:Int)<24:=by omega
   have v1:=hs.lt k;have v2:=ht.lt k;generalize un.getD k false=u at*;generalize s.getD k 0=v at*;generalize t.getD k 0=y at*;obtain⟨t1,t2,t3,t4⟩:=yb v v1;obtain⟨r1,r2,r3,r4⟩:=yb y v2;have KP:=fun(v:Int) (W:World) (hW:Below wr.heap.size wr W)=>Gg ll RY (by omega) k v W hW
   have KG:=fun(v:Int) (W:World)=>pz (k:Nat) v W
   have HF:Hid (_):=hF;have HMr:Hid (_):=ll;clear hF ll;go_upto_region 4 with fail
   go_quiet (fail)
   obtain⟨W,hW⟩:∃W,wr.drewN nq=W:=⟨_,rfl⟩;have Ro:Below wr.heap.size wr W:=by rw[<-hW];exact below_drewN (Below.refl _ _) nq
   rw[hW];clear hW;have nput:eM u v y k=[]->cH z w0 x a ve W un (m.items (a8 un s t (k+1))) O':=fun e=>by rw[HI.out,e];exact cH.below HMr.out Ro
   cases u with
   |false=>
    have E6:eM false v y k=[]:=rfl;have hM:=nput E6;clear nput;go_wp2
    go_roundg (24-(k+1))
    case measure=>omega
    case rel=>exact⟨k+1,O',by omega,by omega,by go_num,hM,HF.out.trans (Fr.of Ro)⟩
   |true=>
    cases b1:(y==2)with
    |true=>
     rw[b1]at r3 r4;have y2:y=2:=by simpa using b1
     cases b2:(v==2)with
     |true=>
      rw[b2]at t3 t4;have E6:eM true v y k=[]:=by
       unfold eM;rw[ja (by decide),ja (fun e=>e.2 (by simpa using b2)),ja (fun e=>absurd e.1 (by rw[y2];decide))]
      have hM:=nput E6;have b3:(y&&&2==0)=false:=by rw[y2];rfl
      rw[b3]at r1 r2;clear nput b1 b2 b3 y2;go_wp2
      go_roundg (24-(k+1))
      case measure=>omega
      case rel=>exact⟨k+1,O',by omega,by omega,by go_num,hM,HF.out.trans (Fr.of Ro)⟩
     |false=>
      rw[b2]at t3 t4;have E6:eM true v y k=[.line (dE k 1)]:=by
       unfold eM;rw[ja (by decide),jb ⟨y2,by simpa using b2⟩]
      clear nput b1 b2 y2;have Zm:=KG 1 W;go_wp2_with (first
       |(go_at_call 211;refine Zm.mono ?_;rintro e w1 ⟨rfl,aG⟩;have bH:=Ro.trans (aG.mono Ro.size);have Zo:=KP 1 w1 bH)
       |(go_at_call 130;refine Zo.mono ?_;rintro e w9 ⟨rfl,O9,h9,F9⟩))
      go_roundg (24-(k+1))
      case measure=>omega
      case rel=>exact⟨k+1,O9,by omega,by omega,by go_num,by rw[HI.out,E6];exact h9,HF.out.trans F9⟩
    |false=>
     rw[b1]at r3 r4;have y2:¬y=2:=by simpa using b1
     cases b3:(y&&&2==0)with
     |true=>
      rw[b3]at r1 r2;cases b4:(v&&&2==0)with
      |true=>
       rw[b4]at t1 t2;have E6:eM true v y k=[]:=by
        unfold eM;rw[ja (by decide),ja (fun e=>y2 e.1),ja (fun e=>e.2 (by simpa using b4))]
       have hM:=nput E6;clear nput b1 b3 b4 y2;go_wp2
       go_roundg (24-(k+1))
       case measure=>omega
       case rel=>exact⟨k+1,O',by omega,by omega,by go_num,hM,HF.out.trans (Fr.of Ro)⟩
      |false=>
       rw[b4]at t1 t2;have E6:eM true v y k=[.line (dE k 0)]:=by
        unfold eM;rw[ja (by decide),ja (fun e=>y2 e.1),jb ⟨by simpa using b3,by simpa using b4⟩]
       clear nput b1 b3 b4 y2;have Zm:=KG 0 W;go_wp2_with (first
        |(go_at_call 211;refine Zm.mono ?_;rintro e w1 ⟨rfl,aG⟩;have bH:=Ro.trans (aG.mono Ro.size);have Zo:=KP 0 w1 bH)
        |(go_at_call 130;refine Zo.mono ?_;rintro e w9 ⟨rfl,O9,h9,F9⟩))
       go_roundg (24-(k+1))
       case measure=>omega
       case rel=>exact⟨k+1,O9,by omega,by omega,by go_num,by rw[HI.out,E6];exact h9,HF.out.trans F9⟩
     |false=>
      rw[b3]at r1 r2;have E6:eM true v y k=[]:=by
       unfold eM;rw[ja (by decide),ja (fun e=>y2 e.1),ja (fun e=>by have:=e.1;simp[this]at b3)]
      have hM:=nput E6;clear nput b1 b3 y2;go_wp2
      go_roundg (24-(k+1))
      case measure=>omega
      case rel=>exact⟨k+1,O',by omega,by omega,by go_num,hM,HF.out.trans (Fr.of Ro)⟩
  ·have mY:k=24:=by omega
   subst mY;go_wp2
   go_end0
   exact⟨rfl,O',ll,(Fr.of EX).trans hF⟩
end
end El
end Go.Proofs.YtmlgajhhnojdjaaGreatDoor

import Derived.Test.YtmlgajhhnojdjaaGreatDoorUBA
set_option maxHeartbeats 8000000
namespace Go.Proofs.YtmlgajhhnojdjaaGreatDoor
namespace El
open Go Go.RowKit Sq Aux PrjF PrjG PrjJ PrjK PrjL PrjM PrjP PrjQ PrjS FlwA FlwE
section
variable {z x a:Nat} {w0 w:World} {ve:Value} {un:List Bool} {m:Mk} {O:Nat->Prop}
theorem Mv {z:Nat}{w:World}{ad:Addr}{ls:List ab}{vs:List (Value×Value)}(h:qg z w ad ls vs):∀u∈bd ls vs,u.oneCell'=true:=by
 intro u hu;unfold bd at hu;obtain⟨⟨l,vp,vn⟩,hx,hu⟩:=List.mem_flatMap.1 hu;obtain⟨j,hj⟩:=List.mem_iff_getElem?.1 hx;rw[List.getElem?_zip_eq_some]at hj;obtain⟨h1,h2⟩:=hj;have bg:j<ls.length:=by
  rcases Nat.lt_or_ge j ls.length with e|e
  ·exact e
  ·rw[jG e]at h1;cases h1
 have hE:=h.each j bg;have e2:vs.getD j (undef,undef)=(vp,vn):=by rw[jA,h2];rfl
 rw[e2]at hE;obtain⟨ap,cp,e3⟩:=bG hE.places;obtain⟨an,cn,e4⟩:=bG hE.next;simp only at e3 e4;subst e3 e4;simp only[dO,List.mem_cons,List.not_mem_nil,or_false]at hu;rcases hu with rfl|rfl|rfl|rfl|rfl|rfl<;>rfl
set_option maxRecDepth 20000 in
theorem iz (h:cH z w0 x a ve w un m O)(mX:m.at_<m.blocks.length){g o c:Nat}{ls:List ab}{vs:List (Value×Value)}(hL:qg z w ⟨g,o,none⟩ ls vs)(hn:0<ls.length)(hbig:(m.blocks.getD m.at_ []).length+ls.length<=1000000):
  Calls Tryz.prog 130 #[.pointer (some ⟨x,0,none⟩),.slice (some ⟨g,o,none⟩) ls.length c] w fun e w'=>e=.returned (.tuple #[])/\∃O',cH z w0 x a ve w' un (m.put ls) O'/\Fr O w O' w':=by
 obtain⟨vb,us,vss,h⟩:=h;obtain⟨in_,lu,hn0,Tq,hn2⟩:=info_parts rD;obtain⟨c0,c1,c26,c27,f26,f27⟩:=h.facts;obtain⟨gb,cb,AM,Ul,B9,tW⟩:=cW h.blocks (by omega);have fL:=(h.each _ mX).row;have hLn:=qY ls vs hL.len;have RU:=Mv hL;have Y4:=h.SQ;have G1:w.cell? ⟨gb,m.at_,none⟩=some (us.getD m.at_ undef):=by
  rw[tW _ (by omega),jA,jB (by omega)];rfl
 have Vx:w.frozen? ⟨gb,m.at_,none⟩=false:=by
  rcases h.blocks.2 with⟨e,-⟩|⟨g',cap',cur',e,-,G2,-⟩
  ·rw[AM]at e;cases e
  ·rw[AM]at e;simp only[Value.slice.injEq,Option.some.injEq,Addr.mk.injEq,and_true]at e;obtain⟨rfl,-⟩:=e;exact frozen_of_heap G2 _
 have hid:(m.at_:Int)<(m.blocks.length:Nat):=by omega
 have hz:z<=w.heap.size:=jS h.K9 h.aZ.size;have H:Hid (fx z w0 x a ve w un m O vb us vss):=h;have HV:Hid (vb=.slice (some ⟨gb,0,none⟩) m.blocks.length cb):=AM;have D6:=h.lt;have HB:Hid (∀w4,w.grownBy w4 (us.getD m.at_ undef).ownBlock->w4.cell? ⟨x,26,none⟩=some vb/\w4.cell? ⟨x,27,none⟩=some (.int .i64 (m.at_:Nat))/\w4.cell? ⟨gb,m.at_,none⟩=some (us.getD m.at_ undef)/\w4.frozen? ⟨gb,m.at_,none⟩=false):=fun w4 hg=>by
  have lg:some x≠(us.getD m.at_ undef).ownBlock:=aU fL h.aM (by decide);have Th:some gb≠(us.getD m.at_ undef).ownBlock:=by
   rcases dF h.blocks fL (by decide)with e|e
   ·rw[AM]at e;cases e
   ·rw[AM]at e;exact e
  exact⟨(hg.cell_far ⟨x,26,none⟩ D6 lg).trans c26,(hg.cell_far ⟨x,27,none⟩ D6 lg).trans c27,(hg.cell_far ⟨gb,m.at_,none⟩ B9 Th).trans G1,(hg.frozen_far ⟨gb,m.at_,none⟩ B9 Th).trans Vx⟩
 generalize Kb:m.at_=n at*;generalize hN:m.blocks.length=N at*;generalize hK:(m.blocks.getD n []).length=K at*;have AH:=hL.cells;subst AM;clear h tW fL;have fL:=(H.out.each n (by rw[hN];exact mX)).row;rw[hK]at fL;obtain⟨u,hu⟩:∃u,us.getD n undef=u:=⟨_,rfl⟩;rw[hu]at fL G1 HB;have HE:Hid (us.getD n undef=u):=hu;clear hu;go_enter Tryz.func130,Tryz.ntmps130
 go_region_law (refine Js _ (by rfl) _ _ _ _ (by rfl) z 115 in_ (.agg #[.int .i64 0,.int .i64 0,.slice none 0 0,.int .i64 0,.int .i64 0,.slice none 0 0]) 6 80 Tryz.underlying106 Tryz.underlying105 lu hn0 Tq hn2 (by rfl) (by decide) u _ _ (by rfl) fL ⟨g,o,none⟩ ls.length c (bd ls vs) (by rfl) hLn AH RU hn (by unfold maxLen;omega) (by omega) hz w.heap.size (by rfl) ?_;intro g4 c4 w4 hown4 hgrow4 hat4 hlt4;have lZ:w.grownBy w4 u.ownBlock:=⟨hgrow4.os,hgrow4.tape,hgrow4.output,hgrow4.size,hgrow4.block⟩;obtain⟨r1,r2,r3,r4⟩:=HB.out w4 lZ)
 all_goals go_wp2_with fail
 all_goals
  go_end0
  have pL:=H.out.put (v':=.slice (some ⟨g4,0,none⟩) (K+ls.length) c4) (w2:=w) (w3:=w4) (by rw[Kb,hN];exact mX) hL (Below.refl _ _) (by rw[hN]) (by
   intro k hk;rw[Kb,HE.out];simp only[Value.ownBlock,Option.some.injEq]at hk;subst hk;exact hat4.imp id fun e=>Nat.le_of_eq e.symm) (by rw[Kb,hK];exact hown4) (by rw[Kb,HE.out];exact lZ)
  rw[Kb]at pL;exact⟨rfl,_,⟨_,_,_,pL.1⟩,pL.2⟩
end
end El
namespace El
open Go Go.RowKit Sq Aux PrjF PrjG PrjJ PrjK PrjL PrjM PrjP PrjQ PrjS FlwA FlwE
section
variable {z x a:Nat} {w0 w w1 w2 w3:World} {ve vb v':Value} {un:List Bool} {m:Mk} {O:Nat->Prop} {us:List Value} {vss:List (List (Value×Value))}
theorem fx.lx (h:fx z w0 x a ve w un m O vb us vss){j:Nat}{u:Value}{un':List Bool}{k':Nat}(hl:un'.length=24)(he:(gm a ve un vb m.at_).set j u=gm a ve un' vb k'):
  fx z w0 x a ve (w.setCell ⟨x,j,none⟩ u) un' ⟨m.blocks,k'⟩ O vb us vss/\Fr O w O (w.setCell ⟨x,j,none⟩ u):=by
 have cj:∀{e:TypeId} {s:Nat} {v:Value} {n:Nat} {xs:List Value},w.ownsRow z e s v n xs->e≠142->(w.setCell ⟨x,j,none⟩ u).ownsRow z e s v n xs:=fun hv he=>aS hv _ (aP hv h.aM he)
 have hF:Fr O w O (w.setCell ⟨x,j,none⟩ u):=⟨rfl,rfl,rfl,by simp,fun k _ hO=>Below.heap_setCell _ _ _ _ (by show k≠x;intro e;rw[e]at hO;exact hO h.ox),fun _ h=> .inl h⟩;refine⟨⟨h.K9,?_,hl,h.aZ.trans (hF.below h.aZ.size (fun k hk=>(h.hi k hk).1)),cj h.blocks (by decide),h.vl,fun i hi=>(h.each i hi).cj (cj (h.each i hi).row (by decide)) (fun he hv=>cj hv (by rcases he with rfl|rfl<;>decide)),h.apart,h.ox,h.ob,h.ou,fun k hk=>by simpa using h.hi k hk⟩,hF⟩;rw[Aux.heap_setCell_same h.aM];congr 2;rw[List.setIfInBounds_toArray,he]
theorem fx.setAt (h:fx z w0 x a ve w un m O vb us vss)(k:Nat):fx z w0 x a ve (w.setCell ⟨x,27,none⟩ (.int .i64 (k:Nat))) un ⟨m.blocks,k⟩ O vb us vss/\Fr O w O (w.setCell ⟨x,27,none⟩ (.int .i64 (k:Nat))):=by
 refine h.lx h.ul ?_;show _::_::(un.map Value.bool++[vb,.int .i64 (m.at_:Nat)]).set 25 _=_
 rw[List.set_append_right _ _ (by simp[h.ul])];simp[h.ul,gm]
theorem fx.Kz (h:fx z w0 x a ve w un m O vb us vss){j:Nat}(hj:j<24)(v:Bool):fx z w0 x a ve (w.setCell ⟨x,2+j,none⟩ (.bool v)) (un.set j v) m O vb us vss/\Fr O w O (w.setCell ⟨x,2+j,none⟩ (.bool v)):=by
 refine h.lx (un':=un.set j v) (k':=m.at_) (by simpa using h.ul) ?_;rw[Nat.add_comm];show _::_::(un.map Value.bool++[vb,.int .i64 (m.at_:Nat)]).set j _=_
 rw[List.set_append_left _ _ (by simp[h.ul];exact hj)];simp[gm,List.map_set]
theorem cH.setAt (h:cH z w0 x a ve w un m O)(k:Nat):cH z w0 x a ve (w.setCell ⟨x,27,none⟩ (.int .i64 (k:Nat))) un ⟨m.blocks,k⟩ O/\Fr O w O (w.setCell ⟨x,27,none⟩ (.int .i64 (k:Nat))):=by
 obtain⟨vb,us,vss,h⟩:=h;obtain⟨h1,h2⟩:=h.setAt k;exact⟨⟨vb,us,vss,h1⟩,h2⟩
theorem fx.TT (h:fx z w0 x a ve w un m O vb us vss)(h2:Below w.heap.size w w2)(hat':∀g,v'.ownBlock=some g->vb.ownBlock=some g\/w2.heap.size<=g)
  (h3:w3.ownsRow z 106 1 v' (m.blocks.length+2) (us++[.slice none 0 0,.slice none 0 0])) (hg:w2.grownBy w3 vb.ownBlock):
  fx z w0 x a ve (w3.setCell ⟨x,26,none⟩ v') un ⟨m.blocks++[[],[]],m.at_⟩ (fun k=>O k\/(w.heap.size<=k/\k<w3.heap.size)) v' (us++[.slice none 0 0,.slice none 0 0]) (vss++[[],[]])/\Fr O w (fun k=>O k\/(w.heap.size<=k/\k<w3.heap.size)) (w3.setCell ⟨x,26,none⟩ v'):=by
 have H:=h.below h2;have hu:=h.SQ;have lg:some x≠vb.ownBlock:=aU H.blocks H.aM (by decide);have dj:w3.heap[x]?=some (.cells (gm a ve un vb m.at_).toArray 142 (0,0)):=by rw[hg.block x H.lt lg];exact H.aM
 have cj:∀{e:TypeId} {s:Nat} {v:Value} {n:Nat} {xs:List Value},w2.ownsRow z e s v n xs->e≠106->e≠142->(w3.setCell ⟨x,26,none⟩ v').ownsRow z e s v n xs:=by
  intro e s v n xs hv he he';have hk:=hv.kept hg (dF hv H.blocks he);exact aS hk _ (aP hk dj he')
 have QV:w.heap.size<=w3.heap.size:=jS h2.size hg.size;have hF:Fr O w (fun k=>O k\/(w.heap.size<=k/\k<w3.heap.size)) (w3.setCell ⟨x,26,none⟩ v'):=by
  refine⟨hg.os.trans h2.os,hg.tape.trans h2.tape,hg.output.trans h2.output,by simpa using QV,fun k hk hO=> ?_,fun k hk=> ?_⟩
  ·rw[Below.heap_setCell _ _ _ _ (by show k≠x;intro e;rw[e]at hO;exact hO h.ox),hg.block k (jK hk h2.size) (fun ek=>hO (h.ob k ek.symm))];exact h2.block k hk
  ·rcases hk with hk|hk
   ·exact .inl hk
   ·exact .inr hk.1
 have eu:∀j,j<m.blocks.length->(us++[Value.slice none 0 0,.slice none 0 0]).getD j undef=us.getD j undef:=fun j hj=>by simp[List.getD_eq_getElem?_getD,List.getElem?_append,hu,hj]
 have el:∀j,m.blocks.length<=j->j<m.blocks.length+2->(us++[Value.slice none 0 0,.slice none 0 0]).getD j undef=.slice none 0 0:=fun j h1 h2=>by
  rw[jA,jf (by omega),hu];rcases(show j-m.blocks.length=0\/j-m.blocks.length=1 by omega)with e|e<;>rw[e]<;>rfl
 have hlen:(m.blocks++[[],[]]:List (List ab)).length=m.blocks.length+2:=by simp
 refine⟨⟨h.K9,?_,h.ul,h.aZ.trans (hF.below h.aZ.size (fun k hk=>(h.hi k hk).1)),?_,by simp[h.vl],fun j hj=> ?_,fun i j hij hj=> ?_,.inl h.ox,fun k hk=> ?_,fun j hj k hk=> ?_,fun k hk=> ?_⟩,hF⟩
 ·rw[Aux.heap_setCell_same dj];congr 2;rw[List.setIfInBounds_toArray];congr 1;show _::_::(un.map Value.bool++[vb,.int .i64 (m.at_:Nat)]).set 24 _=_
  rw[List.set_append_right _ _ (by simp[h.ul])];simp[h.ul,gm]
 ·rw[hlen];exact aS h3 (a:=⟨x,26,none⟩) v' (aP h3 dj (by decide))
 ·rw[hlen]at hj;by_cases bg:j<m.blocks.length
  ·have e2:(m.blocks++[[],[]]).getD j []=m.blocks.getD j []:=yv _ _;have e3:(vss++[[],[]]).getD j []=vss.getD j []:=by simp[List.getD_eq_getElem?_getD,List.getElem?_append,h.vl,bg]
   rw[eu j bg,e2,e3];exact(H.each j bg).cj (cj (H.each j bg).row (by decide) (by decide)) (fun he hv=>cj hv (by rcases he with rfl|rfl<;>decide) (by rcases he with rfl|rfl<;>decide))
  ·have e2:(m.blocks++[[],[]]).getD j []=[]:=by rw[yv,jA,jG (by omega)];rfl
   have e3:(vss++[[],[]]).getD j []=[]:=by
    rw[jA,jf (by rw[h.vl];omega),h.vl];rcases(show j-m.blocks.length=0\/j-m.blocks.length=1 by omega)with e|e<;>rw[e]<;>rfl
   rw[el j (by omega) hj,e2,e3];exact⟨rfl,World.ownsRow_nil _ _ _ _,fun i hi=>by simp at hi⟩
 ·rw[hlen]at hj;by_cases bg:j<m.blocks.length
  ·rw[eu j bg,eu i (by omega)];exact h.apart i j hij bg
  ·rw[el j (by omega) hj];cases hx:((us++[Value.slice none 0 0,.slice none 0 0]).getD i undef).ownBlock with
   |none=>exact .inl rfl
   |some g=>exact .inr (by simp[Value.ownBlock])
 ·rcases hat' k hk with e|e
  ·exact .inl (h.ob k e)
  ·exact .inr ⟨jS h2.size e,(h3.lt k hk).2⟩
 ·rw[hlen]at hj;by_cases bg:j<m.blocks.length
  ·rw[eu j bg]at hk;exact .inl (h.ou j bg k hk)
  ·rw[el j (by omega) hj]at hk;cases hk
 ·have e:(w3.setCell ⟨x,26,none⟩ v').heap.size=w3.heap.size:=by simp
  rw[e];rcases hk with hk|hk
  ·exact⟨(h.hi k hk).1,jK (h.hi k hk).2 QV⟩
  ·exact⟨jS h.aZ.size hk.1,hk.2⟩
end
theorem Kf:(Tryz.prog.info? 115).map (·.size)=some 6:=by kernel_rfl
set_option maxRecDepth 20000 in
theorem pz (k v:Int)(w:World):Calls Tryz.prog 211 #[.int .i64 k,.int .i64 v] w fun e w'=>e=.returned (.agg #[.int .i64 0,.int .i64 17,.slice none 0 0,.int .i64 v,.int .i64 k,.slice none 0 0])/\Below w.heap.size w w':=by
 go_enter Tryz.func211,Tryz.ntmps211
 go_wp2
 refine bodyPost_ret (bZ Tryz.results211 _ _ _ w.heap.size [.int .i64 0,.int .i64 17,.slice none 0 0,.int .i64 v,.int .i64 k,.slice none 0 0] _ rfl (fun j u hu=>by rw[Nat.zero_add,cell_of_heap jD];simpa using hu) Tryz.underlying115 rfl Kf) rfl ?_;exact⟨rfl,(Below.refl _ _).alloc (jC _) _⟩
set_option maxRecDepth 20000 in
theorem xA (b:Nat)(w:World):Calls Tryz.prog 131 #[.int .i64 (b:Nat)] w fun e w'=>∃g,e=.returned (.agg #[.int .i64 0,.int .i64 18,.slice none 0 0,.int .i64 0,.int .i64 0,.slice (some ⟨g,0,none⟩) 1 1])/\Below w.heap.size w w'/\w.heap.size<=g/\w'.heap[g]?=some (.cells #[.int .i64 (b:Nat)] 3 (0,0)):=by
 go_enter Tryz.func131,Tryz.ntmps131
 go_wp2
 obtain⟨wA,hA⟩:∃wA,w.alloc (.cells #[.int .i64 0,.int .i64 18,.slice none 0 0,.int .i64 0,.int .i64 0,.slice (some ⟨w.heap.size+1,0,none⟩) 1 1] 115)=wA:=⟨_,rfl⟩;have aG:Below w.heap.size w wA:=by rw[<-hA];exact(Below.refl _ _).alloc (jC _) _
 have iQ:wA.heap.size=w.heap.size+1:=by rw[<-hA];simp
 have lh:wA.heap[w.heap.size]?=some (.cells #[.int .i64 0,.int .i64 18,.slice none 0 0,.int .i64 0,.int .i64 0,.slice (some ⟨w.heap.size+1,0,none⟩) 1 1] 115 (0,0)):=by rw[<-hA];exact jD
 rw[hA];clear hA;have bH:Below wA.heap.size wA (wA.alloc (.cells #[.int .i64 (b:Nat)] 3)):=(Below.refl _ _).alloc (jC _) _;have pM:=(bH.block w.heap.size (by omega)).trans lh;refine bodyPost_ret (bZ Tryz.results131 _ _ _ w.heap.size [.int .i64 0,.int .i64 18,.slice none 0 0,.int .i64 0,.int .i64 0,.slice (some ⟨w.heap.size+1,0,none⟩) 1 1] _ rfl (fun j u hu=>by rw[Nat.zero_add,cell_of_heap pM];simpa using hu) Tryz.underlying115 rfl Kf) rfl ?_;refine⟨w.heap.size+1,rfl,aG.trans (bH.mono aG.size),by omega,?_⟩;rw[<-iQ];exact jD
end El
namespace El
open Go Go.RowKit Sq Aux PrjF PrjG PrjJ PrjK PrjL PrjM PrjP PrjQ PrjS FlwA FlwE
section
variable {z x a:Nat} {w0 w:World} {ve:Value} {un:List Bool} {m:Mk} {O:Nat->Prop}
theorem kR {z:Nat}{w:World}{l:ab}{vp vn:Value}{g:Nat}(h:aC z w l vp vn)(hb:w.heap[g]?=some (.cells (dO (l,vp,vn)).toArray 115 (0,0))):qg z w ⟨g,0,none⟩ [l] [(vp,vn)]:=by
 refine⟨rfl,fun j u hu=> ?_,fun j hj=> ?_⟩
 ·have:(bd [l] [(vp,vn)])=dO (l,vp,vn):=by simp[bd]
  rw[this]at hu;exact World.news_of_block hb j u (by simpa using hu)
 ·simp at hj;subst hj;exact h
theorem vq {O O':Nat->Prop}{w w':World}{b:Nat}{e:TypeId}{s:Nat}{v:Value}{n:Nat}{xs:List Value}(h:w.ownsRow b e s v n xs)(hF:Fr O w O' w')(hO:∀g,v.ownBlock=some g->¬O g):w'.ownsRow b e s v n xs:=
 eO h fun g hg=>hF.block g (h.lt g hg).2 (hO g hg)
theorem Sj {O O':Nat->Prop}{w w':World}{l:ab}{vp vn:Value}(h:aC z w l vp vn)(hF:Fr O w O' w')(hp:∀g,vp.ownBlock=some g->¬O g)(hn:∀g,vn.ownBlock=some g->¬O g):aC z w' l vp vn:=
 ⟨vq h.places hF hp,vq h.next hF hn⟩
theorem fx.grown {w':World}{vb v:Value}{us:List Value}{vss:List (List (Value×Value))}(h:fx z w0 x a ve w un m O vb us vss){zz n:Nat}{xs:List Value}(hr:w.ownsRow zz 115 6 v n xs)(hO:∀g,v.ownBlock=some g->¬O g/\w0.heap.size<=g)(hg:w.grownBy w' v.ownBlock):fx z w0 x a ve w' un m O vb us vss:=by
 have own:∀{e:TypeId} {s:Nat} {u:Value} {n':Nat} {ys:List Value},w.ownsRow z e s u n' ys->(∀k,u.ownBlock=some k->O k)->w'.ownsRow z e s u n' ys:=fun{e s u n' ys} hv hk=>by
  refine hv.kept hg ?_;cases hx:u.ownBlock with
  |none=>exact .inl rfl
  |some k=>exact .inr fun e2=>(hO k e2.symm).1 (hk k hx)
 refine⟨h.K9,by rw[hg.block x h.lt (fun e=>(hO x e.symm).1 h.ox)];exact h.aM,h.ul,h.aZ.trans ⟨hg.os,hg.tape,hg.output,hg.size,fun k hk=>hg.block k (jK hk h.aZ.size) (fun e=>by have:=(hO k e.symm).2;omega)⟩,own h.blocks h.ob,h.vl,fun j hj=>(h.each j hj).cj (own (h.each j hj).row (h.ou j hj)) (fun he hv=>hv.kept hg (dF hv hr (by rcases he with rfl|rfl<;>decide))),h.apart,h.ox,h.ob,h.ou,fun k hk=>⟨(h.hi k hk).1,jK (h.hi k hk).2 hg.size⟩⟩
theorem fx.EA {vb:Value}{us:List Value}{vss:List (List (Value×Value))}(h:fx z w0 x a ve w un m O vb us vss){k:Nat}(hO:¬O k)(hk:w0.heap.size<=k){cs:Array Value}{f:Nat×Nat}(hb:w.heap[k]?=some (.cells cs 115 f))(j:Nat)(u:Value):fx z w0 x a ve (w.setCell ⟨k,j,none⟩ u) un m O vb us vss:=by
 have own:∀{e:TypeId} {s:Nat} {v:Value} {n':Nat} {ys:List Value},w.ownsRow z e s v n' ys->(∀i,v.ownBlock=some i->O i)->(w.setCell ⟨k,j,none⟩ u).ownsRow z e s v n' ys:=fun hv hi=>aS hv _ fun e=>hO (hi k e)
 have hkx:¬x=k:=fun e=>hO (e▸h.ox)
 refine⟨h.K9,by rw[Below.heap_setCell _ _ _ _ (by show x≠k;exact hkx)];exact h.aM,h.ul,h.aZ.trans ⟨rfl,rfl,rfl,by simp,fun i hi=>Below.heap_setCell _ _ _ _ (by show i≠k;omega)⟩,own h.blocks h.ob,h.vl,fun i hi=>(h.each i hi).cj (own (h.each i hi).row (h.ou i hi)) (fun he hv=>aS hv _ (aP hv hb (by rcases he with rfl|rfl<;>decide))),h.apart,h.ox,h.ob,h.ou,fun i hi=>by simpa using h.hi i hi⟩
theorem IZ {zz ga ca g12 c12 gn2 N:Nat}{W9 w10 w11 w12:World}{ls:List ab}{vs:List (Value×Value)}(hlen:vs.length=ls.length)(hE:∀j,j<ls.length->aC z W9 (ls.getD j ab.nil) (vs.getD j (undef,undef)).1 (vs.getD j (undef,undef)).2)
  (y9:Below W9.heap.size W9 w10) (xO:Below w10.heap.size w10 w11) (hz:z<=W9.heap.size) (Xx:W9.heap.size<=gn2) (T8:w10.heap[gn2]?=some (.cells #[.int .i64 ((N:Nat):Int)] 3 (0,0)))
  (Ig:w11.ownsRow zz 115 6 (.slice (some ⟨ga,0,none⟩) ls.length ca) ls.length (bd ls vs)) (hown:w12.ownsRow zz 115 6 (.slice (some ⟨g12,0,none⟩) (ls.length+1) c12) (ls.length+1) (bd ls vs++[.int .i64 0,.int .i64 18,.slice none 0 0,.int .i64 0,.int .i64 0,.slice (some ⟨gn2,0,none⟩) 1 1]))
  (hgrow:w11.grownBy w12 (some ga)):qg z w12 ⟨g12,0,none⟩ (ls++[eB N]) (vs++[(.slice none 0 0,.slice (some ⟨gn2,0,none⟩) 1 1)]):=by
 have ec:bd (ls++[eB N]) (vs++[(.slice none 0 0,.slice (some ⟨gn2,0,none⟩) 1 1)])=bd ls vs++[.int .i64 0,.int .i64 18,.slice none 0 0,.int .i64 0,.int .i64 0,.slice (some ⟨gn2,0,none⟩) 1 1]:=by
  unfold bd;rw[List.zip_append hlen.symm];simp[dO,eB]
 have kept:∀{e:TypeId} {s:Nat} {v:Value} {n:Nat} {xs:List Value},e=119\/e=3->w10.ownsRow z e s v n xs->w12.ownsRow z e s v n xs:=fun he hv=>
  (aw hv xO).kept hgrow (dF (aw hv xO) Ig (by rcases he with rfl|rfl<;>decide))
 refine⟨by simp[hlen],fun j u hu=> ?_,fun j hj=> ?_⟩
 ·rw[ec]at hu;exact hown.cells (g:=g12) rfl j u hu
 ·rw[jV,List.length_singleton]at hj;by_cases bg:j<ls.length
  ·rw[jA,jg bg,<-jA,jA (l:=vs++_),jg (by omega),<-jA];exact((hE j bg).below y9).cj kept
  ·have ej:j=ls.length:=by omega
   have e1:(ls++[eB N]).getD j ab.nil=eB N:=by rw[ej];simp[List.getD_eq_getElem?_getD]
   have e2:(vs++[((.slice none 0 0:Value),(.slice (some ⟨gn2,0,none⟩) 1 1:Value))]).getD j (undef,undef)=(.slice none 0 0,.slice (some ⟨gn2,0,none⟩) 1 1):=by rw[ej,<-hlen];simp[List.getD_eq_getElem?_getD]
   rw[e1,e2];refine⟨World.ownsRow_nil _ _ _ _,kept (.inr rfl) ?_⟩;exact⟨rfl,.inr ⟨gn2,1,_,rfl,by omega,T8,jC _,by unfold maxLen;omega,rfl,rfl⟩⟩
theorem cH.fresh (h:cH z w0 x a ve w un m O){k:Nat}(hk:w.heap.size<=k):¬O k:=by
 obtain⟨vb,us,vss,h⟩:=h;exact fun e=>by have:=(h.hi k e).2;omega
theorem cH.base (h:cH z w0 x a ve w un m O):w0.heap.size<=w.heap.size:=by
 obtain⟨vb,us,vss,h⟩:=h;exact h.aZ.size
end
end El
namespace El
open Go Go.RowKit Sq Aux PrjF PrjG PrjJ PrjK PrjL PrjM PrjP PrjQ PrjS FlwA FlwE
section
variable {z x a:Nat} {w0 w:World} {ve:Value} {un:List Bool} {m:Mk} {O:Nat->Prop}
theorem Pq (w:World)(hz:z<=w.heap.size)(ns:List Nat)(hn:ns.length<=100):(w.alloc (.cells (eg ns).toArray 3)).ownsRow z 3 1 (.slice (some ⟨w.heap.size,0,none⟩) ns.length ns.length) ns.length (eg ns):=by
 have hl:(eg ns).length=ns.length*1:=by simp[eg]
 refine⟨hl,.inr ⟨w.heap.size,ns.length,(eg ns).toArray,rfl,hz,jD,jC _,by unfold maxLen;omega,by simpa using hl,?_⟩⟩;rw[<-hl];simp
set_option maxRecDepth 20000 in
theorem EK (h:cH z w0 x a ve w un m O)(mX:m.at_<m.blocks.length)(t:ab){ap:Option Addr}{cp:Nat}{vn:Value}(hp:w.ownsRow z 119 2 (.slice ap t.places.length cp) t.places.length (bf t.places))(hpO:∀g,(Value.slice ap t.places.length cp).ownBlock=some g->¬O g)
  {ga ca zz:Nat} {ls:List ab} {vs:List (Value×Value)} (hA:w.ownsRow zz 115 6 (.slice (some ⟨ga,0,none⟩) ls.length ca) ls.length (bd ls vs)) (hAO:¬O ga/\w0.heap.size<=ga) (S4:qg z w ⟨ga,0,none⟩ ls vs)
  (hAn:∀j,j<ls.length->∀g,(vs.getD j (undef,undef)).1.ownBlock=some g\/(vs.getD j (undef,undef)).2.ownBlock=some g->¬O g) (hm:m.blocks.length<=100000) (hb:(m.blocks.getD m.at_ []).length<=100000) (hl:ls.length<=1000):
  Calls Tryz.prog 210 #[.pointer (some ⟨x,0,none⟩),.agg #[.int .i64 (t.num:Nat),.int .i64 (t.op:Nat),.slice ap t.places.length cp,.int .i64 t.number,.int .i64 t.flag,vn],.slice (some ⟨ga,0,none⟩) ls.length ca] w fun e w'=>e=.returned (.tuple #[])/\∃O',cH z w0 x a ve w' un (m.fork t ls) O'/\Fr (fun k=>O k\/k=ga) w O' w':=by
 obtain⟨ib,hib,lo,aG,bH⟩:=info_parts zi;obtain⟨vb,us,vss,h⟩:=h;obtain⟨W1,oU⟩:∃W1,w.alloc (.cells #[.int .i64 (t.num:Nat),.int .i64 (t.op:Nat),.slice ap t.places.length cp,.int .i64 t.number,.int .i64 t.flag,vn] 115)=W1:=⟨_,rfl⟩;have dH:Below w.heap.size w W1:=by rw[<-oU];exact(Below.refl _ _).alloc (jC _) _
 have ju:W1.heap.size=w.heap.size+1:=by rw[<-oU];simp
 have GX:W1.heap[w.heap.size]?=some (.cells #[.int .i64 (t.num:Nat),.int .i64 (t.op:Nat),.slice ap t.places.length cp,.int .i64 t.number,.int .i64 t.flag,vn] 115 (0,0)):=by rw[<-oU];exact jD
 have h1:=h.below dH;obtain⟨c0,c1,c26,c27,f26,f27⟩:=h1.facts;obtain⟨gb,cb,AM,Ul,B9,-⟩:=cW h.blocks (by omega);obtain⟨N,hN⟩:∃N,m.blocks.length=N:=⟨_,rfl⟩;rw[hN]at hm AM;subst AM;have hNi:¬9223372036854775807<N:=by omega
 go_enter Tryz.func210,Tryz.ntmps210
 go_upto_region 1 with fail
 try rw[oU]
 clear oU;go_quiet (fail)
 go_upto_region 2 with fail
 obtain⟨W2,tB⟩:∃W2,W1.drewN nq=W2:=⟨_,rfl⟩;have dT:Below W1.heap.size W1 W2:=by rw[<-tB];exact below_drewN (Below.refl _ _) nq
 rw[tB];clear tB;have qK:w.heap.size+1<=W2.heap.size:=by have:=dT.size;omega
 have h2:=h1.below dT;have OF:=(dT.block w.heap.size (by omega)).trans GX;clear c0 c1 c26 c27 f26 f27 h1 GX;obtain⟨c0,c1,c26,c27,f26,f27⟩:=h2.facts;have AX:Below W2.heap.size W2 (W2.alloc (.cells #[.slice none 0 0,.slice none 0 0] 106)):=(Below.refl _ _).alloc (jC _) _;have fL:=aw h2.blocks AX;have hz:z<=W2.heap.size+1:=by have:=h2.K9;have:=h2.aZ.size;omega
 rw[hN]at fL;have HX:Hid (∀w4,(W2.alloc (.cells #[.slice none 0 0,.slice none 0 0] 106)).grownBy w4 (some gb)->w4.frozen? ⟨x,26,none⟩=false/\w4.cell? ⟨x,26,none⟩=some (.slice (some ⟨gb,0,none⟩) N cb)):=fun w4 hg=>by
  have hx:=h2.lt;have R6:some x≠some gb:=aU fL (h2.below AX).aM (by decide);have D6:x<(W2.alloc (.cells #[.slice none 0 0,.slice none 0 0] 106)).heap.size:=jK hx AX.size;exact⟨(hg.frozen_far ⟨x,26,none⟩ D6 R6).trans (h2.below AX).facts.2.2.2.2.1,(hg.cell_far ⟨x,26,none⟩ D6 R6).trans (h2.below AX).facts.2.2.1⟩
 have HH:Hid (fx z w0 x a ve W2 un m O (.slice (some ⟨gb,0,none⟩) N cb) us vss):=h2;clear h2;go_upto_region 3 with(at_builtin;go_must (refine wpList_append_lies _ rfl _ _ 108 rfl z 106 ib (.slice none 0 0) 1 24 Tryz.underlying108 hib lo aG bH rfl (by decide) (.slice (some ⟨gb,0,none⟩) N cb) N us rfl fL ⟨W2.heap.size,0,none⟩ 2 2 [.slice none 0 0,.slice none 0 0] rfl rfl (World.news_of_block jD) (by intro u' hu;simp at hu;subst hu;rfl) (by decide) (by unfold maxLen;omega) (by omega) (by simp;omega) (W2.heap.size+1) (by simp) ?_);intro g4 c4 w4 hown4 hgrow4 hat4 hlt4;obtain⟨xf,xc⟩:=HX.out w4 hgrow4)
 obtain⟨h4,F4⟩:=HH.out.TT (v':=.slice (some ⟨g4,0,none⟩) (N+2) c4) (w3:=w4) AX (fun g hg=>by
  simp only[Value.ownBlock,Option.some.injEq]at hg;subst hg;exact hat4.imp id fun e=>by rw[e];simp) (by rw[hN];exact hown4) hgrow4
 obtain⟨O1,eJ⟩:∃O1:Nat->Prop,O1=fun k=>O k\/(W2.heap.size<=k/\k<w4.heap.size):=⟨_,rfl⟩
 rw[<-eJ]at h4 F4;obtain⟨W4,hW4⟩:∃W4,w4.setCell ⟨x,26,none⟩ (.slice (some ⟨g4,0,none⟩) (N+2) c4)=W4:=⟨_,rfl⟩;rw[hW4]at h4 F4⊢;have Xv:¬O w.heap.size:=fun e=>by have:=(h.hi _ e).2;omega
 have Wo:¬O1 w.heap.size:=by rw[eJ];rintro(e|e);exact Xv e;omega
 have T9:=(F4.block w.heap.size (by omega) Xv).trans OF;have Wn:∀k,k<w.heap.size->¬O k->¬O1 k:=fun k hk hn=>by rw[eJ];rintro(e|e);exact hn e;omega
 have Zw:Below w.heap.size w W2:=dH.trans (dT.mono dH.size);have F04:Fr O w O1 W4:=(Fr.of Zw).trans F4;clear hW4 hgrow4 hown4 hat4 hlt4 eJ HX HH fL AX OF xf xc c0 c1 c26 c27 f26 f27 F4 dT dH;have hs4:w.heap.size<W4.heap.size:=lt_of_heap T9;have Un:W4.frozen? ⟨w.heap.size,5,none⟩=false:=frozen_of_heap T9 5;have WO:W4.cell? ⟨w.heap.size,5,none⟩=some vn:=by rw[cell_of_heap T9];rfl
 go_upto_region 4 with fail
 obtain⟨W5,Td⟩:∃W5,W4.setCell ⟨w.heap.size,5,none⟩ (.slice (some ⟨W4.heap.size,0,none⟩) 2 2)=W5:=⟨_,rfl⟩;have h5:=h4.EA Wo h.aZ.size T9 5 (.slice (some ⟨W4.heap.size,0,none⟩) 2 2);have Vp:=Aux.heap_setCell_same T9 5 (.slice (some ⟨W4.heap.size,0,none⟩) 2 2);have hS5:W5.heap.size=W4.heap.size:=by rw[<-Td];simp
 have XV:W5.ownsRow z 119 2 (.slice ap t.places.length cp) t.places.length (bf t.places):=by
  have hp4:=vq hp F04 hpO;rw[<-Td];exact aS hp4 _ (aP hp4 T9 (by decide))
 have Ih:∀k,k<w.heap.size->W5.heap[k]?=W4.heap[k]?:=fun k hk=>by rw[<-Td];exact Below.heap_setCell _ _ _ _ (by show k≠w.heap.size;omega)
 have F05:Fr O w O1 W5:=⟨by rw[<-Td];exact F04.os,by rw[<-Td];exact F04.tape,by rw[<-Td];exact F04.output,by rw[hS5];exact F04.size,fun k hk hn=>(Ih k hk).trans (F04.block k hk hn),F04.new⟩;rw[Td]at h5 Vp⊢;clear Td Ih F04 h4 T9 Un WO;have Vp:W5.heap[w.heap.size]?=some (.cells #[.int .i64 (t.num:Nat),.int .i64 (t.op:Nat),.slice ap t.places.length cp,.int .i64 t.number,.int .i64 t.flag,.slice (some ⟨W4.heap.size,0,none⟩) 2 2] 115 (0,0)):=Vp;rw[<-hS5]at Vp⊢;have hz5:z<=W5.heap.size:=by have:=h5.K9;have:=h5.aZ.size;omega
 have lg:(W5.alloc (.cells #[.int .i64 (N:Nat),.int .i64 ((N:Int)+1)] 3)).ownsRow z 3 1 (.slice (some ⟨W5.heap.size,0,none⟩) 2 2) 2 (eg [N,N+1]):=Pq W5 hz5 [N,N+1] (by simp);obtain⟨W6,ZW⟩:∃W6,W5.alloc (.cells #[.int .i64 (N:Nat),.int .i64 ((N:Int)+1)] 3)=W6:=⟨_,rfl⟩;have We:Below W5.heap.size W5 W6:=by rw[<-ZW];exact(Below.refl _ _).alloc (jC _) _
 rw[ZW]at lg⊢;clear ZW;obtain⟨gn,Xx⟩:∃gn,W5.heap.size=gn:=⟨_,rfl⟩;have hs5:w.heap.size<W5.heap.size:=by omega
 have S9:=(We.block _ hs5).trans Vp;have hp6:=aw XV We;have h6:=h5.below We;have F06:Fr O w O1 W6:=F05.trans (Fr.of We);rw[Xx]at S9 lg⊢;clear h5 Vp XV F05 hz5;have l0:W6.cell? ⟨w.heap.size,0,none⟩=some (.int .i64 (t.num:Nat)):=by rw[cell_of_heap S9];rfl
 have l1:W6.cell? ⟨w.heap.size,1,none⟩=some (.int .i64 (t.op:Nat)):=by rw[cell_of_heap S9];rfl
 have l2:W6.cell? ⟨w.heap.size,2,none⟩=some (.slice ap t.places.length cp):=by rw[cell_of_heap S9];rfl
 have l3:W6.cell? ⟨w.heap.size,3,none⟩=some (.int .i64 t.number):=by rw[cell_of_heap S9];rfl
 have l4:W6.cell? ⟨w.heap.size,4,none⟩=some (.int .i64 t.flag):=by rw[cell_of_heap S9];rfl
 have l5:W6.cell? ⟨w.heap.size,5,none⟩=some (.slice (some ⟨gn,0,none⟩) 2 2):=by rw[cell_of_heap S9];rfl
 have Wf:Below W6.heap.size W6 (W6.alloc (.cells #[.int .i64 (t.num:Nat),.int .i64 (t.op:Nat),.slice ap t.places.length cp,.int .i64 t.number,.int .i64 t.flag,.slice (some ⟨gn,0,none⟩) 2 2] 115)):=(Below.refl _ _).alloc (jC _) _;have Ii:aC z W6 {t with next:=[N,N+1]} (.slice ap t.places.length cp) (.slice (some ⟨gn,0,none⟩) 2 2):=⟨hp6,lg⟩;have KP:=iz (ls:=[{t with next:=[N,N+1]}]) (c:=1) ⟨_,_,_,h6.below Wf⟩ (by show m.at_<(m.blocks++[[],[]]).length;simp;omega) (kR (Ii.below Wf) jD) (by simp) (by show((m.blocks++[[],[]]).getD m.at_ []).length+1<=_;rw[yv];omega);go_upto_region 5 with(go_at_call 130;refine KP.mono ?_;rintro e w8 ⟨rfl,O2,h8,F8⟩)
 have Wm:¬O1 ga:=Wn ga (hA.lt ga rfl).2 hAO.1;have F08:Fr O w O2 w8:=(F06.trans (Fr.of Wf)).trans F8;have G3:m.at_<m.blocks.length:=mX;obtain⟨M1,J6⟩:∃M1:Mk,(⟨m.blocks++[[],[]],m.at_⟩:Mk).put [{t with next:=[N,N+1]}]=M1:=⟨_,rfl⟩;have hM1l:M1.blocks.length=N+2:=by rw[<-J6,fH];simp[hN]
 have ZK:M1.blocks.getD N []=[]:=by
  rw[<-J6,l9 _ _ (by simp;omega),ja (by show¬N=m.at_;omega),yv,jA,jG (by omega)];rfl
 rw[J6]at h8;obtain⟨vb8,us8,vss8,h8⟩:=h8;obtain⟨h9,F9⟩:=h8.setAt N;obtain⟨c0,c1,c26,c27,f26,f27⟩:=h8.facts;obtain⟨W9,ZX⟩:∃W9,w8.setCell ⟨x,27,none⟩ (.int .i64 (N:Nat))=W9:=⟨_,rfl⟩;rw[ZX]at h9 F9;have F09:Fr O w O2 W9:=F08.trans F9;have hA9:=vq hA F09 (fun g hg=>by simp only[Value.ownBlock,Option.some.injEq]at hg;subst hg;exact hAO.1);have hE9:∀j,j<ls.length->aC z W9 (ls.getD j ab.nil) (vs.getD j (undef,undef)).1 (vs.getD j (undef,undef)).2:=fun j hj=>Sj (S4.each j hj) F09 (fun g hg=>hAn j hj g (.inl hg)) (fun g hg=>hAn j hj g (.inr hg))
 have Wp:¬O2 ga:=fun e=>by
  rcases F8.new ga e with e|e
  ·exact Wm e
  ·have:=(hA.lt ga rfl).2;have:=F06.size;have:=Wf.size;omega
 have HE:Hid (∀j,j<ls.length->aC z W9 (ls.getD j ab.nil) (vs.getD j (undef,undef)).1 (vs.getD j (undef,undef)).2):=hE9;have HN:Hid (m.blocks.length=N):=hN;have HLn:Hid (vs.length=ls.length):=S4.len;have hz9:z<=W9.heap.size:=by have:=h9.K9;have:=h9.aZ.size;omega
 have HM:Hid (_=M1):=J6;have H9:Hid (_):=h9;have HF9:Hid (_):=F09;have KT:Calls Tryz.prog 131 #[.int .i64 ((N:Int)+1)] W9 _:=xA (N+1) W9;obtain⟨il,XB,jy,AI,QR⟩:=info_parts rD;clear KP l0 l1 l2 l3 l4 l5 Ii h6 S9 hp6 lg Wf F8 F08 F06 h8 F9 J6 hE9 h9 F09 Wn Wo We hN S4 hAn hp hpO;go_upto_region 6 with fail
 try rw[ZX]
 clear ZX c0 c1 c26 c27 f26 f27;go_upto_region 7 with(first
  |(go_at_call 131;refine KT.mono ?_;rintro e w10 ⟨gn2,rfl,y9,hgn2,T8⟩;have xO:Below w10.heap.size w10 (w10.alloc (.cells #[.int .i64 0,.int .i64 18,.slice none 0 0,.int .i64 0,.int .i64 0,.slice (some ⟨gn2,0,none⟩) 1 1] 115)):=(Below.refl _ _).alloc (jC _) _;have Ig:=aw (aw hA9 y9) xO;have hz11:zz<=(w10.alloc (.cells #[.int .i64 0,.int .i64 18,.slice none 0 0,.int .i64 0,.int .i64 0,.slice (some ⟨gn2,0,none⟩) 1 1] 115)).heap.size:=(by have:=(Ig.lt ga rfl).1;have:=(Ig.lt ga rfl).2;omega))
  |(at_builtin;go_must (refine iI rfl _ _ 105 rfl zz 115 il (.agg #[.int .i64 0,.int .i64 0,.slice none 0 0,.int .i64 0,.int .i64 0,.slice none 0 0]) 6 80 Tryz.underlying105 XB jy AI QR rfl (by decide) (.slice (some ⟨ga,0,none⟩) ls.length ca) ls.length (bd ls vs) rfl Ig w10.heap.size [.int .i64 0,.int .i64 18,.slice none 0 0,.int .i64 0,.int .i64 0,.slice (some ⟨gn2,0,none⟩) 1 1] rfl jD rfl FZ (by decide) (by omega) hz11 ?_);intro g12 c12 w12 hown12 hgrow12 hat12 hlt12;have Wj:=IZ (z:=z) (N:=N+1) HLn.out HE.out y9 xO hz9 hgn2 T8 Ig hown12 hgrow12;have bR:=((H9.out.below y9).below xO).grown Ig (fun g hg=>by simp only[Value.ownBlock,Option.some.injEq]at hg;subst hg;exact⟨Wp,hAO.2⟩) hgrow12;have V7:=iz (c:=c12) ⟨_,_,_,bR⟩ (by show N<M1.blocks.length;omega) Wj (by simp) (by show(M1.blocks.getD N []).length+_<=_;rw[ZK];simp;omega);rw[jV,List.length_singleton]at V7;have NZ:Hid (_):=hgrow12;clear hgrow12 Wj bR)
  |(go_at_call 130;refine V7.mono ?_;rintro e w13 ⟨rfl,O3,C7,F13⟩))
 obtain⟨AV,F14⟩:=C7.setAt (N+1);obtain⟨vb13,us13,vss13,C7⟩:=C7;obtain⟨d0,d1,d26,d27,e26,e27⟩:=C7.facts;have F12:Fr (fun k=>O k\/k=ga) w O2 w12:=by
  have Vk:=HF9.out;have hs9:=Vk.size;refine⟨NZ.out.os.trans (xO.os.trans (y9.os.trans Vk.os)),NZ.out.tape.trans (xO.tape.trans (y9.tape.trans Vk.tape)),NZ.out.output.trans (xO.output.trans (y9.output.trans Vk.output)),by have:=NZ.out.size;have:=y9.size;have:=xO.size;omega,fun k hk hn=> ?_,fun k hk=>(Vk.new k hk).imp .inl id⟩;have Vi:=y9.size;rw[NZ.out.block k (by have:=xO.size;omega) (fun e=>hn (.inr (by simpa [Value.ownBlock]using e))),xO.block k (by omega),y9.block k (by omega)];exact Vk.block k hk (fun e=>hn (.inl e))
 go_wp2_with fail
 go_end0
 refine⟨rfl,O3,?_,(F12.trans F13).trans F14⟩;have em:m.fork t ls=⟨((⟨M1.blocks,N⟩:Mk).put (ls++[eB (N+1)])).blocks,N+1⟩:=by
  unfold Mk.fork;rw[HN.out,<-HM.out]
 rw[em];exact AV
end
end El
namespace El
open Go Go.RowKit Sq Aux PrjF PrjG PrjJ PrjK PrjL PrjM PrjP PrjQ PrjS FlwA FlwB FlwE FlwF FlwJ
attribute [local go_sem ↓] dd cO
theorem yb:∀v:Nat,v<16->((bits .and .u8 (v:Int) 2 !=0)= !(v&&&2==0))/\((bits .and .u8 (v:Int) 2==0)=(v&&&2==0))/\(((v:Int) !=2)= !(v==2))/\(((v:Int)==2)=(v==2)):=by decide
set_option maxRecDepth 20000 in
theorem oB (s:List Nat)(hs:ey s)(p:Nat×Nat)(hp:p.1<12)(w:World):Calls Tryz.prog 127 #[.agg (aj s).toArray,.agg #[.int .i64 (p.1:Nat),.int .i64 (p.2:Nat)]] w fun e w'=>e=.returned (.bool (cg (s.getD (ae p) 0)))/\Below w.heap.size w w':=by
 obtain⟨V,hV⟩:∃V,w.alloc (.cells (aj s).toArray 209)=V:=⟨_,rfl⟩;have hS:av V w.heap.size s:=by rw[<-hV];exact av.new w hs.len
 have dH:Below w.heap.size w V:=by rw[<-hV];exact(Below.refl _ _).alloc (jC _) _
 have lH:ae p<24:=by unfold ae;split<;>omega
 have NR:(ae p:Int)<24:=by omega
 have dT:Below V.heap.size V (V.alloc (.cells #[.int .i64 (p.1:Nat),.int .i64 (p.2:Nat)] 119)):=(Below.refl _ _).alloc (jC _) _;have lj:V.heap.size=w.heap.size+1:=by rw[<-hV];simp
 have qK:=hS.below dT hS.lt;have KS:=dc p (V.alloc (.cells #[.int .i64 (p.1:Nat),.int .i64 (p.2:Nat)] 119)) (by omega);obtain⟨v,hv⟩:∃v,s.getD (ae p) 0=v:=⟨_,rfl⟩;have bg:=hs.lt (ae p);rw[hv]at bg⊢;have Pk:Hid (s.getD (ae p) 0=v):=hv;obtain⟨t1,t2,t3,t4⟩:=yb v bg;clear hv hS;unfold cg;cases e1:(v&&&2==0)<;>cases e2:(v==2)<;>rw[e1]at t1 t2<;>rw[e2]at t3 t4<;>clear e1 e2
 all_goals
  go_enter Tryz.func127,Tryz.ntmps127
  go_wp2_with (go_at_call 62;refine KS.mono ?_;rintro e w1 ⟨rfl,aG⟩;have ju:=av.cell (qK.below aG qK.lt) (ae p) lH;rw[Pk.out]at ju)
  go_ret
  exact⟨rfl,dH.trans ((dT.trans (aG.mono dT.size)).mono dH.size)⟩
end El
end Go.Proofs.YtmlgajhhnojdjaaGreatDoor

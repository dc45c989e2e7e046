import Derived.Test.YtmlgajhhnojdjaaGreatDoorUBI
namespace Go.Proofs.YtmlgajhhnojdjaaGreatDoor
namespace El
open Go Sq Aux Go.Proofs.YtmlgajhhnojdjaaGreatDoor.Own RunA RunB Ex Bal PrjS FlwA FlwB FlwC FlwD FlwE FlwF FlwG FlwH FlwJ FlwM FlwS
theorem tn:∀(ps:List (Nat×Nat)) (o:Own.Own),(ps.map ae).Nodup->(Own.take ps o).1=ps.map o.box
 |[],_,_=>rfl
 |p::ps,o,h=>by
  rw[List.map_cons,List.nodup_cons]at h;rw[Own.take,tn ps (o.clear p) h.2,List.map_cons];refine congrArg (o.box p::·) ?_;refine List.map_congr_left fun x hx=> ?_
  show(o.boxes.set (ae p) 0).getD (ae x) 0=o.boxes.getD (ae x) 0
  rw[al,ja (fun e=>h.1 (List.mem_map.2 ⟨x,hx,e.1.symm⟩))]
theorem kA:∀(ps:List (Nat×Nat)) (o:Own.Own),(Own.take ps o).2.ints=o.ints/\(Own.take ps o).2.aO=o.aO
 |[],_=>⟨rfl,rfl⟩
 |p::ps,o=>by rw[Own.take];exact kA ps (o.clear p)
theorem drop_eq (ps:List (Nat×Nat))(o:Own.Own)(h:(ps.map ae).Nodup):o.drop ps={(Own.take ps o).2 with yd:=fJ (ps.map o.box) o.yd}:=by
 unfold Own.drop;rw[ES,DU,tn ps o h]
theorem Kl {ps ts:List (Nat×Nat)}(h:ps.map ae=ts.map ae)(o:Own.Own):ps.map o.box=ts.map o.box:=by
 have e:∀l:List (Nat×Nat),l.map o.box=(l.map ae).map fun k=>o.boxes.getD k 0:=fun l=>by rw[List.map_map];rfl
 rw[e,e,h]
section
variable {q:QP} {g:List Nat} {ints:List Int} {cs:List (Bool×Int)}
theorem GC.Av:∀(ps:List (Nat×Nat)) {g:List Nat} {o:Own.Own},(ps.map ae).Nodup->(∀x∈ps,ae x<24/\¬q.bN (ae x/2)=0/\(x.2=3->g.getD (ae x) 0=2\/g.getD (ae x) 0=8))->GC q g ints o.boxes cs->GC q (dQ ps g) ints (Own.take ps o).2.boxes cs
 |[],_,_,_,_,h=>h
 |p::ps,g,o,hn,hp,h=>by
  rw[List.map_cons,List.nodup_cons]at hn;obtain⟨h1,h2,h3⟩:=hp p (jM ..);rw[Own.take];show GC q (dQ ps (g.set (ae p) _)) ints _ cs
  refine GC.Av ps (o:=o.clear p) hn.2 (fun x hx=> ?_) (h.take h1 h2 ?_)
  ·obtain⟨g1,g2,g3⟩:=hp x (jN _ hx);refine⟨g1,g2,fun e=> ?_⟩;rw[al,ja (fun e=>hn.1 (List.mem_map.2 ⟨x,hx,e.1.symm⟩))];exact g3 e
  ·by_cases e:p.2=3
   ·rw[jb e];exact .inr ⟨rfl,h3 e⟩
   ·rw[ja e];exact .inl rfl
end
def gT (q:QP)(l:ab):List (Nat×Nat):=if l.op=12 then QP.ai q (ag l 1)else if l.op=14 then [ag l 1]else []
theorem tl (q:QP)(l:ab)(s:List Nat):aL q l s=dQ (gT q l) s:=by
 unfold aL gT;by_cases h1:l.op=12
 ·rw[jb h1,jb h1];rfl
 ·rw[ja h1,ja h1];by_cases h2:l.op=14
  ·rw[jb h2,jb h2];rfl
  ·rw[ja h2,ja h2];rfl
theorem pk {q:QP}{x:Nat×Nat}(h0:¬q.bN x.1=0):(bT q x).map ae=(QP.ai q x).map ae/\(∀y∈bT q x,bA q y=false/\y.1=x.1)/\(bT q x).length<=2:=by
 have hk:¬q.aJ x=0:=by unfold QP.aJ;split<;>omega
 unfold bT;rw[ja hk];by_cases h3:q.aJ x=3
 ·rw[jb h3];obtain⟨e1,e2⟩:=dP h3;rw[e1];refine⟨by simp[e2,gh],fun y hy=> ?_,by simp⟩;rw[jI.1 hy];exact⟨dU q _,rfl⟩
 ·rw[ja h3];have ht:bA q x=false:=by unfold bA;simpa using h3
  exact⟨rfl,fun y hy=>kM ht y hy,B7 q x⟩
section
variable {q:QP} {Rb:List (List ab)} {room:Int} {un:List Bool} {s g:List Nat} {o o1:Own.Own} {b:Br} {l:ab} {is:List Item} {rs:List ab}
theorem P7 {ps:List (Nat×Nat)}{s1 g1:List Nat}{hs:List Nat}(qU:ey s1)(hle:jv g1 s1)(hc:GC q g1 o1.ints o1.boxes b.cs)(hb:gz q hs o1)(lf:∀x∈ps,cg (s1.getD (ae x) 0)=true->b.flags.getD (ae x) false=decide (g1.getD (ae x) 0=2))
  (hps:∀x∈ps,bA q x=false/\x.1<12/\¬q.bN x.1=0) (hn:(ps.map ae).Nodup) (hy:b.yd=o1.yd) (hL:Laid Rb (aN s1 ps++is) rs):
  ∃m rs',m<=3*ps.length/\cS ⟨q.locals,Rb⟩ room m rs b rs' {b with yd:=fJ (ps.map o1.box) o1.yd}/\Laid Rb is rs':=by
 have ht:=qc ps hb (fun x hx=>cx (hps x hx).2.1);have IC:=ht.y;rw[tn ps o1 hn,DU,List.append_assoc]at IC;rw[<-hy]at IC⊢;refine EO (R:=⟨q.locals,Rb⟩) (room:=room) (s:=s1) o1.box ps IC (fun x hx=> ?_) hL;obtain⟨h1,h2,h3⟩:=hps x hx;have hs:=cx h2;have QI:¬q.bN (ae x/2)=0:=by rw[bu];exact h3
 have eT:=hc.box _ hs QI;have RD:=hc.bit _ hs;have hl:=hle _ hs;refine⟨h1,fun e=>hc.cell _ hs QI e,fun e=> ?_,fun e=>eT.1 (GI RD hl e),fun e=> ?_⟩
 ·rw[lf x hx e];exact decide_eq_decide.2 eT
 ·refine Decidable.byContradiction fun e2=>GH RD (qU.lt _) hl e (eT.2 e2)
theorem JG {v:Nat}(h:tz v):cg v=false:=by
 rcases h with e|e|e|e<;>subst e<;>rfl
theorem pE (h:qJ q un s g o b)(hA:∀x∈aW q l,ae x<24->cg ((aL q l s).getD (ae x) 0)=true->un.getD (ae x) false=true)(ez:aW q l=bT q (ag l 0))(h0:(ag l 0).1<12)(ht:¬q.bN (ag l 0).1=0)
  (hn:((gT q l).map ae).Nodup) (RH:∀x∈gT q l,ae x<24/\¬q.bN (ae x/2)=0/\(x.2=3->g.getD (ae x) 0=2\/g.getD (ae x) 0=8)) (hL:Laid Rb (aN (aL q l s) (aW q l)++is) rs):
  GC q (aL q l g) (Own.take (gT q l) o).2.ints (Own.take (gT q l) o).2.boxes b.cs/\∃m rs',m<=6/\cS ⟨q.locals,Rb⟩ room m rs b rs' {b with yd:=((Own.take (gT q l) o).2.drop (QP.ai q (ag l 0))).yd}/\Laid Rb is rs':=by
 have hc:GC q (aL q l g) (Own.take (gT q l) o).2.ints (Own.take (gT q l) o).2.boxes b.cs:=by
  rw[tl,(kA _ _).1];exact GC.Av _ hn RH h.core
 obtain⟨e1,e2,e3⟩:=pk ht;rw[ez]at hL hA;have hy:b.yd=(Own.take (gT q l) o).2.yd:=by rw[DU];exact h.yd
 obtain⟨m,rs',h1,h2,h3⟩:=P7 (room:=room) (ps:=bT q (ag l 0)) (mS q l h.ok) (Aq q l h.core.sok h.ok h.le) hc (qc _ h.j.2 (fun x hx=>(RH x hx).1)) (fun x hx hu=>by
  have j6:=(e2 x hx).2;have hs:ae x<24:=cx (by omega);rcases vK q l (ae x) h.ok.len h.core.gl with⟨a1,a2⟩|⟨v,hv,a1,a2⟩
  ·rw[a2];exact h.YG _ hs (hA x hx hs hu)
  ·rw[a1,JG hv]at hu;cases hu) (fun x hx=>⟨(e2 x hx).1,by rw[(e2 x hx).2];exact h0,by rw[(e2 x hx).2];exact ht⟩) (by rw[e1];exact dZ q _) hy hL
 refine⟨hc,m,rs',by omega,?_,h3⟩;rw[drop_eq _ _ (dZ q _),<-Kl e1];exact h2
theorem qz (L:List Nat)(k m n:Nat):(L.set k m).set k n=L.set k n:=by simp
theorem DQ (hs:iA (ag l 0) s=false)(h:qJ q un s g o b)(h0:(ag l 0).1<12)(e:(ag l 0).2=3):g.getD (ae (ag l 0)) 0=2\/g.getD (ae (ag l 0)) 0=8:=by
 unfold iA at hs;rw[e]at hs;have:bI 10 [ag l 0] s=false:=by simpa using hs
 exact Lw (h.core.bit _ (cx h0)) (h.ok.lt _) (h.le _ (cx h0)) (cV this)
end
end El
namespace El
open Go Sq Aux Go.Proofs.YtmlgajhhnojdjaaGreatDoor.Own RunA RunB Ex Bal PrjS FlwA FlwB FlwC FlwD FlwE FlwF FlwG FlwH FlwJ FlwM FlwS
section
variable {q:QP} {Rb:List (List ab)} {room:Int} {un:List Bool} {s g:List Nat} {o:Own.Own} {b b1:Br} {l:ab} {is:List Item} {rs:List ab}
theorem pD (ak:l.op=9\/l.op=12\/l.op=13\/l.op=14\/l.op=15):aW q l=bT q (ag l 0):=by unfold aW;rw[jb ak]
theorem sB (bR:¬l.op=12)(AV:¬l.op=14):gT q l=[]:=by unfold gT;rw[ja bR,ja AV]
theorem qD (bR:¬l.op=12)(AV:¬l.op=14)(s:List Nat):aL q l s=s:=by rw[tl,sB bR AV];rfl
def La (q:QP)(Rb:List (List ab))(room:Int)(g:List Nat)(l:ab)(o':Own.Own)(b1:Br):Prop:=
 ∀ls,∃b2:Br,ix ⟨q.locals,Rb⟩ room l ls b1=some (ls,b2)/\GC q (aq q l g) o'.ints o'.boxes b2.cs/\b2.yd=o'.yd/\b2.aO=o'.aO/\b2.flags=b1.flags
theorem mL (b:Br){x:Nat×Nat}(ht:bA q x=false)(v:Int):b.write ⟨q.locals,Rb⟩ x v={b with cs:=b.cs.set (ae x) (true,v)}:=by
 unfold Br.write;rw[jh (q:=⟨q.locals,Rb⟩) ht]
theorem yp (b:Br){x:Nat×Nat}(ht:bA q x=true)(v:Int):b.write ⟨q.locals,Rb⟩ x v={b with cs:=b.cs.set (24+x.1) (true,v)}:=by
 unfold Br.write;rw[l6 (q:=⟨q.locals,Rb⟩) ht]
theorem FV (h:qJ q un s g o b)(hl:eU q l)(bR:q.locals.length<=12)(hf:aE q l s=false)(ak:l.op=9)(aG:b1.cs=b.cs):
  b1.breaks ⟨q.locals,Rb⟩ l=false/\b1.val ⟨q.locals,Rb⟩ (ag l 1)=o.num (ag l 1)/\(ag l 0).1<12/\q.aB (ag l 0) 112=true/\((ag l 0).2=3->g.getD (ae (ag l 0)) 0=2\/g.getD (ae (ag l 0)) 0=8):=by
 have hlen:l.places.length=2:=by rw[hl.ok.bt,ak];rfl
 have p0:=ba hl (j:=0) (by omega);have p1:=ba hl (j:=1) (by omega);have k0:=bj hl.fits (j:=0) (by omega);have k1:=bj hl.fits (j:=1) (by omega);rw[ak]at k0 k1;have k0:q.aB (ag l 0) 112=true:=k0;have k1:q.aB (ag l 1) 105=true:=k1;have f1:bI 2 [ag l 1] s=false/\iA (ag l 0) s=false:=by
  unfold aE at hf;rw[ja (by omega),ja (by omega),jb (by omega),iF,iF,Bool.or_eq_false_iff]at hf;exact hf
 have hc:GC q g o.ints o.boxes b1.cs:=by rw[aG];exact h.core
 have c1:=hc.oP (Rb:=Rb) k1 (by omega) (h.two (by omega) (cV f1.1));refine⟨?_,by unfold Br.val;rw[c1],by omega,k0,fun e=>DQ f1.2 h (by omega) e⟩;unfold Br.breaks;rw[ja (by omega),ja (by omega),jb (by omega)];unfold Br.empty;simp[c1]
theorem PV (h:qJ q un s g o b)(hl:eU q l)(bR:q.locals.length<=12)(hf:aE q l s=false)(ak:l.op=9)(aG:b1.cs=b.cs)(LV:b1.aO=b.aO)(IC:b1.yd=(o.drop [ag l 0]).yd)(hr:¬(o.drop [ag l 0]).yd.live≥room):
  La q Rb room g l ((o.drop [ag l 0]).new (ag l 0) (o.num (ag l 1))) b1:=fun ls=>by
 obtain⟨h1,h2,h3,k0,h5⟩:=FV (Rb:=Rb) h hl bR hf ak aG;obtain⟨t0,t1,-,t3⟩:=so k0;refine⟨b1.new ⟨q.locals,Rb⟩ (ag l 0) (o.num (ag l 1)),?_,?_,?_,?_,rfl⟩
 ·unfold ix;rw[h1,ja (by decide),ja (by omega),jb ak,IC,ja hr,h2]
 ·unfold Br.new;rw[mL _ t1,eP (by rw[ak];rfl) (by omega)];show GC q _ (o.drop [ag l 0]).ints ((o.drop [ag l 0]).boxes.set (ae (ag l 0)) ((o.drop [ag l 0]).yd.made.length+1)) (b1.cs.set (ae (ag l 0)) (true,((b1.yd.made.length+1:Nat):Int)))
  obtain⟨e1,e2,e3,e4⟩:=cL [ag l 0] o;rw[e2,e4,aG,IC];show GC q _ o.ints ((o.boxes.set (ae (ag l 0)) 0).set (ae (ag l 0)) _) _
  rw[qz];exact h.core.DF (cx h3) (by rw[bu];exact t0) (by omega) (fun e=>h5 (t3 (by rw[bu]at e;exact e)))
 ·show b1.yd.build _=(o.drop [ag l 0]).yd.build _
  rw[IC]
 ·show b1.aO=(o.drop [ag l 0]).aO
  rw[LV,h.aO,(cL _ _).2.2.1]
theorem ML (h:qJ q un s g o b)(hl:eU q l)(bR:q.locals.length<=12)(ak:l.op=13)(aG:b1.cs=b.cs)(LV:b1.aO=b.aO)(IC:b1.yd=(o.drop (QP.ai q (ag l 0))).yd):
  La q Rb room g l (o.drop (QP.ai q (ag l 0))) b1:=fun ls=>by
 have hlen:l.places.length=1:=by rw[hl.ok.bt,ak];rfl
 have p0:=ba hl (j:=0) (by omega);have k0:=bj hl.fits (j:=0) (by omega);rw[ak]at k0;have k0:q.aB (ag l 0) 111=true:=k0;obtain⟨t0,t1⟩:=jn k0 p0.2;have ht:bA q (ag l 0)=true:=sV k0 p0.2;have LW:q.aJ (ag l 0)=3:=by unfold bA at ht;simpa using ht
 obtain⟨e1,e2⟩:=dP LW;have mi:b1.breaks ⟨q.locals,Rb⟩ l=false:=by
  unfold Br.breaks;rw[ja (by omega),ja (by omega),ja (by omega),ja (by omega),ja (by omega),ja (by omega),ja (by omega)]
 refine⟨_,rP _ ls ⟨by omega,by omega,by omega⟩ mi,?_,?_,?_,?_⟩<;>rw[Br.cz,ja (by omega),ja (by omega),ja (by omega),ja (by omega),ja (by omega),ja (by omega),ja (by omega),ja (by omega),jb ak,yp _ ht]
 ·obtain⟨-,d2,-,d4⟩:=cL (QP.ai q (ag l 0)) o;rw[d2,d4,e1];show GC q _ o.ints (o.boxes.set (ae (ag l 0)) 0) (b1.cs.set _ _)
  have hp:aq q l g=g.set (2*(ag l 0).1) 4:=by
   unfold aq;rw[ja (by rw[ak];decide),ja (by omega),jb ak,qD (by omega) (by omega)];show g.set (ae (ag l 0)) 4=_
   rw[e2]
  rw[hp,aG,e2];exact h.core.none (by omega) t0
 ·exact IC
 ·show b1.aO=_
  rw[LV,h.aO,(cL _ _).2.2.1]
theorem zI (x y:Nat×Nat)(o:Own.Own):(Own.move [x] [y] o).ints=o.ints/\(Own.move [x] [y] o).aO=o.aO/\(Own.move [x] [y] o).boxes=(o.boxes.set (ae y) 0).set (ae x) (o.box y)/\(Own.move [x] [y] o).yd=((Own.take [y] o).2.drop [x]).yd:=by
 obtain⟨-,d2,d3,d4⟩:=cL [x] (Own.take [y] o).2;unfold Own.move;refine⟨d2,d3,?_,rfl⟩;show((Own.take [y] o).2.drop [x]).boxes.set (ae x) (o.box y)=_
 rw[d4];show(((o.boxes.set (ae y) 0).set (ae x) 0).set (ae x) (o.box y))=_
 rw[qz]
theorem Nj (h:qJ q un s g o b)(hl:eU q l)(bR:q.locals.length<=12)(hf:aE q l s=false)(ak:l.op=14)(aG:b1.cs=b.cs)(LV:b1.aO=b.aO)(IC:b1.yd=((Own.take (gT q l) o).2.drop (QP.ai q (ag l 0))).yd)(hc:GC q (aL q l g) (Own.take (gT q l) o).2.ints (Own.take (gT q l) o).2.boxes b.cs):
  La q Rb room g l (o.move (QP.ai q (ag l 0)) (QP.ai q (ag l 1))) b1:=fun ls=>by
 have hlen:l.places.length=2:=by rw[hl.ok.bt,ak];rfl
 have p0:=ba hl (j:=0) (by omega);have p1:=ba hl (j:=1) (by omega);have k0:=bj hl.fits (j:=0) (by omega);have k1:=bj hl.fits (j:=1) (by omega);rw[ak]at k0 k1;have k0:q.aB (ag l 0) 111=true:=k0;have k1:q.aB (ag l 1) 112=true:=k1;obtain⟨t0,t1⟩:=jn k0 p0.2;have ht:bA q (ag l 0)=true:=sV k0 p0.2;have LW:q.aJ (ag l 0)=3:=by unfold bA at ht;simpa using ht
 obtain⟨e1,e2⟩:=dP LW;obtain⟨u0,u1,u2,u3⟩:=so k1;have f1:dv 2 (s.getD (ae (ag l 1)) 0)=false:=by
  unfold aE at hf;rw[ja (by omega),ja (by omega),ja (by omega),jb (by omega),iF]at hf;exact cV hf
 have iQ:=cx (x:=ag l 1) (by omega);obtain⟨c1,hn⟩:=h.core.qF (Rb:=Rb) u1 (by omega) u0 (h.two (by omega) f1);have pJ:b.cs.getD (ae (ag l 1)) (false,0)=(true,((o.box (ag l 1):Nat):Int)):=by rw[<-fj (R:=⟨q.locals,Rb⟩) u1];exact c1
 have mi:b1.breaks ⟨q.locals,Rb⟩ l=false:=by
  unfold Br.breaks;rw[ja (by omega),ja (by omega),jb (by omega)];unfold Br.empty;have:b1.cell ⟨q.locals,Rb⟩ (ag l 1)=b.cell ⟨q.locals,Rb⟩ (ag l 1):=by unfold Br.cell;rw[aG]
  simp[this,c1]
 have ez:gT q l=[ag l 1]:=by unfold gT;rw[ja (by omega),jb ak]
 have Bc:(b1.write ⟨q.locals,Rb⟩ (ag l 0) 1).val ⟨q.locals,Rb⟩ (ag l 1)=((o.box (ag l 1):Nat):Int):=by
  unfold Br.val;rw[fj (R:=⟨q.locals,Rb⟩) u1,yp _ ht];show((b1.cs.set (24+(ag l 0).1) (true,1)).getD (ae (ag l 1)) (false,0)).2=_
  rw[al,ja (by omega),aG,pJ]
 rw[e1,u2];obtain⟨m1,m2,m3,m4⟩:=zI (ag l 0) (ag l 1) o;refine⟨_,rP _ ls ⟨by omega,by omega,by omega⟩ mi,?_,?_,?_,?_⟩<;>rw[Br.cz,ja (by omega),ja (by omega),ja (by omega),ja (by omega),ja (by omega),ja (by omega),ja (by omega),ja (by omega),ja (by omega),jb ak,Bc,yp _ ht,mL _ (dU q _)]
 ·show GC q _ _ _ ((b1.cs.set (24+(ag l 0).1) (true,1)).set (ae ((ag l 0).1,3)) (true,_))
  rw[gh,m1,m3,e2,aG];have hp:aq q l g=(aL q l g).set (2*(ag l 0).1) 2:=by
   unfold aq;rw[jb (by rw[ak];rfl)];show(aL q l g).set (ae (ag l 0)) 2=_
   rw[e2]
  rw[hp];rw[ez,(kA _ _).1]at hc;exact GC.some (boxes:=o.boxes.set (ae (ag l 1)) 0) hc (by omega) t0 hn
 ·show b1.yd=_
  rw[m4,IC,ez,e1]
 ·show b1.aO=_
  rw[m2,LV,h.aO]
end
end El
namespace El
open Go Sq Aux Go.Proofs.YtmlgajhhnojdjaaGreatDoor.Own RunA RunB Ex Bal PrjS FlwA FlwB FlwC FlwD FlwE FlwF FlwG FlwH FlwJ FlwM FlwS
section
variable {q:QP} {x:Nat×Nat}
theorem BK (hk:q.aB x 109=true)(_h3:x.2<=3)(h1:q.aJ x=1):bA q x=false/\QP.ai q x=[x]/\(q.bN x.1=3->x.2=3):=by
 refine⟨by unfold bA;rw[h1];rfl,?_,fun e=> ?_⟩
 ·unfold QP.ai;rw[ja];rintro⟨e1,e2⟩;unfold QP.aJ at h1;rw[ja (by omega),e2]at h1;omega
 ·unfold QP.aJ at h1;by_cases e2:x.2=1\/x.2=2\/x.2=3
  ·rcases e2 with e2|e2|e2
   ·unfold QP.aB QP.kind at hk;rw[e2,e]at hk;simp at hk
   ·unfold QP.aB QP.kind at hk;rw[e2,e]at hk;simp at hk
   ·exact e2
  ·rw[ja e2]at h1;omega
theorem zX (h3:x.2<=3)(h2:q.aJ x=2):q.bN x.1=2/\QP.ai q x=[(x.1,1),(x.1,2)]:=by
 unfold QP.aJ at h2;split at h2
 ·omega
 ·refine⟨h2,?_⟩;unfold QP.ai;rw[jb ⟨by omega,h2⟩]
theorem IN (hk:q.aB x 109=true)(ht:q.bN x.1<=3):q.aJ x=1\/q.aJ x=2\/q.aJ x=3:=by
 have h0:=fQ hk;unfold QP.aJ;split
 ·exact .inl rfl
 ·omega
end
section
variable {q:QP} {Rb:List (List ab)} {room:Int} {un:List Bool} {s g:List Nat} {o:Own.Own} {b b1:Br} {l:ab} {is:List Item} {rs:List ab}
theorem Cm {t f:Nat×Nat}(ht:QP.ai q t=[t])(hf:QP.ai q f=[f])(b:Br):b.fE ⟨q.locals,Rb⟩ t f=b.write ⟨q.locals,Rb⟩ t (b.val ⟨q.locals,Rb⟩ f):=by
 unfold Br.fE;have e1:QP.ai ⟨q.locals,Rb⟩ t=[t]:=ht;have e2:QP.ai ⟨q.locals,Rb⟩ f=[f]:=hf;rw[e1,e2];rfl
theorem MK {t f:Nat×Nat}(ht:QP.ai q t=[(t.1,1),(t.1,2)])(hf:QP.ai q f=[(f.1,1),(f.1,2)])(b:Br):b.fE ⟨q.locals,Rb⟩ t f=(b.write ⟨q.locals,Rb⟩ (t.1,1) (b.val ⟨q.locals,Rb⟩ (f.1,1))).write ⟨q.locals,Rb⟩ (t.1,2) ((b.write ⟨q.locals,Rb⟩ (t.1,1) (b.val ⟨q.locals,Rb⟩ (f.1,1))).val ⟨q.locals,Rb⟩ (f.1,2)):=by
 unfold Br.fE;have e1:QP.ai ⟨q.locals,Rb⟩ t=[(t.1,1),(t.1,2)]:=ht;have e2:QP.ai ⟨q.locals,Rb⟩ f=[(f.1,1),(f.1,2)]:=hf;rw[e1,e2];rfl
theorem zJ {t f:Nat×Nat}(hf:bA q f=false)(b:Br):b.move ⟨q.locals,Rb⟩ t f=b.fE ⟨q.locals,Rb⟩ t f:=by
 unfold Br.move;have e:bA ⟨q.locals,Rb⟩ f=false:=hf;rw[ja (by rw[e];simp)]
theorem im (q:QP)(i:Nat):bA q (i,1)=false/\bA q (i,2)=false:=by simp[bA,QP.aJ]
theorem rL (b:Br)(ak:l.op=12)(he:b.empty ⟨q.locals,Rb⟩ (QP.ai q (ag l 1))=false):b.breaks ⟨q.locals,Rb⟩ l=false:=by
 unfold Br.breaks;rw[ja (by omega),ja (by omega),ja (by omega),jb ak];exact he
theorem yo (b:Br)(ak:l.op=12):b.cz ⟨q.locals,Rb⟩ l=b.move ⟨q.locals,Rb⟩ (ag l 0) (ag l 1):=by
 rw[Br.cz,ja (by omega),ja (by omega),ja (by omega),ja (by omega),ja (by omega),ja (by omega),ja (by omega),jb ak]
theorem PR (i j:Nat)(o:Own.Own):(Own.move [(i,1),(i,2)] [(j,1),(j,2)] o).ints=o.ints/\(Own.move [(i,1),(i,2)] [(j,1),(j,2)] o).aO=o.aO/\
  (Own.move [(i,1),(i,2)] [(j,1),(j,2)] o).boxes=((((o.boxes.set (2*j) 0).set (2*j+1) 0).set (2*i) (o.boxes.getD (2*j) 0)).set (2*i+1) (o.boxes.getD (2*j+1) 0))/\
  (Own.move [(i,1),(i,2)] [(j,1),(j,2)] o).yd=((Own.take [(j,1),(j,2)] o).2.drop [(i,1),(i,2)]).yd:=by
 obtain⟨-,d2,d3,d4⟩:=cL [(i,1),(i,2)] (Own.take [(j,1),(j,2)] o).2;have hv:(Own.take [(j,1),(j,2)] o).1=[o.boxes.getD (2*j) 0,o.boxes.getD (2*j+1) 0]:=by
  rw[tn _ _ (by simp[ae])];simp[Own.box,ae]
 unfold Own.move;rw[hv];refine⟨d2,d3,?_,rfl⟩;show(((Own.take [(j,1),(j,2)] o).2.drop [(i,1),(i,2)]).boxes.set (ae (i,1)) _).set (ae (i,2)) _=_
 rw[d4];show((((((o.boxes.set (ae (j,1)) 0).set (ae (j,2)) 0).set (ae (i,1)) 0).set (ae (i,2)) 0).set (ae (i,1)) (o.boxes.getD (2*j) 0)).set (ae (i,2)) (o.boxes.getD (2*j+1) 0))=_
 have e1:ae (i,1)=2*i:=by simp[ae]
 have e2:ae (i,2)=2*i+1:=by simp[ae]
 have e3:ae (j,1)=2*j:=by simp[ae]
 have e4:ae (j,2)=2*j+1:=by simp[ae]
 rw[e1,e2,e3,e4,List.set_comm _ _ (show 2*i+1≠2*i by omega),qz,qz]
theorem MF (h:qJ q un s g o b)(hl:eU q l)(bR:q.locals.length<=12)(D5:∀i,q.bN i<=3)(hf:aE q l s=false)(ak:l.op=12)(aG:b1.cs=b.cs)(LV:b1.aO=b.aO)(IC:b1.yd=((Own.take (gT q l) o).2.drop (QP.ai q (ag l 0))).yd)(hc:GC q (aL q l g) (Own.take (gT q l) o).2.ints (Own.take (gT q l) o).2.boxes b.cs):
  La q Rb room g l (o.move (QP.ai q (ag l 0)) (QP.ai q (ag l 1))) b1:=fun ls=>by
 have hlen:l.places.length=2:=by rw[hl.ok.bt,ak];rfl
 have p0:=ba hl (j:=0) (by omega);have p1:=ba hl (j:=1) (by omega);have k0:=bj hl.fits (j:=0) (by omega);have k1:=bj hl.fits (j:=1) (by omega);have Tj:=qo hl.fits ak;rw[ak]at k0 k1;have k0:q.aB (ag l 0) 109=true:=k0;have k1:q.aB (ag l 1) 109=true:=k1;have t0:=fQ k0;have t1:=fQ k1;have f1:fW q (ag l 1) s=false/\iA (ag l 0) s=false:=by
  unfold aE at hf;rw[ja (by omega),ja (by omega),ja (by omega),ja (by omega),ja (by omega),jb ak,Bool.or_eq_false_iff]at hf;exact hf
 have ez:gT q l=QP.ai q (ag l 1):=by unfold gT;rw[jb ak]
 have iQ:=cx (x:=ag l 1) (by omega);have yj:=cx (x:=ag l 0) (by omega);have Pg:aq q l g=gu (cJ q (ag l 1) g) (QP.ai q (ag l 0)) (aL q l g):=by
  unfold aq;rw[ja (by rw[ak];decide),jb ak];rfl
 have Ty:aL q l g=dQ (QP.ai q (ag l 1)) g:=by rw[tl,ez]
 rcases IN k1 (D5 _)with hk|hk|hk
 ·
  have NN:=Tj.trans hk;obtain⟨a1,a2,a3⟩:=BK k0 p0.2 NN;obtain⟨c1,c2,c3⟩:=BK k1 p1.2 hk;have fy:dv 2 (s.getD (ae (ag l 1)) 0)=false:=by
   have:=f1.1;unfold fW at this;rw[ja (by omega),c2]at this;exact cV this
  obtain⟨v1,hn⟩:=h.core.qF (Rb:=Rb) c1 (by omega) t1 (h.two (by omega) fy);have aX:b1.cell ⟨q.locals,Rb⟩ (ag l 1)=(true,((o.box (ag l 1):Nat):Int)):=by
   rw[<-v1];unfold Br.cell;rw[aG]
  have mi:=rL (q:=q) (Rb:=Rb) b1 ak (by rw[c2];unfold Br.empty;simp[aX]);obtain⟨m1,m2,m3,m4⟩:=zI (ag l 0) (ag l 1) o;rw[a2,c2];have Pb:b1.cz ⟨q.locals,Rb⟩ l={b1 with cs:=b1.cs.set (ae (ag l 0)) (true,((o.box (ag l 1):Nat):Int))}:=by
   rw[yo b1 ak,zJ c1,Cm a2 c2,mL _ a1];unfold Br.val;rw[aX]
  refine⟨_,rP _ ls ⟨by omega,by omega,by omega⟩ mi,?_,?_,?_,?_⟩<;>rw[Pb]
  ·have To:cJ q (ag l 1) g=2:=by unfold cJ;exact ja (by omega)
   rw[Pg,To,a2,m1,m3,aG];show GC q ((aL q l g).set (ae (ag l 0)) 2) _ _ _
   rw[ez,c2,(kA _ _).1]at hc;refine GC.DF (boxes:=o.boxes.set (ae (ag l 1)) 0) hc yj (by rw[bu];exact t0) hn (fun e=> ?_);rw[bu]at e;have e03:=a3 e;rw[Ty,c2];show(g.set (ae (ag l 1)) _).getD (ae (ag l 0)) 0=2\/(g.set (ae (ag l 1)) _).getD (ae (ag l 0)) 0=8
   rw[al];by_cases es:ae (ag l 1)=ae (ag l 0)
   ·have:(ag l 1).1=(ag l 0).1:=by rw[<-bu (ag l 1),<-bu (ag l 0),es]
    rw[jb ⟨es,by rw[h.core.gl];exact yj⟩,jb (c3 (by rw[this];exact e))];exact .inr rfl
   ·rw[ja (fun z=>es z.1)];exact DQ f1.2 h (by omega) e03
  ·show b1.yd=_
   rw[m4,IC,ez,a2,c2]
  ·show b1.aO=_
   rw[m2,LV,h.aO]
 ·
  have NN:=Tj.trans hk;obtain⟨a1,a2⟩:=zX p0.2 NN;obtain⟨c1,c2⟩:=zX p1.2 hk;have fy:dv 2 (s.getD (ae ((ag l 1).1,1)) 0)=false/\dv 2 (s.getD (ae ((ag l 1).1,2)) 0)=false:=by
   have:=f1.1;unfold fW at this;rw[ja (by omega),c2]at this;exact kq this
  have s1:ae ((ag l 1).1,1)=2*(ag l 1).1:=by simp[ae]
  have s2:ae ((ag l 1).1,2)=2*(ag l 1).1+1:=by simp[ae]
  have r1:ae ((ag l 0).1,1)=2*(ag l 0).1:=by simp[ae]
  have r2:ae ((ag l 0).1,2)=2*(ag l 0).1+1:=by simp[ae]
  obtain⟨v1,n1⟩:=h.core.qF (Rb:=Rb) (x:=((ag l 1).1,1)) (im q _).1 (by simp only;omega) t1 (h.two (by simp only;omega) fy.1);obtain⟨v2,n2⟩:=h.core.qF (Rb:=Rb) (x:=((ag l 1).1,2)) (im q _).2 (by simp only;omega) t1 (h.two (by simp only;omega) fy.2);have NS:o.box ((ag l 1).1,1)=o.boxes.getD (2*(ag l 1).1) 0:=by unfold Own.box;rw[s1]
  have hv2:o.box ((ag l 1).1,2)=o.boxes.getD (2*(ag l 1).1+1) 0:=by unfold Own.box;rw[s2]
  rw[NS]at v1 n1;rw[hv2]at v2 n2;rw[fj (R:=⟨q.locals,Rb⟩) (im q _).1,s1]at v1;rw[fj (R:=⟨q.locals,Rb⟩) (im q _).2,s2]at v2;have OP:b1.cell ⟨q.locals,Rb⟩ ((ag l 1).1,1)=(true,((o.boxes.getD (2*(ag l 1).1) 0:Nat):Int)):=by
   rw[fj (R:=⟨q.locals,Rb⟩) (im q _).1,s1,aG];exact v1
  have Um:b1.cell ⟨q.locals,Rb⟩ ((ag l 1).1,2)=(true,((o.boxes.getD (2*(ag l 1).1+1) 0:Nat):Int)):=by
   rw[fj (R:=⟨q.locals,Rb⟩) (im q _).2,s2,aG];exact v2
  have tX:bA q (ag l 1)=false:=by unfold bA;rw[hk];rfl
  have mi:=rL (q:=q) (Rb:=Rb) b1 ak (by rw[c2];unfold Br.empty;simp[OP,Um]);obtain⟨m1,m2,m3,m4⟩:=PR (ag l 0).1 (ag l 1).1 o;rw[a2,c2];have Pb:b1.cz ⟨q.locals,Rb⟩ l={b1 with cs:=(b1.cs.set (2*(ag l 0).1) (true,((o.boxes.getD (2*(ag l 1).1) 0:Nat):Int))).set (2*(ag l 0).1+1) (true,((o.boxes.getD (2*(ag l 1).1+1) 0:Nat):Int))}:=by
   rw[yo b1 ak,zJ tX,MK a2 c2];have w1:b1.val ⟨q.locals,Rb⟩ ((ag l 1).1,1)=((o.boxes.getD (2*(ag l 1).1) 0:Nat):Int):=by unfold Br.val;rw[OP]
   rw[w1,mL _ (im q _).1,mL _ (im q _).2,r1,r2];have w2:Br.val {b1 with cs:=b1.cs.set (2*(ag l 0).1) (true,((o.boxes.getD (2*(ag l 1).1) 0:Nat):Int))} ⟨q.locals,Rb⟩ ((ag l 1).1,2)=((o.boxes.getD (2*(ag l 1).1+1) 0:Nat):Int):=by
    unfold Br.val;rw[fj (R:=⟨q.locals,Rb⟩) (im q _).2,s2];show((b1.cs.set _ _).getD _ (false,0)).2=_
    rw[al,ja (by omega),aG,v2]
   rw[w2]
  refine⟨_,rP _ ls ⟨by omega,by omega,by omega⟩ mi,?_,?_,?_,?_⟩<;>rw[Pb]
  ·have To:cJ q (ag l 1) g=2:=by unfold cJ;exact ja (by omega)
   rw[Pg,To,a2,m1,m3,aG];show GC q (((aL q l g).set (ae ((ag l 0).1,1)) 2).set (ae ((ag l 0).1,2)) 2) _ _ _
   rw[r1,r2];rw[ez,c2,(kA _ _).1]at hc;have pb:GC q (aL q l g) o.ints ((o.boxes.set (2*(ag l 1).1) 0).set (2*(ag l 1).1+1) 0) b.cs:=by
    have:(Own.take [((ag l 1).1,1),((ag l 1).1,2)] o).2.boxes=(o.boxes.set (ae ((ag l 1).1,1)) 0).set (ae ((ag l 1).1,2)) 0:=rfl;rw[this,s1,s2]at hc;exact hc
   have y1:2*(ag l 0).1/2=(ag l 0).1:=by omega
   have y2:(2*(ag l 0).1+1)/2=(ag l 0).1:=by omega
   refine GC.DF (GC.DF pb (by omega) (by rw[y1];exact t0) n1 (fun e=> ?_)) (by omega) (by rw[y2];exact t0) n2 (fun e=> ?_)
   ·rw[y1]at e;omega
   ·rw[y2]at e;omega
  ·show b1.yd=_
   rw[m4,IC,ez,a2,c2]
  ·show b1.aO=_
   rw[m2,LV,h.aO]
 ·
  have NN:=Tj.trans hk;obtain⟨a1,-⟩:=mI NN;obtain⟨a2,a3⟩:=dP NN;obtain⟨c1,-⟩:=mI hk;obtain⟨c2,c3⟩:=dP hk;have qM:bA q (ag l 0)=true:=by unfold bA;rw[NN];rfl
  have VP:bA q (ag l 1)=true:=by unfold bA;rw[hk];rfl
  have Ka:=xl ak hk hf;have Dk:=tO (h.core.bit _ iQ) (h.ok.lt _) (h.le _ iQ) Ka;obtain⟨m1,m2,m3,m4⟩:=zI (ag l 0) (ag l 1) o;have Pj:b.cs.getD (24+(ag l 1).1) (false,0)=(true,if g.getD (ae (ag l 1)) 0=2 then 1 else 0):=by
   rcases Dk with e|e
   ·rw[jb e];exact h.core.Bl _ (by omega) c1 (.inl (by rw[<-c3];exact e))
   ·rw[ja (by omega)];exact h.core.GJ _ (by omega) c1 (by rw[<-c3];exact e)
  have aX:b1.cell ⟨q.locals,Rb⟩ (ag l 1)=(true,if g.getD (ae (ag l 1)) 0=2 then 1 else 0):=by
   unfold Br.cell;rw[l6 (q:=⟨q.locals,Rb⟩) VP,aG];exact Pj
  have mi:=rL (q:=q) (Rb:=Rb) b1 ak (by rw[c2];unfold Br.empty;simp[aX]);have XK:b1.fE ⟨q.locals,Rb⟩ (ag l 0) (ag l 1)={b1 with cs:=b1.cs.set (24+(ag l 0).1) (true,if g.getD (ae (ag l 1)) 0=2 then 1 else 0)}:=by
   rw[Cm a2 c2,yp _ qM];unfold Br.val;rw[aX]
  have Pb:(b1.fE ⟨q.locals,Rb⟩ (ag l 0) (ag l 1)).val ⟨q.locals,Rb⟩ (ag l 1)=if g.getD (ae (ag l 1)) 0=2 then 1 else 0:=by
   rw[XK];unfold Br.val Br.cell;rw[l6 (q:=⟨q.locals,Rb⟩) VP];show((b1.cs.set _ _).getD _ (false,0)).2=_
   rw[al];split
   ·rfl
   ·rw[aG,Pj]
  have To:cJ q (ag l 1) g=g.getD (ae (ag l 1)) 0:=by unfold cJ;exact jb hk
  have Pf:aq q l g=(aL q l g).set (2*(ag l 0).1) (g.getD (ae (ag l 1)) 0):=by
   rw[Pg,To,a2];show(aL q l g).set (ae (ag l 0)) _=_
   rw[a3]
  rw[ez,c2,(kA _ _).1]at hc;have pb:GC q (aL q l g) o.ints (o.boxes.set (ae (ag l 1)) 0) b.cs:=hc;rw[a2,c2];have Yo:b1.yd=(Own.move [ag l 0] [ag l 1] o).yd:=by rw[m4,IC,ez,a2,c2]
  have lu:b1.aO=(Own.move [ag l 0] [ag l 1] o).aO:=by rw[m2,LV,h.aO]
  rcases Dk with e|e
  ·rw[jb e]at XK Pb;have eT:=(h.core.box _ iQ (by rw[bu];exact t1)).1 e;have B8:=h.core.cell _ iQ (by rw[bu];exact t1) eT;have zd:b1.cz ⟨q.locals,Rb⟩ l={b1 with cs:=(b1.cs.set (24+(ag l 0).1) (true,1)).set (2*(ag l 0).1) (true,((o.box (ag l 1):Nat):Int))}:=by
    rw[yo b1 ak];unfold Br.move;rw[jb ⟨VP,Pb⟩,XK,mL _ (dU q _),gh];have w2:Br.val {b1 with cs:=b1.cs.set (24+(ag l 0).1) (true,1)} ⟨q.locals,Rb⟩ ((ag l 1).1,3)=((o.box (ag l 1):Nat):Int):=by
     unfold Br.val;rw[fj (R:=⟨q.locals,Rb⟩) (dU q _),gh];show((b1.cs.set _ _).getD _ (false,0)).2=_
     rw[al,ja (by omega),aG,<-c3,B8];rfl
    rw[w2]
   refine⟨_,rP _ ls ⟨by omega,by omega,by omega⟩ mi,?_,by rw[zd];exact Yo,by rw[zd];exact lu,by rw[zd]⟩;rw[zd,Pf,e,m1,m3,aG,a3];exact GC.some pb (by omega) a1 eT
  ·rw[ja (by omega)]at XK Pb;have eT:o.box (ag l 1)=0:=Decidable.byContradiction fun hx=>by
    have:=(h.core.box _ iQ (by rw[bu];exact t1)).2 hx;omega
   have zd:b1.cz ⟨q.locals,Rb⟩ l={b1 with cs:=b1.cs.set (24+(ag l 0).1) (true,0)}:=by
    rw[yo b1 ak];unfold Br.move;rw[ja (by rw[Pb];simp),XK]
   refine⟨_,rP _ ls ⟨by omega,by omega,by omega⟩ mi,?_,by rw[zd];exact Yo,by rw[zd];exact lu,by rw[zd]⟩;rw[zd,Pf,e,m1,m3,aG,a3,eT];exact GC.none pb (by omega) a1
end
end El
end Go.Proofs.YtmlgajhhnojdjaaGreatDoor

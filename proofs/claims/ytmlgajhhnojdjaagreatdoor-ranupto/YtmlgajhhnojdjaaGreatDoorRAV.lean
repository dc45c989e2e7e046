import Derived.Test.YtmlgajhhnojdjaaGreatDoorRAU
namespace Go.Proofs.YtmlgajhhnojdjaaGreatDoor
namespace FlwY
open Go Sq Aux PrjS FlwA FlwB FlwC FlwD FlwE FlwF FlwG FlwH FlwI FlwJ FlwK FlwM FlwO FlwP FlwQ FlwS FlwT FlwU FlwV FlwW FlwX
def Full (s:List Nat):Prop:=∀k,k<24->¬s.getD k 0=0
theorem Gu {s:List Nat}(h:Full s)(i:Nat){v:Nat}(hv:¬v=0):Full (s.set i v):=fun k hk=>by
 rw[dA];split
 ·exact hv
 ·exact h k hk
theorem qO {v:Nat}(hv:¬v=0):∀(ps:List (Nat×Nat)) {s:List Nat},Full s->Full (gS v ps s)
 |[],_,h=>h
 |x::ps,_,h=>qO hv ps (Gu h (ah x) hv)
theorem r8:∀(ps:List (Nat×Nat)) {s:List Nat},Full s->Full (dC ps s)
 |[],_,h=>h
 |x::ps,s,h=>r8 ps (s:=s.set (ah x) (if x.2=3 then 8 else 1)) (Gu h (ah x) (by split<;>decide))
theorem J7 (q:QP)(l:ab){s:List Nat}(h:Full s):Full (cG q l s):=by
 unfold cG;split
 ·exact r8 _ h
 ·split
  ·exact r8 _ h
  ·exact h
def Qn (l:ab):Prop:=∀x∈l.places,x.1<12
theorem xL (q:QP){l:ab}(hl:Qn l){s:List Nat}(h:Full s):Full (bm q l s):=by
 have h1:=J7 q l h;unfold bm;split
 ·exact qO (by decide) _ h1
 ·split
  ·refine qO ?_ _ h1;unfold dn;split
   ·apply h
    have:(l.places.getD 1 (0,0)).1<12:=by
     by_cases hp:1<l.places.length
     ·exact hl _ (cY hp)
     ·rw[jA,jG (by omega)];decide
    unfold ah;split<;>omega
   ·decide
  ·split
   ·exact qO (by decide) _ h1
   ·split
    ·exact r8 _ h1
    ·exact h1
theorem oL (l:ab)(i:Nat){s:List Nat}(h:Full s):Full (cv l i s):=by
 unfold cv;split
 ·exact qO (by split<;>decide) _ h
 ·exact h
theorem Gv (l:ab):∀(ns:List Nat) (i:Nat) {s:List Nat},Full s->Full (T9 l ns i s)
 |[],_,_,h=>h
 |_::ns,i,_,h=>Gv l ns (i+1) (oL l i h)
theorem AO (l:ab):∀(ns:List Nat) (i:Nat) {s:List Nat},Full s->∀x∈kR l ns i s,Full x.2
 |[],_,_,_,x,hx=>by cases hx
 |n::ns,i,s,h,x,hx=>by
  rcases jP.mp hx with rfl|hx
  ·exact oL l i h
  ·exact AO l ns (i+1) (oL l i h) x hx
theorem tg (q:QP):∀(ls:List ab) {s:List Nat},(∀l∈ls,Qn l)->Full s->∀x∈eo q ls s,Full x.2
 |[],_,_,_,x,hx=>by cases hx
 |l::ls,s,hl,h,x,hx=>by
  have hp:=xL q (hl l (jM ..)) h;rcases List.mem_append.mp hx with hx|hx
  ·exact AO l l.next 0 hp x hx
  ·exact tg q ls (fun m hm=>hl m (jN _ hm)) (Gv l _ _ hp) x hx
def Qe (N:Nat)(E:List (List Nat)):Prop:=∀b,b<N->E.getD b []=ar\/Full (E.getD b [])
theorem N4 {s t:List Nat}(hs:eI s)(ht:Full t):Full (fD s t):=fun k hk=>by
 rw[kt hs.len,jb hk];intro e;exact ht k hk (Nat.or_eq_zero_iff.mp e).2
theorem tf (N:Nat):∀(M:List (Nat×List Nat)) (E:List (List Nat)) (O:Nat->Bool),Fy E->E.length=N->(∀x∈M,x.1<N/\eI x.2)->(∀x∈M,Full x.2)->Qe N E->Qe N (leads M (E,O)).1
 |[],_,_,_,_,_,_,h=>h
 |x::M,E,O,hE,hl,hM,hF,h=>by
  obtain⟨zo,Ww⟩:=hM x (jM ..);have RU:x.1<E.length:=by omega
  have e:leads (x::M) (E,O)=leads M (eP E x.1 x.2,gY E O x.1 x.2):=rfl;rw[e];refine tf N M _ _ (A9 hE RU Ww) (by rw[x5];exact hl) (fun y hy=>hM y (jN _ hy)) (fun y hy=>hF y (jN _ hy)) fun b hb=> ?_
  rw[oT E x.1 x.2 RU];split
  ·exact .inr (N4 (hE.at RU) (hF x (jM ..)))
  ·exact h b hb
theorem pC:Full aV:=fun k hk=>by
 unfold aV;rw[jA,jO,jb hk];decide
theorem P4 {k:Nat}:ar.getD k 0=0:=by
 unfold ar;rw[jA,jO];split<;>rfl
theorem vy {s:List Nat}(h:Full s):¬s=ar:=fun e=>h 0 (by decide) (by rw[e];exact P4)
structure Qi (q:QP)(E:List (List Nat))(O:Nat->Bool):Prop where
 inv:Inv q E O
 full:Qe q.blocks.length E
theorem KZ (q:QP)(h0:0<q.blocks.length):Qi q (eP (List.replicate q.blocks.length ar) 0 aV) (gY (List.replicate q.blocks.length ar) (fun _=>false) 0 aV):=by
 refine⟨Ow q h0,?_⟩;have cf:Fy (List.replicate q.blocks.length ar):=fun s hs=>by rw[List.eq_of_mem_replicate hs];exact⟨by decide,pj⟩
 exact tf q.blocks.length [(0,aV)] _ (fun _=>false) cf (by simp) (fun x hx=>by rw[jI.mp hx];exact⟨h0,p8⟩) (fun x hx=>by rw[jI.mp hx];exact pC)
  fun b hb=> .inl (by simp[List.getD_eq_getElem?_getD,hb])
theorem Ov (q:QP)(hq:Jy q.blocks.length q)(ie:q.locals.length<=12)(E:List (List Nat))(O:Nat->Bool)(b:Nat)(hb:b<q.blocks.length)(hO:O b=true)(h:Qi q E O):
  Qi q (gJ q E (cC O b false) b).2.1 (gJ q E (cC O b false) b).2.2:=by
 have mQ:=fun b (hb:b<q.blocks.length)=>An hq hb
 refine⟨RY q mQ E O b hb hO h.inv,?_⟩;have hs:=h.inv.ok.at (i:=b) (by rw[h.inv.len];exact hb);have e:(gJ q E (cC O b false) b).2=leads (eo q (q.blocks.getD b []) (E.getD b [])) (E,cC O b false):=ti q _ _;have hf:Full (E.getD b []):=by
  rcases h.full b hb with h1|h1
  ·exact absurd h1 (h.inv.live b hb hO)
  ·exact h1
 have gM:∀l∈q.blocks.getD b [],Qn l:=fun l hl x hx=>by
  have hm:q.blocks.getD b []∈q.blocks:=by rw[jA,jB hb];exact jL hb
  have:=((hq.lines _ hm l hl).places x hx).1;omega
 have:=tf q.blocks.length (eo q (q.blocks.getD b []) (E.getD b [])) E (cC O b false) h.inv.ok h.inv.len (rn q q.blocks.length _ (mQ b hb) hs) (tg q _ gM hf) h.full;rw[<-e]at this;exact this
theorem mV (x:B):(45∈x↔(bitsOf x).testBit 0=true)/\(119∈x↔(bitsOf x).testBit 1=true)/\(110∈x↔(bitsOf x).testBit 2=true)/\(104∈x↔(bitsOf x).testBit 3=true):=by
 unfold bitsOf;by_cases h1:(45:UInt8)∈x<;>by_cases h2:(119:UInt8)∈x<;>by_cases h3:(110:UInt8)∈x<;>by_cases h4:(104:UInt8)∈x<;>simp only[h1,h2,h3,h4,if_true,if_false]<;>decide
theorem zQ {a b:Nat}(h:yY a b)(i:Nat)(ha:a.testBit i=true):b.testBit i=true:=by
 have:(b|||a).testBit i=true:=by rw[Nat.testBit_or,ha,Bool.or_true]
 unfold yY at h;rwa [h]at this
theorem OV {x y:B}(hx:dT x)(h:yY (bitsOf x) (bitsOf y)){c:UInt8}(hc:c∈x):c∈y:=by
 have:=hx.qi c hc;simp only[eE,List.mem_cons,List.not_mem_nil,or_false]at this;rcases this with rfl|rfl|rfl|rfl
 ·exact(mV y).1.mpr (zQ h 0 ((mV x).1.mp hc))
 ·exact(mV y).2.2.1.mpr (zQ h 2 ((mV x).2.2.1.mp hc))
 ·exact(mV y).2.1.mpr (zQ h 1 ((mV x).2.1.mp hc))
 ·exact(mV y).2.2.2.mpr (zQ h 3 ((mV x).2.2.2.mp hc))
theorem OH {x y:B}(h:∀c,c∈x->c∈y):yY (bitsOf x) (bitsOf y):=by
 have:=Ul (a:=y) (b:=x) (c:=y) fun c=>⟨.inl,fun e=>e.elim id (h c)⟩
 exact this.symm
theorem yn {u v:List Nat}{s t:WS}(hs:s.dT)(hu:ss u s)(hv:ss v t)(h:ld u v):Sub s t:=fun k c hc=>by
 by_cases hk:k<24
 ·have:=h k hk;have e1:u.getD k 0=bitsOf (s.at k):=hu k hk;have e2:v.getD k 0=bitsOf (t.at k):=hv k hk;rw[e1,e2]at this;exact OV (hs.fe k) this hc
 ·exfalso;unfold WS.at at hc;rw[jA,jG (by rw[hs.len];omega)]at hc;cases hc
theorem A8 {u v:List Nat}{s t:WS}(hu:ss u s)(hv:ss v t)(h:Sub s t):ld u v:=fun k hk=>by
 have e1:u.getD k 0=bitsOf (s.at k):=hu k hk;have e2:v.getD k 0=bitsOf (t.at k):=hv k hk;rw[e1,e2];exact OH (h k)
section
variable {text:B} {p:RP} {q:QP}
theorem Ix (h:fj text false p q){i:Nat}(hb:p.body i){k:Nat}(hk:(behind (word (p.line i) 0) p.raw).1.getD k 0=78){s:List Nat}{t:WS}(hs:s.length=24)(ht:t.ak.length=24)(hr:ss s t):ss (tz p i k s) (p.eF (p.line i) t k):=by
 unfold tz;by_cases hm:word (p.line i) 0=bT
 ·rw[jb hm];obtain⟨h1,h2⟩:=h.ok.Pc hb hm ht hr;have hf:(behind (word (p.line i) 0) p.raw).1=[111,78,78]:=by rw[hm];rfl
  rw[hf,AP (by decide)]at hk;have hw:=(zD h hb).w 0;rw[hw];rcases hk with rfl|rfl
  ·rw[jb rfl];exact E3 (s8 4 [_] (Ag.self hs)) h1
  ·rw[ja (by decide)];exact E3 (s8 2 [_] (Ag.self hs)) h2
 ·rw[ja hm,Pd hm];exact hr
def B5 (N:Nat)(E:List (List Nat))(b:Nat):WS:=if b<N then⟨!(E.getD b []==ar),(E.getD b []).map fJ⟩else aI
theorem Fw {N:Nat}{E:List (List Nat)}{b:Nat}(hb:b<N):B5 N E b=⟨!(E.getD b []==ar),(E.getD b []).map fJ⟩:=by rw[B5,jb hb]
theorem Bd {s:List Nat}(hs:eI s)(v:Bool){k:Nat}(hk:k<24):(⟨v,s.map fJ⟩:WS).at k=fJ (s.getD k 0):=by
 unfold WS.at;rw[jA,jJ,jA,jB (by rw[hs.len];exact hk)];rfl
theorem HZ {s:List Nat}(hs:eI s)(v:Bool):ss s ⟨v,s.map fJ⟩:=fun k hk=>by
 rw[Bd hs v hk,D7 _ (hs.lt k)]
theorem HH {s:List Nat}(hs:eI s)(v:Bool):(⟨v,s.map fJ⟩:WS).dT:=by
 refine⟨by simpa using hs.len,fun k=> ?_⟩;by_cases hk:k<24
 ·rw[Bd hs v hk];exact Gh _ (hs.lt k)
 ·unfold WS.at;rw[jA,jG (by simp[hs.len];omega)];exact Eh
theorem xx {E:Nat->WS}(hE:∀b,(E b).dT):∀i,(p.along E i).dT
 |0=>tL
 |i+1=>by
  rw[RP.along];split
  ·exact hE _
  ·exact p.kV (xx hE i) _
theorem BI:ss aV j0:=fun k hk=>by
 have h1:aV.getD k 0=1:=by unfold aV;rw[jA,jO,jb hk];rfl
 show aV.getD k 0=_
 rw[h1];exact PA k hk
structure lB (text:B)(p:RP)(q:QP)(E:List (List Nat)):Prop where
 both:fj text false p q
 inv:Qi q E (fun _=>false)
 pos:0<q.blocks.length
theorem lB.ok {E:List (List Nat)}(h:lB text p q E){b:Nat}(hb:b<q.blocks.length):eI (E.getD b []):=h.inv.inv.ok.at (by rw[h.inv.inv.len];exact hb)
theorem lB.fe {E:List (List Nat)}(h:lB text p q E)(b:Nat):(B5 q.blocks.length E b).dT:=by
 unfold B5;split
 ·rename_i hb;exact HH (h.ok hb) _
 ·exact tL
theorem lB.rel {E:List (List Nat)}(h:lB text p q E){b:Nat}(hb:b<q.blocks.length):ss (E.getD b []) (B5 q.blocks.length E b):=by
 rw[Fw hb];exact HZ (h.ok hb) _
theorem lB.known {E:List (List Nat)}{b:Nat}(hb:b<q.blocks.length):(B5 q.blocks.length E b).known=true↔¬E.getD b []=ar:=by
 rw[Fw hb];simp
theorem lB.along {E:List (List Nat)}(h:lB text p q E){i:Nat}(hb:p.body i):ss (iX p q (fun b=>E.getD b []) i) (p.along (B5 q.blocks.length E) i)/\eI (iX p q (fun b=>E.getD b []) i):=by
 have hl:=(D8 h.both hb).2;exact⟨xy h.both (U:=fun b=>E.getD b []) (EW:=B5 q.blocks.length E) (fun b=>(h.fe b).len) i hb (h.ok hl) (h.rel hl),tY h.both (U:=fun b=>E.getD b []) i hb (h.ok hl)⟩
theorem ID (h:fj text false p q){i:Nat}(hb:p.body i){s:List Nat}{t:WS}(hs:eI s)(ht:t.ak.length=24)(hr:ss s t):ss (bm q (p.aH i) s) (p.step (p.line i) t).1:=
 E3 (My (zE h) (zD h hb) hs.len) (h.ok.M9 hb ht hr)
theorem lB.closed {E:List (List Nat)}(h:lB text p q E):mS p (B5 q.blocks.length E):=by
 have H:=h.both;refine⟨fun b=>(h.fe b).len,?_,fun i hb zL k hk=> ?_⟩
 ·constructor
  ·rw[lB.known h.pos];exact cR p8 h.inv.inv.start L5
  ·exact yn rB BI (h.rel h.pos) h.inv.inv.start
 ·obtain⟨hc,hl⟩:=D8 H hb;rw[lB.known hl]at zL;obtain⟨hr,hs⟩:=h.along hb;have hm:=(Iz H (fun b=>E.getD b []) (p.aJ i) (tgt p i k,tz p i k (bm q (p.aH i) (iX p q (fun b=>E.getD b []) i)))).mpr ⟨i,k,hb,hc,hk,rfl⟩;have hle:=h.inv.inv.step (p.aJ i) hl rfl zL _ hm;have cf:=rn q q.blocks.length _ (An H.Yo hl) (h.ok hl) _ hm;have kN:Full (E.getD (p.aJ i) []):=by
   rcases h.inv.full _ hl with e|e
   ·exact absurd e zL
   ·exact e
  have gM:∀l∈q.blocks.getD (p.aJ i) [],Qn l:=fun l hx x hx'=>by
   have YS:q.blocks.getD (p.aJ i) []∈q.blocks:=by rw[jA,jB hl];exact jL hl
   have:=((H.Yo.lines _ YS l hx).places x hx').1;have:=H.aW;omega
  have hF:=tg q _ gM kN _ hm;have RS:(p.along (B5 q.blocks.length E) i).ak.length=24:=fG (fun b=>(h.fe b).len) i;have ir:=ID H hb hs RS hr;have hst24:=p.mM RS (p.line i);have ka:=Ix H hb hk (gm q (p.aH i) hs).len hst24 ir;constructor
  ·exact(lB.known cf.1).mpr (cR cf.2 hle (vy hF))
  ·exact yn (p.lN (p.kV (xx (h.fe) i) (p.line i)) (p.line i) k) ka (h.rel cf.1) hle
def qG (E':Nat->WS)(b:Nat):List Nat:=if(E' b).known=true then(E' b).ak.map bitsOf else ar
theorem Al {E':Nat->WS}(hl:∀b,(E' b).ak.length=24)(b:Nat):eI (qG E' b):=by
 unfold qG;split
 ·refine⟨by simpa using hl b,fun k=> ?_⟩;rw[jA,jJ];cases(E' b).ak[k]? with
  |none=>decide
  |some x=>exact Uk x
 ·exact⟨by decide,pj⟩
theorem rU {E':Nat->WS}(hl:∀b,(E' b).ak.length=24){b:Nat}(hk:(E' b).known=true):ss (qG E' b) (E' b):=fun k GK=>by
 show(qG E' b).getD k 0=_
 unfold qG;rw[jb hk];unfold WS.at;rw[jA,jJ,jA,jB (by rw[hl b];exact GK)];rfl
theorem F0 (H:fj text false p q){E':Nat->WS}(hE:mS p E'):rQ q (qG E'):=by
 refine⟨fun b _=>Al hE.len b,A8 BI (rU hE.len hE.start.1) hE.start.2,fun b hb ec x hx=> ?_⟩;have zL:(E' b).known=true:=by
  cases hk:(E' b).known
  ·exact absurd (by unfold qG;rw[hk];rfl) ec
  ·rfl
 obtain⟨i,k,sb,hc,hk,rfl⟩:=(Iz H (qG E') b x).mp hx;have Rm:p.aJ i=b:=by unfold RP.aJ;omega
 have Z6:(E' (p.aJ i)).known=true:=by rw[Rm];exact zL
 have hr:=xy H (U:=qG E') (EW:=E') hE.len i sb (Al hE.len _) (rU hE.len Z6);have hs:=tY H (U:=qG E') i sb (Al hE.len _);have RS:(p.along E' i).ak.length=24:=fG hE.len i;have ir:=ID H sb hs RS hr;have ka:=Ix H sb hk (gm q (p.aH i) hs).len (p.mM RS (p.line i)) ir;obtain⟨h1,h2⟩:=hE.step i sb Z6 k hk;exact A8 ka (rU hE.len h1) h2
theorem lB.least {E:List (List Nat)}(h:lB text p q E):DX p (B5 q.blocks.length E):=fun E' hE b hb hk=>by
 rw[<-h.both.len]at hb;rw[lB.known hb]at hk;have hle:=h.inv.inv.least _ (F0 h.both hE) b hb;have zL:(E' b).known=true:=by
  cases zL:(E' b).known
  ·exfalso;refine cR (h.ok hb) hle hk ?_;unfold qG;rw[zL];rfl
  ·rfl
 exact⟨zL,yn (h.fe b) (h.rel hb) (rU hE.len zL) hle⟩
theorem lB.same {E:List (List Nat)}(h:lB text p q E){L:List WS}(hL:p.iT L):p.cW L p.lines.length 0=FlwX.asInt (aC (cV q E) q.blocks.length 0):=by
 rw[h.both.ok.JY hL h.closed h.least (wrong:=qg p q E) (fun i hb=> ?_),sG,NW h.both];obtain⟨hc,hl⟩:=D8 h.both hb;obtain⟨hr,hs⟩:=h.along hb;unfold qg;rw[NV (zE h.both) (zD h.both hb),h.both.ok.QX hb (xx h.fe i) hr,Fw hl]
end
end FlwY
namespace PrjV
open Go Go.RowKit Sq Aux PrjF PrjG PrjH PrjI PrjJ PrjK PrjL PrjM PrjN PrjO PrjP PrjQ PrjR PrjS PrjT PrjU
theorem ru {ws:List B}{x:Nat×List B}(h:eQ ws=some x):x.1<23/\x.2.length=(ag x.1).length/\x.2=ws.drop 1:=by
 obtain⟨h1,h2⟩:=tE h;rw[eQ,h2]at h;simp only at h;split at h
 ·rename_i hc;refine⟨oX h2,?_,by rw[h1]⟩;rw[h1];simp only[List.length_drop];rw[h2];exact hc.1
 ·cases h
theorem zc (raw:Bool):∀(LS:List (List B)) (o:fk) (i:Nat) (S:List (Nat×List B)) (o':fk),aG raw LS o i=(S,o',none)->S.length=LS.length/\∀j,j<LS.length->∃ws x,LS[j]?=some ws/\S[j]?=some x/\eQ ws=some x
 |[],o,i,S,o',h=>by
  simp only[aG,Prod.mk.injEq]at h;obtain⟨rfl,-⟩:=h;exact⟨rfl,fun j hj=>by simp at hj⟩
 |ws::r,o,i,S,o',h=>by
  rw[aG]at h;cases hs:eQ ws with
  |none=>rw[hs]at h;simp at h
  |some x=>
   rw[hs]at h;simp only at h;by_cases ha:(aQ raw o x.1).2=true
   ·rw[jb ha]at h;simp only[Prod.mk.injEq]at h;obtain⟨rfl,h2⟩:=h;obtain⟨i1,i2⟩:=zc raw r _ (i+1) _ o' (Prod.ext rfl h2);refine⟨by simp[i1],fun j hj=> ?_⟩;cases j with
    |zero=>exact⟨ws,x,rfl,rfl,hs⟩
    |succ j=>simpa using i2 j (by simpa using hj)
   ·rw[ja ha]at h;simp at h
theorem sS (raw:Bool):∀(LS:List (List B)) (o:fk) (i:Nat) (S:List (Nat×List B)) (o':fk),aG raw LS o i=(S,o',none)->∀j,j<S.length->2<=(S.getD j (0,[])).1->o.sec=1\/1<=countB (S.take j)
 |[],o,i,S,o',h,j,hj,_=>by
  simp only[aG,Prod.mk.injEq]at h;obtain⟨rfl,-⟩:=h;simp at hj
 |ws::r,o,i,S,o',h,j,hj,h2=>by
  rw[aG]at h;cases hs:eQ ws with
  |none=>rw[hs]at h;simp at h
  |some x=>
   rw[hs]at h;simp only at h;by_cases ha:(aQ raw o x.1).2=true
   ·rw[jb ha]at h;simp only[Prod.mk.injEq]at h;obtain⟨rfl,hr⟩:=h;have ax:∀(h2:2<=x.1),o.sec=1:=fun h2=>by
     rw[aQ]at ha;split at ha
     ·simp at ha
     ·rw[ja (by omega),ja (by omega)]at ha;split at ha
      ·simp at ha
      ·rename_i h1;simpa using h1
    cases j with
    |zero=>exact .inl (ax (by simpa using h2))
    |succ j=>
     have ih:=sS raw r _ (i+1) _ o' (Prod.ext rfl hr) j (by simpa using hj) (by simpa using h2);by_cases h1:x.1=1
     ·right;unfold countB;rw[List.take_succ_cons,List.filter_cons,jb (by simp[h1])];simp
     ·rcases ih with ih|ih
      ·left;by_cases h0:x.1=0
       ·rw[aQ]at ih;split at ih
        ·exact ih
        ·exact ih
       ·exact ax (by omega)
      ·right;unfold countB at ih⊢;rw[List.take_succ_cons,List.filter_cons];split
       ·simp
       ·exact ih
   ·rw[ja ha]at h;simp at h
theorem Tg {raw:Bool}{L:List B}{S:List (Nat×List B)}{o:fk}(h:aG raw (L.map (split 32)) ⟨0,0,0⟩ 0=(S,o,none))(hL:L.length<=4000)(hlen:∀j,(word L j).length<=1048576):zy S/\S.length=L.length:=by
 obtain⟨h1,h2⟩:=zc raw _ _ _ _ _ h;rw[jc]at h1;have key:∀j,j<S.length->∃ws,ws=split 32 (word L j)/\eQ ws=some (S.getD j (0,[])):=fun j hj=>by
  obtain⟨ws,x,e1,e2,e3⟩:=h2 j (by simp;omega);refine⟨ws,?_,by rw[jA,e2];exact e3⟩;have ou:j<L.length:=by omega
  rw[jJ,jB ou]at e1;simp only[Option.map_some,Option.some.injEq]at e1;rw[<-e1];simp[word,ou]
 refine⟨⟨by omega,fun j hj=> ?_,fun j hj=> ?_,fun j i=> ?_,fun j hj h2=> ?_⟩,h1⟩
 ·obtain⟨ws,-,hs⟩:=key j hj;exact(ru hs).1
 ·obtain⟨ws,-,hs⟩:=key j hj;exact(ru hs).2.1
 ·by_cases hj:j<S.length
  ·obtain⟨ws,e,hs⟩:=key j hj;rw[(ru hs).2.2,e];have:word ((split 32 (word L j)).drop 1) i=word (split 32 (word L j)) (i+1):=by simp[word]
   rw[this];exact jS (eN 32 _ _) (hlen j)
  ·rw[jA,jG (by omega)];simp[word]
 ·have:=sS raw _ _ _ _ _ h j hj h2;rcases this with h|h
  ·simp at h
  ·exact h
theorem og (nb:Nat):∀(S:List (Nat×List B)) (i m:Nat) (q0 q:QP),bc nb S i q0=(q,none)->(∀b∈q0.blocks,b.length<=m)->q.locals.length<=q0.locals.length+S.length/\q.blocks.length<=q0.blocks.length+S.length/\∀b∈q.blocks,b.length<=m+S.length
 |[],i,m,q0,q,h,hm=>by
  simp only[bc,Prod.mk.injEq,and_true]at h;subst h;exact⟨jC _,jC _,hm⟩
 |x::r,i,m,q0,q,h,hm=>by
  rw[bc]at h;by_cases e0:x.1=0
  ·rw[jb e0]at h;split at h
   ·cases h
   ·obtain⟨i1,i2,i3⟩:=og nb r (i+1) m _ q h hm;simp only[QP.addLocal,List.length_append,List.length_singleton]at i1 i2;exact⟨by simp;omega,by simp;omega,fun b hb=>by have:=i3 b hb;simp;omega⟩
  ·rw[ja e0]at h;by_cases e1:x.1=1
   ·rw[jb e1]at h;obtain⟨i1,i2,i3⟩:=og nb r (i+1) m _ q h (fun b hb=>by
     simp only[QP.addBlock,List.mem_append,List.mem_singleton]at hb;rcases hb with hb|rfl
     ·exact hm b hb
     ·simp)
    simp only[QP.addBlock,List.length_append,List.length_singleton]at i1 i2;exact⟨by simp;omega,by simp;omega,fun b hb=>by have:=i3 b hb;simp;omega⟩
   ·rw[ja e1]at h;cases hl:ez q0.locals nb x with
    |none=>rw[hl]at h;cases h
    |some l=>
     rw[hl]at h;obtain⟨i1,i2,i3⟩:=og nb r (i+1) (m+1) _ q h (fun b hb=>by
      simp only[QP.addLine,List.mem_append,List.mem_singleton]at hb;rcases hb with hb|rfl
      ·exact Nat.le_succ_of_le (hm b (List.dropLast_subset _ hb))
      ·rw[jV,List.length_singleton,List.getLastD_eq_getLast?];cases hq:q0.blocks.getLast? with
       |none=>simp
       |some b'=>have:=hm b' (List.mem_of_getLast? hq);simp;omega)
     simp only[QP.addLine,List.length_append,List.length_singleton,List.length_dropLast]at i1 i2;exact⟨by simp;omega,by simp;omega,fun b hb=>by have:=i3 b hb;simp;omega⟩
theorem ON (l:B)(w:World)(h:l.length<=1048576)(E:Env w):
  Calls Tryz.prog 116 #[.string (bs l),.string ⟨#[10]⟩] w fun e w'=>e=.returned (.slice (some ⟨w.heap.size,0,none⟩) (split 10 l).length (split 10 l).length)/\Below w.heap.size w w'/\w.heap.size<w'.heap.size/\∀j,j<(split 10 l).length->w'.cell? ⟨w.heap.size,j,none⟩=some (.string (bs (word (split 10 l) j))):=by
 obtain⟨m,hm⟩:=E.OZ;have hc:=Eb 10 l.length l (jC _);refine(Tryz.strings_Split (bs l) ⟨#[10]⟩ m w (by rw[dR];omega) hm (by decide)).mono ?_;rintro e w' ⟨rfl,rfl⟩;rw[hc];refine⟨rfl,(Below.refl _ _).alloc (jC _) _,by simp,fun j hj=> ?_⟩;rw[((pZ 10 (Lib.countB (bs l) ⟨#[10]⟩) l).2.2 (by omega))];have:(w.alloc (.cells (((split 10 l).map bs).map Value.string).toArray 9)).heap[w.heap.size]?=some (.cells (((split 10 l).map bs).map Value.string).toArray 9 (0,0)):=jD;rw[cell_of_heap this];simp[word,hj]
theorem F5 (l:B)(w:World):Calls Tryz.prog 114 #[.string (bs l),.string ⟨#[10]⟩] w fun e w'=>e=.returned (.int .i64 (((split 10 l).length-1:Nat):Int))/\w'=w:=by
 have:=Tryz.strings_Count_one (bs l) 10 w;have e:(Lib.countByte (bs l).data.toList 10:Nat)=(split 10 l).length-1:=by
  rw[oj];simp[Lib.countByte,bs]
 rw[e]at this;exact this
end PrjV
namespace PrjW
open Go Go.RowKit Sq Aux PrjF PrjG PrjH PrjI PrjJ PrjK PrjL PrjM PrjN PrjO PrjP PrjQ PrjR PrjS PrjT PrjU PrjV
structure Fz (z a:Nat)(w:World)(q:QP):Prop where
 at_:∃vl vb us vss,lE z a w q vl vb us vss
 ok:∃nb,nb<=4000/\Jy nb q
 locals:q.locals.length<=4000
 blocks:q.blocks.length<=4000
 lines:∀j,(q.blocks.getD j []).length<=4000
def dW (text:B)(raw:Bool)(w:World)(e:Ending)(w':World):Prop:=
 Below w.heap.size w w'/\∃v,e=.returned (.tuple #[v,.int .i64 ((bd text raw).2.1:Nat),.int .i64 ((bd text raw).2.2:Nat)])/\
  (((bd text raw).1=none/\v=.pointer none)\/∃q a z,(bd text raw).1=some q/\v=.pointer (some ⟨a,0,none⟩)/\w.heap.size<=z/\Fz z a w' q)
theorem dW.bad {text:B}{raw:Bool}{w w':World}{c k:Nat}(hb:Below w.heap.size w w')(h:bd text raw=(none,c,k)):dW text raw w (.returned (.tuple #[.pointer none,.int .i64 (c:Nat),.int .i64 (k:Nat)])) w':=
 ⟨hb,.pointer none,by rw[h],.inl ⟨by rw[h],rfl⟩⟩
theorem dW.ml {text:B}{raw:Bool}{w w':World}{q:QP}{a z:Nat}(hb:Below w.heap.size w w')(h:bd text raw=(some q,0,0))(hz:w.heap.size<=z)(hg:Fz z a w' q):dW text raw w (.returned (.tuple #[.pointer (some ⟨a,0,none⟩),.int .i64 0,.int .i64 0])) w':=
 ⟨hb,.pointer (some ⟨a,0,none⟩),by rw[h];rfl,.inr ⟨q,a,z,by rw[h],rfl,hz,hg⟩⟩
section
variable {text:B} {raw:Bool}
theorem ye (h:(split 10 text).length>(if raw then 4000 else 120)):bd text raw=(none,1,0):=by rw[bd,jb h]
theorem Pv (h:¬(split 10 text).length>(if raw then 4000 else 120)){k:Nat}(hs:(aG raw (aZ text) ⟨0,0,0⟩ 0).2.2=some k):bd text raw=(none,2,k):=by
 rw[bd,ja h,hs]
theorem LP (h:¬(split 10 text).length>(if raw then 4000 else 120)){S:List (Nat×List B)}{o:fk}(hs:aG raw (aZ text) ⟨0,0,0⟩ 0=(S,o,none))(ho:¬o.sec=2):bd text raw=(none,2,(split 10 text).length):=by
 rw[bd,ja h,hs];simp only;rw[jb ho]
theorem Py (h:¬(split 10 text).length>(if raw then 4000 else 120)){S:List (Nat×List B)}{o:fk}(hs:aG raw (aZ text) ⟨0,0,0⟩ 0=(S,o,none))(ho:o.sec=2){k:Nat}(hl:(bc (countB S) S 0 QP.empty).2=some k):bd text raw=(none,3,k):=by
 rw[bd,ja h,hs];simp only;rw[ja (by simp[ho]),hl]
theorem Pz (h:¬(split 10 text).length>(if raw then 4000 else 120)){S:List (Nat×List B)}{o:fk}(hs:aG raw (aZ text) ⟨0,0,0⟩ 0=(S,o,none))(ho:o.sec=2){q:QP}(hl:bc (countB S) S 0 QP.empty=(q,none)){k:Nat}(hm:q.misfit=some k):bd text raw=(none,4,k):=by
 rw[bd,ja h,hs];simp only;rw[ja (by simp[ho]),hl];simp only;rw[hm]
theorem Pw (h:¬(split 10 text).length>(if raw then 4000 else 120)){S:List (Nat×List B)}{o:fk}(hs:aG raw (aZ text) ⟨0,0,0⟩ 0=(S,o,none))(ho:o.sec=2){q:QP}(hl:bc (countB S) S 0 QP.empty=(q,none))(hm:q.misfit=none):bd text raw=(some q,0,0):=by
 rw[bd,ja h,hs];simp only;rw[ja (by simp[ho]),hl];simp only;rw[hm]
end
theorem Fz.make {z a nb:Nat}{w:World}{S:List (Nat×List B)}{q:QP}(hn:nb=countB S)(hS:zy S)(hl:bc nb S 0 QP.empty=(q,none)){vl vb:Value}{us:List Value}{vss:List (List (Value×Value))}(hp:lE z a w q vl vb us vss):Fz z a w q:=by
 have h1:=og nb S 0 0 QP.empty q hl (fun b hb=>by simp[QP.empty]at hb);have h2:=oU nb S 0 QP.empty q hl (fun x hx=>by
  obtain⟨j,hj,rfl⟩:=List.getElem_of_mem hx;have:=hS.op j hj;simpa [List.getD_eq_getElem?_getD,hj]using this) ⟨fun x hx=>by simp[QP.empty]at hx,fun b hb=>by simp[QP.empty]at hb⟩
 have xR:=hS.fe;simp only[QP.empty,List.length_nil,Nat.zero_add]at h1;refine⟨⟨vl,vb,us,vss,hp⟩,⟨nb,by have:=countB_le S;omega,h2⟩,by omega,by omega,fun j=> ?_⟩;by_cases hj:j<q.blocks.length
 ·have:=h1.2.2 (q.blocks.getD j []) (by simp[hj]);omega
 ·rw[jA,jG (by omega)];simp
theorem L4 {raw:Bool}{L:List B}{w w':World}{e:Ending}(h:dX raw L w e w'):∃v7 v8 v9,e=.returned (.tuple #[v7,v8,v9])/\dX raw L w (.returned (.tuple #[v7,v8,v9])) w':=by
 have h':=h;unfold dX at h;obtain⟨-,h⟩:=h;split at h
 ·subst h;exact⟨_,_,_,rfl,h'⟩
 ·obtain⟨v,vs,rfl,-⟩:=h;exact⟨_,_,_,rfl,h'⟩
theorem I0 {raw:Bool}{L:List B}{w w':World}{v7 v8 v9:Value}(h:dX raw L w (.returned (.tuple #[v7,v8,v9])) w'):Below w.heap.size w w'/\((∃k:Nat,(aG raw (L.map (split 32)) ⟨0,0,0⟩ 0).2.2=some k/\v7=.slice none 0 0/\v8=.int .i64 (k:Nat)/\v9=.bool false)\/
  ∃S o vs,aG raw (L.map (split 32)) ⟨0,0,0⟩ 0=(S,o,none)/\v8=.int .i64 (L.length:Nat)/\v9=.bool (decide (o.sec=2))/\cS w.heap.size w' v7 S vs):=by
 obtain⟨hb,h⟩:=h;refine⟨hb,?_⟩;generalize aG raw (L.map (split 32)) ⟨0,0,0⟩ 0=R at h⊢;obtain⟨S,o,x⟩:=R;cases x with
 |some k=>
  simp only[Ending.returned.injEq,Value.tuple.injEq,Array.mk.injEq,List.cons.injEq,and_true]at h;exact .inl ⟨k,rfl,h.1,h.2.1,h.2.2⟩
 |none=>
  obtain⟨v,vs,e,hs⟩:=h;simp only[Ending.returned.injEq,Value.tuple.injEq,Array.mk.injEq,List.cons.injEq,and_true]at e;obtain⟨rfl,h2,h3⟩:=e;exact .inr ⟨S,o,vs,rfl,h2,h3,hs⟩
theorem OS {nb:Nat}{S:List (Nat×List B)}{w w':World}{e:Ending}(h:iQ nb S w e w'):Below w.heap.size w w'/\((∃k:Nat,(bc nb S 0 QP.empty).2=some k/\e=.returned (.tuple #[.pointer none,.int .i64 (k:Nat),.bool false]))\/∃q a vl vb us vss,bc nb S 0 QP.empty=(q,none)/\e=.returned (.tuple #[.pointer (some ⟨a,0,none⟩),.int .i64 0,.bool true])/\lE w.heap.size a w' q vl vb us vss):=by
 obtain⟨hb,h⟩:=h;refine⟨hb,?_⟩;generalize bc nb S 0 QP.empty=R at h⊢;obtain⟨q,x⟩:=R;cases x with
 |some k=>exact .inl ⟨k,rfl,h⟩
 |none=>
  obtain⟨a,vl,vb,us,vss,h1,h2⟩:=h;exact .inr ⟨q,a,vl,vb,us,vss,rfl,h1,h2⟩
theorem OW {q:QP}{w w':World}{e:Ending}(h:kJ q w e w'):Below w.heap.size w w'/\((∃k:Nat,q.misfit=some k/\e=.returned (.tuple #[.int .i64 (k:Nat),.bool true]))\/(q.misfit=none/\e=.returned (.tuple #[.int .i64 0,.bool false]))):=by
 obtain⟨hb,h⟩:=h;refine⟨hb,?_⟩;cases hm:q.misfit with
 |some k=>rw[hm]at h;exact .inl ⟨k,rfl,h⟩
 |none=>rw[hm]at h;exact .inr ⟨rfl,h⟩
theorem H6 {z g cap:Nat}{S:List (Nat×List B)}{vs:List Value}(w:World)(h:cS z w (.slice (some ⟨g,0,none⟩) S.length cap) S vs)(hS:zy S)(hg:g<w.heap.size)(kM:S.length<=cap)(E:Env w):
  Calls Tryz.prog 117 #[.slice (some ⟨g,0,none⟩) S.length cap] w fun e w'=>Below w.heap.size w w'/\((∃k:Nat,(bc (countB S) S 0 QP.empty).2=some k/\e=.returned (.tuple #[.pointer none,.int .i64 (k:Nat),.bool false]))\/∃q a,bc (countB S) S 0 QP.empty=(q,none)/\e=.returned (.tuple #[.pointer (some ⟨a,0,none⟩),.int .i64 0,.bool true])/\Fz w.heap.size a w' q):=
 (Lp w h hS hg kM E).mono fun e w' hl=>by
  obtain⟨h1,h2|⟨q,a,vl,vb,us,vss,h3,h4,h5⟩⟩:=OS hl
  ·exact⟨h1,.inl h2⟩
  ·exact⟨h1,.inr ⟨q,a,h3,h4,Fz.make rfl hS h3 h5⟩⟩
theorem Ib {z a:Nat}{q:QP}(w:World)(h:Fz z a w q)(E:Env w):
  Calls Tryz.prog 118 #[.pointer (some ⟨a,0,none⟩)] w fun e w'=>Below w.heap.size w w'/\((∃k:Nat,q.misfit=some k/\e=.returned (.tuple #[.int .i64 (k:Nat),.bool true]))\/(q.misfit=none/\e=.returned (.tuple #[.int .i64 0,.bool false]))):=by
 obtain⟨⟨vl,vb,us,vss,hP⟩,⟨nb,-,hq⟩,h1,h2,h3⟩:=h;exact(Lt q nb z a vl vb us vss w hP h1 hq h2 h3 E).mono fun e w' hm=>OW hm
theorem Fz.below {z a:Nat}{w w':World}{q:QP}(h:Fz z a w q)(hb:Below w.heap.size w w'):Fz z a w' q:=by
 obtain⟨⟨vl,vb,us,vss,hP⟩,h0,h1,h2,h3⟩:=h;exact⟨⟨vl,vb,us,vss,hP.below hb⟩,h0,h1,h2,h3⟩
set_option maxRecDepth 20000 in
set_option maxHeartbeats 2000000 in
theorem Pp (text:B)(raw:Bool)(w:World)(h:text.length<=1048576)(E:Env w):
  Calls Tryz.prog 72 #[.agg #[.bool raw,.int .i64 (if raw then 4000 else 120:Nat),.int .i64 (if raw then 2000 else 20:Nat)],.string (bs text)] w (dW text raw w):=by
 have KSp:=fun w' (hL:(split 10 text).length<=4000) (g cap:Nat) (hc:(split 10 text).length<=cap) (hg:g<w'.heap.size) (aD:∀j,j<(split 10 text).length->w'.cell? ⟨g,j,none⟩=some (.string (bs (word (split 10 text) j)))) (E':Env w')=>
  yi raw (if raw then 4000 else 120) g cap (split 10 text) w' hL hc hg aD (fun j=>jS (eN 10 text j) h) E'
 have hone:=fw 10 text;have KC:=fun w'=>F5 text w'
 by_cases dj:(split 10 text).length>(if raw then 4000 else 120)
 ·have hx:=ye dj;generalize (if raw then 4000 else 120:Nat)=ln at*;generalize (if raw then 2000 else 20:Nat)=mb at*;have Xw:(ln:Int)<=(((split 10 text).length-1:Nat):Int):=by omega
  generalize (split 10 text).length-1=ed at*;have aY:Below w.heap.size w (w.alloc (.cells #[.bool raw,.int .i64 (ln:Nat),.int .i64 (mb:Nat)] 130)):=(Below.refl _ _).alloc (jC _) _;go_enter Tryz.func72,Tryz.ntmps72
  go_wp2
  go_quiet ((go_at_call 114;exact Calls.quiet_of_same (KC _)))
  go_wp2
  go_ret3
  exact dW.bad (below_drewN aY _) hx
 ·have hL:(split 10 text).length<=4000:=by cases raw<;>simp at dj<;>omega
  have R1:=fun k=>Pv (raw:=raw) (text:=text) dj (k:=k)
  have R2:=fun S o hs ho=>LP (raw:=raw) (text:=text) dj (S:=S) (o:=o) hs ho
  have R3:=fun S o hs ho k hl=>Py (raw:=raw) (text:=text) dj (S:=S) (o:=o) hs ho (k:=k) hl
  have R4:=fun S o hs ho q hl k hm=>Pz (raw:=raw) (text:=text) dj (S:=S) (o:=o) hs ho (q:=q) hl (k:=k) hm
  have R5:=fun S o hs ho q hl hm=>Pw (raw:=raw) (text:=text) dj (S:=S) (o:=o) hs ho (q:=q) hl hm
  have HR:Hid (_/\_/\_/\_/\_):=⟨R1,R2,R3,R4,R5⟩;clear R1 R2 R3 R4 R5;generalize (if raw then 4000 else 120:Nat)=ln at*;generalize (if raw then 2000 else 20:Nat)=mb at*;have Xw:¬(ln:Int)<=(((split 10 text).length-1:Nat):Int):=by omega
  have aY:Below w.heap.size w (w.alloc (.cells #[.bool raw,.int .i64 (ln:Nat),.int .i64 (mb:Nat)] 130)):=(Below.refl _ _).alloc (jC _) _;have HL1:Hid (_):=hone;obtain⟨ed,Xy⟩:∃ed,ed=(split 10 text).length-1:=⟨_,rfl⟩;rw[<-Xy]at KC Xw;clear Xy dj;go_enter Tryz.func72,Tryz.ntmps72
  go_wp2
  go_quiet ((go_at_call 114;exact Calls.quiet_of_same (KC _)))
  go_wp2
  have xP:=below_drewN aY nq;have d0:((w.alloc (.cells #[.bool raw,.int .i64 (ln:Nat),.int .i64 (mb:Nat)] 130)).drewN nq).heap[w.heap.size]?=some (.cells #[.bool raw,.int .i64 (ln:Nat),.int .i64 (mb:Nat)] 130 (0,0)):=jD;generalize ((w.alloc (.cells #[.bool raw,.int .i64 (ln:Nat),.int .i64 (mb:Nat)] 130)).drewN nq)=W at*;have Xs:Below w.heap.size w W.drew:=⟨xP.os,xP.tape,xP.output,xP.size,xP.block⟩;have KL:=ON text W.drew h (E.on Xs);have e0:W.cell? ⟨w.heap.size,0,none⟩=some (.bool raw):=by rw[cell_of_heap d0];rfl
  have e1:W.cell? ⟨w.heap.size,1,none⟩=some (.int .i64 (ln:Nat)):=by rw[cell_of_heap d0];rfl
  have e2:W.cell? ⟨w.heap.size,2,none⟩=some (.int .i64 (mb:Nat)):=by rw[cell_of_heap d0];rfl
  have hltW:=lt_of_heap d0;go_cut [7,8,9] (fun v7 v8 v9 wc=>∃w1,Below w.heap.size w w1/\dX raw (split 10 text) w1 (.returned (.tuple #[v7,v8,v9])) wc)
  case first=>
   go_region_with (first
    |(go_at_call 115;refine K1.mono ?_;rintro e w2 tO;obtain⟨v7,v8,v9,rfl,tO⟩:=L4 tO)
    |(go_at_call 116;refine KL.mono ?_;rintro e w1 ⟨rfl,aw,T0,kq⟩;have hd1:w1.heap[w.heap.size]?=_:=(aw.block w.heap.size hltW).trans d0;have c0:=(cell_of_heap hd1 0).trans (by rfl:_=some (Value.bool raw));have c1:=(cell_of_heap hd1 1).trans (by rfl:_=some (Value.int .i64 (ln:Nat)));have c2:=(cell_of_heap hd1 2).trans (by rfl:_=some (Value.int .i64 (mb:Nat)));have lv:Below w.heap.size w w1:=Xs.trans (aw.mono Xs.size);have K1:=KSp w1 hL W.heap.size (split 10 text).length (jC _) T0 kq (E.on lv)))
   all_goals go_wp2_with fail
   all_goals
    go_meet
    case rel=>exact⟨w1,lv,tO⟩
  case rest=>
   obtain⟨w1,lv,tO⟩:=hcut;obtain⟨bU,Rp⟩:=I0 tO;have mn:=lv.trans (bU.mono lv.size);obtain⟨R1,R2,R3,R4,R5⟩:=HR.out;clear HR KSp KC KL tO;rcases Rp with⟨k,hk,rfl,rfl,rfl⟩|⟨SS,o,vs,hs,rfl,rfl,Ka⟩
   ·have hx:=R1 k hk;clear R1 R2 R3 R4 R5 hk;go_wp2
    go_ret3
    exact dW.bad mn hx
   ·obtain⟨cf,hlen⟩:=Tg hs hL (fun j=>jS (eN 10 text j) h);by_cases ho:o.sec=2
    ·have hod:decide (o.sec=2)=true:=by simp[ho]
     rw[hod];obtain⟨g,cap,rfl,kM,hg⟩:=LZ Ka (by have:=HL1.out;omega);have KU:=H6 wc Ka cf hg kM (E.on mn);have Q3:=fun k hl=>R3 SS o hs ho k hl
     have Q4:=fun q hl k hm=>R4 SS o hs ho q hl k hm
     have Q5:=fun q hl hm=>R5 SS o hs ho q hl hm
     have HQ:Hid (_/\_/\_):=⟨Q3,Q4,Q5⟩;clear R1 R2 R3 R4 R5 Q3 Q4 Q5 hs;have KM:=fun(q:QP) (a:Nat) (w3:World) (lJ:Below wc.heap.size wc w3) (hG:Fz wc.heap.size a w3 q)=>Ib w3 hG ((E.on mn).on lJ)
     generalize (bc (countB SS) SS 0 QP.empty)=LK at*;clear Ka cf hone hL hlen ho hod e0 e1 e2 d0 Xw;go_wp2_with (first
      |(go_at_call 117;refine KU.mono ?_;rintro e w3 ⟨lJ,⟨k,hk,rfl⟩|⟨q,a,hq,rfl,hG⟩⟩)
      |(go_at_call 118;refine(KM q a w3 lJ hG).mono ?_;rintro e w4 ⟨Oa,⟨k,hk,rfl⟩|⟨hm,rfl⟩⟩))
     ·go_ret3
      exact dW.bad (mn.trans (lJ.mono mn.size)) (HQ.out.1 k hk)
     ·go_ret3
      have Jl:=mn.trans (lJ.mono mn.size);exact dW.bad (Jl.trans (Oa.mono Jl.size)) (HQ.out.2.1 q hq k hk)
     ·go_ret3
      have Jl:=mn.trans (lJ.mono mn.size);exact dW.ml (Jl.trans (Oa.mono Jl.size)) (HQ.out.2.2 q hq hm) mn.size (hG.below Oa)
    ·have hx:=R2 SS o hs ho;have hod:decide (o.sec=2)=false:=by simp[ho]
     rw[hod];clear R1 R2 R3 R4 R5 hs ho hod;go_wp2
     go_ret3
     exact dW.bad mn hx
end PrjW
end Go.Proofs.YtmlgajhhnojdjaaGreatDoor

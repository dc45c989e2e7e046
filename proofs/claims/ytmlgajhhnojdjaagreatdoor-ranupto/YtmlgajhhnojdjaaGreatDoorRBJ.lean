import Derived.Test.YtmlgajhhnojdjaaGreatDoorRBE
import Derived.Test.YtmlgajhhnojdjaaGreatDoorRBG
import Derived.Test.YtmlgajhhnojdjaaGreatDoorRBI
namespace Go.Proofs.YtmlgajhhnojdjaaGreatDoor
namespace FlwY
open Go Sq Aux PrjS FlwA FlwB FlwC FlwD FlwE FlwF FlwG FlwH FlwI FlwJ FlwK FlwM FlwO FlwP FlwQ FlwS FlwT FlwU FlwV FlwW FlwX
def Full (s:List Nat):Prop:=∀k,k<24->¬s.getD k 0=0
theorem Gt {s:List Nat}(h:Full s)(i:Nat){v:Nat}(hv:¬v=0):Full (s.set i v):=fun k hk=>by
 rw[dz];split
 ·exact hv
 ·exact h k hk
theorem qN {v:Nat}(hv:¬v=0):∀(ps:List (Nat×Nat)) {s:List Nat},Full s->Full (gR v ps s)
 |[],_,h=>h
 |x::ps,_,h=>qN hv ps (Gt h (ag x) hv)
theorem rY:∀(ps:List (Nat×Nat)) {s:List Nat},Full s->Full (dB ps s)
 |[],_,h=>h
 |x::ps,s,h=>rY ps (s:=s.set (ag x) (if x.2=3 then 8 else 1)) (Gt h (ag x) (by split<;>decide))
theorem J6 (q:QP)(l:aa){s:List Nat}(h:Full s):Full (cF q l s):=by
 unfold cF;split
 ·exact rY _ h
 ·split
  ·exact rY _ h
  ·exact h
def Qm (l:aa):Prop:=∀x∈l.places,x.1<12
theorem xK (q:QP){l:aa}(hl:Qm l){s:List Nat}(h:Full s):Full (bj q l s):=by
 have h1:=J6 q l h;unfold bj;split
 ·exact qN (by decide) _ h1
 ·split
  ·refine qN ?_ _ h1;unfold dm;split
   ·apply h
    have:(l.places.getD 1 (0,0)).1<12:=by
     by_cases hp:1<l.places.length
     ·exact hl _ (cX hp)
     ·rw[jA,jG (by omega)];decide
    unfold ag;split<;>omega
   ·decide
  ·split
   ·exact qN (by decide) _ h1
   ·split
    ·exact rY _ h1
    ·exact h1
theorem oK (l:aa)(i:Nat){s:List Nat}(h:Full s):Full (cu l i s):=by
 unfold cu;split
 ·exact qN (by split<;>decide) _ h
 ·exact h
theorem Gu (l:aa):∀(ns:List Nat) (i:Nat) {s:List Nat},Full s->Full (T8 l ns i s)
 |[],_,_,h=>h
 |_::ns,i,_,h=>Gu l ns (i+1) (oK l i h)
theorem AN (l:aa):∀(ns:List Nat) (i:Nat) {s:List Nat},Full s->∀x∈kQ l ns i s,Full x.2
 |[],_,_,_,x,hx=>by cases hx
 |n::ns,i,s,h,x,hx=>by
  rcases jP.mp hx with rfl|hx
  ·exact oK l i h
  ·exact AN l ns (i+1) (oK l i h) x hx
theorem tf (q:QP):∀(ls:List aa) {s:List Nat},(∀l∈ls,Qm l)->Full s->∀x∈ej q ls s,Full x.2
 |[],_,_,_,x,hx=>by cases hx
 |l::ls,s,hl,h,x,hx=>by
  have hp:=xK q (hl l (jM ..)) h;rcases List.mem_append.mp hx with hx|hx
  ·exact AN l l.next 0 hp x hx
  ·exact tf q ls (fun m hm=>hl m (jN _ hm)) (Gu l _ _ hp) x hx
def Qd (N:Nat)(E:List (List Nat)):Prop:=∀b,b<N->E.getD b []=aq\/Full (E.getD b [])
theorem N3 {s t:List Nat}(hs:eH s)(ht:Full t):Full (fC s t):=fun k hk=>by
 rw[ks hs.len,jb hk];intro e;exact ht k hk (Nat.or_eq_zero_iff.mp e).2
theorem td (N:Nat):∀(M:List (Nat×List Nat)) (E:List (List Nat)) (O:Nat->Bool),Fw E->E.length=N->(∀x∈M,x.1<N/\eH x.2)->(∀x∈M,Full x.2)->Qd N E->Qd N (leads M (E,O)).1
 |[],_,_,_,_,_,_,h=>h
 |x::M,E,O,hE,hl,hM,hF,h=>by
  obtain⟨zn,Wv⟩:=hM x (jM ..);have RT:x.1<E.length:=by omega
  have e:leads (x::M) (E,O)=leads M (eO E x.1 x.2,gX E O x.1 x.2):=rfl;rw[e];refine td N M _ _ (A8 hE RT Wv) (by rw[x4];exact hl) (fun y hy=>hM y (jN _ hy)) (fun y hy=>hF y (jN _ hy)) fun b hb=> ?_
  rw[oS E x.1 x.2 RT];split
  ·exact .inr (N3 (hE.at RT) (hF x (jM ..)))
  ·exact h b hb
theorem pB:Full aU:=fun k hk=>by
 unfold aU;rw[jA,jO,jb hk];decide
theorem P3 {k:Nat}:aq.getD k 0=0:=by
 unfold aq;rw[jA,jO];split<;>rfl
theorem vw {s:List Nat}(h:Full s):¬s=aq:=fun e=>h 0 (by decide) (by rw[e];exact P3)
structure Qh (q:QP)(E:List (List Nat))(O:Nat->Bool):Prop where
 inv:Inv q E O
 full:Qd q.blocks.length E
theorem KV (q:QP)(h0:0<q.blocks.length):Qh q (eO (List.replicate q.blocks.length aq) 0 aU) (gX (List.replicate q.blocks.length aq) (fun _=>false) 0 aU):=by
 refine⟨Ov q h0,?_⟩;have cd:Fw (List.replicate q.blocks.length aq):=fun s hs=>by rw[List.eq_of_mem_replicate hs];exact⟨by decide,ph⟩
 exact td q.blocks.length [(0,aU)] _ (fun _=>false) cd (by simp) (fun x hx=>by rw[jI.mp hx];exact⟨h0,pZ⟩) (fun x hx=>by rw[jI.mp hx];exact pB)
  fun b hb=> .inl (by simp[List.getD_eq_getElem?_getD,hb])
theorem Ou (q:QP)(hq:Jw q.blocks.length q)(ic:q.locals.length<=12)(E:List (List Nat))(O:Nat->Bool)(b:Nat)(hb:b<q.blocks.length)(hO:O b=true)(h:Qh q E O):
  Qh q (gI q E (cz O b false) b).2.1 (gI q E (cz O b false) b).2.2:=by
 have mP:=fun b (hb:b<q.blocks.length)=>Am hq hb
 refine⟨RX q mP E O b hb hO h.inv,?_⟩;have hs:=h.inv.ok.at (i:=b) (by rw[h.inv.len];exact hb);have e:(gI q E (cz O b false) b).2=leads (ej q (q.blocks.getD b []) (E.getD b [])) (E,cz O b false):=th q _ _;have hf:Full (E.getD b []):=by
  rcases h.full b hb with h1|h1
  ·exact absurd h1 (h.inv.live b hb hO)
  ·exact h1
 have gK:∀l∈q.blocks.getD b [],Qm l:=fun l hl x hx=>by
  have hm:q.blocks.getD b []∈q.blocks:=by rw[jA,jB hb];exact jL hb
  have:=((hq.lines _ hm l hl).places x hx).1;omega
 have:=td q.blocks.length (ej q (q.blocks.getD b []) (E.getD b [])) E (cz O b false) h.inv.ok h.inv.len (rm q q.blocks.length _ (mP b hb) hs) (tf q _ gK hf) h.full;rw[<-e]at this;exact this
theorem mU (x:B):(45∈x↔(bitsOf x).testBit 0=true)/\(119∈x↔(bitsOf x).testBit 1=true)/\(110∈x↔(bitsOf x).testBit 2=true)/\(104∈x↔(bitsOf x).testBit 3=true):=by
 unfold bitsOf;by_cases h1:(45:UInt8)∈x<;>by_cases h2:(119:UInt8)∈x<;>by_cases h3:(110:UInt8)∈x<;>by_cases h4:(104:UInt8)∈x<;>simp only[h1,h2,h3,h4,if_true,if_false]<;>decide
theorem zP {a b:Nat}(h:yX a b)(i:Nat)(ha:a.testBit i=true):b.testBit i=true:=by
 have:(b|||a).testBit i=true:=by rw[Nat.testBit_or,ha,Bool.or_true]
 unfold yX at h;rwa [h]at this
theorem OU {x y:B}(hx:dS x)(h:yX (bitsOf x) (bitsOf y)){c:UInt8}(hc:c∈x):c∈y:=by
 have:=hx.qh c hc;simp only[eD,List.mem_cons,List.not_mem_nil,or_false]at this;rcases this with rfl|rfl|rfl|rfl
 ·exact(mU y).1.mpr (zP h 0 ((mU x).1.mp hc))
 ·exact(mU y).2.2.1.mpr (zP h 2 ((mU x).2.2.1.mp hc))
 ·exact(mU y).2.1.mpr (zP h 1 ((mU x).2.1.mp hc))
 ·exact(mU y).2.2.2.mpr (zP h 3 ((mU x).2.2.2.mp hc))
theorem OG {x y:B}(h:∀c,c∈x->c∈y):yX (bitsOf x) (bitsOf y):=by
 have:=Uk (a:=y) (b:=x) (c:=y) fun c=>⟨.inl,fun e=>e.elim id (h c)⟩
 exact this.symm
theorem ym {u v:List Nat}{s t:WS}(hs:s.dS)(hu:sr u s)(hv:sr v t)(h:la u v):Sub s t:=fun k c hc=>by
 by_cases hk:k<24
 ·have:=h k hk;have e1:u.getD k 0=bitsOf (s.at k):=hu k hk;have e2:v.getD k 0=bitsOf (t.at k):=hv k hk;rw[e1,e2]at this;exact OU (hs.fc k) this hc
 ·exfalso;unfold WS.at at hc;rw[jA,jG (by rw[hs.len];omega)]at hc;cases hc
theorem A7 {u v:List Nat}{s t:WS}(hu:sr u s)(hv:sr v t)(h:Sub s t):la u v:=fun k hk=>by
 have e1:u.getD k 0=bitsOf (s.at k):=hu k hk;have e2:v.getD k 0=bitsOf (t.at k):=hv k hk;rw[e1,e2];exact OG (h k)
section
variable {text:B} {p:RP} {q:QP}
theorem Iw (h:fi text false p q){i:Nat}(hb:p.body i){k:Nat}(hk:(behind (word (p.line i) 0) p.raw).1.getD k 0=78){s:List Nat}{t:WS}(hs:s.length=24)(ht:t.aj.length=24)(hr:sr s t):sr (tx p i k s) (p.eE (p.line i) t k):=by
 unfold tx;by_cases hm:word (p.line i) 0=bS
 ·rw[jb hm];obtain⟨h1,h2⟩:=h.ok.Pb hb hm ht hr;have hf:(behind (word (p.line i) 0) p.raw).1=[111,78,78]:=by rw[hm];rfl
  rw[hf,AO (by decide)]at hk;have hw:=(zC h hb).w 0;rw[hw];rcases hk with rfl|rfl
  ·rw[jb rfl];exact E0 (s7 4 [_] (Ag.self hs)) h1
  ·rw[ja (by decide)];exact E0 (s7 2 [_] (Ag.self hs)) h2
 ·rw[ja hm,Pc hm];exact hr
def B4 (N:Nat)(E:List (List Nat))(b:Nat):WS:=if b<N then⟨!(E.getD b []==aq),(E.getD b []).map fI⟩else aH
theorem Fv {N:Nat}{E:List (List Nat)}{b:Nat}(hb:b<N):B4 N E b=⟨!(E.getD b []==aq),(E.getD b []).map fI⟩:=by rw[B4,jb hb]
theorem Bc {s:List Nat}(hs:eH s)(v:Bool){k:Nat}(hk:k<24):(⟨v,s.map fI⟩:WS).at k=fI (s.getD k 0):=by
 unfold WS.at;rw[jA,jJ,jA,jB (by rw[hs.len];exact hk)];rfl
theorem HH {s:List Nat}(hs:eH s)(v:Bool):sr s ⟨v,s.map fI⟩:=fun k hk=>by
 rw[Bc hs v hk,D6 _ (hs.lt k)]
theorem Hz {s:List Nat}(hs:eH s)(v:Bool):(⟨v,s.map fI⟩:WS).dS:=by
 refine⟨by simpa using hs.len,fun k=> ?_⟩;by_cases hk:k<24
 ·rw[Bc hs v hk];exact Gg _ (hs.lt k)
 ·unfold WS.at;rw[jA,jG (by simp[hs.len];omega)];exact Eg
theorem xw {E:Nat->WS}(hE:∀b,(E b).dS):∀i,(p.along E i).dS
 |0=>tK
 |i+1=>by
  rw[RP.along];split
  ·exact hE _
  ·exact p.kU (xw hE i) _
theorem BH:sr aU jz:=fun k hk=>by
 have h1:aU.getD k 0=1:=by unfold aU;rw[jA,jO,jb hk];rfl
 show aU.getD k 0=_
 rw[h1];exact Pz k hk
structure lA (text:B)(p:RP)(q:QP)(E:List (List Nat)):Prop where
 both:fi text false p q
 inv:Qh q E (fun _=>false)
 pos:0<q.blocks.length
theorem lA.ok {E:List (List Nat)}(h:lA text p q E){b:Nat}(hb:b<q.blocks.length):eH (E.getD b []):=h.inv.inv.ok.at (by rw[h.inv.inv.len];exact hb)
theorem lA.fc {E:List (List Nat)}(h:lA text p q E)(b:Nat):(B4 q.blocks.length E b).dS:=by
 unfold B4;split
 ·rename_i hb;exact Hz (h.ok hb) _
 ·exact tK
theorem lA.rel {E:List (List Nat)}(h:lA text p q E){b:Nat}(hb:b<q.blocks.length):sr (E.getD b []) (B4 q.blocks.length E b):=by
 rw[Fv hb];exact HH (h.ok hb) _
theorem lA.known {E:List (List Nat)}{b:Nat}(hb:b<q.blocks.length):(B4 q.blocks.length E b).known=true↔¬E.getD b []=aq:=by
 rw[Fv hb];simp
theorem lA.along {E:List (List Nat)}(h:lA text p q E){i:Nat}(hb:p.body i):sr (iW p q (fun b=>E.getD b []) i) (p.along (B4 q.blocks.length E) i)/\eH (iW p q (fun b=>E.getD b []) i):=by
 have hl:=(D7 h.both hb).2;exact⟨xx h.both (U:=fun b=>E.getD b []) (EW:=B4 q.blocks.length E) (fun b=>(h.fc b).len) i hb (h.ok hl) (h.rel hl),tX h.both (U:=fun b=>E.getD b []) i hb (h.ok hl)⟩
theorem IC (h:fi text false p q){i:Nat}(hb:p.body i){s:List Nat}{t:WS}(hs:eH s)(ht:t.aj.length=24)(hr:sr s t):sr (bj q (p.aG i) s) (p.step (p.line i) t).1:=
 E0 (Mx (zD h) (zC h hb) hs.len) (h.ok.M8 hb ht hr)
theorem lA.closed {E:List (List Nat)}(h:lA text p q E):mR p (B4 q.blocks.length E):=by
 have H:=h.both;refine⟨fun b=>(h.fc b).len,?_,fun i hb zK k hk=> ?_⟩
 ·constructor
  ·rw[lA.known h.pos];exact cQ pZ h.inv.inv.start L4
  ·exact ym rA BH (h.rel h.pos) h.inv.inv.start
 ·obtain⟨hc,hl⟩:=D7 H hb;rw[lA.known hl]at zK;obtain⟨hr,hs⟩:=h.along hb;have hm:=(Iy H (fun b=>E.getD b []) (p.aI i) (tgt p i k,tx p i k (bj q (p.aG i) (iW p q (fun b=>E.getD b []) i)))).mpr ⟨i,k,hb,hc,hk,rfl⟩;have hle:=h.inv.inv.step (p.aI i) hl rfl zK _ hm;have cd:=rm q q.blocks.length _ (Am H.Yn hl) (h.ok hl) _ hm;have kM:Full (E.getD (p.aI i) []):=by
   rcases h.inv.full _ hl with e|e
   ·exact absurd e zK
   ·exact e
  have gK:∀l∈q.blocks.getD (p.aI i) [],Qm l:=fun l hx x hx'=>by
   have YR:q.blocks.getD (p.aI i) []∈q.blocks:=by rw[jA,jB hl];exact jL hl
   have:=((H.Yn.lines _ YR l hx).places x hx').1;have:=H.aV;omega
  have hF:=tf q _ gK kM _ hm;have RR:(p.along (B4 q.blocks.length E) i).aj.length=24:=fF (fun b=>(h.fc b).len) i;have iq:=IC H hb hs RR hr;have hst24:=p.mL RR (p.line i);have j9:=Iw H hb hk (gi q (p.aG i) hs).len hst24 iq;constructor
  ·exact(lA.known cd.1).mpr (cQ cd.2 hle (vw hF))
  ·exact ym (p.lM (p.kU (xw (h.fc) i) (p.line i)) (p.line i) k) j9 (h.rel cd.1) hle
def qF (E':Nat->WS)(b:Nat):List Nat:=if(E' b).known=true then(E' b).aj.map bitsOf else aq
theorem Ak {E':Nat->WS}(hl:∀b,(E' b).aj.length=24)(b:Nat):eH (qF E' b):=by
 unfold qF;split
 ·refine⟨by simpa using hl b,fun k=> ?_⟩;rw[jA,jJ];cases(E' b).aj[k]? with
  |none=>decide
  |some x=>exact Uj x
 ·exact⟨by decide,ph⟩
theorem rT {E':Nat->WS}(hl:∀b,(E' b).aj.length=24){b:Nat}(hk:(E' b).known=true):sr (qF E' b) (E' b):=fun k GJ=>by
 show(qF E' b).getD k 0=_
 unfold qF;rw[jb hk];unfold WS.at;rw[jA,jJ,jA,jB (by rw[hl b];exact GJ)];rfl
theorem FZ (H:fi text false p q){E':Nat->WS}(hE:mR p E'):rP q (qF E'):=by
 refine⟨fun b _=>Ak hE.len b,A7 BH (rT hE.len hE.start.1) hE.start.2,fun b hb ea x hx=> ?_⟩;have zK:(E' b).known=true:=by
  cases hk:(E' b).known
  ·exact absurd (by unfold qF;rw[hk];rfl) ea
  ·rfl
 obtain⟨i,k,r8,hc,hk,rfl⟩:=(Iy H (qF E') b x).mp hx;have Rl:p.aI i=b:=by unfold RP.aI;omega
 have Z5:(E' (p.aI i)).known=true:=by rw[Rl];exact zK
 have hr:=xx H (U:=qF E') (EW:=E') hE.len i r8 (Ak hE.len _) (rT hE.len Z5);have hs:=tX H (U:=qF E') i r8 (Ak hE.len _);have RR:(p.along E' i).aj.length=24:=fF hE.len i;have iq:=IC H r8 hs RR hr;have j9:=Iw H r8 hk (gi q (p.aG i) hs).len (p.mL RR (p.line i)) iq;obtain⟨h1,h2⟩:=hE.step i r8 Z5 k hk;exact A7 j9 (rT hE.len h1) h2
theorem lA.least {E:List (List Nat)}(h:lA text p q E):DW p (B4 q.blocks.length E):=fun E' hE b hb hk=>by
 rw[<-h.both.len]at hb;rw[lA.known hb]at hk;have hle:=h.inv.inv.least _ (FZ h.both hE) b hb;have zK:(E' b).known=true:=by
  cases zK:(E' b).known
  ·exfalso;refine cQ (h.ok hb) hle hk ?_;unfold qF;rw[zK];rfl
  ·rfl
 exact⟨zK,ym (h.fc b) (h.rel hb) (rT hE.len zK) hle⟩
theorem lA.same {E:List (List Nat)}(h:lA text p q E){L:List WS}(hL:p.iS L):p.cV L p.lines.length 0=FlwX.asInt (aB (cU q E) q.blocks.length 0):=by
 rw[h.both.ok.JX hL h.closed h.least (wrong:=qf p q E) (fun i hb=> ?_),sF,NV h.both];obtain⟨hc,hl⟩:=D7 h.both hb;obtain⟨hr,hs⟩:=h.along hb;unfold qf;rw[NU (zD h.both) (zC h.both hb),h.both.ok.QV hb (xw h.fc i) hr,Fv hl]
end
end FlwY
namespace FlwR
open Go Go.RowKit Sq Aux PrjF PrjG PrjJ PrjK PrjL PrjM PrjO PrjP PrjQ PrjS PrjU FlwA FlwB FlwC FlwD FlwE FlwF FlwG FlwH FlwI FlwJ FlwK FlwL FlwM FlwN FlwO FlwP FlwQ
theorem G0:(Tryz.prog.info? 209).map (fun i=>(i.zero.map Value.cells,i.size,i.bytes))=some (some (ao aq).toArray,24,24):=by kernel_rfl
theorem Fj:Tryz.prog.underlying 139=some (.slice 209):=by kernel_rfl
theorem P4:eH aq:=⟨by decide,ph⟩
theorem Bk (w:World)(n:Nat):aS (w.alloc (.cells (madeCells (ao aq).toArray (n*24)) 209)) w.heap.size (List.replicate n aq):=by
 refine⟨fun s hs=>by rw[List.eq_of_mem_replicate hs];exact P4,madeCells (ao aq).toArray (n*24),by show(w.heap.push _)[w.heap.size]?=_;simp,by rw[size_madeCells];simp;omega,fun i j hi hj=> ?_⟩;rw[List.length_replicate]at hi;have hs:(ao aq).toArray.size=24:=by decide
 have Jq:j<(ao aq).toArray.size:=by rw[hs];exact hj
 have e:(i*24+j)%(ao aq).toArray.size=j:=by rw[hs];omega
 unfold madeCells;rw[Array.getElem?_map,Array.getElem?_range,jb (by omega),Option.map_some,e];rw[getElem!_pos _ j Jq];have hz:(List.replicate n aq).getD i []=aq:=by simp[List.getD_eq_getElem?_getD,hi]
 have hl:j<aq.length:=by simpa [aq]using hj
 rw[hz];simp[ao,hl]
theorem zp (n:Nat)(hn:n<=4000)(w:World):(Instr.makeSlice 139 (.int .i64 (n:Int)) (.int .i64 (n:Int))).run Tryz.prog w=.ok (.slice (some ⟨w.heap.size,0,none⟩) n n) (w.alloc (.cells (madeCells (ao aq).toArray (n*24)) 209)):=by
 obtain⟨i,hi,hx⟩:=Option.map_eq_some_iff.1 G0;simp only[Prod.mk.injEq]at hx;obtain⟨hz,hs,hb⟩:=hx;obtain⟨z,hz,hc⟩:=Option.map_eq_some_iff.1 hz;have:=run_make (P:=Tryz.prog) w 139 209 i z Fj hi hz .i64 .i64 n n (by omega) (Int.le_refl _) (by rw[hb];omega) (by omega);rw[hs,hc]at this;simpa using this
section
variable {z a:Nat} {w w':World} {q:QP} {vl vb:Value} {us:List Value} {vss:List (List (Value×Value))}
set_option maxRecDepth 20000 in
set_option maxHeartbeats 2000000 in
theorem Mk (h:lD z a w q vl vb us vss)(h0:0<q.blocks.length)(hn:q.blocks.length<=4000)(ic:q.locals.length<=12)(hq:Jw q.blocks.length q)(eX:∀j,(q.blocks.getD j []).length<=4000)
  (I:List (List Nat)->(Nat->Bool)->Prop) (Rc:I (eO (List.replicate q.blocks.length aq) 0 aU) (gX (List.replicate q.blocks.length aq) (fun _=>false) 0 aU))
  (hI:∀E O b,Fw E->E.length=q.blocks.length->b<q.blocks.length->O b=true->I E O->I (gI q E (cz O b false) b).2.1 (gI q E (cz O b false) b).2.2):
  Calls Tryz.prog 90 #[.pointer (some ⟨a,0,none⟩)] w fun e w'=>∃ap mb E' O',e=.returned (.agg #[.pointer (some ⟨a,0,none⟩),.slice (some ⟨ap,0,none⟩) q.blocks.length q.blocks.length,.map (some mb)])/\
   lD z a w' q vl vb us vss/\E'.length=q.blocks.length/\aS w' ap E'/\cN w' mb q.blocks.length O'/\I E' O'/\(∀b,O' b=false)/\w.heap.size<=ap/\w.heap.size<=mb/\Below w.heap.size w w':=by
 obtain⟨p0,p1,-,-⟩:=lD.facts h;obtain⟨adb,cb,rfl⟩:=bZ h.blocks;have hbR:Below w.heap.size w (w.alloc (.cells #[.pointer none,.slice none 0 0,.map none] 165)):=(Below.refl _ _).alloc (jC _) _;have XL:=zp q.blocks.length hn;have YR:= @run_makeMap Tryz.prog;have p1R:=(hbR.cell (p:=⟨a,1,none⟩) h.lt).trans p1;have hPR:=h.below hbR;have Xi:(w.alloc (.cells #[.pointer none,.slice none 0 0,.map none] 165)).heap[w.heap.size]?=some (.cells #[.pointer none,.slice none 0 0,.map none] 165 (0,0)):=jD;go_enter Tryz.func90,Tryz.ntmps90
 go_upto_region 1 with fail
 generalize (w.alloc (.cells #[.pointer none,.slice none 0 0,.map none] 165))=R at*;go_upto_region 2 with fail
 have av:Below R.heap.size R (R.alloc (.cells (madeCells (ao aq).toArray (q.blocks.length*24)) 209)):=(Below.refl _ _).alloc (jC _) _;have oC:=Bk R q.blocks.length;have lv:(R.alloc (.cells (madeCells (ao aq).toArray (q.blocks.length*24)) 209)).heap.size=R.heap.size+1:=by simp
 generalize (R.alloc (.cells (madeCells (ao aq).toArray (q.blocks.length*24)) 209))=R1 at*;have bT:Below R1.heap.size R1 (R1.alloc (.map #[] 0)):=(Below.refl _ _).alloc (jC _) _;have Jr:=cN.made R1 q.blocks.length;have B9:(R1.alloc (.map #[] 0)).heap.size=R.heap.size+1+1:=by simp[lv]
 generalize (R1.alloc (.map #[] 0))=R2 at*;have lI:Below R2.heap.size R2 (R2.alloc (.cells #[.pointer (some ⟨a,0,none⟩),.slice (some ⟨R.heap.size,0,none⟩) q.blocks.length q.blocks.length,.map (some (R.heap.size+1))] 165)):=(Below.refl _ _).alloc (jC _) _;have hx3:(R2.alloc (.cells #[.pointer (some ⟨a,0,none⟩),.slice (some ⟨R.heap.size,0,none⟩) q.blocks.length q.blocks.length,.map (some (R.heap.size+1))] 165)).heap[R2.heap.size]?=some (.cells #[.pointer (some ⟨a,0,none⟩),.slice (some ⟨R.heap.size,0,none⟩) q.blocks.length q.blocks.length,.map (some (R.heap.size+1))] 165 (0,0)):=jD;generalize (R2.alloc (.cells #[.pointer (some ⟨a,0,none⟩),.slice (some ⟨R.heap.size,0,none⟩) q.blocks.length q.blocks.length,.map (some (R.heap.size+1))] 165))=R3 at*;have hwR:w.heap.size<R.heap.size:=lt_of_heap Xi;have B6:Below R.heap.size R R3:=av.trans ((bT.mono av.size).trans (lI.mono (jS av.size bT.size)));have Ws:aS R3 R.heap.size (List.replicate q.blocks.length aq):=(oC.heap (bT.block _ oC.lt)).heap (lI.block _ (by omega));rw[lv]at Jr;rw[B9]at hx3;have Wo:cN R3 (R.heap.size+1) q.blocks.length (fun _=>false):=Jr.heap (lI.block _ (by omega));have hW:kK z (R.heap.size+1+1) a R.heap.size (R.heap.size+1) R3 q vl (.slice adb q.blocks.length cb) us vss (List.replicate q.blocks.length aq) (fun _=>false):=
  ⟨hx3,hPR.below B6,by simp,Ws,Wo⟩
 have hrr3:=(B6.block w.heap.size hwR).trans Xi;have Jk:=hbR.trans (B6.mono hbR.size);have KF:=J3 hW h0 hn ic hq eX I Rc hI;clear av bT lI oC Jr lv B9 hx3 Wo Ws XL YR p1R Xi hPR p0 p1 Rc hI;have ZD:w.heap.size<=R.heap.size:=by omega
 have P9:w.heap.size<=R.heap.size+1:=by omega
 generalize Y0:R.heap.size+1+1=x at*;have hne1:w.heap.size≠R.heap.size:=by omega
 have hne2:w.heap.size≠R.heap.size+1:=by omega
 clear Y0;generalize R.heap.size=ap at*;generalize ap+1=mb at*;go_wp2_with (go_at_call 144;refine KF.mono ?_;rintro e w1 ⟨rfl,E',O',ti,TQ,mn,qp⟩;obtain⟨c0,c1,c2⟩:=ti.facts;have oC:=(qp.block _ (lt_of_heap hrr3) hne1 hne2).trans hrr3;have d0:=(cell_of_heap oC 0).trans (by rfl:_=some (Value.pointer none));have d1:=(cell_of_heap oC 1).trans (by rfl:_=some (Value.slice none 0 0));have d2:=(cell_of_heap oC 2).trans (by rfl:_=some (Value.map none));have f0:=frozen_of_heap oC 0;have f1:=frozen_of_heap oC 1;have f2:=frozen_of_heap oC 2)
 have hrf:(((w1.setCell ⟨w.heap.size,0,none⟩ (.pointer (some ⟨a,0,none⟩))).setCell ⟨w.heap.size,1,none⟩ (.slice (some ⟨ap,0,none⟩) q.blocks.length q.blocks.length)).setCell ⟨w.heap.size,2,none⟩ (.map (some mb))).heap[w.heap.size]?=some (.cells #[.pointer (some ⟨a,0,none⟩),.slice (some ⟨ap,0,none⟩) q.blocks.length q.blocks.length,.map (some mb)] 165 (0,0)):=by
  rw[Go.Proofs.YtmlgajhhnojdjaaGreatDoor.Aux.heap_setCell_same (Go.Proofs.YtmlgajhhnojdjaaGreatDoor.Aux.heap_setCell_same (Go.Proofs.YtmlgajhhnojdjaaGreatDoor.Aux.heap_setCell_same oC 0 _) 1 _) 2 _];rfl
 have AR:bu w.heap.size w1 (((w1.setCell ⟨w.heap.size,0,none⟩ (.pointer (some ⟨a,0,none⟩))).setCell ⟨w.heap.size,1,none⟩ (.slice (some ⟨ap,0,none⟩) q.blocks.length q.blocks.length)).setCell ⟨w.heap.size,2,none⟩ (.map (some mb))):=(((bu.refl _ _).setCell 0 _).setCell 1 _).setCell 2 _;clear d0 d1 d2 f0 f1 f2 c0 c1 c2;generalize (((w1.setCell ⟨w.heap.size,0,none⟩ (.pointer (some ⟨a,0,none⟩))).setCell ⟨w.heap.size,1,none⟩ (.slice (some ⟨ap,0,none⟩) q.blocks.length q.blocks.length)).setCell ⟨w.heap.size,2,none⟩ (.map (some mb)))=wf at*;refine bodyPost_ret (dP Tryz.results90 _ _ _ w.heap.size [.pointer (some ⟨a,0,none⟩),.slice (some ⟨ap,0,none⟩) q.blocks.length q.blocks.length,.map (some mb)] _ rfl (fun j v hv=>by rw[Nat.zero_add,cell_of_heap hrf];simpa using hv) Tryz.underlying165 rfl (by kernel_rfl)) rfl ?_;have Of:∀(g:Nat) (cs:Array Value) (e:TypeId) (f:Nat×Nat),w1.heap[g]?=some (.cells cs e f)->e≠165->wf.heap[g]?=w1.heap[g]?:=fun g cs e f hg he=>AR.block g (lt_of_heap hg) (fun e1=>by
  rw[e1,oC]at hg;simp only[Option.some.injEq,Obj.cells.injEq]at hg;exact he hg.2.1.symm)
 refine⟨ap,mb,E',O',rfl,?_,ti.len,ti.row.heap (AR.block _ ti.row.lt (by omega)),ti.sx.heap (AR.block _ ti.sx.lt (by omega)),TQ,mn,ZD,P9,(Jk.trans (qp.below ZD P9 Jk.size)).trans (AR.below (jC _) (jS Jk.size qp.size))⟩;exact(h.below ((Jk.trans (qp.below ZD P9 Jk.size)).trans (AR.below (jC _) (jS Jk.size qp.size))))
set_option maxRecDepth 20000 in
theorem z7 (h:lD z a w q vl vb us vss)(h0:0<q.blocks.length)(hn:q.blocks.length<=4000)(ic:q.locals.length<=12)(hq:Jw q.blocks.length q)(eX:∀j,(q.blocks.getD j []).length<=4000)
  (I:List (List Nat)->(Nat->Bool)->Prop) (Rc:I (eO (List.replicate q.blocks.length aq) 0 aU) (gX (List.replicate q.blocks.length aq) (fun _=>false) 0 aU))
  (hI:∀E O b,Fw E->E.length=q.blocks.length->b<q.blocks.length->O b=true->I E O->I (gI q E (cz O b false) b).2.1 (gI q E (cz O b false) b).2.2):
  Calls Tryz.prog 54 #[.pointer (some ⟨a,0,none⟩)] w fun e w'=>(∃E',Fw E'/\E'.length=q.blocks.length/\I E' (fun _=>false)/\e=.returned (CR (aB (cU q E') q.blocks.length 0)))/\Below w.heap.size w w':=by
 have KW:=Mk h h0 hn ic hq eX I Rc hI;have KF:=fun x ap mb w1 E' (hW:kK z x a ap mb w1 q vl vb us vss E' (fun _=>false))=>AI hW hn ic hq eX
 go_enter Tryz.func54,Tryz.ntmps54
 go_upto_region 2 with(go_at_call 90;refine KW.mono ?_;rintro e w1 ⟨ap,mb,E',O',rfl,Gy,tm,oC,YT,TQ,mn,ZD,P9,lu⟩)
 have hO:O'=fun _=>false:=funext mn
 have ZF:Below w1.heap.size w1 (w1.alloc (.cells #[.pointer (some ⟨a,0,none⟩),.slice (some ⟨ap,0,none⟩) q.blocks.length q.blocks.length,.map (some mb)] 165)):=(Below.refl _ _).alloc (jC _) _;have hX:(w1.alloc (.cells #[.pointer (some ⟨a,0,none⟩),.slice (some ⟨ap,0,none⟩) q.blocks.length q.blocks.length,.map (some mb)] 165)).heap[w1.heap.size]?=some (.cells #[.pointer (some ⟨a,0,none⟩),.slice (some ⟨ap,0,none⟩) q.blocks.length q.blocks.length,.map (some mb)] 165 (0,0)):=jD;have hW:kK z w1.heap.size a ap mb _ q vl vb us vss E' O':=⟨hX,Gy.below ZF,tm,oC.heap (ZF.block _ oC.lt),YT.below ZF⟩;rw[hO]at hW TQ;have KX:=KF _ _ _ _ _ hW;have hBX:=lu.trans (ZF.mono lu.size);have hEok:Fw E':=oC.1;obtain⟨r,hr⟩:∃r,Hid (aB (cU q E') q.blocks.length 0=r):=⟨_,rfl⟩;rw[hr.out,tY]at KX;clear KF KW hW hX ZF YT oC Gy mn hO Rc hI;generalize (w1.alloc (.cells #[.pointer (some ⟨a,0,none⟩),.slice (some ⟨ap,0,none⟩) q.blocks.length q.blocks.length,.map (some mb)] 165))=W at*;go_wp2_with (go_at_call 91;refine KX.mono ?_;rintro e w2 ⟨rfl,qq⟩)
 go_ret2
 refine⟨⟨E',hEok,tm,TQ,?_⟩,hBX.trans (qq.below ZD P9 hBX.size)⟩;rw[hr.out,tY];rfl
end
end FlwR
namespace FlwZ
open Go Go.RowKit Sq Aux PrjF PrjG PrjJ PrjK PrjM PrjS PrjW PrjX RefM FlwF FlwI FlwK FlwM FlwO FlwP FlwQ FlwR FlwV FlwX FlwY
theorem IE {text:B}{raw:Bool}{c k:Nat}(h:bc text raw=(none,c,k)):1<=c/\aJ text raw=(none,c,k):=by
 have hc:1<=c:=by
  by_cases di:(split 10 text).length>(if raw then 4000 else 120)
  ·rw[bc,jb di]at h;simp only[Prod.mk.injEq]at h;omega
  ·rw[bc,ja di]at h;split at h
   ·simp only[Prod.mk.injEq]at h;omega
   ·split at h
    ·simp only[Prod.mk.injEq]at h;omega
    ·split at h
     ·simp only[Prod.mk.injEq]at h;omega
     ·split at h
      ·simp only[Prod.mk.injEq]at h;omega
      ·cases h
 refine⟨hc,?_⟩;have h2:=(ye text raw).1;rw[h]at h2;simp only at h2;cases hr:aJ text raw with
 |mk op ck=>
  rw[hr]at h2;simp only at h2;subst h2;cases op with
  |none=>rfl
  |some p=>have:=(jy hr).2.1;omega
theorem EX {text:B}{raw:Bool}{q:QP}{c k:Nat}(h:bc text raw=(some q,c,k)):c=0/\k=0/\∃p,aJ text raw=(some p,0,0)/\fi text raw p q:=by
 obtain⟨p,hb⟩:=Pw (text:=text) (raw:=raw) (q:=q) (by rw[h]);have h2:=(ye text raw).1;have e:aJ text raw=(some p,(aJ text raw).2.1,(aJ text raw).2.2):=by rw[<-hb.ref]
 obtain⟨-,e1,e2,-⟩:=jy e;have e3:aJ text raw=(some p,0,0):=by rw[e,e1,e2]
 rw[h,e3]at h2;simp only[Prod.mk.injEq]at h2;exact⟨h2.1,h2.2,p,e3,hb⟩
theorem N5 {z a:Nat}{w w':World}{q:QP}(h:Fy z a w q)(hb:Below w.heap.size w w'):Fy z a w' q:=by
 obtain⟨vl,vb,us,vss,hp⟩:=h.at_;exact⟨⟨vl,vb,us,vss,hp.below hb⟩,h.ok,h.locals,h.blocks,h.lines⟩
theorem Ao {text:B}{p:RP}{q:QP}(h:fi text false p q):0<q.blocks.length:=by
 rw[h.len];exact h.ok.first.1
theorem Q7 {text:B}{p:RP}{q:QP}{z a:Nat}{w:World}(hB:fi text false p q)(hG:Fy z a w q):Calls Tryz.prog 54 #[.pointer (some ⟨a,0,none⟩)] w fun e w'=>
  (∃E',lA text p q E'/\e=.returned (CR (aB (cU q E') q.blocks.length 0)))/\Below w.heap.size w w':=by
 obtain⟨vl,vb,us,vss,hp⟩:=hG.at_;refine(z7 hp (Ao hB) hG.blocks hB.aV hB.Yn hG.lines (Qh q) (KV q (Ao hB)) (fun E O b _ _ hb hO hI=>Ou q hB.Yn hB.aV E O b hb hO hI)).mono ?_;rintro e w' ⟨⟨E',-,-,hI,rfl⟩,hb⟩;exact⟨⟨E',⟨hB,hI,(Ao hB)⟩,rfl⟩,hb⟩
def rK (text:B)(w:World)(e:Ending)(w':World):Prop:=
 Below w.heap.size w w'/\((∃c k:Nat,1<=c/\aJ text false=(none,c,k)/\e=.returned (.tuple #[.pointer none,.int .i64 (c:Int),.int .i64 (k:Int)]))\/
  ∃p q E,aJ text false=(some p,0,0)/\bc text false=(some q,0,0)/\lA text p q E/\((∃n:Nat,aB (cU q E) q.blocks.length 0=some n/\e=.returned (.tuple #[.pointer none,.int .i64 5,.int .i64 (n:Int)]))\/
   (aB (cU q E) q.blocks.length 0=none/\∃a z,e=.returned (.tuple #[.pointer (some ⟨a,0,none⟩),.int .i64 0,.int .i64 0])/\w.heap.size<=z/\Fy z a w' q)))
def mf (text:B)(c k:Int):Prop:=(∃c' k':Nat,1<=c'/\aJ text false=(none,c',k')/\c=c'/\k=k')\/
  ∃p q E,aJ text false=(some p,0,0)/\bc text false=(some q,0,0)/\lA text p q E/\((∃n:Nat,aB (cU q E) q.blocks.length 0=some n/\c=5/\k=n)\/(aB (cU q E) q.blocks.length 0=none/\c=0/\k=0))
end FlwZ
namespace FlwZa
open Go Go.RowKit Sq Aux PrjF PrjG PrjJ PrjK PrjM PrjW PrjX RefM FlwP FlwQ FlwV FlwY FlwZ
set_option maxRecDepth 20000 in
set_option maxHeartbeats 1000000 in
theorem EU (text:B)(w:World)(h:text.length<=1048576)(E:Env w):Calls Tryz.prog 38 #[.string (bs text)] w (rK text w):=by
 have Uc:=Ps text w h E;go_enter Tryz.func38,Tryz.ntmps38
 cases hr:bc text false with
 |mk op ck=>
  obtain⟨c,k⟩:=ck;cases op with
  |none=>
   obtain⟨ko,mZ⟩:=IE hr;have FB:((c:Int)==0)=false:=by simp;omega
   have HR:Hid (_=_):=hr;have kb:Hid (_=_):=mZ;go_wp2_with (go_at_call 53;refine Uc.mono ?_;rintro e w1 ⟨av,v,rfl,hv⟩;rw[HR.out]at hv;obtain⟨-,rfl⟩:True/\v=.pointer none:=(by rcases hv with⟨-,hv⟩|⟨p,a,z,hp,-⟩;exact⟨trivial,hv⟩;cases hp);have tP:Hid (Below w.heap.size w w1):=av;simp only[HR.out])
   go_ret3
   exact⟨tP.out,.inl ⟨c,k,ko,kb.out,rfl⟩⟩
  |some q=>
   obtain⟨rfl,rfl,p,hp,hB⟩:=EX hr;have HR:Hid (_=_):=hr;have HP:Hid (_=_):=hp;have HB:Hid (_):=hB;clear hr hp hB;go_upto_region 4 with(go_at_call 53;refine Uc.mono ?_;rintro e w1 ⟨av,v,rfl,hv⟩;rw[HR.out]at hv;obtain⟨a,z,rfl,hz,hG⟩:∃a z,v=.pointer (some ⟨a,0,none⟩)/\Hid (w.heap.size<=z)/\Hid (Fy z a w1 q):=(by rcases hv with⟨hv,-⟩|⟨q',a,z,hq,hv,hz,hg⟩;(cases hv);(cases hq;exact⟨a,z,hv,hz,hg⟩));have tP:Hid (Below w.heap.size w w1):=av;clear hv av;simp only[HR.out])
   have HF:=Q7 HB.out hG.out;go_upto_region 5 with(go_at_call 54;refine HF.mono ?_;rintro e w2 ⟨⟨E',hD,rfl⟩,bT⟩;have HD:Hid (_):=hD;have Y5:Hid (_):=bT;clear hD bT;rw[tY];obtain⟨r,hr⟩:∃r,Hid (aB (cU q E') q.blocks.length 0=r):=⟨_,rfl⟩;rw[hr.out])
   clear HF Uc;have HW:Hid (Below w.heap.size w w2):=tP.out.trans (Y5.out.mono tP.out.size);cases r with
   |none=>
    simp only[Option.isSome_none];go_wp2
    go_ret3
    exact⟨HW.out,.inr ⟨p,q,E',HP.out,HR.out,HD.out,.inr ⟨hr.out,a,z,rfl,hz.out,N5 hG.out Y5.out⟩⟩⟩
   |some n=>
    simp only[Option.isSome_some,Option.getD_some];go_wp2
    go_ret3
    exact⟨HW.out,.inr ⟨p,q,E',HP.out,HR.out,HD.out,.inl ⟨n,hr.out,rfl⟩⟩⟩
def Vx:B:=[108,101,116,32,110,32,105,110,116,10,108,101,116,32,112,32,98,111,120,10,98,108,111,99,107,10,115,101,116,32,110,32,53,10,110,101,119,32,112,32,110,10,108,111,97,100,32,110,32,112,10,101,110,100,32,110]
end FlwZa
namespace FlwZb
open Go Go.RowKit Sq Aux PrjF PrjG PrjJ PrjK PrjM PrjW PrjX RefM RefZf FlwP FlwQ FlwV FlwY FlwZ FlwZa
theorem QC {text:B}{w w':World}{e:Ending}(h:qw text w e w'):Below w.heap.size w w'/\∃v c k,e=.returned (.tuple #[v,.int .i64 c,.int .i64 k])/\∀c' k',mf text c' k'->c'=c/\k'=k:=by
 obtain⟨hb,⟨c,k,h1,rfl⟩|⟨p,L,h1,hL,⟨h2,rfl⟩|⟨h2,a,rfl,-⟩⟩⟩:=h
 ·refine⟨hb,_,_,_,rfl,fun c' k' ha=> ?_⟩;rcases ha with⟨c2,k2,-,h3,rfl,rfl⟩|⟨p,q,E,h3,-⟩
  ·rw[h1]at h3;cases h3;exact⟨rfl,rfl⟩
  ·rw[h1]at h3;cases h3
 ·refine⟨hb,_,_,_,rfl,fun c' k' ha=> ?_⟩;rcases ha with⟨c2,k2,-,h3,-⟩|⟨p',q,E,h3,-,hD,⟨n,h4,rfl,rfl⟩|⟨h4,rfl,rfl⟩⟩
  ·rw[h1]at h3;cases h3
  ·rw[h1]at h3;cases h3;rw[hD.same hL,h4];exact⟨rfl,rfl⟩
  ·rw[h1]at h3;cases h3;rw[hD.same hL,h4]at h2;exact absurd h2 (by decide)
 ·refine⟨hb,_,_,_,rfl,fun c' k' ha=> ?_⟩;rcases ha with⟨c2,k2,-,h3,-⟩|⟨p',q,E,h3,-,hD,⟨n,h4,rfl,rfl⟩|⟨h4,rfl,rfl⟩⟩
  ·rw[h1]at h3;cases h3
  ·rw[h1]at h3;cases h3;rw[hD.same hL,h4]at h2;have:(0:Int)<=FlwX.asInt (some n):=by show(0:Int)<=(n:Int);omega
   omega
  ·exact⟨rfl,rfl⟩
end FlwZb
end Go.Proofs.YtmlgajhhnojdjaaGreatDoor

import Derived.Test.YtmlgajhhnojdjaaGreatDoorRBD
namespace Go.Proofs.YtmlgajhhnojdjaaGreatDoor
namespace Ex
open Go Go.RowKit Sq Aux PrjJ PrjK PrjL PrjM FlwA FlwE Go.Proofs.YtmlgajhhnojdjaaGreatDoor.Own
structure Br where
 yd:Yd
 al:List Int
 cs:List (Bool×Int)
 flags:List Bool
def WA (q:QP)(p:Nat×Nat):Bool:=q.bt p==3
def cellOf (q:QP)(p:Nat×Nat):Nat:=if WA q p then 24+p.1 else ah p
def Br.cell (b:Br)(q:QP)(p:Nat×Nat):Bool×Int:=b.cs.getD (cellOf q p) (false,0)
def Br.val (b:Br)(q:QP)(p:Nat×Nat):Int:=(b.cell q p).2
def Br.write (b:Br)(q:QP)(p:Nat×Nat)(v:Int):Br:={b with cs:=b.cs.set (cellOf q p) (true,v)}
section
variable {x a:Nat} {w w0 w1:World} {vm vt vi vm1 vt1:Value} {b:Br}
end
end Ex
namespace Ex
theorem hereExB:True:=trivial
end Ex
namespace Ex
theorem hereExC:True:=trivial
end Ex
namespace Ex
theorem hereExD:True:=trivial
end Ex
namespace Ex
theorem hereExE:True:=trivial
end Ex
namespace Ex
open Go Go.RowKit Sq Aux PrjJ PrjK PrjL PrjM PrjR PrjS PrjT FlwA FlwE Go.Proofs.YtmlgajhhnojdjaaGreatDoor.Own
def Br.cU (q:QP)(ts fs:List (Nat×Nat)):Nat->Br->Br
 |0,b=>b
 |k+1,b=>(Br.cU q ts fs k b).write q (ts.getD k (0,0)) ((Br.cU q ts fs k b).val q (fs.getD k (0,0)))
def Br.M4 (b:Br)(q:QP)(t f:Nat×Nat):Br:=Br.cU q (QP.ae q t) (QP.ae q f) (QP.ae q f).length b
def Br.move (b:Br)(q:QP)(t f:Nat×Nat):Br:=
 if WA q f=true/\(b.M4 q t f).val q f=1 then(b.M4 q t f).write q (t.1,3) ((b.M4 q t f).val q (f.1,3))else b.M4 q t f
section
variable {x a:Nat} {w w0 w1:World} {vm vt vi v u:Value} {b:Br} {q:QP}
end
end Ex
namespace Ex
theorem hereExG:True:=trivial
end Ex
namespace Ex
theorem hereExH:True:=trivial
end Ex
namespace Ex
open Go Go.RowKit Sq Aux PrjJ PrjK PrjL PrjM PrjR PrjS PrjT FlwA FlwE Go.Proofs.YtmlgajhhnojdjaaGreatDoor.Own
def Br.new (b:Br)(q:QP)(p:Nat×Nat)(v:Int):Br:=({b with yd:=b.yd.build v}:Br).write q p ((b.yd.made.length+1:Nat):Int)
section
variable {x a:Nat} {w w0:World} {vm vt vi v u:Value} {b:Br} {q:QP}
end
end Ex
namespace Ex
theorem hereExJ:True:=trivial
end Ex
namespace RunA
open Go Sq PrjS
def Whole (b:List ab):Prop:=∃ls l,b=ls++[l]/\18<=l.op/\∀m∈ls,m.op<18
structure Shp (raw:Bool)(o:fk)(q:QP):Prop where
 none:o.sec=0->q.blocks=[]
 sy:o.sec=1->∃bs b,q.blocks=bs++[b]/\(∀c∈bs,Whole c)/\∀m∈b,m.op<18
 whl:o.sec=2->∀c∈q.blocks,Whole c
 has:∀b∈q.blocks,∀l∈b,pE raw l.op=true
 sec:o.sec<=2
theorem Sh {ls:List (B×Nat)}{nb:Nat}{x:Nat×List B}{l:ab}(h:ez ls nb x=some l):l.op=x.1:=by
 rw[ez]at h;obtain⟨i1,-⟩:=l7 ls nb _ _ _ _ h (by simp) (by simp) (by simp) (by simp);exact i1
theorem JD {raw:Bool}{o:fk}{op:Nat}(h:(aQ raw o op).2=true):pE raw op=true:=by
 unfold aQ at h;split at h
 ·cases h
 ·rename_i hh;simpa using hh
theorem Tm (raw:Bool)(nb:Nat):∀(ls:List (List B)) (o:fk) (i j:Nat) (q0 q:QP),(aG raw ls o i).2.2=none->bc nb (aG raw ls o i).1 j q0=(q,none)->Shp raw o q0->Shp raw (aG raw ls o i).2.1 q
 |[],o,i,j,q0,q,_,h,hs=>by
  simp only[aG,bc,Prod.mk.injEq,and_true]at h;rw[<-h];exact hs
 |ws::r,o,i,j,q0,q,hn,h,hs=>by
  rw[aG]at hn h⊢;cases hx:eQ ws with
  |none=>rw[hx]at hn;cases hn
  |some x=>
   rw[hx]at hn h;simp only at hn h⊢;by_cases ha:(aQ raw o x.1).2=true
   ·rw[jb ha]at hn h⊢;have ih:=fun q1 hl lx=>Tm raw nb r (aQ raw o x.1).1 (i+1) (j+1) q1 q hn hl lx
    have Z1:=JD ha;have xW:=qB raw o x.1 hs.sec;rw[bc]at h;have hnh:¬pE raw x.1=false:=by rw[Z1];decide
    by_cases e0:x.1=0
    ·rw[jb e0]at h;split at h
     ·simp at h
     ·refine ih _ h ?_;have e:(aQ raw o x.1).1=⟨o.sec,o.locals+1,o.blocks⟩:=by rw[aQ,ja hnh,jb e0]
      rw[e];exact⟨hs.none,hs.sy,hs.whl,hs.has,hs.sec⟩
    ·rw[ja e0]at h;by_cases e1:x.1=1
     ·rw[jb e1]at h;refine ih _ h ?_;have e:aQ raw o x.1=(⟨1,o.locals,o.blocks+1⟩,decide (0<o.locals)&& !(o.sec==1)&&decide (o.blocks+1<=if raw then 2000 else 20)):=by rw[aQ,ja hnh,ja e0,jb e1]
      rw[e]at ha;simp only[Bool.and_eq_true,Bool.not_eq_true',beq_eq_false_iff_ne]at ha;rw[e];have hsec':=hs.sec;refine⟨fun h=>(by cases h),fun _=>⟨q0.blocks,[],rfl,fun c hc=> ?_,fun m hm=>(by cases hm)⟩,fun h=>(by cases h),fun b hb l hl=> ?_,by simp⟩
      ·by_cases h0:o.sec=0
       ·rw[hs.none h0]at hc;cases hc
       ·exact hs.whl (by have:=ha.1.2;omega) c hc
      ·simp only[QP.addBlock,List.mem_append,List.mem_singleton]at hb;rcases hb with hb|rfl
       ·exact hs.has b hb l hl
       ·cases hl
     ·rw[ja e1]at h;cases hl:ez q0.locals nb x with
      |none=>rw[hl]at h;simp at h
      |some l=>
       rw[hl]at h;have ax:=Sh hl;by_cases h1:o.sec=1
       ·obtain⟨bs,b,hb,hw,ho⟩:=hs.sy h1;have Ke:(q0.addLine {l with num:=j}).blocks=bs++[b++[{l with num:=j}]]:=by
         simp only[QP.addLine,hb];simp
        have Wi:∀b∈(q0.addLine {l with num:=j}).blocks,∀l∈b,pE raw l.op=true:=fun c hc m hm=>by
         rw[Ke]at hc;simp only[List.mem_append,List.mem_singleton]at hc;rcases hc with hc|rfl
         ·exact hs.has c (by rw[hb];simp[hc]) m hm
         ·simp only[List.mem_append,List.mem_singleton]at hm;rcases hm with hm|rfl
          ·exact hs.has b (by rw[hb];simp) m hm
          ·show pE raw l.op=true;rw[ax];exact Z1
        refine ih _ h ?_;by_cases sw:18<=x.1
        ·have e:(aQ raw o x.1).1=⟨2,o.locals,o.blocks⟩:=by rw[aQ,ja hnh,ja e0,ja e1,ja (by simp[h1]),jb sw]
         rw[e];refine⟨fun h=>(by cases h),fun h=>(by cases h),fun _ c hc=> ?_,Wi,by simp⟩;rw[Ke]at hc;simp only[List.mem_append,List.mem_singleton]at hc;rcases hc with hc|rfl
         ·exact hw c hc
         ·exact⟨b,_,rfl,by show 18<=l.op;omega,ho⟩
        ·have e:(aQ raw o x.1).1=o:=by rw[aQ,ja hnh,ja e0,ja e1,ja (by simp[h1]),ja sw]
         rw[e];refine⟨fun h=>by omega,fun _=>⟨bs,_,Ke,hw,fun m hm=> ?_⟩,fun h=>by omega,Wi,hs.sec⟩;simp only[List.mem_append,List.mem_singleton]at hm;rcases hm with hm|rfl
         ·exact ho m hm
         ·show l.op<18;omega
       ·exfalso;rw[aQ,ja hnh,ja e0,ja e1,jb h1]at ha;cases ha
   ·rw[ja ha]at hn;cases hn
structure Shape (q:QP):Prop where
 whole:∀b,b<q.blocks.length->Whole (q.blocks.getD b [])
 has:∀b,∀l∈q.blocks.getD b [],pE false l.op=true
 fits:∀b,∀l∈q.blocks.getD b [],q.fits l=true
theorem l6 {L:List (List ab)}{b:Nat}{l:ab}(h:l∈L.getD b []):L.getD b []∈L:=by
 rw[jA]at h⊢;cases hb:L[b]? with
 |none=>rw[hb]at h;cases h
 |some c=>exact List.mem_of_getElem? hb
theorem tC {text:B}{q:QP}(h:bd text false=(some q,0,0)):Shape q:=by
 by_cases dj:(split 10 text).length>(if false=true then 4000 else 120)
 ·rw[bd,jb dj]at h;cases h
 ·rw[bd,ja dj]at h;split at h
  ·cases h
  ·rename_i tO;split at h
   ·cases h
   ·rename_i xW;split at h
    ·cases h
    ·rename_i yU;split at h
     ·cases h
     ·rename_i hmis;simp only[Prod.mk.injEq,Option.some.injEq,and_true]at h;have hs:=Tm false (countB (aG false (aZ text) ⟨0,0,0⟩ 0).1) (aZ text) ⟨0,0,0⟩ 0 0 QP.empty q tO (by rw[<-h,<-yU]) ⟨fun _=>rfl,fun h=>(by cases h),fun h=>(by cases h),fun b hb=>by simp[QP.empty]at hb,by simp⟩;rw[h]at hmis;refine⟨fun b hb=>hs.whl (by simpa using xW) _ (by simp[hb]),fun b l hl=>hs.has _ (l6 hl) l hl,fun b l hl=> ?_⟩;simp only[QP.misfit,Option.map_eq_none_iff,List.find?_eq_none,Bool.not_eq_true',Bool.not_eq_false]at hmis;exact hmis l (List.mem_flatten.mpr ⟨_,l6 hl,hl⟩)
end RunA
namespace FlwY
open Go Sq Aux PrjS FlwA FlwB FlwC FlwD FlwE FlwF FlwG FlwH FlwI FlwJ FlwK FlwM FlwO FlwP FlwQ FlwS FlwT FlwU FlwV FlwW FlwX
def Full (s:List Nat):Prop:=∀k,k<24->¬s.getD k 0=0
theorem Gu {s:List Nat}(h:Full s)(i:Nat){v:Nat}(hv:¬v=0):Full (s.set i v):=fun k hk=>by
 rw[dA];split
 ·exact hv
 ·exact h k hk
theorem qO {v:Nat}(hv:¬v=0):∀(ps:List (Nat×Nat)) {s:List Nat},Full s->Full (gS v ps s)
 |[],_,h=>h
 |x::ps,_,h=>qO hv ps (Gu h (ah x) hv)
theorem r8:∀(ps:List (Nat×Nat)) {s:List Nat},Full s->Full (dC ps s)
 |[],_,h=>h
 |x::ps,s,h=>r8 ps (s:=s.set (ah x) (if x.2=3 then 8 else 1)) (Gu h (ah x) (by split<;>decide))
theorem J7 (q:QP)(l:ab){s:List Nat}(h:Full s):Full (cG q l s):=by
 unfold cG;split
 ·exact r8 _ h
 ·split
  ·exact r8 _ h
  ·exact h
def Qn (l:ab):Prop:=∀x∈l.places,x.1<12
theorem xL (q:QP){l:ab}(hl:Qn l){s:List Nat}(h:Full s):Full (bm q l s):=by
 have h1:=J7 q l h;unfold bm;split
 ·exact qO (by decide) _ h1
 ·split
  ·refine qO ?_ _ h1;unfold dn;split
   ·apply h
    have:(l.places.getD 1 (0,0)).1<12:=by
     by_cases hp:1<l.places.length
     ·exact hl _ (cY hp)
     ·rw[jA,jG (by omega)];decide
    unfold ah;split<;>omega
   ·decide
  ·split
   ·exact qO (by decide) _ h1
   ·split
    ·exact r8 _ h1
    ·exact h1
theorem oL (l:ab)(i:Nat){s:List Nat}(h:Full s):Full (cv l i s):=by
 unfold cv;split
 ·exact qO (by split<;>decide) _ h
 ·exact h
theorem Gv (l:ab):∀(ns:List Nat) (i:Nat) {s:List Nat},Full s->Full (T9 l ns i s)
 |[],_,_,h=>h
 |_::ns,i,_,h=>Gv l ns (i+1) (oL l i h)
theorem AO (l:ab):∀(ns:List Nat) (i:Nat) {s:List Nat},Full s->∀x∈kR l ns i s,Full x.2
 |[],_,_,_,x,hx=>by cases hx
 |n::ns,i,s,h,x,hx=>by
  rcases jP.mp hx with rfl|hx
  ·exact oL l i h
  ·exact AO l ns (i+1) (oL l i h) x hx
theorem tg (q:QP):∀(ls:List ab) {s:List Nat},(∀l∈ls,Qn l)->Full s->∀x∈eo q ls s,Full x.2
 |[],_,_,_,x,hx=>by cases hx
 |l::ls,s,hl,h,x,hx=>by
  have hp:=xL q (hl l (jM ..)) h;rcases List.mem_append.mp hx with hx|hx
  ·exact AO l l.next 0 hp x hx
  ·exact tg q ls (fun m hm=>hl m (jN _ hm)) (Gv l _ _ hp) x hx
def Qe (N:Nat)(E:List (List Nat)):Prop:=∀b,b<N->E.getD b []=ar\/Full (E.getD b [])
theorem N4 {s t:List Nat}(hs:eI s)(ht:Full t):Full (fD s t):=fun k hk=>by
 rw[kt hs.len,jb hk];intro e;exact ht k hk (Nat.or_eq_zero_iff.mp e).2
theorem tf (N:Nat):∀(M:List (Nat×List Nat)) (E:List (List Nat)) (O:Nat->Bool),Fy E->E.length=N->(∀x∈M,x.1<N/\eI x.2)->(∀x∈M,Full x.2)->Qe N E->Qe N (leads M (E,O)).1
 |[],_,_,_,_,_,_,h=>h
 |x::M,E,O,hE,hl,hM,hF,h=>by
  obtain⟨zo,Ww⟩:=hM x (jM ..);have RU:x.1<E.length:=by omega
  have e:leads (x::M) (E,O)=leads M (eP E x.1 x.2,gY E O x.1 x.2):=rfl;rw[e];refine tf N M _ _ (A9 hE RU Ww) (by rw[x5];exact hl) (fun y hy=>hM y (jN _ hy)) (fun y hy=>hF y (jN _ hy)) fun b hb=> ?_
  rw[oT E x.1 x.2 RU];split
  ·exact .inr (N4 (hE.at RU) (hF x (jM ..)))
  ·exact h b hb
theorem pC:Full aV:=fun k hk=>by
 unfold aV;rw[jA,jO,jb hk];decide
theorem P4 {k:Nat}:ar.getD k 0=0:=by
 unfold ar;rw[jA,jO];split<;>rfl
theorem vy {s:List Nat}(h:Full s):¬s=ar:=fun e=>h 0 (by decide) (by rw[e];exact P4)
structure Qi (q:QP)(E:List (List Nat))(O:Nat->Bool):Prop where
 inv:Inv q E O
 full:Qe q.blocks.length E
theorem KZ (q:QP)(h0:0<q.blocks.length):Qi q (eP (List.replicate q.blocks.length ar) 0 aV) (gY (List.replicate q.blocks.length ar) (fun _=>false) 0 aV):=by
 refine⟨Ow q h0,?_⟩;have cf:Fy (List.replicate q.blocks.length ar):=fun s hs=>by rw[List.eq_of_mem_replicate hs];exact⟨by decide,pj⟩
 exact tf q.blocks.length [(0,aV)] _ (fun _=>false) cf (by simp) (fun x hx=>by rw[jI.mp hx];exact⟨h0,p8⟩) (fun x hx=>by rw[jI.mp hx];exact pC)
  fun b hb=> .inl (by simp[List.getD_eq_getElem?_getD,hb])
theorem Ov (q:QP)(hq:Jy q.blocks.length q)(ie:q.locals.length<=12)(E:List (List Nat))(O:Nat->Bool)(b:Nat)(hb:b<q.blocks.length)(hO:O b=true)(h:Qi q E O):
  Qi q (gJ q E (cC O b false) b).2.1 (gJ q E (cC O b false) b).2.2:=by
 have mQ:=fun b (hb:b<q.blocks.length)=>An hq hb
 refine⟨RY q mQ E O b hb hO h.inv,?_⟩;have hs:=h.inv.ok.at (i:=b) (by rw[h.inv.len];exact hb);have e:(gJ q E (cC O b false) b).2=leads (eo q (q.blocks.getD b []) (E.getD b [])) (E,cC O b false):=ti q _ _;have hf:Full (E.getD b []):=by
  rcases h.full b hb with h1|h1
  ·exact absurd h1 (h.inv.live b hb hO)
  ·exact h1
 have gM:∀l∈q.blocks.getD b [],Qn l:=fun l hl x hx=>by
  have hm:q.blocks.getD b []∈q.blocks:=by rw[jA,jB hb];exact jL hb
  have:=((hq.lines _ hm l hl).places x hx).1;omega
 have:=tf q.blocks.length (eo q (q.blocks.getD b []) (E.getD b [])) E (cC O b false) h.inv.ok h.inv.len (rn q q.blocks.length _ (mQ b hb) hs) (tg q _ gM hf) h.full;rw[<-e]at this;exact this
theorem mV (x:B):(45∈x↔(bitsOf x).testBit 0=true)/\(119∈x↔(bitsOf x).testBit 1=true)/\(110∈x↔(bitsOf x).testBit 2=true)/\(104∈x↔(bitsOf x).testBit 3=true):=by
 unfold bitsOf;by_cases h1:(45:UInt8)∈x<;>by_cases h2:(119:UInt8)∈x<;>by_cases h3:(110:UInt8)∈x<;>by_cases h4:(104:UInt8)∈x<;>simp only[h1,h2,h3,h4,if_true,if_false]<;>decide
theorem zQ {a b:Nat}(h:yY a b)(i:Nat)(ha:a.testBit i=true):b.testBit i=true:=by
 have:(b|||a).testBit i=true:=by rw[Nat.testBit_or,ha,Bool.or_true]
 unfold yY at h;rwa [h]at this
theorem OV {x y:B}(hx:dT x)(h:yY (bitsOf x) (bitsOf y)){c:UInt8}(hc:c∈x):c∈y:=by
 have:=hx.qi c hc;simp only[eE,List.mem_cons,List.not_mem_nil,or_false]at this;rcases this with rfl|rfl|rfl|rfl
 ·exact(mV y).1.mpr (zQ h 0 ((mV x).1.mp hc))
 ·exact(mV y).2.2.1.mpr (zQ h 2 ((mV x).2.2.1.mp hc))
 ·exact(mV y).2.1.mpr (zQ h 1 ((mV x).2.1.mp hc))
 ·exact(mV y).2.2.2.mpr (zQ h 3 ((mV x).2.2.2.mp hc))
theorem OH {x y:B}(h:∀c,c∈x->c∈y):yY (bitsOf x) (bitsOf y):=by
 have:=Ul (a:=y) (b:=x) (c:=y) fun c=>⟨.inl,fun e=>e.elim id (h c)⟩
 exact this.symm
theorem yn {u v:List Nat}{s t:WS}(hs:s.dT)(hu:ss u s)(hv:ss v t)(h:ld u v):Sub s t:=fun k c hc=>by
 by_cases hk:k<24
 ·have:=h k hk;have e1:u.getD k 0=bitsOf (s.at k):=hu k hk;have e2:v.getD k 0=bitsOf (t.at k):=hv k hk;rw[e1,e2]at this;exact OV (hs.fe k) this hc
 ·exfalso;unfold WS.at at hc;rw[jA,jG (by rw[hs.len];omega)]at hc;cases hc
theorem A8 {u v:List Nat}{s t:WS}(hu:ss u s)(hv:ss v t)(h:Sub s t):ld u v:=fun k hk=>by
 have e1:u.getD k 0=bitsOf (s.at k):=hu k hk;have e2:v.getD k 0=bitsOf (t.at k):=hv k hk;rw[e1,e2];exact OH (h k)
section
variable {text:B} {p:RP} {q:QP}
theorem Ix (h:fj text false p q){i:Nat}(hb:p.body i){k:Nat}(hk:(behind (word (p.line i) 0) p.raw).1.getD k 0=78){s:List Nat}{t:WS}(hs:s.length=24)(ht:t.ak.length=24)(hr:ss s t):ss (tz p i k s) (p.eF (p.line i) t k):=by
 unfold tz;by_cases hm:word (p.line i) 0=bT
 ·rw[jb hm];obtain⟨h1,h2⟩:=h.ok.Pc hb hm ht hr;have hf:(behind (word (p.line i) 0) p.raw).1=[111,78,78]:=by rw[hm];rfl
  rw[hf,AP (by decide)]at hk;have hw:=(zD h hb).w 0;rw[hw];rcases hk with rfl|rfl
  ·rw[jb rfl];exact E3 (s8 4 [_] (Ag.self hs)) h1
  ·rw[ja (by decide)];exact E3 (s8 2 [_] (Ag.self hs)) h2
 ·rw[ja hm,Pd hm];exact hr
def B5 (N:Nat)(E:List (List Nat))(b:Nat):WS:=if b<N then⟨!(E.getD b []==ar),(E.getD b []).map fJ⟩else aI
theorem Fw {N:Nat}{E:List (List Nat)}{b:Nat}(hb:b<N):B5 N E b=⟨!(E.getD b []==ar),(E.getD b []).map fJ⟩:=by rw[B5,jb hb]
theorem Bd {s:List Nat}(hs:eI s)(v:Bool){k:Nat}(hk:k<24):(⟨v,s.map fJ⟩:WS).at k=fJ (s.getD k 0):=by
 unfold WS.at;rw[jA,jJ,jA,jB (by rw[hs.len];exact hk)];rfl
theorem HZ {s:List Nat}(hs:eI s)(v:Bool):ss s ⟨v,s.map fJ⟩:=fun k hk=>by
 rw[Bd hs v hk,D7 _ (hs.lt k)]
theorem HH {s:List Nat}(hs:eI s)(v:Bool):(⟨v,s.map fJ⟩:WS).dT:=by
 refine⟨by simpa using hs.len,fun k=> ?_⟩;by_cases hk:k<24
 ·rw[Bd hs v hk];exact Gh _ (hs.lt k)
 ·unfold WS.at;rw[jA,jG (by simp[hs.len];omega)];exact Eh
theorem xx {E:Nat->WS}(hE:∀b,(E b).dT):∀i,(p.along E i).dT
 |0=>tL
 |i+1=>by
  rw[RP.along];split
  ·exact hE _
  ·exact p.kV (xx hE i) _
theorem BI:ss aV j0:=fun k hk=>by
 have h1:aV.getD k 0=1:=by unfold aV;rw[jA,jO,jb hk];rfl
 show aV.getD k 0=_
 rw[h1];exact PA k hk
structure lB (text:B)(p:RP)(q:QP)(E:List (List Nat)):Prop where
 both:fj text false p q
 inv:Qi q E (fun _=>false)
 pos:0<q.blocks.length
theorem lB.ok {E:List (List Nat)}(h:lB text p q E){b:Nat}(hb:b<q.blocks.length):eI (E.getD b []):=h.inv.inv.ok.at (by rw[h.inv.inv.len];exact hb)
theorem lB.fe {E:List (List Nat)}(h:lB text p q E)(b:Nat):(B5 q.blocks.length E b).dT:=by
 unfold B5;split
 ·rename_i hb;exact HH (h.ok hb) _
 ·exact tL
theorem lB.rel {E:List (List Nat)}(h:lB text p q E){b:Nat}(hb:b<q.blocks.length):ss (E.getD b []) (B5 q.blocks.length E b):=by
 rw[Fw hb];exact HZ (h.ok hb) _
theorem lB.known {E:List (List Nat)}{b:Nat}(hb:b<q.blocks.length):(B5 q.blocks.length E b).known=true↔¬E.getD b []=ar:=by
 rw[Fw hb];simp
theorem lB.along {E:List (List Nat)}(h:lB text p q E){i:Nat}(hb:p.body i):ss (iX p q (fun b=>E.getD b []) i) (p.along (B5 q.blocks.length E) i)/\eI (iX p q (fun b=>E.getD b []) i):=by
 have hl:=(D8 h.both hb).2;exact⟨xy h.both (U:=fun b=>E.getD b []) (EW:=B5 q.blocks.length E) (fun b=>(h.fe b).len) i hb (h.ok hl) (h.rel hl),tY h.both (U:=fun b=>E.getD b []) i hb (h.ok hl)⟩
theorem ID (h:fj text false p q){i:Nat}(hb:p.body i){s:List Nat}{t:WS}(hs:eI s)(ht:t.ak.length=24)(hr:ss s t):ss (bm q (p.aH i) s) (p.step (p.line i) t).1:=
 E3 (My (zE h) (zD h hb) hs.len) (h.ok.M9 hb ht hr)
theorem lB.closed {E:List (List Nat)}(h:lB text p q E):mS p (B5 q.blocks.length E):=by
 have H:=h.both;refine⟨fun b=>(h.fe b).len,?_,fun i hb zL k hk=> ?_⟩
 ·constructor
  ·rw[lB.known h.pos];exact cR p8 h.inv.inv.start L5
  ·exact yn rB BI (h.rel h.pos) h.inv.inv.start
 ·obtain⟨hc,hl⟩:=D8 H hb;rw[lB.known hl]at zL;obtain⟨hr,hs⟩:=h.along hb;have hm:=(Iz H (fun b=>E.getD b []) (p.aJ i) (tgt p i k,tz p i k (bm q (p.aH i) (iX p q (fun b=>E.getD b []) i)))).mpr ⟨i,k,hb,hc,hk,rfl⟩;have hle:=h.inv.inv.step (p.aJ i) hl rfl zL _ hm;have cf:=rn q q.blocks.length _ (An H.Yo hl) (h.ok hl) _ hm;have kN:Full (E.getD (p.aJ i) []):=by
   rcases h.inv.full _ hl with e|e
   ·exact absurd e zL
   ·exact e
  have gM:∀l∈q.blocks.getD (p.aJ i) [],Qn l:=fun l hx x hx'=>by
   have YS:q.blocks.getD (p.aJ i) []∈q.blocks:=by rw[jA,jB hl];exact jL hl
   have:=((H.Yo.lines _ YS l hx).places x hx').1;have:=H.aW;omega
  have hF:=tg q _ gM kN _ hm;have RS:(p.along (B5 q.blocks.length E) i).ak.length=24:=fG (fun b=>(h.fe b).len) i;have ir:=ID H hb hs RS hr;have hst24:=p.mM RS (p.line i);have ka:=Ix H hb hk (gm q (p.aH i) hs).len hst24 ir;constructor
  ·exact(lB.known cf.1).mpr (cR cf.2 hle (vy hF))
  ·exact yn (p.lN (p.kV (xx (h.fe) i) (p.line i)) (p.line i) k) ka (h.rel cf.1) hle
def qG (E':Nat->WS)(b:Nat):List Nat:=if(E' b).known=true then(E' b).ak.map bitsOf else ar
theorem Al {E':Nat->WS}(hl:∀b,(E' b).ak.length=24)(b:Nat):eI (qG E' b):=by
 unfold qG;split
 ·refine⟨by simpa using hl b,fun k=> ?_⟩;rw[jA,jJ];cases(E' b).ak[k]? with
  |none=>decide
  |some x=>exact Uk x
 ·exact⟨by decide,pj⟩
theorem rU {E':Nat->WS}(hl:∀b,(E' b).ak.length=24){b:Nat}(hk:(E' b).known=true):ss (qG E' b) (E' b):=fun k GK=>by
 show(qG E' b).getD k 0=_
 unfold qG;rw[jb hk];unfold WS.at;rw[jA,jJ,jA,jB (by rw[hl b];exact GK)];rfl
theorem F0 (H:fj text false p q){E':Nat->WS}(hE:mS p E'):rQ q (qG E'):=by
 refine⟨fun b _=>Al hE.len b,A8 BI (rU hE.len hE.start.1) hE.start.2,fun b hb ec x hx=> ?_⟩;have zL:(E' b).known=true:=by
  cases hk:(E' b).known
  ·exact absurd (by unfold qG;rw[hk];rfl) ec
  ·rfl
 obtain⟨i,k,sb,hc,hk,rfl⟩:=(Iz H (qG E') b x).mp hx;have Rm:p.aJ i=b:=by unfold RP.aJ;omega
 have Z6:(E' (p.aJ i)).known=true:=by rw[Rm];exact zL
 have hr:=xy H (U:=qG E') (EW:=E') hE.len i sb (Al hE.len _) (rU hE.len Z6);have hs:=tY H (U:=qG E') i sb (Al hE.len _);have RS:(p.along E' i).ak.length=24:=fG hE.len i;have ir:=ID H sb hs RS hr;have ka:=Ix H sb hk (gm q (p.aH i) hs).len (p.mM RS (p.line i)) ir;obtain⟨h1,h2⟩:=hE.step i sb Z6 k hk;exact A8 ka (rU hE.len h1) h2
theorem lB.least {E:List (List Nat)}(h:lB text p q E):DX p (B5 q.blocks.length E):=fun E' hE b hb hk=>by
 rw[<-h.both.len]at hb;rw[lB.known hb]at hk;have hle:=h.inv.inv.least _ (F0 h.both hE) b hb;have zL:(E' b).known=true:=by
  cases zL:(E' b).known
  ·exfalso;refine cR (h.ok hb) hle hk ?_;unfold qG;rw[zL];rfl
  ·rfl
 exact⟨zL,yn (h.fe b) (h.rel hb) (rU hE.len zL) hle⟩
theorem lB.same {E:List (List Nat)}(h:lB text p q E){L:List WS}(hL:p.iT L):p.cW L p.lines.length 0=FlwX.asInt (aC (cV q E) q.blocks.length 0):=by
 rw[h.both.ok.JY hL h.closed h.least (wrong:=qg p q E) (fun i hb=> ?_),sG,NW h.both];obtain⟨hc,hl⟩:=D8 h.both hb;obtain⟨hr,hs⟩:=h.along hb;unfold qg;rw[NV (zE h.both) (zD h.both hb),h.both.ok.QX hb (xx h.fe i) hr,Fw hl]
end
end FlwY
namespace RunB
open Go Sq Aux Go.Proofs.YtmlgajhhnojdjaaGreatDoor.Own RunA PrjS FlwA FlwB FlwC FlwD FlwE FlwF FlwG FlwH FlwI FlwJ FlwK FlwM FlwO FlwP FlwQ FlwS FlwY
def ot (n v:Nat):Prop:=if n=0 then¬v&&&13=0 else¬v&&&2=0
theorem NZ {n u v:Nat}(h:ot n u)(hl:yY u v):ot n v:=by
 have key:∀m,¬u&&&m=0->¬v&&&m=0:=fun m hu hv=>hu (by
  rw[<-hl,Nat.and_or_distrib_right]at hv;apply Nat.eq_of_testBit_eq
  intro i;have:=congrArg (fun x=>x.testBit i) hv;simp only[Nat.testBit_or,Nat.testBit_and,Nat.zero_testBit]at this⊢
  revert this
  cases u.testBit i<;>cases m.testBit i<;>cases v.testBit i<;>simp)
 unfold ot at*;split at h
 ·rename_i e;rw[jb e];exact key _ h
 ·rename_i e;rw[ja e];exact key _ h
structure lC (q:QP)(X:List Nat)(b s:List Nat):Prop where
 lb:b.length=24
 ls:s.length=24
 at_:∀k,k<24->k∉X->¬q.bB (k/2)=0->ot (b.getD k 0) (s.getD k 0)
def j8 (q:QP)(s:List Nat)(o:Own.Own):Prop:=lC q [] o.boxes s
section
variable {q:QP} {X b s:List Nat}
theorem lC.put (h:lC q X b s)(i:Nat){n v:Nat}(hf:ot n v\/q.bB (i/2)=0){Y:List Nat}(hY:∀k,k∈X->k=i\/k∈Y):lC q Y (b.set i n) (s.set i v):=by
 refine⟨by simpa using h.lb,by simpa using h.ls,fun k hk hn ht=> ?_⟩;rw[dA,dA,h.lb,h.ls];by_cases e:i=k
 ·subst e;rw[jb ⟨rfl,hk⟩,jb ⟨rfl,hk⟩];exact hf.resolve_right ht
 ·rw[ja (fun x=>e x.1),ja (fun x=>e x.1)];refine h.at_ k hk (fun hx=> ?_) ht;rcases hY k hx with h1|h1
  ·exact e h1.symm
  ·exact hn h1
theorem lC.clear (h:lC q X b s)(i:Nat){Y:List Nat}(hY:∀k,k∈X\/k=i->k∈Y):lC q Y (b.set i 0) s:=by
 refine⟨by simpa using h.lb,h.ls,fun k hk hn ht=> ?_⟩;rw[dA,ja (fun x=>hn (hY k (.inr x.1.symm)))];exact h.at_ k hk (fun hx=>hn (hY k (.inl hx))) ht
theorem lC.free (h:lC q X b s)(i:Nat)(v:Nat)(ht:q.bB (i/2)=0):lC q X b (s.set i v):=by
 refine⟨h.lb,by simpa using h.ls,fun k hk hn htk=> ?_⟩;rw[dA,ja (fun x=>htk (by rw[<-x.1];exact ht))];exact h.at_ k hk hn htk
theorem lC.mono (h:lC q X b s){t:List Nat}(ht:t.length=24)(hl:ld s t):lC q X b t:=⟨h.lb,ht,fun k hk hn qv=>NZ (h.at_ k hk hn qv) (hl k hk)⟩
theorem BU:∀(ps:List (Nat×Nat)) {o:Own.Own} {s:List Nat},j8 q s o->j8 q (dC ps s) (Own.take ps o).2
 |[],_,_,h=>h
 |p::ps,o,s,h=>by
  rw[Own.take];refine BU ps (o:=o.clear p) (s:=s.set (ah p) (if p.2=3 then 8 else 1)) ?_;exact lC.put h (ah p) (.inl (by unfold ot;rw[jb rfl];split<;>decide)) (fun k hk=>by cases hk)
theorem BT:∀(ps:List (Nat×Nat)) {o:Own.Own} {X:List Nat} {s:List Nat},lC q X o.boxes s->lC q (X++ps.map ah) (Own.take ps o).2.boxes s
 |[],_,X,_,h=>by simpa [Own.take]using h
 |p::ps,o,X,s,h=>by
  rw[Own.take];have:=BT ps (o:=o.clear p) (X:=X++[ah p]) (s:=s) (h.clear (ah p) (fun k hk=>by simpa using hk));simpa using this
theorem II {m:Nat}:∀(ps:List (Nat×Nat)) (ns:List Nat) {o:Own.Own} {s:List Nat},ps.length=ns.length->(∀n∈ns,ot n m)->lC q (ps.map ah) o.boxes s->j8 q (gS m ps s) (Own.o7 ps ns o)
 |[],_,_,_,_,_,h=>h
 |p::ps,[],_,_,hl,_,_=>by cases hl
 |p::ps,n::ns,o,s,hl,hn,h=>by
  rw[Own.o7];refine II ps ns (o:=o.sA p n) (s:=s.set (ah p) m) (by simpa using hl) (fun k hk=>hn k (jN _ hk)) ?_;exact lC.put h (ah p) (.inl (hn n (jM ..))) (fun k hk=>by simpa using hk)
theorem Ig {m:Nat}{o:Own.Own}(h:j8 q s o)(ts frm:List (Nat×Nat))(hl:ts.length=frm.length)(hv:∀n∈(Own.take frm o).1,ot n m):j8 q (gS m ts (dC frm s)) (o.move ts frm):=by
 unfold Own.move;refine II ts _ (by rw[Go.Proofs.YtmlgajhhnojdjaaGreatDoor.Own.take_len];exact hl) hv ?_;rw[(im ts _).2.2.2];have:=BT ts (o:=(Own.take frm o).2) (X:=[]) (BU frm h);simpa using this
theorem A6 {n v:Nat}(h:jv 2 v=false)(hf:ot n v):¬n=0:=fun e=>by
 unfold ot at hf;rw[jb e]at hf;simp only[jv,Bool.not_eq_eq_eq_not,Bool.not_false,beq_iff_eq]at h;exact hf h
end
section
variable {q:QP}
theorem Hg {x:Nat×Nat}(h:q.bK x 105=true):q.bB x.1=0:=by
 unfold QP.bK QP.kind at h;split at h
 ·cases h
 ·rename_i t ht;have h0:t=0:=by simpa [gF]using h
  subst h0;split at ht
  ·split at ht<;>cases ht
  ·split at ht
   ·split at ht<;>cases ht
   ·simpa using ht
theorem A5 {x:Nat×Nat}(h:q.bK x 111=true)(hx:x.2<=3):q.bB x.1=3/\x.2=0:=by
 unfold QP.bK QP.kind at h;split at h
 ·cases h
 ·rename_i t ht;have h0:t=3:=by simpa [gF]using h
  subst h0;split at ht
  ·split at ht<;>cases ht
  ·split at ht
   ·split at ht<;>cases ht
   ·exact⟨by simpa using ht,by omega⟩
theorem qX {x:Nat×Nat}(h:q.bK x 112=true):¬q.bB x.1=0/\¬(x.2=0/\q.bB x.1=2)/\q.bt x=1:=by
 unfold QP.bK QP.kind at h;split at h
 ·cases h
 ·rename_i t ht;have h0:t=1:=by simpa [gF]using h
  subst h0;split at ht
  ·rename_i cg;split at ht
   ·rename_i h2;exact⟨by omega,by omega,by unfold QP.bt;rw[jb (by omega)]⟩
   ·cases ht
  ·split at ht
   ·rename_i h3;split at ht
    ·rename_i h4;exact⟨by omega,by omega,by unfold QP.bt;rw[jb (by omega)]⟩
    ·cases ht
   ·have:q.bB x.1=1:=by simpa using ht
    exact⟨by omega,by omega,by unfold QP.bt;rw[ja (by omega)];exact this⟩
theorem pK {x:Nat×Nat}(h:q.bK x 109=true):¬q.bB x.1=0:=by
 unfold QP.bK QP.kind at h;split at h
 ·cases h
 ·rename_i t ht;have h0:¬t=0:=by simpa [gF]using h
  split at ht
  ·split at ht
   ·omega
   ·cases ht
  ·split at ht
   ·split at ht
    ·omega
    ·cases ht
   ·have:q.bB x.1=t:=by simpa using ht
    omega
theorem dB (x:Nat×Nat):ah x/2=x.1:=by unfold ah;split<;>omega
theorem ig {x:Nat×Nat}(h:x.1<12):ah x<24:=by unfold ah;split<;>omega
structure kI (q:QP)(l:ab):Prop where
 ok:tS q.locals.length q.blocks.length l
 has:pE false l.op=true
 fits:q.fits l=true
theorem eU {l:ab}(h:q.fits l=true){j:Nat}(hj:j<l.places.length):q.bK (ai l j) ((ag l.op).getD j 0)=true:=by
 unfold QP.fits at h;rw[jH]at h;have key:∀(f:B) (ps:List (Nat×Nat)) (k j:Nat),q.fK f ps k=true->j<ps.length->q.bK (ps.getD j (0,0)) (f.getD (k+j) 0)=true:=by
  intro f ps;induction ps with
  |nil=>intro k j _ hj;simp at hj
  |cons x r ih=>
   intro k j h hj;rw[QP.fK,jH]at h;cases j with
   |zero=>simpa using h.1
   |succ j=>
    have:=ih (k+1) j h.2 (by simpa using hj);rw[show k+1+j=k+(j+1) by omega]at this;simpa using this
 have:=key _ _ 0 j h.1 hj;rw[Nat.zero_add]at this;exact this
theorem N0 {l:ab}(h:q.fits l=true)(cg:l.op=12):q.bt (ai l 0)=q.bt (ai l 1):=by
 unfold QP.fits at h;rw[jH,cg]at h;simpa [ai]using h.2
end
end RunB
end Go.Proofs.YtmlgajhhnojdjaaGreatDoor

import Derived.Test.YtmlgajhhnojdjaaGreatDoorUBH
namespace Go.Proofs.YtmlgajhhnojdjaaGreatDoor
namespace El
open Go Sq Aux Go.Proofs.YtmlgajhhnojdjaaGreatDoor.Own Ex Bal FlwA FlwB FlwC FlwD FlwE FlwF FlwG FlwI FlwJ FlwM FlwS
def tz (v:Nat):Prop:=v=1\/v=2\/v=4\/v=8
instance (v:Nat):Decidable (tz v):=by unfold tz;infer_instance
instance (a b:Nat):Decidable (mC a b):=by unfold mC;infer_instance
theorem rm {v:Nat}(h:tz v):v<16:=by unfold tz at h;omega
theorem Lx {g u:Nat}(hg:tz g)(hu:u<16)(hl:mC g u)(h:dv 2 u=false):g=2:=by
 have:∀g u:Fin 16,tz g.val->mC g.val u.val->dv 2 u.val=false->g.val=2:=by decide
 exact this ⟨g,rm hg⟩ ⟨u,hu⟩ hg hl h
theorem tO {g u:Nat}(hg:tz g)(hu:u<16)(hl:mC g u)(h:dv 6 u=false):g=2\/g=4:=by
 have:∀g u:Fin 16,tz g.val->mC g.val u.val->dv 6 u.val=false->g.val=2\/g.val=4:=by decide
 exact this ⟨g,rm hg⟩ ⟨u,hu⟩ hg hl h
theorem Lw {g u:Nat}(hg:tz g)(hu:u<16)(hl:mC g u)(h:dv 10 u=false):g=2\/g=8:=by
 have:∀g u:Fin 16,tz g.val->mC g.val u.val->dv 10 u.val=false->g.val=2\/g.val=8:=by decide
 exact this ⟨g,rm hg⟩ ⟨u,hu⟩ hg hl h
theorem GI {g u:Nat}(hg:tz g)(hl:mC g u)(h:u=2):g=2:=by
 have:∀g:Fin 16,tz g.val->mC g.val 2->g.val=2:=by decide
 subst h;exact this ⟨g,rm hg⟩ hg hl
theorem GH {g u:Nat}(hg:tz g)(hu:u<16)(hl:mC g u)(h:u&&&2=0):¬g=2:=by
 have:∀g u:Fin 16,tz g.val->mC g.val u.val->u.val&&&2=0->¬g.val=2:=by decide
 exact this ⟨g,rm hg⟩ ⟨u,hu⟩ hg hl h
theorem al {α:Type}(s:List α)(d:α)(i:Nat)(v:α)(k:Nat):(s.set i v).getD k d=if i=k/\k<s.length then v else s.getD k d:=by
 rw[jA,jA,jd];by_cases e:i=k
 ·subst e;by_cases h:i<s.length
  ·simp[h]
  ·simp[h]
 ·simp[e]
structure GC (q:QP)(g:List Nat)(ints:List Int)(boxes:List Nat)(cs:List (Bool×Int)):Prop where
 cl:cs.length=36
 gl:g.length=24
 il:ints.length=12
 bl:boxes.length=24
 bi:∀k,k<24->q.bN (k/2)=0->boxes.getD k 0=0
 bit:∀k,k<24->tz (g.getD k 0)
 int:∀i,i<12->q.bN i=0->g.getD (2*i) 0=2->cs.getD (2*i) (false,0)=(true,ints.getD i 0)
 box:∀k,k<24->¬q.bN (k/2)=0->(g.getD k 0=2↔¬boxes.getD k 0=0)
 cell:∀k,k<24->¬q.bN (k/2)=0->¬boxes.getD k 0=0->cs.getD k (false,0)=(true,((boxes.getD k 0:Nat):Int))
 Bl:∀i,i<12->q.bN i=3->g.getD (2*i) 0=2\/g.getD (2*i) 0=8->cs.getD (24+i) (false,0)=(true,1)
 GJ:∀i,i<12->q.bN i=3->g.getD (2*i) 0=4->cs.getD (24+i) (false,0)=(true,0)
section
variable {q:QP} {g:List Nat} {ints:List Int} {boxes:List Nat} {cs:List (Bool×Int)}
theorem sn (hg:∀k,k<24->tz (g.getD k 0))(i:Nat){v:Nat}(hv:tz v):∀k,k<24->tz ((g.set i v).getD k 0):=fun k hk=>by
 rw[al];split
 ·exact hv
 ·exact hg k hk
theorem GC.setInt (h:GC q g ints boxes cs){i:Nat}(hi:i<12)(ht:q.bN i=0)(v:Int):GC q (g.set (2*i) 2) (ints.set i v) boxes (cs.set (2*i) (true,v)):=by
 have AH:=h.cl;have sf:=h.gl;have XB:=h.il;refine⟨by simpa using h.cl,by simpa using h.gl,by simpa using h.il,h.bl,h.bi,sn h.bit _ (.inr (.inl rfl)),fun j hj h0 hg=> ?_,fun k hk h0=> ?_,fun k hk h0 hb=> ?_,fun j hj h0 hg=> ?_,fun j hj h0 hg=> ?_⟩
 ·by_cases e:i=j
  ·subst e;rw[al,jb ⟨rfl,by omega⟩,al,jb ⟨rfl,by omega⟩]
  ·rw[al,ja (by omega)]at hg;rw[al,ja (by omega),al,ja (by omega)];exact h.int j hj h0 hg
 ·rw[al,ja (fun e=>h0 (by rw[<-e.1,show 2*i/2=i by omega];exact ht))];exact h.box k hk h0
 ·rw[al,ja (fun e=>h0 (by rw[<-e.1,show 2*i/2=i by omega];exact ht))];exact h.cell k hk h0 hb
 ·have dB:¬i=j:=fun e=>by subst e;omega
  rw[al,ja (by omega)]at hg;rw[al,ja (by omega)];exact h.Bl j hj h0 hg
 ·have dB:¬i=j:=fun e=>by subst e;omega
  rw[al,ja (by omega)]at hg;rw[al,ja (by omega)];exact h.GJ j hj h0 hg
theorem GC.take (h:GC q g ints boxes cs){k:Nat}(hk:k<24)(ht:¬q.bN (k/2)=0){v:Nat}(hv:v=1\/v=8/\(g.getD k 0=2\/g.getD k 0=8)):GC q (g.set k v) ints (boxes.set k 0) cs:=by
 have sf:=h.gl;have qS:=h.bl;have hb:tz v:=by rcases hv with e|⟨e,-⟩<;>(subst e;decide)
 refine⟨h.cl,by simpa using h.gl,h.il,by simpa using h.bl,fun j hj h0=> ?_,sn h.bit _ hb,fun j hj h0 hg=> ?_,fun j hj h0=> ?_,fun j hj h0 hb=> ?_,fun j hj h0 hg=> ?_,fun j hj h0 hg=> ?_⟩
 ·rw[al,ja (fun e=>ht (by rw[e.1];exact h0))];exact h.bi j hj h0
 ·rw[al,ja (fun e=>ht (by rw[e.1,show 2*j/2=j by omega];exact h0))]at hg;exact h.int j hj h0 hg
 ·rw[al,al];by_cases e:k=j
  ·rw[jb ⟨e,by omega⟩,jb ⟨e,by omega⟩];exact⟨fun e2=>by omega,fun e2=>absurd rfl e2⟩
  ·rw[ja (fun x=>e x.1),ja (fun x=>e x.1)];exact h.box j hj h0
 ·rw[al]at hb⊢;by_cases e:k=j
  ·rw[jb ⟨e,by omega⟩]at hb;exact absurd rfl hb
  ·rw[ja (fun x=>e x.1)]at hb⊢;exact h.cell j hj h0 hb
 ·rw[al]at hg;by_cases e:k=2*j
  ·rw[jb ⟨e,by omega⟩]at hg;rcases hv with e2|⟨-,e2⟩
   ·omega
   ·rw[e]at e2;exact h.Bl j hj h0 e2
  ·rw[ja (fun x=>e x.1)]at hg;exact h.Bl j hj h0 hg
 ·rw[al]at hg;by_cases e:k=2*j
  ·rw[jb ⟨e,by omega⟩]at hg;omega
  ·rw[ja (fun x=>e x.1)]at hg;exact h.GJ j hj h0 hg
theorem GC.DF (h:GC q g ints boxes cs){k n:Nat}(hk:k<24)(ht:¬q.bN (k/2)=0)(hn:¬n=0)(h3:q.bN (k/2)=3->g.getD k 0=2\/g.getD k 0=8):GC q (g.set k 2) ints (boxes.set k n) (cs.set k (true,((n:Nat):Int))):=by
 have sf:=h.gl;have qS:=h.bl;have AH:=h.cl;refine⟨by simpa using h.cl,by simpa using h.gl,h.il,by simpa using h.bl,fun j hj h0=> ?_,sn h.bit _ (.inr (.inl rfl)),fun j hj h0 hg=> ?_,fun j hj h0=> ?_,fun j hj h0 hb=> ?_,fun j hj h0 hg=> ?_,fun j hj h0 hg=> ?_⟩
 ·rw[al,ja (fun e=>ht (by rw[e.1];exact h0))];exact h.bi j hj h0
 ·have dB:¬k=2*j:=fun e=>ht (by rw[e,show 2*j/2=j by omega];exact h0)
  rw[al,ja (fun e=>dB e.1)]at hg;rw[al,ja (fun e=>dB e.1)];exact h.int j hj h0 hg
 ·rw[al,al];by_cases e:k=j
  ·rw[jb ⟨e,by omega⟩,jb ⟨e,by omega⟩];exact⟨fun _=>hn,fun _=>rfl⟩
  ·rw[ja (fun x=>e x.1),ja (fun x=>e x.1)];exact h.box j hj h0
 ·rw[al]at hb;rw[al,al];by_cases e:k=j
  ·rw[jb ⟨e,by omega⟩,jb ⟨e,by omega⟩]
  ·rw[ja (fun x=>e x.1)]at hb;rw[ja (fun x=>e x.1),ja (fun x=>e x.1)];exact h.cell j hj h0 hb
 ·rw[al]at hg;rw[al,ja (by omega)];by_cases e:k=2*j
  ·refine h.Bl j hj h0 ?_;rw[<-e];exact h3 (by rw[e,show 2*j/2=j by omega];exact h0)
  ·rw[ja (fun x=>e x.1)]at hg;exact h.Bl j hj h0 hg
 ·rw[al]at hg;rw[al,ja (by omega)];by_cases e:k=2*j
  ·rw[jb ⟨e,by omega⟩]at hg;omega
  ·rw[ja (fun x=>e x.1)]at hg;exact h.GJ j hj h0 hg
theorem GC.none (h:GC q g ints boxes cs){i:Nat}(hi:i<12)(ht:q.bN i=3):GC q (g.set (2*i) 4) ints (boxes.set (2*i) 0) (cs.set (24+i) (true,0)):=by
 have sf:=h.gl;have qS:=h.bl;have AH:=h.cl;refine⟨by simpa using h.cl,by simpa using h.gl,h.il,by simpa using h.bl,fun j hj h0=> ?_,sn h.bit _ (.inr (.inr (.inl rfl))),fun j hj h0 hg=> ?_,fun j hj h0=> ?_,fun j hj h0 hb=> ?_,fun j hj h0 hg=> ?_,fun j hj h0 hg=> ?_⟩
 ·rw[al,ja (fun e=>by rw[<-e.1,show 2*i/2=i by omega]at h0;omega)];exact h.bi j hj h0
 ·have dB:¬i=j:=fun e=>by subst e;omega
  rw[al,ja (by omega)]at hg;rw[al,ja (by omega)];exact h.int j hj h0 hg
 ·rw[al,al];by_cases e:2*i=j
  ·rw[jb ⟨e,by omega⟩,jb ⟨e,by omega⟩];exact⟨fun e2=>by omega,fun e2=>absurd rfl e2⟩
  ·rw[ja (fun x=>e x.1),ja (fun x=>e x.1)];exact h.box j hj h0
 ·rw[al]at hb;by_cases e:2*i=j
  ·rw[jb ⟨e,by omega⟩]at hb;exact absurd rfl hb
  ·rw[ja (fun x=>e x.1)]at hb;rw[al,ja (by omega),al,ja (fun x=>e x.1)];exact h.cell j hj h0 hb
 ·rw[al]at hg;by_cases e:i=j
  ·subst e;rw[jb ⟨rfl,by omega⟩]at hg;omega
  ·rw[ja (by omega)]at hg;rw[al,ja (by omega)];exact h.Bl j hj h0 hg
 ·rw[al]at hg;by_cases e:i=j
  ·subst e;rw[al,jb ⟨rfl,by omega⟩]
  ·rw[ja (by omega)]at hg;rw[al,ja (by omega)];exact h.GJ j hj h0 hg
theorem GC.some (h:GC q g ints boxes cs){i n:Nat}(hi:i<12)(ht:q.bN i=3)(hn:¬n=0):GC q (g.set (2*i) 2) ints (boxes.set (2*i) n) ((cs.set (24+i) (true,1)).set (2*i) (true,((n:Nat):Int))):=by
 have sf:=h.gl;have qS:=h.bl;have AH:=h.cl;refine⟨by simpa using h.cl,by simpa using h.gl,h.il,by simpa using h.bl,fun j hj h0=> ?_,sn h.bit _ (.inr (.inl rfl)),fun j hj h0 hg=> ?_,fun j hj h0=> ?_,fun j hj h0 hb=> ?_,fun j hj h0 hg=> ?_,fun j hj h0 hg=> ?_⟩
 ·rw[al,ja (fun e=>by rw[<-e.1,show 2*i/2=i by omega]at h0;omega)];exact h.bi j hj h0
 ·have dB:¬i=j:=fun e=>by subst e;omega
  rw[al,ja (by omega)]at hg;rw[al,ja (by omega),al,ja (by omega)];exact h.int j hj h0 hg
 ·rw[al,al];by_cases e:2*i=j
  ·rw[jb ⟨e,by omega⟩,jb ⟨e,by omega⟩];exact⟨fun _=>hn,fun _=>rfl⟩
  ·rw[ja (fun x=>e x.1),ja (fun x=>e x.1)];exact h.box j hj h0
 ·rw[al]at hb;rw[al,al (s:=boxes)];by_cases e:2*i=j
  ·rw[jb ⟨e,by simp;omega⟩,jb ⟨e,by omega⟩]
  ·rw[ja (fun x=>e x.1)]at hb;rw[ja (fun x=>e x.1),ja (fun x=>e x.1),al,ja (by omega)];exact h.cell j hj h0 hb
 ·rw[al]at hg;rw[al,ja (by omega),al];by_cases e:i=j
  ·rw[jb ⟨by omega,by omega⟩]
  ·rw[ja (by omega)]at hg;rw[ja (by omega)];exact h.Bl j hj h0 hg
 ·rw[al]at hg;rw[al,ja (by omega),al];by_cases e:i=j
  ·subst e;rw[jb ⟨rfl,by omega⟩]at hg;omega
  ·rw[ja (by omega)]at hg;rw[ja (by omega)];exact h.GJ j hj h0 hg
theorem GC.start (q:QP):GC q aT (List.replicate 12 0) (List.replicate 24 0) (List.replicate 36 (false,0)):=by
 have hs:∀k,k<24->aT.getD k 0=1:=fun k hk=>by
  show(List.replicate 24 1).getD k 0=1;rw[jA,jO,jb hk];rfl
 have hb:∀k,(List.replicate 24 0).getD k 0=0:=fun k=>by
  rw[jA,jO];split<;>rfl
 refine⟨by simp,by decide,by simp,by simp,fun k _ _=>hb k,fun k hk=> .inl (hs k hk),fun i hi _ h=> ?_,fun k hk _=> ?_,fun k hk _ h=>absurd (hb k) h,fun i hi _ h=> ?_,fun i hi _ h=> ?_⟩
 ·rw[hs _ (by omega)]at h;omega
 ·rw[hs k hk,hb k];exact⟨fun h=>by omega,fun h=>absurd rfl h⟩
 ·rw[hs _ (by omega)]at h;omega
 ·rw[hs _ (by omega)]at h;omega
end
def DB (un:Bool)(was Kg:Nat)(aZ:Bool):Bool:=if un=false then aZ else if Kg=2/\¬was=2 then true else if Kg&&&2=0/\¬was&&&2=0 then false else aZ
theorem BY {R:QP}{room:Int}{un:List Bool}{s t:List Nat}{b:Br}(hf:b.flags.length=50):∀(n:Nat) {is:List Item} {rs:List ab},n<=24->Laid R.blocks (a8 un s t n++is) rs->
  ∃m rs' fl,m<=n/\cS R room m rs b rs' {b with flags:=fl}/\Laid R.blocks is rs'/\fl.length=50/\∀k,fl.getD k false=if k<n then DB (un.getD k false) (s.getD k 0) (t.getD k 0) (b.flags.getD k false)else b.flags.getD k false
 |0,is,rs,_,hL=>⟨0,rs,b.flags,jC _,.refl _ _,by simpa [a8]using hL,hf,fun k=>by rw[ja (by omega)]⟩
 |n+1,is,rs,hn,hL=>by
  have e:a8 un s t (n+1)++is=a8 un s t n++(eM (un.getD n false) (s.getD n 0) (t.getD n 0) n++is):=by simp[a8,List.range_succ]
  rw[e]at hL;obtain⟨m,rs1,fl,h1,h2,h3,h4,h5⟩:=BY hf n (by omega) hL;have XP:fl.getD n false=b.flags.getD n false:=by rw[h5,ja (by omega)]
  unfold eM at h3;by_cases c1:un.getD n false=false
  ·rw[jb c1]at h3;refine⟨m,rs1,fl,by omega,h2,h3,h4,fun k=> ?_⟩;by_cases ek:k=n
   ·subst ek;rw[jb (by omega),DB,jb c1,XP]
   ·rw[h5 k];by_cases hk:k<n
    ·rw[jb hk,jb (by omega)]
    ·rw[ja hk,ja (by omega)]
  rw[ja c1]at h3;have fin:∀v:Int,DB (un.getD n false) (s.getD n 0) (t.getD n 0) (b.flags.getD n false)=(v==1)->Laid R.blocks (.line (dE n v)::is) rs1->∃m rs' fl,m<=n+1/\cS R room m rs b rs' {b with flags:=fl}/\Laid R.blocks is rs'/\fl.length=50/\∀k,fl.getD k false=if k<n+1 then DB (un.getD k false) (s.getD k 0) (t.getD k 0) (b.flags.getD k false)else b.flags.getD k false:=fun v hv J5=>by
   obtain⟨rs',rfl,EY⟩:=J5;refine⟨m+1,rs',fl.set n (v==1),by omega,h2.trans (.one (tP _ _ _ _)),EY,by simpa using h4,fun k=> ?_⟩;rw[al];by_cases ek:n=k
   ·subst ek;rw[jb ⟨rfl,by omega⟩,jb (by omega),hv]
   ·rw[ja (fun x=>ek x.1),h5 k];by_cases hk:k<n
    ·rw[jb hk,jb (by omega)]
    ·rw[ja hk,ja (by omega)]
  by_cases c2:t.getD n 0=2/\¬s.getD n 0=2
  ·rw[jb c2]at h3;exact fin 1 (by rw[DB,ja c1,jb c2];rfl) h3
  rw[ja c2]at h3;by_cases c3:t.getD n 0&&&2=0/\¬s.getD n 0&&&2=0
  ·rw[jb c3]at h3;exact fin 0 (by rw[DB,ja c1,ja c2,jb c3];rfl) h3
  ·rw[ja c3]at h3;refine⟨m,rs1,fl,by omega,h2,h3,h4,fun k=> ?_⟩;by_cases ek:k=n
   ·subst ek;rw[jb (by omega),DB,ja c1,ja c2,ja c3,XP]
   ·rw[h5 k];by_cases hk:k<n
    ·rw[jb hk,jb (by omega)]
    ·rw[ja hk,ja (by omega)]
end El
namespace El
open Go Sq Aux Go.Proofs.YtmlgajhhnojdjaaGreatDoor.Own RunA RunB Ex Bal PrjS FlwA FlwB FlwC FlwD FlwE FlwF FlwG FlwH FlwJ FlwM FlwS
def Alike (s g s' g':List Nat)(k:Nat):Prop:=(s'.getD k 0=s.getD k 0/\g'.getD k 0=g.getD k 0)\/∃v,tz v/\s'.getD k 0=v/\g'.getD k 0=v
theorem Alike.refl (s g:List Nat)(k:Nat):Alike s g s g k:=.inl ⟨rfl,rfl⟩
theorem Alike.trans {s g s1 g1 s2 g2:List Nat}{k:Nat}(h:Alike s g s1 g1 k)(h':Alike s1 g1 s2 g2 k):Alike s g s2 g2 k:=by
 rcases h' with⟨h1,h2⟩|h'
 ·rcases h with⟨h3,h4⟩|⟨v,hv,h3,h4⟩
  ·exact .inl ⟨h1.trans h3,h2.trans h4⟩
  ·exact .inr ⟨v,hv,h1.trans h3,h2.trans h4⟩
 ·exact .inr h'
theorem By {s g:List Nat}(hs:s.length=24)(hg:g.length=24)(i:Nat){v:Nat}(hv:tz v)(k:Nat):Alike s g (s.set i v) (g.set i v) k:=by
 unfold Alike;rw[al,al,hs,hg];by_cases e:i=k/\k<24
 ·rw[jb e,jb e];exact .inr ⟨v,hv,rfl,rfl⟩
 ·rw[ja e,ja e];exact .inl ⟨rfl,rfl⟩
theorem Gf (m:Nat):∀(ps:List (Nat×Nat)) (s:List Nat),(gu m ps s).length=s.length
 |[],_=>rfl
 |x::ps,s=>by show(gu m ps (s.set _ m)).length=_;rw[Gf m ps];simp
theorem qC:∀(ps:List (Nat×Nat)) (s:List Nat),(dQ ps s).length=s.length
 |[],_=>rfl
 |x::ps,s=>by show(dQ ps (s.set _ _)).length=_;rw[qC ps];simp
theorem qi {m:Nat}(hm:tz m)(k:Nat):∀(ps:List (Nat×Nat)) {s g:List Nat},s.length=24->g.length=24->Alike s g (gu m ps s) (gu m ps g) k
 |[],_,_,_,_=> .refl _ _ _
 |x::ps,s,g,hs,hg=>(By hs hg (ae x) hm k).trans (qi hm k ps (by simpa using hs) (by simpa using hg))
theorem PD (x:Nat×Nat):tz (if x.2=3 then 8 else 1):=by split<;>decide
theorem og (k:Nat):∀(ps:List (Nat×Nat)) {s g:List Nat},s.length=24->g.length=24->Alike s g (dQ ps s) (dQ ps g) k
 |[],_,_,_,_=> .refl _ _ _
 |x::ps,s,g,hs,hg=>(By hs hg (ae x) (PD x) k).trans (og k ps (by simpa using hs) (by simpa using hg))
theorem iX (q:QP)(l:ab)(s:List Nat):(aL q l s).length=s.length:=by
 unfold aL;split
 ·exact qC _ _
 split
 ·exact qC _ _
 ·rfl
theorem vK (q:QP)(l:ab)(k:Nat){s g:List Nat}(hs:s.length=24)(hg:g.length=24):Alike s g (aL q l s) (aL q l g) k:=by
 unfold aL;split
 ·exact og k _ hs hg
 split
 ·exact og k _ hs hg
 ·exact .refl _ _ _
theorem mI {q:QP}{x:Nat×Nat}(h:q.aJ x=3):q.bN x.1=3/\¬(x.2=1\/x.2=2\/x.2=3):=by
 unfold QP.aJ at h;split at h
 ·omega
 ·exact⟨h,by assumption⟩
theorem dP {q:QP}{x:Nat×Nat}(h:q.aJ x=3):QP.ai q x=[x]/\ae x=2*x.1:=by
 obtain⟨h1,h2⟩:=mI h;refine⟨?_,?_⟩
 ·unfold QP.ai;rw[ja (by omega)]
 ·unfold ae;rw[ja (by omega)]
theorem ri (q:QP)(l:ab)(k:Nat){s g:List Nat}(hs:s.length=24)(hg:g.length=24)(hk:l.op=12->q.aJ (ag l 0)=q.aJ (ag l 1)):
  Alike s g (aq q l s) (aq q l g) k\/(l.op=12/\q.aJ (ag l 0)=3/\q.aJ (ag l 1)=3/\k=ae (ag l 0)/\(aq q l s).getD k 0=s.getD (ae (ag l 1)) 0/\(aq q l g).getD k 0=g.getD (ae (ag l 1)) 0):=by
 have ht:=vK q l k hs hg;have iQ:(aL q l s).length=24:=by rw[iX];exact hs
 have G3:(aL q l g).length=24:=by rw[iX];exact hg
 unfold aq;by_cases h1:qW l.op=true
 ·rw[jb h1,jb h1];exact .inl (ht.trans (qi (.inr (.inl rfl)) k _ iQ G3))
 rw[ja h1,ja h1];by_cases h2:l.op=12
 ·rw[jb h2,jb h2];by_cases h3:q.aJ (ag l 1)=3
  ·have h0:=(hk h2).trans h3;obtain⟨e0,e1⟩:=dP h0;have em:∀t:List Nat,cJ q (l.places.getD 1 (0,0)) t=t.getD (ae (ag l 1)) 0:=fun t=>by unfold cJ;exact jb h3
   rw[em,em];have e2:QP.ai q (l.places.getD 0 (0,0))=[ag l 0]:=e0;rw[e2];by_cases ek:ae (ag l 0)=k/\k<24
   ·refine .inr ⟨h2,h0,h3,ek.1.symm,?_,?_⟩
    ·show((aL q l s).set (ae (ag l 0)) _).getD k 0=_
     rw[al,jb (by rw[iQ];exact ek)]
    ·show((aL q l g).set (ae (ag l 0)) _).getD k 0=_
     rw[al,jb (by rw[G3];exact ek)]
   ·refine .inl (ht.trans (.inl ⟨?_,?_⟩))
    ·show((aL q l s).set (ae (ag l 0)) _).getD k 0=_
     rw[al,ja (by rw[iQ];exact ek)]
    ·show((aL q l g).set (ae (ag l 0)) _).getD k 0=_
     rw[al,ja (by rw[G3];exact ek)]
  ·have em:∀t:List Nat,cJ q (l.places.getD 1 (0,0)) t=2:=fun t=>by unfold cJ;exact ja h3
   rw[em,em];exact .inl (ht.trans (qi (.inr (.inl rfl)) k _ iQ G3))
 rw[ja h2,ja h2];by_cases h3:l.op=13
 ·rw[jb h3,jb h3];exact .inl (ht.trans (qi (.inr (.inr (.inl rfl))) k _ iQ G3))
 rw[ja h3,ja h3];by_cases h4:l.op=15
 ·rw[jb h4,jb h4];exact .inl (ht.trans (og k _ iQ G3))
 rw[ja h4,ja h4];exact .inl ht
theorem H0 {sk gk tk hk:Nat}{aZ:Bool}(hg:tz gk)(hs:sk<16)(hle:mC gk sk)(hold:aZ=decide (gk=2))(h:(tk=sk/\hk=gk)\/∃v,tz v/\tk=v/\hk=v):DB true sk tk aZ=decide (hk=2):=by
 unfold DB;rw[ja (by decide)];rcases h with⟨rfl,rfl⟩|⟨v,hv,rfl,rfl⟩
 ·rw[ja (fun e=>e.2 e.1),ja (fun e=>e.2 e.1)];exact hold
 ·by_cases e:hk=2
  ·rw[decide_eq_true e];by_cases e2:sk=2
   ·rw[ja (fun x=>x.2 e2),ja (fun x=>absurd x.1 (by rw[e];decide)),hold];exact decide_eq_true (GI hg hle e2)
   ·rw[jb ⟨e,e2⟩]
  ·rw[decide_eq_false e,ja (fun x=>e x.1)];have hz:hk&&&2=0:=by
    rcases hv with h|h|h|h
    ·rw[h];decide
    ·exact absurd h e
    ·rw[h];decide
    ·rw[h];decide
   by_cases e2:sk&&&2=0
   ·rw[ja (fun x=>x.2 e2),hold];exact decide_eq_false (GH hg hs hle e2)
   ·rw[jb ⟨hz,e2⟩]
structure qJ (q:QP)(un:List Bool)(s g:List Nat)(o:Own.Own)(b:Br):Prop where
 core:GC q g o.ints o.boxes b.cs
 yd:b.yd=o.yd
 aO:b.aO=o.aO
 fl:b.flags.length=50
 YG:∀k,k<24->un.getD k false=true->b.flags.getD k false=decide (g.getD k 0=2)
 le:jv g s
 ok:ey s
 j:gG q s o/\gz q [] o
theorem GC.sok {q:QP}{g:List Nat}{ints:List Int}{boxes:List Nat}{cs:List (Bool×Int)}(h:GC q g ints boxes cs):ey g:=⟨h.gl,fun k=>by
 by_cases hk:k<24
 ·exact rm (h.bit k hk)
 ·rw[jA,jG (by rw[h.gl];omega)];decide⟩
theorem Nh {g u:Nat}(hg:tz g)(hu:u<16)(hl:mC g u)(h:dv 6 u=false)(hn:cg u=false):u=g:=by
 have:∀g u:Fin 16,tz g.val->mC g.val u.val->dv 6 u.val=false->cg u.val=false->u.val=g.val:=by decide
 exact this ⟨g,rm hg⟩ ⟨u,hu⟩ hg hl h hn
theorem cV {fit:Nat}{x:Nat×Nat}{s:List Nat}(h:bI fit [x] s=false):dv fit (s.getD (ae x) 0)=false:=by
 simpa [bI]using h
section
variable {q:QP} {Rb:List (List ab)} {room:Int} {un:List Bool} {s g:List Nat} {o o':Own.Own} {b b2:Br} {l:ab} {is:List Item} {rs:List ab}
theorem xl (h2:l.op=12)(h3:q.aJ (ag l 1)=3)(hf:aE q l s=false):dv 6 (s.getD (ae (ag l 1)) 0)=false:=by
 unfold aE at hf;rw[ja (by omega),ja (by omega),ja (by omega),ja (by omega),ja (by omega),jb h2,Bool.or_eq_false_iff]at hf;have:=hf.1;unfold fW at this;rw[iF,jb h3]at this;exact cV this
theorem DG (m:Nat):∀(ps:List (Nat×Nat)) (s:List Nat) (k:Nat),(gu m ps s).getD k 0=if k∈ps.map ae/\k<s.length then m else s.getD k 0
 |[],s,k=>by rw[ja (by simp)];rfl
 |x::ps,s,k=>by
  show(gu m ps (s.set (ae x) m)).getD k 0=_
  rw[DG m ps,al,List.length_set];by_cases h1:k∈ps.map ae/\k<s.length
  ·rw[jb h1,jb ⟨by simp only[List.map_cons,List.mem_cons];exact .inr h1.1,h1.2⟩]
  ·rw[ja h1];by_cases h2:ae x=k/\k<s.length
   ·rw[jb h2,jb ⟨by simp only[List.map_cons,List.mem_cons];exact .inl h2.1.symm,h2.2⟩]
   ·rw[ja h2,ja (fun e=>by
     rcases jP.1 (show k∈ae x::ps.map ae from e.1)with h|h
     ·exact h2 ⟨h.symm,e.2⟩
     ·exact h1 ⟨h,e.2⟩)]
theorem xx (q:QP)(x:Nat×Nat):ae x∈(QP.ai q x).map ae:=by
 rcases bo q x with⟨e,-⟩|⟨e,e1,-⟩<;>rw[e]
 ·simp
 ·simp[ae,e1]
theorem xm (h2:l.op=12)(h3:¬q.aJ (ag l 1)=3)(hs:ae (ag l 0)<s.length):(aq q l s).getD (ae (ag l 0)) 0=2:=by
 have em:cJ q (l.places.getD 1 (0,0)) s=2:=by unfold cJ;exact ja h3
 unfold aq;rw[ja (by rw[h2];decide),jb h2,em,DG,jb ⟨xx q (ag l 0),by rw[iX];exact hs⟩]
theorem finish (h:qJ q un s g o b)(hl:eU q l)(bR:q.locals.length<=12)(hf:aE q l s=false)(hcore:GC q (aq q l g) o'.ints o'.boxes b2.cs)(hy:b2.yd=o'.yd)(hi:b2.aO=o'.aO)(lf:b2.flags=b.flags)(hj:gG q (aq q l s) o'/\gz q [] o')
  (hL:Laid Rb (a8 un s (aq q l s) 24++((if l.op=12 then bJ un (aq q l s) (ag l 0)else [])++is)) rs):
  ∃m rs' b',m<=28/\cS ⟨q.locals,Rb⟩ room m rs b2 rs' b'/\Laid Rb is rs'/\qJ q un (aq q l s) (aq q l g) o' b':=by
 have hgok:=h.core.sok;have Cc:=fU q l h.ok;have Ux:=zY q l hgok h.ok h.le;obtain⟨m,rs1,fl,h1,fy,J5,h4,h5⟩:=BY (R:=⟨q.locals,Rb⟩) (room:=room) (un:=un) (s:=s) (t:=aq q l s) (b:=b2) (by rw[lf];exact h.fl) 24 (jC _) hL;have hk:=fun e=>qo hl.fits e
 have same:∀k,k<24->un.getD k false=true->Alike s g (aq q l s) (aq q l g) k->fl.getD k false=decide ((aq q l g).getD k 0=2):=fun k hk24 hu ha=>by
  rw[h5 k,jb hk24,hu,lf];exact H0 (h.core.bit k hk24) (h.ok.lt k) (h.le k hk24) (h.YG k hk24 hu) ha
 have done:∀(_:∀k,k<24->un.getD k false=true->fl.getD k false=decide ((aq q l g).getD k 0=2)),Laid Rb is rs1->∃m rs' b',m<=28/\cS ⟨q.locals,Rb⟩ room m rs b2 rs' b'/\Laid Rb is rs'/\qJ q un (aq q l s) (aq q l g) o' b':=fun hfk EY=>
  ⟨m,rs1,_,by omega,fy,EY,⟨hcore,hy,hi,h4,hfk,Ux,Cc,hj⟩⟩
 by_cases h2:l.op=12
 ·rw[jb h2]at J5;by_cases h3:q.aJ (ag l 1)=3
  ·have YH:=(hk h2).trans h3;have Ka:=xl h2 h3 hf;have hlen:l.places.length=2:=by rw[hl.ok.bt,h2];rfl
   have p0:=ba hl (j:=0) (by omega);have p1:=ba hl (j:=1) (by omega);have iQ:ae (ag l 1)<24:=cx (by omega);have yj:ae (ag l 0)<24:=cx (by omega);obtain⟨-,Ya⟩:=dP YH;have aG:=h.core.bit _ iQ;have Dk:=tO aG (h.ok.lt _) (h.le _ iQ) Ka;have XX:(aq q l s).getD (ae (ag l 0)) 0=s.getD (ae (ag l 1)) 0/\(aq q l g).getD (ae (ag l 0)) 0=g.getD (ae (ag l 1)) 0:=by
    have em:∀t:List Nat,cJ q (l.places.getD 1 (0,0)) t=t.getD (ae (ag l 1)) 0:=fun t=>by unfold cJ;exact jb h3
    have e2:QP.ai q (l.places.getD 0 (0,0))=[ag l 0]:=(dP YH).1;have hp:∀t:List Nat,t.length=24->(aq q l t).getD (ae (ag l 0)) 0=t.getD (ae (ag l 1)) 0:=fun t ht=>by
     unfold aq;rw[ja (by rw[h2];decide),jb h2,em,e2];show((aL q l t).set (ae (ag l 0)) _).getD _ 0=_
     rw[al,jb ⟨rfl,by rw[iX,ht];exact yj⟩]
    exact⟨hp s h.ok.len,hp g h.core.gl⟩
   have others:∀k,k<24->¬k=ae (ag l 0)->un.getD k false=true->fl.getD k false=decide ((aq q l g).getD k 0=2):=fun k hk24 dB hu=>by
    rcases ri q l k h.ok.len h.core.gl hk with ha|⟨-,-,-,e,-⟩
    ·exact same k hk24 hu ha
    ·exact absurd e dB
   by_cases hc:un.getD (ae (ag l 0)) false=true/\cg ((aq q l s).getD (ae (ag l 0)) 0)=true
   ·unfold bJ at J5;rw[jb hc]at J5;obtain⟨rs2,rfl,i,j,rfl,LV,EY⟩:=J5;have tX:bA q (ag l 0)=true:=by unfold bA;rw[YH];rfl
    have aX:∀c:Br,c.cs=b2.cs->c.cell ⟨q.locals,Rb⟩ (ag l 0)=(true,if g.getD (ae (ag l 1)) 0=2 then 1 else 0):=fun c ec=>by
     unfold Br.cell;rw[l6 (q:=⟨q.locals,Rb⟩) tX,ec];obtain⟨ht3,-⟩:=mI YH;rcases Dk with e|e
     ·rw[jb e];exact hcore.Bl _ (by omega) ht3 (.inl (by rw[<-Ya,XX.2,e]))
     ·rw[ja (by omega)];exact hcore.GJ _ (by omega) ht3 (by rw[<-Ya,XX.2,e])
    have lq:∀v:Bool,v=decide (g.getD (ae (ag l 1)) 0=2)->∀k,k<24->un.getD k false=true->(fl.set (ae (ag l 0)) v).getD k false=decide ((aq q l g).getD k 0=2):=fun v hv k hk24 hu=>by
     rw[al];by_cases ek:ae (ag l 0)=k
     ·rw[jb ⟨ek,by omega⟩,<-ek,XX.2];exact hv
     ·rw[ja (fun x=>ek x.1)];exact others k hk24 (fun x=>ek x.symm) hu
    have f1:∀(B:Br) (ls:List ab),ix ⟨q.locals,Rb⟩ room (dE (ae (ag l 0)) 1) ls B=some (ls,{B with flags:=B.flags.set (ae (ag l 0)) true}):=fun B ls=>tP B _ 1 ls
    have f0:∀(B:Br) (ls:List ab),ix ⟨q.locals,Rb⟩ room (dE (ae (ag l 0)) 0) ls B=some (ls,{B with flags:=B.flags.set (ae (ag l 0)) false}):=fun B ls=>tP B _ 0 ls
    have hm:=I2 (R:=⟨q.locals,Rb⟩) (room:=room) i j (aX {b2 with flags:=fl.set (ae (ag l 0)) true} rfl);rcases Dk with e|e
    ·rw[jb e,jb rfl]at hm;exact⟨m+(1+1),_,_,by omega,fy.trans (.step (f1 _ _) (.one hm)),EY,⟨hcore,hy,hi,by simpa using h4,lq true (by rw[decide_eq_true e]),Ux,Cc,hj⟩⟩
    ·rw[ja (by rw[ja (by omega)];decide)]at hm;have hm2:ix ⟨q.locals,Rb⟩ room {kg (ag l 0)with next:=[i,j]} [] {b2 with flags:=fl.set (ae (ag l 0)) true}=some ([dE (ae (ag l 0)) 0]++[eB j],{b2 with flags:=fl.set (ae (ag l 0)) true}):=by rw[<-LV];exact hm
     have hg:=B5 (R:=⟨q.locals,Rb⟩) (room:=room) {b2 with flags:=(fl.set (ae (ag l 0)) true).set (ae (ag l 0)) false} j;have hse:(fl.set (ae (ag l 0)) true).set (ae (ag l 0)) false=fl.set (ae (ag l 0)) false:=by simp
     refine⟨m+(1+1+1+1),_,_,by omega,fy.trans (.step (f1 _ _) (.step hm2 (.step (f0 _ _) (.one hg)))),EY,⟨hcore,hy,hi,by simpa using h4,?_,Ux,Cc,hj⟩⟩;show∀k,k<24->un.getD k false=true->((fl.set (ae (ag l 0)) true).set (ae (ag l 0)) false).getD k false=_
     rw[hse];exact lq false (by rw[decide_eq_false (by omega)])
   ·have EY:Laid Rb is rs1:=by
     unfold bJ at J5;rw[ja hc]at J5;exact J5
    refine done (fun k hk24 hu=> ?_) EY;by_cases ek:k=ae (ag l 0)
    ·subst ek;have VR:cg ((aq q l s).getD (ae (ag l 0)) 0)=false:=by
      cases hx:cg ((aq q l s).getD (ae (ag l 0)) 0)with
      |false=>rfl
      |true=>exact absurd ⟨hu,hx⟩ hc
     refine same _ hk24 hu (.inr ⟨g.getD (ae (ag l 1)) 0,aG,?_,XX.2⟩);rw[XX.1]at VR⊢;exact Nh aG (h.ok.lt _) (h.le _ iQ) Ka VR
    ·exact others k hk24 ek hu
  ·have EY:Laid Rb is rs1:=by
    have VR:¬(un.getD (ae (ag l 0)) false=true/\cg ((aq q l s).getD (ae (ag l 0)) 0)=true):=fun hx=>by
     have hlen:l.places.length=2:=by rw[hl.ok.bt,h2];rfl
     have p0:=ba hl (j:=0) (by omega);have:=hx.2;rw[xm h2 h3 (by rw[h.ok.len];exact cx (by omega))]at this;exact absurd this (by decide)
    unfold bJ at J5;rw[ja VR]at J5;exact J5
   refine done (fun k hk24 hu=> ?_) EY;rcases ri q l k h.ok.len h.core.gl hk with ha|⟨-,-,e,-⟩
   ·exact same k hk24 hu ha
   ·exact absurd e h3
 ·rw[ja h2]at J5;refine done (fun k hk24 hu=> ?_) J5;rcases ri q l k h.ok.len h.core.gl hk with ha|⟨e,-⟩
  ·exact same k hk24 hu ha
  ·exact absurd e h2
end
end El
namespace El
open Go Sq Aux Go.Proofs.YtmlgajhhnojdjaaGreatDoor.Own RunA RunB Ex Bal PrjS FlwA FlwB FlwC FlwD FlwE FlwF FlwG FlwH FlwJ FlwM FlwS
section
variable {q:QP} {x:Nat×Nat}
theorem my (h:q.aB x 105=true):q.bN x.1=0/\ae x=2*x.1/\bA q x=false:=by
 have h0:=sI h;have h1:¬(x.2=1\/x.2=2\/x.2=3):=fun e=>by
  unfold QP.aB QP.kind at h;rw[h0]at h;rcases e with e|e|e<;>rw[e]at h<;>simp at h
 refine⟨h0,?_,?_⟩
 ·unfold ae;rw[ja (by omega)]
 ·unfold bA QP.aJ;rw[ja h1,h0];rfl
theorem so (h:q.aB x 112=true):¬q.bN x.1=0/\bA q x=false/\QP.ai q x=[x]/\(q.bN x.1=3->x.2=3):=by
 obtain⟨h1,h2,h3⟩:=ei h;refine⟨h1,lB h,?_,fun e=> ?_⟩
 ·rcases bo q x with⟨e,-⟩|⟨-,e1,e2⟩
  ·exact e
  ·exact absurd ⟨e1,e2⟩ h2
 ·unfold QP.aJ at h3;by_cases e2:x.2=1\/x.2=2\/x.2=3
  ·rcases e2 with e2|e2|e2
   ·unfold QP.aB QP.kind at h;rw[e2,e]at h;simp at h
   ·unfold QP.aB QP.kind at h;rw[e2,e]at h;simp at h
   ·exact e2
  ·rw[ja e2]at h3;omega
end
section
variable {q:QP} {Rb:List (List ab)} {room:Int} {un:List Bool} {s g:List Nat} {o:Own.Own} {b:Br} {l:ab} {x:Nat×Nat}
theorem GC.oP (h:GC q g o.ints o.boxes b.cs)(hk:q.aB x 105=true)(hx:x.1<12)(hg:g.getD (ae x) 0=2):b.cell ⟨q.locals,Rb⟩ x=(true,o.num x):=by
 obtain⟨h1,h2,h3⟩:=my hk;rw[fj (R:=⟨q.locals,Rb⟩) h3,h2];exact h.int x.1 hx h1 (by rw[<-h2];exact hg)
theorem GC.qF (h:GC q g o.ints o.boxes b.cs)(ht:bA q x=false)(hx:x.1<12)(h0:¬q.bN x.1=0)(hg:g.getD (ae x) 0=2):b.cell ⟨q.locals,Rb⟩ x=(true,((o.box x:Nat):Int))/\¬o.box x=0:=by
 have hs:=cx hx;have Zt:¬q.bN (ae x/2)=0:=by rw[bu];exact h0
 have hb:=(h.box _ hs Zt).1 hg;rw[fj (R:=⟨q.locals,Rb⟩) ht];exact⟨h.cell _ hs Zt hb,hb⟩
theorem qJ.two (h:qJ q un s g o b)(hx:x.1<12)(hl:dv 2 (s.getD (ae x) 0)=false):g.getD (ae x) 0=2:=
 Lx (h.core.bit _ (cx hx)) (h.ok.lt _) (h.le _ (cx hx)) hl
theorem kq {fit:Nat}{x y:Nat×Nat}{s:List Nat}(h:bI fit [x,y] s=false):dv fit (s.getD (ae x) 0)=false/\dv fit (s.getD (ae y) 0)=false:=by
 simpa [bI]using h
theorem qH (b:Br)(hk:q.aB x 105=true)(v:Int):b.write ⟨q.locals,Rb⟩ x v={b with cs:=b.cs.set (2*x.1) (true,v)}:=by
 obtain⟨-,h2,h3⟩:=my hk;unfold Br.write;rw[jh (q:=⟨q.locals,Rb⟩) h3,h2]
theorem rP {b:Br}(R:QP)(ls:List ab)(ak:¬l.op=6/\¬l.op=9/\l.op<18)(mi:b.breaks R l=false):ix R room l ls b=some (ls,b.cz R l):=by
 unfold ix;rw[mi,ja (by decide),ja ak.1,ja ak.2.1,ja (by omega),ja (by omega)]
theorem C2 (ak:l.op=3\/l.op=4\/l.op=5\/l.op=6)(hf:aE q l s=false):dv 2 (s.getD (ae (ag l 1)) 0)=false/\dv 2 (s.getD (ae (ag l 2)) 0)=false:=by
 unfold aE at hf;rw[jb ak,iF,iF]at hf;exact kq hf
theorem oh (h:qJ q un s g o b)(hl:eU q l)(bR:q.locals.length<=12)(hf:aE q l s=false)(ak:l.op=3\/l.op=4\/l.op=5\/l.op=6):
  b.breaks ⟨q.locals,Rb⟩ l=false/\b.val ⟨q.locals,Rb⟩ (ag l 1)=o.num (ag l 1)/\b.val ⟨q.locals,Rb⟩ (ag l 2)=o.num (ag l 2)/\(ag l 0).1<12/\q.aB (ag l 0) 105=true:=by
 have hlen:l.places.length=3:=by rw[hl.ok.bt];rcases ak with e|e|e|e<;>rw[e]<;>rfl
 have p0:=ba hl (j:=0) (by omega);have p1:=ba hl (j:=1) (by omega);have p2:=ba hl (j:=2) (by omega);have hw:∀j,j<3->(ah l.op).getD j 0=105:=fun j hj=>by
  rcases ak with e|e|e|e<;>rw[e]<;>(rcases(show j=0\/j=1\/j=2 by omega)with e|e|e<;>rw[e]<;>rfl)
 have k0:=bj hl.fits (j:=0) (by omega);have k1:=bj hl.fits (j:=1) (by omega);have k2:=bj hl.fits (j:=2) (by omega);rw[hw _ (by omega)]at k0 k1 k2;obtain⟨f1,f2⟩:=C2 ak hf;have c1:=h.core.oP (Rb:=Rb) k1 (by omega) (h.two (by omega) f1);have c2:=h.core.oP (Rb:=Rb) k2 (by omega) (h.two (by omega) f2);refine⟨?_,by unfold Br.val;rw[c1],by unfold Br.val;rw[c2],by omega,k0⟩;unfold Br.breaks;rw[jb ak];unfold Br.empty;simp[c1,c2]
theorem BP (h:qJ q un s g o b)(hl:eU q l)(bR:q.locals.length<=12)(hf:aE q l s=false)(ak:l.op=3\/l.op=4\/l.op=5\/l.op=6):
  GC q (aq q l g) (o.calc l).ints (o.calc l).boxes (b.calc ⟨q.locals,Rb⟩ l).cs/\(b.calc ⟨q.locals,Rb⟩ l).yd=(o.calc l).yd/\(b.calc ⟨q.locals,Rb⟩ l).aO=(o.calc l).aO/\(b.calc ⟨q.locals,Rb⟩ l).flags=b.flags:=by
 obtain⟨-,v1,v2,p0,k0⟩:=oh (Rb:=Rb) h hl bR hf ak;have e:b.calc ⟨q.locals,Rb⟩ l={b with cs:=b.cs.set (2*(ag l 0).1) (true,ml l.op (o.num (ag l 1)) (o.num (ag l 2)))}:=by
  unfold Br.calc;show b.write _ (ag l 0) (ml l.op (b.val _ (ag l 1)) (b.val _ (ag l 2)))=_
  rw[v1,v2,qH b k0]
 rw[e];obtain⟨t0,s0,-⟩:=my k0;have hp:aq q l g=g.set (2*(ag l 0).1) 2:=by
  rw[eP (by rcases ak with e|e|e|e<;>rw[e]<;>rfl) (by omega),s0]
 rw[hp];exact⟨h.core.setInt p0 t0 _,h.yd,h.aO,rfl⟩
theorem Lq (h:qJ q un s g o b)(hl:eU q l)(bR:q.locals.length<=12)(hf:aE q l s=false)(ak:l.op=2\/l.op=3\/l.op=4\/l.op=5\/l.op=7\/l.op=8\/l.op=10\/l.op=11):
  b.breaks ⟨q.locals,Rb⟩ l=false/\GC q (aq q l g) (o.cz q l).ints (o.cz q l).boxes (b.cz ⟨q.locals,Rb⟩ l).cs/\(b.cz ⟨q.locals,Rb⟩ l).yd=(o.cz q l).yd/\(b.cz ⟨q.locals,Rb⟩ l).aO=(o.cz q l).aO/\(b.cz ⟨q.locals,Rb⟩ l).flags=b.flags:=by
 have ar:l.op=3\/l.op=4\/l.op=5->b.breaks ⟨q.locals,Rb⟩ l=false/\GC q (aq q l g) (o.cz q l).ints (o.cz q l).boxes (b.cz ⟨q.locals,Rb⟩ l).cs/\(b.cz ⟨q.locals,Rb⟩ l).yd=(o.cz q l).yd/\(b.cz ⟨q.locals,Rb⟩ l).aO=(o.cz q l).aO/\(b.cz ⟨q.locals,Rb⟩ l).flags=b.flags:=fun e=>by
  rw[Own.cz,ja (by omega),jb e,Br.cz,ja (by omega),jb e];exact⟨(oh h hl bR hf (by omega)).1,BP h hl bR hf (by omega)⟩
 rcases ak with e|e|e|e|e|e|e|e
 ·have hlen:l.places.length=1:=by rw[hl.ok.bt,e];rfl
  have p0:=ba hl (j:=0) (by omega);have k0:=bj hl.fits (j:=0) (by omega);rw[e]at k0;have k0:q.aB (ag l 0) 105=true:=k0;obtain⟨t0,s0,-⟩:=my k0;rw[Own.cz,jb e,Br.cz,jb e,qH b k0,eP (by rw[e];rfl) (by omega),s0];refine⟨?_,h.core.setInt (by omega) t0 _,h.yd,h.aO,rfl⟩;unfold Br.breaks;rw[ja (by omega),ja (by omega),ja (by omega),ja (by omega),ja (by omega),ja (by omega),ja (by omega)]
 ·exact ar (by omega)
 ·exact ar (by omega)
 ·exact ar (by omega)
 ·have hlen:l.places.length=1:=by rw[hl.ok.bt,e];rfl
  have p0:=ba hl (j:=0) (by omega);have k0:=bj hl.fits (j:=0) (by omega);rw[e]at k0;have k0:q.aB (ag l 0) 105=true:=k0;obtain⟨t0,s0,-⟩:=my k0;rw[Own.cz,ja (by omega),ja (by omega),jb e,Br.cz,ja (by omega),ja (by omega),jb e,qH _ k0,eP (by rw[e];rfl) (by omega),s0,h.aO];refine⟨?_,h.core.setInt (by omega) t0 _,h.yd,rfl,rfl⟩;unfold Br.breaks;rw[ja (by omega),ja (by omega),ja (by omega),ja (by omega),ja (by omega),ja (by omega),ja (by omega)]
 ·have hlen:l.places.length=1:=by rw[hl.ok.bt,e];rfl
  have p0:=ba hl (j:=0) (by omega);have k0:=bj hl.fits (j:=0) (by omega);rw[e]at k0;have k0:q.aB (ag l 0) 105=true:=k0;have f0:dv 2 (s.getD (ae (ag l 0)) 0)=false:=by
   unfold aE at hf;rw[ja (by omega),jb (by omega),iF]at hf;exact cV hf
  have c0:=h.core.oP (Rb:=Rb) k0 (by omega) (h.two (by omega) f0);have v0:b.val ⟨q.locals,Rb⟩ (ag l 0)=o.num (ag l 0):=by unfold Br.val;rw[c0]
  rw[Own.cz,ja (by omega),ja (by omega),ja (by omega),jb e,Br.cz,ja (by omega),ja (by omega),ja (by omega),jb e,v0,kV (by rw[e];rfl) (by omega) (by omega) (by omega),h.yd];refine⟨?_,h.core,rfl,h.aO,rfl⟩;unfold Br.breaks;rw[ja (by omega),jb (by omega)];unfold Br.empty;simp[c0]
 ·have hlen:l.places.length=2:=by rw[hl.ok.bt,e];rfl
  have p0:=ba hl (j:=0) (by omega);have p1:=ba hl (j:=1) (by omega);have k0:=bj hl.fits (j:=0) (by omega);have k1:=bj hl.fits (j:=1) (by omega);rw[e]at k0 k1;have k0:q.aB (ag l 0) 105=true:=k0;have k1:q.aB (ag l 1) 112=true:=k1;obtain⟨t0,s0,-⟩:=my k0;obtain⟨b1,b2,-,-⟩:=so k1;have f1:dv 2 (s.getD (ae (ag l 1)) 0)=false:=by
   unfold aE at hf;rw[ja (by omega),ja (by omega),ja (by omega),jb (by omega),iF]at hf;exact cV hf
  obtain⟨c1,aG⟩:=h.core.qF (Rb:=Rb) b2 (by omega) b1 (h.two (by omega) f1);have v1:b.val ⟨q.locals,Rb⟩ (ag l 1)=o.box (ag l 1):=by unfold Br.val;rw[c1]
  have XI:(o.yd.at (o.box (ag l 1))).2=true:=h.j.2.y.qt (by omega) (ye (by omega));rw[Own.cz,ja (by omega),ja (by omega),ja (by omega),ja (by omega),jb e,Br.cz,ja (by omega),ja (by omega),ja (by omega),ja (by omega),jb e,v1,Int.toNat_natCast,qH _ k0,eP (by rw[e];rfl) (by omega),s0,h.yd];refine⟨?_,h.core.setInt (by omega) t0 _,rfl,h.aO,rfl⟩;unfold Br.breaks;rw[ja (by omega),ja (by omega),ja (by omega),ja (by omega),jb e];unfold Br.dead;rw[v1,Int.toNat_natCast,h.yd,XI,c1];rfl
 ·have hlen:l.places.length=2:=by rw[hl.ok.bt,e];rfl
  have p0:=ba hl (j:=0) (by omega);have p1:=ba hl (j:=1) (by omega);have k0:=bj hl.fits (j:=0) (by omega);have k1:=bj hl.fits (j:=1) (by omega);rw[e]at k0 k1;have k0:q.aB (ag l 0) 112=true:=k0;have k1:q.aB (ag l 1) 105=true:=k1;obtain⟨b1,b2,-,-⟩:=so k0;have f1:dv 2 (s.getD (ae (ag l 0)) 0)=false/\dv 2 (s.getD (ae (ag l 1)) 0)=false:=by
   unfold aE at hf;rw[ja (by omega),ja (by omega),ja (by omega),ja (by omega),jb (by omega),iF,iF]at hf;exact kq hf
  obtain⟨c0,lo⟩:=h.core.qF (Rb:=Rb) b2 (by omega) b1 (h.two (by omega) f1.1);have c1:=h.core.oP (Rb:=Rb) k1 (by omega) (h.two (by omega) f1.2);have v0:b.val ⟨q.locals,Rb⟩ (ag l 0)=o.box (ag l 0):=by unfold Br.val;rw[c0]
  have v1:b.val ⟨q.locals,Rb⟩ (ag l 1)=o.num (ag l 1):=by unfold Br.val;rw[c1]
  have XI:(o.yd.at (o.box (ag l 0))).2=true:=h.j.2.y.qt (by omega) (ye (by omega));rw[Own.cz,ja (by omega),ja (by omega),ja (by omega),ja (by omega),ja (by omega),jb e,Br.cz,ja (by omega),ja (by omega),ja (by omega),ja (by omega),ja (by omega),jb e,v0,v1,Int.toNat_natCast,kV (by rw[e];rfl) (by omega) (by omega) (by omega),h.yd];refine⟨?_,h.core,rfl,h.aO,rfl⟩;unfold Br.breaks;rw[ja (by omega),ja (by omega),ja (by omega),ja (by omega),ja (by omega),jb e];unfold Br.dead Br.empty;rw[v0,Int.toNat_natCast,h.yd,XI];simp[c0,c1]
end
end El
end Go.Proofs.YtmlgajhhnojdjaaGreatDoor

import Derived.Test.YtmlgajhhnojdjaaGreatDoorUAQ
namespace Go.Proofs.YtmlgajhhnojdjaaGreatDoor
namespace FlwQ
open Go Go.RowKit Sq Aux PrjF PrjG PrjJ PrjK PrjL PrjM PrjO PrjP PrjQ PrjS PrjU FlwA FlwB FlwC FlwD FlwE FlwF FlwG FlwH FlwI FlwJ FlwK FlwL FlwM FlwN FlwO FlwP
attribute [local go_sem ↓] dd cO
def cC (q:QP)(E:List (List Nat))(b:Nat):Option Nat:=if E.getD b []=au then none else dA q (q.blocks.getD b []) (E.getD b [])
def aQ (f:Nat->Option Nat):Nat->Nat->Option Nat
 |0,_=>none
 |m+1,k=>(f k).or (aQ f m (k+1))
theorem px (f:Nat->Option Nat):∀(d m k:Nat),(∀c,k<=c->c<k+d->f c=none)->aQ f (d+m) k=aQ f m (k+d)
 |0,m,k,_=>by rw[Nat.zero_add];rfl
 |d+1,m,k,h=>by
  rw[show d+1+m=(d+m)+1 by omega,aQ,h k (jC _) (by omega),Option.none_or];rw[px f d m (k+1) (fun c h1 h2=>h c (by omega) (by omega)),show k+1+d=k+(d+1) by omega]
theorem qO (f:Nat->Option Nat):∀(m k:Nat),(∀c,k<=c->c<k+m->f c=none)->aQ f m k=none
 |0,_,_=>rfl
 |m+1,k,h=>by
  rw[aQ,h k (jC _) (by omega),Option.none_or];exact qO f m (k+1) (fun c h1 h2=>h c (by omega) (by omega))
def gE (E:List (List Nat))(k N:Nat):Nat->Bool:=fun b=>decide (k<=b)&&(decide (b<N)&& !(E.getD b []==au))
theorem xt {E:List (List Nat)}{k N b:Nat}(h:gE E k N b=false)(h1:k<=b)(h2:b<N)(q:QP):cC q E b=none:=by
 unfold gE at h;rw[decide_eq_true h1,decide_eq_true h2]at h;simp only[Bool.true_and,Bool.not_eq_false',beq_iff_eq]at h;rw[cC,jb h]
theorem rT {E:List (List Nat)}{k N b:Nat}(h:gE E k N b=true):k<=b/\b<N/\¬E.getD b []=au:=by
 unfold gE at h;simp only[Bool.and_eq_true,decide_eq_true_eq,Bool.not_eq_true',beq_eq_false_iff_ne]at h;exact h
def Bm (E:List (List Nat))(N:Nat)(k:Nat):Nat->Bool:=fun b=>decide (b<k)&&(decide (b<N)&& !(E.getD b []==au))
theorem QA (E:List (List Nat))(N k:Nat)(hk:k<N):Bm E N (k+1)=if(E.getD k []==au)=true then Bm E N k else cI (Bm E N k) k true:=by
 funext b
 by_cases e:b=k
 ·subst e;cases h:(E.getD b []==au)
  ·rw[ja (by decide)];simp only[Bm,cI,h];simp[hk]
  ·rw[jb rfl];simp only[Bm,h];simp
 ·have h1:Bm E N (k+1) b=Bm E N k b:=by
   unfold Bm;have:decide (b<k+1)=decide (b<k):=by rw[decide_eq_decide];omega
   rw[this]
  rw[h1];split
  ·rfl
  ·unfold cI;rw[ja e]
theorem QB (E:List (List Nat))(N:Nat):Bm E N 0=fun _=>false:=by funext b;simp[Bm]
theorem SP (E:List (List Nat))(N:Nat):Bm E N N=gE E 0 N:=by
 funext b;unfold Bm gE
 by_cases h:b<N
 ·simp[h]
 ·simp[h]
theorem M5 {E:List (List Nat)}{k N b:Nat}(hb:JM (gE E k N) N b)(bg:b<N):cI (gE E k N) b false=gE E (b+1) N:=by
 obtain⟨h1,h2,h3⟩:=rT (hb.mZ bg)
 funext c
 unfold cI;by_cases e:c=b
 ·subst e;rw[jb rfl];have:decide (c+1<=c)=false:=by simp
  unfold gE;rw[this];rfl
 ·rw[ja e];by_cases hc:c<b
  ·rw[hb.none c hc];simp[gE];omega
  ·unfold gE;have a1:decide (k<=c)=true:=by simp;omega
   have a2:decide (b+1<=c)=true:=by simp;omega
   rw[a1,a2]
theorem sj (r:Option Nat):Bz r=.tuple #[.int .i64 ((r.getD 0:Nat):Int),.bool r.isSome]:=by cases r<;>rfl
section
variable {z x a ap mb:Nat} {w w':World} {q:QP} {vl vb:Value} {us:List Value} {vss:List (List (Value×Value))} {E:List (List Nat)} {O:Nat->Bool}
theorem jk.TF (h:jk z x a ap mb w q vl vb us vss E O){w1:World}{O1:Nat->Bool}(hg:w.grownBy w1 (some mb))(ho:cY w1 mb q.blocks.length O1):jk z x a ap mb w1 q vl vb us vss E O1:=
 h.lx (.right hg) rfl (h.row.heap (hg.block ap h.row.lt (fun e=>by
  simp only[Option.some.injEq]at e;obtain⟨es,clock,h1⟩:=h.mZ.isMap;obtain⟨-,cs,h2,-⟩:=h.row;rw[<-e,h2]at h1;cases h1))) ho
set_option maxRecDepth 20000 in
set_option maxHeartbeats 4000000 in
theorem yR (h:jk z x a ap mb w q vl vb us vss E (fun _=>false))(hn:q.blocks.length<=4000)(bU:q.locals.length<=12)(hq:AE q.blocks.length q)(dp:∀j,(q.blocks.getD j []).length<=4000):
  Calls Tryz.prog 91 #[.pointer (some ⟨x,0,none⟩)] w fun e w'=>e=.returned (Bz (aQ (cC q E) q.blocks.length 0))/\cK ap mb w w':=by
 obtain⟨c0,c1,c2⟩:=h.facts;have hlen:=h.len;have hS:jk z x a ap mb w q vl vb us vss E (Bm E q.blocks.length 0):=by rw[QB];exact h
 have HF:Hid (aQ (cC q E) q.blocks.length 0=aQ (cC q E) (q.blocks.length-0) 0):=rfl;obtain⟨bX,HA⟩:∃bX,Hid (aQ (cC q E) q.blocks.length 0=bX):=⟨_,rfl⟩;rw[HA.out]at HF⊢;go_enter Tryz.func91,Tryz.ntmps91
 go_wp2
 go_loopg [11] (q.blocks.length) (fun g v11 wr=>∃k:Nat,k<=q.blocks.length/\g+k=q.blocks.length/\v11=.int .i64 k/\jk z x a ap mb wr q vl vb us vss E (Bm E q.blocks.length k)/\cK ap mb w wr)
 case atStart=>exact⟨0,jQ _,rfl,rfl,hS,cK.refl _ _ _⟩
 case round=>
  obtain⟨k,hk,Ca,rfl,mh,xS⟩:=hrel;clear hS c0 c1 c2 h;by_cases bg:k<q.blocks.length
  ·have hkE:k<E.length:=by omega
   have hE:=mh.row.ok hkE;have has:=mh.row.has k hkE;have RS:=mh.row.of k hkE;have NO:(k:Int)<(q.blocks.length:Nat):=by omega
   have HU:Hid (Bm E q.blocks.length (k+1)=if(E.getD k []==au)=true then Bm E q.blocks.length k else cI (Bm E q.blocks.length k) k true):=QA E _ k bg;have hZ:av (wr.alloc (.cells #[.int .u8 0,.int .u8 0,.int .u8 0,.int .u8 0,.int .u8 0,.int .u8 0,.int .u8 0,.int .u8 0,.int .u8 0,.int .u8 0,.int .u8 0,.int .u8 0,.int .u8 0,.int .u8 0,.int .u8 0,.int .u8 0,.int .u8 0,.int .u8 0,.int .u8 0,.int .u8 0,.int .u8 0,.int .u8 0,.int .u8 0,.int .u8 0] 209)) wr.heap.size au:=av.new wr (s:=au) (by decide);have OK:Below wr.heap.size wr (wr.alloc (.cells #[.int .u8 0,.int .u8 0,.int .u8 0,.int .u8 0,.int .u8 0,.int .u8 0,.int .u8 0,.int .u8 0,.int .u8 0,.int .u8 0,.int .u8 0,.int .u8 0,.int .u8 0,.int .u8 0,.int .u8 0,.int .u8 0,.int .u8 0,.int .u8 0,.int .u8 0,.int .u8 0,.int .u8 0,.int .u8 0,.int .u8 0,.int .u8 0] 209)):=(Below.refl _ _).alloc (jC _) _;have gy:=av.room hZ;have qL:=iu hE.len;have hJ:=av.store hZ hE.len;have rA:Below wr.heap.size wr ((wr.alloc (.cells #[.int .u8 0,.int .u8 0,.int .u8 0,.int .u8 0,.int .u8 0,.int .u8 0,.int .u8 0,.int .u8 0,.int .u8 0,.int .u8 0,.int .u8 0,.int .u8 0,.int .u8 0,.int .u8 0,.int .u8 0,.int .u8 0,.int .u8 0,.int .u8 0,.int .u8 0,.int .u8 0,.int .u8 0,.int .u8 0,.int .u8 0,.int .u8 0] 209)).setCells wr.heap.size 0 (aj (E.getD k []))):=bp OK (jC _) _ _;have hW:=mh.below rA;have Ik:=xS.on rA;generalize E.getD k []=e0 at*;clear OK hZ rA;go_upto_region 4 with fail
   generalize ((wr.alloc (.cells #[.int .u8 0,.int .u8 0,.int .u8 0,.int .u8 0,.int .u8 0,.int .u8 0,.int .u8 0,.int .u8 0,.int .u8 0,.int .u8 0,.int .u8 0,.int .u8 0,.int .u8 0,.int .u8 0,.int .u8 0,.int .u8 0,.int .u8 0,.int .u8 0,.int .u8 0,.int .u8 0,.int .u8 0,.int .u8 0,.int .u8 0,.int .u8 0] 209)).setCells wr.heap.size 0 (aj e0))=W at*;clear gy has RS qL;obtain⟨c0,c1,c2⟩:=hW.facts;have KR:=xu wr.heap.size e0 W hJ hE.lt;cases hz:(e0==au)with
   |true=>
    rw[hz]at KR;have Zj:Bm E q.blocks.length (k+1)=Bm E q.blocks.length k:=by rw[HU.out,hz];rfl
    clear hz;go_wp2_with (go_at_call 129;refine KR.mono ?_;rintro e w1 ⟨rfl,rfl⟩)
    go_roundg (q.blocks.length-(k+1))
    case measure=>omega
    case rel=>exact⟨k+1,by omega,by omega,by go_num,by rw[Zj];exact hW,Ik⟩
   |false=>
    rw[hz]at KR;have Zj:Bm E q.blocks.length (k+1)=cI (Bm E q.blocks.length k) k true:=by rw[HU.out,hz];rfl
    clear hz;go_wp2_with (first
     |(go_at_call 129;refine KR.mono ?_;rintro e w1 ⟨rfl,rfl⟩)
     |(at_mapUpdate;refine oY _ rfl _ _ _ rfl k rfl rfl rfl hW.mZ bg hn ?_;intro wg hog vX))
    go_roundg (q.blocks.length-(k+1))
    case measure=>omega
    case rel=>exact⟨k+1,by omega,by omega,by go_num,by rw[Zj];exact jk.TF hW vX hog,Ik.trans (.right vX)⟩
  ·obtain rfl:k=q.blocks.length:=by omega
   rw[SP]at mh;go_wp2
   go_loopg [2,3] (gI (gE E 0 q.blocks.length) q.blocks.length) (fun g v2 v3 wn=>∃(O':Nat->Bool) (r:Option Nat),v2=.int .i64 ((r.getD 0:Nat):Int)/\v3=.bool r.isSome/\g=gI O' q.blocks.length/\jk z x a ap mb wn q vl vb us vss E O'/\cK ap mb w wn/\Hid ((r=none/\∃k,k<=q.blocks.length/\O'=gE E k q.blocks.length/\bX=aQ (cC q E) (q.blocks.length-k) k)\/(∃n,r=some n/\O'=(fun _=>false)/\bX=some n)))
   case atStart=>exact⟨_,none,rfl,rfl,rfl,mh,xS,.inl ⟨rfl,0,jQ _,rfl,HF.out⟩⟩
   case round=>
    obtain⟨O',r,rfl,rfl,hg,QN,Vs,HX⟩:=hrel;clear mh xS HF;obtain⟨c0,c1,c2⟩:=QN.facts;by_cases hc:gI O' q.blocks.length=0
    ·have WQ:¬(0:Int)<(gI O' q.blocks.length:Nat):=by omega
     have Im:Hid (Bz bX=.tuple #[.int .i64 ((r.getD 0:Nat):Int),.bool r.isSome]):=by
      rcases HX.out with⟨h1,k,hk,h2,h3⟩|⟨n,h1,h2,h3⟩
      ·have:bX=none:=by
        rw[h3];refine qO _ _ _ fun c xU AG=> ?_
        have Vy:c<q.blocks.length:=by omega
        have:=tJ _ hc c Vy;rw[h2]at this;exact xt this xU Vy q
       unfold Hid;rw[this,h1];rfl
      ·unfold Hid;rw[h3,h1];rfl
     go_wp2_with (at_len;refine gJ _ rfl _ rfl rfl QN.mZ ?_)
     go_ret2
     exact⟨by rw[Im.out];rfl,Vs⟩
    ·have WQ:(0:Int)<(gI O' q.blocks.length:Nat):=by omega
     obtain⟨k,hk,ZN,HK⟩:∃k,k<=q.blocks.length/\Hid (O'=gE E k q.blocks.length)/\Hid (bX=aQ (cC q E) (q.blocks.length-k) k):=by
      rcases HX.out with⟨h1,k,hk,h2,h3⟩|⟨n,h1,h2,h3⟩
      ·exact⟨k,hk,h2,h3⟩
      ·exact absurd (iK _ fun c _=>by rw[h2]) hc
     clear HX;have KT:=q8 QN hn;have KG:=fun w1 b (hb:b<q.blocks.length) O1 (oU:jk z x a ap mb w1 q vl vb us vss E O1)=>EB oU b hb hn bU hq dp
     have bg:∀b,JM O' q.blocks.length b->b<q.blocks.length:=fun b hl=>by
      refine Nat.lt_of_le_of_ne hl.le (fun e=>hc (iK _ fun c AH=>hl.none c (by omega)))
     go_upto_region 9 with(first
      |(at_len;refine gJ _ rfl _ rfl rfl QN.mZ ?_)
      |(go_at_call 146;refine KT.mono ?_;rintro e w1 ⟨b,rfl,aG,oU,lU⟩)
      |(go_at_call 145;refine(KG w1 b (bg b aG) _ oU).mono ?_;rintro e w2 ⟨rfl,dT⟩;obtain⟨r1,lh⟩:∃r1,Hid (dA q (q.blocks.getD b []) (E.getD b [])=r1):=⟨_,rfl⟩;rw[lh.out,sj]))
     have qS:=bg b aG;have eJ:Hid (cI O' b false=gE E (b+1) q.blocks.length):=by
      unfold Hid;rw[ZN.out]at aG⊢;exact M5 aG qS
     have UG:k<=b/\¬E.getD b []=au:=by
      have:=aG.mZ qS;rw[ZN.out]at this;exact⟨(rT this).1,(rT this).2.2⟩
     have HKb:Hid (bX=aQ (cC q E) (q.blocks.length-b) b):=by
      unfold Hid;rw[HK.out,show q.blocks.length-k=(b-k)+(q.blocks.length-b) by omega,px _ (b-k) _ k (fun c h1 h2=> ?_),show k+(b-k)=b by omega];have:=aG.none c (by omega);rw[ZN.out]at this;exact xt this h1 (by omega) q
     have RG:cC q E b=dA q (q.blocks.getD b []) (E.getD b []):=by rw[cC,ja UG.2]
     have HKc:Hid (bX=r1.or (aQ (cC q E) (q.blocks.length-(b+1)) (b+1))):=by
      unfold Hid;rw[HKb.out,show q.blocks.length-b=(q.blocks.length-(b+1))+1 by omega,aQ,RG.trans lh.out]
     have tB:=oU.below dT;have lV:=(Vs.trans lU).on dT;have Up:=yG (aG.mZ qS) q.blocks.length qS;clear KT KG oU HKb HK RG c0 c1 c2;clear lh;obtain⟨c0,c1,c2⟩:=tB.facts;cases r1 with
     |none=>
      go_wp2
      go_roundg (gI (cI O' b false) q.blocks.length)
      case measure=>omega
      case rel=>exact⟨cI O' b false,none,rfl,rfl,rfl,tB,lV,.inl ⟨rfl,b+1,by omega,eJ.out,HKc.out⟩⟩
     |some n=>
      obtain⟨w3,Ba,ho3,hg3⟩:=Nf tB.mZ;have Wz:=jk.TF tB hg3 ho3;go_wp2
      go_roundg 0
      case measure=>omega
      case rel=>exact⟨fun _=>false,some n,rfl,rfl,(iK _ fun _ _=>rfl).symm,Wz,lV.trans (.right hg3),.inr ⟨n,rfl,rfl,HKc.out⟩⟩
end
end FlwQ
namespace FlwS
open Go Sq FlwA FlwB FlwD FlwE FlwF FlwG FlwI FlwJ FlwK FlwM FlwO FlwQ
def mC (a b:Nat):Prop:=b|||a=b
theorem kQ (a:Nat):mC a a:=Nat.or_self a
theorem Mo {a b c:Nat}(h:mC a b)(h':mC b c):mC a c:=by
 unfold mC at*;rw[<-h',Nat.or_assoc,h]
theorem PB (a b:Nat):mC a (a|||b):=by
 unfold mC;rw[Nat.or_comm a b,Nat.or_assoc,Nat.or_self]
theorem Mn (a b:Nat):mC b (a|||b):=by
 unfold mC;rw[Nat.or_assoc,Nat.or_self]
theorem Sg {a b c:Nat}(h:mC a c)(h':mC b c):mC (a|||b) c:=by
 unfold mC at*;rw[<-Nat.or_assoc,h,h']
theorem FD {a:Nat}(h:mC a 0):a=0:=by unfold mC at h;rwa [Nat.zero_or]at h
def jv (s t:List Nat):Prop:=∀k,k<24->mC (s.getD k 0) (t.getD k 0)
theorem zw (s:List Nat):jv s s:=fun _ _=>kQ _
theorem ks {s t u:List Nat}(h:jv s t)(h':jv t u):jv s u:=fun k hk=>Mo (h k hk) (h' k hk)
theorem Dv {s t:List Nat}(hs:ey s):jv s (fk s t)/\jv t (fk s t):=by
 constructor<;>intro k hk<;>rw[iT hs.len,jb hk]
 ·exact PB _ _
 ·exact Mn _ _
theorem join_le {s t u:List Nat}(hs:ey s)(h:jv s u)(h':jv t u):jv (fk s t) u:=fun k hk=>by
 rw[iT hs.len,jb hk];exact Sg (h k hk) (h' k hk)
theorem dJ (s:List Nat)(i v k:Nat):(s.set i v).getD k 0=if i=k/\k<s.length then v else s.getD k 0:=by
 rw[jA,jd,jA];by_cases h:i=k
 ·subst h;by_cases h2:i<s.length
  ·simp[h2]
  ·simp[h2]
 ·rw[ja h,ja (fun x=>h x.1)]
theorem Gs {s t:List Nat}(hs:s.length=24)(ht:t.length=24)(h:jv s t)(i:Nat){u v:Nat}(huv:mC u v):jv (s.set i u) (t.set i v):=fun k hk=>by
 rw[dJ,dJ,hs,ht];by_cases e:i=k/\k<24
 ·rw[jb e,jb e];exact huv
 ·rw[ja e,ja e];exact h k hk
theorem mK {u v:Nat}(huv:mC u v):∀(ps:List (Nat×Nat)) {s t:List Nat},s.length=24->t.length=24->jv s t->jv (gu u ps s) (gu v ps t)
 |[],_,_,_,_,h=>h
 |x::ps,s,t,hs,ht,h=>mK huv ps (s:=s.set (ae x) u) (t:=t.set (ae x) v) (by simpa using hs) (by simpa using ht) (Gs hs ht h _ huv)
theorem oN:∀(ps:List (Nat×Nat)) {s t:List Nat},s.length=24->t.length=24->jv s t->jv (dQ ps s) (dQ ps t)
 |[],_,_,_,_,h=>h
 |x::ps,s,t,hs,ht,h=>oN ps (s:=s.set (ae x) _) (t:=t.set (ae x) _) (by simpa using hs) (by simpa using ht) (Gs hs ht h _ (kQ _))
theorem LH {s t:List Nat}(hs:ey s)(ht:ey t)(h:jv s t)(k:Nat):mC (s.getD k 0) (t.getD k 0):=by
 by_cases hk:k<24
 ·exact h k hk
 ·have e1:s.getD k 0=0:=by rw[jA,jG (by rw[hs.len];omega)];rfl
  have e2:t.getD k 0=0:=by rw[jA,jG (by rw[ht.len];omega)];rfl
  rw[e1,e2];exact kQ 0
theorem FQ (q:QP)(x:Nat×Nat){s t:List Nat}(hs:ey s)(ht:ey t)(h:jv s t):mC (cJ q x s) (cJ q x t):=by
 unfold cJ;split
 ·exact LH hs ht h _
 ·exact kQ _
theorem Aq (q:QP)(l:ab){s t:List Nat}(hs:ey s)(ht:ey t)(h:jv s t):jv (aL q l s) (aL q l t):=by
 unfold aL;split
 ·exact oN _ hs.len ht.len h
 ·split
  ·exact oN _ hs.len ht.len h
  ·exact h
theorem zY (q:QP)(l:ab){s t:List Nat}(hs:ey s)(ht:ey t)(h:jv s t):jv (aq q l s) (aq q l t):=by
 have h1:=Aq q l hs ht h;have l1:=(mS q l hs).len;have l2:=(mS q l ht).len;unfold aq;split
 ·exact mK (kQ _) _ l1 l2 h1
 ·split
  ·exact mK (FQ q _ hs ht h) _ l1 l2 h1
  ·split
   ·exact mK (kQ _) _ l1 l2 h1
   ·split
    ·exact oN _ l1 l2 h1
    ·exact h1
theorem Ao (l:ab)(i:Nat){s t:List Nat}(hs:ey s)(ht:ey t)(h:jv s t):jv (dm l i s) (dm l i t):=by
 unfold dm;split
 ·exact mK (kQ _) _ hs.len ht.len h
 ·exact h
def mJ (l:ab):List Nat->Nat->List Nat->List (Nat×List Nat)
 |[],_,_=>[]
 |n::ns,i,s=>(n,dm l i s)::mJ l ns (i+1) (dm l i s)
def SN (l:ab):List Nat->Nat->List Nat->List Nat
 |[],_,s=>s
 |_::ns,i,s=>SN l ns (i+1) (dm l i s)
def fT (q:QP):List ab->List Nat->List (Nat×List Nat)
 |[],_=>[]
 |l::ls,s=>mJ l l.next 0 (aq q l s)++fT q ls (SN l l.next 0 (aq q l s))
def leads (M:List (Nat×List Nat))(x:List (List Nat)×(Nat->Bool)):List (List Nat)×(Nat->Bool):=M.foldl (fun x n=>(dR x.1 n.1 n.2,fR x.1 x.2 n.1 n.2)) x
theorem B3 (l:ab):∀(ns:List Nat) (i:Nat) (t:St),gC l ns i t=(SN l ns i t.1,leads (mJ l ns i t.1) t.2)
 |[],_,_=>rfl
 |n::ns,i,t=>by rw[gC,B3 l ns];rfl
theorem rv (q:QP):∀(ls:List ab) (t:St),(fD q ls t).2=leads (fT q ls t.1) t.2
 |[],_=>rfl
 |l::ls,t=>by rw[fD,rv q ls,B3,fT,leads,leads,leads,List.foldl_append]
theorem DS (l:ab):∀(ns:List Nat) (i:Nat) {s:List Nat},ey s->ey (SN l ns i s)
 |[],_,_,h=>h
 |_::ns,i,_,h=>DS l ns (i+1) (fV l i h)
theorem Gz (l:ab):∀(ns:List Nat) (i:Nat) {s t:List Nat},ey s->ey t->jv s t->jv (SN l ns i s) (SN l ns i t)
 |[],_,_,_,_,_,h=>h
 |_::ns,i,_,_,hs,ht,h=>Gz l ns (i+1) (fV l i hs) (fV l i ht) (Ao l i hs ht h)
theorem Ga (l:ab)(N:Nat):∀(ns:List Nat) (i:Nat) {s:List Nat},(∀n∈ns,n<N)->ey s->∀x∈mJ l ns i s,x.1<N/\ey x.2
 |[],_,_,_,_,x,hx=>by cases hx
 |n::ns,i,s,hn,h,x,hx=>by
  rcases jP.mp hx with rfl|hx
  ·exact⟨hn n (jM ..),fV l i h⟩
  ·exact Ga l N ns (i+1) (fun m hm=>hn m (jN _ hm)) (fV l i h) x hx
theorem sW (q:QP)(N:Nat):∀(ls:List ab) {s:List Nat},(∀l∈ls,∀n∈l.next,n<N)->ey s->∀x∈fT q ls s,x.1<N/\ey x.2
 |[],_,_,_,x,hx=>by cases hx
 |l::ls,s,hn,h,x,hx=>by
  have hp:=fU q l h;rcases List.mem_append.mp hx with hx|hx
  ·exact Ga l N l.next 0 (hn l (jM ..)) hp x hx
  ·exact sW q N ls (fun m hm=>hn m (jN _ hm)) (DS l _ _ hp) x hx
theorem zW (l:ab):∀(ns:List Nat) (i:Nat) {s t:List Nat},ey s->ey t->jv s t->∀x∈mJ l ns i s,∃y,(x.1,y)∈mJ l ns i t/\jv x.2 y
 |[],_,_,_,_,_,_,x,hx=>by cases hx
 |n::ns,i,s,t,hs,ht,h,x,hx=>by
  have h1:=Ao l i hs ht h;rcases jP.mp hx with rfl|hx
  ·exact⟨_,jM ..,h1⟩
  ·obtain⟨y,hy,hl⟩:=zW l ns (i+1) (fV l i hs) (fV l i ht) h1 x hx;exact⟨y,jN _ hy,hl⟩
theorem zU (q:QP):∀(ls:List ab) {s t:List Nat},ey s->ey t->jv s t->∀x∈fT q ls s,∃y,(x.1,y)∈fT q ls t/\jv x.2 y
 |[],_,_,_,_,_,x,hx=>by cases hx
 |l::ls,s,t,hs,ht,h,x,hx=>by
  have h1:=zY q l hs ht h;have o1:=fU q l hs;have o2:=fU q l ht;rcases List.mem_append.mp hx with hx|hx
  ·obtain⟨y,hy,hl⟩:=zW l l.next 0 o1 o2 h1 x hx;exact⟨y,List.mem_append.mpr (.inl hy),hl⟩
  ·obtain⟨y,hy,hl⟩:=zU q ls (DS l _ _ o1) (DS l _ _ o2) (Gz l _ _ o1 o2 h1) x hx;exact⟨y,List.mem_append.mpr (.inr hy),hl⟩
theorem mD (E:List (List Nat))(n:Nat)(s:List Nat)(hn:n<E.length)(b:Nat):(dR E n s).getD b []=if b=n then fk (E.getD n []) s else E.getD b []:=by
 unfold dR;split
 ·rename_i h;split
  ·rename_i e;rw[e,h]
  ·rfl
 ·exact EV E n _ hn b
theorem eF {s t:List Nat}(hs:ey s)(h:jv s t)(hn:¬s=au):¬t=au:=fun e=>hn (by
 subst e;refine JZ hs.len (by decide) fun k hk=> ?_
 have:=h k hk;have hz:au.getD k 0=0:=by
  unfold au;rw[jA,jO,jb hk];rfl
 rw[hz]at this⊢;exact FD this)
structure Led (N:Nat)(M:List (Nat×List Nat))(E:List (List Nat))(O:Nat->Bool)(E1:List (List Nat))(O1:Nat->Bool):Prop where
 ok:AP E1
 len:E1.length=N
 up:∀b,b<N->jv (E.getD b []) (E1.getD b [])
 UP:∀x∈M,jv x.2 (E1.getD x.1 [])
 shut:∀b,b<N->O1 b=false->O b=false/\E1.getD b []=E.getD b []
 live:∀b,b<N->O1 b=true->O b=true\/¬E1.getD b []=au
 least:∀U:Nat->List Nat,(∀b,b<N->jv (E.getD b []) (U b))->(∀x∈M,jv x.2 (U x.1))->∀b,b<N->jv (E1.getD b []) (U b)
theorem vh (N:Nat):∀(M:List (Nat×List Nat)) (E:List (List Nat)) (O:Nat->Bool),AP E->E.length=N->(∀x∈M,x.1<N/\ey x.2)->Led N M E O (leads M (E,O)).1 (leads M (E,O)).2
 |[],E,O,hE,hl,_=>⟨hE,hl,fun _ _=>zw _,fun x hx=>(by cases hx),fun b _ h=>⟨h,rfl⟩,fun b _ h=> .inl h,fun U h _ b hb=>h b hb⟩
 |x::M,E,O,hE,hl,hM=>by
  obtain⟨j6,Ha⟩:=hM x (jM ..);have Pl:x.1<E.length:=by omega
  have hs:=hE.at Pl;have hE1:=zx hE Pl Ha;have ih:=vh N M (dR E x.1 x.2) (fR E O x.1 x.2) hE1 (by rw[vg];exact hl) (fun y hy=>hM y (jN _ hy));have e:leads (x::M) (E,O)=leads M (dR E x.1 x.2,fR E O x.1 x.2):=rfl;rw[e];have up1:∀b,b<N->jv (E.getD b []) ((dR E x.1 x.2).getD b []):=fun b hb=>by
   rw[mD E x.1 x.2 Pl];split
   ·rename_i e1;rw[e1];exact(Dv hs).1
   ·exact zw _
  refine⟨ih.ok,ih.len,fun b hb=>ks (up1 b hb) (ih.up b hb),fun y hy=> ?_,fun b hb h=> ?_,fun b hb h=> ?_,fun U h1 h2 b hb=> ?_⟩
  ·rcases jP.mp hy with rfl|hy
   ·refine ks ?_ (ih.up y.1 j6);rw[mD E y.1 y.2 Pl,jb rfl];exact(Dv hs).2
   ·exact ih.UP y hy
  ·obtain⟨h1,h2⟩:=ih.shut b hb h;unfold fR at h1;split at h1
   ·rename_i hj;exact⟨h1,h2.trans (by rw[dR,jb hj])⟩
   ·rename_i hj;unfold cI at h1;split at h1
    ·cases h1
    ·rename_i dB;exact⟨h1,h2.trans (by rw[mD E x.1 x.2 Pl,ja dB])⟩
  ·rcases ih.live b hb h with h1|h1
   ·unfold fR at h1;split at h1
    ·exact .inl h1
    ·rename_i hj;unfold cI at h1;split at h1
     ·rename_i eT;right;refine eF (Fs hs Ha) (?_:jv (fk (E.getD x.1 []) x.2) _) (fun hz=> ?_)
      ·have:=ih.up b hb;rw[mD E x.1 x.2 Pl,jb eT]at this;exact this
      ·obtain⟨k,hk,dB⟩:=yk hs hj;have h0:(fk (E.getD x.1 []) x.2).getD k 0=0:=by
        rw[hz];unfold au;rw[jA,jO,jb hk];rfl
       have:=(Dv (t:=x.2) hs).1 k hk;rw[h0]at this dB;exact dB (FD this).symm
     ·exact .inl h1
   ·exact .inr h1
  ·refine ih.least U (fun c hc=> ?_) (fun y hy=>h2 y (jN _ hy)) b hb;rw[mD E x.1 x.2 Pl];split
   ·rename_i e1;rw[e1];exact join_le hs (h1 x.1 j6) (h2 x (jM ..))
   ·exact h1 c hc
structure oe (q:QP)(U:Nat->List Nat):Prop where
 ok:∀b,b<q.blocks.length->ey (U b)
 start:jv aT (U 0)
 step:∀b,b<q.blocks.length->¬U b=au->∀x∈fT q (q.blocks.getD b []) (U b),jv x.2 (U x.1)
structure Inv (q:QP)(E:List (List Nat))(O:Nat->Bool):Prop where
 ok:AP E
 len:E.length=q.blocks.length
 start:jv aT (E.getD 0 [])
 step:∀b,b<q.blocks.length->O b=false->¬E.getD b []=au->∀x∈fT q (q.blocks.getD b []) (E.getD b []),jv x.2 (E.getD x.1 [])
 live:∀b,b<q.blocks.length->O b=true->¬E.getD b []=au
 least:∀U,oe q U->∀b,b<q.blocks.length->jv (E.getD b []) (U b)
theorem Jq:¬aT=au:=by decide
theorem Mf (q:QP)(h0:0<q.blocks.length):Inv q (dR (List.replicate q.blocks.length au) 0 aT) (fR (List.replicate q.blocks.length au) (fun _=>false) 0 aT):=by
 have hz:∀b,b<q.blocks.length->(List.replicate q.blocks.length au).getD b []=au:=fun b hb=>by simp[List.getD_eq_getElem?_getD,hb]
 have qU:AP (List.replicate q.blocks.length au):=fun s hs=>by rw[List.eq_of_mem_replicate hs];exact⟨by decide,qI⟩
 have L:=vh q.blocks.length [(0,aT)] (List.replicate q.blocks.length au) (fun _=>false) qU (by simp) (fun x hx=>by rw[jI.mp hx];exact⟨h0,oM⟩);have hle:∀U:List Nat,jv au U:=fun U k hk=>by
  have:au.getD k 0=0:=by unfold au;rw[jA,jO,jb hk];rfl
  rw[this];exact Nat.or_zero _
 refine⟨L.ok,L.len,L.UP (0,aT) (jI.mpr rfl),fun b hb hO dB=> ?_,fun b hb hO=> ?_,fun U hU=>L.least U (fun b hb=>by rw[hz b hb];exact hle _) (fun x hx=>by rw[jI.mp hx];exact hU.start)⟩
 ·obtain⟨-,h2⟩:=L.shut b hb hO;have e:(leads [(0,aT)] (List.replicate q.blocks.length au,fun _=>false)).1=dR (List.replicate q.blocks.length au) 0 aT:=rfl;rw[e,hz b hb]at h2;exact absurd h2 dB
 ·rcases L.live b hb hO with h|h
  ·cases h
  ·exact h
theorem Pr (q:QP)(lg:∀b,b<q.blocks.length->∀l∈q.blocks.getD b [],∀n∈l.next,n<q.blocks.length)(E:List (List Nat))(O:Nat->Bool)(b:Nat)(hb:b<q.blocks.length)(hO:O b=true)(h:Inv q E O):
  Inv q (eW q E (cI O b false) b).2.1 (eW q E (cI O b false) b).2.2:=by
 have RC:b<E.length:=by rw[h.len];exact hb
 have hs:=h.ok.at RC;have e:(eW q E (cI O b false) b).2=leads (fT q (q.blocks.getD b []) (E.getD b [])) (E,cI O b false):=rv q _ _;have L:=vh q.blocks.length (fT q (q.blocks.getD b []) (E.getD b [])) E (cI O b false) h.ok h.len (sW q q.blocks.length _ (lg b hb) hs);rw[<-e]at L;refine⟨L.ok,L.len,ks h.start (L.up 0 (by omega)),fun c hc hOc dB=> ?_,fun c hc hOc=> ?_,fun U hU=>L.least U (fun c hc=>h.least U hU c hc) (fun x hx=> ?_)⟩
 ·obtain⟨h1,h2⟩:=L.shut c hc hOc;rw[h2]at dB⊢;by_cases B8:c=b
  ·subst B8;exact L.UP
  ·unfold cI at h1;rw[ja B8]at h1;intro x hx;exact ks (h.step c hc h1 dB x hx) (L.up x.1 (sW q q.blocks.length _ (lg c hc) (h.ok.at (by rw[h.len];exact hc)) x hx).1)
 ·rcases L.live c hc hOc with h1|h1
  ·unfold cI at h1;split at h1
   ·cases h1
   ·exact eF (h.ok.at (by rw[h.len];exact hc)) (L.up c hc) (h.live c hc h1)
  ·exact h1
 ·have hle:=h.least U hU b hb;obtain⟨y,hy,hxy⟩:=zU q (q.blocks.getD b []) hs (hU.ok b hb) hle x hx;exact ks hxy (hU.step b hb (eF hs hle (h.live b hb hO)) (x.1,y) hy)
end FlwS
namespace RefB
theorem Xa:True:=trivial
end RefB
namespace RefC
theorem Xb:True:=trivial
end RefC
namespace RefD
open Go.RowKit Sq RefA RefB RefC
end RefD
namespace RefE
theorem Xc:True:=trivial
end RefE
namespace RefF
theorem Xd:True:=trivial
end RefF
namespace RefG
theorem Xe:True:=trivial
end RefG
namespace RefH
theorem Xf:True:=trivial
end RefH
namespace RefO
theorem Xm:True:=trivial
end RefO
namespace RefP
theorem Xn:True:=trivial
end RefP
namespace RefQ
theorem Xo:True:=trivial
end RefQ
namespace Sq
theorem VC:True:=trivial
end Sq
namespace RefR
theorem Xp:True:=trivial
end RefR
namespace RefS
theorem Xq:True:=trivial
end RefS
namespace Aux
theorem WW:True:=trivial
end Aux
namespace RefT
theorem Xr:True:=trivial
end RefT
namespace Sq
theorem VD:True:=trivial
end Sq
namespace Sq
open Go Aux RefS RefT
theorem WS.set_set (s:WS)(k:Nat)(a b:B):WS.set (WS.set s k a) k b=WS.set s k b:=by
 simp[WS.set]
end Sq
namespace Sq
theorem VE:True:=trivial
end Sq
namespace Sq
open Go Aux RefS RefT
theorem Dm (p:RP)(i:Nat)(hi:i<p.lines.length):p.inside (i+1)=if word (p.line i) 0=cM then true else if ends (word (p.line i) 0)then false else p.inside i:=by
 unfold RP.inside;rw[List.take_add_one,jB hi];have:p.line i=p.lines[i]:=by simp[RP.line,hi]
 simp only[Option.toList_some,List.reverse_append,List.reverse_cons,List.reverse_nil,List.nil_append,List.cons_append,lJ,this]
theorem re.first {text:B}{raw:Bool}{p:RP}(h:re text raw p):0<p.blocks.length/\p.blocks.getD 0 0<p.lines.length:=by
 have h0:0<p.blocks.length:=List.length_pos_iff.mpr h.nonempty;refine⟨h0,?_⟩;have hm:p.blocks.getD 0 0∈p.blocks:=by simp[h0]
 have hw:=h.pre.blocks;rw[hw]at hm⊢;exact(gj hm).1
end Sq
namespace Sq
theorem VF:True:=trivial
end Sq
namespace Sq
theorem VG:True:=trivial
end Sq
namespace Sq
theorem VH:True:=trivial
end Sq
namespace Sq
open Go Aux RefS RefT
def RP.yf (p:RP)(i:Nat):Nat:=((List.range i).filter fun j=>bV (p.line j)).length
theorem RP.Eu (p:RP)(i:Nat):p.yf (i+1)=p.yf i+if bV (p.line i)then 1 else 0:=by
 unfold RP.yf;rw[List.range_succ,List.filter_append,jV];congr 1;cases h:bV (p.line i)<;>simp[h]
def RP.body (p:RP)(i:Nat):Prop:=i<p.lines.length/\isLet (p.line i)=false/\bV (p.line i)=false
theorem zk (p:RP):∀i,i<=p.lines.length->p.inside i=true->1<=p.yf i
 |0,_,h=>by simp[RP.inside,lJ]at h
 |i+1,hi,h=>by
  rw[Dm p i (by omega)]at h;rw[p.Eu];by_cases hb:word (p.line i) 0=cM
  ·have:bV (p.line i)=true:=by simp[bV,hb]
   rw[this];simp
  ·rw[ja hb]at h;split at h
   ·cases h
   ·have:=zk p i (by omega) h;omega
section
variable {text:B} {raw:Bool} {p:RP}
theorem re.En (h:re text raw p){i:Nat}(hb:p.body i):p.inside i=true/\1<=p.yf i:=by
 have:p.inside i=true:=by
  rcases h.pre.Pm i hb.1 with hl|hl
  ·rw[hb.2.1]at hl;cases hl
  ·rw[hl,hb.2.2];rfl
 exact⟨this,zk p i (Nat.le_of_lt hb.1) this⟩
end
section
variable {text:B} {raw:Bool} {p:RP}
end
end Sq
namespace Sq
open Go Aux RefS RefT
structure He where
 loc:Nat
 part:UInt8
instance:Inhabited He:=⟨⟨0,0⟩⟩
structure N5 where
 num:Nat
 op:B
 places:List He
 number:Int
 next:List Nat
def N5.w (l:N5)(j:Nat):He:=l.places.getD j default
structure SW where
 locals:List (B×B)
 blocks:List (List N5)
def SW.bN (q:SW)(n:Nat):B:=(q.locals.getD n ([],[])).2
section
variable {p:RP}
end
end Sq
namespace Sq
theorem VI:True:=trivial
end Sq
namespace Sq
theorem VJ:True:=trivial
end Sq
namespace Sq
theorem VK:True:=trivial
end Sq
namespace Sq
theorem VL:True:=trivial
end Sq
namespace Sq
theorem VM:True:=trivial
end Sq
namespace Sq
theorem VN:True:=trivial
end Sq
namespace FlwT
theorem WY:True:=trivial
end FlwT
end Go.Proofs.YtmlgajhhnojdjaaGreatDoor

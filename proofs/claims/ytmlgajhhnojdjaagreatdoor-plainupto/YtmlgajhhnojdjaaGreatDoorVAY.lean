import Derived.Test.YtmlgajhhnojdjaaGreatDoorVAX
namespace Go.Proofs.YtmlgajhhnojdjaaGreatDoor
namespace FlwQ
open Go Go.RowKit Sq Aux PrjF PrjG PrjJ PrjK PrjL PrjM PrjO PrjP PrjQ PrjS PrjU FlwA FlwB FlwC FlwD FlwE FlwF FlwG FlwH FlwI FlwJ FlwK FlwL FlwM FlwN FlwO FlwP
attribute [local go_sem ↓] bY bJ
def bK (q:QP)(E:List (List Nat))(b:Nat):Option Nat:=if E.getD b []=ak then none else dj q (q.blocks.getD b []) (E.getD b [])
def aG (f:Nat->Option Nat):Nat->Nat->Option Nat
 |0,_=>none
 |m+1,k=>(f k).or (aG f m (k+1))
theorem lK (f:Nat->Option Nat):∀(d m k:Nat),(∀c,k<=c->c<k+d->f c=none)->aG f (d+m) k=aG f m (k+d)
 |0,m,k,_=>by rw[Nat.zero_add];rfl
 |d+1,m,k,h=>by
  rw[show d+1+m=(d+m)+1 by omega,aG,h k (jC _) (by omega),Option.none_or];rw[lK f d m (k+1) (fun c h1 h2=>h c (by omega) (by omega)),show k+1+d=k+(d+1) by omega]
theorem mS (f:Nat->Option Nat):∀(m k:Nat),(∀c,k<=c->c<k+m->f c=none)->aG f m k=none
 |0,_,_=>rfl
 |m+1,k,h=>by
  rw[aG,h k (jC _) (by omega),Option.none_or];exact mS f m (k+1) (fun c h1 h2=>h c (by omega) (by omega))
def eI (E:List (List Nat))(k N:Nat):Nat->Bool:=fun b=>decide (k<=b)&&(decide (b<N)&& !(E.getD b []==ak))
theorem qZ {E:List (List Nat)}{k N b:Nat}(h:eI E k N b=false)(h1:k<=b)(h2:b<N)(q:QP):bK q E b=none:=by
 unfold eI at h;rw[decide_eq_true h1,decide_eq_true h2]at h;simp only[Bool.true_and,Bool.not_eq_false',beq_iff_eq]at h;rw[bK,jb h]
theorem oS {E:List (List Nat)}{k N b:Nat}(h:eI E k N b=true):k<=b/\b<N/\¬E.getD b []=ak:=by
 unfold eI at h;simp only[Bool.and_eq_true,decide_eq_true_eq,Bool.not_eq_true',beq_eq_false_iff_ne]at h;exact h
def vX (E:List (List Nat))(N:Nat)(k:Nat):Nat->Bool:=fun b=>decide (b<k)&&(decide (b<N)&& !(E.getD b []==ak))
theorem JC (E:List (List Nat))(N k:Nat)(hk:k<N):vX E N (k+1)=if(E.getD k []==ak)=true then vX E N k else bH (vX E N k) k true:=by
 funext b
 by_cases e:b=k
 ·subst e;cases h:(E.getD b []==ak)
  ·rw[ja (by decide)];simp only[vX,bH,h];simp[hk]
  ·rw[jb rfl];simp only[vX,h];simp
 ·have h1:vX E N (k+1) b=vX E N k b:=by
   unfold vX;have:decide (b<k+1)=decide (b<k):=by rw[decide_eq_decide];omega
   rw[this]
  rw[h1];split
  ·rfl
  ·unfold bH;rw[ja e]
theorem JD (E:List (List Nat))(N:Nat):vX E N 0=fun _=>false:=by funext b;simp[vX]
theorem L8 (E:List (List Nat))(N:Nat):vX E N N=eI E 0 N:=by
 funext b;unfold vX eI
 by_cases h:b<N
 ·simp[h]
 ·simp[h]
theorem Gc {E:List (List Nat)}{k N b:Nat}(hb:Dw (eI E k N) N b)(aP:b<N):bH (eI E k N) b false=eI E (b+1) N:=by
 obtain⟨h1,h2,h3⟩:=oS (hb.kp aP)
 funext c
 unfold bH;by_cases e:c=b
 ·subst e;rw[jb rfl];have:decide (c+1<=c)=false:=by simp
  unfold eI;rw[this];rfl
 ·rw[ja e];by_cases hc:c<b
  ·rw[hb.none c hc];simp[eI];omega
  ·unfold eI;have a1:decide (k<=c)=true:=by simp;omega
   have a2:decide (b+1<=c)=true:=by simp;omega
   rw[a1,a2]
theorem pa (r:Option Nat):xb r=.tuple #[.int .i64 ((r.getD 0:Nat):Int),.bool r.isSome]:=by cases r<;>rfl
section
variable {z x a ap mb:Nat} {w w':World} {q:QP} {vl vb:Value} {us:List Value} {vss:List (List (Value×Value))} {E:List (List Nat)} {O:Nat->Bool}
theorem fZ.MW (h:fZ z x a ap mb w q vl vb us vss E O){w1:World}{O1:Nat->Bool}(hg:w.grownBy w1 (some mb))(ho:bQ w1 mb q.blocks.length O1):fZ z x a ap mb w1 q vl vb us vss E O1:=
 h.iF (.right hg) rfl (h.row.heap (hg.block ap h.row.lt (fun e=>by
  simp only[Option.some.injEq]at e;obtain⟨es,clock,h1⟩:=h.kp.isMap;obtain⟨-,cs,h2,-⟩:=h.row;rw[<-e,h2]at h1;cases h1))) ho
set_option maxRecDepth 20000 in
set_option maxHeartbeats 4000000 in
theorem sE (h:fZ z x a ap mb w q vl vb us vss E (fun _=>false))(hn:q.blocks.length<=4000)(dS:q.locals.length<=12)(hq:vZ q.blocks.length q)(cD:∀j,(q.blocks.getD j []).length<=4000):
  Calls Tryz.prog 91 #[.pointer (some ⟨x,0,none⟩)] w fun e w'=>e=.returned (xb (aG (bK q E) q.blocks.length 0))/\bI ap mb w w':=by
 obtain⟨c0,c1,c2⟩:=h.facts;have hlen:=h.len;have hS:fZ z x a ap mb w q vl vb us vss E (vX E q.blocks.length 0):=by rw[JD];exact h
 have HF:Hid (aG (bK q E) q.blocks.length 0=aG (bK q E) (q.blocks.length-0) 0):=rfl;obtain⟨dv,HA⟩:∃dv,Hid (aG (bK q E) q.blocks.length 0=dv):=⟨_,rfl⟩;rw[HA.out]at HF⊢;go_enter Tryz.func91,Tryz.ntmps91
 go_wp2
 go_loopg [11] (q.blocks.length) (fun g v11 wr=>∃k:Nat,k<=q.blocks.length/\g+k=q.blocks.length/\v11=.int .i64 k/\fZ z x a ap mb wr q vl vb us vss E (vX E q.blocks.length k)/\bI ap mb w wr)
 case atStart=>exact⟨0,jQ _,rfl,rfl,hS,bI.refl _ _ _⟩
 case round=>
  obtain⟨k,hk,yp,rfl,ju,rB⟩:=hrel;clear hS c0 c1 c2 h;by_cases aP:k<q.blocks.length
  ·have Ui:k<E.length:=by omega
   have hE:=ju.row.ok Ui;have has:=ju.row.has k Ui;have Lh:=ju.row.of k Ui;have EX:(k:Int)<(q.blocks.length:Nat):=by omega
   have HU:Hid (vX E q.blocks.length (k+1)=if(E.getD k []==ak)=true then vX E q.blocks.length k else bH (vX E q.blocks.length k) k true):=JC E _ k aP;have hZ:aj (wr.alloc (.cells #[.int .u8 0,.int .u8 0,.int .u8 0,.int .u8 0,.int .u8 0,.int .u8 0,.int .u8 0,.int .u8 0,.int .u8 0,.int .u8 0,.int .u8 0,.int .u8 0,.int .u8 0,.int .u8 0,.int .u8 0,.int .u8 0,.int .u8 0,.int .u8 0,.int .u8 0,.int .u8 0,.int .u8 0,.int .u8 0,.int .u8 0,.int .u8 0] 209)) wr.heap.size ak:=aj.new wr (s:=ak) (by decide);have H3:Below wr.heap.size wr (wr.alloc (.cells #[.int .u8 0,.int .u8 0,.int .u8 0,.int .u8 0,.int .u8 0,.int .u8 0,.int .u8 0,.int .u8 0,.int .u8 0,.int .u8 0,.int .u8 0,.int .u8 0,.int .u8 0,.int .u8 0,.int .u8 0,.int .u8 0,.int .u8 0,.int .u8 0,.int .u8 0,.int .u8 0,.int .u8 0,.int .u8 0,.int .u8 0,.int .u8 0] 209)):=(Below.refl _ _).alloc (jC _) _;have fp:=aj.room hZ;have mP:=fu hE.len;have hJ:=aj.store hZ hE.len;have qj:Below wr.heap.size wr ((wr.alloc (.cells #[.int .u8 0,.int .u8 0,.int .u8 0,.int .u8 0,.int .u8 0,.int .u8 0,.int .u8 0,.int .u8 0,.int .u8 0,.int .u8 0,.int .u8 0,.int .u8 0,.int .u8 0,.int .u8 0,.int .u8 0,.int .u8 0,.int .u8 0,.int .u8 0,.int .u8 0,.int .u8 0,.int .u8 0,.int .u8 0,.int .u8 0,.int .u8 0] 209)).setCells wr.heap.size 0 (ag (E.getD k []))):=aU H3 (jC _) _ _;have hW:=ju.below qj;have Cg:=rB.on qj;generalize E.getD k []=e0 at*;clear H3 hZ qj;go_upto_region 4 with fail
   generalize ((wr.alloc (.cells #[.int .u8 0,.int .u8 0,.int .u8 0,.int .u8 0,.int .u8 0,.int .u8 0,.int .u8 0,.int .u8 0,.int .u8 0,.int .u8 0,.int .u8 0,.int .u8 0,.int .u8 0,.int .u8 0,.int .u8 0,.int .u8 0,.int .u8 0,.int .u8 0,.int .u8 0,.int .u8 0,.int .u8 0,.int .u8 0,.int .u8 0,.int .u8 0] 209)).setCells wr.heap.size 0 (ag e0))=W at*;clear fp has Lh mP;obtain⟨c0,c1,c2⟩:=hW.facts;have KR:=q5 wr.heap.size e0 W hJ hE.lt;cases hz:(e0==ak)with
   |true=>
    rw[hz]at KR;have Tc:vX E q.blocks.length (k+1)=vX E q.blocks.length k:=by rw[HU.out,hz];rfl
    clear hz;go_wp2_with (go_at_call 129;refine KR.mono ?_;rintro e w1 ⟨rfl,rfl⟩)
    go_roundg (q.blocks.length-(k+1))
    case measure=>omega
    case rel=>exact⟨k+1,by omega,by omega,by go_num,by rw[Tc];exact hW,Cg⟩
   |false=>
    rw[hz]at KR;have Tc:vX E q.blocks.length (k+1)=bH (vX E q.blocks.length k) k true:=by rw[HU.out,hz];rfl
    clear hz;go_wp2_with (first
     |(go_at_call 129;refine KR.mono ?_;rintro e w1 ⟨rfl,rfl⟩)
     |(at_mapUpdate;refine ll _ rfl _ _ _ rfl k rfl rfl rfl hW.kp aP hn ?_;intro wg hog qS))
    go_roundg (q.blocks.length-(k+1))
    case measure=>omega
    case rel=>exact⟨k+1,by omega,by omega,by go_num,by rw[Tc];exact fZ.MW hW qS hog,Cg.trans (.right qS)⟩
  ·obtain rfl:k=q.blocks.length:=by omega
   rw[L8]at ju;go_wp2
   go_loopg [2,3] (eJ (eI E 0 q.blocks.length) q.blocks.length) (fun g v2 v3 wn=>∃(O':Nat->Bool) (r:Option Nat),v2=.int .i64 ((r.getD 0:Nat):Int)/\v3=.bool r.isSome/\g=eJ O' q.blocks.length/\fZ z x a ap mb wn q vl vb us vss E O'/\bI ap mb w wn/\Hid ((r=none/\∃k,k<=q.blocks.length/\O'=eI E k q.blocks.length/\dv=aG (bK q E) (q.blocks.length-k) k)\/(∃n,r=some n/\O'=(fun _=>false)/\dv=some n)))
   case atStart=>exact⟨_,none,rfl,rfl,rfl,ju,rB,.inl ⟨rfl,0,jQ _,rfl,HF.out⟩⟩
   case round=>
    obtain⟨O',r,rfl,rfl,hg,JO,OW,HX⟩:=hrel;clear ju rB HF;obtain⟨c0,c1,c2⟩:=JO.facts;by_cases hc:eJ O' q.blocks.length=0
    ·have Qq:¬(0:Int)<(eJ O' q.blocks.length:Nat):=by omega
     have Kw:Hid (xb dv=.tuple #[.int .i64 ((r.getD 0:Nat):Int),.bool r.isSome]):=by
      rcases HX.out with⟨h1,k,hk,h2,h3⟩|⟨n,h1,h2,h3⟩
      ·have:dv=none:=by
        rw[h3];refine mS _ _ _ fun c rX vq=> ?_
        have Pb:c<q.blocks.length:=by omega
        have:=qb _ hc c Pb;rw[h2]at this;exact qZ this rX Pb q
       unfold Hid;rw[this,h1];rfl
      ·unfold Hid;rw[h3,h1];rfl
     go_wp2_with (at_len;refine eR _ rfl _ rfl rfl JO.kp ?_)
     go_ret2
     exact⟨by rw[Kw.out];rfl,OW⟩
    ·have Qq:(0:Int)<(eJ O' q.blocks.length:Nat):=by omega
     obtain⟨k,hk,TA,HK⟩:∃k,k<=q.blocks.length/\Hid (O'=eI E k q.blocks.length)/\Hid (dv=aG (bK q E) (q.blocks.length-k) k):=by
      rcases HX.out with⟨h1,k,hk,h2,h3⟩|⟨n,h1,h2,h3⟩
      ·exact⟨k,hk,h2,h3⟩
      ·exact absurd (fH _ fun c _=>by rw[h2]) hc
     clear HX;have KT:=oh JO hn;have KG:=fun w1 b (hb:b<q.blocks.length) O1 (k9:fZ z x a ap mb w1 q vl vb us vss E O1)=>zF k9 b hb hn dS hq cD
     have aP:∀b,Dw O' q.blocks.length b->b<q.blocks.length:=fun b hl=>by
      refine Nat.lt_of_le_of_ne hl.le (fun e=>hc (fH _ fun c DS=>hl.none c (by omega)))
     go_upto_region 9 with(first
      |(at_len;refine eR _ rfl _ rfl rfl JO.kp ?_)
      |(go_at_call 146;refine KT.mono ?_;rintro e w1 ⟨b,rfl,aB,k9,jj⟩)
      |(go_at_call 145;refine(KG w1 b (aP b aB) _ k9).mono ?_;rintro e w2 ⟨rfl,dp⟩;obtain⟨r1,mB⟩:∃r1,Hid (dj q (q.blocks.getD b []) (E.getD b [])=r1):=⟨_,rfl⟩;rw[mB.out,pa]))
     have mO:=aP b aB;have gh:Hid (bH O' b false=eI E (b+1) q.blocks.length):=by
      unfold Hid;rw[TA.out]at aB⊢;exact Gc aB mO
     have N6:k<=b/\¬E.getD b []=ak:=by
      have:=aB.kp mO;rw[TA.out]at this;exact⟨(oS this).1,(oS this).2.2⟩
     have U4:Hid (dv=aG (bK q E) (q.blocks.length-b) b):=by
      unfold Hid;rw[HK.out,show q.blocks.length-k=(b-k)+(q.blocks.length-b) by omega,lK _ (b-k) _ k (fun c h1 h2=> ?_),show k+(b-k)=b by omega];have:=aB.none c (by omega);rw[TA.out]at this;exact qZ this h1 (by omega) q
     have Ps:bK q E b=dj q (q.blocks.getD b []) (E.getD b []):=by rw[bK,ja N6.2]
     have U5:Hid (dv=r1.or (aG (bK q E) (q.blocks.length-(b+1)) (b+1))):=by
      unfold Hid;rw[U4.out,show q.blocks.length-b=(q.blocks.length-(b+1))+1 by omega,aG,Ps.trans mB.out]
     have p5:=k9.below dp;have jk:=(OW.trans jj).on dp;have NN:=sw (aB.kp mO) q.blocks.length mO;clear KT KG k9 U4 HK Ps c0 c1 c2;clear mB;obtain⟨c0,c1,c2⟩:=p5.facts;cases r1 with
     |none=>
      go_wp2
      go_roundg (eJ (bH O' b false) q.blocks.length)
      case measure=>omega
      case rel=>exact⟨bH O' b false,none,rfl,rfl,rfl,p5,jk,.inl ⟨rfl,b+1,by omega,gh.out,U5.out⟩⟩
     |some n=>
      obtain⟨w3,Ag,Yn,VR⟩:=Gl p5.kp;have Qe:=fZ.MW p5 VR Yn;go_wp2
      go_roundg 0
      case measure=>omega
      case rel=>exact⟨fun _=>false,some n,rfl,rfl,(fH _ fun _ _=>rfl).symm,Qe,jk.trans (.right VR),.inr ⟨n,rfl,rfl,U5.out⟩⟩
end
end FlwQ
namespace FlwS
open Go Sq FlwA FlwB FlwD FlwE FlwF FlwG FlwI FlwJ FlwK FlwM FlwO FlwQ
def p8 (a b:Nat):Prop:=b|||a=b
theorem ia (a:Nat):p8 a a:=Nat.or_self a
theorem Fm {a b c:Nat}(h:p8 a b)(h':p8 b c):p8 a c:=by
 unfold p8 at*;rw[<-h',Nat.or_assoc,h]
theorem IF (a b:Nat):p8 a (a|||b):=by
 unfold p8;rw[Nat.or_comm a b,Nat.or_assoc,Nat.or_self]
theorem Fl (a b:Nat):p8 b (a|||b):=by
 unfold p8;rw[Nat.or_assoc,Nat.or_self]
theorem LC {a b c:Nat}(h:p8 a c)(h':p8 b c):p8 (a|||b) c:=by
 unfold p8 at*;rw[<-Nat.or_assoc,h,h']
theorem AK {a:Nat}(h:p8 a 0):a=0:=by unfold p8 at h;rwa [Nat.zero_or]at h
def ic (s t:List Nat):Prop:=∀k,k<24->p8 (s.getD k 0) (t.getD k 0)
theorem pD (s:List Nat):ic s s:=fun _ _=>ia _
theorem j8 {s t u:List Nat}(h:ic s t)(h':ic t u):ic s u:=fun k hk=>Fm (h k hk) (h' k hk)
theorem yJ {s t:List Nat}(hs:dn s):ic s (dG s t)/\ic t (dG s t):=by
 constructor<;>intro k hk<;>rw[fN hs.len,jb hk]
 ·exact IF _ _
 ·exact Fl _ _
theorem join_le {s t u:List Nat}(hs:dn s)(h:ic s u)(h':ic t u):ic (dG s t) u:=fun k hk=>by
 rw[fN hs.len,jb hk];exact LC (h k hk) (h' k hk)
theorem dK (s:List Nat)(i v k:Nat):(s.set i v).getD k 0=if i=k/\k<s.length then v else s.getD k 0:=by
 rw[jA,jd,jA];by_cases h:i=k
 ·subst h;by_cases h2:i<s.length
  ·simp[h2]
  ·simp[h2]
 ·rw[ja h,ja (fun x=>h x.1)]
theorem Bn {s t:List Nat}(hs:s.length=24)(ht:t.length=24)(h:ic s t)(i:Nat){u v:Nat}(huv:p8 u v):ic (s.set i u) (t.set i v):=fun k hk=>by
 rw[dK,dK,hs,ht];by_cases e:i=k/\k<24
 ·rw[jb e,jb e];exact huv
 ·rw[ja e,ja e];exact h k hk
theorem kc {u v:Nat}(huv:p8 u v):∀(ps:List (Nat×Nat)) {s t:List Nat},s.length=24->t.length=24->ic s t->ic (eO u ps s) (eO v ps t)
 |[],_,_,_,_,h=>h
 |x::ps,s,t,hs,ht,h=>kc huv ps (s:=s.set (ah x) u) (t:=t.set (ah x) v) (by simpa using hs) (by simpa using ht) (Bn hs ht h _ huv)
theorem kW:∀(ps:List (Nat×Nat)) {s t:List Nat},s.length=24->t.length=24->ic s t->ic (dz ps s) (dz ps t)
 |[],_,_,_,_,h=>h
 |x::ps,s,t,hs,ht,h=>kW ps (s:=s.set (ah x) _) (t:=t.set (ah x) _) (by simpa using hs) (by simpa using ht) (Bn hs ht h _ (ia _))
theorem EK {s t:List Nat}(hs:dn s)(ht:dn t)(h:ic s t)(k:Nat):p8 (s.getD k 0) (t.getD k 0):=by
 by_cases hk:k<24
 ·exact h k hk
 ·have e1:s.getD k 0=0:=by rw[jA,jG (by rw[hs.len];omega)];rfl
  have e2:t.getD k 0=0:=by rw[jA,jG (by rw[ht.len];omega)];rfl
  rw[e1,e2];exact ia 0
theorem AV (q:QP)(x:Nat×Nat){s t:List Nat}(hs:dn s)(ht:dn t)(h:ic s t):p8 (da q x s) (da q x t):=by
 unfold da;split
 ·exact EK hs ht h _
 ·exact ia _
theorem De (q:QP)(l:ab){s t:List Nat}(hs:dn s)(ht:dn t)(h:ic s t):ic (aR q l s) (aR q l t):=by
 unfold aR;split
 ·exact kW _ hs.len ht.len h
 ·split
  ·exact kW _ hs.len ht.len h
  ·exact h
theorem C0 (q:QP)(l:ab){s t:List Nat}(hs:dn s)(ht:dn t)(h:ic s t):ic (au q l s) (au q l t):=by
 have h1:=De q l hs ht h;have l1:=(ml q l hs).len;have l2:=(ml q l ht).len;unfold au;split
 ·exact kc (ia _) _ l1 l2 h1
 ·split
  ·exact kc (AV q _ hs ht h) _ l1 l2 h1
  ·split
   ·exact kc (ia _) _ l1 l2 h1
   ·split
    ·exact kW _ l1 l2 h1
    ·exact h1
theorem tS (l:ab)(i:Nat){s t:List Nat}(hs:dn s)(ht:dn t)(h:ic s t):ic (cM l i s) (cM l i t):=by
 unfold cM;split
 ·exact kc (ia _) _ hs.len ht.len h
 ·exact h
def lg (l:ab):List Nat->Nat->List Nat->List (Nat×List Nat)
 |[],_,_=>[]
 |n::ns,i,s=>(n,cM l i s)::lg l ns (i+1) (cM l i s)
def M4 (l:ab):List Nat->Nat->List Nat->List Nat
 |[],_,s=>s
 |_::ns,i,s=>M4 l ns (i+1) (cM l i s)
def eN (q:QP):List ab->List Nat->List (Nat×List Nat)
 |[],_=>[]
 |l::ls,s=>lg l l.next 0 (au q l s)++eN q ls (M4 l l.next 0 (au q l s))
def leads (M:List (Nat×List Nat))(x:List (List Nat)×(Nat->Bool)):List (List Nat)×(Nat->Bool):=M.foldl (fun x n=>(cZ x.1 n.1 n.2,eh x.1 x.2 n.1 n.2)) x
theorem xx (l:ab):∀(ns:List Nat) (i:Nat) (t:St),eF l ns i t=(M4 l ns i t.1,leads (lg l ns i t.1) t.2)
 |[],_,_=>rfl
 |n::ns,i,t=>by rw[eF,xx l ns];rfl
theorem oB (q:QP):∀(ls:List ab) (t:St),(dQ q ls t).2=leads (eN q ls t.1) t.2
 |[],_=>rfl
 |l::ls,t=>by rw[dQ,oB q ls,xx,eN,leads,leads,leads,List.foldl_append]
theorem yZ (l:ab):∀(ns:List Nat) (i:Nat) {s:List Nat},dn s->dn (M4 l ns i s)
 |[],_,_,h=>h
 |_::ns,i,_,h=>yZ l ns (i+1) (eQ l i h)
theorem Bu (l:ab):∀(ns:List Nat) (i:Nat) {s t:List Nat},dn s->dn t->ic s t->ic (M4 l ns i s) (M4 l ns i t)
 |[],_,_,_,_,_,h=>h
 |_::ns,i,_,_,hs,ht,h=>Bu l ns (i+1) (eQ l i hs) (eQ l i ht) (tS l i hs ht h)
theorem A8 (l:ab)(N:Nat):∀(ns:List Nat) (i:Nat) {s:List Nat},(∀n∈ns,n<N)->dn s->∀x∈lg l ns i s,x.1<N/\dn x.2
 |[],_,_,_,_,x,hx=>by cases hx
 |n::ns,i,s,hn,h,x,hx=>by
  rcases jP.mp hx with rfl|hx
  ·exact⟨hn n (jM ..),eQ l i h⟩
  ·exact A8 l N ns (i+1) (fun m hm=>hn m (jN _ hm)) (eQ l i h) x hx
theorem pL (q:QP)(N:Nat):∀(ls:List ab) {s:List Nat},(∀l∈ls,∀n∈l.next,n<N)->dn s->∀x∈eN q ls s,x.1<N/\dn x.2
 |[],_,_,_,x,hx=>by cases hx
 |l::ls,s,hn,h,x,hx=>by
  have hp:=fy q l h;rcases List.mem_append.mp hx with hx|hx
  ·exact A8 l N l.next 0 (hn l (jM ..)) hp x hx
  ·exact pL q N ls (fun m hm=>hn m (jN _ hm)) (yZ l _ _ hp) x hx
theorem tJ (l:ab):∀(ns:List Nat) (i:Nat) {s t:List Nat},dn s->dn t->ic s t->∀x∈lg l ns i s,∃y,(x.1,y)∈lg l ns i t/\ic x.2 y
 |[],_,_,_,_,_,_,x,hx=>by cases hx
 |n::ns,i,s,t,hs,ht,h,x,hx=>by
  have h1:=tS l i hs ht h;rcases jP.mp hx with rfl|hx
  ·exact⟨_,jM ..,h1⟩
  ·obtain⟨y,hy,hl⟩:=tJ l ns (i+1) (eQ l i hs) (eQ l i ht) h1 x hx;exact⟨y,jN _ hy,hl⟩
theorem tH (q:QP):∀(ls:List ab) {s t:List Nat},dn s->dn t->ic s t->∀x∈eN q ls s,∃y,(x.1,y)∈eN q ls t/\ic x.2 y
 |[],_,_,_,_,_,x,hx=>by cases hx
 |l::ls,s,t,hs,ht,h,x,hx=>by
  have h1:=C0 q l hs ht h;have o1:=fy q l hs;have o2:=fy q l ht;rcases List.mem_append.mp hx with hx|hx
  ·obtain⟨y,hy,hl⟩:=tJ l l.next 0 o1 o2 h1 x hx;exact⟨y,List.mem_append.mpr (.inl hy),hl⟩
  ·obtain⟨y,hy,hl⟩:=tH q ls (yZ l _ _ o1) (yZ l _ _ o2) (Bu l _ _ o1 o2 h1) x hx;exact⟨y,List.mem_append.mpr (.inr hy),hl⟩
theorem j9 (E:List (List Nat))(n:Nat)(s:List Nat)(hn:n<E.length)(b:Nat):(cZ E n s).getD b []=if b=n then dG (E.getD n []) s else E.getD b []:=by
 unfold cZ;split
 ·rename_i h;split
  ·rename_i e;rw[e,h]
  ·rfl
 ·exact zX E n _ hn b
theorem eM {s t:List Nat}(hs:dn s)(h:ic s t)(hn:¬s=ak):¬t=ak:=fun e=>hn (by
 subst e;refine DI hs.len (by decide) fun k hk=> ?_
 have:=h k hk;have hz:ak.getD k 0=0:=by
  unfold ak;rw[jA,jO,jb hk];rfl
 rw[hz]at this⊢;exact AK this)
structure Xa (N:Nat)(M:List (Nat×List Nat))(E:List (List Nat))(O:Nat->Bool)(E1:List (List Nat))(O1:Nat->Bool):Prop where
 ok:vB E1
 len:E1.length=N
 up:∀b,b<N->ic (E.getD b []) (E1.getD b [])
 Og:∀x∈M,ic x.2 (E1.getD x.1 [])
 shut:∀b,b<N->O1 b=false->O b=false/\E1.getD b []=E.getD b []
 live:∀b,b<N->O1 b=true->O b=true\/¬E1.getD b []=ak
 least:∀U:Nat->List Nat,(∀b,b<N->ic (E.getD b []) (U b))->(∀x∈M,ic x.2 (U x.1))->∀b,b<N->ic (E1.getD b []) (U b)
theorem qt (N:Nat):∀(M:List (Nat×List Nat)) (E:List (List Nat)) (O:Nat->Bool),vB E->E.length=N->(∀x∈M,x.1<N/\dn x.2)->Xa N M E O (leads M (E,O)).1 (leads M (E,O)).2
 |[],E,O,hE,hl,_=>⟨hE,hl,fun _ _=>pD _,fun x hx=>(by cases hx),fun b _ h=>⟨h,rfl⟩,fun b _ h=> .inl h,fun U h _ b hb=>h b hb⟩
 |x::M,E,O,hE,hl,hM=>by
  obtain⟨lf,Ip⟩:=hM x (jM ..);have Iq:x.1<E.length:=by omega
  have hs:=hE.at Iq;have Xo:=ti hE Iq Ip;have ih:=qt N M (cZ E x.1 x.2) (eh E O x.1 x.2) Xo (by rw[qq];exact hl) (fun y hy=>hM y (jN _ hy));have e:leads (x::M) (E,O)=leads M (cZ E x.1 x.2,eh E O x.1 x.2):=rfl;rw[e];have up1:∀b,b<N->ic (E.getD b []) ((cZ E x.1 x.2).getD b []):=fun b hb=>by
   rw[j9 E x.1 x.2 Iq];split
   ·rename_i e1;rw[e1];exact(yJ hs).1
   ·exact pD _
  refine⟨ih.ok,ih.len,fun b hb=>j8 (up1 b hb) (ih.up b hb),fun y hy=> ?_,fun b hb h=> ?_,fun b hb h=> ?_,fun U h1 h2 b hb=> ?_⟩
  ·rcases jP.mp hy with rfl|hy
   ·refine j8 ?_ (ih.up y.1 lf);rw[j9 E y.1 y.2 Iq,jb rfl];exact(yJ hs).2
   ·exact ih.Og y hy
  ·obtain⟨h1,h2⟩:=ih.shut b hb h;unfold eh at h1;split at h1
   ·rename_i hj;exact⟨h1,h2.trans (by rw[cZ,jb hj])⟩
   ·rename_i hj;unfold bH at h1;split at h1
    ·cases h1
    ·rename_i c8;exact⟨h1,h2.trans (by rw[j9 E x.1 x.2 Iq,ja c8])⟩
  ·rcases ih.live b hb h with h1|h1
   ·unfold eh at h1;split at h1
    ·exact .inl h1
    ·rename_i hj;unfold bH at h1;split at h1
     ·rename_i jv;right;refine eM (Av hs Ip) (?_:ic (dG (E.getD x.1 []) x.2) _) (fun hz=> ?_)
      ·have:=ih.up b hb;rw[j9 E x.1 x.2 Iq,jb jv]at this;exact this
      ·obtain⟨k,hk,c8⟩:=DZ hs hj;have h0:(dG (E.getD x.1 []) x.2).getD k 0=0:=by
        rw[hz];unfold ak;rw[jA,jO,jb hk];rfl
       have:=(yJ (t:=x.2) hs).1 k hk;rw[h0]at this c8;exact c8 (AK this).symm
     ·exact .inl h1
   ·exact .inr h1
  ·refine ih.least U (fun c hc=> ?_) (fun y hy=>h2 y (jN _ hy)) b hb;rw[j9 E x.1 x.2 Iq];split
   ·rename_i e1;rw[e1];exact join_le hs (h1 x.1 lf) (h2 x (jM ..))
   ·exact h1 c hc
structure mq (q:QP)(U:Nat->List Nat):Prop where
 ok:∀b,b<q.blocks.length->dn (U b)
 start:ic aA (U 0)
 step:∀b,b<q.blocks.length->¬U b=ak->∀x∈eN q (q.blocks.getD b []) (U b),ic x.2 (U x.1)
structure Inv (q:QP)(E:List (List Nat))(O:Nat->Bool):Prop where
 ok:vB E
 len:E.length=q.blocks.length
 start:ic aA (E.getD 0 [])
 step:∀b,b<q.blocks.length->O b=false->¬E.getD b []=ak->∀x∈eN q (q.blocks.getD b []) (E.getD b []),ic x.2 (E.getD x.1 [])
 live:∀b,b<q.blocks.length->O b=true->¬E.getD b []=ak
 least:∀U,mq q U->∀b,b<q.blocks.length->ic (E.getD b []) (U b)
theorem tR:¬aA=ak:=by decide
theorem Fe (q:QP)(h0:0<q.blocks.length):Inv q (cZ (List.replicate q.blocks.length ak) 0 aA) (eh (List.replicate q.blocks.length ak) (fun _=>false) 0 aA):=by
 have hz:∀b,b<q.blocks.length->(List.replicate q.blocks.length ak).getD b []=ak:=fun b hb=>by simp[List.getD_eq_getElem?_getD,hb]
 have oF:vB (List.replicate q.blocks.length ak):=fun s hs=>by rw[List.eq_of_mem_replicate hs];exact⟨by decide,mL⟩
 have L:=qt q.blocks.length [(0,aA)] (List.replicate q.blocks.length ak) (fun _=>false) oF (by simp) (fun x hx=>by rw[jI.mp hx];exact⟨h0,kU⟩);have hle:∀U:List Nat,ic ak U:=fun U k hk=>by
  have:ak.getD k 0=0:=by unfold ak;rw[jA,jO,jb hk];rfl
  rw[this];exact Nat.or_zero _
 refine⟨L.ok,L.len,L.Og (0,aA) (jI.mpr rfl),fun b hb hO c8=> ?_,fun b hb hO=> ?_,fun U hU=>L.least U (fun b hb=>by rw[hz b hb];exact hle _) (fun x hx=>by rw[jI.mp hx];exact hU.start)⟩
 ·obtain⟨-,h2⟩:=L.shut b hb hO;have e:(leads [(0,aA)] (List.replicate q.blocks.length ak,fun _=>false)).1=cZ (List.replicate q.blocks.length ak) 0 aA:=rfl;rw[e,hz b hb]at h2;exact absurd h2 c8
 ·rcases L.live b hb hO with h|h
  ·cases h
  ·exact h
theorem Iw (q:QP)(jw:∀b,b<q.blocks.length->∀l∈q.blocks.getD b [],∀n∈l.next,n<q.blocks.length)(E:List (List Nat))(O:Nat->Bool)(b:Nat)(hb:b<q.blocks.length)(hO:O b=true)(h:Inv q E O):
  Inv q (dx q E (bH O b false) b).2.1 (dx q E (bH O b false) b).2.2:=by
 have KV:b<E.length:=by rw[h.len];exact hb
 have hs:=h.ok.at KV;have e:(dx q E (bH O b false) b).2=leads (eN q (q.blocks.getD b []) (E.getD b [])) (E,bH O b false):=oB q _ _;have L:=qt q.blocks.length (eN q (q.blocks.getD b []) (E.getD b [])) E (bH O b false) h.ok h.len (pL q q.blocks.length _ (jw b hb) hs);rw[<-e]at L;refine⟨L.ok,L.len,j8 h.start (L.up 0 (by omega)),fun c hc hOc c8=> ?_,fun c hc hOc=> ?_,fun U hU=>L.least U (fun c hc=>h.least U hU c hc) (fun x hx=> ?_)⟩
 ·obtain⟨h1,h2⟩:=L.shut c hc hOc;rw[h2]at c8⊢;by_cases ym:c=b
  ·subst ym;exact L.Og
  ·unfold bH at h1;rw[ja ym]at h1;intro x hx;exact j8 (h.step c hc h1 c8 x hx) (L.up x.1 (pL q q.blocks.length _ (jw c hc) (h.ok.at (by rw[h.len];exact hc)) x hx).1)
 ·rcases L.live c hc hOc with h1|h1
  ·unfold bH at h1;split at h1
   ·cases h1
   ·exact eM (h.ok.at (by rw[h.len];exact hc)) (L.up c hc) (h.live c hc h1)
  ·exact h1
 ·have hle:=h.least U hU b hb;obtain⟨y,hy,YY⟩:=tH q (q.blocks.getD b []) hs (hU.ok b hb) hle x hx;exact j8 YY (hU.step b hb (eM hs hle (h.live b hb hO)) (x.1,y) hy)
end FlwS
namespace RefF
theorem QD:True:=trivial
end RefF
namespace RefG
theorem QE:True:=trivial
end RefG
namespace RefH
theorem QF:True:=trivial
end RefH
namespace RefO
theorem QM:True:=trivial
end RefO
namespace RefP
theorem QN:True:=trivial
end RefP
namespace RefQ
theorem QO:True:=trivial
end RefQ
namespace Sq
theorem Pd:True:=trivial
end Sq
namespace RefR
theorem QQ:True:=trivial
end RefR
namespace RefS
theorem QR:True:=trivial
end RefS
namespace Aux
theorem Qu:True:=trivial
end Aux
namespace RefT
theorem QS:True:=trivial
end RefT
namespace Sq
theorem Pe:True:=trivial
end Sq
namespace Sq
open Go Aux RefS RefT
theorem WS.set_set (s:WS)(k:Nat)(a b:B):WS.set (WS.set s k a) k b=WS.set s k b:=by
 simp[WS.set]
end Sq
namespace Sq
theorem Pf:True:=trivial
end Sq
namespace Sq
open Go Aux RefS RefT
theorem yy (p:RP)(i:Nat)(hi:i<p.lines.length):p.inside (i+1)=if word (p.line i) 0=bX then true else if ends (word (p.line i) 0)then false else p.inside i:=by
 unfold RP.inside;rw[List.take_add_one,jB hi];have:p.line i=p.lines[i]:=by simp[RP.line,hi]
 simp only[Option.toList_some,List.reverse_append,List.reverse_cons,List.reverse_nil,List.nil_append,List.cons_append,iQ,this]
theorem om.first {text:B}{raw:Bool}{p:RP}(h:om text raw p):0<p.blocks.length/\p.blocks.getD 0 0<p.lines.length:=by
 have h0:0<p.blocks.length:=List.length_pos_iff.mpr h.nonempty;refine⟨h0,?_⟩;have hm:p.blocks.getD 0 0∈p.blocks:=by simp[h0]
 have hw:=h.pre.blocks;rw[hw]at hm⊢;exact(eA hm).1
end Sq
end Go.Proofs.YtmlgajhhnojdjaaGreatDoor

import Derived.Test.YtmlgajhhnojdjaaGreatDoorRBA
import Derived.Test.YtmlgajhhnojdjaaGreatDoorRBC
namespace Go.Proofs.YtmlgajhhnojdjaaGreatDoor
namespace FlwQ
open Go Go.RowKit Sq Aux PrjF PrjG PrjJ PrjK PrjL PrjM PrjO PrjP PrjQ PrjS PrjU FlwA FlwB FlwC FlwD FlwE FlwF FlwG FlwH FlwI FlwJ FlwK FlwL FlwM FlwN FlwO FlwP
attribute [local go_sem ↓] kA iK
def cU (q:QP)(E:List (List Nat))(b:Nat):Option Nat:=if E.getD b []=aq then none else cW q (q.blocks.getD b []) (E.getD b [])
def aB (f:Nat->Option Nat):Nat->Nat->Option Nat
 |0,_=>none
 |m+1,k=>(f k).or (aB f m (k+1))
theorem qI (f:Nat->Option Nat):∀(d m k:Nat),(∀c,k<=c->c<k+d->f c=none)->aB f (d+m) k=aB f m (k+d)
 |0,m,k,_=>by rw[Nat.zero_add];rfl
 |d+1,m,k,h=>by
  rw[show d+1+m=(d+m)+1 by omega,aB,h k (jC _) (by omega),Option.none_or];rw[qI f d m (k+1) (fun c h1 h2=>h c (by omega) (by omega)),show k+1+d=k+(d+1) by omega]
theorem sE (f:Nat->Option Nat):∀(m k:Nat),(∀c,k<=c->c<k+m->f c=none)->aB f m k=none
 |0,_,_=>rfl
 |m+1,k,h=>by
  rw[aB,h k (jC _) (by omega),Option.none_or];exact sE f m (k+1) (fun c h1 h2=>h c (by omega) (by omega))
def gS (E:List (List Nat))(k N:Nat):Nat->Bool:=fun b=>decide (k<=b)&&(decide (b<N)&& !(E.getD b []==aq))
theorem y7 {E:List (List Nat)}{k N b:Nat}(h:gS E k N b=false)(h1:k<=b)(h2:b<N)(q:QP):cU q E b=none:=by
 unfold gS at h;rw[decide_eq_true h1,decide_eq_true h2]at h;simp only[Bool.true_and,Bool.not_eq_false',beq_iff_eq]at h;rw[cU,jb h]
theorem tA {E:List (List Nat)}{k N b:Nat}(h:gS E k N b=true):k<=b/\b<N/\¬E.getD b []=aq:=by
 unfold gS at h;simp only[Bool.and_eq_true,decide_eq_true_eq,Bool.not_eq_true',beq_eq_false_iff_ne]at h;exact h
def CI (E:List (List Nat))(N:Nat)(k:Nat):Nat->Bool:=fun b=>decide (b<k)&&(decide (b<N)&& !(E.getD b []==aq))
theorem TG (E:List (List Nat))(N k:Nat)(hk:k<N):CI E N (k+1)=if(E.getD k []==aq)=true then CI E N k else cz (CI E N k) k true:=by
 funext b
 by_cases e:b=k
 ·subst e;cases h:(E.getD b []==aq)
  ·rw[ja (by decide)];simp only[CI,cz,h];simp[hk]
  ·rw[jb rfl];simp only[CI,h];simp
 ·have h1:CI E N (k+1) b=CI E N k b:=by
   unfold CI;have:decide (b<k+1)=decide (b<k):=by rw[decide_eq_decide];omega
   rw[this]
  rw[h1];split
  ·rfl
  ·unfold cz;rw[ja e]
theorem TH (E:List (List Nat))(N:Nat):CI E N 0=fun _=>false:=by funext b;simp[CI]
theorem VS (E:List (List Nat))(N:Nat):CI E N N=gS E 0 N:=by
 funext b;unfold CI gS
 by_cases h:b<N
 ·simp[h]
 ·simp[h]
theorem Pr {E:List (List Nat)}{k N b:Nat}(hb:Ms (gS E k N) N b)(aK:b<N):cz (gS E k N) b false=gS E (b+1) N:=by
 obtain⟨h1,h2,h3⟩:=tA (hb.sx aK)
 funext c
 unfold cz;by_cases e:c=b
 ·subst e;rw[jb rfl];have:decide (c+1<=c)=false:=by simp
  unfold gS;rw[this];rfl
 ·rw[ja e];by_cases hc:c<b
  ·rw[hb.none c hc];simp[gS];omega
  ·unfold gS;have a1:decide (k<=c)=true:=by simp;omega
   have a2:decide (b+1<=c)=true:=by simp;omega
   rw[a1,a2]
theorem tY (r:Option Nat):CR r=.tuple #[.int .i64 ((r.getD 0:Nat):Int),.bool r.isSome]:=by cases r<;>rfl
section
variable {z x a ap mb:Nat} {w w':World} {q:QP} {vl vb:Value} {us:List Value} {vss:List (List (Value×Value))} {E:List (List Nat)} {O:Nat->Bool}
theorem kK.WC (h:kK z x a ap mb w q vl vb us vss E O){w1:World}{O1:Nat->Bool}(hg:w.grownBy w1 (some mb))(ho:cN w1 mb q.blocks.length O1):kK z x a ap mb w1 q vl vb us vss E O1:=
 h.qa (.right hg) rfl (h.row.heap (hg.block ap h.row.lt (fun e=>by
  simp only[Option.some.injEq]at e;obtain⟨es,clock,h1⟩:=h.sx.isMap;obtain⟨-,cs,h2,-⟩:=h.row;rw[<-e,h2]at h1;cases h1))) ho
set_option maxRecDepth 20000 in
set_option maxHeartbeats 4000000 in
theorem AI (h:kK z x a ap mb w q vl vb us vss E (fun _=>false))(hn:q.blocks.length<=4000)(ic:q.locals.length<=12)(hq:Jw q.blocks.length q)(eX:∀j,(q.blocks.getD j []).length<=4000):
  Calls Tryz.prog 91 #[.pointer (some ⟨x,0,none⟩)] w fun e w'=>e=.returned (CR (aB (cU q E) q.blocks.length 0))/\cm ap mb w w':=by
 obtain⟨c0,c1,c2⟩:=h.facts;have hlen:=h.len;have hS:kK z x a ap mb w q vl vb us vss E (CI E q.blocks.length 0):=by rw[TH];exact h
 have HF:Hid (aB (cU q E) q.blocks.length 0=aB (cU q E) (q.blocks.length-0) 0):=rfl;obtain⟨ans,HA⟩:∃ans,Hid (aB (cU q E) q.blocks.length 0=ans):=⟨_,rfl⟩;rw[HA.out]at HF⊢;go_enter Tryz.func91,Tryz.ntmps91
 go_wp2
 go_loopg [11] (q.blocks.length) (fun g v11 wr=>∃k:Nat,k<=q.blocks.length/\g+k=q.blocks.length/\v11=.int .i64 k/\kK z x a ap mb wr q vl vb us vss E (CI E q.blocks.length k)/\cm ap mb w wr)
 case atStart=>exact⟨0,jQ _,rfl,rfl,hS,cm.refl _ _ _⟩
 case round=>
  obtain⟨k,hk,GH,rfl,oB,AR⟩:=hrel;clear hS c0 c1 c2 h;by_cases aK:k<q.blocks.length
  ·have hkE:k<E.length:=by omega
   have hE:=oB.row.ok hkE;have has:=oB.row.has k hkE;have hof:=oB.row.of k hkE;have hki:(k:Int)<(q.blocks.length:Nat):=by omega
   have HU:Hid (CI E q.blocks.length (k+1)=if(E.getD k []==aq)=true then CI E q.blocks.length k else cz (CI E q.blocks.length k) k true):=TG E _ k aK;have hZ:aW (wr.alloc (.cells #[.int .u8 0,.int .u8 0,.int .u8 0,.int .u8 0,.int .u8 0,.int .u8 0,.int .u8 0,.int .u8 0,.int .u8 0,.int .u8 0,.int .u8 0,.int .u8 0,.int .u8 0,.int .u8 0,.int .u8 0,.int .u8 0,.int .u8 0,.int .u8 0,.int .u8 0,.int .u8 0,.int .u8 0,.int .u8 0,.int .u8 0,.int .u8 0] 209)) wr.heap.size aq:=aW.new wr (s:=aq) (by decide);have Rk:Below wr.heap.size wr (wr.alloc (.cells #[.int .u8 0,.int .u8 0,.int .u8 0,.int .u8 0,.int .u8 0,.int .u8 0,.int .u8 0,.int .u8 0,.int .u8 0,.int .u8 0,.int .u8 0,.int .u8 0,.int .u8 0,.int .u8 0,.int .u8 0,.int .u8 0,.int .u8 0,.int .u8 0,.int .u8 0,.int .u8 0,.int .u8 0,.int .u8 0,.int .u8 0,.int .u8 0] 209)):=(Below.refl _ _).alloc (jC _) _;have oO:=aW.room hZ;have GI:=pI hE.len;have hJ:=aW.store hZ hE.len;have xO:Below wr.heap.size wr ((wr.alloc (.cells #[.int .u8 0,.int .u8 0,.int .u8 0,.int .u8 0,.int .u8 0,.int .u8 0,.int .u8 0,.int .u8 0,.int .u8 0,.int .u8 0,.int .u8 0,.int .u8 0,.int .u8 0,.int .u8 0,.int .u8 0,.int .u8 0,.int .u8 0,.int .u8 0,.int .u8 0,.int .u8 0,.int .u8 0,.int .u8 0,.int .u8 0,.int .u8 0] 209)).setCells wr.heap.size 0 (ao (E.getD k []))):=ay Rk (jC _) _ _;have hW:=oB.below xO;have Kb:=AR.on xO;generalize E.getD k []=e0 at*;clear Rk hZ xO;go_upto_region 4 with fail
   generalize ((wr.alloc (.cells #[.int .u8 0,.int .u8 0,.int .u8 0,.int .u8 0,.int .u8 0,.int .u8 0,.int .u8 0,.int .u8 0,.int .u8 0,.int .u8 0,.int .u8 0,.int .u8 0,.int .u8 0,.int .u8 0,.int .u8 0,.int .u8 0,.int .u8 0,.int .u8 0,.int .u8 0,.int .u8 0,.int .u8 0,.int .u8 0,.int .u8 0,.int .u8 0] 209)).setCells wr.heap.size 0 (ao e0))=W at*;clear oO has hof GI;obtain⟨c0,c1,c2⟩:=hW.facts;have KR:=II wr.heap.size e0 W hJ hE.lt;cases hz:(e0==aq)with
   |true=>
    rw[hz]at KR;have HU2:CI E q.blocks.length (k+1)=CI E q.blocks.length k:=by rw[HU.out,hz];rfl
    clear hz;go_wp2_with (go_at_call 129;refine KR.mono ?_;rintro e w1 ⟨rfl,rfl⟩)
    go_roundg (q.blocks.length-(k+1))
    case measure=>omega
    case rel=>exact⟨k+1,by omega,by omega,by go_num,by rw[HU2];exact hW,Kb⟩
   |false=>
    rw[hz]at KR;have HU2:CI E q.blocks.length (k+1)=cz (CI E q.blocks.length k) k true:=by rw[HU.out,hz];rfl
    clear hz;go_wp2_with (first
     |(go_at_call 129;refine KR.mono ?_;rintro e w1 ⟨rfl,rfl⟩)
     |(at_mapUpdate;refine qo _ rfl _ _ _ rfl k rfl rfl rfl hW.sx aK hn ?_;intro wg hog yS))
    go_roundg (q.blocks.length-(k+1))
    case measure=>omega
    case rel=>exact⟨k+1,by omega,by omega,by go_num,by rw[HU2];exact kK.WC hW yS hog,Kb.trans (.right yS)⟩
  ·obtain rfl:k=q.blocks.length:=by omega
   rw[VS]at oB;go_wp2
   go_loopg [2,3] (gU (gS E 0 q.blocks.length) q.blocks.length) (fun g v2 v3 wn=>∃(O':Nat->Bool) (r:Option Nat),v2=.int .i64 ((r.getD 0:Nat):Int)/\v3=.bool r.isSome/\g=gU O' q.blocks.length/\kK z x a ap mb wn q vl vb us vss E O'/\cm ap mb w wn/\Hid ((r=none/\∃k,k<=q.blocks.length/\O'=gS E k q.blocks.length/\ans=aB (cU q E) (q.blocks.length-k) k)\/(∃n,r=some n/\O'=(fun _=>false)/\ans=some n)))
   case atStart=>exact⟨_,none,rfl,rfl,rfl,oB,AR,.inl ⟨rfl,0,jQ _,rfl,HF.out⟩⟩
   case round=>
    obtain⟨O',r,rfl,rfl,hg,TS,YJ,HX⟩:=hrel;clear oB AR HF;obtain⟨c0,c1,c2⟩:=TS.facts;by_cases hc:gU O' q.blocks.length=0
    ·have ZK:¬(0:Int)<(gU O' q.blocks.length:Nat):=by omega
     have UE:Hid (CR ans=.tuple #[.int .i64 ((r.getD 0:Nat):Int),.bool r.isSome]):=by
      rcases HX.out with⟨h1,k,hk,h2,h3⟩|⟨n,h1,h2,h3⟩
      ·have:ans=none:=by
        rw[h3];refine sE _ _ _ fun c ko mZ=> ?_
        have Xw:c<q.blocks.length:=by omega
        have:=xE _ hc c Xw;rw[h2]at this;exact y7 this ko Xw q
       unfold Hid;rw[this,h1];rfl
      ·unfold Hid;rw[h3,h1];rfl
     go_wp2_with (at_len;refine ig _ rfl _ rfl rfl TS.sx ?_)
     go_ret2
     exact⟨by rw[UE.out];rfl,YJ⟩
    ·have ZK:(0:Int)<(gU O' q.blocks.length:Nat):=by omega
     obtain⟨k,hk,hO',HK⟩:∃k,k<=q.blocks.length/\Hid (O'=gS E k q.blocks.length)/\Hid (ans=aB (cU q E) (q.blocks.length-k) k):=by
      rcases HX.out with⟨h1,k,hk,h2,h3⟩|⟨n,h1,h2,h3⟩
      ·exact⟨k,hk,h2,h3⟩
      ·exact absurd (kj _ fun c _=>by rw[h2]) hc
     clear HX;have KT:=sV TS hn;have KG:=fun w1 b (hb:b<q.blocks.length) O1 (ti:kK z x a ap mb w1 q vl vb us vss E O1)=>Gc ti b hb hn ic hq eX
     have aK:∀b,Ms O' q.blocks.length b->b<q.blocks.length:=fun b hl=>by
      refine Nat.lt_of_le_of_ne hl.le (fun e=>hc (kj _ fun c AV=>hl.none c (by omega)))
     go_upto_region 9 with(first
      |(at_len;refine ig _ rfl _ rfl rfl TS.sx ?_)
      |(go_at_call 146;refine KT.mono ?_;rintro e w1 ⟨b,rfl,av,ti,qp⟩)
      |(go_at_call 145;refine(KG w1 b (aK b av) _ ti).mono ?_;rintro e w2 ⟨rfl,ml⟩;obtain⟨r1,oC⟩:∃r1,Hid (cW q (q.blocks.getD b []) (E.getD b [])=r1):=⟨_,rfl⟩;rw[oC.out,tY]))
     have qk:=aK b av;have mn:Hid (cz O' b false=gS E (b+1) q.blocks.length):=by
      unfold Hid;rw[hO'.out]at av⊢;exact Pr av qk
     have XU:k<=b/\¬E.getD b []=aq:=by
      have:=av.sx qk;rw[hO'.out]at this;exact⟨(tA this).1,(tA this).2.2⟩
     have HKb:Hid (ans=aB (cU q E) (q.blocks.length-b) b):=by
      unfold Hid;rw[HK.out,show q.blocks.length-k=(b-k)+(q.blocks.length-b) by omega,qI _ (b-k) _ k (fun c h1 h2=> ?_),show k+(b-k)=b by omega];have:=av.none c (by omega);rw[hO'.out]at this;exact y7 this h1 (by omega) q
     have We:cU q E b=cW q (q.blocks.getD b []) (E.getD b []):=by rw[cU,ja XU.2]
     have HKc:Hid (ans=r1.or (aB (cU q E) (q.blocks.length-(b+1)) (b+1))):=by
      unfold Hid;rw[HKb.out,show q.blocks.length-b=(q.blocks.length-(b+1))+1 by omega,aB,We.trans oC.out]
     have AS:=ti.below ml;have qq:=(YJ.trans qp).on ml;have Xx:=Au (av.sx qk) q.blocks.length qk;clear KT KG ti HKb HK We c0 c1 c2;clear oC;obtain⟨c0,c1,c2⟩:=AS.facts;cases r1 with
     |none=>
      go_wp2
      go_roundg (gU (cz O' b false) q.blocks.length)
      case measure=>omega
      case rel=>exact⟨cz O' b false,none,rfl,rfl,rfl,AS,qq,.inl ⟨rfl,b+1,by omega,mn.out,HKc.out⟩⟩
     |some n=>
      obtain⟨w3,U6,ho3,ZV⟩:=PG AS.sx;have ZC:=kK.WC AS ZV ho3;go_wp2
      go_roundg 0
      case measure=>omega
      case rel=>exact⟨fun _=>false,some n,rfl,rfl,(kj _ fun _ _=>rfl).symm,ZC,qq.trans (.right ZV),.inr ⟨n,rfl,rfl,HKc.out⟩⟩
end
end FlwQ
namespace FlwS
open Go Sq FlwA FlwB FlwD FlwE FlwF FlwG FlwI FlwJ FlwK FlwM FlwO FlwQ
def yX (a b:Nat):Prop:=b|||a=b
theorem mA (a:Nat):yX a a:=Nat.or_self a
theorem OF {a b c:Nat}(h:yX a b)(h':yX b c):yX a c:=by
 unfold yX at*;rw[<-h',Nat.or_assoc,h]
theorem R8 (a b:Nat):yX a (a|||b):=by
 unfold yX;rw[Nat.or_comm a b,Nat.or_assoc,Nat.or_self]
theorem OE (a b:Nat):yX b (a|||b):=by
 unfold yX;rw[Nat.or_assoc,Nat.or_self]
theorem Vk {a b c:Nat}(h:yX a c)(h':yX b c):yX (a|||b) c:=by
 unfold yX at*;rw[<-Nat.or_assoc,h,h']
theorem Ht {a:Nat}(h:yX a 0):a=0:=by unfold yX at h;rwa [Nat.zero_or]at h
def la (s t:List Nat):Prop:=∀k,k<24->yX (s.getD k 0) (t.getD k 0)
theorem Hu (s:List Nat):la s s:=fun _ _=>mA _
theorem oR {s t u:List Nat}(h:la s t)(h':la t u):la s u:=fun k hk=>OF (h k hk) (h' k hk)
theorem EI {s t:List Nat}(hs:eH s):la s (fC s t)/\la t (fC s t):=by
 constructor<;>intro k hk<;>rw[ks hs.len,jb hk]
 ·exact R8 _ _
 ·exact OE _ _
theorem join_le {s t u:List Nat}(hs:eH s)(h:la s u)(h':la t u):la (fC s t) u:=fun k hk=>by
 rw[ks hs.len,jb hk];exact Vk (h k hk) (h' k hk)
theorem dz (s:List Nat)(i v k:Nat):(s.set i v).getD k 0=if i=k/\k<s.length then v else s.getD k 0:=by
 rw[jA,jd,jA];by_cases h:i=k
 ·subst h;by_cases h2:i<s.length
  ·simp[h2]
  ·simp[h2]
 ·rw[ja h,ja (fun x=>h x.1)]
theorem IW {s t:List Nat}(hs:s.length=24)(ht:t.length=24)(h:la s t)(i:Nat){u v:Nat}(huv:yX u v):la (s.set i u) (t.set i v):=fun k hk=>by
 rw[dz,dz,hs,ht];by_cases e:i=k/\k<24
 ·rw[jb e,jb e];exact huv
 ·rw[ja e,ja e];exact h k hk
theorem o5 {u v:Nat}(huv:yX u v):∀(ps:List (Nat×Nat)) {s t:List Nat},s.length=24->t.length=24->la s t->la (gR u ps s) (gR v ps t)
 |[],_,_,_,_,h=>h
 |x::ps,s,t,hs,ht,h=>o5 huv ps (s:=s.set (ag x) u) (t:=t.set (ag x) v) (by simpa using hs) (by simpa using ht) (IW hs ht h _ huv)
theorem p9:∀(ps:List (Nat×Nat)) {s t:List Nat},s.length=24->t.length=24->la s t->la (dB ps s) (dB ps t)
 |[],_,_,_,_,h=>h
 |x::ps,s,t,hs,ht,h=>p9 ps (s:=s.set (ag x) _) (t:=t.set (ag x) _) (by simpa using hs) (by simpa using ht) (IW hs ht h _ (mA _))
theorem N4 {s t:List Nat}(hs:eH s)(ht:eH t)(h:la s t)(k:Nat):yX (s.getD k 0) (t.getD k 0):=by
 by_cases hk:k<24
 ·exact h k hk
 ·have e1:s.getD k 0=0:=by rw[jA,jG (by rw[hs.len];omega)];rfl
  have e2:t.getD k 0=0:=by rw[jA,jG (by rw[ht.len];omega)];rfl
  rw[e1,e2];exact mA 0
theorem Ii (q:QP)(x:Nat×Nat){s t:List Nat}(hs:eH s)(ht:eH t)(h:la s t):yX (dm q x s) (dm q x t):=by
 unfold dm;split
 ·exact N4 hs ht h _
 ·exact mA _
theorem Mb (q:QP)(l:aa){s t:List Nat}(hs:eH s)(ht:eH t)(h:la s t):la (cF q l s) (cF q l t):=by
 unfold cF;split
 ·exact p9 _ hs.len ht.len h
 ·split
  ·exact p9 _ hs.len ht.len h
  ·exact h
theorem LI (q:QP)(l:aa){s t:List Nat}(hs:eH s)(ht:eH t)(h:la s t):la (bj q l s) (bj q l t):=by
 have h1:=Mb q l hs ht h;have l1:=(BP q l hs).len;have l2:=(BP q l ht).len;unfold bj;split
 ·exact o5 (mA _) _ l1 l2 h1
 ·split
  ·exact o5 (Ii q _ hs ht h) _ l1 l2 h1
  ·split
   ·exact o5 (mA _) _ l1 l2 h1
   ·split
    ·exact p9 _ l1 l2 h1
    ·exact h1
theorem BN (l:aa)(i:Nat){s t:List Nat}(hs:eH s)(ht:eH t)(h:la s t):la (cu l i s) (cu l i t):=by
 unfold cu;split
 ·exact o5 (mA _) _ hs.len ht.len h
 ·exact h
def kQ (l:aa):List Nat->Nat->List Nat->List (Nat×List Nat)
 |[],_,_=>[]
 |n::ns,i,s=>(n,cu l i s)::kQ l ns (i+1) (cu l i s)
def T8 (l:aa):List Nat->Nat->List Nat->List Nat
 |[],_,s=>s
 |_::ns,i,s=>T8 l ns (i+1) (cu l i s)
def ej (q:QP):List aa->List Nat->List (Nat×List Nat)
 |[],_=>[]
 |l::ls,s=>kQ l l.next 0 (bj q l s)++ej q ls (T8 l l.next 0 (bj q l s))
def leads (M:List (Nat×List Nat))(x:List (List Nat)×(Nat->Bool)):List (List Nat)×(Nat->Bool):=M.foldl (fun x n=>(eO x.1 n.1 n.2,gX x.1 x.2 n.1 n.2)) x
theorem Da (l:aa):∀(ns:List Nat) (i:Nat) (t:St),gO l ns i t=(T8 l ns i t.1,leads (kQ l ns i t.1) t.2)
 |[],_,_=>rfl
 |n::ns,i,t=>by rw[gO,Da l ns];rfl
theorem th (q:QP):∀(ls:List aa) (t:St),(fP q ls t).2=leads (ej q ls t.1) t.2
 |[],_=>rfl
 |l::ls,t=>by rw[fP,th q ls,Da,ej,leads,leads,leads,List.foldl_append]
theorem Fb (l:aa):∀(ns:List Nat) (i:Nat) {s:List Nat},eH s->eH (T8 l ns i s)
 |[],_,_,h=>h
 |_::ns,i,_,h=>Fb l ns (i+1) (gu l i h)
theorem I1 (l:aa):∀(ns:List Nat) (i:Nat) {s t:List Nat},eH s->eH t->la s t->la (T8 l ns i s) (T8 l ns i t)
 |[],_,_,_,_,_,h=>h
 |_::ns,i,_,_,hs,ht,h=>I1 l ns (i+1) (gu l i hs) (gu l i ht) (BN l i hs ht h)
theorem Ix (l:aa)(N:Nat):∀(ns:List Nat) (i:Nat) {s:List Nat},(∀n∈ns,n<N)->eH s->∀x∈kQ l ns i s,x.1<N/\eH x.2
 |[],_,_,_,_,x,hx=>by cases hx
 |n::ns,i,s,hn,h,x,hx=>by
  rcases jP.mp hx with rfl|hx
  ·exact⟨hn n (jM ..),gu l i h⟩
  ·exact Ix l N ns (i+1) (fun m hm=>hn m (jN _ hm)) (gu l i h) x hx
theorem rm (q:QP)(N:Nat):∀(ls:List aa) {s:List Nat},(∀l∈ls,∀n∈l.next,n<N)->eH s->∀x∈ej q ls s,x.1<N/\eH x.2
 |[],_,_,_,x,hx=>by cases hx
 |l::ls,s,hn,h,x,hx=>by
  have hp:=gi q l h;rcases List.mem_append.mp hx with hx|hx
  ·exact Ix l N l.next 0 (hn l (jM ..)) hp x hx
  ·exact rm q N ls (fun m hm=>hn m (jN _ hm)) (Fb l _ _ hp) x hx
theorem By (l:aa):∀(ns:List Nat) (i:Nat) {s t:List Nat},eH s->eH t->la s t->∀x∈kQ l ns i s,∃y,(x.1,y)∈kQ l ns i t/\la x.2 y
 |[],_,_,_,_,_,_,x,hx=>by cases hx
 |n::ns,i,s,t,hs,ht,h,x,hx=>by
  have h1:=BN l i hs ht h;rcases jP.mp hx with rfl|hx
  ·exact⟨_,jM ..,h1⟩
  ·obtain⟨y,hy,hl⟩:=By l ns (i+1) (gu l i hs) (gu l i ht) h1 x hx;exact⟨y,jN _ hy,hl⟩
theorem Bv (q:QP):∀(ls:List aa) {s t:List Nat},eH s->eH t->la s t->∀x∈ej q ls s,∃y,(x.1,y)∈ej q ls t/\la x.2 y
 |[],_,_,_,_,_,x,hx=>by cases hx
 |l::ls,s,t,hs,ht,h,x,hx=>by
  have h1:=LI q l hs ht h;have o1:=gi q l hs;have o2:=gi q l ht;rcases List.mem_append.mp hx with hx|hx
  ·obtain⟨y,hy,hl⟩:=By l l.next 0 o1 o2 h1 x hx;exact⟨y,List.mem_append.mpr (.inl hy),hl⟩
  ·obtain⟨y,hy,hl⟩:=Bv q ls (Fb l _ _ o1) (Fb l _ _ o2) (I1 l _ _ o1 o2 h1) x hx;exact⟨y,List.mem_append.mpr (.inr hy),hl⟩
theorem oS (E:List (List Nat))(n:Nat)(s:List Nat)(hn:n<E.length)(b:Nat):(eO E n s).getD b []=if b=n then fC (E.getD n []) s else E.getD b []:=by
 unfold eO;split
 ·rename_i h;split
  ·rename_i e;rw[e,h]
  ·rfl
 ·exact Gv E n _ hn b
theorem cQ {s t:List Nat}(hs:eH s)(h:la s t)(hn:¬s=aq):¬t=aq:=fun e=>hn (by
 subst e;refine V4 hs.len (by decide) fun k hk=> ?_
 have:=h k hk;have hz:aq.getD k 0=0:=by
  unfold aq;rw[jA,jO,jb hk];rfl
 rw[hz]at this⊢;exact Ht this)
structure Led (N:Nat)(M:List (Nat×List Nat))(E:List (List Nat))(O:Nat->Bool)(E1:List (List Nat))(O1:Nat->Bool):Prop where
 ok:Fw E1
 len:E1.length=N
 up:∀b,b<N->la (E.getD b []) (E1.getD b [])
 vH:∀x∈M,la x.2 (E1.getD x.1 [])
 shut:∀b,b<N->O1 b=false->O b=false/\E1.getD b []=E.getD b []
 live:∀b,b<N->O1 b=true->O b=true\/¬E1.getD b []=aq
 least:∀U:Nat->List Nat,(∀b,b<N->la (E.getD b []) (U b))->(∀x∈M,la x.2 (U x.1))->∀b,b<N->la (E1.getD b []) (U b)
theorem x5 (N:Nat):∀(M:List (Nat×List Nat)) (E:List (List Nat)) (O:Nat->Bool),Fw E->E.length=N->(∀x∈M,x.1<N/\eH x.2)->Led N M E O (leads M (E,O)).1 (leads M (E,O)).2
 |[],E,O,hE,hl,_=>⟨hE,hl,fun _ _=>Hu _,fun x hx=>(by cases hx),fun b _ h=>⟨h,rfl⟩,fun b _ h=> .inl h,fun U h _ b hb=>h b hb⟩
 |x::M,E,O,hE,hl,hM=>by
  obtain⟨zn,Wv⟩:=hM x (jM ..);have RT:x.1<E.length:=by omega
  have hs:=hE.at RT;have hE1:=A8 hE RT Wv;have ih:=x5 N M (eO E x.1 x.2) (gX E O x.1 x.2) hE1 (by rw[x4];exact hl) (fun y hy=>hM y (jN _ hy));have e:leads (x::M) (E,O)=leads M (eO E x.1 x.2,gX E O x.1 x.2):=rfl;rw[e];have up1:∀b,b<N->la (E.getD b []) ((eO E x.1 x.2).getD b []):=fun b hb=>by
   rw[oS E x.1 x.2 RT];split
   ·rename_i e1;rw[e1];exact(EI hs).1
   ·exact Hu _
  refine⟨ih.ok,ih.len,fun b hb=>oR (up1 b hb) (ih.up b hb),fun y hy=> ?_,fun b hb h=> ?_,fun b hb h=> ?_,fun U h1 h2 b hb=> ?_⟩
  ·rcases jP.mp hy with rfl|hy
   ·refine oR ?_ (ih.up y.1 zn);rw[oS E y.1 y.2 RT,jb rfl];exact(EI hs).2
   ·exact ih.vH y hy
  ·obtain⟨h1,h2⟩:=ih.shut b hb h;unfold gX at h1;split at h1
   ·rename_i hj;exact⟨h1,h2.trans (by rw[eO,jb hj])⟩
   ·rename_i hj;unfold cz at h1;split at h1
    ·cases h1
    ·rename_i ea;exact⟨h1,h2.trans (by rw[oS E x.1 x.2 RT,ja ea])⟩
  ·rcases ih.live b hb h with h1|h1
   ·unfold gX at h1;split at h1
    ·exact .inl h1
    ·rename_i hj;unfold cz at h1;split at h1
     ·rename_i ke;right;refine cQ (G6 hs Wv) (?_:la (fC (E.getD x.1 []) x.2) _) (fun hz=> ?_)
      ·have:=ih.up b hb;rw[oS E x.1 x.2 RT,jb ke]at this;exact this
      ·obtain⟨k,hk,ea⟩:=zO hs hj;have h0:(fC (E.getD x.1 []) x.2).getD k 0=0:=by
        rw[hz];unfold aq;rw[jA,jO,jb hk];rfl
       have:=(EI (t:=x.2) hs).1 k hk;rw[h0]at this ea;exact ea (Ht this).symm
     ·exact .inl h1
   ·exact .inr h1
  ·refine ih.least U (fun c hc=> ?_) (fun y hy=>h2 y (jN _ hy)) b hb;rw[oS E x.1 x.2 RT];split
   ·rename_i e1;rw[e1];exact join_le hs (h1 x.1 zn) (h2 x (jM ..))
   ·exact h1 c hc
structure rP (q:QP)(U:Nat->List Nat):Prop where
 ok:∀b,b<q.blocks.length->eH (U b)
 start:la aU (U 0)
 step:∀b,b<q.blocks.length->¬U b=aq->∀x∈ej q (q.blocks.getD b []) (U b),la x.2 (U x.1)
structure Inv (q:QP)(E:List (List Nat))(O:Nat->Bool):Prop where
 ok:Fw E
 len:E.length=q.blocks.length
 start:la aU (E.getD 0 [])
 step:∀b,b<q.blocks.length->O b=false->¬E.getD b []=aq->∀x∈ej q (q.blocks.getD b []) (E.getD b []),la x.2 (E.getD x.1 [])
 live:∀b,b<q.blocks.length->O b=true->¬E.getD b []=aq
 least:∀U,rP q U->∀b,b<q.blocks.length->la (E.getD b []) (U b)
theorem L4:¬aU=aq:=by decide
theorem Ov (q:QP)(h0:0<q.blocks.length):Inv q (eO (List.replicate q.blocks.length aq) 0 aU) (gX (List.replicate q.blocks.length aq) (fun _=>false) 0 aU):=by
 have hz:∀b,b<q.blocks.length->(List.replicate q.blocks.length aq).getD b []=aq:=fun b hb=>by simp[List.getD_eq_getElem?_getD,hb]
 have cd:Fw (List.replicate q.blocks.length aq):=fun s hs=>by rw[List.eq_of_mem_replicate hs];exact⟨by decide,ph⟩
 have L:=x5 q.blocks.length [(0,aU)] (List.replicate q.blocks.length aq) (fun _=>false) cd (by simp) (fun x hx=>by rw[jI.mp hx];exact⟨h0,pZ⟩);have hle:∀U:List Nat,la aq U:=fun U k hk=>by
  have:aq.getD k 0=0:=by unfold aq;rw[jA,jO,jb hk];rfl
  rw[this];exact Nat.or_zero _
 refine⟨L.ok,L.len,L.vH (0,aU) (jI.mpr rfl),fun b hb hO ea=> ?_,fun b hb hO=> ?_,fun U hU=>L.least U (fun b hb=>by rw[hz b hb];exact hle _) (fun x hx=>by rw[jI.mp hx];exact hU.start)⟩
 ·obtain⟨-,h2⟩:=L.shut b hb hO;have e:(leads [(0,aU)] (List.replicate q.blocks.length aq,fun _=>false)).1=eO (List.replicate q.blocks.length aq) 0 aU:=rfl;rw[e,hz b hb]at h2;exact absurd h2 ea
 ·rcases L.live b hb hO with h|h
  ·cases h
  ·exact h
theorem RX (q:QP)(mP:∀b,b<q.blocks.length->∀l∈q.blocks.getD b [],∀n∈l.next,n<q.blocks.length)(E:List (List Nat))(O:Nat->Bool)(b:Nat)(hb:b<q.blocks.length)(hO:O b=true)(h:Inv q E O):
  Inv q (gI q E (cz O b false) b).2.1 (gI q E (cz O b false) b).2.2:=by
 have hbE:b<E.length:=by rw[h.len];exact hb
 have hs:=h.ok.at hbE;have e:(gI q E (cz O b false) b).2=leads (ej q (q.blocks.getD b []) (E.getD b [])) (E,cz O b false):=th q _ _;have L:=x5 q.blocks.length (ej q (q.blocks.getD b []) (E.getD b [])) E (cz O b false) h.ok h.len (rm q q.blocks.length _ (mP b hb) hs);rw[<-e]at L;refine⟨L.ok,L.len,oR h.start (L.up 0 (by omega)),fun c hc hOc ea=> ?_,fun c hc hOc=> ?_,fun U hU=>L.least U (fun c hc=>h.least U hU c hc) (fun x hx=> ?_)⟩
 ·obtain⟨h1,h2⟩:=L.shut c hc hOc;rw[h2]at ea⊢;by_cases FB:c=b
  ·subst FB;exact L.vH
  ·unfold cz at h1;rw[ja FB]at h1;intro x hx;exact oR (h.step c hc h1 ea x hx) (L.up x.1 (rm q q.blocks.length _ (mP c hc) (h.ok.at (by rw[h.len];exact hc)) x hx).1)
 ·rcases L.live c hc hOc with h1|h1
  ·unfold cz at h1;split at h1
   ·cases h1
   ·exact cQ (h.ok.at (by rw[h.len];exact hc)) (L.up c hc) (h.live c hc h1)
  ·exact h1
 ·have hle:=h.least U hU b hb;obtain⟨y,hy,hxy⟩:=Bv q (q.blocks.getD b []) hs (hU.ok b hb) hle x hx;exact oR hxy (hU.step b hb (cQ hs hle (h.live b hb hO)) (x.1,y) hy)
end FlwS
namespace FlwT
open Go Sq Aux FlwA FlwB FlwC FlwD FlwE FlwF FlwG FlwH FlwI FlwJ FlwK FlwM FlwO FlwQ FlwS
def toQ (x:bC):Nat×Nat:=(x.loc,iy x.part)
def Ql (x:bC):Prop:=x.part=0\/x.part=97\/x.part=98\/x.part=115
theorem vZ {c:UInt8}:iy c=2↔c=98:=by
 unfold iy;constructor
 ·intro h;split at h
  ·omega
  ·split at h
   ·assumption
   ·split at h<;>omega
 ·intro h;subst h;rfl
theorem fw {c:UInt8}:iy c=3↔c=115:=by
 unfold iy;constructor
 ·intro h;split at h
  ·omega
  ·split at h
   ·omega
   ·split at h
    ·assumption
    ·omega
 ·intro h;subst h;rfl
theorem DE {x:bC}(h:Ql x):iy x.part=0↔x.part=0:=by
 rcases h with e|e|e|e<;>rw[e]<;>decide
theorem xi (x:bC):ag (toQ x)=x.slot:=by
 unfold ag bC.slot toQ;by_cases h:x.part=98
 ·rw[jb h,jb (vZ.mpr h)]
 ·rw[ja h,ja (fun e=>h (vZ.mp e))]
structure Ag (s:List Nat)(f:Nat->Nat):Prop where
 len:s.length=24
 eq:∀k,k<24->s.getD k 0=f k
theorem Ag.self {s:List Nat}(h:s.length=24):Ag s (fun k=>s.getD k 0):=⟨h,fun _ _=>rfl⟩
theorem Qs {s:List Nat}{f:Nat->Nat}(h:Ag s f)(i v:Nat):Ag (s.set i v) (fun k=>if k=i then v else f k):=
 ⟨by simpa using h.len,fun k hk=>by
  rw[dz,h.len];by_cases e:i=k
  ·rw[jb ⟨e,hk⟩,jb e.symm]
  ·rw[ja (fun x=>e x.1),ja (fun x=>e x.symm)];exact h.eq k hk⟩
theorem s7 (m:Nat):∀(ps:List bC) {s:List Nat} {f:Nat->Nat},Ag s f->Ag (gR m (ps.map toQ) s) (xd m ps f)
 |[],_,_,h=>h
 |x::ps,s,f,h=>by
  have:=s7 m ps (s:=s.set (ag (toQ x)) m) (f:=fun k=>if k=x.slot then m else f k) (by rw[xi];exact Qs h _ _);exact this
theorem zA:∀(ps:List bC) {s:List Nat} {f:Nat->Nat},Ag s f->Ag (dB (ps.map toQ) s) (rE ps f)
 |[],_,_,h=>h
 |x::ps,s,f,h=>by
  have e:(if(toQ x).2=3 then 8 else 1)=(if x.part=115 then 8 else 1:Nat):=by
   by_cases h3:x.part=115
   ·rw[jb h3,jb (show(toQ x).2=3 from fw.mpr h3)]
   ·rw[ja h3,ja (show¬(toQ x).2=3 from fun y=>h3 (fw.mp y))]
  have:=zA ps (s:=s.set (ag (toQ x)) (if(toQ x).2=3 then 8 else 1)) (f:=fun k=>if k=x.slot then(if x.part=115 then 8 else 1)else f k) (by rw[xi,e];exact Qs h _ _);exact this
theorem iV (fit:Nat)(ps:List bC)(s:List Nat):bw fit (ps.map toQ) s=dN fit ps (fun k=>s.getD k 0):=by
 unfold bw dN;rw[List.any_map];congr 1
 funext x
 simp only[Function.comp,xi,ju]
structure xv (q:QP)(P:dT):Prop where
 pair:∀n,q.bA n=2↔P.bA n=cj
 opt:∀n,q.bA n=3↔P.bA n=eG
section
variable {q:QP} {P:dT}
theorem pC (h:xv q P){x:bC}(hx:Ql x):QP.ab q (toQ x)=(P.fK x).map toQ:=by
 unfold QP.ab dT.fK;by_cases hc:x.part=0/\P.bA x.loc=cj
 ·rw[jb hc,jb ⟨(DE hx).mpr hc.1,(h.pair _).mpr hc.2⟩];rfl
 ·rw[ja hc,ja (fun e=>hc ⟨(DE hx).mp e.1,(h.pair _).mp e.2⟩)];rfl
theorem vL (h:xv q P){x:bC}(hx:Ql x):q.br (toQ x)=3↔P.kind x=eG:=by
 unfold QP.br dT.kind toQ;have TV:¬kz=eG:=by decide
 rcases hx with e|e|e|e<;>rw[e]<;>simp only
 ·rw[ja (by decide),ja (by decide)];exact h.opt _
 ·rw[jb (by decide),jb (by decide)];exact⟨fun x=>absurd x (by decide),fun x=>absurd x TV⟩
 ·rw[jb (by decide),jb (by decide)];exact⟨fun x=>absurd x (by decide),fun x=>absurd x TV⟩
 ·rw[jb (by decide),jb (by decide)];exact⟨fun x=>absurd x (by decide),fun x=>absurd x TV⟩
structure Aa (l:aa)(m:lq):Prop where
 op:l.op<23
 word:m.op=bI l.op
 places:l.places=m.places.map toQ
 fit:∀j,Ql (m.w j)
theorem Aa.w {l:aa}{m:lq}(h:Aa l m)(j:Nat):l.places.getD j (0,0)=toQ (m.w j):=by
 rw[h.places,lq.w,jA,jA,jJ];cases m.places[j]?<;>rfl
theorem LL:∀op:Fin 23,(bI op.val∈([[115,101,116],[105,110],[97,100,100],[115,117,98],[109,117,108],[100,105,118],[110,101,119],[108,111,97,100]]:List B)↔(oP op.val=true/\¬op.val=14))/\(bI op.val=[109,111,118,101]↔op.val=12)/\(bI op.val=[110,111,110,101]↔op.val=13)/\(bI op.val=[115,111,109,101]↔op.val=14)/\(bI op.val=[100,114,111,112]↔op.val=15):=by decide
theorem Mx (h:xv q P){l:aa}{m:lq}(hl:Aa l m){s:List Nat}(hs:s.length=24):Ag (bj q l s) (P.pass m (fun k=>s.getD k 0)):=by
 obtain⟨h1,h2,h3,h4,h5⟩:=LL ⟨l.op,hl.op⟩;simp only at h1 h2 h3 h4 h5;have Dh:=Ag.self hs;unfold bj dT.pass cF;rw[hl.word,hl.w 0,hl.w 1];have one:∀x,[toQ x]=[x].map toQ:=fun _=>rfl
 by_cases e14:l.op=14
 ·rw[jb (show oP l.op=true by rw[e14];rfl),ja (show¬l.op=12 by omega),jb e14,ja (fun x=>(h1.mp x).2 e14),ja (fun x=>by have:=h2.mp x;omega),ja (fun x=>by have:=h3.mp x;omega),jb (h4.mpr e14),one,one];exact s7 _ _ (zA _ Dh)
 ·by_cases ep:oP l.op=true
  ·have e12:¬l.op=12:=fun e=>by rw[e]at ep;exact absurd ep (by decide)
   rw[jb ep,ja e12,ja e14,jb (h1.mpr ⟨ep,e14⟩),one];exact s7 _ _ Dh
  ·rw[ja ep,ja (fun x=>ep (h1.mp x).1)];by_cases e12:l.op=12
   ·rw[jb e12,jb e12,jb (h2.mpr e12),pC h (hl.fit 0),pC h (hl.fit 1)];have em:dm q (toQ (m.w 1)) s=if P.kind (m.w 1)=eG then s.getD (m.w 1).slot 0 else 2:=by
     unfold dm;rw[xi];by_cases hk:P.kind (m.w 1)=eG
     ·rw[jb hk,jb ((vL h (hl.fit 1)).mpr hk)]
     ·rw[ja hk,ja (fun x=>hk ((vL h (hl.fit 1)).mp x))]
    rw[em];exact s7 _ _ (zA _ Dh)
   ·rw[ja e12,ja e12,ja e14,ja (fun x=>e12 (h2.mp x))];by_cases e13:l.op=13
    ·rw[jb e13,jb (h3.mpr e13),one];exact s7 _ _ Dh
    ·rw[ja e13,ja (fun x=>e13 (h3.mp x)),ja (fun x=>e14 (h4.mp x))];by_cases e15:l.op=15
     ·rw[jb e15,jb (h5.mpr e15),pC h (hl.fit 0)];exact zA _ Dh
     ·rw[ja e15,ja (fun x=>e15 (h5.mp x))];exact Dh
theorem Ge:∀op:Fin 23,(bI op.val∈([[97,100,100],[115,117,98],[109,117,108],[100,105,118]]:List B)↔(op.val=3\/op.val=4\/op.val=5\/op.val=6))/\(bI op.val∈([[111,117,116],[105,102],[101,110,100]]:List B)↔(op.val=8\/op.val=19\/op.val=22))/\(bI op.val=[110,101,119]↔op.val=9)/\
  ((bI op.val=[108,111,97,100]\/bI op.val=[115,111,109,101])↔(op.val=10\/op.val=14))/\(bI op.val=[115,116,111,114,101]↔op.val=11)/\(bI op.val=[109,111,118,101]↔op.val=12)/\(bI op.val=[100,114,111,112]↔op.val=15)/\(bI op.val=[109,97,116,99,104]↔op.val=20):=by decide
theorem BM (x:bC)(s:List Nat):lz (toQ x) s=BK x (fun k=>s.getD k 0):=by
 unfold lz BK;have:((toQ x).2==3)=(x.part==115):=by
  rw[jX,beq_iff_eq,beq_iff_eq];exact fw
 rw[this];congr 1;exact iV 10 [x] s
theorem PS (h:xv q P){x:bC}(hx:Ql x)(s:List Nat):gT q (toQ x) s=P.stuck x (fun k=>s.getD k 0):=by
 unfold gT dT.stuck;by_cases hk:P.kind x=eG
 ·rw[jb hk,jb ((vL h hx).mpr hk)];exact iV 6 [x] s
 ·rw[ja hk,ja (fun y=>hk ((vL h hx).mp y)),pC h hx];exact iV 2 _ s
theorem od {α:Type}{a b:Prop} [Decidable a] [Decidable b](h:a↔b){x y x' y':α}(hx:x=x')(hy:y=y'):(if b then x else y)=(if a then x' else y'):=by
 subst hx hy;by_cases hb:b
 ·rw[jb hb,jb (h.mpr hb)]
 ·rw[ja hb,ja (fun e=>hb (h.mp e))]
theorem NU (h:xv q P){l:aa}{m:lq}(hl:Aa l m)(s:List Nat):aL q l s=P.Ef m (fun k=>s.getD k 0):=by
 obtain⟨h1,h2,h3,h4,h5,h6,h7,h8⟩:=Ge ⟨l.op,hl.op⟩;simp only at h1 h2 h3 h4 h5 h6 h7 h8;unfold aL dT.Ef aa.at;rw[hl.word,hl.w 0,hl.w 1,hl.w 2];refine od h1 (iV 2 [_,_] s) (od h2 (iV 2 [_] s) (od h3 ?_ (od h4 (iV 2 [_] s) (od h5 (iV 2 [_,_] s) (od h6 ?_ (od h7 (BM _ s) (od h8 (iV 6 [_] s) rfl)))))))
 ·rw[BM];congr 1;exact iV 2 [_] s
 ·rw[BM,PS h (hl.fit 1)]
end
end FlwT
namespace FlwU
open Go Sq
def yz (c:Nat->Nat)(q:QP):Prop:=∀j,∀l∈q.blocks.getD j [],c l.num=j+1
theorem GW (c:Nat->Nat):yz c QP.empty:=fun j l hl=>by simp[QP.empty]at hl
theorem FL {c:Nat->Nat}{q:QP}(h:yz c q):yz c q.addBlock:=fun j l hl=>by
 by_cases hj:j<q.blocks.length
 ·have:q.addBlock.blocks.getD j []=q.blocks.getD j []:=by simp[QP.addBlock,List.getD_eq_getElem?_getD,List.getElem?_append,hj]
  rw[this]at hl;exact h j l hl
 ·have:q.addBlock.blocks.getD j []=[]:=by
   simp only[QP.addBlock,List.getD_eq_getElem?_getD,List.getElem?_append,if_neg hj];cases h2:j-q.blocks.length with
   |zero=>rfl
   |succ n=>rfl
  rw[this]at hl;cases hl
theorem JA {c:Nat->Nat}{q:QP}(h:yz c q){l:aa}{n:Nat}(hn:q.blocks.length=n+1)(hc:c l.num=n+1):yz c (q.addLine l)/\(q.addLine l).blocks.length=n+1:=by
 have ea:q.blocks≠[]:=by intro e;rw[e]at hn;simp at hn
 have hD:q.blocks.dropLast.length=n:=by simp[hn]
 have hg:q.blocks.getLastD []=q.blocks.getD n []:=by
  rw[List.getLastD_eq_getLast?,List.getLast?_eq_getElem?,hn,jA];rfl
 refine⟨fun j x hx=> ?_,by simp[QP.addLine,hD]⟩;by_cases hj:j<n
 ·have:(q.addLine l).blocks.getD j []=q.blocks.getD j []:=by
   simp only[QP.addLine,List.getD_eq_getElem?_getD];rw[jg (by omega),List.getElem?_dropLast,jb (by omega)]
  rw[this]at hx;exact h j x hx
 ·by_cases e:j=n
  ·subst e;have:(q.addLine l).blocks.getD j []=q.blocks.getD j []++[l]:=by
    simp only[QP.addLine,List.getD_eq_getElem?_getD];rw[jf (by omega),hD,Nat.sub_self];simp only[List.getElem?_cons_zero,Option.getD_some];rw[hg,jA]
   rw[this]at hx;rcases List.mem_append.mp hx with hx|hx
   ·exact h j x hx
   ·rw[jI.mp hx];exact hc
  ·have:(q.addLine l).blocks.getD j []=[]:=by
    rw[jA,jG (by simp[QP.addLine,hD];omega)];rfl
   rw[this]at hx;cases hx
theorem zS (c:Nat->Nat)(nb:Nat):∀(S:List (Nat×List B)) (i:Nat) (q0 q:QP),ba nb S i q0=(q,none)->
  (∀k x,S[k]?=some x->c (i+k+1)=c (i+k)+(if x.1=1 then 1 else 0))->(∀k x,S[k]?=some x->¬x.1=0->¬x.1=1->1<=c (i+k))->q0.blocks.length=c i->yz c q0->yz c q
 |[],i,q0,q,h,_,_,_,hI=>by simp only[ba,Prod.mk.injEq,and_true]at h;rw[<-h];exact hI
 |x::S,i,q0,q,h,hc,hp,hl,hI=>by
  have h0:=hc 0 x rfl;have tj:∀k y,S[k]?=some y->c (i+1+k+1)=c (i+1+k)+(if y.1=1 then 1 else 0):=fun k y hy=>by
   have:=hc (k+1) y (by simpa using hy);rw[show i+1+k=i+(k+1) by omega];exact this
  have Cq:∀k y,S[k]?=some y->¬y.1=0->¬y.1=1->1<=c (i+1+k):=fun k y hy=>by
   have:=hp (k+1) y (by simpa using hy);rw[show i+1+k=i+(k+1) by omega];exact this
  rw[ba]at h;simp only[Nat.add_zero]at h0;by_cases e0:x.1=0
  ·rw[jb e0]at h;rw[ja (by omega)]at h0;split at h
   ·simp at h
   ·exact zS c nb S (i+1) _ q h tj Cq (by simpa [QP.addLocal]using hl.trans (by omega)) hI
  ·rw[ja e0]at h;by_cases e1:x.1=1
   ·rw[jb e1]at h;rw[jb e1]at h0;exact zS c nb S (i+1) _ q h tj Cq (by simp[QP.addBlock];omega) (FL hI)
   ·rw[ja e1]at h;rw[ja e1]at h0;have h1:=hp 0 x rfl e0 e1;simp only[Nat.add_zero]at h1;split at h
    ·simp at h
    ·rename_i l _;obtain⟨a1,a2⟩:=JA (l:={l with num:=i}) hI (n:=c i-1) (by omega) (by show c i=_;omega);exact zS c nb S (i+1) _ q h tj Cq (by rw[a2];omega) a1
theorem yP {α:Type}(g:α->Nat):∀(L:List (List α)) (d j:Nat),(∀j,∀l∈L.getD j [],g l=d+j)->L.getD j []=L.flatten.filter (fun l=>g l==d+j)
 |[],d,j,_=>by simp
 |b::L,d,j,h=>by
  have hb:∀l∈b,g l=d:=fun l hl=>by simpa using h 0 l (by simpa using hl)
  have hL:∀j,∀l∈L.getD j [],g l=d+1+j:=fun j l hl=>by
   have:=h (j+1) l (by simpa using hl);omega
  rw[List.flatten_cons,List.filter_append];cases j with
  |zero=>
   have e1:b.filter (fun l=>g l==d+0)=b:=List.filter_eq_self.mpr fun l hl=>by simp[hb l hl]
   have e2:L.flatten.filter (fun l=>g l==d+0)=[]:=List.filter_eq_nil_iff.mpr fun l hl=>by
    obtain⟨c,hc,YP⟩:=List.mem_flatten.mp hl;obtain⟨k,hk,rfl⟩:=List.getElem_of_mem hc;have:=hL k l (by simpa [hk]using YP);simp;omega
   rw[e1,e2];simp
  |succ j=>
   have e1:b.filter (fun l=>g l==d+(j+1))=[]:=List.filter_eq_nil_iff.mpr fun l hl=>by simp[hb l hl]
   have:=yP g L (d+1) j hL;rw[e1,List.nil_append,List.getD_cons_succ,this];congr 1
   funext l
   rw[show d+1+j=d+(j+1) by omega]
end FlwU
end Go.Proofs.YtmlgajhhnojdjaaGreatDoor

import Derived.Test.YtmlgajhhnojdjaaGreatDoorRBO
import Derived.Laws.CopyOwn
namespace Go.Proofs.YtmlgajhhnojdjaaGreatDoor
namespace RefZf
open Go.RowKit Sq RefM RefZe Aux
theorem y9 {text:B}{raw:Bool}{c k:Nat}(h:aK text raw=(none,c,k)):1<=c/\c<=4:=by
 unfold aK at h;split at h
 ·simp only[Prod.mk.injEq]at h;omega
 ·split at h
  ·simp only[Prod.mk.injEq]at h;omega
  ·split at h
   ·simp only[Prod.mk.injEq]at h;omega
   ·split at h
    ·simp only[Prod.mk.injEq]at h;omega
    ·split at h
     ·simp only[Prod.mk.injEq]at h;omega
     ·cases h
def qx (text:B)(w:World)(e:Ending)(w':World):Prop:=
 Below w.heap.size w w'/\((∃c k:Nat,aK text false=(none,c,k)/\e=.returned (.tuple #[.pointer none,.int .i64 (c:Int),.int .i64 (k:Int)]))\/
  ∃p L,aK text false=(some p,0,0)/\p.iT L/\((0<=p.cW L p.lines.length 0/\e=.returned (.tuple #[.pointer none,.int .i64 5,.int .i64 (p.cW L p.lines.length 0)]))\/
   (p.cW L p.lines.length 0<0/\∃a,e=.returned (.tuple #[.pointer (some ⟨a,0,none⟩),.int .i64 0,.int .i64 0])/\bf w' a p/\p.Ok/\w.heap.size<=a)))
set_option maxRecDepth 20000 in
set_option maxHeartbeats 1000000 in
theorem FY (text:B)(w:World)(h:text.length<=1099511627776):Calls Tryz.prog 34 #[.string (bs text)] w (qx text w):=by
 have Ud:=S5 text false w h;go_enter Tryz.func34,Tryz.ntmps34
 cases hr:aK text false with
 |mk op ck=>
  obtain⟨c,k⟩:=ck;cases op with
  |none=>
   obtain⟨kq,oa⟩:=y9 hr;have FC:((c:Int)==0)=false:=by simp;omega
   have HR:Hid (_=_):=hr;go_wp2_with (go_at_call 46;refine Ud.mono ?_;rintro e w1 ⟨aw,v,rfl,hv⟩;rw[HR.out]at hv;obtain⟨-,rfl⟩:True/\v=.pointer none:=(by rcases hv with⟨-,hv⟩|⟨p,a,hp,-⟩;exact⟨trivial,hv⟩;cases hp);have tQ:Hid (Below w.heap.size w w1):=aw;simp only[HR.out])
   go_ret3
   exact⟨tQ.out,.inl ⟨c,k,HR.out,rfl⟩⟩
  |some p=>
   obtain⟨hg,rfl,rfl,-⟩:=jz hr;have HR:Hid (_=_):=hr;have HG:Hid (_):=hg;clear hr hg;go_upto_region 4 with(go_at_call 46;refine Ud.mono ?_;rintro e w1 ⟨aw,v,rfl,hv⟩;rw[HR.out]at hv;obtain⟨a,rfl,cf,hinv⟩:∃a,v=.pointer (some ⟨a,0,none⟩)/\Hid p.Ok/\Hid (∃vl vt vb us,j9 w.heap.size a w1 p vl vt vb us):=(by rcases hv with⟨hv,-⟩|⟨p',a,hp,hv,ho,hi⟩;(cases hv);(cases hp;exact⟨a,hv,ho,hi⟩));have tQ:Hid (Below w.heap.size w w1):=aw;clear hv aw;simp only[HR.out])
   have hA:Hid (bf w1 a p/\w.heap.size<=a):=by obtain⟨vl,vt,vb,us,hi⟩:=hinv.out;exact⟨hi.yc cf.out.words,hi.base⟩
   have HU:=VU text p a w1 ⟨hA.out.1,cf.out,HG.out⟩;go_cut [8] (fun v8 wc=>(∃L,Hid (p.iT L)/\v8=.int .i64 (p.cW L p.lines.length 0))/\Hid (Below w1.heap.size w1 wc))
   case first=>
    go_wp2_with (go_at_call 52;refine HU.mono ?_;rintro e w2 ⟨⟨L,hL,rfl⟩,bU⟩;have HL:Hid (_):=hL;have HB:Hid (_):=bU;clear hL bU)
    go_meet
    case rel=>exact⟨⟨L,HL,rfl⟩,HB⟩
   case rest=>
    obtain⟨⟨L,HL,rfl⟩,HB⟩:=hcut;clear HU Ud;obtain⟨fa,kZ⟩:∃fa,p.cW L p.lines.length 0=fa:=⟨_,rfl⟩;rw[kZ];have HFA:Hid (_=_):=kZ;clear kZ;have Y6:Hid (Below w.heap.size w wc):=tQ.out.trans (HB.out.mono tQ.out.size);by_cases h0:0<=fa
    ·go_wp2
     go_ret3
     exact⟨Y6.out,.inr ⟨p,L,HR.out,HL.out,.inl ⟨by rw[HFA.out];exact h0,by rw[HFA.out];rfl⟩⟩⟩
    ·go_wp2
     go_ret3
     exact⟨Y6.out,.inr ⟨p,L,HR.out,HL.out,.inr ⟨by rw[HFA.out];omega,a,rfl,hA.out.1.below HB.out,cf.out,hA.out.2⟩⟩⟩
end RefZf
namespace FlwZb
open Go Go.RowKit Sq Aux PrjF PrjG PrjJ PrjK PrjM PrjW PrjX RefM RefZf FlwP FlwQ FlwV FlwY FlwZ FlwZa
theorem QD {text:B}{w w':World}{e:Ending}(h:qx text w e w'):Below w.heap.size w w'/\∃v c k,e=.returned (.tuple #[v,.int .i64 c,.int .i64 k])/\∀c' k',mg text c' k'->c'=c/\k'=k:=by
 obtain⟨hb,⟨c,k,h1,rfl⟩|⟨p,L,h1,hL,⟨h2,rfl⟩|⟨h2,a,rfl,-⟩⟩⟩:=h
 ·refine⟨hb,_,_,_,rfl,fun c' k' ha=> ?_⟩;rcases ha with⟨c2,k2,-,h3,rfl,rfl⟩|⟨p,q,E,h3,-⟩
  ·rw[h1]at h3;cases h3;exact⟨rfl,rfl⟩
  ·rw[h1]at h3;cases h3
 ·refine⟨hb,_,_,_,rfl,fun c' k' ha=> ?_⟩;rcases ha with⟨c2,k2,-,h3,-⟩|⟨p',q,E,h3,-,hD,⟨n,h4,rfl,rfl⟩|⟨h4,rfl,rfl⟩⟩
  ·rw[h1]at h3;cases h3
  ·rw[h1]at h3;cases h3;rw[hD.same hL,h4];exact⟨rfl,rfl⟩
  ·rw[h1]at h3;cases h3;rw[hD.same hL,h4]at h2;exact absurd h2 (by decide)
 ·refine⟨hb,_,_,_,rfl,fun c' k' ha=> ?_⟩;rcases ha with⟨c2,k2,-,h3,-⟩|⟨p',q,E,h3,-,hD,⟨n,h4,rfl,rfl⟩|⟨h4,rfl,rfl⟩⟩
  ·rw[h1]at h3;cases h3
  ·rw[h1]at h3;cases h3;rw[hD.same hL,h4]at h2;have:(0:Int)<=FlwX.asInt (some n):=by show(0:Int)<=(n:Int);omega
   omega
  ·exact⟨rfl,rfl⟩
end FlwZb
namespace Ran
open Go Go.RowKit Sq Aux Go.Proofs.YtmlgajhhnojdjaaGreatDoor.Own Mac Sim RunA RunB RefM RefZf PrjS FlwA FlwF FlwI FlwK FlwJ FlwM FlwO FlwP FlwQ FlwS FlwV FlwY FlwZ
def LU (m:RM):Value:=.agg #[.int .i64 ((m.out:Nat):Int),.int .i64 m.value,.string (bs m.trace),.int .i64 m.count]
theorem pT {α:Type}(n:Nat)(d:α)(k:Nat):(List.replicate n d).getD k d=d:=by
 rw[jA,jO];split<;>rfl
theorem Tq (q:QP)(al:List Int):Ro q al 0 (Own.start al) RM.start:=by
 refine⟨⟨rfl,rfl,rfl,fun b hb=>by cases hb⟩,⟨rfl,rfl,rfl,rfl,rfl⟩,rfl,rfl,fun i _ _=> ?_,fun k _=> ?_,fun k _ h=> ?_,rfl,rfl⟩
 ·show(List.replicate 12 (0:Int)).getD i 0=(List.replicate 24 (0:Int)).getD (2*i) 0
  rw[pT,pT]
 ·show(List.replicate 24 (0:Nat)).getD k 0=if _ then 0 else if(List.replicate 24 (0:UInt8)).getD k 0=119 then(List.replicate 24 (0:Nat)).getD k 0 else 0
  rw[pT,pT];simp
 ·have h:(List.replicate 24 (0:UInt8)).getD k 0=119:=h;rw[pT]at h;exact absurd h (by decide)
theorem DN {k:Nat}(hk:k<24):aV.getD k 0=1:=by
 show(List.replicate 24 1).getD k 0=1
 rw[jA,jO,jb hk];rfl
theorem L6 (q:QP):iO q aV RM.start:=by
 refine⟨by decide,fun k hk=> ?_⟩;rw[DN hk];unfold s9;have h1:RM.start.has.getD k false=false:=pT 24 false k;have h2:RM.start.ba.getD k 0=0:=pT 24 0 k;rw[h1,h2];split<;>decide
theorem DO:eI aV:=⟨by decide,fun k=>by
 by_cases hk:k<24
 ·rw[DN hk];decide
 ·rw[jA,jG (by show(List.replicate 24 1).length<=k;simp;omega)];decide⟩
theorem VS {text:B}{q:QP}(hg:Go.Proofs.YtmlgajhhnojdjaaGreatDoor.RunB.Good text q){p:RP}(hp:aK text false=(some p,0,0)){al:List Int}{n:Nat}{f:Fx}(hf:f.owns=true){ans:Nat×Int×Go.Proofs.YtmlgajhhnojdjaaGreatDoor.Own.Own}(hr:ea q f.room n (q.blocks.getD 0 []) (Own.start al)=some ans):
  LU (eS f p al n (p.blocks.getD 0 0) RM.start)=PE ans:=by
 obtain⟨p',E,Cr,hD,hn⟩:=hg.done;have e:=Cr.symm.trans hp;simp only[Prod.mk.injEq,Option.some.injEq,and_true]at e;subst e;have hS:=tC hg.read;have ie:=hD.both.aW;have hI:=hD.inv.inv;have hU:rQ q (fun b=>E.getD b []):=⟨fun b hb=>hD.ok hb,hI.start,fun b hb hz x hx=>hI.step b hb rfl hz x hx⟩;have h0:¬E.getD 0 []=ar:=cR DO hI.start (vy pC);have gX:∀b,b<q.blocks.length->¬E.getD b []=ar->cX q (q.blocks.getD b []) (E.getD b [])=none:=fun b hb hz=>by
  have:=cF _ _ _ hn b (jQ _) (by omega);rw[cV,ja hz]at this;exact this
 obtain⟨b1,b2⟩:=vc hD.both hD.pos;obtain⟨e1,e2,e3,e4⟩:=E6 hD.both hS hf (fun b=>E.getD b []) hU hD.inv.full gX n (p'.blocks.getD 0 0) (E.getD 0 []) (Own.start al) RM.start ans b1 (hD.ok hD.pos) ((hD.inv.full 0 hD.pos).resolve_left h0) (by rw[<-b2];exact gX 0 hD.pos h0) (by rw[<-b2];exact fun x hx=>hU.step 0 hD.pos h0 x hx) ((Bal.lU ie).mono _ _ _ DO (hD.ok hD.pos) hI.start ⟨DM q al,Bal.PL q al⟩) (Tq q al) (CU (L6 q) (hD.ok hD.pos).len hI.start) rfl (by rw[<-b2];exact hr);unfold LU PE;rw[e1,e2,e3,e4]
def FI (text:B)(al:List Int)(fuel room:Int)(v:Value)(c k:Int):Prop:=
 (¬c=0/\(∀c' k',mg text c' k'->c'=c/\k'=k)/\v=z7)\/((∀c' k',mg text c' k'->c'=0/\k'=0)/\¬ll al fuel room/\v=z7/\c=6/\k=0)\/
  (ll al fuel room/\(∀c' k',mg text c' k'->c'=0/\k'=0)/\c=0/\k=0/\∃(p:RP) (f:Fx),aK text false=(some p,0,0)/\f.owns=true/\f.room=room/\v=LU (eS f p al fuel.toNat (p.blocks.getD 0 0) RM.start))
theorem IU {text:B}{al:List Int}{fuel room:Int}{v v':Value}{c k c' k':Int}(h:FJ text al fuel room v c k)(h':FI text al fuel room v' c' k'):v=v'/\c=c'/\k=k':=by
 rcases h with⟨h1,h2,rfl⟩|⟨h1,h2,rfl,rfl,rfl⟩|⟨h1,rfl,rfl,q,ans,h2,h3,rfl⟩
 ·rcases h' with⟨g1,g2,rfl⟩|⟨g1,-⟩|⟨-,g1,-⟩
  ·exact⟨rfl,(g2 _ _ h1).1,(g2 _ _ h1).2⟩
  ·exact absurd (g1 _ _ h1).1 h2
  ·exact absurd (g1 _ _ h1).1 h2
 ·rcases h' with⟨g1,g2,-⟩|⟨-,-,rfl,rfl,rfl⟩|⟨g1,-⟩
  ·exact absurd (g2 _ _ h1).1.symm g1
  ·exact⟨rfl,rfl,rfl⟩
  ·exact absurd g1 h2
 ·rcases h' with⟨g1,g2,-⟩|⟨-,g1,-⟩|⟨-,-,rfl,rfl,p,f,g1,g2,rfl,rfl⟩
  ·exact absurd (g2 _ _ h2.chk).1.symm g1
  ·exact absurd h1 g1
  ·exact⟨(VS h2 g1 g2 h3).symm,rfl,rfl⟩
theorem FI.form {text:B}{al:List Int}{fuel room:Int}{v:Value}{c k:Int}(h:FI text al fuel room v c k):∃(o x:Int) (t:B) (l:Int),v=.agg #[.int .i64 o,.int .i64 x,.string (bs t),.int .i64 l]:=by
 rcases h with⟨-,-,rfl⟩|⟨-,-,rfl,-⟩|⟨-,-,-,-,p,f,-,-,-,rfl⟩
 ·exact⟨0,0,[],0,rfl⟩
 ·exact⟨0,0,[],0,rfl⟩
 ·exact⟨_,_,_,_,rfl⟩
end Ran
namespace Ran
open Go Go.RowKit Sq Aux Go.Proofs.YtmlgajhhnojdjaaGreatDoor.Own Mac Sim RunA RunB RefM RefZf FlwZ FlwZb
theorem OT (p ad:Option Addr)(l c:Nat)(r:Int):(((Tryz.zeroCells95.setIfInBounds 0 (.pointer p)).setIfInBounds 1 (.bool true)).setIfInBounds 150 (.int .i64 r)).setIfInBounds 152 (.slice ad l c)=(H8 (.pointer p) (.bool true) (.int .i64 r) (.slice ad l c)).toArray:=by kernel_rfl
theorem Sp (w:World)(a:Nat)(o:Bool)(r:Int)(vi:Value):cd w w.heap.size ⟨a,o,r,vi,[]⟩ (w.alloc (.cells (H8 (.pointer (some ⟨a,0,none⟩)) (.bool o) (.int .i64 r) vi).toArray 95)) RM.start:=
 ⟨.slice none 0 0,.slice none 0 0,⟨jC _,jD,World.ownsRow_nil _ _ _ _,World.ownsRow_nil _ _ _ _,(Below.refl _ _).alloc (jC _) _,⟨rfl,rfl,rfl,rfl,rfl⟩,fun e he=>by cases he⟩⟩
theorem Cf {text:B}{w w':World}{e:Ending}(h:qx text w e w'):Below w.heap.size w w'/\∃v c k,e=.returned (.tuple #[v,.int .i64 c,.int .i64 k])/\(∀c' k',mg text c' k'->c'=c/\k'=k)/\
  (¬c=0\/(c=0/\k=0/\∃(p:RP) (a:Nat),v=.pointer (some ⟨a,0,none⟩)/\aK text false=(some p,0,0)/\bf w' a p/\p.Ok)):=by
 obtain⟨hb,v,c,k,he,hs⟩:=QD h;refine⟨hb,v,c,k,he,hs,?_⟩;obtain⟨-,⟨c1,k1,h1,h2⟩|⟨p,L,h1,hL,⟨h3,h2⟩|⟨h3,a,h2,hp,cf,-⟩⟩⟩:=h
 ·rw[he]at h2;simp only[Ending.returned.injEq,Value.tuple.injEq,Array.mk.injEq,List.cons.injEq,Value.int.injEq,true_and,and_true]at h2;obtain⟨-,rfl,rfl⟩:=h2;obtain⟨g1,-⟩:=y9 h1;exact .inl (by omega)
 ·rw[he]at h2;simp only[Ending.returned.injEq,Value.tuple.injEq,Array.mk.injEq,List.cons.injEq,Value.int.injEq,true_and,and_true]at h2;obtain⟨-,rfl,-⟩:=h2;exact .inl (by decide)
 ·rw[he]at h2;simp only[Ending.returned.injEq,Value.tuple.injEq,Array.mk.injEq,List.cons.injEq,Value.int.injEq,true_and,and_true]at h2;obtain⟨rfl,rfl,rfl⟩:=h2;exact .inr ⟨rfl,rfl,p,a,rfl,h1,hp,cf⟩
set_option maxRecDepth 20000 in
theorem Vn (ad:Option Addr)(n c:Nat)(f m r:Int)(w:World):Calls Tryz.prog 55 #[.slice ad n c,.int .i64 f,.int .i64 m,.int .i64 r] w fun e w'=>e=.returned (.bool (decide (n<=100/\0<=f/\f<=m/\0<=r/\r<=50)))/\w'=w:=by
 go_enter Tryz.func55,Tryz.ntmps55
 by_cases h1:n<=100<;>by_cases h2:0<=f<;>by_cases h3:f<=m<;>by_cases h4:0<=r<;>by_cases h5:r<=50
 all_goals
  go_wp2<;>(go_ret;simp[h1,h2,h3,h4,h5])
theorem Su {text:B}{p:RP}(hp:aK text false=(some p,0,0)){a:Nat}{w:World}(hP:bf w a p)(cf:p.Ok)(vi:Value)(al:List Int)(hf:bY w vi al)(pH:∀n∈al,aO n)(fuel room:Int)(hm:ll al fuel room)(W:World)(hW:cd w w.heap.size ⟨a,true,room,vi,[]⟩ W RM.start):
  Calls Tryz.prog 56 #[.pointer (some ⟨w.heap.size,0,none⟩),.int .i64 fuel] W fun e w'=>e=.returned (LU (eS ⟨a,true,room,vi,[]⟩ p al fuel.toNat (p.blocks.getD 0 0) RM.start))/\Below w.heap.size w w':=by
 obtain⟨hR,-⟩:=jz hp;obtain⟨-,h0,h1,-⟩:=hm;obtain⟨n,rfl⟩:∃n:Nat,fuel=n:=⟨fuel.toNat,by omega⟩;have hC:Ctx w p ⟨a,true,room,vi,[]⟩:=⟨hP,cf,hR.pre.aW⟩;exact VP (O4 hC hR rfl hf pH) hC hR hW Tp n (by omega)
set_option maxRecDepth 20000 in
set_option maxHeartbeats 4000000 in
theorem LQ (text:B)(vi:Value)(al:List Int)(fuel room:Int)(w:World)(hf:bY w vi al)(pH:∀n∈al,aO n)(h:text.length<=1048576):
  Calls Tryz.prog 40 #[.string (bs text),vi,.int .i64 fuel,.int .i64 room] w fun e w'=>(∃v c k,Hid (FI text al fuel room v c k)/\e=.returned (.tuple #[v,.int .i64 c,.int .i64 k]))/\Below w.heap.size w w':=by
 obtain⟨w0,qT⟩:∃w0,w.alloc (.cells #[.int .i64 0,.int .i64 0,.string ⟨#[]⟩,.int .i64 0] 73)=w0:=⟨_,rfl⟩;have fC:Below w.heap.size w w0:=by rw[<-qT];exact(Below.refl _ _).alloc (jC _) _
 have Ol:w0.heap.size=w.heap.size+1:=by rw[<-qT];simp
 have Xi:w0.heap[w.heap.size]?=some (.cells #[.int .i64 0,.int .i64 0,.string ⟨#[]⟩,.int .i64 0] 73 (0,0)):=by rw[<-qT];exact jD
 have K:=FY text w0 (by omega);go_enter Tryz.func40,Tryz.ntmps40
 go_upto_region 1 with fail
 try rw[qT]
 clear qT;have HR:Hid (∀W,Below w0.heap.size w0 W->W.heap[w.heap.size]?=some (.cells #[.int .i64 0,.int .i64 0,.string ⟨#[]⟩,.int .i64 0] 73 (0,0))):=fun W hW=>by rw[hW.block _ (by omega)];exact Xi
 clear Xi;go_upto_region 2 with(go_at_call 34;refine K.mono ?_;rintro e w1 GP;obtain⟨aw,v,c,k,rfl,Wu,Kk⟩:=Cf GP;have Cb:Hid (Below w0.heap.size w0 w1):=aw;have HS:Hid (∀c' k',mg text c' k'->c'=c/\k'=k):=Wu;have HP:Hid _:=Kk;clear GP aw Kk Wu)
 rcases HP.out with hc|⟨rfl,rfl,p,a,rfl,MV,yR,cf⟩
 ·have cb:(c==0)=false:=by rw[jZ];exact hc
  have HC:Hid (¬c=0):=hc;clear hc HP;have oD:=HR.out w1 Cb.out;obtain⟨d0,d1,d2,d3,f0,f1,f2,f3⟩:=pU oD;obtain⟨e4,zj⟩:=xf oD (.int .i64 0) (.int .i64 0) (.string ⟨#[]⟩) (.int .i64 0);go_wp2
  refine bodyPost_ret (dZ Tryz.results40 _ _ _ w.heap.size [.int .i64 0,.int .i64 0,.string ⟨#[]⟩,.int .i64 0] _ rfl (fun j u hu=>by rw[Nat.zero_add,cell_of_heap e4];simpa using hu) Tryz.underlying73 rfl vH) rfl ?_;refine⟨⟨_,_,_,.inl ⟨HC.out,HS.out,rfl⟩,rfl⟩,(fC.trans (Cb.out.mono (by omega))).trans zj⟩
 ·clear HP;have pG:bY w1 vi al:=eK (eK hf fC (jC _)) Cb.out (jC _);obtain⟨ad,cap,rfl,-⟩:=id hf;have KM:=fun W=>Vn ad al.length cap fuel 1000 room W
  by_cases hm:ll al fuel room
  ·have hd:decide (al.length<=100/\0<=fuel/\fuel<=1000/\0<=room/\room<=50)=true:=decide_eq_true hm;simp only[hd]at KM;have hMS:=Sp w1 a true room (.slice ad al.length cap);have KR:=Su MV yR cf (.slice ad al.length cap) al pG pH fuel room hm _ hMS;rw[<-OT]at KR;have Ud:Hid (aK text false=(some p,0,0)):=MV;have HM:Hid (ll al fuel room):=hm;clear hm hd hf pG pH yR K cf MV hMS;go_wp2_with (first
    |(go_at_call 55;refine(KM _).mono ?_;rintro e w2 ⟨rfl,rfl⟩)
    |(go_at_call 56;refine KR.mono ?_;rintro e w3 ⟨rfl,lJ⟩;have hr3:=HR.out w3 (Cb.out.trans (lJ.mono Cb.out.size));obtain⟨d0,d1,d2,d3,f0,f1,f2,f3⟩:=pU hr3;obtain⟨e4,zj⟩:=xf hr3 (.int .i64 (((eS ⟨a,true,room,.slice ad al.length cap,[]⟩ p al fuel.toNat (p.blocks.getD 0 0) RM.start).out:Nat):Int)) (.int .i64 (eS ⟨a,true,room,.slice ad al.length cap,[]⟩ p al fuel.toNat (p.blocks.getD 0 0) RM.start).value) (.string (bs (eS ⟨a,true,room,.slice ad al.length cap,[]⟩ p al fuel.toNat (p.blocks.getD 0 0) RM.start).trace)) (.int .i64 (eS ⟨a,true,room,.slice ad al.length cap,[]⟩ p al fuel.toNat (p.blocks.getD 0 0) RM.start).count);have HRR:Hid (∃(p':RP) (f:Fx),aK text false=(some p',0,0)/\f.owns=true/\f.room=room/\LU (eS ⟨a,true,room,.slice ad al.length cap,[]⟩ p al fuel.toNat (p.blocks.getD 0 0) RM.start)=LU (eS f p' al fuel.toNat (p'.blocks.getD 0 0) RM.start)):=⟨p,_,Ud.out,rfl,rfl,rfl⟩;generalize eS ⟨a,true,room,.slice ad al.length cap,[]⟩ p al fuel.toNat (p.blocks.getD 0 0) RM.start=R at*;simp only[LU]))
   refine bodyPost_ret (dZ Tryz.results40 _ _ _ w.heap.size [.int .i64 ((R.out:Nat):Int),.int .i64 R.value,.string (bs R.trace),.int .i64 R.count] _ rfl (fun j u hu=>by rw[Nat.zero_add,cell_of_heap e4];simpa using hu) Tryz.underlying73 rfl vH) rfl ?_;obtain⟨p',f,g1,g2,g3,g4⟩:=HRR.out;refine⟨⟨_,_,_,.inr (.inr ⟨HM.out,HS.out,rfl,rfl,p',f,g1,g2,g3,g4⟩),rfl⟩,((fC.trans (Cb.out.mono (by omega))).trans (lJ.mono (by have:=Cb.out.size;omega))).trans zj⟩
  ·have hd:decide (al.length<=100/\0<=fuel/\fuel<=1000/\0<=room/\room<=50)=false:=decide_eq_false hm;simp only[hd]at KM;have HM:Hid (¬ll al fuel room):=hm;clear hm hd hf pG pH yR K cf MV;have oD:=HR.out w1 Cb.out;obtain⟨d0,d1,d2,d3,f0,f1,f2,f3⟩:=pU oD;obtain⟨e4,zj⟩:=xf oD (.int .i64 0) (.int .i64 0) (.string ⟨#[]⟩) (.int .i64 0);go_wp2_with (go_at_call 55;refine(KM _).mono ?_;rintro e w2 ⟨rfl,rfl⟩)
   refine bodyPost_ret (dZ Tryz.results40 _ _ _ w.heap.size [.int .i64 0,.int .i64 0,.string ⟨#[]⟩,.int .i64 0] _ rfl (fun j u hu=>by rw[Nat.zero_add,cell_of_heap e4];simpa using hu) Tryz.underlying73 rfl vH) rfl ?_;refine⟨⟨_,_,_,.inr (.inl ⟨HS.out,HM.out,rfl,rfl,rfl⟩),rfl⟩,(fC.trans (Cb.out.mono (by omega))).trans zj⟩
end Ran
namespace MadA
open Go Sq
def Yk (i:Fin 5):B:=match i with
 |0=>[112]|1=>[113]|2=>[120,46,97]|3=>[120,46,98]|4=>[111,46,115]
def Yl (i:Fin 5):Nat×Nat:=match i with
 |0=>(1,0)|1=>(2,0)|2=>(3,1)|3=>(3,2)|4=>(4,3)
inductive ML where
 |new (i:Fin 5)
 |load (i:Fin 5)
 |store (i:Fin 5)
 |move (i k:Fin 5)
 |drop (i:Fin 5)
 |some (k:Fin 5)
def ML.text:ML->B
 |new i=>[110,101,119,32]++Yk i++[32,110]
 |load i=>[108,111,97,100,32,110,32]++Yk i
 |store i=>[115,116,111,114,101,32]++Yk i++[32,110]
 |move i k=>[109,111,118,101,32]++Yk i++([32]++Yk k)
 |drop i=>[100,114,111,112,32]++Yk i
 |some k=>[115,111,109,101,32,111,32]++Yk k
def ML.q (n:Nat):ML->ab
 |new i=>⟨n,9,[Yl i,(0,0)],0,0,[]⟩
 |load i=>⟨n,10,[(0,0),Yl i],0,0,[]⟩
 |store i=>⟨n,11,[Yl i,(0,0)],0,0,[]⟩
 |move i k=>⟨n,12,[Yl i,Yl k],0,0,[]⟩
 |drop i=>⟨n,15,[Yl i],0,0,[]⟩
 |some k=>⟨n,14,[(4,0),Yl k],0,0,[]⟩
instance:DecidableEq ab:=fun x y=>decidable_of_iff (x.num=y.num/\x.op=y.op/\x.places=y.places/\x.number=y.number/\x.flag=y.flag/\x.next=y.next)
 ⟨fun⟨h1,h2,h3,h4,h5,h6⟩=>by cases x;cases y;simp only at h1 h2 h3 h4 h5 h6;subst h1 h2 h3 h4 h5 h6;rfl,fun h=>by subst h;exact⟨rfl,rfl,rfl,rfl,rfl,rfl⟩⟩
end MadA
namespace MadM
open Go Sq MadA
structure MM where
 p:Bool
 q:Bool
 a:Bool
 b:Bool
 o:Fin 3
def MM.has (m:MM)(k:Fin 5):Bool:=match k with|0=>m.p|1=>m.q|2=>m.a|3=>m.b|4=>m.o==1
end MadM
namespace MadB
theorem ZP:True:=trivial
end MadB
namespace MadC
theorem ZQ:True:=trivial
end MadC
namespace MadD
theorem ZR:True:=trivial
end MadD
namespace MadE
theorem ZS:True:=trivial
end MadE
namespace RunB
open Go Go.RowKit Sq Aux Go.Proofs.YtmlgajhhnojdjaaGreatDoor.Own RunA PrjG PrjJ PrjK PrjM PrjS FlwZ FlwZa MadE
theorem Gg (w:World):bY w (.slice none 0 0) []:=⟨none,0,rfl,jC _,jQ _,fun _j hj=>absurd hj (Nat.not_lt_zero _)⟩
end RunB
namespace Ran
open Go Go.RowKit Sq Aux Go.Proofs.YtmlgajhhnojdjaaGreatDoor.Own RunB PrjJ
set_option maxRecDepth 20000 in
theorem VD (n:Int)(w:World):Calls Tryz.prog 57 #[.int .i64 n] w fun e w'=>e=.returned (.int .i64 n)/\w'=w:=by
 go_enter Tryz.func57,Tryz.ntmps57
 go_wp2
 go_ret
 exact⟨rfl,rfl⟩
set_option maxRecDepth 20000 in
theorem IV (o x:Int)(t:B)(l:Int)(w:World):Calls Tryz.prog 41 #[.agg #[.int .i64 o,.int .i64 x,.string (bs t),.int .i64 l],.agg #[.int .i64 o,.int .i64 x,.string (bs t),.int .i64 l]] w fun e w'=>e=.returned (.bool true)/\Below w.heap.size w w':=by
 have KO:=fun W=>VD o W
 have b1:(o==o)=true:=by simp
 have b2:(x==x)=true:=by simp
 have b3:(l==l)=true:=by simp
 go_enter Tryz.func41,Tryz.ntmps41
 go_wp2_with (go_at_call 57;refine(KO _).mono ?_;rintro e w1 ⟨rfl,rfl⟩)
 go_ret
 exact⟨rfl,((Below.refl _ _).alloc (jC _) _).alloc (by simp) _⟩
theorem Yi (W:World)(a:Addr)(n c:Nat):(binOp .eql 42 (.slice (some a) n c) (.slice none 0 0)).run Tryz.prog W=.ok (.bool false) W:=by
 have h:∀d:Nat,(Op.equalIn (d+1) 42 (.slice (some a) n c) (.slice none 0 0)).run Tryz.prog W=.ok false W:=fun d=>by
  simp[Op.equalIn,run_underlying Tryz.underlying42]
 simp only[binOp];simp[Op.equal,Op.maxDepth,h 9999]
theorem Vu (W:World)(n c:Nat):(binOp .eql 42 (.slice none n c) (.slice none 0 0)).run Tryz.prog W=.ok (.bool true) W:=by
 have h:∀d:Nat,(Op.equalIn (d+1) 42 (.slice none n c) (.slice none 0 0)).run Tryz.prog W=.ok true W:=fun d=>by
  simp[Op.equalIn,run_underlying Tryz.underlying42]
 simp only[binOp];simp[Op.equal,Op.maxDepth,h 9999]
def vO (al:List Int):List Value:=al.map (Value.int .i64)++[.int .i64 (-99),.int .i64 (-99)]
def qz (w:World)(v:Value)(al:List Int):Prop:=(v=.slice none 0 0/\al=[])\/∃b,v=.slice (some ⟨b,0,none⟩) (al.length+2) (al.length+2)/\w.heap[b]?=some (.cells (vO al).toArray 2 (0,0))
theorem qz.below {w w':World}{v:Value}{al:List Int}(h:qz w v al)(hb:Below w.heap.size w w'):qz w' v al:=by
 rcases h with h|⟨b,h1,h2⟩
 ·exact .inl h
 ·exact .inr ⟨b,h1,by rw[hb.block _ (lt_of_heap h2)];exact h2⟩
theorem Hy {al:List Int}{j:Nat}(hj:j<al.length):(vO al).toArray[j]?=some (.int .i64 (al.getD j 0)):=by
 rw[List.getElem?_toArray,vO,jg (by simpa using hj),jJ,jB hj,jA,jB hj];rfl
theorem Sb {al:List Int}{j:Nat}(hj:al.length<=j)(XI:j<al.length+2):(vO al).toArray[j]?=some (.int .i64 (-99)):=by
 rw[List.getElem?_toArray,vO,jf (by simpa using hj),jc];have:j-al.length=0\/j-al.length=1:=by omega
 rcases this with e|e<;>rw[e]<;>rfl
theorem OJ {w:World}{b:Nat}{al:List Int}(h:w.heap[b]?=some (.cells (vO al).toArray 2 (0,0)))(hl:al.length<=1048576):bY w (.slice (some ⟨b,0,none⟩) al.length (al.length+2)) al:=
 ⟨some ⟨b,0,none⟩,al.length+2,rfl,by omega,by unfold maxLen;omega,fun j hj=>⟨b,0,rfl,lt_of_heap h,by rw[Nat.zero_add,cell_of_heap h,Hy hj]⟩⟩
theorem RW:(Tryz.prog.info? 2).map (fun i=>(i.zero.map Value.cells,i.size,i.bytes))=some (some #[.int .i64 0],1,8):=by kernel_rfl
theorem Tn:(Tryz.prog.info? 2).map (·.size)=some 1:=by kernel_rfl
theorem E5 (n:Nat)(hn:n<=1048578)(w:World):(Instr.makeSlice 42 (.int .i64 (n:Int)) (.int .i64 (n:Int))).run Tryz.prog w=.ok (.slice (some ⟨w.heap.size,0,none⟩) n n) (w.alloc (.cells (madeCells #[.int .i64 0] (n*1)) 2)):=by
 obtain⟨i,hi,hx⟩:=Option.map_eq_some_iff.1 RW;simp only[Prod.mk.injEq]at hx;obtain⟨hz,hs,hb⟩:=hx;obtain⟨z,hz,hc⟩:=Option.map_eq_some_iff.1 hz;have:=run_make (P:=Tryz.prog) w 42 2 i z Tryz.underlying42 hi hz .i64 .i64 n n (by omega) (Int.le_refl _) (by rw[hb];omega) (by omega);rw[hs,hc]at this;simpa using this
set_option maxRecDepth 20000 in
set_option maxHeartbeats 1000000 in
theorem Sc (c:Nat)(w:World):Calls Tryz.prog 39 #[.slice none 0 c] w fun e w'=>e=.returned (.slice none 0 0)/\w'=w:=by
 have qS:=Vu w 0 c;go_enter Tryz.func39,Tryz.ntmps39
 go_wp2
 go_ret
 exact⟨rfl,rfl⟩
theorem Sd (al:List Int)(u v:Value):(((al.map (Value.int .i64)++[u,v]).toArray.setIfInBounds al.length (.int .i64 (-99))).setIfInBounds (al.length+1) (.int .i64 (-99)))=(vO al).toArray:=by
 rw[List.setIfInBounds_toArray,List.setIfInBounds_toArray];congr 1;rw[List.set_append_right _ _ (by simp),List.set_append_right _ _ (by simp)];simp[vO]
theorem Yt {l:List Value}(h:l.length=2):∃u v,l=[u,v]:=by
 match l,h with
 |[u,v],_=>exact⟨u,v,rfl⟩
set_option maxRecDepth 20000 in
set_option maxHeartbeats 1000000 in
theorem OK (a:Addr)(c:Nat)(al:List Int)(w:World)(hf:bY w (.slice (some a) al.length c) al)(hl:al.length<=1048576):Calls Tryz.prog 39 #[.slice (some a) al.length c] w fun e w'=>(∃b,e=.returned (.slice (some ⟨b,0,none⟩) (al.length+2) (al.length+2))/\w'.heap[b]?=some (.cells (vO al).toArray 2 (0,0)))/\Below w.heap.size w w':=by
 have XM:=E5 (al.length+2) (by omega) w;have qS:=Yi w a al.length c;obtain⟨W1,tj⟩:∃W1,w.alloc (.cells (madeCells #[.int .i64 0] ((al.length+2)*1)) 2)=W1:=⟨_,rfl⟩;have aw:Below w.heap.size w W1:=by rw[<-tj];exact(Below.refl _ _).alloc (jC _) _
 have T0:W1.heap[w.heap.size]?=some (.cells (madeCells #[.int .i64 0] ((al.length+2)*1)) 2 (0,0)):=by rw[<-tj];exact jD
 rw[tj,show((al.length+2:Nat):Int)=(al.length:Int)+2 by omega]at XM;obtain⟨ad,c',e,h1,h2,h3⟩:=hf;simp only[Value.slice.injEq,true_and]at e;obtain⟨rfl,rfl⟩:=e;have qm:=run_copy_row (P:=Tryz.prog) W1 42 42 3 2 w.heap.size 0 (al.length+2) (al.length+2) a al.length c _ 2 (al.map (Value.int .i64)) Tryz.underlying42 Tn T0 (by rw[jc];show _=min _ _;omega) (fun j v hj=>by
   have ou:j<al.length:=by simpa using(List.getElem?_eq_some_iff.1 hj).1
   obtain⟨g,f,e,hg,hc⟩:=h3 j ou;simp only[Option.some.injEq]at e;subst e;have Ke:(⟨g,f,none⟩:Addr).add j=⟨g,f+j,none⟩:=by unfold Addr.add;split<;>simp_all
   rw[Ke,aw.cell (p:=⟨g,f+j,none⟩) hg,hc];rw[jJ,jB ou]at hj;rw[<-hj,jA,jB ou];rfl) (by rw[jc,size_madeCells];omega) (fun v hv=>by
   obtain⟨n,-,rfl⟩:=List.mem_map.1 hv;rfl)
 obtain⟨u,v,Ws⟩:=Yt (l:=(madeCells #[.int .i64 0] ((al.length+2)*1)).toList.drop (0+(al.map (Value.int .i64)).length)) (by rw[List.length_drop,Array.length_toList,size_madeCells,jc];omega);rw[Ws,List.take_zero,List.nil_append]at qm;obtain⟨W2,AT⟩:∃W2,W1.setRow w.heap.size (al.map (Value.int .i64)++[u,v]).toArray=W2:=⟨_,rfl⟩;have Kj:W2.heap[w.heap.size]?=some (.cells (al.map (Value.int .i64)++[u,v]).toArray 2 (0,0)):=by rw[<-AT];exact setRow_heap _ _ _ _ _ _ T0
 have bU:Below w.heap.size w W2:=by rw[<-AT];exact below_setRow aw (jC _) _
 rw[AT,jc]at qm;have ZW:=Aux.heap_setCell_same Kj al.length (.int .i64 (-99));have hg4:=Aux.heap_setCell_same ZW (al.length+1) (.int .i64 (-99));rw[Sd]at hg4;have c1:W2.cell? ⟨w.heap.size,al.length,none⟩=some u:=by rw[cell_of_heap Kj,List.getElem?_toArray,jf (by simp)];simp
 have c2:W2.cell? ⟨w.heap.size,al.length+1,none⟩=some v:=by rw[cell_of_heap Kj,List.getElem?_toArray,jf (by simp)];simp
 have f1:=frozen_of_heap Kj al.length;have f2:=frozen_of_heap Kj (al.length+1);have HB:Hid (Below w.heap.size w ((W2.setCell ⟨w.heap.size,al.length,none⟩ (.int .i64 (-99))).setCell ⟨w.heap.size,al.length+1,none⟩ (.int .i64 (-99)))):=(bU.setCell (p:=⟨w.heap.size,al.length,none⟩) (jC _) _).setCell (p:=⟨w.heap.size,al.length+1,none⟩) (jC _) _;have HG:Hid (_=_):=hg4;clear h3 T0 Kj ZW hg4 aw bU tj AT Ws;go_enter Tryz.func39,Tryz.ntmps39
 go_wp2
 go_ret
 exact⟨⟨_,rfl,HG.out⟩,HB.out⟩
set_option maxRecDepth 20000 in
set_option maxHeartbeats 1000000 in
theorem DP (v vi:Value)(al:List Int)(w:World)(hf:bY w vi al)(hx:qz w v al)(hl:al.length<=1048576):Calls Tryz.prog 42 #[v,vi] w fun e w'=>e=.returned (.bool true)/\Below w.heap.size w w':=by
 obtain⟨ad,c,rfl,h1,h2,h3⟩:=hf;rcases hx with⟨rfl,rfl⟩|⟨b,rfl,hb⟩
 ·go_enter Tryz.func42,Tryz.ntmps42
  go_wp2
  go_loopw [5] (fun v5 wr=>v5=.int .i64 0/\wr=w) (fun _ _=>0)
  case atStart=>exact⟨rfl,rfl⟩
  case round=>
   obtain⟨rfl,rfl⟩:=hrel;go_wp2
   go_ret
   exact⟨rfl,Below.refl _ _⟩
 ·have HX:Hid (∀W,Below w.heap.size w W->∀k,k<al.length+2->W.cell? ⟨b,k,none⟩=some (.int .i64 (if k<al.length then al.getD k 0 else-99))):=fun W hW k hk=>by
   rw[cell_of_heap ((hW.block b (lt_of_heap hb)).trans hb)];split
   ·rename_i h;exact Hy h
   ·exact Sb (by omega) hk
  have HF:Hid (∀W,Below w.heap.size w W->∀k,k<al.length->∃g f,ad=some ⟨g,f,none⟩/\W.cell? ⟨g,f+k,none⟩=some (.int .i64 (al.getD k 0))):=fun W hW k hk=>by
   obtain⟨g,f,e,hg,hc⟩:=h3 k hk;exact⟨g,f,e,(hW.cell (p:=⟨g,f+k,none⟩) hg).trans hc⟩
  clear h3 hb;generalize hN:al.length=N at*;go_enter Tryz.func42,Tryz.ntmps42
  go_wp2
  go_loopw [5] (fun v5 wr=>∃k:Nat,k<=N+2/\v5=.int .i64 ((k:Nat):Int)/\Hid (Below w.heap.size w wr)) (fun v _=>N+2-(intOf v).toNat)
  case atStart=>exact⟨0,jQ _,rfl,Below.refl _ _⟩
  case round=>
   obtain⟨k,hk,rfl,HB⟩:=hrel;by_cases B8:k<N
   ·have x1:=HX.out _ HB.out k (by omega);rw[jb B8]at x1;obtain⟨g,f,rfl,y1⟩:=HF.out _ HB.out k B8;have i1:(k:Int)<(N:Int)+2:=by omega
    have i2:(k:Int)<N:=by omega
    have i3:¬(N:Int)<=k:=by omega
    generalize al.getD k 0=z at*;have bz:(z==z)=true:=by simp
    clear HX HF;go_upto_region 4 with fail
    go_quiet (fail)
    go_wp2
    exact⟨⟨k+1,by omega,by go_num,below_drewN HB.out _⟩,by simp[intOf];omega⟩
   ·by_cases GK:k<N+2
    ·have x1:=HX.out _ HB.out k (by omega);rw[ja B8]at x1;have i1:(k:Int)<(N:Int)+2:=by omega
     have i2:¬(k:Int)<N:=by omega
     have i3:(N:Int)<=k:=by omega
     clear HX HF;go_upto_region 4 with fail
     go_quiet (fail)
     go_wp2
     exact⟨⟨k+1,by omega,by go_num,below_drewN HB.out _⟩,by simp[intOf];omega⟩
    ·have i1:¬(k:Int)<(N:Int)+2:=by omega
     go_wp2
     go_ret
     exact⟨rfl,HB.out⟩
end Ran
namespace RunB
open Go Go.RowKit Sq Aux Go.Proofs.YtmlgajhhnojdjaaGreatDoor.Own RunA PrjG PrjJ PrjK PrjM PrjS FlwZ FlwZa MadC MadE
theorem FJ.form {text:B}{al:List Int}{fuel room:Int}{v:Value}{c k:Int}(h:FJ text al fuel room v c k):∃(o x:Int) (t:B) (l:Int),v=.agg #[.int .i64 o,.int .i64 x,.string (bs t),.int .i64 l]:=by
 rcases h with⟨-,-,rfl⟩|⟨-,-,rfl,-⟩|⟨-,-,-,q,ans,-,-,rfl⟩
 ·exact⟨0,0,[],0,rfl⟩
 ·exact⟨0,0,[],0,rfl⟩
 ·exact⟨_,_,_,_,rfl⟩
theorem CN (text:B)(vi:Value)(al:List Int)(fuel room:Int)(w:World)(hf:bY w vi al)(pH:∀n∈al,aO n)(h:text.length<=1048576)(E:Env w)(hp:Pow w):
  Calls Tryz.prog 23 #[.string (bs text),vi,.int .i64 fuel,.int .i64 room] w fun e w'=>(∃(o x:Int) (t:B) (l c k:Int),Hid (FJ text al fuel room (.agg #[.int .i64 o,.int .i64 x,.string (bs t),.int .i64 l]) c k)/\e=.returned (.tuple #[.agg #[.int .i64 o,.int .i64 x,.string (bs t),.int .i64 l],.int .i64 c,.int .i64 k]))/\Below w.heap.size w w':=by
 refine(Qo text vi al fuel room w hf pH h E hp).mono ?_;rintro e w' ⟨⟨v,c,k,hr,rfl⟩,hb⟩;obtain⟨o,x,t,l,rfl⟩:=hr.out.form;exact⟨⟨o,x,t,l,c,k,hr,rfl⟩,hb⟩
theorem Hi {w4 w6:World}{x:Obj}(hb:Below (w4.alloc x).heap.size (w4.alloc x) w6):w6.heap[w4.heap.size]?=some x/\w4.heap.size<w6.heap.size:=by
 have h:(w4.alloc x).heap[w4.heap.size]?=some x:=jD;have hs:=hb.size;have e:(w4.alloc x).heap.size=w4.heap.size+1:=by simp
 exact⟨by rw[hb.block _ (by omega)];exact h,by omega⟩
theorem Hj {w4 w6:World}{x y:Obj}(hb:Below (w4.alloc x).heap.size (w4.alloc x) w6):(w6.alloc y).heap[w4.heap.size]?=some x:=by
 have h:(w4.alloc x).heap[w4.heap.size]?=some x:=jD;have hs:=hb.size;have e:(w4.alloc x).heap.size=w4.heap.size+1:=by simp
 show(w6.heap.push y)[w4.heap.size]?=_
 rw[Array.getElem?_push_lt (by omega)];rw[<-h,<-hb.block _ (by omega),Array.getElem?_eq_getElem (by omega)]
end RunB
end Go.Proofs.YtmlgajhhnojdjaaGreatDoor

import Derived.Test.YtmlgajhhnojdjaaGreatDoorRAC
import Derived.Stop.IfaceNil
import Derived.Test.YtmlgajhhnojdjaaGreatDoorRAF
namespace Go.Proofs.YtmlgajhhnojdjaaGreatDoor
namespace PrjG
open Go Go.RowKit Sq PrjF
structure Env (w:World):Prop where
 Tk:rL w
 types:tQ w
 OY:∃m:Int,w.cell? ⟨3,0,none⟩=some (.int .i64 m)
 syn:∃te pe,w.cell? ⟨9,0,none⟩=some (.iface te pe)
 rng:∃te pe,w.cell? ⟨10,0,none⟩=some (.iface te pe)
 size:11<=w.heap.size
theorem Env.below {w w':World}{B:Nat}(h:Env w)(hb:Below B w w')(hB:11<=B):Env w':=by
 obtain⟨h1,h2,⟨m,h3⟩,⟨a,b,h4⟩,⟨c,d,h5⟩,h6⟩:=h;have hc:∀(k o:Nat),k<11->w'.cell? ⟨k,o,none⟩=w.cell? ⟨k,o,none⟩:=fun k o hk=>hb.cell (p:=⟨k,o,none⟩) (by show k<B;omega)
 refine⟨fun j v hv=> ?_,fun j v hv=> ?_,⟨m,?_⟩,⟨a,b,?_⟩,⟨c,d,?_⟩,jS h6 hb.size⟩
 ·rw[hc _ _ (by decide)];exact h1 j v hv
 ·rw[hc _ _ (by decide)];exact h2 j v hv
 ·rw[hc _ _ (by decide)];exact h3
 ·rw[hc _ _ (by decide)];exact h4
 ·rw[hc _ _ (by decide)];exact h5
theorem Env.on {w w':World}(h:Env w)(hb:Below w.heap.size w w'):Env w':=h.below hb h.size
theorem Iz (M:Nat):∀(l:B) (acc u:Nat),Lib.parseUintM M acc l=.ok u->acc<=u
 |[],acc,u,h=>by simp[Lib.parseUintM]at h;omega
 |c::r,acc,u,h=>by
  rw[Lib.parseUintM]at h;split at h
  ·split at h
   ·cases h
   ·split at h
    ·cases h
    ·have:=Iz M r _ u h;omega
  ·cases h
theorem DC (M:Nat)(hM:1000000000<=M):∀(l:B) (acc:Nat),acc<=1000000000->
  (∀m,cg acc l=some m->∃u:Nat,m=u/\Lib.parseUintM M acc l=.ok u/\u<=1000000000)/\(cg acc l=none->∀u,Lib.parseUintM M acc l=.ok u->1000000000<u)
 |[],acc,ha=>by
  refine⟨fun m h=>⟨acc,?_,rfl,ha⟩,fun h=>by simp[cg]at h⟩;simp[cg]at h;omega
 |c::r,acc,ha=>by
  rw[cg,Lib.parseUintM];by_cases hd:digit c=true
  ·have Ob:=hd;simp only[digit,Bool.and_eq_true,decide_eq_true_eq]at Ob;have XX:¬1844674407370955162<=acc:=by omega
   rw[jb hd,jb Ob,ja XX];have ZJ:10*(acc:Int)+((c.toNat:Int)-48)=((acc*10+(c.toNat-48):Nat):Int):=by omega
   by_cases hgt:10*(acc:Int)+((c.toNat:Int)-48)>1000000000
   ·rw[jb hgt];refine⟨fun m h=>(by cases h),fun _ u hu=> ?_⟩;split at hu
    ·cases hu
    ·have:=Iz M r _ u hu;omega
   ·have hM':¬M<acc*10+(c.toNat-48):=by omega
    rw[ja hgt,ja hM',ZJ];exact DC M hM r (acc*10+(c.toNat-48)) (by omega)
  ·have Ob:¬(48<=c.toNat/\c.toNat<=57):=fun e=>hd (by simp[digit,e.1,e.2])
   rw[ja hd,ja Ob];exact⟨fun m h=>(by cases h),fun _ u hu=>(by cases hu)⟩
theorem vV {c:UInt8}{r:B}(hd:digit c=true):(∀m,cg 0 (c::r)=some m->Lib.parseIntB 64 (c::r)=.ok m/\m<=1000000000)/\(cg 0 (c::r)=none->∀v,Lib.parseIntB 64 (c::r)=.ok v->1000000000<v):=by
 have Ob:=hd;simp only[digit,Bool.and_eq_true,decide_eq_true_eq]at Ob;have hp:=DC (2^64-1) (by decide) (c::r) 0 (by omega);have he:Lib.parseIntB 64 (c::r)=match Lib.parseUintM (2^64-1) 0 (c::r)with
   | .syntax=> .syntax| .range=> .range
   | .ok u=>if 2^63<=u then .range else .ok (u:Int):=by
  have h1:¬c.toNat=43:=by omega
  have h2:¬c.toNat=45:=by omega
  simp only[Lib.parseIntB,Lib.parseUintB,h1,h2,or_self,not_false_eq_true,true_and,false_and,if_false];rw[ja (by simp)];rfl
 rw[he];constructor
 ·intro m hm;obtain⟨u,rfl,hu,hl⟩:=hp.1 m hm;rw[hu];simp only;rw[ja (by omega)];exact⟨rfl,by omega⟩
 ·intro hn v hv;cases hu:Lib.parseUintM (2^64-1) 0 (c::r)with
  | «syntax» =>rw[hu]at hv;cases hv
  |range=>rw[hu]at hv;cases hv
  |ok u=>
   rw[hu]at hv;have:=hp.2 hn u hu;simp only at hv;split at hv
   ·cases hv
   ·cases hv;omega
theorem GU:Tryz.prog.isIface 221=true:=by kernel_rfl
theorem kE {a b:Int}{x y:Bool}(h:a=b)(h':x=y):Ending.returned (.tuple #[.int .i64 a,.bool x])=.returned (.tuple #[.int .i64 b,.bool y]):=by rw[h,h']
set_option maxRecDepth 20000 in
theorem lF (l:B)(w:World)(h:l.length<=1099511627776)(E:Env w):
  Calls Tryz.prog 229 #[.string (bs l)] w fun e w'=>e=.returned (.tuple #[.int .i64 ((az l).getD 0),.bool (az l).isSome])/\Below w.heap.size w w':=by
 have ht:=aD l;cases l with
 |nil=>
  go_enter Tryz.func229,Tryz.ntmps229
  go_wp2
  go_ret2
  exact⟨rfl,Below.refl _ _⟩
 |cons c r=>
  have ea:((c::r:B)==[])=false:=rfl;have lx:(bs (c::r)).size=r.length+1:=by rw[dQ];rfl
  by_cases hd:digit c=true
  ·have Ob:=hd;simp only[digit,Bool.and_eq_true,decide_eq_true_eq]at Ob;by_cases h0:c=48/\(c::r)≠[48]
   ·have e:az (c::r)=none:=by rw[az,ja (fun e=>e.2 h0)]
    rw[e];have TP:((c.toNat:Int)==48)=true:=by rw[h0.1];rfl
    have hz:((c::r:B)==[48])=false:=by simpa using h0.2
    clear h0 hd e;go_enter Tryz.func229,Tryz.ntmps229
    go_wp2
    go_ret2
    exact⟨rfl,Below.refl _ _⟩
   ·have e:az (c::r)=cg 0 (c::r):=by rw[az,jb ⟨hd,h0⟩]
    have hq:((c.toNat:Int)==48&& !((c::r:B)==[48]))=false:=by
     rw[Bool.and_eq_false_iff];by_cases TP:c=48
     ·right;have:(c::r)=[48]:=Decidable.not_not.mp (fun hx=>h0 ⟨TP,hx⟩);rw[this];rfl
     ·left;rw[jZ];intro hx;exact TP ((kV c 48 (by omega)).mpr (by omega))
    obtain⟨B8,Wp⟩:=vV (r:=r) hd;have hlen:(c::r).length<=281474976710656:=by omega
    have TX:(bs (c::r)).data.toList=c::r:=by simp[bs]
    obtain⟨te,pe,hsyn⟩:=E.syn;obtain⟨te',pe',hrng⟩:=E.rng;have K:Calls Tryz.prog 240 #[.string (bs (c::r)),.int .i64 10,.int .i64 64] w fun e w'=>∃(n:Int) (ev:Value),e=.returned (.tuple #[.int .i64 n,ev])/\Below w.heap.size w w'/\((ev=.nilIface/\((cg 0 (c::r)=some n/\n<=1000000000)\/(cg 0 (c::r)=none/\1000000000<n)))\/(cg 0 (c::r)=none/\∃t p,ev=.iface t p)):=by
     cases GP:Lib.parseIntB 64 (c::r)with
     |ok v=>
      refine(Tryz.strconv_ParseInt_10_at64_ok (bs (c::r)) (by rw[lx];simp at h;omega) v (by rw[TX];exact GP) w).mono ?_;rintro e w' ⟨rfl,hw⟩;refine⟨v,.nilIface,rfl,?_,.inl ⟨rfl,?_⟩⟩
      ·rcases hw with rfl|⟨t,rfl⟩
       ·exact Below.refl _ _
       ·exact Lib.bytesWorld_below _ _ _
      ·cases hn:cg 0 (c::r)with
       |none=>exact .inr ⟨rfl,Wp hn v GP⟩
       |some m=>
        obtain⟨h1,h2⟩:=B8 m hn;rw[GP]at h1;cases h1
        exact .inl ⟨rfl,h2⟩
     | «syntax» =>
      refine(Tryz.strconv_ParseInt_10_at64_syntax (bs (c::r)) (by rw[dQ];exact hlen) (by rw[TX];exact GP) _ w hsyn (.inr ⟨te,pe,rfl⟩)).mono ?_;rintro e w' ⟨N,rfl,-,-,hb⟩;refine⟨_,_,rfl,hb,.inr ⟨?_,_,_,rfl⟩⟩;cases hn:cg 0 (c::r)with
      |none=>rfl
      |some m=>have:=(B8 m hn).1;rw[GP]at this;cases this
     |range=>
      refine(Tryz.strconv_ParseInt_10_at64_range (bs (c::r)) (by rw[dQ];exact hlen) (by rw[TX];exact GP) _ w hrng (.inr ⟨te',pe',rfl⟩)).mono ?_;rintro e w' ⟨N,rfl,-,-,hb⟩;refine⟨_,_,rfl,hb,.inr ⟨?_,_,_,rfl⟩⟩;cases hn:cg 0 (c::r)with
      |none=>rfl
      |some m=>have:=(B8 m hn).1;rw[GP]at this;cases this
    rw[e];clear e B8 Wp hsyn hrng E h0 TX hlen;generalize cg 0 (c::r)=R at K;have Rn:((c.toNat:Int)==48)=false\/(((c.toNat:Int)==48)=true/\((c::r:B)==[48])=true):=by
     cases hx:((c.toNat:Int)==48)
     ·exact .inl rfl
     ·rw[hx,Bool.true_and,Bool.not_eq_false']at hq;exact .inr ⟨rfl,hq⟩
    clear hq hd;have UT:=GU;rcases Rn with ko|⟨ko,mZ⟩
    all_goals
     go_enter Tryz.func229,Tryz.ntmps229
     go_wp2_with (go_at_call 240;refine K.mono ?_;rintro e w1 ⟨n,ev,rfl,hb,⟨rfl,⟨hR,hn⟩|⟨hR,hn⟩⟩|⟨hR,t,p,rfl⟩⟩)
     all_goals
      go_ret2
      rw[hR];exact⟨rfl,hb⟩
  ·have e:az (c::r)=none:=by rw[az,ja (fun e=>hd e.1)]
   rw[e];have Ob:(c.toNat:Int)<48\/((48:Int)<=c.toNat/\(57:Int)<c.toNat):=by
    simp only[digit,Bool.and_eq_true,decide_eq_true_eq]at hd;omega
   clear hd e;rcases Ob with Ob|⟨hd1,hd2⟩
   all_goals
    go_enter Tryz.func229,Tryz.ntmps229
    go_wp2
    go_ret2
    exact⟨rfl,Below.refl _ _⟩
end PrjG
namespace PrjH
open Go Go.RowKit Sq PrjF PrjG
theorem JT {l:B}{n:Int}(h:az l=some n):0<=n/\n<=1000000000:=by
 refine⟨Ay h,?_⟩;cases l with
 |nil=>cases h
 |cons c r=>
  rw[az]at h;split at h
  ·rename_i hd;exact((vV (r:=r) hd.1).1 n h).2
  ·cases h
theorem fW (l:B):0<=(az l).getD 0/\(az l).getD 0<=1000000000:=by
 cases h:az l with
 |none=>simp
 |some n=>simpa using JT h
theorem EV (l:B):(∃r,l=45::r/\Lib.trimPrefix l [45]=r/\Lib.hasPrefix l [45]=true)\/((∀r,l≠45::r)/\Lib.trimPrefix l [45]=l/\Lib.hasPrefix l [45]=false):=by
 cases l with
 |nil=>right;exact⟨by simp,rfl,rfl⟩
 |cons c r=>
  by_cases h:c=45
  ·subst h;left;exact⟨r,rfl,rfl,rfl⟩
  ·right;have hp:Lib.hasPrefix (c::r) [45]=false:=by
    simp[Lib.hasPrefix,List.isPrefixOf];exact fun e=>h e.symm
   exact⟨by intro r' e;simp only[List.cons.injEq]at e;exact h e.1,by simp[Lib.trimPrefix,hp],hp⟩
theorem Cx {l:B}(h:∀r,l≠45::r):dO l=az l:=by
 cases l with
 |nil=>rfl
 |cons c r=>rw[dO,ja (fun e=>h r (by rw[e]))]
theorem Sl (l:B):(⟨l.toArray⟩:ByteArray)=bs l:=rfl
set_option maxRecDepth 20000 in
theorem vS (l:B)(w:World)(h:l.length<=1099511627776)(E:Env w):
  Calls Tryz.prog 203 #[.string (bs l)] w fun e w'=>e=.returned (.tuple #[.int .i64 ((dO l).getD 0),.bool (dO l).isSome])/\Below w.heap.size w w':=by
 have TX:(bs l).data.toList=l:=by simp[bs]
 have K:=Tryz.strings_CutPrefix (bs l) ⟨#[45]⟩ w;rw[TX]at K;have h45:(⟨#[45]⟩:ByteArray).data.toList=[45]:=rfl;rw[h45]at K;rcases EV l with⟨r,rfl,h1,h2⟩|⟨ea,h1,h2⟩
 ·rw[h1,h2]at K;have D:=lF r w (by simp at h;omega) E;obtain⟨d1,d2⟩:=fW r;have hN:dO (45::r)=(match az r with|none=>none|some n=>if n=0 then none else some (-n)):=by rw[dO,jb rfl];cases az r<;>rfl
  rw[hN];clear h1 h2 hN TX;cases hd:az r with
  |none=>
   rw[hd]at D;go_enter Tryz.func203,Tryz.ntmps203
   go_wp2_with (first|(go_at_call 228;refine K.mono ?_;rintro e w1 ⟨rfl,rfl⟩)|(go_at_call 229;refine D.mono ?_;rintro e w1 ⟨rfl,hb⟩))
   go_ret2
   exact⟨rfl,hb⟩
  |some n=>
   rw[hd]at D d1 d2;simp only[Option.getD_some]at d1 d2;by_cases hn:n=0
   ·subst hn;go_enter Tryz.func203,Tryz.ntmps203
    go_wp2_with (first|(go_at_call 228;refine K.mono ?_;rintro e w1 ⟨rfl,rfl⟩)|(go_at_call 229;refine D.mono ?_;rintro e w1 ⟨rfl,hb⟩))
    go_ret2
    exact⟨rfl,hb⟩
   ·have YS:(n==0)=false:=by simp[hn]
    go_enter Tryz.func203,Tryz.ntmps203
    go_wp2_with (first|(go_at_call 228;refine K.mono ?_;rintro e w1 ⟨rfl,rfl⟩)|(go_at_call 229;refine D.mono ?_;rintro e w1 ⟨rfl,hb⟩))
    go_ret2
    exact⟨kE (by simp) (by simp[hn]),hb⟩
 ·rw[h1,h2]at K;have D:=lF l w h E;rw[Cx ea];clear h1 h2 ea TX;go_enter Tryz.func203,Tryz.ntmps203
  go_wp2_with (first|(go_at_call 228;refine K.mono ?_;rintro e w1 ⟨rfl,rfl⟩)|(go_at_call 229;refine D.mono ?_;rintro e w1 ⟨rfl,hb⟩))
  go_ret2
  exact⟨rfl,hb⟩
set_option maxRecDepth 20000 in
theorem yF (l:B)(w:World)(h:l.length<=1099511627776)(E:Env w):
  Calls Tryz.prog 205 #[.string (bs l)] w fun e w'=>e=.returned (.tuple #[.int .i64 ((az l).getD 0),.bool (az l).isSome])/\Below w.heap.size w w':=by
 have D:=lF l w h E;obtain⟨d1,d2⟩:=fW l;go_enter Tryz.func205,Tryz.ntmps205
 go_wp2_with (go_at_call 229;refine D.mono ?_;rintro e w1 ⟨rfl,hb⟩)
 go_ret2
 exact⟨rfl,hb⟩
def Eh (l:B):Bool:=match az l with|some n=>decide (n<50)|none=>false
set_option maxRecDepth 20000 in
theorem AJ (l:B)(w:World)(h:l.length<=1099511627776)(E:Env w):
  Calls Tryz.prog 204 #[.string (bs l)] w fun e w'=>e=.returned (.tuple #[.int .i64 ((az l).getD 0),.bool (Eh l)])/\Below w.heap.size w w':=by
 have D:=lF l w h E;obtain⟨d1,d2⟩:=fW l;unfold Eh;cases hd:az l with
 |none=>
  rw[hd]at D;go_enter Tryz.func204,Tryz.ntmps204
  go_wp2_with (go_at_call 229;refine D.mono ?_;rintro e w1 ⟨rfl,hb⟩)
  go_ret2
  exact⟨rfl,hb⟩
 |some n=>
  rw[hd]at D d1 d2;simp only[Option.getD_some]at d1 d2;by_cases hn:n<50
  all_goals
   go_enter Tryz.func204,Tryz.ntmps204
   go_wp2_with (go_at_call 229;refine D.mono ?_;rintro e w1 ⟨rfl,hb⟩)
   go_ret2
   exact⟨kE rfl (by simp[hn]),hb⟩
end PrjH
namespace PrjI
open Go Go.RowKit Sq RefA PrjF PrjG PrjH
theorem pH (c:UInt8):∀l:B,(Lib.index l [c]= -1/\¬c∈l)\/(∃i:Nat,Lib.index l [c]=i/\i<l.length/\l=l.take i++c::l.drop (i+1)/\¬c∈l.take i)
 |[]=> .inl ⟨rfl,by simp⟩
 |b::l=>by
  rw[Lib.index];by_cases hb:b=c
  ·subst hb;right;exact⟨0,by simp[List.isPrefixOf],by simp,by simp,by simp⟩
  ·have hp:List.isPrefixOf [c] (b::l)=false:=by simp[List.isPrefixOf];exact fun e=>hb e.symm
   rw[hp,ja (by simp)];rcases pH c l with⟨h1,h2⟩|⟨i,h1,h2,h3,h4⟩
   ·left;rw[h1];exact⟨rfl,by simp only[List.mem_cons,not_or];exact⟨fun e=>hb e.symm,h2⟩⟩
   ·right;refine⟨i+1,?_,by simp;omega,?_,?_⟩
    ·rw[h1,ja (by simp)];rfl
    ·simpa using h3
    ·simp only[List.take_succ_cons,List.mem_cons,not_or];exact⟨fun e=>hb e.symm,h4⟩
theorem Av:∀(a t:B),¬(46:UInt8)∈a->cD (a++46::t)=(a,some t)
 |[],t,_=>by simp[cD]
 |c::a,t,h=>by
  simp only[List.mem_cons,not_or]at h;rw[jW,cD,ja (fun e=>h.1 e.symm),Av a t h.2]
theorem C1:∀(a:B),¬(46:UInt8)∈a->cD a=(a,none)
 |[],_=>rfl
 |c::a,h=>by
  simp only[List.mem_cons,not_or]at h;rw[cD,ja (fun e=>h.1 e.symm),C1 a h.2]
theorem Un (l:B):Lib.cut l [46]=((cD l).1,(cD l).2.getD [],(cD l).2.isSome):=by
 unfold Lib.cut;rcases pH 46 l with⟨h1,h2⟩|⟨i,h1,h2,h3,h4⟩
 ·rw[h1,C1 l h2];rfl
 ·rw[h1,jb (by omega)];have:cD l=(l.take i,some (l.drop (i+1))):=by
   conv=>lhs;rw[h3]
   exact Av _ _ h4
  rw[this];simp
set_option maxRecDepth 20000 in
theorem ry (l:B)(w:World)(h:l.length<=1048576)(E:Env w):
  Calls Tryz.prog 206 #[.string (bs l)] w fun e w'=>e=.returned (.tuple #[.string (bs ((bR l).getD ([],0)).1),.int .i64 (((bR l).getD ([],0)).2:Nat),.bool (bR l).isSome])/\Below w.heap.size w w':=by
 obtain⟨m,hm⟩:=E.OY;have TX:(bs l).data.toList=l:=by simp[bs]
 have K:=Tryz.strings_Cut (bs l) ⟨#[46]⟩ m w (by rw[dQ];omega) hm;have h46:(⟨#[46]⟩:ByteArray).data.toList=[46]:=rfl;rw[TX,h46,Un,Sl,Sl]at K;rw[bR];have hb:∀n,Below w.heap.size w (w.drewN n):=fun n=>below_drewN (Below.refl _ _) n
 cases hc:(cD l).2 with
 |none=>
  rw[hc]at K;go_enter Tryz.func206,Tryz.ntmps206
  go_wp2_with (go_at_call 230;refine K.mono ?_;rintro e w1 ⟨rfl,n,rfl⟩)
  go_ret3
  exact⟨rfl,hb n⟩
 |some t=>
  rw[hc]at K;have ht:=aD t;by_cases h97:t=[97]
  ·subst h97;go_enter Tryz.func206,Tryz.ntmps206
   go_wp2_with (go_at_call 230;refine K.mono ?_;rintro e w1 ⟨rfl,n,rfl⟩)
   go_ret3
   exact⟨rfl,hb n⟩
  ·by_cases h98:t=[98]
   ·subst h98;go_enter Tryz.func206,Tryz.ntmps206
    go_wp2_with (go_at_call 230;refine K.mono ?_;rintro e w1 ⟨rfl,n,rfl⟩)
    go_ret3
    exact⟨rfl,hb n⟩
   ·by_cases h115:t=[115]
    ·subst h115;go_enter Tryz.func206,Tryz.ntmps206
     go_wp2_with (go_at_call 230;refine K.mono ?_;rintro e w1 ⟨rfl,n,rfl⟩)
     go_ret3
     exact⟨rfl,hb n⟩
    ·simp only;rw[ja h97,ja h98,ja h115];have b1:(t==[97])=false:=by simpa using h97
     have b2:(t==[98])=false:=by simpa using h98
     have b3:(t==[115])=false:=by simpa using h115
     clear h97 h98 h115;go_enter Tryz.func206,Tryz.ntmps206
     go_wp2_with (go_at_call 230;refine K.mono ?_;rintro e w1 ⟨rfl,n,rfl⟩)
     go_ret3
     exact⟨rfl,hb n⟩
theorem Lv (s:ByteArray)(h:s.size<1\/4<s.size):isName s.toList=false:=by
 rw[isName,length_toList];rcases h with h|h
 ·simp[show¬1<=s.size by omega]
 ·simp[show¬s.size<=4 by omega]
set_option maxRecDepth 20000 in
theorem ID (s:ByteArray)(w:World)(hs:s.size<=maxLen):
  Calls Tryz.prog 226 #[.string s] w fun e w'=>e=.returned (.bool (isName s.toList))/\w'=w:=by
 unfold maxLen at hs;by_cases Cr:s.size<1\/4<s.size
 ·rw[Lv s Cr];rcases Cr with Cr|Cr
  all_goals
   go_enter Tryz.func226,Tryz.ntmps226
   go_wp2
   go_ret
   exact⟨rfl,rfl⟩
 ·have h1:1<=s.size:=by omega
  have h4:s.size<=4:=by omega
  clear Cr;go_enter Tryz.func226,Tryz.ntmps226
  go_wp2
  go_loop [14] (fun i=>∃k:Nat,k<=s.size/\i=.int .i64 k/\Hid ((s.toList.take k).all lower=true)) (fun i=>s.size-(intOf i).toNat)
  case atStart=>exact⟨0,jQ _,rfl,rfl⟩
  case round=>
   obtain⟨k,hk,rfl,Cl⟩:=hrel;by_cases aK:k<s.size
   ·by_cases ko:(s[k].toNat:Int)<97
    ·go_wp2
     go_ret
     exact⟨aO (zU s k aK (by omega)).symm,rfl⟩
    ·by_cases mZ:(122:Int)<s[k].toNat
     ·go_wp2
      go_ret
      exact⟨aO (zU s k aK (by omega)).symm,rfl⟩
     ·go_wp2
      go_round
      case rel=>exact⟨k+1,by omega,by go_num,M4 s k aK Cl.out (by omega) (by omega)⟩
      case measure=>simp[intOf];omega
   ·go_wp2
    go_ret
    exact⟨aO (by rw[Ik s k Cl.out aK];simp[h1,h4]),rfl⟩
theorem BC (l:B)(w:World)(h:l.length<=1099511627776):
  Calls Tryz.prog 226 #[.string (bs l)] w fun e w'=>e=.returned (.bool (isName l))/\w'=w:=by
 have:=ID (bs l) w (by rw[dQ];unfold maxLen;omega)
 rwa [aD]at this
theorem SN {a b c:Bool}(h:a=true\/b=true\/c=true):a=true\/(a=false/\b=true)\/(a=false/\b=false/\c=true):=by
 cases a<;>cases b<;>simp_all
theorem SO {a b:Bool}(h:a=true\/b=true):a=true\/(a=false/\b=true):=by
 cases a<;>simp_all
theorem Gq (l:B)(c:UInt8):jo l c=
  if((c.toNat:Int)==100)=true\/((c.toNat:Int)==105)=true\/((c.toNat:Int)==111)=true then isName l
  else if((c.toNat:Int)==116)=true then(gM l).isSome
  else if((c.toNat:Int)==112)=true\/((c.toNat:Int)==109)=true then(bR l).isSome&&isName ((bR l).getD ([],0)).1
  else if((c.toNat:Int)==35)=true then(dO l).isSome
  else if((c.toNat:Int)==98)=true then(az l).isSome
  else if((c.toNat:Int)==102)=true then Eh l
  else if((c.toNat:Int)==118)=true then l==[48]||l==[49]
  else false:=by
 have e:∀n:Nat,n<256->(((c.toNat:Int)==(n:Int))=true↔c=UInt8.ofNat n):=fun n hn=>by
  rw[kV c n hn,beq_iff_eq];omega
 have e1:=e 100 (by omega);have e2:=e 105 (by omega);have e3:=e 111 (by omega);have e4:=e 116 (by omega);have e5:=e 112 (by omega);have e6:=e 109 (by omega);have e7:=e 35 (by omega);have e8:=e 98 (by omega);have e9:=e 102 (by omega);have e10:=e 118 (by omega);simp only[Int.cast_ofNat_Int]at e1 e2 e3 e4 e5 e6 e7 e8 e9 e10;simp only[e1,e2,e3,e4,e5,e6,e7,e8,e9,e10];unfold jo Eh;cases bR l<;>rfl
set_option maxRecDepth 20000 in
set_option maxHeartbeats 1000000 in
theorem EB (l:B)(c:UInt8)(w:World)(h:l.length<=1048576)(E:Env w):
  Calls Tryz.prog 197 #[.string (bs l),.int .u8 c.toNat] w fun e w'=>e=.returned (.bool (jo l c))/\Below w.heap.size w w':=by
 have ht:=aD l;have KN:=BC l w (by omega);have KT:=iA l w E.types;have KP:=ry l w h E;have KS:=fun w'=>BC ((bR l).getD ([],0)).1 w' (by
  cases hs:bR l with
  |none=>simp
  |some x=>
   have:x.1.length<=l.length:=by
    have h1:x.1=(cD l).1:=by
     rw[bR]at hs;split at hs
     ·cases hs;rfl
     ·repeat (first|(split at hs;(cases hs;rfl))|cases hs)
    rw[h1];cases hc:(cD l).2 with
    |none=>rw[(mW hc).1];exact jC _
    |some t=>have:=congrArg List.length (mX hc).1;simp at this;omega
   simp;omega)
 have K1:=vS l w (by omega) E;have K2:=yF l w (by omega) E;have K3:=AJ l w (by omega) E;have rf:=Below.refl w.heap.size w;rw[Gq];by_cases h1:((c.toNat:Int)==100)=true\/((c.toNat:Int)==105)=true\/((c.toNat:Int)==111)=true
 ·rw[jb h1];clear KT KP KS K1 K2 K3;have TN:((c.toNat:Int)==100)=true\/(((c.toNat:Int)==100)=false/\((c.toNat:Int)==105)=true)\/(((c.toNat:Int)==100)=false/\((c.toNat:Int)==105)=false/\((c.toNat:Int)==111)=true):=SN h1;clear h1;rcases TN with h1|⟨h1,h2⟩|⟨h1,h2,h3⟩
  all_goals
   go_enter Tryz.func197,Tryz.ntmps197
   go_wp2_with (go_at_call 226;refine KN.mono ?_;rintro e w1 ⟨rfl,rfl⟩)
   go_ret
   exact⟨rfl,rf⟩
 ·rw[ja h1];simp only[not_or,Bool.not_eq_true]at h1;obtain⟨a1,a2,a3⟩:=h1;by_cases h2:((c.toNat:Int)==116)=true
  ·rw[jb h2];clear KN KP KS K1 K2 K3;go_enter Tryz.func197,Tryz.ntmps197
   go_wp2_with (go_at_call 169;refine KT.mono ?_;rintro e w1 ⟨rfl,hb⟩)
   go_ret
   exact⟨rfl,hb⟩
  ·rw[ja h2];rw[Bool.not_eq_true]at h2;by_cases h3:((c.toNat:Int)==112)=true\/((c.toNat:Int)==109)=true
   ·rw[jb h3];clear KN KT K1 K2 K3;have Zl:((c.toNat:Int)==112)=true\/(((c.toNat:Int)==112)=false/\((c.toNat:Int)==109)=true):=SO h3;clear h3;cases hs:(bR l).isSome
    all_goals
     rw[hs]at KP;rcases Zl with h3|⟨h3,h4⟩
     all_goals
      go_enter Tryz.func197,Tryz.ntmps197
      go_wp2_with (first|(go_at_call 206;refine KP.mono ?_;rintro e w1 ⟨rfl,hb⟩)|(go_at_call 226;refine(KS _).mono ?_;rintro e w2 ⟨rfl,rfl⟩))
      go_ret
      exact⟨rfl,hb⟩
   ·rw[ja h3];simp only[not_or,Bool.not_eq_true]at h3;obtain⟨a4,a5⟩:=h3;by_cases h4:((c.toNat:Int)==35)=true
    ·rw[jb h4];clear KN KT KP KS K2 K3;go_enter Tryz.func197,Tryz.ntmps197
     go_wp2_with (go_at_call 203;refine K1.mono ?_;rintro e w1 ⟨rfl,hb⟩)
     go_ret
     exact⟨rfl,hb⟩
    ·rw[ja h4];rw[Bool.not_eq_true]at h4;by_cases h5:((c.toNat:Int)==98)=true
     ·rw[jb h5];clear KN KT KP KS K1 K3;go_enter Tryz.func197,Tryz.ntmps197
      go_wp2_with (go_at_call 205;refine K2.mono ?_;rintro e w1 ⟨rfl,hb⟩)
      go_ret
      exact⟨rfl,hb⟩
     ·rw[ja h5];rw[Bool.not_eq_true]at h5;by_cases h6:((c.toNat:Int)==102)=true
      ·rw[jb h6];clear KN KT KP KS K1 K2;go_enter Tryz.func197,Tryz.ntmps197
       go_wp2_with (go_at_call 204;refine K3.mono ?_;rintro e w1 ⟨rfl,hb⟩)
       go_ret
       exact⟨rfl,hb⟩
      ·rw[ja h6];rw[Bool.not_eq_true]at h6;clear KN KT KP KS K1 K2 K3;by_cases h7:((c.toNat:Int)==118)=true
       ·rw[jb h7];cases b1:(l==[48])
        all_goals
         go_enter Tryz.func197,Tryz.ntmps197
         go_wp2
         all_goals
          go_ret
          exact⟨rfl,rf⟩
       ·rw[ja h7];rw[Bool.not_eq_true]at h7;go_enter Tryz.func197,Tryz.ntmps197
        go_wp2
        go_ret
        exact⟨rfl,rf⟩
end PrjI
namespace PrjJ
open Go Go.RowKit Sq Aux PrjF PrjG PrjH PrjI
theorem xj (c:UInt8):∀(a:B),¬c∈a->split c a=[a]
 |[],_=>rfl
 |x::a,h=>by
  simp only[List.mem_cons,not_or]at h;rw[split,ja (fun e=>h.1 e.symm),xj c a h.2];rfl
theorem yi (c:UInt8):∀(a t:B),¬c∈a->split c (a++c::t)=a::split c t
 |[],t,_=>by simp[split]
 |x::a,t,h=>by
  simp only[List.mem_cons,not_or]at h;rw[jW,split,ja (fun e=>h.1 e.symm),yi c a t h.2];rfl
theorem oi (c:UInt8):∀(l:B),(split c l).length=l.count c+1
 |[]=>rfl
 |x::l=>by
  rw[split];split
  ·rename_i h;subst h;simp[oi x l]
  ·rename_i h;have:=oi c l;rw[List.count_cons_of_ne (fun e=>h e)];cases hs:split c l with
   |nil=>rw[hs]at this;simp at this
   |cons a b=>rw[hs]at this;simpa [eS]using this
theorem De {c:UInt8}{l:B}{i:Nat}:((bs l).extract 0 (i+0))=bs (l.take i)/\((bs l).extract (i+(⟨#[c]⟩:ByteArray).size) (bs l).size)=bs (l.drop (i+1)):=by
 constructor
 ·rw[extract_eq,aD];simp
 ·rw[extract_eq,aD];have:(⟨#[c]⟩:ByteArray).size=1:=rfl;rw[this,dQ,List.take_of_length_le (by simp)]
theorem pY (c:UInt8):∀(k:Nat) (l:B),(Lib.splitB ⟨#[c]⟩ 0 k (bs l)).length=min (k+1) (split c l).length/\
  (∀j,j<k->j<(split c l).length->(Lib.splitB ⟨#[c]⟩ 0 k (bs l))[j]?=some (bs (word (split c l) j)))/\((split c l).length<=k+1->Lib.splitB ⟨#[c]⟩ 0 k (bs l)=(split c l).map bs)
 |0,l=>by
  have h1:=oi c l;refine⟨by simp[Lib.splitB];omega,fun j hj=>absurd hj (by omega),fun h=> ?_⟩;have:¬c∈l:=fun e=>by have:=List.count_pos_iff.mpr e;omega
  rw[xj c l this];rfl
 |k+1,l=>by
  have hx:Lib.indexB (bs l) ⟨#[c]⟩=Lib.index l [c]:=by simp[Lib.indexB,bs]
  rcases pH c l with⟨h1,h2⟩|⟨i,h1,h2,h3,h4⟩
  ·rw[Lib.splitB_miss _ _ _ _ (by rw[hx,h1]),xj c l h2];refine⟨by simp,fun j hj hl=> ?_,fun _=>rfl⟩;have:j=0:=by simpa using hl
   subst this;rfl
  ·obtain⟨e1,e2⟩:=De (c:=c) (l:=l) (i:=i);rw[Lib.splitB_hit _ _ _ _ i (by rw[hx,h1]),e1,e2];have hs:split c l=l.take i::split c (l.drop (i+1)):=(congrArg (split c) h3).trans (yi c _ _ h4);obtain⟨a1,a2,a3⟩:=pY c k (l.drop (i+1));rw[hs];refine⟨?_,fun j hj hl=> ?_,fun h=> ?_⟩
   ·simp only[List.length_cons,a1];omega
   ·cases j with
    |zero=>rfl
    |succ j=>
     rw[List.getElem?_cons_succ,a2 j (by omega) (by simpa using hl)];rfl
   ·rw[a3 (by simp at h;omega)];rfl
theorem Ea (c:UInt8):∀(n:Nat) (l:B),l.length<=n->Lib.countB (bs l) ⟨#[c]⟩+1=(split c l).length:=by
 intro n;induction n with
 |zero=>
  intro l hl;have:l=[]:=List.eq_nil_of_length_eq_zero (by omega);subst this;rw[Lib.countB_miss (bs []) ⟨#[c]⟩ (by rfl)];rfl
 |succ n ih=>
  intro l hl;have hx:Lib.indexB (bs l) ⟨#[c]⟩=Lib.index l [c]:=by simp[Lib.indexB,bs]
  rcases pH c l with⟨h1,h2⟩|⟨i,h1,h2,h3,h4⟩
  ·rw[Lib.countB_miss _ _ (by rw[hx,h1]),xj c l h2];rfl
  ·obtain⟨e1,e2⟩:=De (c:=c) (l:=l) (i:=i);rw[Lib.countB_hit (bs l) ⟨#[c]⟩ i (jC 1) (by rw[hx,h1]),e2];have hs:split c l=l.take i::split c (l.drop (i+1)):=(congrArg (split c) h3).trans (yi c _ _ h4);have:=ih (l.drop (i+1)) (by simp;omega);rw[hs,jY];omega
def fN (w:World)(v:Value)(L:List B):Prop:=
 ∃g o cap,v=.slice (some ⟨g,o,none⟩) L.length cap/\L.length<=cap/\(∃cs f,w.heap[g]?=some (.cells cs 9 f))/\∀j,j<L.length->w.cell? ⟨g,o+j,none⟩=some (.string (bs (word L j)))
theorem lt_of_heap {w:World}{g:Nat}{x:Obj}(h:w.heap[g]?=some x):g<w.heap.size:=by
 rw[Array.getElem?_eq_some_iff]at h;exact h.1
theorem fN.below {w w':World}{v:Value}{L:List B}(h:fN w v L)(hb:Below w.heap.size w w'):fN w' v L:=by
 obtain⟨g,o,cap,rfl,hc,⟨cs,f,hg⟩,aC⟩:=h;have aK:=lt_of_heap hg;exact⟨g,o,cap,rfl,hc,⟨cs,f,(hb.block g aK).trans hg⟩,fun j hj=>(hb.cell (p:=⟨g,o+j,none⟩) aK).trans (aC j hj)⟩
theorem yt (op:Nat)(h:op<23):(ae op).length<=3:=by
 have:∀op:Fin 23,(ae op.val).length<=3:=by decide
 exact this ⟨op,h⟩
theorem L1 (l:B)(w:World)(h:l.length<=1048576)(E:Env w):
  Calls Tryz.prog 195 #[.string (bs l),.string ⟨#[32]⟩,.int .i64 5] w fun e w'=>∃g cap,e=.returned (.slice (some ⟨g,0,none⟩) (min 5 (split 32 l).length) cap)/\min 5 (split 32 l).length<=cap/\(cap<=5/\(l≠[]->2<=cap))/\g<w'.heap.size/\w.heap.size<=g/\Below w.heap.size w w'/\
   w'.cell? ⟨g,0,none⟩=some (.string (bs (word (split 32 l) 0)))/\((split 32 l).length<=4->∀j,j<(split 32 l).length->w'.cell? ⟨g,j,none⟩=some (.string (bs (word (split 32 l) j))))/\(∃cs f,w'.heap[g]?=some (.cells cs 9 f)):=by
 obtain⟨m,hm⟩:=E.OY;have K:=Tryz.strings_SplitN (bs l) ⟨#[32]⟩ 5 m w (by rw[dQ];omega) hm (by decide) (by decide) (by decide);refine K.mono ?_;rintro e w' ⟨rfl,rfl⟩;rw[dQ];have yU:=lP 32 l;have h1:=fv 32 l;have hk:min 5 (l.length+1)-1+1=min 5 (l.length+1):=by omega
 obtain⟨a1,a2,a3⟩:=pY 32 (min 5 (l.length+1)-1) l;have hlen:(Lib.splitB ⟨#[32]⟩ 0 (min 5 (l.length+1)-1) (bs l)).length=min 5 (split 32 l).length:=by rw[a1];omega
 have aC:∀j,j<min 5 (split 32 l).length->(w.alloc (.cells (Lib.cellsOf (Lib.splitB ⟨#[32]⟩ 0 (min 5 (l.length+1)-1) (bs l)) (min 5 (l.length+1))) 9)).cell? ⟨w.heap.size,j,none⟩=(Lib.splitB ⟨#[32]⟩ 0 (min 5 (l.length+1)-1) (bs l))[j]?.map Value.string:=by
  intro j hj;have:(w.alloc (.cells (Lib.cellsOf (Lib.splitB ⟨#[32]⟩ 0 (min 5 (l.length+1)-1) (bs l)) (min 5 (l.length+1))) 9)).heap[w.heap.size]?=some (.cells (Lib.cellsOf (Lib.splitB ⟨#[32]⟩ 0 (min 5 (l.length+1)-1) (bs l)) (min 5 (l.length+1))) 9 (0,0)):=by show(w.heap.push _)[w.heap.size]?=_;simp
  simp only[World.cell?,this];unfold Lib.cellsOf;simp only[List.getElem?_toArray];rw[jg (by simp;omega),jJ];rfl
 refine⟨w.heap.size,min 5 (l.length+1),by rw[hlen],by omega,⟨by omega,fun hl=>by have:l.length≠0:=fun e=>hl (List.eq_nil_of_length_eq_zero e);omega⟩,by simp,jC _,(Below.refl _ _).alloc (jC _) _,?_,fun h4 j hj=> ?_,⟨_,_,(show(w.heap.push _)[w.heap.size]?=_ from jD)⟩⟩
 ·rw[aC 0 (by omega)];by_cases hk0:0<min 5 (l.length+1)-1
  ·rw[a2 0 hk0 (by omega)];rfl
  ·have zL:l=[]:=List.eq_nil_of_length_eq_zero (by omega);subst zL;rfl
 ·rw[aC j (by omega),a3 (by omega),jJ];simp[word,hj]
def iR (w:World)(b:Nat):Prop:=w.heap[b]?=some (.cells #[.int .i64 0,.slice none 0 0] 240 (0,0))
theorem iR.new (w:World):iR (w.alloc (.cells #[.int .i64 0,.slice none 0 0] 240)) w.heap.size:=by
 unfold iR;show(w.heap.push _)[w.heap.size]?=_;simp
theorem iR.lt {w:World}{b:Nat}(h:iR w b):b<w.heap.size:=by
 unfold iR at h;rw[Array.getElem?_eq_some_iff]at h;exact h.1
theorem iR.below {w w':World}{b:Nat}(h:iR w b)(hb:Below w.heap.size w w'):iR w' b:=by
 unfold iR;rw[hb.block b h.lt];exact h
theorem iR.facts {w:World}{b:Nat}(h:iR w b):w.cell? ⟨b,0,none⟩=some (.int .i64 0)/\w.cell? ⟨b,1,none⟩=some (.slice none 0 0)/\w.frozen? ⟨b,0,none⟩=false/\w.frozen? ⟨b,1,none⟩=false:=by
 unfold iR at h;exact⟨by rw[cell_of_heap h];rfl,by rw[cell_of_heap h];rfl,frozen_of_heap h 0,frozen_of_heap h 1⟩
def mc (l:B)(w:World)(e:Ending)(w':World):Prop:=
 Below w.heap.size w w'/\match eP (split 32 l)with
  |none=>e=.returned (.tuple #[.agg #[.int .i64 0,.slice none 0 0],.bool false])
  |some x=>∃v,e=.returned (.tuple #[.agg #[.int .i64 (x.1:Nat),v],.bool true])/\fN w' v x.2
theorem PX {w:World}{b:Nat}(r:iR w b)(x y:Value):((w.setCell ⟨b,0,none⟩ x).setCell ⟨b,1,none⟩ y).rangeAt b 0 [x,y]:=by
 unfold iR at r;have h1:=Go.Proofs.YtmlgajhhnojdjaaGreatDoor.Aux.heap_setCell_same r 0 x;have h2:=Go.Proofs.YtmlgajhhnojdjaaGreatDoor.Aux.heap_setCell_same h1 1 y;intro j v hv;rw[cell_of_heap h2]
 match j,hv with
 |0,hv=>simpa using hv
 |1,hv=>simpa using hv
theorem NF {w w2:World}{b:Nat}(hb:Below w.heap.size w w2)(h:w.heap.size<=b)(x y:Value):Below w.heap.size w ((w2.setCell ⟨b,0,none⟩ x).setCell ⟨b,1,none⟩ y):=by
 refine⟨hb.os,hb.tape,hb.output,by simpa using hb.size,fun k hk=> ?_⟩;rw[Below.heap_setCell _ _ _ _ (by show k≠b;omega),Below.heap_setCell _ _ _ _ (by show k≠b;omega)];exact hb.block k hk
theorem Ct:(Tryz.prog.info? 240).map (·.size)=some 2:=by kernel_rfl
theorem xg {l:B}{w w2:World}{tmps:Array Value}{x y:Value}{bl:Bool}(h2:tmps.getD 2 undef=.pointer (some ⟨w.heap.size,0,none⟩))(h3:tmps.getD 3 undef=.bool bl)(r:iR w2 w.heap.size)(hb:Below w.heap.size w w2)
  (P:∀w3,Below w.heap.size w w3->(∀k,k≠w.heap.size->w3.heap[k]?=w2.heap[k]?)->w3.heap.size=w2.heap.size->mc l w (.returned (.tuple #[.agg #[x,y],.bool bl])) w3):
  bodyPost Tryz.prog Tryz.f163 (mc l w) Exit.ret {tmps:=tmps,defers:=[]} ((w2.setCell ⟨w.heap.size,0,none⟩ x).setCell ⟨w.heap.size,1,none⟩ y):=by
 refine bodyPost_ret (eF Tryz.results163 tmps _ _ w.heap.size [x,y] _ h2 (PX r x y) Tryz.underlying240 rfl Ct) rfl ?_;rw[h3];refine P _ (NF hb (jC _) x y) (fun k hk=> ?_) (by simp);rw[Below.heap_setCell _ _ _ _ (by show k≠_;exact hk),Below.heap_setCell _ _ _ _ (by show k≠_;exact hk)]
theorem Tj (op:Nat)(h:op<23):gm[op*2+1]?=some (.string (bs (ae op))):=by
 have h:op=0\/op=1\/op=2\/op=3\/op=4\/op=5\/op=6\/op=7\/op=8\/op=9\/op=10\/op=11\/op=12\/op=13\/op=14\/op=15\/op=16\/op=17\/op=18\/op=19\/op=20\/op=21\/op=22:=by omega
 rcases h with rfl|rfl|rfl|rfl|rfl|rfl|rfl|rfl|rfl|rfl|rfl|rfl|rfl|rfl|rfl|rfl|rfl|rfl|rfl|rfl|rfl|rfl|rfl<;>rfl
theorem pX {w:World}(E:Env w)(op:Nat)(h:op<23):w.cell? ⟨0,op*2+1,none⟩=some (.string (bs (ae op))):=by
 have:=E.Tk (op*2+1) (.string (bs (ae op))) (Tj op h);simpa using this
set_option maxRecDepth 20000 in
theorem BJ (l:B)(w:World)(h:l.length<=1048576)(E:Env w):
  Calls Tryz.prog 163 #[.string (bs l)] w (mc l w):=by
 have KS:=fun w' (E':Env w')=>L1 l w' h E'
 have E1:=E.on ((Below.refl _ _).alloc (jC _) (.cells #[.int .i64 0,.slice none 0 0] 240));have av:Below w.heap.size w (w.alloc (.cells #[.int .i64 0,.slice none 0 0] 240)):=(Below.refl _ _).alloc (jC _) _;have lv:(w.alloc (.cells #[.int .i64 0,.slice none 0 0] 240)).heap.size=w.heap.size+1:=by simp
 have KO:=fun w' (E':Env w')=>SK (word (split 32 l) 0) w' E'.Tk
 have h1:=fv 32 l;cases ho:fD (word (split 32 l) 0)with
 |none=>
  have hx:eP (split 32 l)=none:=by rw[eP,ho]
  have P:∀w',Below w.heap.size w w'->mc l w (.returned (.tuple #[.agg #[.int .i64 0,.slice none 0 0],.bool false])) w':=fun w' hb=>⟨hb,by rw[hx]⟩
  rw[ho]at KO;go_enter Tryz.func163,Tryz.ntmps163
  go_wp2_with (first|(go_at_call 195;refine(KS _ E1).mono ?_;rintro e w1 ⟨g,cap,rfl,ko,mZ,hg,TZ,hb,mY,zJ,csg,fg,X3⟩;have r1:=(iR.new w).below hb)|(go_at_call 196;refine(KO _ (E1.on hb)).mono ?_;rintro e w2 ⟨rfl,bT⟩;obtain⟨rc0,rc1,rf0,rf1⟩:=(r1.below bT).facts))
  refine xg rfl rfl (r1.below bT) ((av.trans (hb.mono (by omega))).trans (bT.mono ?_)) (fun w3 h3 _ _=>P w3 h3);have:=hb.size;omega
 |some op=>
  have aw:=oW ho;have Va:=yt op aw;rw[ho]at KO;have zL:l≠[]:=by rintro rfl;have:fD (word (split 32 []) 0)=none:=rfl;rw[this]at ho;cases ho
  have GR:∀j,(word (split 32 l) j).length<=1048576:=fun j=>jS (eM 32 l j) h
  by_cases hlen:(split 32 l).length-1=(ae op).length
  ·have hmin:min 5 (split 32 l).length=(ae op).length+1:=by omega
   have hl4:(split 32 l).length<=4:=by omega
   have UX:(split 32 l).length=(ae op).length+1:=by omega
   rw[hmin]at KS;have hx:Hid (eP (split 32 l)=if bg (ae op) ((split 32 l).drop 1)=true then some (op,(split 32 l).drop 1)else none):=by
    unfold Hid;rw[eP,ho];simp only[hlen,true_and]
   have HF:Hid (bg (ae op) ((split 32 l).drop 1)=bg ((ae op).drop 0) ((split 32 l).drop (0+1))):=rfl;clear hmin hlen;go_enter Tryz.func163,Tryz.ntmps163
   go_wp2_with (first|(go_at_call 195;refine(KS _ E1).mono ?_;rintro e w1 ⟨g,cap,rfl,ko,mZ,hg,TZ,hb,mY,zJ,csg,fg,X3⟩;have r1:=(iR.new w).below hb;have kL:¬cap=1:=(by have:=mZ.2 zL;omega))|(go_at_call 196;refine(KO _ (E1.on hb)).mono ?_;rintro e w2 ⟨rfl,bT⟩;obtain⟨rc0,rc1,rf0,rf1⟩:=(r1.below bT).facts;have Cr:=pX ((E1.on hb).on bT) op aw))
   have hB:Below w.heap.size w w2:=(av.trans (hb.mono (by omega))).trans (bT.mono (by have:=hb.size;omega));have r2:=r1.below bT;have E2:=(E1.on hb).on bT;have Rp:∀j,j<(split 32 l).length->w2.cell? ⟨g,j,none⟩=some (.string (bs (word (split 32 l) j))):=fun j hj=>(bT.cell (p:=⟨g,j,none⟩) hg).trans (zJ hl4 j hj)
   have Ki:g<w2.heap.size:=jK hg bT.size;have htag2:w2.heap[g]?=some (.cells csg 9 fg):=(bT.block g hg).trans X3;clear KS KO zJ mY rc0 rc1 rf0 rf1 Cr;go_loopw [36] (fun i wr=>∃k:Nat,k<=(ae op).length/\i=.int .i64 k/\Hid (bg (ae op) ((split 32 l).drop 1)=bg ((ae op).drop k) ((split 32 l).drop (k+1)))/\Below w2.heap.size w2 wr) (fun i _=>(ae op).length-(intOf i).toNat)
   case atStart=>exact⟨0,jQ _,rfl,HF,Below.refl _ _⟩
   case round=>
    obtain⟨k,hk,rfl,HI,FA⟩:=hrel;have rr:=r2.below FA;obtain⟨rc0,rc1,rf0,rf1⟩:=rr.facts;have Jm:Below w.heap.size w wr:=hB.trans (FA.mono (by have:=hB.size;omega));by_cases aK:k<(ae op).length
    ·have TW:wr.cell? ⟨g,1+k,none⟩=some (.string (bs (word (split 32 l) (k+1)))):=by
      rw[FA.cell (p:=⟨g,1+k,none⟩) Ki,Nat.add_comm 1 k];exact Rp (k+1) (by omega)
     have KF:=EB (word (split 32 l) (k+1)) ((ae op)[k]) wr (GR _) (E2.on FA);have HS:Hid (bg ((ae op).drop k) ((split 32 l).drop (k+1))=(jo (word (split 32 l) (k+1)) (ae op)[k]&&bg ((ae op).drop (k+1)) ((split 32 l).drop (k+2)))):=by
      unfold Hid;rw[jE aK,bg,List.drop_drop];simp[word]
     cases hf:jo (word (split 32 l) (k+1)) (ae op)[k]
     ·rw[hf]at KF;have hn:eP (split 32 l)=none:=by
       rw[hx.out,ja];rw[HI.out,HS.out,hf];simp
      clear hf;go_wp2_with (go_at_call 197;refine KF.mono ?_;rintro e w3 ⟨rfl,lI⟩;obtain⟨sc0,sc1,sf0,sf1⟩:=(rr.below lI).facts)
      refine xg rfl rfl (rr.below lI) (Jm.trans (lI.mono (by have:=Jm.size;omega))) (fun w4 h4 _ _=>⟨h4,by rw[hn]⟩)
     ·rw[hf]at KF;have Oi:Hid (bg ((ae op).drop k) ((split 32 l).drop (k+1))=bg ((ae op).drop (k+1)) ((split 32 l).drop (k+2))):=by
       unfold Hid;rw[HS.out,hf,Bool.true_and]
      clear hf;go_wp2_with (go_at_call 197;refine KF.mono ?_;rintro e w3 ⟨rfl,lI⟩)
      go_roundw
      case rel=>exact⟨k+1,by omega,by go_num,by unfold Hid;rw[HI.out,Oi.out],FA.trans (lI.mono FA.size)⟩
      case measure=>simp[intOf];omega
    ·have Oi:eP (split 32 l)=some (op,(split 32 l).drop 1):=by
      rw[hx.out,jb];rw[HI.out,show k=(ae op).length by omega,List.drop_length];rfl
     go_wp2
     have ZX:g≠w.heap.size:=by omega
     refine xg rfl rfl rr Jm (fun w4 h4 hk4 hz4=>⟨h4,?_⟩);rw[Oi];refine⟨_,rfl,g,1,cap-1,?_,?_,?_,fun j hj=> ?_⟩
     ·simp only[List.length_drop,UX,Nat.add_sub_cancel]
     ·simp only[List.length_drop,UX,Nat.add_sub_cancel];omega
     ·exact⟨csg,fg,by rw[hk4 g ZX,FA.block g Ki];exact htag2⟩
     ·simp only[List.length_drop]at hj;have:w4.cell? ⟨g,1+j,none⟩=wr.cell? ⟨g,1+j,none⟩:=by
       simp only[World.cell?,hk4 g ZX]
      rw[this,FA.cell (p:=⟨g,1+j,none⟩) Ki,Rp (1+j) (by omega)];simp[word,Nat.add_comm 1 j]
  ·have hx:eP (split 32 l)=none:=by
    rw[eP,ho];simp only[hlen,false_and,if_false]
   have P:∀w',Below w.heap.size w w'->mc l w (.returned (.tuple #[.agg #[.int .i64 0,.slice none 0 0],.bool false])) w':=fun w' hb=>⟨hb,by rw[hx]⟩
   obtain⟨n,hn⟩:∃n,min 5 (split 32 l).length=n+1:=⟨min 5 (split 32 l).length-1,by omega⟩;have ea:¬n=(ae op).length:=by omega
   rw[hn]at KS;have Km:((n:Int)==((ae op).length:Int))=false:=by rw[jZ];omega
   clear hlen hx hn;go_enter Tryz.func163,Tryz.ntmps163
   go_wp2_with (first|(go_at_call 195;refine(KS _ E1).mono ?_;rintro e w1 ⟨g,cap,rfl,ko,mZ,hg,TZ,hb,mY,zJ,csg,fg,X3⟩;have r1:=(iR.new w).below hb;have kL:¬cap=1:=(by have:=mZ.2 zL;omega))|(go_at_call 196;refine(KO _ (E1.on hb)).mono ?_;rintro e w2 ⟨rfl,bT⟩;obtain⟨rc0,rc1,rf0,rf1⟩:=(r1.below bT).facts;have Cr:=pX ((E1.on hb).on bT) op aw))
   refine xg rfl rfl (r1.below bT) ((av.trans (hb.mono (by omega))).trans (bT.mono ?_)) (fun w3 h3 _ _=>P w3 h3);have:=hb.size;omega
end PrjJ
end Go.Proofs.YtmlgajhhnojdjaaGreatDoor

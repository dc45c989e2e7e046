import Derived.Test.YtmlgajhhnojdjaaGreatDoorVBA
namespace Go.Proofs.YtmlgajhhnojdjaaGreatDoor
namespace PrjW
open Go Go.RowKit Sq Aux PrjF PrjG PrjH PrjI PrjJ PrjK PrjL PrjM PrjN PrjO PrjP PrjQ PrjR PrjS PrjT PrjU PrjV
structure xY (z a:Nat)(w:World)(q:QP):Prop where
 at_:∃vl vb us vss,fe z a w q vl vb us vss
 ok:∃nb,nb<=4000/\vZ nb q
 locals:q.locals.length<=4000
 blocks:q.blocks.length<=4000
 lines:∀j,(q.blocks.getD j []).length<=4000
def cN (text:B)(raw:Bool)(w:World)(e:Ending)(w':World):Prop:=
 Below w.heap.size w w'/\∃v,e=.returned (.tuple #[v,.int .i64 ((ax text raw).2.1:Nat),.int .i64 ((ax text raw).2.2:Nat)])/\
  (((ax text raw).1=none/\v=.pointer none)\/∃q a z,(ax text raw).1=some q/\v=.pointer (some ⟨a,0,none⟩)/\w.heap.size<=z/\xY z a w' q)
theorem cN.bad {text:B}{raw:Bool}{w w':World}{c k:Nat}(hb:Below w.heap.size w w')(h:ax text raw=(none,c,k)):cN text raw w (.returned (.tuple #[.pointer none,.int .i64 (c:Nat),.int .i64 (k:Nat)])) w':=
 ⟨hb,.pointer none,by rw[h],.inl ⟨by rw[h],rfl⟩⟩
theorem cN.B8 {text:B}{raw:Bool}{w w':World}{q:QP}{a z:Nat}(hb:Below w.heap.size w w')(h:ax text raw=(some q,0,0))(hz:w.heap.size<=z)(hg:xY z a w' q):cN text raw w (.returned (.tuple #[.pointer (some ⟨a,0,none⟩),.int .i64 0,.int .i64 0])) w':=
 ⟨hb,.pointer (some ⟨a,0,none⟩),by rw[h];rfl,.inr ⟨q,a,z,by rw[h],rfl,hz,hg⟩⟩
section
variable {text:B} {raw:Bool}
theorem Gg (h:(split 10 text).length>(if raw then 4000 else 120)):ax text raw=(none,1,0):=by rw[ax,jb h]
theorem Ge (h:¬(split 10 text).length>(if raw then 4000 else 120)){k:Nat}(hs:(ar raw (ba text) ⟨0,0,0⟩ 0).2.2=some k):ax text raw=(none,2,k):=by
 rw[ax,ja h,hs]
theorem C3 (h:¬(split 10 text).length>(if raw then 4000 else 120)){S:List (Nat×List B)}{o:di}(hs:ar raw (ba text) ⟨0,0,0⟩ 0=(S,o,none))(ho:¬o.sec=2):ax text raw=(none,2,(split 10 text).length):=by
 rw[ax,ja h,hs];simp only;rw[jb ho]
theorem Gi (h:¬(split 10 text).length>(if raw then 4000 else 120)){S:List (Nat×List B)}{o:di}(hs:ar raw (ba text) ⟨0,0,0⟩ 0=(S,o,none))(ho:o.sec=2){k:Nat}(hl:(aJ (countB S) S 0 QP.empty).2=some k):ax text raw=(none,3,k):=by
 rw[ax,ja h,hs];simp only;rw[ja (by simp[ho]),hl]
theorem Gj (h:¬(split 10 text).length>(if raw then 4000 else 120)){S:List (Nat×List B)}{o:di}(hs:ar raw (ba text) ⟨0,0,0⟩ 0=(S,o,none))(ho:o.sec=2){q:QP}(hl:aJ (countB S) S 0 QP.empty=(q,none)){k:Nat}(hm:q.misfit=some k):ax text raw=(none,4,k):=by
 rw[ax,ja h,hs];simp only;rw[ja (by simp[ho]),hl];simp only;rw[hm]
theorem Gf (h:¬(split 10 text).length>(if raw then 4000 else 120)){S:List (Nat×List B)}{o:di}(hs:ar raw (ba text) ⟨0,0,0⟩ 0=(S,o,none))(ho:o.sec=2){q:QP}(hl:aJ (countB S) S 0 QP.empty=(q,none))(hm:q.misfit=none):ax text raw=(some q,0,0):=by
 rw[ax,ja h,hs];simp only;rw[ja (by simp[ho]),hl];simp only;rw[hm]
end
theorem xY.make {z a nb:Nat}{w:World}{S:List (Nat×List B)}{q:QP}(hn:nb=countB S)(hS:rU S)(hl:aJ nb S 0 QP.empty=(q,none)){vl vb:Value}{us:List Value}{vss:List (List (Value×Value))}(hp:fe z a w q vl vb us vss):xY z a w q:=by
 have h1:=iR nb S 0 0 QP.empty q hl (fun b hb=>by simp[QP.empty]at hb);have h2:=kb nb S 0 QP.empty q hl (fun x hx=>by
  obtain⟨j,hj,rfl⟩:=List.getElem_of_mem hx;have:=hS.op j hj;simpa [List.getD_eq_getElem?_getD,hj]using this) ⟨fun x hx=>by simp[QP.empty]at hx,fun b hb=>by simp[QP.empty]at hb⟩
 have rG:=hS.jt;simp only[QP.empty,List.length_nil,Nat.zero_add]at h1;refine⟨⟨vl,vb,us,vss,hp⟩,⟨nb,by have:=countB_le S;omega,h2⟩,by omega,by omega,fun j=> ?_⟩;by_cases hj:j<q.blocks.length
 ·have:=h1.2.2 (q.blocks.getD j []) (by simp[hj]);omega
 ·rw[jA,jG (by omega)];simp
theorem Da {raw:Bool}{L:List B}{w w':World}{e:Ending}(h:cO raw L w e w'):∃v7 v8 v9,e=.returned (.tuple #[v7,v8,v9])/\cO raw L w (.returned (.tuple #[v7,v8,v9])) w':=by
 have h':=h;unfold cO at h;obtain⟨-,h⟩:=h;split at h
 ·subst h;exact⟨_,_,_,rfl,h'⟩
 ·obtain⟨v,vs,rfl,-⟩:=h;exact⟨_,_,_,rfl,h'⟩
theorem Bq {raw:Bool}{L:List B}{w w':World}{v7 v8 v9:Value}(h:cO raw L w (.returned (.tuple #[v7,v8,v9])) w'):Below w.heap.size w w'/\((∃k:Nat,(ar raw (L.map (split 32)) ⟨0,0,0⟩ 0).2.2=some k/\v7=.slice none 0 0/\v8=.int .i64 (k:Nat)/\v9=.bool false)\/
  ∃S o vs,ar raw (L.map (split 32)) ⟨0,0,0⟩ 0=(S,o,none)/\v8=.int .i64 (L.length:Nat)/\v9=.bool (decide (o.sec=2))/\bT w.heap.size w' v7 S vs):=by
 obtain⟨hb,h⟩:=h;refine⟨hb,?_⟩;generalize ar raw (L.map (split 32)) ⟨0,0,0⟩ 0=R at h⊢;obtain⟨S,o,x⟩:=R;cases x with
 |some k=>
  simp only[Ending.returned.injEq,Value.tuple.injEq,Array.mk.injEq,List.cons.injEq,and_true]at h;exact .inl ⟨k,rfl,h.1,h.2.1,h.2.2⟩
 |none=>
  obtain⟨v,vs,e,hs⟩:=h;simp only[Ending.returned.injEq,Value.tuple.injEq,Array.mk.injEq,List.cons.injEq,and_true]at e;obtain⟨rfl,h2,h3⟩:=e;exact .inr ⟨S,o,vs,rfl,h2,h3,hs⟩
theorem Fx {nb:Nat}{S:List (Nat×List B)}{w w':World}{e:Ending}(h:fb nb S w e w'):Below w.heap.size w w'/\((∃k:Nat,(aJ nb S 0 QP.empty).2=some k/\e=.returned (.tuple #[.pointer none,.int .i64 (k:Nat),.bool false]))\/∃q a vl vb us vss,aJ nb S 0 QP.empty=(q,none)/\e=.returned (.tuple #[.pointer (some ⟨a,0,none⟩),.int .i64 0,.bool true])/\fe w.heap.size a w' q vl vb us vss):=by
 obtain⟨hb,h⟩:=h;refine⟨hb,?_⟩;generalize aJ nb S 0 QP.empty=R at h⊢;obtain⟨q,x⟩:=R;cases x with
 |some k=>exact .inl ⟨k,rfl,h⟩
 |none=>
  obtain⟨a,vl,vb,us,vss,h1,h2⟩:=h;exact .inr ⟨q,a,vl,vb,us,vss,rfl,h1,h2⟩
theorem Fz {q:QP}{w w':World}{e:Ending}(h:fY q w e w'):Below w.heap.size w w'/\((∃k:Nat,q.misfit=some k/\e=.returned (.tuple #[.int .i64 (k:Nat),.bool true]))\/(q.misfit=none/\e=.returned (.tuple #[.int .i64 0,.bool false]))):=by
 obtain⟨hb,h⟩:=h;refine⟨hb,?_⟩;cases hm:q.misfit with
 |some k=>rw[hm]at h;exact .inl ⟨k,rfl,h⟩
 |none=>rw[hm]at h;exact .inr ⟨rfl,h⟩
theorem AQ {z g cap:Nat}{S:List (Nat×List B)}{vs:List Value}(w:World)(h:bT z w (.slice (some ⟨g,0,none⟩) S.length cap) S vs)(hS:rU S)(hg:g<w.heap.size)(gK:S.length<=cap)(E:Env w):
  Calls Tryz.prog 117 #[.slice (some ⟨g,0,none⟩) S.length cap] w fun e w'=>Below w.heap.size w w'/\((∃k:Nat,(aJ (countB S) S 0 QP.empty).2=some k/\e=.returned (.tuple #[.pointer none,.int .i64 (k:Nat),.bool false]))\/∃q a,aJ (countB S) S 0 QP.empty=(q,none)/\e=.returned (.tuple #[.pointer (some ⟨a,0,none⟩),.int .i64 0,.bool true])/\xY w.heap.size a w' q):=
 (CO w h hS hg gK E).mono fun e w' hl=>by
  obtain⟨h1,h2|⟨q,a,vl,vb,us,vss,h3,h4,h5⟩⟩:=Fx hl
  ·exact⟨h1,.inl h2⟩
  ·exact⟨h1,.inr ⟨q,a,h3,h4,xY.make rfl hS h3 h5⟩⟩
theorem AS {z a:Nat}{q:QP}(w:World)(h:xY z a w q)(E:Env w):
  Calls Tryz.prog 118 #[.pointer (some ⟨a,0,none⟩)] w fun e w'=>Below w.heap.size w w'/\((∃k:Nat,q.misfit=some k/\e=.returned (.tuple #[.int .i64 (k:Nat),.bool true]))\/(q.misfit=none/\e=.returned (.tuple #[.int .i64 0,.bool false]))):=by
 obtain⟨⟨vl,vb,us,vss,hP⟩,⟨nb,-,hq⟩,h1,h2,h3⟩:=h;exact(CQ q nb z a vl vb us vss w hP h1 hq h2 h3 E).mono fun e w' hm=>Fz hm
theorem xY.below {z a:Nat}{w w':World}{q:QP}(h:xY z a w q)(hb:Below w.heap.size w w'):xY z a w' q:=by
 obtain⟨⟨vl,vb,us,vss,hP⟩,h0,h1,h2,h3⟩:=h;exact⟨⟨vl,vb,us,vss,hP.below hb⟩,h0,h1,h2,h3⟩
set_option maxRecDepth 20000 in
set_option maxHeartbeats 2000000 in
theorem F0 (text:B)(raw:Bool)(w:World)(h:text.length<=1048576)(E:Env w):
  Calls Tryz.prog 72 #[.agg #[.bool raw,.int .i64 (if raw then 4000 else 120:Nat),.int .i64 (if raw then 2000 else 20:Nat)],.string (bs text)] w (cN text raw w):=by
 have Vf:=fun w' (hL:(split 10 text).length<=4000) (g cap:Nat) (hc:(split 10 text).length<=cap) (hg:g<w'.heap.size) (aQ:∀j,j<(split 10 text).length->w'.cell? ⟨g,j,none⟩=some (.string (bs (word (split 10 text) j)))) (E':Env w')=>
  Gp raw (if raw then 4000 else 120) g cap (split 10 text) w' hL hc hg aQ (fun j=>jS (fX 10 text j) h) E'
 have Lj:=fx 10 text;have KC:=fun w'=>zy text w'
 by_cases hlong:(split 10 text).length>(if raw then 4000 else 120)
 ·have hx:=Gg hlong;generalize (if raw then 4000 else 120:Nat)=ln at*;generalize (if raw then 2000 else 20:Nat)=mb at*;have NM:(ln:Int)<=(((split 10 text).length-1:Nat):Int):=by omega
  generalize (split 10 text).length-1=pf at*;have aO:Below w.heap.size w (w.alloc (.cells #[.bool raw,.int .i64 (ln:Nat),.int .i64 (mb:Nat)] 130)):=(Below.refl _ _).alloc (jC _) _;go_enter Tryz.func72,Tryz.ntmps72
  go_wp2
  go_quiet ((go_at_call 114;exact Calls.quiet_of_same (KC _)))
  go_wp2
  go_ret3
  exact cN.bad (below_drewN aO _) hx
 ·have hL:(split 10 text).length<=4000:=by cases raw<;>simp at hlong<;>omega
  have R1:=fun k=>Ge (raw:=raw) (text:=text) hlong (k:=k)
  have R2:=fun S o hs ho=>C3 (raw:=raw) (text:=text) hlong (S:=S) (o:=o) hs ho
  have R3:=fun S o hs ho k hl=>Gi (raw:=raw) (text:=text) hlong (S:=S) (o:=o) hs ho (k:=k) hl
  have R4:=fun S o hs ho q hl k hm=>Gj (raw:=raw) (text:=text) hlong (S:=S) (o:=o) hs ho (q:=q) hl (k:=k) hm
  have R5:=fun S o hs ho q hl hm=>Gf (raw:=raw) (text:=text) hlong (S:=S) (o:=o) hs ho (q:=q) hl hm
  have HR:Hid (_/\_/\_/\_/\_):=⟨R1,R2,R3,R4,R5⟩;clear R1 R2 R3 R4 R5;generalize (if raw then 4000 else 120:Nat)=ln at*;generalize (if raw then 2000 else 20:Nat)=mb at*;have NM:¬(ln:Int)<=(((split 10 text).length-1:Nat):Int):=by omega
  have aO:Below w.heap.size w (w.alloc (.cells #[.bool raw,.int .i64 (ln:Nat),.int .i64 (mb:Nat)] 130)):=(Below.refl _ _).alloc (jC _) _;have PI:Hid (_):=Lj;obtain⟨pf,NN⟩:∃pf,pf=(split 10 text).length-1:=⟨_,rfl⟩;rw[<-NN]at KC NM;clear NN hlong;go_enter Tryz.func72,Tryz.ntmps72
  go_wp2
  go_quiet ((go_at_call 114;exact Calls.quiet_of_same (KC _)))
  go_wp2
  have qj:=below_drewN aO nq;have d0:((w.alloc (.cells #[.bool raw,.int .i64 (ln:Nat),.int .i64 (mb:Nat)] 130)).drewN nq).heap[w.heap.size]?=some (.cells #[.bool raw,.int .i64 (ln:Nat),.int .i64 (mb:Nat)] 130 (0,0)):=jD;generalize ((w.alloc (.cells #[.bool raw,.int .i64 (ln:Nat),.int .i64 (mb:Nat)] 130)).drewN nq)=W at*;have NH:Below w.heap.size w W.drew:=⟨qj.os,qj.tape,qj.output,qj.size,qj.block⟩;have KL:=Fw text W.drew h (E.on NH);have e0:W.cell? ⟨w.heap.size,0,none⟩=some (.bool raw):=by rw[cell_of_heap d0];rfl
  have e1:W.cell? ⟨w.heap.size,1,none⟩=some (.int .i64 (ln:Nat)):=by rw[cell_of_heap d0];rfl
  have e2:W.cell? ⟨w.heap.size,2,none⟩=some (.int .i64 (mb:Nat)):=by rw[cell_of_heap d0];rfl
  have Um:=lt_of_heap d0;go_cut [7,8,9] (fun v7 v8 v9 wc=>∃w1,Below w.heap.size w w1/\cO raw (split 10 text) w1 (.returned (.tuple #[v7,v8,v9])) wc)
  case first=>
   go_region_with (first
    |(go_at_call 115;refine K1.mono ?_;rintro e w2 qm;obtain⟨v7,v8,v9,rfl,qm⟩:=Da qm)
    |(go_at_call 116;refine KL.mono ?_;rintro e w1 ⟨rfl,aB,NR,rX⟩;have Ss:w1.heap[w.heap.size]?=_:=(aB.block w.heap.size Um).trans d0;have c0:=(cell_of_heap Ss 0).trans (by rfl:_=some (Value.bool raw));have c1:=(cell_of_heap Ss 1).trans (by rfl:_=some (Value.int .i64 (ln:Nat)));have c2:=(cell_of_heap Ss 2).trans (by rfl:_=some (Value.int .i64 (mb:Nat)));have dk:Below w.heap.size w w1:=NH.trans (aB.mono NH.size);have K1:=Vf w1 hL W.heap.size (split 10 text).length (jC _) NR rX (E.on dk)))
   all_goals go_wp2_with fail
   all_goals
    go_meet
    case rel=>exact⟨w1,dk,qm⟩
  case rest=>
   obtain⟨w1,dk,qm⟩:=hcut;obtain⟨bu,H7⟩:=Bq qm;have dp:=dk.trans (bu.mono dk.size);obtain⟨R1,R2,R3,R4,R5⟩:=HR.out;clear HR Vf KC KL qm;rcases H7 with⟨k,hk,rfl,rfl,rfl⟩|⟨SS,o,vs,hs,rfl,rfl,Cf⟩
   ·have hx:=R1 k hk;clear R1 R2 R3 R4 R5 hk;go_wp2
    go_ret3
    exact cN.bad dp hx
   ·obtain⟨oF,hlen⟩:=Jf hs hL (fun j=>jS (fX 10 text j) h);by_cases ho:o.sec=2
    ·have Rl:decide (o.sec=2)=true:=by simp[ho]
     rw[Rl];obtain⟨g,cap,rfl,gK,hg⟩:=C7 Cf (by have:=PI.out;omega);have KU:=AQ wc Cf oF hg gK (E.on dp);have Q3:=fun k hl=>R3 SS o hs ho k hl
     have Q4:=fun q hl k hm=>R4 SS o hs ho q hl k hm
     have Q5:=fun q hl hm=>R5 SS o hs ho q hl hm
     have HQ:Hid (_/\_/\_):=⟨Q3,Q4,Q5⟩;clear R1 R2 R3 R4 R5 Q3 Q4 Q5 hs;have KM:=fun(q:QP) (a:Nat) (w3:World) (dR:Below wc.heap.size wc w3) (hG:xY wc.heap.size a w3 q)=>AS w3 hG ((E.on dp).on dR)
     generalize (aJ (countB SS) SS 0 QP.empty)=LK at*;clear Cf oF Lj hL hlen ho Rl e0 e1 e2 d0 NM;go_wp2_with (first
      |(go_at_call 117;refine KU.mono ?_;rintro e w3 ⟨dR,⟨k,hk,rfl⟩|⟨q,a,hq,rfl,hG⟩⟩)
      |(go_at_call 118;refine(KM q a w3 dR hG).mono ?_;rintro e w4 ⟨JP,⟨k,hk,rfl⟩|⟨hm,rfl⟩⟩))
     ·go_ret3
      exact cN.bad (dp.trans (dR.mono dp.size)) (HQ.out.1 k hk)
     ·go_ret3
      have vk:=dp.trans (dR.mono dp.size);exact cN.bad (vk.trans (JP.mono vk.size)) (HQ.out.2.1 q hq k hk)
     ·go_ret3
      have vk:=dp.trans (dR.mono dp.size);exact cN.B8 (vk.trans (JP.mono vk.size)) (HQ.out.2.2 q hq hm) dp.size (hG.below JP)
    ·have hx:=R2 SS o hs ho;have Rl:decide (o.sec=2)=false:=by simp[ho]
     rw[Rl];clear R1 R2 R3 R4 R5 hs ho Rl;go_wp2
     go_ret3
     exact cN.bad dp hx
end PrjW
namespace RefI
theorem QG:True:=trivial
end RefI
namespace RefJ
theorem QH:True:=trivial
end RefJ
namespace RefK
theorem QI:True:=trivial
end RefK
namespace RefL
theorem QJ:True:=trivial
end RefL
namespace RefN
theorem QL:True:=trivial
end RefN
namespace RefM
theorem QK:True:=trivial
end RefM
namespace PrjX
open Go Go.RowKit Sq Aux PrjF PrjG PrjJ PrjK PrjW RefM
set_option maxRecDepth 20000 in
theorem Gd (text:B)(w:World)(h:text.length<=1048576)(E:Env w):Calls Tryz.prog 53 #[.string (bs text)] w (cN text false w):=by
 have K:=F0 text false w h E
 replace K:=K.mono (R':=fun e w'=>∃v,e=.returned (.tuple #[v,.int .i64 ((ax text false).2.1:Nat),.int .i64 ((ax text false).2.2:Nat)])/\cN text false w (.returned (.tuple #[v,.int .i64 ((ax text false).2.1:Nat),.int .i64 ((ax text false).2.2:Nat)])) w') fun e w' hp=>by
  have rY:=hp;obtain⟨-,v,rfl,-⟩:=rY;exact⟨v,rfl,hp⟩
 generalize (ax text false).2.1=c1 at K;generalize (ax text false).2.2=c2 at K;have K2:Calls Tryz.prog 72 #[.agg #[.bool false,.int .i64 120,.int .i64 20],.string (bs text)] w _:=K;go_enter Tryz.func53,Tryz.ntmps53
 go_wp2_with (go_at_call 72;refine K2.mono ?_;rintro e w1 ⟨v,rfl,hp⟩)
 go_ret3
 exact hp
end PrjX
namespace FlwZ
open Go Go.RowKit Sq Aux PrjF PrjG PrjJ PrjK PrjM PrjS PrjW PrjX RefM FlwF FlwI FlwK FlwM FlwO FlwP FlwQ FlwR FlwV FlwX FlwY
theorem Bd {text:B}{raw:Bool}{c k:Nat}(h:ax text raw=(none,c,k)):1<=c/\bP text raw=(none,c,k):=by
 have hc:1<=c:=by
  by_cases hlong:(split 10 text).length>(if raw then 4000 else 120)
  ·rw[ax,jb hlong]at h;simp only[Prod.mk.injEq]at h;omega
  ·rw[ax,ja hlong]at h;split at h
   ·simp only[Prod.mk.injEq]at h;omega
   ·split at h
    ·simp only[Prod.mk.injEq]at h;omega
    ·split at h
     ·simp only[Prod.mk.injEq]at h;omega
     ·split at h
      ·simp only[Prod.mk.injEq]at h;omega
      ·cases h
 refine⟨hc,?_⟩;have h2:=(qx text raw).1;rw[h]at h2;simp only at h2;cases hr:bP text raw with
 |mk op ck=>
  rw[hr]at h2;simp only at h2;subst h2;cases op with
  |none=>rfl
  |some p=>have:=(kO hr).2.1;omega
theorem pQ {text:B}{raw:Bool}{q:QP}{c k:Nat}(h:ax text raw=(some q,c,k)):c=0/\k=0/\∃p,bP text raw=(some p,0,0)/\vz text raw p q:=by
 obtain⟨p,hb⟩:=Gh (text:=text) (raw:=raw) (q:=q) (by rw[h]);have h2:=(qx text raw).1;have e:bP text raw=(some p,(bP text raw).2.1,(bP text raw).2.2):=by rw[<-hb.ref]
 obtain⟨-,e1,e2,-⟩:=kO e;have e3:bP text raw=(some p,0,0):=by rw[e,e1,e2]
 rw[h,e3]at h2;simp only[Prod.mk.injEq]at h2;exact⟨h2.1,h2.2,p,e3,hb⟩
theorem EM {z a:Nat}{w w':World}{q:QP}(h:xY z a w q)(hb:Below w.heap.size w w'):xY z a w' q:=by
 obtain⟨vl,vb,us,vss,hp⟩:=h.at_;exact⟨⟨vl,vb,us,vss,hp.below hb⟩,h.ok,h.locals,h.blocks,h.lines⟩
theorem sq {text:B}{p:RP}{q:QP}(h:vz text false p q):0<q.blocks.length:=by
 rw[h.len];exact h.ok.first.1
theorem Hn {text:B}{p:RP}{q:QP}{z a:Nat}{w:World}(hB:vz text false p q)(hG:xY z a w q):Calls Tryz.prog 54 #[.pointer (some ⟨a,0,none⟩)] w fun e w'=>
  (∃E',kq text p q E'/\e=.returned (xb (aG (bK q E') q.blocks.length 0)))/\Below w.heap.size w w':=by
 obtain⟨vl,vb,us,vss,hp⟩:=hG.at_;refine(sf hp (sq hB) hG.blocks hB.oW hB.LZ hG.lines (zd q) (ta q (sq hB)) (fun E O b _ _ hb hO hI=>xD q hB.LZ hB.oW E O b hb hO hI)).mono ?_;rintro e w' ⟨⟨E',-,-,hI,rfl⟩,hb⟩;exact⟨⟨E',⟨hB,hI,(sq hB)⟩,rfl⟩,hb⟩
def gN (text:B)(w:World)(e:Ending)(w':World):Prop:=
 Below w.heap.size w w'/\((∃c k:Nat,1<=c/\bP text false=(none,c,k)/\e=.returned (.tuple #[.pointer none,.int .i64 (c:Int),.int .i64 (k:Int)]))\/
  ∃p q E,bP text false=(some p,0,0)/\ax text false=(some q,0,0)/\kq text p q E/\((∃n:Nat,aG (bK q E) q.blocks.length 0=some n/\e=.returned (.tuple #[.pointer none,.int .i64 5,.int .i64 (n:Int)]))\/
   (aG (bK q E) q.blocks.length 0=none/\∃a z,e=.returned (.tuple #[.pointer (some ⟨a,0,none⟩),.int .i64 0,.int .i64 0])/\w.heap.size<=z/\xY z a w' q)))
def fG (text:B)(c k:Int):Prop:=(∃c' k':Nat,1<=c'/\bP text false=(none,c',k')/\c=c'/\k=k')\/
  ∃p q E,bP text false=(some p,0,0)/\ax text false=(some q,0,0)/\kq text p q E/\((∃n:Nat,aG (bK q E) q.blocks.length 0=some n/\c=5/\k=n)\/(aG (bK q E) q.blocks.length 0=none/\c=0/\k=0))
theorem gN.dv {text:B}{w w':World}{e:Ending}(h:gN text w e w'):Below w.heap.size w w'/\∃v c k,e=.returned (.tuple #[v,.int .i64 c,.int .i64 k])/\fG text c k:=by
 obtain⟨hb,h|⟨p,q,E,h1,hq,h2,⟨n,h3,rfl⟩|⟨h3,a,z,rfl,-⟩⟩⟩:=h
 ·obtain⟨c,k,h0,h1,rfl⟩:=h;exact⟨hb,_,_,_,rfl,.inl ⟨c,k,h0,h1,rfl,rfl⟩⟩
 ·exact⟨hb,_,_,_,rfl,.inr ⟨p,q,E,h1,hq,h2,.inl ⟨n,h3,rfl,rfl⟩⟩⟩
 ·exact⟨hb,_,_,_,rfl,.inr ⟨p,q,E,h1,hq,h2,.inr ⟨h3,rfl,rfl⟩⟩⟩
end FlwZ
namespace RunB
open Go Sq Aux Go.Proofs.YtmlgajhhnojdjaaGreatDoor.Own RunA PrjS FlwA FlwB FlwC FlwD FlwE FlwF FlwG FlwH FlwI FlwJ FlwK FlwM FlwO FlwP FlwQ FlwS FlwV FlwY FlwZ
structure Steps (q:QP)(J:List Nat->Own.Own->Prop):Prop where
 gJ:∀l s o,lC q l->kB l.op->dn s->bh q l s=false->J s o->o.rL l=true/\J (au q l s) (o.gJ q l)
 Vh:∀l s o,lC q l->l.op=6->dn s->bh q l s=false->J s o->J (au q l s) (o.calc l)
 new:∀l s o,lC q l->l.op=9->dn s->bh q l s=false->J s o->J (au q l s) ((o.drop [aw l 0]).new (aw l 0) (o.num (aw l 1)))
 term:∀l s o,lC q l->l.op=18\/l.op=19\/l.op=20->dn s->bh q l s=false->J s o->J (cM l (if o.other l then 1 else 0) s) o
 mono:∀s t o,dn s->dn t->ic s t->J s o->J t o
def M7 (q:QP)(J:List Nat->Own.Own->Prop)(room:Int)(dv:Nat×Int×Own.Own):Prop:=
 ∃s o,J s o/\((dv=(2,0,o))\/(dv=(4,0,o))\/(∃l,lC q l/\l.op=9/\(o.drop [aw l 0]).yd.live≥room/\dv=(3,0,o.drop [aw l 0]))\/∃l,lC q l/\l.op=22/\dv=(1,o.num (aw l 0),o.dd q q.locals.length))
theorem EG {q:QP}(dS:q.locals.length<=12):Steps q (gT q) where
 gJ:=fun _ _ _ hl JU _ hf h=>IK hl dS hf h JU
 Vh:=fun _ _ _ hl aH _ _ h=>Hb hl h aH
 new:=fun _ _ _ _ aH _ _ h=>LL h aH _
 term:=fun _ _ _ _ _ _ _ h=>Js dS h
 mono:=fun _ _ _ _ ht hl h=>gG.mono h ht.len hl
theorem Dq {l:ab}{ls:List ab}(h:Whole (l::ls)):(18<=l.op/\ls=[])\/(l.op<18/\Whole ls):=by
 obtain⟨us,t,e,h1,h2⟩:=h;cases us with
 |nil=>simp only[List.nil_append,List.cons.injEq]at e;exact .inl ⟨by rw[e.1];exact h1,e.2⟩
 |cons a us=>
  simp only[List.cons_append,List.cons.injEq]at e;exact .inr ⟨by rw[e.1];exact h2 a (jM ..),us,t,e.2,h1,fun m hm=>h2 m (jN _ hm)⟩
theorem FH {q:QP}{l:ab}(hl:lC q l)(h:l.op<18):l.next=[]:=by
 have key:∀op:Fin 18,((ae op.val).filter (·==98)).length=0:=by decide
 have:=hl.ok.pI;rw[show((ae l.op).filter (·==98)).length=0 from key ⟨l.op,h⟩]at this;exact List.length_eq_zero_iff.mp this
theorem tE {q:QP}{l:ab}(hl:lC q l):kB l.op\/l.op=6\/l.op=9\/l.op=18\/l.op=19\/l.op=20\/l.op=22:=by
 have h1:=hl.ok.op;have h2:=hl.ok.PA;have h3:=hl.has;unfold fK at h3;unfold kB;by_cases e:l.op=16\/l.op=17\/l.op=21
 ·rw[ja (by omega),jb e]at h3;cases h3
 ·omega
theorem LV (l:ab)(s:List Nat){i:Nat}(hi:i<l.next.length)(h2:l.next.length<=2):(l.next.getD i 0,cM l i s)∈lg l l.next 0 s:=by
 match hn:l.next,h2 with
 |[],_=>rw[hn]at hi;simp at hi
 |[n],_=>
  rw[hn]at hi;have:i=0:=by simp at hi;omega
  subst this;simp[lg]
 |[n,m],_=>
  rw[hn]at hi;have:i=0\/i=1:=by simp at hi;omega
  rcases this with rfl|rfl
  ·simp[lg]
  ·have e:cM l 1 (cM l 0 s)=cM l 1 s:=by
    unfold cM;split
    ·simp only[eO,List.foldl_cons,List.foldl_nil,List.set_set]
    ·rfl
   simp[lg,e]
 |_::_::_::_,h=>simp at h
theorem RT {q:QP}{l:ab}(dS:q.locals.length<=12)(hl:lC q l):J6 l:=fun x hx=>by have:=(hl.ok.places x hx).1;omega
theorem C5 {q:QP}{J:List Nat->Own.Own->Prop}(dS:q.locals.length<=12)(hS:Shape q)(hq:vZ q.blocks.length q)(U:Nat->List Nat)(hU:mq q U)(hfull:∀b,b<q.blocks.length->U b=ak\/Full (U b))
  (iO:∀b,b<q.blocks.length->¬U b=ak->dj q (q.blocks.getD b []) (U b)=none) (H:Steps q J) (room:Int):
  ∀(f:Nat) (ls:List ab) (s:List Nat) (o:Own.Own),Whole ls->(∀l∈ls,lC q l)->dn s->Full s->dj q ls s=none->(∀x∈eN q ls s,ic x.2 (U x.1))->J s o->∃dv,dq q room f ls o=some dv/\M7 q J room dv
 |f,[],s,o,hw,_,_,_,_,_,_=>by
  obtain⟨us,t,e,-⟩:=hw;simp at e
 |0,l::ls,s,o,_,_,_,_,_,_,h=>⟨(2,0,o),rfl,s,o,h,.inl rfl⟩
 |f+1,l::ls,s,o,hw,JY,hs,hf,hfa,hout,h=>by
  have hl:=JY l (jM ..);rw[dj]at hfa;have QV:bh q l s=false:=by
   cases hv:bh q l s with
   |false=>rfl
   |true=>rw[hv,jb rfl]at hfa;cases hfa
  rw[QV,ja (by decide)]at hfa;rcases Dq hw with⟨iN,rfl⟩|⟨iN,UM⟩
  ·have ho:=tE hl;unfold kB at ho;by_cases B9:l.op=22
   ·refine⟨_,?_,s,o,h,.inr (.inr (.inr ⟨l,hl,B9,rfl⟩))⟩;rw[dq,ja (by omega),ja (by omega),ja (by omega),jb B9]
   ·have aH:l.op=18\/l.op=19\/l.op=20:=by omega
    have iE:l.next.length=if l.op=18 then 1 else 2:=by
     rw[hl.ok.pI];rcases aH with e|e|e<;>rw[e]<;>rfl
    have hi:(if o.other l then 1 else 0)<l.next.length:=by
     rw[iE];by_cases e:l.op=18
     ·have:o.other l=false:=by rw[Own.other,ja (by omega),ja (by omega)]
      rw[this,jb e];decide
     ·rw[ja e];split<;>omega
    have hp:au q l s=s:=pP (by rcases aH with e|e|e<;>rw[e]<;>rfl) (by omega) (by omega) (by omega);have kF:=LV l s hi (by rw[iE];split<;>omega);have hle:=hout (l.next.getD (if o.other l then 1 else 0) 0,cM l (if o.other l then 1 else 0) s) (by rw[eN,hp];exact List.mem_append_left _ kF);have hb:l.next.getD (if o.other l then 1 else 0) 0<q.blocks.length:=hl.ok.next _ (by rw[jA,jB hi];exact jL _);have iA:=eQ l (if o.other l then 1 else 0) hs;have c8:=eM iA hle (DK (mz l _ hf));have hJ:=H.mono _ _ _ iA (hU.ok _ hb) hle (H.term l s o hl aH hs QV h);obtain⟨dv,h1,h2⟩:=C5 dS hS hq U hU hfull iO H room f (q.blocks.getD (l.next.getD (if o.other l then 1 else 0) 0) []) _ o (hS.whole _ hb) (fun m hm=>⟨hq.lines _ (eW hm) m hm,hS.has _ m hm,hS.fits _ m hm⟩) (hU.ok _ hb) ((hfull _ hb).resolve_left c8) (iO _ hb c8) (fun x hx=>hU.step _ hb c8 x hx) hJ;refine⟨dv,?_,h2⟩;rw[dq,ja (by omega),ja (by omega),jb aH,jb rfl];exact h1
  ·have jw:=FH hl iN;have Cq:=fy q l hs;have SJ:=xw q (RT dS hl) hf;have Ro:∀x∈eN q ls (au q l s),ic x.2 (U x.1):=fun x hx=>hout x (by rw[eN,jw];simpa [lg,M4]using hx)
   have ih:=fun o' (hJ:J (au q l s) o')=>C5 dS hS hq U hU hfull iO H room f ls (au q l s) o' UM (fun m hm=>JY m (jN _ hm)) Cq SJ hfa Ro hJ
   rcases tE hl with JU|aH|aH|aH|aH|aH|aH
   ·obtain⟨hn,hJ⟩:=H.gJ l s o hl JU hs QV h;obtain⟨dv,h1,h2⟩:=ih _ hJ;refine⟨dv,?_,h2⟩;have Ua:=JU;unfold kB at Ua;rw[dq,ja (by omega),ja (by omega),ja (by omega),ja (by omega),jb hn];exact h1
   ·by_cases hz:o.num (aw l 2)=0
    ·refine⟨_,?_,s,o,h,.inr (.inl rfl)⟩;rw[dq,jb aH,jb hz]
    ·obtain⟨dv,h1,h2⟩:=ih _ (H.Vh l s o hl aH hs QV h);refine⟨dv,?_,h2⟩;rw[dq,jb aH,ja hz];exact h1
   ·by_cases hr:(o.drop [aw l 0]).yd.live≥room
    ·refine⟨_,?_,s,o,h,.inr (.inr (.inl ⟨l,hl,aH,hr,rfl⟩))⟩;rw[dq,ja (by omega),jb aH,jb hr]
    ·obtain⟨dv,h1,h2⟩:=ih _ (H.new l s o hl aH hs QV h);refine⟨dv,?_,h2⟩;rw[dq,ja (by omega),jb aH,ja hr];exact h1
   ·omega
   ·omega
   ·omega
   ·omega
theorem lJ (f:Nat->Option Nat):∀(m k:Nat),aG f m k=none->∀c,k<=c->c<k+m->f c=none
 |0,_,_,c,h1,h2=>by omega
 |m+1,k,h,c,h1,h2=>by
  rw[aG]at h;cases hk:f k with
  |some v=>rw[hk]at h;cases h
  |none=>
   rw[hk,Option.none_or]at h;by_cases e:c=k
   ·rw[e];exact hk
   ·exact lJ f m (k+1) h c (by omega) (by omega)
theorem Bm {text:B}{p:RP}{q:QP}{E:List (List Nat)}(hD:kq text p q E)(hr:ax text false=(some q,0,0))(hn:aG (bK q E) q.blocks.length 0=none){J:List Nat->Own.Own->Prop}(H:Steps q J){cX:List Int}(hJ:J aA (Own.start cX))(room:Int)(f:Nat):
  ∃dv,dq q room f (q.blocks.getD 0 []) (Own.start cX)=some dv/\M7 q J room dv:=by
 have hS:=oT hr;have hq:=hD.both.LZ;have dS:=hD.both.oW;have hI:=hD.inv.inv;have hU:mq q (fun b=>E.getD b []):=⟨fun b hb=>hD.ok hb,hI.start,fun b hb hz x hx=>hI.step b hb rfl hz x hx⟩;have h0:¬E.getD 0 []=ak:=eM ⟨by decide,fun k=>by
  by_cases hk:k<24
  ·have:aA.getD k 0=1:=by show(List.replicate 24 1).getD k 0=1;rw[jA,jO,jb hk];rfl
   rw[this];decide
  ·rw[jA,jG (by show(List.replicate 24 1).length<=k;simp;omega)];decide⟩ hI.start (DK pr)
 have iO:∀b,b<q.blocks.length->¬E.getD b []=ak->dj q (q.blocks.getD b []) (E.getD b [])=none:=fun b hb hz=>by
  have:=lJ _ _ _ hn b (jQ _) (by omega);rw[bK,ja hz]at this;exact this
 have RC:dn aA:=⟨by decide,fun k=>by
  by_cases hk:k<24
  ·have:aA.getD k 0=1:=by show(List.replicate 24 1).getD k 0=1;rw[jA,jO,jb hk];rfl
   rw[this];decide
  ·rw[jA,jG (by show(List.replicate 24 1).length<=k;simp;omega)];decide⟩
 exact C5 dS hS hq (fun b=>E.getD b []) hU hD.inv.full iO H room f (q.blocks.getD 0 []) (E.getD 0 []) (Own.start cX) (hS.whole 0 hD.pos) (fun m hm=>⟨hq.lines _ (eW hm) m hm,hS.has _ m hm,hS.fits _ m hm⟩) (hD.ok hD.pos) ((hD.inv.full 0 hD.pos).resolve_left h0) (iO 0 hD.pos h0) (fun x hx=>hU.step 0 hD.pos h0 x hx) (H.mono _ _ _ RC (hD.ok hD.pos) hI.start hJ)
end RunB
end Go.Proofs.YtmlgajhhnojdjaaGreatDoor

import Derived.Test.YtmlgajhhnojdjaaGreatDoorRAK
import Derived.Maps.RangeWalk
namespace Go.Proofs.YtmlgajhhnojdjaaGreatDoor
namespace FlwH
open Go Go.RowKit Sq Aux PrjF PrjG PrjJ PrjK PrjL PrjM PrjN PrjO PrjP PrjR PrjS PrjT FlwA FlwB FlwC FlwD FlwE FlwF FlwG
def ab.at (l:ab)(j:Nat):Nat×Nat:=l.places.getD j (0,0)
def aM (q:QP)(l:ab)(s:List Nat):Bool:=
 if l.op=3\/l.op=4\/l.op=5\/l.op=6 then bA 2 [ab.at l 1,ab.at l 2] s
 else if l.op=8\/l.op=19\/l.op=22 then bA 2 [ab.at l 0] s
 else if l.op=9 then bA 2 [ab.at l 1] s||lA (ab.at l 0) s
 else if l.op=10\/l.op=14 then bA 2 [ab.at l 1] s
 else if l.op=11 then bA 2 [ab.at l 0,ab.at l 1] s
 else if l.op=12 then gU q (ab.at l 1) s||lA (ab.at l 0) s
 else if l.op=15 then lA (ab.at l 0) s
 else if l.op=20 then bA 6 [ab.at l 0] s
 else false
theorem D6 {z:Nat}{w w':World}(h:Below z w.drew w'):Below z w w':=⟨h.os,h.tape,h.output,h.size,h.block⟩
section
variable {w:World} {b:Nat} {s:List Nat}
theorem sd (fit:Nat)(x:Nat×Nat){n:Nat}(hs:aX w b s)(hn:w.heap.size=n)(hx:x.1<12)(hv:∀k,s.getD k 0<16)(mr:fit=2\/fit=6\/fit=10):
  Calls Tryz.prog 219 #[.pointer (some ⟨b,0,none⟩),.int .u8 (fit:Nat),.slice (some ⟨n,0,none⟩) 1 1] (w.alloc (.cells #[.int .i64 (x.1:Nat),.int .i64 (x.2:Nat)] 119)) fun e w'=>e=.returned (.bool (bA fit [x] s))/\Below w.heap.size w w':=
 (oR fit b n 1 1 _ [x] s _ (hs.below ((Below.refl _ _).alloc (jC _) _) hs.lt) (iI w x hn) (fun y hy=>by simp only[List.mem_singleton]at hy;subst hy;exact hx) hv mr).mono fun e w' ⟨h1,h2⟩=>⟨h1,((Below.refl w.heap.size w).alloc (jC _) _).trans (h2.mono (by simp))⟩
theorem iF (fit:Nat)(x y:Nat×Nat){n:Nat}(hs:aX w b s)(hn:w.heap.size=n)(hx:x.1<12)(hy:y.1<12)(hv:∀k,s.getD k 0<16)(mr:fit=2\/fit=6\/fit=10):
  Calls Tryz.prog 219 #[.pointer (some ⟨b,0,none⟩),.int .u8 (fit:Nat),.slice (some ⟨n,0,none⟩) 2 2] (w.alloc (.cells #[.int .i64 (x.1:Nat),.int .i64 (x.2:Nat),.int .i64 (y.1:Nat),.int .i64 (y.2:Nat)] 119)).drew fun e w'=>e=.returned (.bool (bA fit [x,y] s))/\Below w.heap.size w w':=by
 have hp:bP n (w.alloc (.cells #[.int .i64 (x.1:Nat),.int .i64 (x.2:Nat),.int .i64 (y.1:Nat),.int .i64 (y.2:Nat)] 119)).drew (.slice (some ⟨n,0,none⟩) 2 2) [x,y]:=Pm w x y hn;have Oj:aX (w.alloc (.cells #[.int .i64 (x.1:Nat),.int .i64 (x.2:Nat),.int .i64 (y.1:Nat),.int .i64 (y.2:Nat)] 119)).drew b s:=(hs.below ((Below.refl w.heap.size w).alloc (jC _) (.cells #[.int .i64 (x.1:Nat),.int .i64 (x.2:Nat),.int .i64 (y.1:Nat),.int .i64 (y.2:Nat)] 119)) hs.lt:aX (w.alloc (.cells #[.int .i64 (x.1:Nat),.int .i64 (x.2:Nat),.int .i64 (y.1:Nat),.int .i64 (y.2:Nat)] 119)) b s);exact(oR fit b n 2 2 _ [x,y] s _ Oj hp (fun z hz=>by simp only[List.mem_cons,List.not_mem_nil,or_false]at hz;exact hz.elim (fun e=>e▸hx) (fun e=>e▸hy)) hv mr).mono fun e w' ⟨h1,h2⟩=>⟨h1,((Below.refl w.heap.size w).alloc (jC _) _).trans ((D6 h2).mono (by simp))⟩
end
set_option maxRecDepth 20000 in
set_option maxHeartbeats 4000000 in
theorem JZ (q:QP)(l:ab)(nb z a b:Nat)(v u:Value)(ap an:Option Addr)(cp cn:Nat)(s:List Nat)(w:World)(hp:PQ w a q v u)(ie:q.locals.length<=12)(hl:tS q.locals.length nb l)
  (hA:bq z w l (.slice ap l.places.length cp) (.slice an l.next.length cn)) (hs:aX w b s) (hv:∀k,s.getD k 0<16):
  Calls Tryz.prog 190 #[.pointer (some ⟨b,0,none⟩),.pointer (some ⟨a,0,none⟩),.agg #[.int .i64 (l.num:Nat),.int .i64 (l.op:Nat),.slice ap l.places.length cp,.int .i64 l.number,.int .i64 l.flag,.slice an l.next.length cn]] w fun e w'=>e=.returned (.bool (aM q l s))/\Below w.heap.size w w':=by
 have hop1:=hl.op;have U4:=hl.op2;have aL:=hs.lt;have aY:Below w.heap.size w (w.alloc (.cells #[.int .i64 (l.num:Nat),.int .i64 (l.op:Nat),.slice ap l.places.length cp,.int .i64 l.number,.int .i64 l.flag,.slice an l.next.length cn] 115)):=(Below.refl _ _).alloc (jC _) _;have qu:=hs.below aY aL;have hpA:=hp.below aY;have P7:=hA.below aY;go_enter Tryz.func190,Tryz.ntmps190
 go_upto_region 3 with fail
 generalize (w.alloc (.cells #[.int .i64 (l.num:Nat),.int .i64 (l.op:Nat),.slice ap l.places.length cp,.int .i64 l.number,.int .i64 l.flag,.slice an l.next.length cn] 115))=W at*;by_cases hg:l.op=3\/l.op=4\/l.op=5\/l.op=6
 ·have hlen:l.places.length=3:=by rcases hg with h|h|h|h<;>(rw[hl.cQ,h];rfl)
  have hr:Hid (aM q l s=bA 2 [ab.at l 1,ab.at l 2] s):=by unfold Hid;rcases hg with h|h|h|h<;>simp[aM,h]
  obtain⟨g,rfl,qm,yT,c1,e1⟩:=bo P7 hlen 1 (by omega);have zo:=(hl.places _ (cY (j:=1) (by omega))).1;obtain⟨g',e,-,-,c2,e2⟩:=bo P7 hlen 2 (by omega);simp only[Option.some.injEq,Addr.mk.injEq,and_true]at e;subst e;have Ww:=(hl.places _ (cY (j:=2) (by omega))).1;have d1:W.cell? ⟨g,2,none⟩=some (.int .i64 ((ab.at l 1).1:Nat)):=c1;have f1:W.cell? ⟨g,3,none⟩=some (.int .i64 ((ab.at l 1).2:Nat)):=e1;change (ab.at l 1).1<_ at zo;have d2:W.cell? ⟨g,4,none⟩=some (.int .i64 ((ab.at l 2).1:Nat)):=c2;have f2:W.cell? ⟨g,5,none⟩=some (.int .i64 ((ab.at l 2).2:Nat)):=e2;change (ab.at l 2).1<_ at Ww;clear c1 e1 c2 e2;generalize ab.at l 1=x1 at*;generalize ab.at l 2=x2 at*;have K:=iF 2 x1 x2 qu rfl (by omega) (by omega) hv (by simp);generalize bA 2 [x1,x2] s=r at*;rw[hlen];rcases hg with h|h|h|h
  all_goals
   rw[h];have HO:Hid (_=_):=h;clear h;go_upto_region 7 with fail
   go_region_with (go_at_call 219;refine K.mono ?_;rintro e w1 ⟨rfl,aw⟩)
   all_goals go_wp2_with fail
   all_goals
    go_ret
    exact⟨by rw[hr.out];rfl,aY.trans (aw.mono aY.size)⟩
 ·by_cases hg:l.op=8\/l.op=19\/l.op=22
  ·have hlen:l.places.length=1:=by rcases hg with h|h|h<;>(rw[hl.cQ,h];rfl)
   have hr:Hid (aM q l s=bA 2 [ab.at l 0] s):=by unfold Hid;rcases hg with h|h|h<;>simp[aM,h]
   obtain⟨g,rfl,qm,yT,c0,e0⟩:=bo P7 hlen 0 (by omega);have Jv:=(hl.places _ (cY (j:=0) (by omega))).1;have d0:W.cell? ⟨g,0,none⟩=some (.int .i64 ((ab.at l 0).1:Nat)):=c0;have f0:W.cell? ⟨g,1,none⟩=some (.int .i64 ((ab.at l 0).2:Nat)):=e0;change (ab.at l 0).1<_ at Jv;clear c0 e0;generalize ab.at l 0=x0 at*;have K:=sd 2 x0 qu rfl (by omega) hv (by simp);generalize bA 2 [x0] s=r at*;rw[hlen];rcases hg with h|h|h
   all_goals
    rw[h];have HO:Hid (_=_):=h;clear h;go_wp2_with (go_at_call 219;refine K.mono ?_;rintro e w1 ⟨rfl,aw⟩)
    go_ret
    exact⟨by rw[hr.out];rfl,aY.trans (aw.mono aY.size)⟩
  ·by_cases hg:l.op=10\/l.op=14
   ·have hlen:l.places.length=2:=by rcases hg with h|h<;>(rw[hl.cQ,h];rfl)
    have hr:Hid (aM q l s=bA 2 [ab.at l 1] s):=by unfold Hid;rcases hg with h|h<;>simp[aM,h]
    obtain⟨g,rfl,qm,yT,c1,e1⟩:=bo P7 hlen 1 (by omega);have zo:=(hl.places _ (cY (j:=1) (by omega))).1;have d1:W.cell? ⟨g,2,none⟩=some (.int .i64 ((ab.at l 1).1:Nat)):=c1;have f1:W.cell? ⟨g,3,none⟩=some (.int .i64 ((ab.at l 1).2:Nat)):=e1;change (ab.at l 1).1<_ at zo;clear c1 e1;generalize ab.at l 1=x1 at*;have K:=sd 2 x1 qu rfl (by omega) hv (by simp);generalize bA 2 [x1] s=r at*;rw[hlen];rcases hg with h|h
    all_goals
     rw[h];have HO:Hid (_=_):=h;clear h;go_wp2_with (go_at_call 219;refine K.mono ?_;rintro e w1 ⟨rfl,aw⟩)
     go_ret
     exact⟨by rw[hr.out];rfl,aY.trans (aw.mono aY.size)⟩
   ·by_cases hg:l.op=11
    ·have hlen:l.places.length=2:=by rw[hl.cQ,hg];rfl
     have hr:Hid (aM q l s=bA 2 [ab.at l 0,ab.at l 1] s):=by unfold Hid;simp[aM,hg]
     obtain⟨g,rfl,qm,yT,c0,e0⟩:=bo P7 hlen 0 (by omega);have Jv:=(hl.places _ (cY (j:=0) (by omega))).1;obtain⟨g',e,-,-,c1,e1⟩:=bo P7 hlen 1 (by omega);simp only[Option.some.injEq,Addr.mk.injEq,and_true]at e;subst e;have zo:=(hl.places _ (cY (j:=1) (by omega))).1;have d0:W.cell? ⟨g,0,none⟩=some (.int .i64 ((ab.at l 0).1:Nat)):=c0;have f0:W.cell? ⟨g,1,none⟩=some (.int .i64 ((ab.at l 0).2:Nat)):=e0;change (ab.at l 0).1<_ at Jv;have d1:W.cell? ⟨g,2,none⟩=some (.int .i64 ((ab.at l 1).1:Nat)):=c1;have f1:W.cell? ⟨g,3,none⟩=some (.int .i64 ((ab.at l 1).2:Nat)):=e1;change (ab.at l 1).1<_ at zo;clear c0 e0 c1 e1;generalize ab.at l 0=x0 at*;generalize ab.at l 1=x1 at*;have K:=iF 2 x0 x1 qu rfl (by omega) (by omega) hv (by simp);generalize bA 2 [x0,x1] s=r at*;rw[hlen];rw[hg];have HO:Hid (_=_):=hg;clear hg;go_upto_region 18 with fail
     go_region_with (go_at_call 219;refine K.mono ?_;rintro e w1 ⟨rfl,aw⟩)
     all_goals go_wp2_with fail
     all_goals
      go_ret
      exact⟨by rw[hr.out];rfl,aY.trans (aw.mono aY.size)⟩
    ·by_cases hg:l.op=15
     ·have hlen:l.places.length=1:=by rw[hl.cQ,hg];rfl
      have hr:Hid (aM q l s=lA (ab.at l 0) s):=by unfold Hid;simp[aM,hg]
      obtain⟨g,rfl,qm,yT,c0,e0⟩:=bo P7 hlen 0 (by omega);have Jv:=(hl.places _ (cY (j:=0) (by omega))).1;have d0:W.cell? ⟨g,0,none⟩=some (.int .i64 ((ab.at l 0).1:Nat)):=c0;have f0:W.cell? ⟨g,1,none⟩=some (.int .i64 ((ab.at l 0).2:Nat)):=e0;change (ab.at l 0).1<_ at Jv;clear c0 e0;generalize ab.at l 0=x0 at*;have K:=BM b x0 s _ qu (by omega) hv;generalize lA x0 s=r at*;rw[hlen];rw[hg];have HO:Hid (_=_):=hg;clear hg;go_wp2_with (go_at_call 220;refine K.mono ?_;rintro e w1 ⟨rfl,aw⟩)
      go_ret
      exact⟨by rw[hr.out];rfl,aY.trans (aw.mono aY.size)⟩
     ·by_cases hg:l.op=20
      ·have hlen:l.places.length=1:=by rw[hl.cQ,hg];rfl
       have hr:Hid (aM q l s=bA 6 [ab.at l 0] s):=by unfold Hid;simp[aM,hg]
       obtain⟨g,rfl,qm,yT,c0,e0⟩:=bo P7 hlen 0 (by omega);have Jv:=(hl.places _ (cY (j:=0) (by omega))).1;have d0:W.cell? ⟨g,0,none⟩=some (.int .i64 ((ab.at l 0).1:Nat)):=c0;have f0:W.cell? ⟨g,1,none⟩=some (.int .i64 ((ab.at l 0).2:Nat)):=e0;change (ab.at l 0).1<_ at Jv;clear c0 e0;generalize ab.at l 0=x0 at*;have K:=sd 6 x0 qu rfl (by omega) hv (by simp);generalize bA 6 [x0] s=r at*;rw[hlen];rw[hg];have HO:Hid (_=_):=hg;clear hg;go_wp2_with (go_at_call 219;refine K.mono ?_;rintro e w1 ⟨rfl,aw⟩)
       go_ret
       exact⟨by rw[hr.out];rfl,aY.trans (aw.mono aY.size)⟩
      ·by_cases hg:l.op=9
       ·have hlen:l.places.length=2:=by rw[hl.cQ,hg];rfl
        have hr:Hid (aM q l s=(bA 2 [ab.at l 1] s||lA (ab.at l 0) s)):=by unfold Hid;simp[aM,hg]
        obtain⟨g,rfl,qm,yT,c0,e0⟩:=bo P7 hlen 0 (by omega);have Jv:=(hl.places _ (cY (j:=0) (by omega))).1;obtain⟨g',e,-,-,c1,e1⟩:=bo P7 hlen 1 (by omega);simp only[Option.some.injEq,Addr.mk.injEq,and_true]at e;subst e;have zo:=(hl.places _ (cY (j:=1) (by omega))).1;have d0:W.cell? ⟨g,0,none⟩=some (.int .i64 ((ab.at l 0).1:Nat)):=c0;have f0:W.cell? ⟨g,1,none⟩=some (.int .i64 ((ab.at l 0).2:Nat)):=e0;change (ab.at l 0).1<_ at Jv;have d1:W.cell? ⟨g,2,none⟩=some (.int .i64 ((ab.at l 1).1:Nat)):=c1;have f1:W.cell? ⟨g,3,none⟩=some (.int .i64 ((ab.at l 1).2:Nat)):=e1;change (ab.at l 1).1<_ at zo;clear c0 e0 c1 e1;generalize ab.at l 0=x0 at*;generalize ab.at l 1=x1 at*;have K:=sd 2 x1 qu rfl (by omega) hv (by simp);have K2:=fun W' (hb:Below W.heap.size W W')=>BM b x0 s W' (qu.below hb qu.lt) (by omega) hv
        have HC:Hid (∀W',Below W.heap.size W W'->W'.cell? ⟨g,0,none⟩=some (.int .i64 (x0.1:Nat))/\W'.cell? ⟨g,1,none⟩=some (.int .i64 (x0.2:Nat))):=fun W' hb=>⟨(hb.cell (p:=⟨g,0,none⟩) yT).trans d0,(hb.cell (p:=⟨g,1,none⟩) yT).trans f0⟩
        generalize bA 2 [x1] s=r at*;generalize lA x0 s=r2 at*;rw[hlen];rw[hg];have HO:Hid (_=_):=hg;clear hg;cases r with
        |true=>
         go_wp2_with (go_at_call 219;refine K.mono ?_;rintro e w1 ⟨rfl,aw⟩)
         go_ret
         exact⟨by rw[hr.out];rfl,aY.trans (aw.mono aY.size)⟩
        |false=>
         go_wp2_with (first|(go_at_call 219;refine K.mono ?_;rintro e w1 ⟨rfl,aw⟩;obtain⟨y0,y1⟩:=HC.out w1 aw)|(go_at_call 220;refine(K2 w1 aw).mono ?_;rintro e w2 ⟨rfl,bU⟩))
         go_ret
         exact⟨by rw[hr.out];rfl,(aY.trans (aw.mono aY.size)).trans (bU.mono (aY.trans (aw.mono aY.size)).size)⟩
       ·by_cases hg:l.op=12
        ·have hlen:l.places.length=2:=by rw[hl.cQ,hg];rfl
         have hr:Hid (aM q l s=(gU q (ab.at l 1) s||lA (ab.at l 0) s)):=by unfold Hid;simp[aM,hg]
         obtain⟨g,rfl,qm,yT,c0,e0⟩:=bo P7 hlen 0 (by omega);have Jv:=(hl.places _ (cY (j:=0) (by omega))).1;obtain⟨g',e,-,-,c1,e1⟩:=bo P7 hlen 1 (by omega);simp only[Option.some.injEq,Addr.mk.injEq,and_true]at e;subst e;have zo:=(hl.places _ (cY (j:=1) (by omega))).1;have d0:W.cell? ⟨g,0,none⟩=some (.int .i64 ((ab.at l 0).1:Nat)):=c0;have f0:W.cell? ⟨g,1,none⟩=some (.int .i64 ((ab.at l 0).2:Nat)):=e0;change (ab.at l 0).1<_ at Jv;have d1:W.cell? ⟨g,2,none⟩=some (.int .i64 ((ab.at l 1).1:Nat)):=c1;have f1:W.cell? ⟨g,3,none⟩=some (.int .i64 ((ab.at l 1).2:Nat)):=e1;change (ab.at l 1).1<_ at zo;clear c0 e0 c1 e1;generalize ab.at l 0=x0 at*;generalize ab.at l 1=x1 at*;have K:=PS q b x1 s v u a _ hpA.aJ hpA.loc (by omega) zo qu (by omega) hv;have K2:=fun W' (hb:Below W.heap.size W W')=>BM b x0 s W' (qu.below hb qu.lt) (by omega) hv
         have HC:Hid (∀W',Below W.heap.size W W'->W'.cell? ⟨g,0,none⟩=some (.int .i64 (x0.1:Nat))/\W'.cell? ⟨g,1,none⟩=some (.int .i64 (x0.2:Nat))):=fun W' hb=>⟨(hb.cell (p:=⟨g,0,none⟩) yT).trans d0,(hb.cell (p:=⟨g,1,none⟩) yT).trans f0⟩
         generalize gU q x1 s=r at*;generalize lA x0 s=r2 at*;rw[hlen];rw[hg];have HO:Hid (_=_):=hg;clear hg;cases r with
         |true=>
          go_wp2_with (go_at_call 221;refine K.mono ?_;rintro e w1 ⟨rfl,aw⟩)
          go_ret
          exact⟨by rw[hr.out];rfl,aY.trans (aw.mono aY.size)⟩
         |false=>
          go_wp2_with (first|(go_at_call 221;refine K.mono ?_;rintro e w1 ⟨rfl,aw⟩;obtain⟨y0,y1⟩:=HC.out w1 aw)|(go_at_call 220;refine(K2 w1 aw).mono ?_;rintro e w2 ⟨rfl,bU⟩))
          go_ret
          exact⟨by rw[hr.out];rfl,(aY.trans (aw.mono aY.size)).trans (bU.mono (aY.trans (aw.mono aY.size)).size)⟩
        ·have Ew:l.op=2\/l.op=7\/l.op=13\/l.op=16\/l.op=17\/l.op=18\/l.op=21:=by omega
         have hr:Hid (aM q l s=false):=by unfold Hid;rcases Ew with h|h|h|h|h|h|h<;>simp[aM,h]
         rcases Ew with h|h|h|h|h|h|h
         all_goals
          rw[h];have HO:Hid (_=_):=h;clear h;go_wp2
          go_ret
          exact⟨by rw[hr.out];rfl,aY⟩
end FlwH
namespace FlwI
open Go Go.RowKit Sq Aux PrjJ PrjK FlwB FlwF
theorem mapM_some {α β:Type}(f:α->Option β)(g:α->β):∀l:List α,(∀a∈l,f a=some (g a))->l.mapM f=some (l.map g)
 |[],_=>rfl
 |a::l,h=>by
  rw[List.mapM_cons,h a (jM ..),mapM_some f g l (fun x hx=>h x (jN _ hx))];rfl
theorem yJ:Tryz.prog.cellsOf 209=24:=by kernel_rfl
theorem NK:Tryz.prog.cellsOf 207=1:=by kernel_rfl
theorem OA:Tryz.prog.keyTypeAt 3 209=true:=by kernel_rfl
theorem th (s:List Nat):(List.range s.length).map (fun i=>s.getD i 0)=s:=by
 apply List.ext_getElem?
 intro i;rw[jJ];by_cases hi:i<s.length
 ·rw[List.getElem?_range hi];simp[hi]
 ·rw[jG (by simp;omega),jG (by omega)];rfl
theorem A4 (s:List Nat)(hl:s.length=24)(hv:∀k,s.getD k 0<16):Tryz.prog.keyLits 2 209 (aq s)=some (s.map fun n=>Lit.int .u8 (n:Nat)):=by
 have hf:∀i∈List.range 24,Tryz.prog.keyLits 1 207 (((aq s).drop (i*1)).take 1)=some [Lit.int .u8 ((s.getD i 0:Nat):Int)]:=by
  intro i hi;have Z2:i<s.length:=by rw[hl];simpa using hi
  have hc:((aq s).drop (i*1)).take 1=[.int .u8 ((s.getD i 0:Nat):Int)]:=by
   rw[Nat.mul_one,jE (by rw[dy];exact Z2)];simp[aq,Z2]
  have hw:(Lit.int .u8 ((s.getD i 0:Nat):Int)).wf=true:=by
   have:=hv i;generalize s.getD i 0=n at*;have:∀n:Nat,n<16->(Lit.int .u8 (n:Int)).wf=true:=by decide
   exact this n (by assumption)
  rw[hc];simp only[Program.keyLits,Tryz.underlying207];rw[jb ⟨trivial,hw⟩]
 unfold Program.keyLits;simp only[Tryz.underlying209,yJ,NK];rw[jb (by rw[dy];exact hl),mapM_some _ _ _ hf];simp only[Option.map_some,Option.some.injEq];have e:((List.range 24).map fun i=>[Lit.int .u8 ((s.getD i 0:Nat):Int)]).flatten=((List.range s.length).map fun i=>s.getD i 0).map fun n=>Lit.int .u8 ((n:Nat):Int):=by
  rw[hl,List.map_map];induction List.range 24 with
  |nil=>rfl
  |cons a r ih=>simpa using ih
 rw[e,th]
set_option maxRecDepth 20000 in
theorem I3 (s t:List Nat)(w:World)(hs:s.length=24)(ht:t.length=24)(hv:∀k,s.getD k 0<16)(hu:∀k,t.getD k 0<16):
  (Op.equalIn 10000 209 (.agg (aq s).toArray) (.agg (aq t).toArray)).run Tryz.prog w=.ok (s==t) w:=by
 have AX:∀s:List Nat,s.length=24->(Value.agg (aq s).toArray).formed Tryz.prog 209=true:=fun s hs=>by
  simp only[Value.formed,Tryz.underlying209,yJ];simp[dy,hs]
 obtain⟨r,hr,hiff⟩:=run_equalIn_deep 9997 3 209 OA w 2 2 (.agg (aq s).toArray) (.agg (aq t).toArray) _ _ (AX s hs) (AX t ht) (by simpa [Value.cells]using A4 s hs hv) (by simpa [Value.cells]using A4 t ht hu);rw[hr];congr 1;rw[jX,hiff,beq_iff_eq];constructor
 ·intro h;refine(List.map_inj_right (fun a b e=> ?_)).1 h;simp only[Lit.int.injEq,true_and]at e;omega
 ·intro h;rw[h]
attribute [local go_sem ↓] kB iL
theorem CA (k:Nat)(hk:k<24):(List.replicate k 1++List.replicate (24-k) 0).set k 1=(List.replicate (k+1) 1++List.replicate (24-(k+1)) 0:List Nat):=by
 rw[List.set_append_right _ _ (by simp),List.length_replicate,Nat.sub_self,show 24-k=(24-(k+1))+1 by omega,List.replicate_succ,List.set_cons_zero,List.replicate_succ',List.append_assoc];rfl
def aV:List Nat:=List.replicate 24 1
set_option maxRecDepth 20000 in
set_option maxHeartbeats 1000000 in
theorem PK (w:World):Calls Tryz.prog 188 #[] w fun e w'=>e=.returned (.agg (aq aV).toArray)/\Below w.heap.size w w':=by
 have aw:Below w.heap.size w (w.alloc (.cells (aq ar).toArray 209)):=(Below.refl _ _).alloc (jC _) _;have bU:=aw.alloc aw.size (.cells (aq ar).toArray 209);have hA:aX ((w.alloc (.cells (aq ar).toArray 209)).alloc (.cells (aq ar).toArray 209)) w.heap.size ar:=(aX.new w (s:=ar) (by decide)).below ((Below.refl _ _).alloc (jC _) _) (by simp);have hB:aX ((w.alloc (.cells (aq ar).toArray 209)).alloc (.cells (aq ar).toArray 209)) (w.heap.size+1) (List.replicate 0 1++List.replicate (24-0) 0):=by
  rw[show w.heap.size+1=(w.alloc (.cells (aq ar).toArray 209)).heap.size by simp];exact aX.new _ (s:=ar) (by decide)
 have hz:(aq ar).toArray= #[.int .u8 0,.int .u8 0,.int .u8 0,.int .u8 0,.int .u8 0,.int .u8 0,.int .u8 0,.int .u8 0,.int .u8 0,.int .u8 0,.int .u8 0,.int .u8 0,.int .u8 0,.int .u8 0,.int .u8 0,.int .u8 0,.int .u8 0,.int .u8 0,.int .u8 0,.int .u8 0,.int .u8 0,.int .u8 0,.int .u8 0,.int .u8 0]:=rfl;rw[hz]at hA hB bU;clear aw hz;go_enter Tryz.func188,Tryz.ntmps188
 go_wp2
 go_loopg [3] (24) (fun g v3 wr=>∃k:Nat,k<=24/\g+k=24/\v3=.int .i64 k/\aX wr w.heap.size ar/\aX wr (w.heap.size+1) (List.replicate k 1++List.replicate (24-k) 0)/\Below w.heap.size w wr)
 case atStart=>exact⟨0,by omega,rfl,rfl,hA,hB,bU⟩
 case round=>
  obtain⟨k,hk,GI,rfl,hA',Ep,Jn⟩:=hrel;clear hA hB bU;by_cases aL:k<24
  ·have c1:=Ep.cell k aL;have c2:=Ep.frozen k;have hki:(k:Int)<24:=by omega
   have zn:=Ep.set k 1;rw[CA k aL]at zn;have hA2:aX (wr.setCell ⟨w.heap.size+1,k,none⟩ (.int .u8 (1:Nat))) w.heap.size ar:=⟨hA'.1,by rw[Below.heap_setCell _ _ _ _ (by show w.heap.size≠w.heap.size+1;omega)];exact hA'.2⟩;have mn:Below w.heap.size w (wr.setCell ⟨w.heap.size+1,k,none⟩ (.int .u8 (1:Nat))):=Jn.trans (((bw.refl (w.heap.size+1) wr).setCell k _).below (by omega) Jn.size);go_wp2
   go_roundg (24-(k+1))
   case measure=>omega
   case rel=>exact⟨k+1,by omega,by omega,by go_num,hA2,zn,mn⟩
  ·obtain rfl:k=24:=by omega
   have ir:aX wr (w.heap.size+1) aV:=Ep;have h1:=aX.has ir;have h2:=aX.of ir;have h3:=aX.room hA';have h4:=pJ (s:=aV) (by decide);have xS:=aX.store hA' (t:=aV) (by decide);have ZH:Below w.heap.size w (wr.setCells w.heap.size 0 (aq aV)):=az Jn (jC _) _ _;go_wp2
   refine bodyPost_ret (dQ Tryz.results188 _ _ _ w.heap.size (aq aV) _ rfl (aX.range xS) Tryz.underlying209 rfl (tp (by decide))) rfl ?_;exact⟨rfl,ZH⟩
theorem pj (k:Nat):ar.getD k 0<16:=by
 unfold ar;rw[jA,jO];split<;>simp
set_option maxRecDepth 20000 in
theorem IJ (b:Nat)(s:List Nat)(w:World)(hs:aX w b s)(hv:∀k,s.getD k 0<16):Calls Tryz.prog 129 #[.pointer (some ⟨b,0,none⟩)] w fun e w'=>e=.returned (.bool (!(s==ar)))/\w'=w:=by
 have h1:=aX.has hs;have h2:=aX.of hs;have he:=fun w'=>I3 s ar w' hs.1 (by decide) hv pj
 have hz:(aq ar).toArray= #[.int .u8 0,.int .u8 0,.int .u8 0,.int .u8 0,.int .u8 0,.int .u8 0,.int .u8 0,.int .u8 0,.int .u8 0,.int .u8 0,.int .u8 0,.int .u8 0,.int .u8 0,.int .u8 0,.int .u8 0,.int .u8 0,.int .u8 0,.int .u8 0,.int .u8 0,.int .u8 0,.int .u8 0,.int .u8 0,.int .u8 0,.int .u8 0]:=rfl;rw[hz]at he;generalize (s==ar)=r at*;go_enter Tryz.func129,Tryz.ntmps129
 go_wp2
 go_ret
 exact⟨rfl,rfl⟩
end FlwI
namespace FlwJ
open Go Go.RowKit Sq Aux PrjF PrjG PrjJ PrjK PrjL PrjM PrjO FlwB FlwE FlwF
structure cq (x y:Nat)(w w':World):Prop where
 os:w'.os=w.os
 tape:w'.tape=w.tape
 output:w'.output=w.output
 size:w.heap.size<=w'.heap.size
 block:∀k,k<w.heap.size->k≠x->k≠y->w'.heap[k]?=w.heap[k]?
section
variable {x y b B:Nat} {w w1 w2:World}
theorem cq.refl (x y:Nat)(w:World):cq x y w w:=⟨rfl,rfl,rfl,jC _,fun _ _ _ _=>rfl⟩
theorem cq.trans (h:cq x y w w1)(h':cq x y w1 w2):cq x y w w2:=
 ⟨h'.os.trans h.os,h'.tape.trans h.tape,h'.output.trans h.output,jS h.size h'.size,fun k hk h1 h2=>(h'.block k (jK hk h.size) h1 h2).trans (h.block k hk h1 h2)⟩
theorem cq.sg (h:Below w.heap.size w w1):cq x y w w1:=⟨h.os,h.tape,h.output,h.size,fun k hk _ _=>h.block k hk⟩
theorem cq.on (h:cq x y w w1)(h':Below w1.heap.size w1 w2):cq x y w w2:=h.trans (.sg h')
theorem cq.left (h:bw x w w1):cq x y w w1:=⟨h.os,h.tape,h.output,h.size,fun k hk h1 _=>h.block k hk h1⟩
theorem cq.right (h:w.grownBy w1 (some y)):cq x y w w1:=⟨h.os,h.tape,h.output,h.size,fun k hk _ h2=>h.block k hk (by simpa using h2)⟩
theorem cq.since (h:cq x y w w1)(h':bw b w1 w2)(hb:w.heap.size<=b):cq x y w w2:=
 ⟨h'.os.trans h.os,h'.tape.trans h.tape,h'.output.trans h.output,jS h.size h'.size,fun k hk h1 h2=>(h'.block k (jK hk h.size) (by omega)).trans (h.block k hk h1 h2)⟩
theorem cq.below (h:cq x y w w1)(hx:B<=x)(hy:B<=y)(hB:B<=w.heap.size):Below B w w1:=⟨h.os,h.tape,h.output,h.size,fun k hk=>h.block k (by omega) (by omega) (by omega)⟩
end
def cC (O:Nat->Bool)(b:Nat)(v:Bool):Nat->Bool:=fun c=>if c=b then v else O c
def gV (O:Nat->Bool):Nat->Nat
 |0=>0
 |n+1=>gV O n+(if O n=true then 1 else 0)
theorem MG (O:Nat->Bool):∀n,gV O n<=n
 |0=>jC _
 |n+1=>by have:=MG O n;unfold gV;split<;>omega
theorem Au {O O':Nat->Bool}:∀n,(∀b,b<n->O b=O' b)->gV O n=gV O' n
 |0,_=>rfl
 |n+1,h=>by unfold gV;rw[Au n (fun b hb=>h b (by omega)),h n (by omega)]
theorem xF {O:Nat->Bool}:∀n,gV O n=0->∀b,b<n->O b=false
 |0,_,b,hb=>by omega
 |n+1,h,b,hb=>by
  unfold gV at h;by_cases hn:O n=true
  ·rw[jb hn]at h;omega
  ·rw[ja hn]at h;by_cases e:b=n
   ·subst e;simpa using hn
   ·exact xF n (by omega) b (by omega)
theorem km {O:Nat->Bool}:∀n,(∀b,b<n->O b=false)->gV O n=0
 |0,_=>rfl
 |n+1,h=>by unfold gV;rw[km n (fun b hb=>h b (by omega)),h n (by omega)];rfl
theorem vh {O:Nat->Bool}{b:Nat}(h0:O b=false):∀n,b<n->gV (cC O b true) n=gV O n+1
 |0,h=>by omega
 |n+1,h=>by
  unfold gV;by_cases e:b=n
  ·subst e;rw[Au b (O':=O) (fun c hc=>by unfold cC;rw[ja (by omega)]),h0];simp[cC]
  ·rw[vh h0 n (by omega)];have:cC O b true n=O n:=by unfold cC;rw[ja (by omega)]
   rw[this];omega
theorem yg {O:Nat->Bool}{b:Nat}{v:Bool}(h:O b=v):cC O b v=O:=by
 funext c;unfold cC;split
 ·rename_i e;rw[e,h]
 ·rfl
theorem Av {O:Nat->Bool}{b:Nat}(h1:O b=true)(n:Nat)(hb:b<n):gV (cC O b false) n+1=gV O n:=by
 have e:cC (cC O b false) b true=O:=by
  funext c;unfold cC;split
  ·rename_i e;rw[e,h1]
  ·rfl
 rw[<-vh (O:=cC O b false) (by simp[cC]) n hb,e]
def iM (b:Nat):Lit:=.int .i64 (b:Nat)
theorem vJ {a b:Nat}(h:iM a=iM b):a=b:=by simp only[iM,Lit.int.injEq,true_and]at h;omega
theorem Vf {b:Nat}(h:b<=100000):(iM b).wf=true:=WalkArith.wf_i64 (by omega)
theorem OD:Maps.Keyed Tryz.prog 3:=Maps.int_keyed Tryz.underlying3
theorem MY {b:Nat}(h:b<=100000):keyOf Tryz.prog 3 (.int .i64 (b:Nat))=some (iM b):=Maps.keyOf_int_mk Tryz.underlying3 (Vf h)
def cO (w:World)(mb N:Nat)(O:Nat->Bool):Prop:=
 ∃D:DataW Unit,w.ownsMap Tryz.prog 3 unitElem mb N D/\(∀b,O b=true->b<N)/\(∀kl,Maps.has D kl=true↔∃b,kl=iM b/\O b=true)/\Maps.size D=gV O N
section
variable {w w':World} {mb N:Nat} {O:Nat->Bool}
theorem Pg {P:Program}{k:TypeId}{R:Value->Option (DataW Unit×List MemPlace)}{n m:Nat}{D:DataW Unit}(h:w.ownsMap P k R mb n D)(hm:Maps.size D<=m):w.ownsMap P k R mb m D:=by
 obtain⟨es,clock,h1,h2,h3,rfl⟩:=h;refine⟨es,clock,h1,h2,?_,rfl⟩;rw[Maps.size_eq,length_read]at hm;exact hm
theorem cO.lt (h:cO w mb N O):mb<w.heap.size:=by obtain⟨D,h,-⟩:=h;exact h.lt
theorem cO.isMap (h:cO w mb N O):∃es clock,w.heap[mb]?=some (.map es clock):=by obtain⟨D,⟨es,clock,h,-⟩,-⟩:=h;exact⟨es,clock,h⟩
theorem cO.heap (h:cO w mb N O)(he:w'.heap[mb]?=w.heap[mb]?):cO w' mb N O:=by
 obtain⟨D,⟨es,clock,hb,r⟩,h'⟩:=h;exact⟨D,⟨es,clock,he.trans hb,r⟩,h'⟩
theorem cO.below (h:cO w mb N O)(hb:Below w.heap.size w w'):cO w' mb N O:=h.heap (hb.block mb h.lt)
theorem cO.bound (h:cO w mb N O){b:Nat}(hb:O b=true):b<N:=by obtain⟨D,-,h,-⟩:=h;exact h b hb
theorem cO.made (w:World)(N:Nat):cO (w.alloc (.map #[] 0)) w.heap.size N (fun _=>false):=
 ⟨.map [],(World.ownsMap_made w _ _ _).mono (jQ _),fun _ h=>(by cases h),fun kl=>⟨fun h=>(by cases h),fun⟨_,_,h⟩=>(by cases h)⟩,(km N fun _ _=>rfl).symm⟩
theorem SN {D:DataW Unit}{b:Nat}(hO:∀b,O b=true->b<N)(hD:w.ownsMap Tryz.prog 3 unitElem mb N D)(hh:∀kl,Maps.has D kl=true↔∃b,kl=iM b/\O b=true)(hs:Maps.size D=gV O N)
  (hb:b<N) (h:w'.ownsMap Tryz.prog 3 unitElem mb (N+1) (D.put (iM b) (.agg []))):cO w' mb N (cC O b true):=by
 have Og:WideAt.IsKeyLit (iM b):=trivial;have hh':∀kl,Maps.has (D.put (iM b) (.agg [])) kl=true↔∃c,kl=iM c/\cC O b true c=true:=by
  intro kl;by_cases e:kl=iM b
  ·subst e;rw[Maps.has_put_same hD.isMap Og];exact⟨fun _=>⟨b,rfl,by simp[cC]⟩,fun _=>rfl⟩
  ·rw[Maps.has_put_other e,hh];constructor
   ·rintro⟨c,rfl,hc⟩;exact⟨c,rfl,by unfold cC;split<;>simp[hc]⟩
   ·rintro⟨c,rfl,hc⟩;refine⟨c,rfl,?_⟩;unfold cC at hc;rw[ja (fun x=>e (by rw[x]))]at hc;exact hc
 have ly:Maps.size (D.put (iM b) (.agg []))=gV (cC O b true) N:=by
  rw[Maps.size_put (hD.tidy OD)];cases fC:O b with
  |true=>
   rw[jb ((hh _).2 ⟨b,rfl,fC⟩),yg fC,hs]
  |false=>
   rw[ja (fun x=>by obtain⟨c,hc,tl⟩:=(hh _).1 x;rw[<-vJ hc,fC]at tl;cases tl),vh fC N hb,hs]
 refine⟨_,Pg h (by rw[ly];exact MG _ _),fun c hc=> ?_,hh',ly⟩;unfold cC at hc;split at hc
 ·omega
 ·exact hO c hc
theorem SM {D:DataW Unit}{b:Nat}(hO:∀b,O b=true->b<N)(hD:w.ownsMap Tryz.prog 3 unitElem mb N D)(hh:∀kl,Maps.has D kl=true↔∃b,kl=iM b/\O b=true)(hs:Maps.size D=gV O N)
  (h:w'.ownsMap Tryz.prog 3 unitElem mb N (D.del (iM b))):cO w' mb N (cC O b false):=by
 have hh':∀kl,Maps.has (D.del (iM b)) kl=true↔∃c,kl=iM c/\cC O b false c=true:=by
  intro kl;by_cases e:kl=iM b
  ·subst e;rw[Maps.has_del_same];refine⟨fun h=>(by cases h),fun⟨c,hc,tl⟩=> ?_⟩;rw[<-vJ hc]at tl;simp[cC]at tl
  ·rw[Maps.has_del_other e,hh];constructor
   ·rintro⟨c,rfl,hc⟩;exact⟨c,rfl,by unfold cC;rw[ja (fun x=>e (by rw[x]))];exact hc⟩
   ·rintro⟨c,rfl,hc⟩;refine⟨c,rfl,?_⟩;unfold cC at hc;rw[ja (fun x=>e (by rw[x]))]at hc;exact hc
 refine⟨_,h,fun c hc=> ?_,hh',?_⟩
 ·unfold cC at hc;split at hc
  ·cases hc
  ·exact hO c hc
 ·have:=Maps.size_del (k:=iM b) (hD.tidy OD);cases fC:O b with
  |true=>
   rw[jb ((hh _).2 ⟨b,rfl,fC⟩),hs]at this;have:=Av fC N (hO b fC);omega
  |false=>
   rw[ja (fun x=>by obtain⟨c,hc,tl⟩:=(hh _).1 x;rw[<-vJ hc,fC]at tl;cases tl),hs]at this;rw[yg fC];exact this
end
section
variable (w:World) {ops:Array Oper} {rest:List Oper} {o:Oper} {a:Act} {Q:Exit->Act->World->Prop} {mb N:Nat} {O:Nat->Bool}
theorem qp (hg:o.guard=none)(m x v:Operand)(ax:o.op=Op.mapUpdate 163 m x v)(b:Nat)(hm:a.eval m=.map (some mb))(hx:a.eval x=.int .i64 (b:Nat))(hv:a.eval v=.agg #[])
  (h:cO w mb N O) (hb:b<N) (hN:N<=4000) (hK:∀w',cO w' mb N (cC O b true)->w.grownBy w' (some mb)->wpList Tryz.prog ops Q rest (a.put o.dst undef) w'):wpList Tryz.prog ops Q (o::rest) a w:=by
 obtain⟨D,hD,hO,hh,hs⟩:=h;exact wpList_mapUpdate_own w hg m x v _ ax _ _ OD Tryz.underlying163 unitElem mb N D hm hD (by unfold maxLen;omega) _ _ (iM b) hx hv (MY (by omega)) (.agg []) [] unitElem_mk
  fun w' h1 h2=>hK w' (SN hO hD hh hs hb h1) h2
theorem zt (hg:o.guard=none)(m x:Operand)(ax:o.op=Op.call {callee:=Callee.builtin Builtin.delete,args:= #[m,x],argTypes:= #[163,3]})(b:Nat)(hm:a.eval m=.map (some mb))(hx:a.eval x=.int .i64 (b:Nat))
  (h:cO w mb N O) (hb:b<=100000) (hK:∀w',cO w' mb N (cC O b false)->w.grownBy w' (some mb)->wpList Tryz.prog ops Q rest (a.put o.dst (.tuple #[])) w'):wpList Tryz.prog ops Q (o::rest) a w:=by
 obtain⟨D,hD,hO,hh,hs⟩:=h;exact wpList_delete_own w hg m x _ _ ax _ OD Tryz.underlying163 unitElem mb N D hm hD _ (iM b) hx (MY hb) fun w' h1 h2=>hK w' (SM hO hD hh hs h1) h2.grown
theorem ij (hg:o.guard=none)(m:Operand)(ax:o.op=Op.call {callee:=Callee.builtin Builtin.len,args:= #[m],argTypes:= #[163]})(hm:a.eval m=.map (some mb))(h:cO w mb N O)
  (hK:wpList Tryz.prog ops Q rest (a.put o.dst (.int .i64 (gV O N:Nat))) w):wpList Tryz.prog ops Q (o::rest) a w:=by
 obtain⟨D,hD,hO,hh,hs⟩:=h;refine wpList_len_own w hg m _ ax _ _ Tryz.underlying163 unitElem mb N D hm hD ?_;rw[hs];exact hK
end
theorem PH {w:World}{mb N:Nat}{O:Nat->Bool}(h:cO w mb N O):∃w',(∀ty,(Builtin.clear_ #[163] ty #[.map (some mb)]).run Tryz.prog w=.ok (.tuple #[]) w')/\cO w' mb N (fun _=>false)/\w.grownBy w' (some mb):=by
 obtain⟨es,clock,hb⟩:=h.isMap;have U7:∀ty,(Builtin.clear_ #[163] ty #[.map (some mb)]).run Tryz.prog w=.ok (.tuple #[]) (ChangeMaps.setBlock w mb (.map #[] clock)):=fun ty=>by
  simp[Builtin.clear_,run_underlying Tryz.underlying163,MapKept.run_getObj_map hb,MapKept.run_setObj_map _ hb,Result.andThen,ChangeMaps.setBlock]
 refine⟨_,U7,⟨.map [],⟨#[],clock,ChangeMaps.heap_setBlock_same hb _,⟨by simp,MapKept.stamped_empty clock,by simp⟩,jQ _,rfl⟩,fun _ h=>(by cases h),fun kl=>⟨fun h=>(by cases h),fun⟨_,_,h⟩=>(by cases h)⟩,(km N fun _ _=>rfl).symm⟩,⟨rfl,rfl,rfl,by simp[ChangeMaps.setBlock],fun i _ hi=>ChangeMaps.heap_setBlock_other hb _ (fun e=>hi (by rw[e]))⟩⟩
structure eI (s:List Nat):Prop where
 len:s.length=24
 lt:∀k,s.getD k 0<16
def aT (w:World)(g:Nat)(E:List (List Nat)):Prop:=
 (∀s∈E,eI s)/\∃cs,w.heap[g]?=some (.cells cs 209 (0,0))/\cs.size=24*E.length/\∀i j,i<E.length->j<24->cs[i*24+j]?=some (.int .u8 ((E.getD i []).getD j 0:Nat))
theorem MR {E:List (List Nat)}{i:Nat}(h:i<E.length):E.getD i []∈E:=by
 rw[jA,jB h];exact jL h
theorem Gw (E:List (List Nat))(i:Nat)(t:List Nat)(hi:i<E.length)(a:Nat):(E.set i t).getD a []=if a=i then t else E.getD a []:=by
 simp only[List.getD_eq_getElem?_getD,List.getElem?_set];by_cases h:a=i
 ·subst h;simp[hi]
 ·rw[ja (fun e=>h e.symm),ja h]
section
variable {w w':World} {g:Nat} {E:List (List Nat)}
theorem aT.lt (h:aT w g E):g<w.heap.size:=by obtain⟨-,cs,h,-⟩:=h;exact lt_of_heap h
theorem aT.ok (h:aT w g E){i:Nat}(hi:i<E.length):eI (E.getD i []):=h.1 _ (MR hi)
theorem aT.heap (h:aT w g E)(he:w'.heap[g]?=w.heap[g]?):aT w' g E:=by
 obtain⟨h0,cs,h,r⟩:=h;exact⟨h0,cs,he.trans h,r⟩
theorem aT.range (h:aT w g E)(i:Nat)(hi:i<E.length):w.rangeAt g (i*24) (aq (E.getD i [])):=fun j v hv=>by
 have hl:=(h.ok hi).len;obtain⟨-,cs,h,-,h'⟩:=h;have hj:j<24:=by have:=(List.getElem?_eq_some_iff.mp hv).1;rw[dy,hl]at this;exact this
 rw[cell_of_heap h,h' i j hi hj,<-hv];have:j<(E.getD i []).length:=by rw[hl];exact hj
 generalize E.getD i []=s at*;simp[aq,this]
theorem aT.has (h:aT w g E)(i:Nat)(hi:i<E.length):yz w g (i*24):=⟨_,(h.ok hi).len,h.range i hi⟩
theorem aT.of (h:aT w g E)(i:Nat)(hi:i<E.length):Fe w g (i*24)=(aq (E.getD i [])).toArray:=Ff (h.ok hi).len (h.range i hi)
theorem aT.room (h:aT w g E)(i:Nat)(hi:i<E.length):s7 w g (i*24):=fun j hj=>by
 obtain⟨-,cs,h,hs,h'⟩:=h;rw[cell_of_heap h,frozen_of_heap h,h' i j hi hj];exact⟨rfl,rfl⟩
theorem aT.store (h:aT w g E)(i:Nat)(hi:i<E.length){t:List Nat}(ht:eI t):aT (w.setCells g (i*24) (aq t)) g (E.set i t):=by
 obtain⟨h0,cs,h,hs,h'⟩:=h;obtain⟨cs',h1,h2,h3⟩:=eL g (aq t) (i*24) w _ _ _ h;have hl:(aq t).length=24:=by rw[dy];exact ht.len
 refine⟨fun s hs=> ?_,cs',h1,by rw[h2,hs];simp,fun a j ha hj=> ?_⟩
 ·rcases List.mem_or_eq_of_mem_set hs with h|h
  ·exact h0 s h
  ·rw[h];exact ht
 rw[List.length_set]at ha;rw[h3,Gw E i t hi,hl];by_cases hai:a=i
 ·subst hai;have:j<t.length:=by rw[ht.len];exact hj
  rw[jb (by omega),jb rfl,show a*24+j-a*24=j by omega];simp[aq,this]
 ·rw[ja (by omega),ja hai];exact h' a j ha hj
end
theorem He {z a:Nat}{w w':World}{q:QP}{vl vb:Value}{us:List Value}{vss:List (List (Value×Value))}(h:lE z a w q vl vb us vss)
  (key:∀(g:Nat) (cs:Array Value) (e:TypeId) (f:Nat×Nat),w.heap[g]?=some (.cells cs e f)->e≠209->w'.heap[g]?=w.heap[g]?):lE z a w' q vl vb us vss:=by
 have kr:∀{e:TypeId} {s:Nat} {v:Value} {n:Nat} {xs:List Value},e≠209->w.ownsRow z e s v n xs->w'.ownsRow z e s v n xs:=fun{e s v n xs} he hv=>
  gi hv fun g hg=>by
   rcases hv.2 with⟨e',-⟩|⟨g',cap,cur,e',-,Rw,-⟩
   ·rw[e']at hg;cases hg
   ·rw[e']at hg;simp only[Value.ownBlock,Option.some.injEq]at hg;subst hg;exact key _ _ _ _ Rw he
 exact⟨h.base,(key _ _ _ _ h.aJ (by decide)).trans h.aJ,kr (by decide) h.locals,kr (by decide) h.blocks,
  fun j hj=>(h.each j hj).df (kr (by decide) (h.each j hj).row) (fun he hv=>kr (by rcases he with rfl|rfl<;>decide) hv),h.apart⟩
structure kL (z x a ap mb:Nat)(w:World)(q:QP)(vl vb:Value)(us:List Value)(vss:List (List (Value×Value)))(E:List (List Nat))(O:Nat->Bool):Prop where
 aJ:w.heap[x]?=some (.cells #[.pointer (some ⟨a,0,none⟩),.slice (some ⟨ap,0,none⟩) q.blocks.length q.blocks.length,.map (some mb)] 165 (0,0))
 prog:lE z a w q vl vb us vss
 len:E.length=q.blocks.length
 row:aT w ap E
 sy:cO w mb q.blocks.length O
section
variable {z x a ap mb:Nat} {w w':World} {q:QP} {vl vb:Value} {us:List Value} {vss:List (List (Value×Value))} {E E':List (List Nat)} {O O':Nat->Bool}
theorem kL.lt (h:kL z x a ap mb w q vl vb us vss E O):x<w.heap.size:=lt_of_heap h.aJ
theorem kL.facts (h:kL z x a ap mb w q vl vb us vss E O):w.cell? ⟨x,0,none⟩=some (.pointer (some ⟨a,0,none⟩))/\w.cell? ⟨x,1,none⟩=some (.slice (some ⟨ap,0,none⟩) q.blocks.length q.blocks.length)/\w.cell? ⟨x,2,none⟩=some (.map (some mb)):=
 ⟨(cell_of_heap h.aJ 0).trans rfl,(cell_of_heap h.aJ 1).trans rfl,(cell_of_heap h.aJ 2).trans rfl⟩
theorem kL.qb (h:kL z x a ap mb w q vl vb us vss E O)(hT:cq ap mb w w')(hl:E'.length=E.length)(hr:aT w' ap E')(ho:cO w' mb q.blocks.length O'):kL z x a ap mb w' q vl vb us vss E' O':=by
 have key:∀(g:Nat) (cs:Array Value) (e:TypeId) (f:Nat×Nat),w.heap[g]?=some (.cells cs e f)->e≠209->w'.heap[g]?=w.heap[g]?:=fun g cs e f hg he=>by
  refine hT.block g (lt_of_heap hg) (fun e1=> ?_) (fun e1=> ?_)
  ·obtain⟨-,cs',h',-⟩:=h.row;rw[e1,h']at hg;simp only[Option.some.injEq,Obj.cells.injEq]at hg;exact he hg.2.1.symm
  ·obtain⟨es,clock,h'⟩:=h.sy.isMap;rw[e1,h']at hg;cases hg
 exact⟨(key _ _ _ _ h.aJ (by decide)).trans h.aJ,He h.prog key,by rw[hl];exact h.len,hr,ho⟩
theorem kL.below (h:kL z x a ap mb w q vl vb us vss E O)(hb:Below w.heap.size w w'):kL z x a ap mb w' q vl vb us vss E O:=
 h.qb (.sg hb) rfl (h.row.heap (hb.block ap h.row.lt)) (h.sy.below hb)
theorem kL.other {b:Nat}(h:kL z x a ap mb w q vl vb us vss E O)(hT:bw b w w'){s:List Nat}(hs:aX w b s)(hba:b≠ap):kL z x a ap mb w' q vl vb us vss E O:=by
 have hbm:b≠mb:=fun e=>by
  obtain⟨es,clock,h'⟩:=h.sy.isMap;have:=hs.2;rw[e,h']at this;cases this
 have key:∀(g:Nat) (cs:Array Value) (e:TypeId) (f:Nat×Nat),w.heap[g]?=some (.cells cs e f)->e≠209->w'.heap[g]?=w.heap[g]?:=fun g cs e f hg he=>hT.block g (lt_of_heap hg) (fun e1=>by
  rw[e1,hs.2]at hg;simp only[Option.some.injEq,Obj.cells.injEq]at hg;exact he hg.2.1.symm)
 exact⟨(key _ _ _ _ h.aJ (by decide)).trans h.aJ,He h.prog key,h.len,h.row.heap (hT.block ap h.row.lt (fun e=>hba e.symm)),h.sy.heap (hT.block mb h.sy.lt (fun e=>hbm e.symm))⟩
end
end FlwJ
end Go.Proofs.YtmlgajhhnojdjaaGreatDoor

import Derived.Test.YtmlgajhhnojdjaaGreatDoorUAI
import Derived.Deep.DeepFit
set_option maxHeartbeats 8000000
namespace Go.Proofs.YtmlgajhhnojdjaaGreatDoor
namespace FlwB
open Go Go.RowKit Sq Aux PrjF PrjG PrjJ PrjK PrjL PrjM PrjN PrjO PrjP PrjR PrjT FlwA
def aj (s:List Nat):List Value:=s.map fun n=> .int .u8 (n:Nat)
def av (w:World)(b:Nat)(s:List Nat):Prop:=s.length=24/\w.heap[b]?=some (.cells (aj s).toArray 209 (0,0))
section
variable {w w':World} {b:Nat} {s:List Nat}
theorem av.lt (h:av w b s):b<w.heap.size:=lt_of_heap h.2
theorem av.below {z:Nat}(h:av w b s)(hb:Below z w w')(hz:b<z):av w' b s:=⟨h.1,by rw[hb.block b hz];exact h.2⟩
theorem av.cell (h:av w b s)(k:Nat)(hk:k<24):w.cell? ⟨b,k,none⟩=some (.int .u8 (s.getD k 0:Nat)):=by
 rw[cell_of_heap h.2];have:k<s.length:=by rw[h.1];exact hk
 simp[aj,this]
theorem av.frozen (h:av w b s)(k:Nat):w.frozen? ⟨b,k,none⟩=false:=frozen_of_heap h.2 k
theorem av.set (h:av w b s)(k n:Nat):av (w.setCell ⟨b,k,none⟩ (.int .u8 (n:Nat))) b (s.set k n):=by
 refine⟨by simpa using h.1,?_⟩;rw[Go.Proofs.YtmlgajhhnojdjaaGreatDoor.Aux.heap_setCell_same h.2 k];congr 2;simp[aj,List.map_set]
end
def gu (may:Nat)(ps:List (Nat×Nat))(s:List Nat):List Nat:=ps.foldl (fun s x=>s.set (ae x) may) s
def dQ (ps:List (Nat×Nat))(s:List Nat):List Nat:=ps.foldl (fun s x=>s.set (ae x) (if x.2=3 then 8 else 1)) s
theorem M3 (may:Nat)(ps:List (Nat×Nat))(k:Nat)(hk:k<ps.length)(s:List Nat):gu may (ps.drop k) s=gu may (ps.drop (k+1)) (s.set (ae (ps.getD k (0,0))) may):=by
 rw[jE hk];have:ps.getD k (0,0)=ps[k]:=by simp[List.getD_eq_getElem?_getD,hk]
 rw[this];rfl
theorem Jt (ps:List (Nat×Nat))(k:Nat)(hk:k<ps.length)(s:List Nat):dQ (ps.drop k) s=dQ (ps.drop (k+1)) (s.set (ae (ps.getD k (0,0))) (if(ps.getD k (0,0)).2=3 then 8 else 1)):=by
 rw[jE hk];have:ps.getD k (0,0)=ps[k]:=by simp[List.getD_eq_getElem?_getD,hk]
 rw[this];rfl
set_option maxRecDepth 20000 in
theorem iz (may b z n c:Nat)(ad:Option Addr)(ps:List (Nat×Nat))(s:List Nat)(w:World)(hs:av w b s)(hp:aI z w (.slice ad n c) ps)(hx:∀x∈ps,x.1<12)(_hm:may<16):
  Calls Tryz.prog 177 #[.pointer (some ⟨b,0,none⟩),.int .u8 (may:Nat),.slice ad n c] w fun e w'=>e=.returned (.tuple #[])/\av w' b (gu may ps s)/\bD b w w':=by
 have hn:n=ps.length:=by
  obtain⟨ad',c',e⟩:=bG hp;simp only[Value.slice.injEq]at e;exact e.2.1
 have hlen:ps.length<=maxLen:=by
  rcases hp.2 with⟨-,h⟩|⟨g,cap,cur,-,-,-,h1,h2,-⟩
  ·omega
  ·omega
 unfold maxLen at hlen;subst hn;have HF:Hid (gu may ps s=gu may (ps.drop 0) s):=rfl;go_enter Tryz.func177,Tryz.ntmps177
 go_wp2
 go_loopg [10] (ps.length) (fun g v10 wr=>∃(k:Nat) (t:List Nat),k<=ps.length/\g+k=ps.length/\v10=.int .i64 k/\av wr b t/\bD b w wr/\Hid (gu may ps s=gu may (ps.drop k) t))
 case atStart=>exact⟨0,s,jQ _,rfl,rfl,hs,bD.refl _ _,HF⟩
 case round=>
  obtain⟨k,t,hk,Ca,rfl,hS,hT,HI⟩:=hrel;by_cases bg:k<ps.length
  ·have yi:aI z wr (.slice ad ps.length c) ps:=eO hp fun g hg=>hT.block g (hp.lt g hg).2 fun x=>by
    subst x;exact aP hp hs.2 (by decide) hg
   obtain⟨gp,rfl,-,gP,G4,c1,c2⟩:=bK yi k bg;have j6:=hx (ps.getD k (0,0)) (by simp[bg]);have HS:Hid (_=_):=HI.out.trans (M3 may ps k bg t);generalize ps.getD k (0,0)=x at*;have lH:ae x<24:=by unfold ae;split<;>omega
   have NR:(ae x:Int)<24:=by omega
   have eT:Below wr.heap.size wr (wr.alloc (.cells #[.int .i64 (x.1:Nat),.int .i64 (x.2:Nat)] 119)):=(Below.refl _ _).alloc (jC _) _;have AJ:=hS.lt;have KS:=dc x (wr.alloc (.cells #[.int .i64 (x.1:Nat),.int .i64 (x.2:Nat)] 119)).drew (by omega);go_wp2
   go_region_with (go_at_call 62;refine KS.mono ?_;rintro e w1 ⟨rfl,aG⟩;have ir:Below wr.heap.size wr w1:=(eT.trans ((⟨aG.os,aG.tape,aG.output,aG.size,aG.block⟩:Below _ (wr.alloc (.cells #[.int .i64 (x.1:Nat),.int .i64 (x.2:Nat)] 119)) w1).mono eT.size));have ju:=hS.below ir AJ;have s1:=ju.cell (ae x) lH;have s2:=ju.frozen (ae x))
   all_goals go_wp2_with fail
   all_goals
    go_roundg (ps.length-(k+1))
    case measure=>omega
    case rel=>exact⟨k+1,t.set (ae x) may,by omega,by omega,by go_num,ju.set _ may,(hT.on ir).setCell _ _,HS.out⟩
  ·have hx:gu may ps s=t:=by rw[HI.out,jT (by omega)];rfl
   go_wp2
   go_end0
   exact⟨rfl,by rw[hx];exact hS,hT⟩
set_option maxRecDepth 20000 in
theorem Ar (b z n c:Nat)(ad:Option Addr)(ps:List (Nat×Nat))(s:List Nat)(w:World)(hs:av w b s)(hp:aI z w (.slice ad n c) ps)(hx:∀x∈ps,x.1<12):
  Calls Tryz.prog 174 #[.pointer (some ⟨b,0,none⟩),.slice ad n c] w fun e w'=>e=.returned (.tuple #[])/\av w' b (dQ ps s)/\bD b w w':=by
 have hn:n=ps.length:=by
  obtain⟨ad',c',e⟩:=bG hp;simp only[Value.slice.injEq]at e;exact e.2.1
 have hlen:ps.length<=maxLen:=by
  rcases hp.2 with⟨-,h⟩|⟨g,cap,cur,-,-,-,h1,h2,-⟩
  ·omega
  ·omega
 unfold maxLen at hlen;subst hn;have HF:Hid (dQ ps s=dQ (ps.drop 0) s):=rfl;go_enter Tryz.func174,Tryz.ntmps174
 go_wp2
 go_loopg [8] (ps.length) (fun g v8 wr=>∃(k:Nat) (t:List Nat),k<=ps.length/\g+k=ps.length/\v8=.int .i64 k/\av wr b t/\bD b w wr/\Hid (dQ ps s=dQ (ps.drop k) t))
 case atStart=>exact⟨0,s,jQ _,rfl,rfl,hs,bD.refl _ _,HF⟩
 case round=>
  obtain⟨k,t,hk,Ca,rfl,hS,hT,HI⟩:=hrel;by_cases bg:k<ps.length
  ·have yi:aI z wr (.slice ad ps.length c) ps:=eO hp fun g hg=>hT.block g (hp.lt g hg).2 fun x=>by
    subst x;exact aP hp hs.2 (by decide) hg
   obtain⟨gp,rfl,-,gP,G4,c1,c2⟩:=bK yi k bg;have j6:=hx (ps.getD k (0,0)) (by simp[bg]);have HS:Hid (_=_):=HI.out.trans (Jt ps k bg t);generalize ps.getD k (0,0)=x at*;have lH:ae x<24:=by unfold ae;split<;>omega
   have NR:(ae x:Int)<24:=by omega
   have eT:Below wr.heap.size wr (wr.alloc (.cells #[.int .i64 (x.1:Nat),.int .i64 (x.2:Nat)] 119)):=(Below.refl _ _).alloc (jC _) _;have AJ:=hS.lt;have KS:=dc x (wr.alloc (.cells #[.int .i64 (x.1:Nat),.int .i64 (x.2:Nat)] 119)).drew (by omega);by_cases h3:x.2=3
   ·have cT:(((x.2:Nat):Int)==3)=true:=by rw[h3];rfl
    have HP:Hid (x.2=3):=h3;clear h3;go_wp2
    go_region_with (go_at_call 62;refine KS.mono ?_;rintro e w1 ⟨rfl,aG⟩;have ir:Below wr.heap.size wr w1:=(eT.trans ((⟨aG.os,aG.tape,aG.output,aG.size,aG.block⟩:Below _ (wr.alloc (.cells #[.int .i64 (x.1:Nat),.int .i64 (x.2:Nat)] 119)) w1).mono eT.size));have ju:=hS.below ir AJ;have s1:=ju.cell (ae x) lH;have s2:=ju.frozen (ae x))
    all_goals go_wp2_with fail
    all_goals
     go_roundg (ps.length-(k+1))
     case measure=>omega
     case rel=>exact⟨k+1,t.set (ae x) 8,by omega,by omega,by go_num,ju.set _ 8,(hT.on ir).setCell _ _,by unfold Hid;rw[HS.out,jb HP.out]⟩
   ·have cT:(((x.2:Nat):Int)==3)=false:=by rw[jZ];omega
    have HP:Hid (¬x.2=3):=h3;clear h3;go_wp2
    go_region_with (go_at_call 62;refine KS.mono ?_;rintro e w1 ⟨rfl,aG⟩;have ir:Below wr.heap.size wr w1:=(eT.trans ((⟨aG.os,aG.tape,aG.output,aG.size,aG.block⟩:Below _ (wr.alloc (.cells #[.int .i64 (x.1:Nat),.int .i64 (x.2:Nat)] 119)) w1).mono eT.size));have ju:=hS.below ir AJ;have s1:=ju.cell (ae x) lH;have s2:=ju.frozen (ae x))
    all_goals go_wp2_with fail
    all_goals
     go_roundg (ps.length-(k+1))
     case measure=>omega
     case rel=>exact⟨k+1,t.set (ae x) 1,by omega,by omega,by go_num,ju.set _ 1,(hT.on ir).setCell _ _,by unfold Hid;rw[HS.out,ja HP.out]⟩
  ·have hx:dQ ps s=t:=by rw[HI.out,jT (by omega)];rfl
   go_wp2
   go_end0
   exact⟨rfl,by rw[hx];exact hS,hT⟩
end FlwB
namespace FlwC
open Go Go.RowKit Sq Aux PrjF PrjG PrjJ PrjK PrjL PrjM PrjN PrjO PrjP PrjR PrjT FlwA FlwB
def dv (fit v:Nat):Bool:= !(v&&&(15-fit)==0)
theorem Mm:∀v:Nat,v<16->((bits .andNot .u8 (v:Int) 2 !=0)=dv 2 v)/\((bits .andNot .u8 (v:Int) 6 !=0)=dv 6 v)/\((bits .andNot .u8 (v:Int) 10 !=0)=dv 10 v):=by decide
theorem Fx {v fit:Nat}(hv:v<16)(hfit:fit=2\/fit=6\/fit=10):(bits .andNot .u8 (v:Int) (fit:Int) !=0)=dv fit v:=by
 obtain⟨h1,h2,h3⟩:=Mm v hv;rcases hfit with rfl|rfl|rfl
 ·exact h1
 ·exact h2
 ·exact h3
def bI (fit:Nat)(ps:List (Nat×Nat))(s:List Nat):Bool:=ps.any fun x=>dv fit (s.getD (ae x) 0)
theorem IQ (fit:Nat)(ps:List (Nat×Nat))(k:Nat)(hk:k<ps.length)(s:List Nat):bI fit (ps.drop k) s=(dv fit (s.getD (ae (ps.getD k (0,0))) 0)||bI fit (ps.drop (k+1)) s):=by
 rw[jE hk];have:ps.getD k (0,0)=ps[k]:=by simp[List.getD_eq_getElem?_getD,hk]
 rw[this];rfl
set_option maxRecDepth 20000 in
theorem mB (fit b z n c:Nat)(ad:Option Addr)(ps:List (Nat×Nat))(s:List Nat)(w:World)(hs:av w b s)(hp:aI z w (.slice ad n c) ps)(hx:∀x∈ps,x.1<12)(hv:∀k,s.getD k 0<16)(hfit:fit=2\/fit=6\/fit=10):
  Calls Tryz.prog 219 #[.pointer (some ⟨b,0,none⟩),.int .u8 (fit:Nat),.slice ad n c] w fun e w'=>e=.returned (.bool (bI fit ps s))/\Below w.heap.size w w':=by
 have hn:n=ps.length:=by
  obtain⟨ad',c',e⟩:=bG hp;simp only[Value.slice.injEq]at e;exact e.2.1
 have hlen:ps.length<=maxLen:=by
  rcases hp.2 with⟨-,h⟩|⟨g,cap,cur,-,-,-,h1,h2,-⟩
  ·omega
  ·omega
 unfold maxLen at hlen;subst hn;have HF:Hid (bI fit ps s=bI fit (ps.drop 0) s):=rfl;go_enter Tryz.func219,Tryz.ntmps219
 go_wp2
 go_loopg [11] (ps.length) (fun g v10 wr=>∃k:Nat,k<=ps.length/\g+k=ps.length/\v10=.int .i64 k/\Below w.heap.size w wr/\Hid (bI fit ps s=bI fit (ps.drop k) s))
 case atStart=>exact⟨0,jQ _,rfl,rfl,Below.refl _ _,HF⟩
 case round=>
  obtain⟨k,hk,Ca,rfl,hB,HI⟩:=hrel;by_cases bg:k<ps.length
  ·obtain⟨gp,rfl,-,gP,G4,c1,c2⟩:=bK (aw hp hB) k bg;have j6:=hx (ps.getD k (0,0)) (by simp[bg]);have HS:Hid (_=_):=HI.out.trans (IQ fit ps k bg s);generalize ps.getD k (0,0)=x at*;have lH:ae x<24:=by unfold ae;split<;>omega
   have NR:(ae x:Int)<24:=by omega
   have eT:Below wr.heap.size wr (wr.alloc (.cells #[.int .i64 (x.1:Nat),.int .i64 (x.2:Nat)] 119)):=(Below.refl _ _).alloc (jC _) _;have AJ:=hs.lt;have KS:=dc x (wr.alloc (.cells #[.int .i64 (x.1:Nat),.int .i64 (x.2:Nat)] 119)).drew (by omega);have hvk:=hv (ae x);obtain⟨v,Pk⟩:∃v,v=s.getD (ae x) 0:=⟨_,rfl⟩;rw[<-Pk]at hvk HS;have HV:Hid (s.getD (ae x) 0=v):=Pk.symm;clear Pk;cases hl:dv fit v
   ·have RD:(bits .andNot .u8 (v:Int) (fit:Int) !=0)=false:=by rw[Fx hvk hfit];exact hl
    have HL:Hid (_=_):=hl;clear hl;go_upto_region 4 with fail
    go_region_with (go_at_call 62;refine KS.mono ?_;rintro e w1 ⟨rfl,aG⟩;have ir:Below wr.heap.size wr w1:=(eT.trans ((⟨aG.os,aG.tape,aG.output,aG.size,aG.block⟩:Below _ (wr.alloc (.cells #[.int .i64 (x.1:Nat),.int .i64 (x.2:Nat)] 119)) w1).mono eT.size));have ju:=(hs.below hB AJ).below ir (jK AJ hB.size);have s1:=(ju.cell (ae x) lH).trans (by rw[HV.out]))
    all_goals go_wp2_with fail
    all_goals
     go_roundg (ps.length-(k+1))
     case measure=>omega
     case rel=>exact⟨k+1,by omega,by omega,by go_num,hB.trans (ir.mono hB.size),by unfold Hid;rw[HS.out,HL.out];rfl⟩
   ·have RD:(bits .andNot .u8 (v:Int) (fit:Int) !=0)=true:=by rw[Fx hvk hfit];exact hl
    have HL:Hid (_=_):=hl;clear hl;go_upto_region 4 with fail
    go_region_with (go_at_call 62;refine KS.mono ?_;rintro e w1 ⟨rfl,aG⟩;have ir:Below wr.heap.size wr w1:=(eT.trans ((⟨aG.os,aG.tape,aG.output,aG.size,aG.block⟩:Below _ (wr.alloc (.cells #[.int .i64 (x.1:Nat),.int .i64 (x.2:Nat)] 119)) w1).mono eT.size));have ju:=(hs.below hB AJ).below ir (jK AJ hB.size);have s1:=(ju.cell (ae x) lH).trans (by rw[HV.out]))
    all_goals go_wp2_with fail
    all_goals
     go_ret
     exact⟨by rw[HS.out,HL.out];rfl,hB.trans (ir.mono hB.size)⟩
  ·have hx:bI fit ps s=false:=by rw[HI.out,jT (by omega)];rfl
   go_wp2
   go_ret
   exact⟨by rw[hx];rfl,hB⟩
end FlwC
namespace FlwD
open Go Go.RowKit Sq Aux PrjF PrjG PrjJ PrjK PrjL PrjM PrjN PrjO PrjP PrjR PrjT FlwA FlwB FlwC
def iA (x:Nat×Nat)(s:List Nat):Bool:=x.2==3&&bI 10 [x] s
def fW (q:QP)(x:Nat×Nat)(s:List Nat):Bool:=if q.aJ x=3 then bI 6 [x] s else bI 2 (QP.ai q x) s
def cJ (q:QP)(x:Nat×Nat)(s:List Nat):Nat:=if q.aJ x=3 then s.getD (ae x) 0 else 2
theorem gQ (W:World)(x:Nat×Nat){n:Nat}(hn:W.heap.size=n):aI n (W.alloc (.cells #[.int .i64 (x.1:Nat),.int .i64 (x.2:Nat)] 119)) (.slice (some ⟨n,0,none⟩) 1 1) [x]:=by
 subst hn;exact gK W [x] (by simp)
theorem MY (W:World)(x y:Nat×Nat){n:Nat}(hn:W.heap.size=n):aI n (W.alloc (.cells #[.int .i64 (x.1:Nat),.int .i64 (x.2:Nat),.int .i64 (y.1:Nat),.int .i64 (y.2:Nat)] 119)) (.slice (some ⟨n,0,none⟩) 2 2) [x,y]:=by
 subst hn;exact gK W [x,y] (by simp)
theorem cP {q:QP}{x:Nat×Nat}{n:Nat}(h:x.1<n):∀y∈QP.ai q x,y.1<n:=by
 intro y hy;unfold QP.ai at hy;split at hy
 ·simp only[List.mem_cons,List.not_mem_nil,or_false]at hy;rcases hy with rfl|rfl<;>exact h
 ·simp only[List.mem_singleton]at hy;subst hy;exact h
set_option maxRecDepth 20000 in
theorem Ak (b:Nat)(x:Nat×Nat)(s:List Nat)(w:World)(hs:av w b s)(hx:x.1<12)(hv:∀k,s.getD k 0<16):
  Calls Tryz.prog 220 #[.pointer (some ⟨b,0,none⟩),.agg #[.int .i64 (x.1:Nat),.int .i64 (x.2:Nat)]] w fun e w'=>e=.returned (.bool (iA x s))/\Below w.heap.size w w':=by
 have aF:Below w.heap.size w (w.alloc (.cells #[.int .i64 (x.1:Nat),.int .i64 (x.2:Nat)] 119)):=(Below.refl _ _).alloc (jC _) _;have Tf:=aF.alloc aF.size (.cells #[.int .i64 (x.1:Nat),.int .i64 (x.2:Nat)] 119);have KL:=mB 10 b _ 1 1 _ [x] s _ (hs.below Tf hs.lt) (gQ (w.alloc (.cells #[.int .i64 (x.1:Nat),.int .i64 (x.2:Nat)] 119)) x (n:=w.heap.size+1) (by simp)) (fun y hy=>by simp only[List.mem_singleton]at hy;subst hy;exact hx) hv (by simp);by_cases h3:x.2=3
 ·have b3:(((x.2:Nat):Int)==3)=true:=by rw[h3];rfl
  have hr:iA x s=bI 10 [x] s:=by rw[iA,h3];rfl
  rw[hr];clear h3 hr;generalize bI 10 [x] s=r at*;go_enter Tryz.func220,Tryz.ntmps220
  go_wp2_with (go_at_call 219;refine KL.mono ?_;rintro e w1 ⟨rfl,aG⟩)
  go_ret
  exact⟨rfl,Tf.trans (aG.mono Tf.size)⟩
 ·have b3:(((x.2:Nat):Int)==3)=false:=by rw[jZ];omega
  have hr:iA x s=false:=by rw[iA,show(x.2==3)=false by simpa using h3];rfl
  rw[hr];clear h3 hr KL;go_enter Tryz.func220,Tryz.ntmps220
  go_wp2
  go_ret
  exact⟨rfl,aF⟩
set_option maxRecDepth 20000 in
theorem Np (q:QP)(b:Nat)(x:Nat×Nat)(s:List Nat)(v u:Value)(a:Nat)(w:World)(hp:w.heap[a]?=some (.cells #[v,u] 110 (0,0)))(hl:gM w v q.locals)(bU:q.locals.length<=4000)(D6:x.1<q.locals.length)(hs:av w b s)(hx:x.1<12)(hv:∀k,s.getD k 0<16):
  Calls Tryz.prog 221 #[.pointer (some ⟨b,0,none⟩),.pointer (some ⟨a,0,none⟩),.agg #[.int .i64 (x.1:Nat),.int .i64 (x.2:Nat)]] w fun e w'=>e=.returned (.bool (fW q x s))/\Below w.heap.size w w':=by
 have aF:Below w.heap.size w (w.alloc (.cells #[.int .i64 (x.1:Nat),.int .i64 (x.2:Nat)] 119)):=(Below.refl _ _).alloc (jC _) _;have bg:=lt_of_heap hp;have Tu:∀w',Below w.heap.size w w'->w'.heap[a]?=some (.cells #[v,u] 110 (0,0)):=fun w' hb=>by rw[hb.block a bg];exact hp
 have KK:=mA q x v u a _ (Tu _ aF) (hl.below aF) bU D6;have KH:=fun w' (hb:Below w.heap.size w w')=>c8 q x v u a w' (Tu _ hb) (hl.below hb) D6
 have c0:∀w',Below (w.alloc (.cells #[.int .i64 (x.1:Nat),.int .i64 (x.2:Nat)] 119)).heap.size (w.alloc (.cells #[.int .i64 (x.1:Nat),.int .i64 (x.2:Nat)] 119)) w'->w'.cell? ⟨w.heap.size,0,none⟩=some (.int .i64 (x.1:Nat))/\w'.cell? ⟨w.heap.size,1,none⟩=some (.int .i64 (x.2:Nat)):=fun w' hb=>
  ⟨(hb.cell (p:=⟨w.heap.size,0,none⟩) (by simp)).trans (by simp),(hb.cell (p:=⟨w.heap.size,1,none⟩) (by simp)).trans (by simp)⟩
 by_cases h3:q.aJ x=3
 ·have hr:fW q x s=bI 6 [x] s:=by rw[fW,jb h3]
  have KL:=fun(W:World) (hb:Below w.heap.size w W)=>mB 6 b _ 1 1 _ [x] s _ (hs.below (hb.alloc hb.size _) hs.lt) (gQ W x (n:=W.heap.size) rfl) (fun y hy=>by simp only[List.mem_singleton]at hy;subst hy;exact hx) hv (by simp)
  rw[hr];rw[h3]at KK;clear h3 hr KH;generalize bI 6 [x] s=r at*;go_enter Tryz.func221,Tryz.ntmps221
  go_wp2_with (first
   |(go_at_call 207;refine KK.mono ?_;rintro e w1 ⟨rfl,aG⟩;have dH:=aF.trans (aG.mono aF.size);obtain⟨y0,y1⟩:=c0 _ aG)
   |(go_at_call 219;refine(KL w1 dH).mono ?_;rintro e w2 ⟨rfl,bH⟩))
  go_ret
  have dT:=dH.alloc dH.size (.cells #[.int .i64 (x.1:Nat),.int .i64 (x.2:Nat)] 119);exact⟨rfl,dT.trans (bH.mono dT.size)⟩
 ·have hr:fW q x s=bI 2 (QP.ai q x) s:=by rw[fW,ja h3]
  have KL:=fun(W:World) (g c:Nat) (hb:Below w.heap.size w W) (z:Nat) (hP:aI z W (.slice (some ⟨g,0,none⟩) (QP.ai q x).length c) (QP.ai q x))=>mB 2 b z _ c _ (QP.ai q x) s W (hs.below hb hs.lt) hP (cP hx) hv (by simp)
  have b3:(((q.aJ x:Nat):Int)==3)=false:=by rw[jZ];omega
  rw[hr];clear h3 hr;generalize bI 2 (QP.ai q x) s=r at*;generalize QP.ai q x=hv' at*;generalize q.aJ x=kv at*;go_enter Tryz.func221,Tryz.ntmps221
  go_wp2_with (first
   |(go_at_call 207;refine KK.mono ?_;rintro e w1 ⟨rfl,aG⟩;have dH:=aF.trans (aG.mono aF.size);obtain⟨y0,y1⟩:=c0 _ aG)
   |(go_at_call 102;refine(KH w1 dH).mono ?_;rintro e w2 ⟨g,c,rfl,me,bH⟩;have dT:=dH.trans (bH.mono dH.size))
   |(go_at_call 219;refine(KL w2 g c dT _ me).mono ?_;rintro e w3 ⟨rfl,cT⟩))
  go_ret
  exact⟨rfl,dT.trans (cT.mono dT.size)⟩
set_option maxRecDepth 20000 in
theorem MI (q:QP)(b:Nat)(x:Nat×Nat)(s:List Nat)(v u:Value)(a:Nat)(w:World)(hp:w.heap[a]?=some (.cells #[v,u] 110 (0,0)))(hl:gM w v q.locals)(bU:q.locals.length<=4000)(D6:x.1<q.locals.length)(hs:av w b s)(hx:x.1<12):
  Calls Tryz.prog 178 #[.pointer (some ⟨b,0,none⟩),.pointer (some ⟨a,0,none⟩),.agg #[.int .i64 (x.1:Nat),.int .i64 (x.2:Nat)]] w fun e w'=>e=.returned (.int .u8 (cJ q x s:Nat))/\Below w.heap.size w w':=by
 have aF:Below w.heap.size w (w.alloc (.cells #[.int .i64 (x.1:Nat),.int .i64 (x.2:Nat)] 119)):=(Below.refl _ _).alloc (jC _) _;have bg:=lt_of_heap hp;have Tu:∀w',Below w.heap.size w w'->w'.heap[a]?=some (.cells #[v,u] 110 (0,0)):=fun w' hb=>by rw[hb.block a bg];exact hp
 have KK:=mA q x v u a _ (Tu _ aF) (hl.below aF) bU D6;have c0:∀w',Below (w.alloc (.cells #[.int .i64 (x.1:Nat),.int .i64 (x.2:Nat)] 119)).heap.size (w.alloc (.cells #[.int .i64 (x.1:Nat),.int .i64 (x.2:Nat)] 119)) w'->w'.cell? ⟨w.heap.size,0,none⟩=some (.int .i64 (x.1:Nat))/\w'.cell? ⟨w.heap.size,1,none⟩=some (.int .i64 (x.2:Nat)):=fun w' hb=>
  ⟨(hb.cell (p:=⟨w.heap.size,0,none⟩) (by simp)).trans (by simp),(hb.cell (p:=⟨w.heap.size,1,none⟩) (by simp)).trans (by simp)⟩
 by_cases h3:q.aJ x=3
 ·have hr:cJ q x s=s.getD (ae x) 0:=by rw[cJ,jb h3]
  have lH:ae x<24:=by unfold ae;split<;>omega
  have NR:(ae x:Int)<24:=by omega
  obtain⟨vv,Pk⟩:∃vv,vv=s.getD (ae x) 0:=⟨_,rfl⟩;rw[hr,<-Pk];rw[h3]at KK;have HV:Hid (s.getD (ae x) 0=vv):=Pk.symm;have KS:=fun w'=>dc x w' (by omega)
  clear h3 hr Pk;go_enter Tryz.func178,Tryz.ntmps178
  go_upto_region 3 with(go_at_call 207;refine KK.mono ?_;rintro e w1 ⟨rfl,aG⟩;have dH:=aF.trans (aG.mono aF.size);obtain⟨y0,y1⟩:=c0 _ aG)
  have KSd:=KS w1.drew;go_region_with (go_at_call 62;refine KSd.mono ?_;rintro e w2 ⟨rfl,bH⟩;have kN:Below w1.heap.size w1 w2:=⟨bH.os,bH.tape,bH.output,bH.size,bH.block⟩;have dT:=dH.trans (kN.mono dH.size);have s1:=((hs.below dT hs.lt).cell (ae x) lH).trans (by rw[HV.out]))
  all_goals go_wp2_with fail
  all_goals
   go_ret
   exact⟨rfl,dT⟩
 ·have hr:cJ q x s=2:=by rw[cJ,ja h3]
  have b3:(((q.aJ x:Nat):Int)==3)=false:=by rw[jZ];omega
  rw[hr];clear h3 hr;generalize q.aJ x=kv at*;go_enter Tryz.func178,Tryz.ntmps178
  go_wp2_with (go_at_call 207;refine KK.mono ?_;rintro e w1 ⟨rfl,aG⟩;have dH:=aF.trans (aG.mono aF.size))
  go_ret
  exact⟨rfl,dH⟩
theorem xk (i:Nat)(w:World):Calls Tryz.prog 218 #[.int .i64 (i:Nat)] w fun e w'=>e=.returned (.int .u8 ((if i=0 then 4 else 2:Nat):Nat))/\w'=w:=by
 by_cases h:i=0
 ·subst h;go_enter Tryz.func218,Tryz.ntmps218
  go_wp2
  go_ret
  exact⟨rfl,rfl⟩
 ·have b0:((i:Int)==0)=false:=by rw[jZ];omega
  rw[ja h];clear h;go_enter Tryz.func218,Tryz.ntmps218
  go_wp2
  go_ret
  exact⟨rfl,rfl⟩
end FlwD
namespace FlwE
open Go Go.RowKit Sq Aux PrjF PrjG PrjJ PrjK PrjL PrjM PrjN PrjO PrjP PrjR PrjS PrjT FlwA FlwB FlwC FlwD
structure PQ (w:World)(a:Nat)(q:QP)(v u:Value):Prop where
 aM:w.heap[a]?=some (.cells #[v,u] 110 (0,0))
 loc:gM w v q.locals
theorem sY {w w':World}{z b:Nat}{e:TypeId}{sz n:Nat}{v:Value}{xs:List Value}(h:w.ownsRow z e sz v n xs)(hT:bD b w w'){cs:Array Value}{t:TypeId}{f:Nat×Nat}(hb:w.heap[b]?=some (.cells cs t f))(he:e≠t):w'.ownsRow z e sz v n xs:=
 eO h fun g hg=>hT.block g (h.lt g hg).2 fun x=>by subst x;exact aP h hb he hg
section
variable {w w':World} {a b:Nat} {q:QP} {v u:Value} {s:List Nat}
theorem PQ.below (h:PQ w a q v u)(hb:Below w.heap.size w w'):PQ w' a q v u:=⟨by rw[hb.block a (lt_of_heap h.aM)];exact h.aM,h.loc.below hb⟩
theorem PQ.lx (h:PQ w a q v u)(hT:bD b w w')(hs:av w b s):PQ w' a q v u:=by
 refine⟨?_,?_⟩
 ·rw[hT.block a (lt_of_heap h.aM) (fun x=>by
   have h1:=h.aM;rw[x,hs.2]at h1;simp only[Option.some.injEq,Obj.cells.injEq]at h1;exact absurd h1.2.1 (by decide))]
  exact h.aM
 ·obtain⟨z,hz⟩:=h.loc;exact⟨z,sY hz hT hs.2 (by decide)⟩
theorem Mu {z:Nat}{l:ab}{vp vn:Value}(h:aC z w l vp vn)(hT:bD b w w')(hs:av w b s):aC z w' l vp vn:=
 ⟨sY h.places hT hs.2 (by decide),sY h.next hT hs.2 (by decide)⟩
end
def aL (q:QP)(l:ab)(s:List Nat):List Nat:=
 if l.op=12 then dQ (QP.ai q (l.places.getD 1 (0,0))) s else if l.op=14 then dQ [l.places.getD 1 (0,0)] s else s
theorem ax {z:Nat}{w:World}{ap:Option Addr}{cp:Nat}{l:ab}{vn:Value}(h:aC z w l (.slice ap l.places.length cp) vn){n:Nat}(hn:l.places.length=n)(j:Nat)(hj:j<n):
  ∃g,ap=some ⟨g,0,none⟩/\n<=cp/\g<w.heap.size/\w.cell? ⟨g,j*2,none⟩=some (.int .i64 ((l.places.getD j (0,0)).1:Nat))/\w.cell? ⟨g,j*2+1,none⟩=some (.int .i64 ((l.places.getD j (0,0)).2:Nat)):=by
 obtain⟨g,e,-,hc,hg,c1,c2⟩:=bK h.places j (by omega);exact⟨g,e,by omega,hg,c1,c2⟩
set_option maxRecDepth 20000 in
theorem vC (q:QP)(l:ab)(nb z a b:Nat)(v u:Value)(ap an:Option Addr)(cp cn:Nat)(s:List Nat)(w:World)(hp:PQ w a q v u)(bU:q.locals.length<=12)(hl:fY q.locals.length nb l)
  (hA:aC z w l (.slice ap l.places.length cp) (.slice an l.next.length cn)) (hs:av w b s):
  Calls Tryz.prog 125 #[.pointer (some ⟨b,0,none⟩),.pointer (some ⟨a,0,none⟩),.agg #[.int .i64 (l.num:Nat),.int .i64 (l.op:Nat),.slice ap l.places.length cp,.int .i64 l.number,.int .i64 l.flag,.slice an l.next.length cn]] w fun e w'=>e=.returned (.tuple #[])/\av w' b (aL q l s)/\bD b w w':=by
 have aF:Below w.heap.size w (w.alloc (.cells #[.int .i64 (l.num:Nat),.int .i64 (l.op:Nat),.slice ap l.places.length cp,.int .i64 l.number,.int .i64 l.flag,.slice an l.next.length cn] 115)):=(Below.refl _ _).alloc (jC _) _;by_cases bR:l.op=12
 ·have hlen:l.places.length=2:=by rw[hl.bt,bR];rfl
  obtain⟨g,rfl,gP,hg,c1,c2⟩:=ax hA hlen 1 (by omega);have d1:=(aF.cell (p:=⟨g,2,none⟩) hg).trans c1;have d2:=(aF.cell (p:=⟨g,3,none⟩) hg).trans c2;have hx:=(hl.places (l.places.getD 1 (0,0)) (by simp[hlen])).1;have hr:aL q l s=dQ (QP.ai q (l.places.getD 1 (0,0))) s:=by rw[aL,jb bR]
  have b12:(((l.op:Nat):Int)==12)=true:=by rw[bR];rfl
  have XW:=hp.below aF;have KH:=c8 q (l.places.getD 1 (0,0)) v u a _ XW.aM XW.loc hx;rw[hr];clear hr c1 c2;generalize l.places.getD 1 (0,0)=x at*;have KT:=fun(W:World) (g c:Nat) (hb:Below w.heap.size w W) (z:Nat) (hP:aI z W (.slice (some ⟨g,0,none⟩) (QP.ai q x).length c) (QP.ai q x))=>Ar b z _ c _ (QP.ai q x) s W (hs.below hb hs.lt) hP (cP (by omega))
  have ak:Hid (l.op=12):=bR;rw[hlen]at aF d1 d2 KH⊢;clear bR;go_enter Tryz.func125,Tryz.ntmps125
  go_wp2_with (first
   |(go_at_call 102;refine KH.mono ?_;rintro e w2 ⟨g2,c2,rfl,me,bH⟩;have dT:=aF.trans (bH.mono aF.size))
   |(go_at_call 174;refine(KT w2 g2 c2 dT _ me).mono ?_;rintro e w3 ⟨rfl,GZ,A0⟩))
  go_end0
  exact⟨rfl,GZ,(bD.of dT).trans A0⟩
 ·have b12:(((l.op:Nat):Int)==12)=false:=by rw[jZ];omega
  by_cases AV:l.op=14
  ·have hlen:l.places.length=2:=by rw[hl.bt,AV];rfl
   obtain⟨g,rfl,gP,hg,c1,c2⟩:=ax hA hlen 1 (by omega);have d1:=(aF.cell (p:=⟨g,2,none⟩) hg).trans c1;have d2:=(aF.cell (p:=⟨g,3,none⟩) hg).trans c2;have hx:=(hl.places (l.places.getD 1 (0,0)) (by simp[hlen])).1;have hr:aL q l s=dQ [l.places.getD 1 (0,0)] s:=by rw[aL,ja bR,jb AV]
   have b14:(((l.op:Nat):Int)==14)=true:=by rw[AV];rfl
   rw[hr];clear hr c1 c2;generalize l.places.getD 1 (0,0)=x at*;rw[hlen]at aF d1 d2⊢;have Tf:=aF.alloc aF.size (.cells #[.int .i64 (x.1:Nat),.int .i64 (x.2:Nat)] 119);have KT:=Ar b _ 1 1 _ [x] s _ (hs.below Tf hs.lt) (gQ (w.alloc (.cells #[.int .i64 (l.num:Nat),.int .i64 (l.op:Nat),.slice (some ⟨g,0,none⟩) 2 cp,.int .i64 l.number,.int .i64 l.flag,.slice an l.next.length cn] 115)) x (n:=w.heap.size+1) (by simp)) (fun y hy=>by simp only[List.mem_singleton]at hy;subst hy;omega);clear bR AV;go_enter Tryz.func125,Tryz.ntmps125
   go_wp2_with (go_at_call 174;refine KT.mono ?_;rintro e w3 ⟨rfl,GZ,A0⟩)
   go_end0
   exact⟨rfl,GZ,(bD.of Tf).trans A0⟩
  ·have b14:(((l.op:Nat):Int)==14)=false:=by rw[jZ];omega
   have hr:aL q l s=s:=by rw[aL,ja bR,ja AV]
   rw[hr];clear hr bR AV;go_enter Tryz.func125,Tryz.ntmps125
   go_wp2
   go_end0
   exact⟨rfl,hs.below aF hs.lt,bD.of aF⟩
end FlwE
namespace Own
open Go Go.RowKit Sq Aux PrjJ PrjK PrjL PrjM PrjS PrjT FlwA FlwB FlwE
section
variable {x a:Nat} {w w0:World} {vm vt vi:Value} {o:Own}
theorem dq.fd (h:dq w0 x a w o vi vm vt):w.cell? ⟨x,4,none⟩=some vi/\w.frozen? ⟨x,4,none⟩=false:=h.eG.more 1
theorem dq.td (h:dq w0 x a w o vi vm vt){vi':Value}{l:List Int}(hf:cy w0 vi' l):dq w0 x a (w.setCell ⟨x,4,none⟩ vi') {o with aO:=l} vi' vm vt/\aA x vm vt w vm vt (w.setCell ⟨x,4,none⟩ vi'):=by
 obtain⟨h1,h2⟩:=h.eG.oK 1 vi';exact⟨⟨h1,h.aZ.trans (h2.below h.eG (jC _) h.aZ.size),h.ints,h.boxes,hf⟩,h2⟩
theorem cy.tail {v:Int}{r:List Int}{g f c:Nat}(h:cy w0 (.slice (some ⟨g,f,none⟩) (v::r).length c) (v::r)):cy w0 (.slice (some ⟨g,f+1,none⟩) r.length (c-1)) r:=by
 obtain⟨ad,c',e,h1,h2,h3⟩:=h;simp only[Value.slice.injEq]at e;obtain⟨rfl,-,rfl⟩:=e;simp only[List.length_cons]at h1;refine⟨_,_,rfl,by omega,by omega,fun j hj=> ?_⟩;obtain⟨g',f',e,hg,hc⟩:=h3 (j+1) (by simp;omega);simp only[Option.some.injEq,Addr.mk.injEq,and_true]at e;obtain⟨rfl,rfl⟩:=e;exact⟨g,f+1,rfl,hg,by rw[show f+1+j=f+(j+1) by omega,hc];rfl⟩
set_option maxRecDepth 20000 in
theorem yQ (h:dq w0 x a w o vi vm vt):
  Calls Tryz.prog 103 #[.pointer (some ⟨x,4,none⟩)] w fun e w'=>e=.returned (.int .i64 (o.aO.headD 0))/\∃vi',dq w0 x a w' {o with aO:=o.aO.tail} vi' vm vt/\aA x vm vt w vm vt w':=by
 obtain⟨c4,f4⟩:=h.fd;have hF:=h.feed;cases lu:o.aO with
 |nil=>
  rw[lu]at hF;obtain⟨ad,c,rfl,h1,h2,-⟩:=hF;have hO:{o with aO:=([]:List Int)}=o:=by rw[<-lu]
  go_enter Tryz.func103,Tryz.ntmps103
  go_wp2
  go_ret
  exact⟨rfl,_,by rw[List.tail_nil,hO];exact h,aA.refl _ _ _ _⟩
 |cons v r=>
  rw[lu]at hF;have ZE:=hF;obtain⟨ad,c,rfl,h1,h2,h3⟩:=hF;obtain⟨g,f,rfl,hg,hc⟩:=h3 0 (by simp);have hT:=cy.tail ZE;obtain⟨h5,h6⟩:=h.td hT;have c0:w.cell? ⟨g,f,none⟩=some (.int .i64 v):=by
   rw[Nat.add_zero]at hc;exact(h.aZ.cell (p:=⟨g,f,none⟩) hg).trans hc
  simp only[List.length_cons]at h1 h2 h5 c4;have i0:¬((r.length:Int)+1=0):=by omega
  have i1:(((r.length:Int)+1)==0)=false:=by rw[jZ];omega
  have i2:(1:Int)<=(r.length:Int)+1:=by omega
  have hcI:(r.length:Int)+1<=(c:Int):=by omega
  unfold maxLen at h2;by_cases xU:c=1
  ·subst xU;have hr:r=[]:=List.length_eq_zero_iff.mp (by omega);subst hr;have Ua:cy w0 (.slice (some ⟨g,f,none⟩) 0 0) []:=⟨_,_,rfl,jC _,jQ _,fun j hj=>absurd hj (Nat.not_lt_zero _)⟩;obtain⟨k5,k6⟩:=h.td Ua;go_enter Tryz.func103,Tryz.ntmps103
   go_wp2
   go_ret
   exact⟨rfl,_,k5,k6⟩
  ·have AG:¬c-1=0:=by omega
   have hc3:¬c<=1:=by omega
   go_enter Tryz.func103,Tryz.ntmps103
   go_wp2
   go_ret
   exact⟨rfl,_,h5,h6⟩
end
def Own.clear (o:Own)(p:Nat×Nat):Own:={o with boxes:=o.boxes.set (ae p) 0}
def Own.take:List (Nat×Nat)->Own->List Nat×Own
 |[],o=>([],o)
 |p::ps,o=>(o.box p::(Own.take ps (o.clear p)).1,(Own.take ps (o.clear p)).2)
theorem gR:∀(ps:List (Nat×Nat)) (p:Nat×Nat) (o:Own),Own.take (ps++[p]) o=((Own.take ps o).1++[(Own.take ps o).2.box p],(Own.take ps o).2.clear p)
 |[],_,_=>rfl
 |q::ps,p,o=>by rw[jW,Own.take,gR ps p,Own.take];rfl
end Own
namespace Own
open Go Go.RowKit Sq Aux PrjJ PrjK PrjL PrjM PrjS PrjT FlwA FlwB FlwE
theorem UO:(Tryz.prog.info? 3).map (fun i=>(i.zero,i.size,i.bytes))=some (some (.int .i64 0),1,8):=by kernel_rfl
theorem Nq {ps:List (Nat×Nat)}{k:Nat}(hk:k<ps.length)(o:Own):Own.take (ps.take (k+1)) o=((Own.take (ps.take k) o).1++[(Own.take (ps.take k) o).2.box (ps.getD k (0,0))],(Own.take (ps.take k) o).2.clear (ps.getD k (0,0))):=by
 have e:ps.take (k+1)=ps.take k++[ps.getD k (0,0)]:=by
  rw[List.take_add_one,jB hk,jA,jB hk];rfl
 rw[e,gR]
theorem take_len:∀(ps:List (Nat×Nat)) (o:Own),(Own.take ps o).1.length=ps.length
 |[],_=>rfl
 |p::ps,o=>by rw[Own.take];simp[take_len ps]
section
variable {x a:Nat} {w w0 w1:World} {vm vt vi:Value} {o:Own}
theorem aA.lx (h:bD x w w1):aA x vm vt w vm vt w1:=⟨h.os,h.tape,h.output,h.size,fun k hk h1 _ _=>h.block k hk h1,fun _ h=> .inl h,fun _ h=> .inl h⟩
theorem dq.grown (h:dq w0 x a w o vi vm vt){b n:Nat}{v:Value}{xs:List Value}(hb:w0.heap.size<=b)(hr:w.ownsRow b 3 1 v n xs)(hg:w.grownBy w1 v.ownBlock):dq w0 x a w1 o vi vm vt:=by
 refine⟨⟨h.eG.base,h.eG.ty,?_,h.eG.made.kept hg (dF h.eG.made hr (by decide)),h.eG.trace.kept hg (dF h.eG.trace hr (by decide))⟩,h.aZ.trans ⟨hg.os,hg.tape,hg.output,hg.size,fun k hk=>hg.block k (jK hk h.aZ.size) (fun e=> ?_)⟩,h.ints,h.boxes,h.feed⟩
 ·rw[hg.block x h.lt (aU hr h.eG.aM (by decide))];exact h.eG.aM
 ·have:=(hr.lt k e.symm).1;omega
theorem JA (h:bD x w w1){w2:World}{b n:Nat}{e:TypeId}{v:Value}{xs:List Value}(hb:w.heap.size<=b)(hr:w1.ownsRow b e 1 v n xs)(hg:w1.grownBy w2 v.ownBlock):bD x w w2:=
 ⟨hg.os.trans h.os,hg.tape.trans h.tape,hg.output.trans h.output,jS h.size hg.size,fun k hk h1=>(hg.block k (jK hk h.size) (fun e=>by have:=(hr.lt k e.symm).1;omega)).trans (h.block k hk h1)⟩
theorem dq.clear (h:dq w0 x a w o vi vm vt)(p:Nat×Nat):dq w0 x a (w.setCell ⟨x,17+ae p,none⟩ (.int .i64 0)) (o.clear p) vi vm vt:=(h.Qi (ae p) 0).1
set_option maxRecDepth 20000 in
theorem Ct {z n c:Nat}{ad:Option Addr}{ps:List (Nat×Nat)}(h:dq w0 x a w o vi vm vt)(hp:aI z w (.slice ad n c) ps)(hx:∀p∈ps,p.1<12)(hps:ps.length<=1000):
  Calls Tryz.prog 96 #[.pointer (some ⟨x,0,none⟩),.slice ad n c] w fun e w'=>∃v,e=.returned v/\w'.ownsRow w.heap.size 3 1 v ps.length (fC (Own.take ps o).1)/\dq w0 x a w' (Own.take ps o).2 vi vm vt/\bD x w w':=by
 have hn:n=ps.length:=by
  obtain⟨ad',c',e⟩:=PrjP.bG hp;simp only[Value.slice.injEq]at e;exact e.2.1
 have hlen:ps.length<=maxLen:=by
  rcases hp.2 with⟨-,h⟩|⟨g,cap,cur,-,-,-,h1,h2,-⟩
  ·omega
  ·omega
 unfold maxLen at hlen;subst hn;obtain⟨i,hi,Hb,tY,tZ⟩:=info_parts UO;go_enter Tryz.func96,Tryz.ntmps96
 go_wp2
 go_loopg [5,10] (ps.length) (fun g v5 v10 wr=>∃(k:Nat),k<=ps.length/\g+k=ps.length/\v10=.int .i64 k/\dq w0 x a wr (Own.take (ps.take k) o).2 vi vm vt/\wr.ownsRow w.heap.size 3 1 v5 k (fC (Own.take (ps.take k) o).1)/\bD x w wr)
 case atStart=>exact⟨0,jQ _,rfl,rfl,h,World.ownsRow_nil _ _ _ _,bD.refl _ _⟩
 case round=>
  obtain⟨k,hk,Ca,rfl,hO,hR,hT⟩:=hrel;by_cases bg:k<ps.length
  ·have yi:aI z wr (.slice ad ps.length c) ps:=eO hp fun g hg=>hT.block g (hp.lt g hg).2 fun e=>by
    subst e;exact aP hp h.eG.aM (by decide) hg
   obtain⟨gp,rfl,-,gP,G4,c1,c2⟩:=bK yi k bg;have j6:=hx (ps.getD k (0,0)) (by simp[bg]);have HS:=Nq bg o;generalize ps.getD k (0,0)=p at*;generalize (Own.take (ps.take k) o).2=ok at*;generalize (Own.take (ps.take k) o).1=tk at*;have eT:Below wr.heap.size wr (wr.alloc (.cells #[.int .i64 (p.1:Nat),.int .i64 (p.2:Nat)] 119)):=(Below.refl _ _).alloc (jC _) _;have hOx:=hO.below eT;have KB:=yc hOx p j6;have hkI:(k:Int)<ps.length:=by omega
   obtain⟨ad5,c5,rfl⟩:=PrjP.bG hR;have UL:w.heap.size<=wr.heap.size:=hT.size;go_upto_region 6 with(first
    |(go_at_call 99;go_fit KB;rintro e w2 ⟨rfl,bH⟩;have dT:Below wr.heap.size wr w2:=eT.trans (bH.mono eT.size);have aF:Below w2.heap.size w2 (w2.alloc (.cells #[.int .i64 ((ok.box p:Nat):Int)] 3)):=(Below.refl _ _).alloc (jC _) _;have Ru:=aw (aw hR dT) aF;have kd:w.heap.size<=(w2.alloc (.cells #[.int .i64 ((ok.box p:Nat):Int)] 3)).heap.size:=(by have:=dT.size;have:=aF.size;omega))
    |(at_builtin;go_must (refine iI rfl _ _ 113 rfl w.heap.size 3 i (.int .i64 0) 1 8 Tryz.underlying113 hi Hb tY tZ rfl (by decide) _ _ _ rfl Ru w2.heap.size [.int .i64 ((ok.box p:Nat):Int)] rfl jD rfl (by intro u' hu;simp at hu;subst hu;rfl) (by decide) (by omega) kd ?_);intro g4 c4 w4 hown4 hgrow4 hat4 hlt4))
   have YN:dq w0 x a w4 ok vi vm vt:=((hO.below dT).below aF).grown h.aZ.size Ru hgrow4;have Wx:bD x w w4:=JA ((hT.on dT).on aF) (jC _) Ru hgrow4;have Tu:w2.heap[wr.heap.size]?=some (.cells #[.int .i64 (p.1:Nat),.int .i64 (p.2:Nat)] 119 (0,0)):=(bH.block _ (by simp)).trans jD;have RV:=(aF.block _ (lt_of_heap Tu)).trans Tu;have UD:=(hgrow4.block _ (lt_of_heap RV) (aU Ru RV (by decide))).trans RV;have q0:w4.cell? ⟨wr.heap.size,0,none⟩=some (.int .i64 (p.1:Nat)):=by rw[cell_of_heap UD];rfl
   have q1:w4.cell? ⟨wr.heap.size,1,none⟩=some (.int .i64 (p.2:Nat)):=by rw[cell_of_heap UD];rfl
   have lH:ae p<24:=by unfold ae;split<;>omega
   have NR:(ae p:Int)<24:=by omega
   have KS:=dc p w4.drew (by omega);have X5:w4.ownsRow w.heap.size 3 1 (.slice (some ⟨g4,0,none⟩) (k+1) c4) (k+1) (fC (tk++[ok.box p])):=by simpa [fC]using hown4
   clear hgrow4 hown4 Ru aF dT bH Tu RV UD eT hOx KB hR c1 c2;go_region_with (go_at_call 62;go_fit KS;rintro e w5 ⟨rfl,fM⟩;have Ih:Below w4.heap.size w4 w5:=⟨fM.os,fM.tape,fM.output,fM.size,fM.block⟩;have Vn:=YN.below Ih;obtain⟨s1,s2⟩:=Vn.bx lH)
   all_goals go_wp2_with fail
   all_goals
    go_roundg (ps.length-(k+1))
    case measure=>omega
    case rel=>
     have hO6:=Vn.clear p;have L8:=aw X5 Ih;have Iz:=aS L8 (a:=⟨x,17+ae p,none⟩) (.int .i64 0) (aP L8 Vn.eG.aM (by decide));exact⟨k+1,by omega,by omega,by go_num,by rw[HS];exact hO6,by rw[HS];exact Iz,(Wx.on Ih).setCell _ _⟩
  ·have mY:k=ps.length:=by omega
   subst mY;rw[List.take_length]at hO hR;obtain⟨ad5,c5,rfl⟩:=PrjP.bG hR;go_wp2
   go_ret
   exact⟨_,rfl,hR,hO,hT⟩
end
end Own
end Go.Proofs.YtmlgajhhnojdjaaGreatDoor

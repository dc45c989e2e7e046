import Derived.Test.YtmlgajhhnojdjaaGreatDoorRAO
namespace Go.Proofs.YtmlgajhhnojdjaaGreatDoor
namespace FlwA
open Go Go.RowKit Sq Aux PrjF PrjG PrjJ PrjK PrjL PrjM PrjN PrjO PrjP PrjR
def ag (x:Nat×Nat):Nat:=if x.2=2 then 2*x.1+1 else 2*x.1
def QP.ab (q:QP)(x:Nat×Nat):List (Nat×Nat):=if x.2=0/\q.bA x.1=2 then [(x.1,1),(x.1,2)]else [x]
theorem WI {a b:Int}(h:a=b):Ending.returned (.int .i64 a)=.returned (.int .i64 b):=by rw[h]
set_option maxRecDepth 20000 in
theorem kT (x:Nat×Nat)(w:World)(hx:x.1<=4000):
  Calls Tryz.prog 62 #[.agg #[.int .i64 (x.1:Nat),.int .i64 (x.2:Nat)]] w fun e w'=>e=.returned (.int .i64 (ag x:Nat))/\Below w.heap.size w w':=by
 have aX:Below w.heap.size w (w.alloc (.cells #[.int .i64 (x.1:Nat),.int .i64 (x.2:Nat)] 119)):=(Below.refl _ _).alloc (jC _) _;by_cases h:x.2=2
 ·have hb:(((x.2:Nat):Int)==2)=true:=by rw[h];rfl
  have hs:ag x=2*x.1+1:=by rw[ag,jb h]
  rw[hs];clear h;go_enter Tryz.func62,Tryz.ntmps62
  go_wp2
  go_ret
  exact⟨WI (by omega),aX⟩
 ·have hb:(((x.2:Nat):Int)==2)=false:=by rw[jZ];omega
  have hs:ag x=2*x.1:=by rw[ag,ja h]
  rw[hs];clear h;go_enter Tryz.func62,Tryz.ntmps62
  go_wp2
  go_ret
  exact⟨WI (by omega),aX⟩
def bO (z:Nat)(w:World)(v:Value)(ps:List (Nat×Nat)):Prop:=w.ownsRow z 119 2 v ps.length (bK ps)
theorem mI (w:World)(ps:List (Nat×Nat))(Qa:ps.length<=100):bO w.heap.size (w.alloc (.cells (bK ps).toArray 119)) (.slice (some ⟨w.heap.size,0,none⟩) ps.length ps.length) ps:=by
 have hl:(bK ps).length=ps.length*2:=Gl BD 2 (fun _=>rfl) ps;refine⟨hl,.inr ⟨w.heap.size,ps.length,(bK ps).toArray,rfl,jC _,jD,jC _,by unfold maxLen;omega,by simpa using hl,?_⟩⟩;rw[<-hl];simp
set_option maxRecDepth 20000 in
set_option maxHeartbeats 1000000 in
theorem ee (q:QP)(x:Nat×Nat)(v u:Value)(a:Nat)(w:World)(hp:w.heap[a]?=some (.cells #[v,u] 110 (0,0)))(hv:ma w v q.locals)(hx:x.1<q.locals.length):
  Calls Tryz.prog 102 #[.pointer (some ⟨a,0,none⟩),.agg #[.int .i64 (x.1:Nat),.int .i64 (x.2:Nat)]] w fun e w'=>∃g c,e=.returned (.slice (some ⟨g,0,none⟩) (QP.ab q x).length c)/\bO w.heap.size w' (.slice (some ⟨g,0,none⟩) (QP.ab q x).length c) (QP.ab q x)/\Below w.heap.size w w':=by
 obtain⟨g,cap,rfl,kL,hg,-,hc⟩:=sd hv x.1 hx;have aK:=lt_of_heap hp;have aX:Below w.heap.size w (w.alloc (.cells #[.int .i64 (x.1:Nat),.int .i64 (x.2:Nat)] 119)):=(Below.refl _ _).alloc (jC _) _;have c0:w.cell? ⟨a,0,none⟩=some (.slice (some ⟨g,0,none⟩) q.locals.length cap):=by rw[cell_of_heap hp];rfl
 have c0A:(w.alloc (.cells #[.int .i64 (x.1:Nat),.int .i64 (x.2:Nat)] 119)).cell? ⟨a,0,none⟩=some (.slice (some ⟨g,0,none⟩) q.locals.length cap):=(aX.cell (p:=⟨a,0,none⟩) aK).trans c0;have c1A:=(aX.cell (p:=⟨g,x.1*2+1,none⟩) hg).trans hc;have c2A:(w.alloc (.cells #[.int .i64 (x.1:Nat),.int .i64 (x.2:Nat)] 119)).cell? ⟨w.heap.size,0,none⟩=some (.int .i64 (x.1:Nat)):=by simp
 have c3A:(w.alloc (.cells #[.int .i64 (x.1:Nat),.int .i64 (x.2:Nat)] 119)).cell? ⟨w.heap.size,1,none⟩=some (.int .i64 (x.2:Nat)):=by simp
 have hxi:(x.1:Int)<q.locals.length:=by omega
 have hT:Hid ((q.locals.getD x.1 ([],0)).2=q.bA x.1):=rfl;have lx:∀n,((w.alloc (.cells #[.int .i64 (x.1:Nat),.int .i64 (x.2:Nat)] 119)).drewN n).heap.size=w.heap.size+1:=fun n=>by simp
 have hd:∀n,Below w.heap.size w ((w.alloc (.cells #[.int .i64 (x.1:Nat),.int .i64 (x.2:Nat)] 119)).drewN n):=fun n=>below_drewN aX n
 generalize (q.locals.getD x.1 ([],0)).2=t at*;by_cases h0:x.2=0
 ·have b0:(((x.2:Nat):Int)==0)=true:=by rw[h0];rfl
  by_cases ht:t=2
  ·have htb:(((t:Nat):Int)==2)=true:=by rw[ht];rfl
   have hh:QP.ab q x=[(x.1,1),(x.1,2)]:=by rw[QP.ab,jb ⟨h0,by rw[<-hT.out];exact ht⟩]
   rw[hh];clear h0 ht;go_enter Tryz.func102,Tryz.ntmps102
   go_wp2
   go_quiet (fail)
   go_wp2
   go_ret
   have hn:=mI ((w.alloc (.cells #[.int .i64 (x.1:Nat),.int .i64 (x.2:Nat)] 119)).drewN nq) [(x.1,1),(x.1,2)] (by simp);rw[lx nq]at hn;exact⟨w.heap.size+1,2,rfl,oX hn (by omega),(hd nq).alloc (hd nq).size _⟩
  ·have htb:(((t:Nat):Int)==2)=false:=by rw[jZ];omega
   have hh:QP.ab q x=[x]:=by rw[QP.ab,ja (fun e=>ht (by rw[hT.out];exact e.2))]
   rw[hh];clear h0 ht;go_enter Tryz.func102,Tryz.ntmps102
   go_wp2
   go_quiet (fail)
   go_wp2
   go_ret
   have hn:=mI ((w.alloc (.cells #[.int .i64 (x.1:Nat),.int .i64 (x.2:Nat)] 119)).drewN nq) [x] (by simp);rw[lx nq]at hn;exact⟨w.heap.size+1,1,rfl,oX hn (by omega),(hd nq).alloc (hd nq).size _⟩
 ·have b0:(((x.2:Nat):Int)==0)=false:=by rw[jZ];omega
  have hh:QP.ab q x=[x]:=by rw[QP.ab,ja (fun e=>h0 e.1)]
  rw[hh];clear h0;go_enter Tryz.func102,Tryz.ntmps102
  go_wp2
  go_quiet (fail)
  go_wp2
  go_ret
  have hn:=mI ((w.alloc (.cells #[.int .i64 (x.1:Nat),.int .i64 (x.2:Nat)] 119)).drewN nq) [x] (by simp);rw[lx nq]at hn;exact⟨w.heap.size+1,1,rfl,oX hn (by omega),(hd nq).alloc (hd nq).size _⟩
end FlwA
namespace FlwB
open Go Go.RowKit Sq Aux PrjF PrjG PrjJ PrjK PrjL PrjM PrjN PrjO PrjP PrjR PrjT FlwA
def ao (s:List Nat):List Value:=s.map fun n=> .int .u8 (n:Nat)
def aW (w:World)(b:Nat)(s:List Nat):Prop:=s.length=24/\w.heap[b]?=some (.cells (ao s).toArray 209 (0,0))
section
variable {w w':World} {b:Nat} {s:List Nat}
theorem aW.lt (h:aW w b s):b<w.heap.size:=lt_of_heap h.2
theorem aW.below {z:Nat}(h:aW w b s)(hb:Below z w w')(hz:b<z):aW w' b s:=⟨h.1,by rw[hb.block b hz];exact h.2⟩
theorem aW.cell (h:aW w b s)(k:Nat)(hk:k<24):w.cell? ⟨b,k,none⟩=some (.int .u8 (s.getD k 0:Nat)):=by
 rw[cell_of_heap h.2];have:k<s.length:=by rw[h.1];exact hk
 simp[ao,this]
theorem aW.frozen (h:aW w b s)(k:Nat):w.frozen? ⟨b,k,none⟩=false:=frozen_of_heap h.2 k
theorem aW.set (h:aW w b s)(k n:Nat):aW (w.setCell ⟨b,k,none⟩ (.int .u8 (n:Nat))) b (s.set k n):=by
 refine⟨by simpa using h.1,?_⟩;rw[Go.Proofs.YtmlgajhhnojdjaaGreatDoor.Aux.heap_setCell_same h.2 k];congr 2;simp[ao,List.map_set]
end
def gR (may:Nat)(ps:List (Nat×Nat))(s:List Nat):List Nat:=ps.foldl (fun s x=>s.set (ag x) may) s
def dB (ps:List (Nat×Nat))(s:List Nat):List Nat:=ps.foldl (fun s x=>s.set (ag x) (if x.2=3 then 8 else 1)) s
theorem Pp (may:Nat)(ps:List (Nat×Nat))(k:Nat)(hk:k<ps.length)(s:List Nat):gR may (ps.drop k) s=gR may (ps.drop (k+1)) (s.set (ag (ps.getD k (0,0))) may):=by
 rw[jE hk];have:ps.getD k (0,0)=ps[k]:=by simp[List.getD_eq_getElem?_getD,hk]
 rw[this];rfl
theorem Ma (ps:List (Nat×Nat))(k:Nat)(hk:k<ps.length)(s:List Nat):dB (ps.drop k) s=dB (ps.drop (k+1)) (s.set (ag (ps.getD k (0,0))) (if(ps.getD k (0,0)).2=3 then 8 else 1)):=by
 rw[jE hk];have:ps.getD k (0,0)=ps[k]:=by simp[List.getD_eq_getElem?_getD,hk]
 rw[this];rfl
set_option maxRecDepth 20000 in
set_option maxHeartbeats 1000000 in
theorem zW (may b z n c:Nat)(ad:Option Addr)(ps:List (Nat×Nat))(s:List Nat)(w:World)(hs:aW w b s)(hp:bO z w (.slice ad n c) ps)(hx:∀x∈ps,x.1<12)(_hm:may<16):
  Calls Tryz.prog 177 #[.pointer (some ⟨b,0,none⟩),.int .u8 (may:Nat),.slice ad n c] w fun e w'=>e=.returned (.tuple #[])/\aW w' b (gR may ps s)/\bu b w w':=by
 have hn:n=ps.length:=by
  obtain⟨ad',c',e⟩:=bZ hp;simp only[Value.slice.injEq]at e;exact e.2.1
 have hlen:ps.length<=maxLen:=by
  rcases hp.2 with⟨-,h⟩|⟨g,cap,cur,-,-,-,h1,h2,-⟩
  ·omega
  ·omega
 unfold maxLen at hlen;subst hn;have HF:Hid (gR may ps s=gR may (ps.drop 0) s):=rfl;go_enter Tryz.func177,Tryz.ntmps177
 go_wp2
 go_loopg [10] (ps.length) (fun g v10 wr=>∃(k:Nat) (t:List Nat),k<=ps.length/\g+k=ps.length/\v10=.int .i64 k/\aW wr b t/\bu b w wr/\Hid (gR may ps s=gR may (ps.drop k) t))
 case atStart=>exact⟨0,s,jQ _,rfl,rfl,hs,bu.refl _ _,HF⟩
 case round=>
  obtain⟨k,t,hk,GH,rfl,hS,hT,HI⟩:=hrel;by_cases aK:k<ps.length
  ·have GP:bO z wr (.slice ad ps.length c) ps:=gh hp fun g hg=>hT.block g (hp.lt g hg).2 fun x=>by
    subst x;exact ar hp hs.2 (by decide) hg
   obtain⟨gp,rfl,-,ql,XC,c1,c2⟩:=da GP k aK;have zn:=hx (ps.getD k (0,0)) (by simp[aK]);have HS:Hid (_=_):=HI.out.trans (Pp may ps k aK t);generalize ps.getD k (0,0)=x at*;have yU:ag x<24:=by unfold ag;split<;>omega
   have RO:(ag x:Int)<24:=by omega
   have ke:Below wr.heap.size wr (wr.alloc (.cells #[.int .i64 (x.1:Nat),.int .i64 (x.2:Nat)] 119)):=(Below.refl _ _).alloc (jC _) _;have GK:=hS.lt;have KS:=kT x (wr.alloc (.cells #[.int .i64 (x.1:Nat),.int .i64 (x.2:Nat)] 119)).drew (by omega);go_wp2
   go_region_with (go_at_call 62;refine KS.mono ?_;rintro e w1 ⟨rfl,av⟩;have oM:Below wr.heap.size wr w1:=(ke.trans ((⟨av.os,av.tape,av.output,av.size,av.block⟩:Below _ (wr.alloc (.cells #[.int .i64 (x.1:Nat),.int .i64 (x.2:Nat)] 119)) w1).mono ke.size));have sH:=hS.below oM GK;have s1:=sH.cell (ag x) yU;have s2:=sH.frozen (ag x))
   all_goals go_wp2_with fail
   all_goals
    go_roundg (ps.length-(k+1))
    case measure=>omega
    case rel=>exact⟨k+1,t.set (ag x) may,by omega,by omega,by go_num,sH.set _ may,(hT.on oM).setCell _ _,HS.out⟩
  ·have hx:gR may ps s=t:=by rw[HI.out,jT (by omega)];rfl
   go_wp2
   go_end0
   exact⟨rfl,by rw[hx];exact hS,hT⟩
set_option maxRecDepth 20000 in
set_option maxHeartbeats 1000000 in
theorem BQ (b z n c:Nat)(ad:Option Addr)(ps:List (Nat×Nat))(s:List Nat)(w:World)(hs:aW w b s)(hp:bO z w (.slice ad n c) ps)(hx:∀x∈ps,x.1<12):
  Calls Tryz.prog 174 #[.pointer (some ⟨b,0,none⟩),.slice ad n c] w fun e w'=>e=.returned (.tuple #[])/\aW w' b (dB ps s)/\bu b w w':=by
 have hn:n=ps.length:=by
  obtain⟨ad',c',e⟩:=bZ hp;simp only[Value.slice.injEq]at e;exact e.2.1
 have hlen:ps.length<=maxLen:=by
  rcases hp.2 with⟨-,h⟩|⟨g,cap,cur,-,-,-,h1,h2,-⟩
  ·omega
  ·omega
 unfold maxLen at hlen;subst hn;have HF:Hid (dB ps s=dB (ps.drop 0) s):=rfl;go_enter Tryz.func174,Tryz.ntmps174
 go_wp2
 go_loopg [8] (ps.length) (fun g v8 wr=>∃(k:Nat) (t:List Nat),k<=ps.length/\g+k=ps.length/\v8=.int .i64 k/\aW wr b t/\bu b w wr/\Hid (dB ps s=dB (ps.drop k) t))
 case atStart=>exact⟨0,s,jQ _,rfl,rfl,hs,bu.refl _ _,HF⟩
 case round=>
  obtain⟨k,t,hk,GH,rfl,hS,hT,HI⟩:=hrel;by_cases aK:k<ps.length
  ·have GP:bO z wr (.slice ad ps.length c) ps:=gh hp fun g hg=>hT.block g (hp.lt g hg).2 fun x=>by
    subst x;exact ar hp hs.2 (by decide) hg
   obtain⟨gp,rfl,-,ql,XC,c1,c2⟩:=da GP k aK;have zn:=hx (ps.getD k (0,0)) (by simp[aK]);have HS:Hid (_=_):=HI.out.trans (Ma ps k aK t);generalize ps.getD k (0,0)=x at*;have yU:ag x<24:=by unfold ag;split<;>omega
   have RO:(ag x:Int)<24:=by omega
   have ke:Below wr.heap.size wr (wr.alloc (.cells #[.int .i64 (x.1:Nat),.int .i64 (x.2:Nat)] 119)):=(Below.refl _ _).alloc (jC _) _;have GK:=hS.lt;have KS:=kT x (wr.alloc (.cells #[.int .i64 (x.1:Nat),.int .i64 (x.2:Nat)] 119)).drew (by omega);by_cases h3:x.2=3
   ·have lI:(((x.2:Nat):Int)==3)=true:=by rw[h3];rfl
    have HP:Hid (x.2=3):=h3;clear h3;go_wp2
    go_region_with (go_at_call 62;refine KS.mono ?_;rintro e w1 ⟨rfl,av⟩;have oM:Below wr.heap.size wr w1:=(ke.trans ((⟨av.os,av.tape,av.output,av.size,av.block⟩:Below _ (wr.alloc (.cells #[.int .i64 (x.1:Nat),.int .i64 (x.2:Nat)] 119)) w1).mono ke.size));have sH:=hS.below oM GK;have s1:=sH.cell (ag x) yU;have s2:=sH.frozen (ag x))
    all_goals go_wp2_with fail
    all_goals
     go_roundg (ps.length-(k+1))
     case measure=>omega
     case rel=>exact⟨k+1,t.set (ag x) 8,by omega,by omega,by go_num,sH.set _ 8,(hT.on oM).setCell _ _,by unfold Hid;rw[HS.out,jb HP.out]⟩
   ·have lI:(((x.2:Nat):Int)==3)=false:=by rw[jZ];omega
    have HP:Hid (¬x.2=3):=h3;clear h3;go_wp2
    go_region_with (go_at_call 62;refine KS.mono ?_;rintro e w1 ⟨rfl,av⟩;have oM:Below wr.heap.size wr w1:=(ke.trans ((⟨av.os,av.tape,av.output,av.size,av.block⟩:Below _ (wr.alloc (.cells #[.int .i64 (x.1:Nat),.int .i64 (x.2:Nat)] 119)) w1).mono ke.size));have sH:=hS.below oM GK;have s1:=sH.cell (ag x) yU;have s2:=sH.frozen (ag x))
    all_goals go_wp2_with fail
    all_goals
     go_roundg (ps.length-(k+1))
     case measure=>omega
     case rel=>exact⟨k+1,t.set (ag x) 1,by omega,by omega,by go_num,sH.set _ 1,(hT.on oM).setCell _ _,by unfold Hid;rw[HS.out,ja HP.out]⟩
  ·have hx:dB ps s=t:=by rw[HI.out,jT (by omega)];rfl
   go_wp2
   go_end0
   exact⟨rfl,by rw[hx];exact hS,hT⟩
end FlwB
namespace FlwC
open Go Go.RowKit Sq Aux PrjF PrjG PrjJ PrjK PrjL PrjM PrjN PrjO PrjP PrjR PrjT FlwA FlwB
def ju (fit v:Nat):Bool:= !(v&&&(15-fit)==0)
theorem OD:∀v:Nat,v<16->((bits .andNot .u8 (v:Int) 2 !=0)=ju 2 v)/\((bits .andNot .u8 (v:Int) 6 !=0)=ju 6 v)/\((bits .andNot .u8 (v:Int) 10 !=0)=ju 10 v):=by decide
theorem Hg {v fit:Nat}(hv:v<16)(mq:fit=2\/fit=6\/fit=10):(bits .andNot .u8 (v:Int) (fit:Int) !=0)=ju fit v:=by
 obtain⟨h1,h2,h3⟩:=OD v hv;rcases mq with rfl|rfl|rfl
 ·exact h1
 ·exact h2
 ·exact h3
def bw (fit:Nat)(ps:List (Nat×Nat))(s:List Nat):Bool:=ps.any fun x=>ju fit (s.getD (ag x) 0)
theorem Le (fit:Nat)(ps:List (Nat×Nat))(k:Nat)(hk:k<ps.length)(s:List Nat):bw fit (ps.drop k) s=(ju fit (s.getD (ag (ps.getD k (0,0))) 0)||bw fit (ps.drop (k+1)) s):=by
 rw[jE hk];have:ps.getD k (0,0)=ps[k]:=by simp[List.getD_eq_getElem?_getD,hk]
 rw[this];rfl
set_option maxRecDepth 20000 in
set_option maxHeartbeats 1000000 in
theorem oQ (fit b z n c:Nat)(ad:Option Addr)(ps:List (Nat×Nat))(s:List Nat)(w:World)(hs:aW w b s)(hp:bO z w (.slice ad n c) ps)(hx:∀x∈ps,x.1<12)(hv:∀k,s.getD k 0<16)(mq:fit=2\/fit=6\/fit=10):
  Calls Tryz.prog 219 #[.pointer (some ⟨b,0,none⟩),.int .u8 (fit:Nat),.slice ad n c] w fun e w'=>e=.returned (.bool (bw fit ps s))/\Below w.heap.size w w':=by
 have hn:n=ps.length:=by
  obtain⟨ad',c',e⟩:=bZ hp;simp only[Value.slice.injEq]at e;exact e.2.1
 have hlen:ps.length<=maxLen:=by
  rcases hp.2 with⟨-,h⟩|⟨g,cap,cur,-,-,-,h1,h2,-⟩
  ·omega
  ·omega
 unfold maxLen at hlen;subst hn;have HF:Hid (bw fit ps s=bw fit (ps.drop 0) s):=rfl;go_enter Tryz.func219,Tryz.ntmps219
 go_wp2
 go_loopg [11] (ps.length) (fun g v10 wr=>∃k:Nat,k<=ps.length/\g+k=ps.length/\v10=.int .i64 k/\Below w.heap.size w wr/\Hid (bw fit ps s=bw fit (ps.drop k) s))
 case atStart=>exact⟨0,jQ _,rfl,rfl,Below.refl _ _,HF⟩
 case round=>
  obtain⟨k,hk,GH,rfl,hB,HI⟩:=hrel;by_cases aK:k<ps.length
  ·obtain⟨gp,rfl,-,ql,XC,c1,c2⟩:=da (ax hp hB) k aK;have zn:=hx (ps.getD k (0,0)) (by simp[aK]);have HS:Hid (_=_):=HI.out.trans (Le fit ps k aK s);generalize ps.getD k (0,0)=x at*;have yU:ag x<24:=by unfold ag;split<;>omega
   have RO:(ag x:Int)<24:=by omega
   have ke:Below wr.heap.size wr (wr.alloc (.cells #[.int .i64 (x.1:Nat),.int .i64 (x.2:Nat)] 119)):=(Below.refl _ _).alloc (jC _) _;have GK:=hs.lt;have KS:=kT x (wr.alloc (.cells #[.int .i64 (x.1:Nat),.int .i64 (x.2:Nat)] 119)).drew (by omega);have hvk:=hv (ag x);obtain⟨v,X9⟩:∃v,v=s.getD (ag x) 0:=⟨_,rfl⟩;rw[<-X9]at hvk HS;have HV:Hid (s.getD (ag x) 0=v):=X9.symm;clear X9;cases hl:ju fit v
   ·have UL:(bits .andNot .u8 (v:Int) (fit:Int) !=0)=false:=by rw[Hg hvk mq];exact hl
    have HL:Hid (_=_):=hl;clear hl;go_upto_region 4 with fail
    go_region_with (go_at_call 62;refine KS.mono ?_;rintro e w1 ⟨rfl,av⟩;have oM:Below wr.heap.size wr w1:=(ke.trans ((⟨av.os,av.tape,av.output,av.size,av.block⟩:Below _ (wr.alloc (.cells #[.int .i64 (x.1:Nat),.int .i64 (x.2:Nat)] 119)) w1).mono ke.size));have sH:=(hs.below hB GK).below oM (jK GK hB.size);have s1:=(sH.cell (ag x) yU).trans (by rw[HV.out]))
    all_goals go_wp2_with fail
    all_goals
     go_roundg (ps.length-(k+1))
     case measure=>omega
     case rel=>exact⟨k+1,by omega,by omega,by go_num,hB.trans (oM.mono hB.size),by unfold Hid;rw[HS.out,HL.out];rfl⟩
   ·have UL:(bits .andNot .u8 (v:Int) (fit:Int) !=0)=true:=by rw[Hg hvk mq];exact hl
    have HL:Hid (_=_):=hl;clear hl;go_upto_region 4 with fail
    go_region_with (go_at_call 62;refine KS.mono ?_;rintro e w1 ⟨rfl,av⟩;have oM:Below wr.heap.size wr w1:=(ke.trans ((⟨av.os,av.tape,av.output,av.size,av.block⟩:Below _ (wr.alloc (.cells #[.int .i64 (x.1:Nat),.int .i64 (x.2:Nat)] 119)) w1).mono ke.size));have sH:=(hs.below hB GK).below oM (jK GK hB.size);have s1:=(sH.cell (ag x) yU).trans (by rw[HV.out]))
    all_goals go_wp2_with fail
    all_goals
     go_ret
     exact⟨by rw[HS.out,HL.out];rfl,hB.trans (oM.mono hB.size)⟩
  ·have hx:bw fit ps s=false:=by rw[HI.out,jT (by omega)];rfl
   go_wp2
   go_ret
   exact⟨by rw[hx];rfl,hB⟩
end FlwC
namespace FlwD
open Go Go.RowKit Sq Aux PrjF PrjG PrjJ PrjK PrjL PrjM PrjN PrjO PrjP PrjR PrjT FlwA FlwB FlwC
def lz (x:Nat×Nat)(s:List Nat):Bool:=x.2==3&&bw 10 [x] s
def gT (q:QP)(x:Nat×Nat)(s:List Nat):Bool:=if q.br x=3 then bw 6 [x] s else bw 2 (QP.ab q x) s
def dm (q:QP)(x:Nat×Nat)(s:List Nat):Nat:=if q.br x=3 then s.getD (ag x) 0 else 2
theorem iH (W:World)(x:Nat×Nat){n:Nat}(hn:W.heap.size=n):bO n (W.alloc (.cells #[.int .i64 (x.1:Nat),.int .i64 (x.2:Nat)] 119)) (.slice (some ⟨n,0,none⟩) 1 1) [x]:=by
 subst hn;exact mI W [x] (by simp)
theorem Pl (W:World)(x y:Nat×Nat){n:Nat}(hn:W.heap.size=n):bO n (W.alloc (.cells #[.int .i64 (x.1:Nat),.int .i64 (x.2:Nat),.int .i64 (y.1:Nat),.int .i64 (y.2:Nat)] 119)) (.slice (some ⟨n,0,none⟩) 2 2) [x,y]:=by
 subst hn;exact mI W [x,y] (by simp)
theorem cC {q:QP}{x:Nat×Nat}{n:Nat}(h:x.1<n):∀y∈QP.ab q x,y.1<n:=by
 intro y hy;unfold QP.ab at hy;split at hy
 ·simp only[List.mem_cons,List.not_mem_nil,or_false]at hy;rcases hy with rfl|rfl<;>exact h
 ·simp only[List.mem_singleton]at hy;subst hy;exact h
set_option maxRecDepth 20000 in
set_option maxHeartbeats 1000000 in
theorem BL (b:Nat)(x:Nat×Nat)(s:List Nat)(w:World)(hs:aW w b s)(hx:x.1<12)(hv:∀k,s.getD k 0<16):
  Calls Tryz.prog 220 #[.pointer (some ⟨b,0,none⟩),.agg #[.int .i64 (x.1:Nat),.int .i64 (x.2:Nat)]] w fun e w'=>e=.returned (.bool (lz x s))/\Below w.heap.size w w':=by
 have aX:Below w.heap.size w (w.alloc (.cells #[.int .i64 (x.1:Nat),.int .i64 (x.2:Nat)] 119)):=(Below.refl _ _).alloc (jC _) _;have Wb:=aX.alloc aX.size (.cells #[.int .i64 (x.1:Nat),.int .i64 (x.2:Nat)] 119);have KL:=oQ 10 b _ 1 1 _ [x] s _ (hs.below Wb hs.lt) (iH (w.alloc (.cells #[.int .i64 (x.1:Nat),.int .i64 (x.2:Nat)] 119)) x (n:=w.heap.size+1) (by simp)) (fun y hy=>by simp only[List.mem_singleton]at hy;subst hy;exact hx) hv (by simp);by_cases h3:x.2=3
 ·have b3:(((x.2:Nat):Int)==3)=true:=by rw[h3];rfl
  have hr:lz x s=bw 10 [x] s:=by rw[lz,h3];rfl
  rw[hr];clear h3 hr;generalize bw 10 [x] s=r at*;go_enter Tryz.func220,Tryz.ntmps220
  go_wp2_with (go_at_call 219;refine KL.mono ?_;rintro e w1 ⟨rfl,av⟩)
  go_ret
  exact⟨rfl,Wb.trans (av.mono Wb.size)⟩
 ·have b3:(((x.2:Nat):Int)==3)=false:=by rw[jZ];omega
  have hr:lz x s=false:=by rw[lz,show(x.2==3)=false by simpa using h3];rfl
  rw[hr];clear h3 hr KL;go_enter Tryz.func220,Tryz.ntmps220
  go_wp2
  go_ret
  exact⟨rfl,aX⟩
set_option maxRecDepth 20000 in
set_option maxHeartbeats 1000000 in
theorem PR (q:QP)(b:Nat)(x:Nat×Nat)(s:List Nat)(v u:Value)(a:Nat)(w:World)(hp:w.heap[a]?=some (.cells #[v,u] 110 (0,0)))(hl:ma w v q.locals)(ic:q.locals.length<=4000)(Ya:x.1<q.locals.length)(hs:aW w b s)(hx:x.1<12)(hv:∀k,s.getD k 0<16):
  Calls Tryz.prog 221 #[.pointer (some ⟨b,0,none⟩),.pointer (some ⟨a,0,none⟩),.agg #[.int .i64 (x.1:Nat),.int .i64 (x.2:Nat)]] w fun e w'=>e=.returned (.bool (gT q x s))/\Below w.heap.size w w':=by
 have aX:Below w.heap.size w (w.alloc (.cells #[.int .i64 (x.1:Nat),.int .i64 (x.2:Nat)] 119)):=(Below.refl _ _).alloc (jC _) _;have aK:=lt_of_heap hp;have Wq:∀w',Below w.heap.size w w'->w'.heap[a]?=some (.cells #[v,u] 110 (0,0)):=fun w' hb=>by rw[hb.block a aK];exact hp
 have KK:=vJ q x v u a _ (Wq _ aX) (hl.below aX) ic Ya;have KH:=fun w' (hb:Below w.heap.size w w')=>ee q x v u a w' (Wq _ hb) (hl.below hb) Ya
 have c0:∀w',Below (w.alloc (.cells #[.int .i64 (x.1:Nat),.int .i64 (x.2:Nat)] 119)).heap.size (w.alloc (.cells #[.int .i64 (x.1:Nat),.int .i64 (x.2:Nat)] 119)) w'->w'.cell? ⟨w.heap.size,0,none⟩=some (.int .i64 (x.1:Nat))/\w'.cell? ⟨w.heap.size,1,none⟩=some (.int .i64 (x.2:Nat)):=fun w' hb=>
  ⟨(hb.cell (p:=⟨w.heap.size,0,none⟩) (by simp)).trans (by simp),(hb.cell (p:=⟨w.heap.size,1,none⟩) (by simp)).trans (by simp)⟩
 by_cases h3:q.br x=3
 ·have hr:gT q x s=bw 6 [x] s:=by rw[gT,jb h3]
  have KL:=fun(W:World) (hb:Below w.heap.size w W)=>oQ 6 b _ 1 1 _ [x] s _ (hs.below (hb.alloc hb.size _) hs.lt) (iH W x (n:=W.heap.size) rfl) (fun y hy=>by simp only[List.mem_singleton]at hy;subst hy;exact hx) hv (by simp)
  rw[hr];rw[h3]at KK;clear h3 hr KH;generalize bw 6 [x] s=r at*;go_enter Tryz.func221,Tryz.ntmps221
  go_wp2_with (first
   |(go_at_call 207;refine KK.mono ?_;rintro e w1 ⟨rfl,av⟩;have lu:=aX.trans (av.mono aX.size);obtain⟨y0,y1⟩:=c0 _ av)
   |(go_at_call 219;refine(KL w1 lu).mono ?_;rintro e w2 ⟨rfl,bT⟩))
  go_ret
  have ml:=lu.alloc lu.size (.cells #[.int .i64 (x.1:Nat),.int .i64 (x.2:Nat)] 119);exact⟨rfl,ml.trans (bT.mono ml.size)⟩
 ·have hr:gT q x s=bw 2 (QP.ab q x) s:=by rw[gT,ja h3]
  have KL:=fun(W:World) (g c:Nat) (hb:Below w.heap.size w W) (z:Nat) (hP:bO z W (.slice (some ⟨g,0,none⟩) (QP.ab q x).length c) (QP.ab q x))=>oQ 2 b z _ c _ (QP.ab q x) s W (hs.below hb hs.lt) hP (cC hx) hv (by simp)
  have b3:(((q.br x:Nat):Int)==3)=false:=by rw[jZ];omega
  rw[hr];clear h3 hr;generalize bw 2 (QP.ab q x) s=r at*;generalize QP.ab q x=hv' at*;generalize q.br x=kv at*;go_enter Tryz.func221,Tryz.ntmps221
  go_wp2_with (first
   |(go_at_call 207;refine KK.mono ?_;rintro e w1 ⟨rfl,av⟩;have lu:=aX.trans (av.mono aX.size);obtain⟨y0,y1⟩:=c0 _ av)
   |(go_at_call 102;refine(KH w1 lu).mono ?_;rintro e w2 ⟨g,c,rfl,zj,bT⟩;have ml:=lu.trans (bT.mono lu.size))
   |(go_at_call 219;refine(KL w2 g c ml _ zj).mono ?_;rintro e w3 ⟨rfl,lI⟩))
  go_ret
  exact⟨rfl,ml.trans (lI.mono ml.size)⟩
set_option maxRecDepth 20000 in
set_option maxHeartbeats 1000000 in
theorem O0 (q:QP)(b:Nat)(x:Nat×Nat)(s:List Nat)(v u:Value)(a:Nat)(w:World)(hp:w.heap[a]?=some (.cells #[v,u] 110 (0,0)))(hl:ma w v q.locals)(ic:q.locals.length<=4000)(Ya:x.1<q.locals.length)(hs:aW w b s)(hx:x.1<12):
  Calls Tryz.prog 178 #[.pointer (some ⟨b,0,none⟩),.pointer (some ⟨a,0,none⟩),.agg #[.int .i64 (x.1:Nat),.int .i64 (x.2:Nat)]] w fun e w'=>e=.returned (.int .u8 (dm q x s:Nat))/\Below w.heap.size w w':=by
 have aX:Below w.heap.size w (w.alloc (.cells #[.int .i64 (x.1:Nat),.int .i64 (x.2:Nat)] 119)):=(Below.refl _ _).alloc (jC _) _;have aK:=lt_of_heap hp;have Wq:∀w',Below w.heap.size w w'->w'.heap[a]?=some (.cells #[v,u] 110 (0,0)):=fun w' hb=>by rw[hb.block a aK];exact hp
 have KK:=vJ q x v u a _ (Wq _ aX) (hl.below aX) ic Ya;have c0:∀w',Below (w.alloc (.cells #[.int .i64 (x.1:Nat),.int .i64 (x.2:Nat)] 119)).heap.size (w.alloc (.cells #[.int .i64 (x.1:Nat),.int .i64 (x.2:Nat)] 119)) w'->w'.cell? ⟨w.heap.size,0,none⟩=some (.int .i64 (x.1:Nat))/\w'.cell? ⟨w.heap.size,1,none⟩=some (.int .i64 (x.2:Nat)):=fun w' hb=>
  ⟨(hb.cell (p:=⟨w.heap.size,0,none⟩) (by simp)).trans (by simp),(hb.cell (p:=⟨w.heap.size,1,none⟩) (by simp)).trans (by simp)⟩
 by_cases h3:q.br x=3
 ·have hr:dm q x s=s.getD (ag x) 0:=by rw[dm,jb h3]
  have yU:ag x<24:=by unfold ag;split<;>omega
  have RO:(ag x:Int)<24:=by omega
  obtain⟨vv,X9⟩:∃vv,vv=s.getD (ag x) 0:=⟨_,rfl⟩;rw[hr,<-X9];rw[h3]at KK;have HV:Hid (s.getD (ag x) 0=vv):=X9.symm;have KS:=fun w'=>kT x w' (by omega)
  clear h3 hr X9;go_enter Tryz.func178,Tryz.ntmps178
  go_upto_region 3 with(go_at_call 207;refine KK.mono ?_;rintro e w1 ⟨rfl,av⟩;have lu:=aX.trans (av.mono aX.size);obtain⟨y0,y1⟩:=c0 _ av)
  have KSd:=KS w1.drew;go_region_with (go_at_call 62;refine KSd.mono ?_;rintro e w2 ⟨rfl,bT⟩;have pE:Below w1.heap.size w1 w2:=⟨bT.os,bT.tape,bT.output,bT.size,bT.block⟩;have ml:=lu.trans (pE.mono lu.size);have s1:=((hs.below ml hs.lt).cell (ag x) yU).trans (by rw[HV.out]))
  all_goals go_wp2_with fail
  all_goals
   go_ret
   exact⟨rfl,ml⟩
 ·have hr:dm q x s=2:=by rw[dm,ja h3]
  have b3:(((q.br x:Nat):Int)==3)=false:=by rw[jZ];omega
  rw[hr];clear h3 hr;generalize q.br x=kv at*;go_enter Tryz.func178,Tryz.ntmps178
  go_wp2_with (go_at_call 207;refine KK.mono ?_;rintro e w1 ⟨rfl,av⟩;have lu:=aX.trans (av.mono aX.size))
  go_ret
  exact⟨rfl,lu⟩
theorem yZ (i:Nat)(w:World):Calls Tryz.prog 218 #[.int .i64 (i:Nat)] w fun e w'=>e=.returned (.int .u8 ((if i=0 then 4 else 2:Nat):Nat))/\w'=w:=by
 by_cases h:i=0
 ·subst h;go_enter Tryz.func218,Tryz.ntmps218
  go_wp2
  go_ret
  exact⟨rfl,rfl⟩
 ·have b0:((i:Int)==0)=false:=by rw[jZ];omega
  rw[ja h];clear h;go_enter Tryz.func218,Tryz.ntmps218
  go_wp2
  go_ret
  exact⟨rfl,rfl⟩
end FlwD
namespace FlwE
open Go Go.RowKit Sq Aux PrjF PrjG PrjJ PrjK PrjL PrjM PrjN PrjO PrjP PrjR PrjS PrjT FlwA FlwB FlwC FlwD
structure PQ (w:World)(a:Nat)(q:QP)(v u:Value):Prop where
 aI:w.heap[a]?=some (.cells #[v,u] 110 (0,0))
 loc:ma w v q.locals
theorem BA {w w':World}{z b:Nat}{e:TypeId}{sz n:Nat}{v:Value}{xs:List Value}(h:w.ownsRow z e sz v n xs)(hT:bu b w w'){cs:Array Value}{t:TypeId}{f:Nat×Nat}(hb:w.heap[b]?=some (.cells cs t f))(he:e≠t):w'.ownsRow z e sz v n xs:=
 gh h fun g hg=>hT.block g (h.lt g hg).2 fun x=>by subst x;exact ar h hb he hg
section
variable {w w':World} {a b:Nat} {q:QP} {v u:Value} {s:List Nat}
theorem PQ.below (h:PQ w a q v u)(hb:Below w.heap.size w w'):PQ w' a q v u:=⟨by rw[hb.block a (lt_of_heap h.aI)];exact h.aI,h.loc.below hb⟩
theorem PQ.qa (h:PQ w a q v u)(hT:bu b w w')(hs:aW w b s):PQ w' a q v u:=by
 refine⟨?_,?_⟩
 ·rw[hT.block a (lt_of_heap h.aI) (fun x=>by
   have h1:=h.aI;rw[x,hs.2]at h1;simp only[Option.some.injEq,Obj.cells.injEq]at h1;exact absurd h1.2.1 (by decide))]
  exact h.aI
 ·obtain⟨z,hz⟩:=h.loc;exact⟨z,BA hz hT hs.2 (by decide)⟩
theorem OL {z:Nat}{l:aa}{vp vn:Value}(h:bp z w l vp vn)(hT:bu b w w')(hs:aW w b s):bp z w' l vp vn:=
 ⟨BA h.places hT hs.2 (by decide),BA h.next hT hs.2 (by decide)⟩
end
def cF (q:QP)(l:aa)(s:List Nat):List Nat:=
 if l.op=12 then dB (QP.ab q (l.places.getD 1 (0,0))) s else if l.op=14 then dB [l.places.getD 1 (0,0)] s else s
theorem bm {z:Nat}{w:World}{ap:Option Addr}{cp:Nat}{l:aa}{vn:Value}(h:bp z w l (.slice ap l.places.length cp) vn){n:Nat}(hn:l.places.length=n)(j:Nat)(hj:j<n):
  ∃g,ap=some ⟨g,0,none⟩/\n<=cp/\g<w.heap.size/\w.cell? ⟨g,j*2,none⟩=some (.int .i64 ((l.places.getD j (0,0)).1:Nat))/\w.cell? ⟨g,j*2+1,none⟩=some (.int .i64 ((l.places.getD j (0,0)).2:Nat)):=by
 obtain⟨g,e,-,hc,hg,c1,c2⟩:=da h.places j (by omega);exact⟨g,e,by omega,hg,c1,c2⟩
set_option maxRecDepth 20000 in
set_option maxHeartbeats 1000000 in
theorem PT (q:QP)(l:aa)(nb z a b:Nat)(v u:Value)(ap an:Option Addr)(cp cn:Nat)(s:List Nat)(w:World)(hp:PQ w a q v u)(ic:q.locals.length<=12)(hl:tR q.locals.length nb l)
  (hA:bp z w l (.slice ap l.places.length cp) (.slice an l.next.length cn)) (hs:aW w b s):
  Calls Tryz.prog 125 #[.pointer (some ⟨b,0,none⟩),.pointer (some ⟨a,0,none⟩),.agg #[.int .i64 (l.num:Nat),.int .i64 (l.op:Nat),.slice ap l.places.length cp,.int .i64 l.number,.int .i64 l.flag,.slice an l.next.length cn]] w fun e w'=>e=.returned (.tuple #[])/\aW w' b (cF q l s)/\bu b w w':=by
 have aX:Below w.heap.size w (w.alloc (.cells #[.int .i64 (l.num:Nat),.int .i64 (l.op:Nat),.slice ap l.places.length cp,.int .i64 l.number,.int .i64 l.flag,.slice an l.next.length cn] 115)):=(Below.refl _ _).alloc (jC _) _;by_cases cf:l.op=12
 ·have hlen:l.places.length=2:=by rw[hl.cP,cf];rfl
  obtain⟨g,rfl,ql,hg,c1,c2⟩:=bm hA hlen 1 (by omega);have d1:=(aX.cell (p:=⟨g,2,none⟩) hg).trans c1;have d2:=(aX.cell (p:=⟨g,3,none⟩) hg).trans c2;have hx:=(hl.places (l.places.getD 1 (0,0)) (by simp[hlen])).1;have hr:cF q l s=dB (QP.ab q (l.places.getD 1 (0,0))) s:=by rw[cF,jb cf]
  have b12:(((l.op:Nat):Int)==12)=true:=by rw[cf];rfl
  have hpA:=hp.below aX;have KH:=ee q (l.places.getD 1 (0,0)) v u a _ hpA.aI hpA.loc hx;rw[hr];clear hr c1 c2;generalize l.places.getD 1 (0,0)=x at*;have KT:=fun(W:World) (g c:Nat) (hb:Below w.heap.size w W) (z:Nat) (hP:bO z W (.slice (some ⟨g,0,none⟩) (QP.ab q x).length c) (QP.ab q x))=>BQ b z _ c _ (QP.ab q x) s W (hs.below hb hs.lt) hP (cC (by omega))
  have aw:Hid (l.op=12):=cf;rw[hlen]at aX d1 d2 KH⊢;clear cf;go_enter Tryz.func125,Tryz.ntmps125
  go_wp2_with (first
   |(go_at_call 102;refine KH.mono ?_;rintro e w2 ⟨g2,c2,rfl,zj,bT⟩;have ml:=aX.trans (bT.mono aX.size))
   |(go_at_call 174;refine(KT w2 g2 c2 ml _ zj).mono ?_;rintro e w3 ⟨rfl,V9,Ka⟩))
  go_end0
  exact⟨rfl,V9,(bu.of ml).trans Ka⟩
 ·have b12:(((l.op:Nat):Int)==12)=false:=by rw[jZ];omega
  by_cases B5:l.op=14
  ·have hlen:l.places.length=2:=by rw[hl.cP,B5];rfl
   obtain⟨g,rfl,ql,hg,c1,c2⟩:=bm hA hlen 1 (by omega);have d1:=(aX.cell (p:=⟨g,2,none⟩) hg).trans c1;have d2:=(aX.cell (p:=⟨g,3,none⟩) hg).trans c2;have hx:=(hl.places (l.places.getD 1 (0,0)) (by simp[hlen])).1;have hr:cF q l s=dB [l.places.getD 1 (0,0)] s:=by rw[cF,ja cf,jb B5]
   have b14:(((l.op:Nat):Int)==14)=true:=by rw[B5];rfl
   rw[hr];clear hr c1 c2;generalize l.places.getD 1 (0,0)=x at*;rw[hlen]at aX d1 d2⊢;have Wb:=aX.alloc aX.size (.cells #[.int .i64 (x.1:Nat),.int .i64 (x.2:Nat)] 119);have KT:=BQ b _ 1 1 _ [x] s _ (hs.below Wb hs.lt) (iH (w.alloc (.cells #[.int .i64 (l.num:Nat),.int .i64 (l.op:Nat),.slice (some ⟨g,0,none⟩) 2 cp,.int .i64 l.number,.int .i64 l.flag,.slice an l.next.length cn] 115)) x (n:=w.heap.size+1) (by simp)) (fun y hy=>by simp only[List.mem_singleton]at hy;subst hy;omega);clear cf B5;go_enter Tryz.func125,Tryz.ntmps125
   go_wp2_with (go_at_call 174;refine KT.mono ?_;rintro e w3 ⟨rfl,V9,Ka⟩)
   go_end0
   exact⟨rfl,V9,(bu.of Wb).trans Ka⟩
  ·have b14:(((l.op:Nat):Int)==14)=false:=by rw[jZ];omega
   have hr:cF q l s=s:=by rw[cF,ja cf,ja B5]
   rw[hr];clear hr cf B5;go_enter Tryz.func125,Tryz.ntmps125
   go_wp2
   go_end0
   exact⟨rfl,hs.below aX hs.lt,bu.of aX⟩
end FlwE
namespace FlwF
open Go Go.RowKit Sq Aux PrjJ PrjK FlwB
def yy (w:World)(b o:Nat):Prop:=∃s:List Nat,s.length=24/\w.rangeAt b o (ao s)
def s6 (w:World)(b o:Nat):Prop:=w.there b o 24
def Fc (w:World)(b o:Nat):Array Value:=((List.range 24).map fun j=>(w.cell? ⟨b,o+j,none⟩).getD undef).toArray
def Ue (xs:Array Value):Prop:=∃s:List Nat,s.length=24/\xs=(ao s).toArray
theorem dx (s:List Nat):(ao s).length=s.length:=by simp[ao]
theorem Fe {w:World}{b o:Nat}{s:List Nat}(hl:s.length=24)(h:w.rangeAt b o (ao s)):Fc w b o=(ao s).toArray:=by
 unfold Fc;congr 1;apply List.ext_getElem?
 intro j;rw[jJ];by_cases hj:j<24
 ·rw[List.getElem?_range hj];have Jq:j<(ao s).length:=by rw[dx];omega
  have:=h j (ao s)[j] (jB Jq);rw[Option.map_some,this,jB Jq];rfl
 ·rw[jG (by simp;omega),jG (by rw[dx];omega)];rfl
theorem tn {s:List Nat}(h:s.length=24):(Tryz.prog.info? 209).map (·.size)=some (ao s).length:=by
 rw[dx,h];kernel_rfl
theorem Yr (s:List Nat):∀u∈ao s,u.oneCell'=true:=by
 intro u hu;simp only[ao,List.mem_map]at hu;obtain⟨n,-,rfl⟩:=hu;rfl
theorem Lm (w:World)(b o:Nat)(h:yy w b o):(loadVar 209 ⟨b,o,none⟩).run Tryz.prog w=.ok (.agg (Fc w b o)) w:=by
 obtain⟨s,hs,hw⟩:=h;rw[Fe hs hw];exact run_loadVar_mid w b o 209 (ao s) _ hw Tryz.underlying209 rfl (tn hs)
theorem I5 (w:World)(b o:Nat)(xs:Array Value)(h:s6 w b o)(hx:Ue xs):(storeVar 209 ⟨b,o,none⟩ (.agg xs)).run Tryz.prog w=.ok () (w.setCells b o xs.toList):=by
 obtain⟨t,ht,rfl⟩:=hx;refine run_storeVar_mid w b o 209 (ao t).toArray ?_ ?_ (all_oneCell_toArray (Yr t))
 ·have:=h;unfold s6 at this;rw[List.size_toArray,dx,ht];exact this
 ·have:=tn ht;rw[List.size_toArray];exact this
def pQ:Value->Nat
 | .pointer (some ad)=>ad.off
 |_=>0
def V0 (w:World)(v:Value):Prop:=∃b o,v=.pointer (some ⟨b,o,none⟩)/\yy w b o
def Mt (w:World)(v:Value):Prop:=∃b o,v=.pointer (some ⟨b,o,none⟩)/\s6 w b o
def Qc (v:Value):Prop:=∃xs,v=.agg xs/\Ue xs
def LM:Value->Nat
 | .pointer (some ad)=>ad.block
 |_=>0
def V1:Value->Array Value
 | .agg xs=>xs
 |_=> #[]
@[simp] theorem mK (ad : Addr) : pQ (.pointer (some ad)) = ad.off := rfl
@[simp] theorem BG (ad : Addr) : LM (.pointer (some ad)) = ad.block := rfl
@[simp] theorem Ny (xs : Array Value) : V1 (.agg xs) = xs := rfl
@[simp] theorem Y3 (w : World) (b o : Nat) : V0 w (.pointer (some ⟨b, o, none⟩)) = yy w b o := propext ⟨fun ⟨_, _, e, h⟩ => by cases e; exact h, fun h => ⟨b, o, rfl, h⟩⟩
@[simp] theorem WG (w : World) (b o : Nat) : Mt w (.pointer (some ⟨b, o, none⟩)) = s6 w b o := propext ⟨fun ⟨_, _, e, h⟩ => by cases e; exact h, fun h => ⟨b, o, rfl, h⟩⟩
@[simp] theorem Yz (xs : Array Value) : Qc (.agg xs) = Ue xs := by simp [Qc]
section
variable (d:Option Tmp) (x y:Operand) (t:TypeId) (ps:String) (af:Array Edge) (g:Option (Nat×Bool)) (a:Act) (w:World) (K:Act->World->Prop) (Q:Exit->Act->World->Prop)
theorem kA (h:V0 w (a.eval x)):Oper.wp Tryz.prog {dst:=d,op:=Op.load 209 x,type:=t,pos:=ps,after:=af,guard:=g} a w K Q=K (a.put d (.agg (Fc w (LM (a.eval x)) (pQ (a.eval x))))) w:=by
 obtain⟨b,o,hb,hh⟩:=h;have:=Lm w b o hh;unfold Oper.wp execOp;simp only[hb,Instr.loadAt,Instr.sureAddr,Sem.run_bind,Sem.run_pure,Result.andThen_ok,this,BG,mK];rfl
theorem iK (h:Mt w (a.eval x))(h':Qc (a.eval y)):Oper.wp Tryz.prog {dst:=d,op:=Op.store 209 x y,type:=t,pos:=ps,after:=af,guard:=g} a w K Q=K (a.put d undef) (w.setCells (LM (a.eval x)) (pQ (a.eval x)) (V1 (a.eval y)).toList):=by
 obtain⟨b,o,hb,hh⟩:=h;obtain⟨xs,hy,hx⟩:=h';have:=I5 w b o xs hh hx;unfold Oper.wp execOp;simp only[hb,hy,Instr.storeAt,Instr.sureAddr,Sem.run_bind,Sem.run_pure,Result.andThen_ok,this,BG,mK,Ny];rfl
end
theorem aW.range {w:World}{b:Nat}{s:List Nat}(h:aW w b s):w.rangeAt b 0 (ao s):=fun j v hv=>by
 rw[Nat.zero_add,cell_of_heap h.2];simpa using hv
theorem aW.has {w:World}{b:Nat}{s:List Nat}(h:aW w b s):yy w b 0:=⟨s,h.1,aW.range h⟩
theorem aW.room {w:World}{b:Nat}{s:List Nat}(h:aW w b s):s6 w b 0:=fun j hj=>by
 rw[Nat.zero_add,aW.cell h j hj,aW.frozen h];exact⟨rfl,rfl⟩
theorem aW.of {w:World}{b:Nat}{s:List Nat}(h:aW w b s):Fc w b 0=(ao s).toArray:=Fe h.1 (aW.range h)
theorem aW.new (w:World){s:List Nat}(h:s.length=24):aW (w.alloc (.cells (ao s).toArray 209)) w.heap.size s:=⟨h,jD⟩
theorem aW.store {w:World}{b:Nat}{s t:List Nat}(h:aW w b s)(ht:t.length=24):aW (w.setCells b 0 (ao t)) b t:=by
 obtain⟨cs',h1,h2,h3⟩:=eK b (ao t) 0 w _ _ _ h.2;refine⟨ht,?_⟩;rw[h1];congr 2;apply Array.ext_getElem?
 intro j;rw[h3];have l1:(ao s).length=24:=by rw[dx];exact h.1
 have l2:(ao t).length=24:=by rw[dx];exact ht
 by_cases hj:j<24
 ·rw[jb (by simp[l1,l2,hj])];simp
 ·rw[ja (by simp[l2];omega)];simp[l1,l2,Nat.le_of_not_lt hj]
theorem sX {w w':World}{b:Nat}(_h:bu b w w')(_o:Nat):∀(vs:List Value) (o:Nat) (w':World),bu b w w'->bu b w (w'.setCells b o vs)
 |[],_,_,h=>h
 |v::r,o,w',h=>by rw[World.setCells];exact sX h o r (o+1) _ (h.setCell o v)
def aq:List Nat:=List.replicate 24 0
theorem pI {s:List Nat}(h:s.length=24):Ue (ao s).toArray:=⟨s,h,rfl⟩
end FlwF
end Go.Proofs.YtmlgajhhnojdjaaGreatDoor

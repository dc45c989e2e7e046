import Derived.Test.YtmlgajhhnojdjaaGreatDoorUAH
import Derived.Test.YtmlgajhhnojdjaaGreatDoorUAG
set_option maxHeartbeats 8000000
namespace Go.Proofs.YtmlgajhhnojdjaaGreatDoor
namespace PrjR
open Go Go.RowKit Sq Aux PrjF PrjG PrjH PrjI PrjJ PrjK PrjL PrjM PrjN PrjO PrjP
theorem ku {w:World}{v:Value}{ls:List (B×Nat)}(h:gM w v ls)(j:Nat)(hj:j<ls.length):∃g cap,v=.slice (some ⟨g,0,none⟩) ls.length cap/\ls.length<=cap/\g<w.heap.size/\w.cell? ⟨g,j*2,none⟩=some (.string (bs (ls.getD j ([],0)).1))/\w.cell? ⟨g,j*2+1,none⟩=some (.int .i64 ((ls.getD j ([],0)).2:Nat)):=by
 rcases qv h with⟨rfl,-⟩|⟨g,cap,hv,hc,hg,aX⟩
 ·simp at hj
 ·exact⟨g,cap,hv,hc,hg,(aX j hj).1,(aX j hj).2⟩
theorem pR {q:QP}{x:Nat×Nat}{a:Nat}{b:Bool}(h1:q.aJ x=a)(h2:(q.kind x).isSome=b):Ending.returned (.tuple #[.int .i64 (a:Nat),.bool b])=.returned (.tuple #[.int .i64 (q.aJ x:Nat),.bool (q.kind x).isSome]):=by rw[h1,h2]
set_option maxRecDepth 20000 in
theorem mA (q:QP)(x:Nat×Nat)(v u:Value)(a:Nat)(w:World)(hp:w.heap[a]?=some (.cells #[v,u] 110 (0,0)))(hv:gM w v q.locals)(_hls:q.locals.length<=4000)(hx:x.1<q.locals.length):
  Calls Tryz.prog 207 #[.pointer (some ⟨a,0,none⟩),.agg #[.int .i64 (x.1:Nat),.int .i64 (x.2:Nat)]] w fun e w'=>e=.returned (.tuple #[.int .i64 (q.aJ x:Nat),.bool (q.kind x).isSome])/\Below w.heap.size w w':=by
 obtain⟨g,cap,rfl,jw,hg,-,hc⟩:=ku hv x.1 hx;have bg:=lt_of_heap hp;have aF:Below w.heap.size w (w.alloc (.cells #[.int .i64 (x.1:Nat),.int .i64 (x.2:Nat)] 119)):=(Below.refl _ _).alloc (jC _) _;have c0:w.cell? ⟨a,0,none⟩=some (.slice (some ⟨g,0,none⟩) q.locals.length cap):=by rw[cell_of_heap hp];rfl
 have c0A:(w.alloc (.cells #[.int .i64 (x.1:Nat),.int .i64 (x.2:Nat)] 119)).cell? ⟨a,0,none⟩=some (.slice (some ⟨g,0,none⟩) q.locals.length cap):=(aF.cell (p:=⟨a,0,none⟩) bg).trans c0;have c1A:=(aF.cell (p:=⟨g,x.1*2+1,none⟩) hg).trans hc;have c2A:(w.alloc (.cells #[.int .i64 (x.1:Nat),.int .i64 (x.2:Nat)] 119)).cell? ⟨w.heap.size,0,none⟩=some (.int .i64 (x.1:Nat)):=by simp
 have c3A:(w.alloc (.cells #[.int .i64 (x.1:Nat),.int .i64 (x.2:Nat)] 119)).cell? ⟨w.heap.size,1,none⟩=some (.int .i64 (x.2:Nat)):=by simp
 have hxi:(x.1:Int)<q.locals.length:=by omega
 have hT:Hid ((q.locals.getD x.1 ([],0)).2=q.bN x.1):=rfl;have hd:∀n,Below w.heap.size w ((w.alloc (.cells #[.int .i64 (x.1:Nat),.int .i64 (x.2:Nat)] 119)).drewN n):=fun n=>below_drewN aF n
 generalize (q.locals.getD x.1 ([],0)).2=t at*;by_cases bR:x.2=1\/x.2=2
 ·have b12:(((x.2:Nat):Int)==1)=true\/((((x.2:Nat):Int)==1)=false/\(((x.2:Nat):Int)==2)=true):=by
   rcases bR with h|h
   ·left;rw[h];rfl
   ·right;rw[h];exact⟨rfl,rfl⟩
  have hk:q.aJ x=1:=by rw[QP.aJ,jb (by omega)]
  have hs:(q.kind x).isSome=(t==2):=by
   rw[QP.kind,jb bR,<-hT.out];by_cases ht:t=2
   ·subst ht;rfl
   ·rw[ja ht];simp[ht]
  by_cases ht:t=2
  ·have Yj:(((t:Nat):Int)==2)=true:=by rw[ht];rfl
   have Ma:(q.kind x).isSome=true:=by rw[hs,ht];rfl
   clear hs ht;rcases b12 with b1|⟨b1,b2⟩
   all_goals
    go_enter Tryz.func207,Tryz.ntmps207
    go_wp2
    go_quiet (fail)
    go_wp2
    go_ret2
    exact⟨pR hk Ma,hd nq⟩
  ·have Yj:(((t:Nat):Int)==2)=false:=by rw[jZ];omega
   have Ma:(q.kind x).isSome=false:=by rw[hs];simp[ht]
   clear hs ht;rcases b12 with b1|⟨b1,b2⟩
   all_goals
    go_enter Tryz.func207,Tryz.ntmps207
    go_wp2
    go_quiet (fail)
    go_wp2
    go_ret2
    exact⟨pR hk Ma,hd nq⟩
 ·have b1:(((x.2:Nat):Int)==1)=false:=by rw[jZ];omega
  have b2:(((x.2:Nat):Int)==2)=false:=by rw[jZ];omega
  by_cases h3:x.2=3
  ·have b3:(((x.2:Nat):Int)==3)=true:=by rw[h3];rfl
   have hk:q.aJ x=1:=by rw[QP.aJ,jb (by omega)]
   have hs:(q.kind x).isSome=(t==3):=by
    rw[QP.kind,ja bR,jb h3,<-hT.out];by_cases ht:t=3
    ·subst ht;rfl
    ·rw[ja ht];simp[ht]
   by_cases ht:t=3
   ·have Yj:(((t:Nat):Int)==3)=true:=by rw[ht];rfl
    have Ma:(q.kind x).isSome=true:=by rw[hs,ht];rfl
    clear hs ht h3 bR;go_enter Tryz.func207,Tryz.ntmps207
    go_wp2
    go_quiet (fail)
    go_wp2
    go_ret2
    exact⟨pR hk Ma,hd nq⟩
   ·have Yj:(((t:Nat):Int)==3)=false:=by rw[jZ];omega
    have Ma:(q.kind x).isSome=false:=by rw[hs];simp[ht]
    clear hs ht h3 bR;go_enter Tryz.func207,Tryz.ntmps207
    go_wp2
    go_quiet (fail)
    go_wp2
    go_ret2
    exact⟨pR hk Ma,hd nq⟩
  ·have b3:(((x.2:Nat):Int)==3)=false:=by rw[jZ];omega
   have hk:q.aJ x=t:=by rw[QP.aJ,ja (by omega),hT.out]
   have hs:(q.kind x).isSome=true:=by rw[QP.kind,ja bR,ja h3];rfl
   clear h3 bR;go_enter Tryz.func207,Tryz.ntmps207
   go_wp2
   go_quiet (fail)
   go_wp2
   go_ret2
   exact⟨pR hk hs,hd nq⟩
theorem Fo (t:Nat)(c:UInt8):gi t c=if((c.toNat:Int)==105)=true then((t:Int)==0)else if((c.toNat:Int)==111)=true then((t:Int)==3)else if((c.toNat:Int)==112)=true then((t:Int)==1)else !((t:Int)==0):=by
 have e:∀n:Nat,n<256->(((c.toNat:Int)==(n:Int))=true↔c=UInt8.ofNat n):=fun n hn=>by
  rw[xC c n hn,beq_iff_eq];omega
 have e1:=e 105 (by omega);have e2:=e 111 (by omega);have e3:=e 112 (by omega);simp only[Int.cast_ofNat_Int]at e1 e2 e3;have f:∀m:Nat,((t:Int)==(m:Int))=(t==m):=fun m=>by rw[jX,beq_iff_eq,beq_iff_eq];omega
 have f0:=f 0;have f1:=f 1;have f3:=f 3;simp only[Int.cast_ofNat_Int]at f0 f1 f3;simp only[e1,e2,e3,f0,f1,f3];rfl
set_option maxRecDepth 20000 in
theorem IH (t:Nat)(c:UInt8)(w:World):
  Calls Tryz.prog 208 #[.int .i64 (t:Nat),.int .u8 c.toNat] w fun e w'=>e=.returned (.bool (gi t c))/\w'=w:=by
 rw[Fo];cases h1:((c.toNat:Int)==105)<;>cases h2:((c.toNat:Int)==111)<;>cases h3:((c.toNat:Int)==112)
 all_goals
  go_enter Tryz.func208,Tryz.ntmps208
  go_wp2
  go_ret
  exact⟨rfl,rfl⟩
set_option maxRecDepth 20000 in
theorem DN (q:QP)(x y:Nat×Nat)(v u:Value)(a:Nat)(w:World)(hp:w.heap[a]?=some (.cells #[v,u] 110 (0,0)))(hv:gM w v q.locals)(bU:q.locals.length<=4000)(hx:x.1<q.locals.length)(hy:y.1<q.locals.length):
  Calls Tryz.prog 209 #[.pointer (some ⟨a,0,none⟩),.agg #[.int .i64 (x.1:Nat),.int .i64 (x.2:Nat)],.agg #[.int .i64 (y.1:Nat),.int .i64 (y.2:Nat)]] w fun e w'=>e=.returned (.bool (q.aJ x==q.aJ y))/\Below w.heap.size w w':=by
 have aF:Below w.heap.size w ((w.alloc (.cells #[.int .i64 (x.1:Nat),.int .i64 (x.2:Nat)] 119)).alloc (.cells #[.int .i64 (y.1:Nat),.int .i64 (y.2:Nat)] 119)):=((Below.refl _ _).alloc (jC _) _).alloc (by simp) _;have Cc:((w.alloc (.cells #[.int .i64 (x.1:Nat),.int .i64 (x.2:Nat)] 119)).alloc (.cells #[.int .i64 (y.1:Nat),.int .i64 (y.2:Nat)] 119)).heap.size=w.heap.size+2:=by simp
 have bg:=lt_of_heap hp;have KK:=fun(z:Nat×Nat) (hz:z.1<q.locals.length) (w':World) (hb:Below w.heap.size w w')=>mA q z v u a w' (by rw[hb.block a bg];exact hp) (hv.below hb) bU hz
 have d1:∀w',Below ((w.alloc (.cells #[.int .i64 (x.1:Nat),.int .i64 (x.2:Nat)] 119)).alloc (.cells #[.int .i64 (y.1:Nat),.int .i64 (y.2:Nat)] 119)).heap.size ((w.alloc (.cells #[.int .i64 (x.1:Nat),.int .i64 (x.2:Nat)] 119)).alloc (.cells #[.int .i64 (y.1:Nat),.int .i64 (y.2:Nat)] 119)) w'->w'.cell? ⟨w.heap.size+1,0,none⟩=some (.int .i64 (y.1:Nat))/\w'.cell? ⟨w.heap.size+1,1,none⟩=some (.int .i64 (y.2:Nat)):=fun w' hb=>
  ⟨(hb.cell (p:=⟨w.heap.size+1,0,none⟩) (by show w.heap.size+1<_;omega)).trans (by simp),(hb.cell (p:=⟨w.heap.size+1,1,none⟩) (by show w.heap.size+1<_;omega)).trans (by simp)⟩
 have KX:=KK x hx _ aF;have KY:=fun w' hb=>KK y hy w' hb
 rw[show(q.aJ x==q.aJ y)=(((q.aJ x:Nat):Int)==((q.aJ y:Nat):Int)) by rw[jX,beq_iff_eq,beq_iff_eq];omega];clear Cc KK;generalize q.aJ x=kx at*;generalize q.aJ y=ky at*;generalize (q.kind x).isSome=bx at*;generalize (q.kind y).isSome=by_ at*;go_enter Tryz.func209,Tryz.ntmps209
 go_wp2_with (first
  |(go_at_call 207;refine(KY _ dH).mono ?_;rintro e w2 ⟨rfl,bH⟩)
  |(go_at_call 207;refine KX.mono ?_;rintro e w1 ⟨rfl,aG⟩;have dH:=aF.trans (aG.mono aF.size);obtain⟨y0,y1⟩:=d1 _ aG))
 go_ret
 exact⟨rfl,dH.trans (bH.mono dH.size)⟩
end PrjR
namespace FlwA
open Go Go.RowKit Sq Aux PrjF PrjG PrjJ PrjK PrjL PrjM PrjN PrjO PrjP PrjR
def ae (x:Nat×Nat):Nat:=if x.2=2 then 2*x.1+1 else 2*x.1
def QP.ai (q:QP)(x:Nat×Nat):List (Nat×Nat):=if x.2=0/\q.bN x.1=2 then [(x.1,1),(x.1,2)]else [x]
theorem TJ {a b:Int}(h:a=b):Ending.returned (.int .i64 a)=.returned (.int .i64 b):=by rw[h]
set_option maxRecDepth 20000 in
theorem dc (x:Nat×Nat)(w:World)(hx:x.1<=4000):
  Calls Tryz.prog 62 #[.agg #[.int .i64 (x.1:Nat),.int .i64 (x.2:Nat)]] w fun e w'=>e=.returned (.int .i64 (ae x:Nat))/\Below w.heap.size w w':=by
 have aF:Below w.heap.size w (w.alloc (.cells #[.int .i64 (x.1:Nat),.int .i64 (x.2:Nat)] 119)):=(Below.refl _ _).alloc (jC _) _;by_cases h:x.2=2
 ·have hb:(((x.2:Nat):Int)==2)=true:=by rw[h];rfl
  have hs:ae x=2*x.1+1:=by rw[ae,jb h]
  rw[hs];clear h;go_enter Tryz.func62,Tryz.ntmps62
  go_wp2
  go_ret
  exact⟨TJ (by omega),aF⟩
 ·have hb:(((x.2:Nat):Int)==2)=false:=by rw[jZ];omega
  have hs:ae x=2*x.1:=by rw[ae,ja h]
  rw[hs];clear h;go_enter Tryz.func62,Tryz.ntmps62
  go_wp2
  go_ret
  exact⟨TJ (by omega),aF⟩
def aI (z:Nat)(w:World)(v:Value)(ps:List (Nat×Nat)):Prop:=w.ownsRow z 119 2 v ps.length (bf ps)
theorem gK (w:World)(ps:List (Nat×Nat))(hps:ps.length<=100):aI w.heap.size (w.alloc (.cells (bf ps).toArray 119)) (.slice (some ⟨w.heap.size,0,none⟩) ps.length ps.length) ps:=by
 have hl:(bf ps).length=ps.length*2:=pA vu 2 (fun _=>rfl) ps;refine⟨hl,.inr ⟨w.heap.size,ps.length,(bf ps).toArray,rfl,jC _,jD,jC _,by unfold maxLen;omega,by simpa using hl,?_⟩⟩;rw[<-hl];simp
set_option maxRecDepth 20000 in
theorem c8 (q:QP)(x:Nat×Nat)(v u:Value)(a:Nat)(w:World)(hp:w.heap[a]?=some (.cells #[v,u] 110 (0,0)))(hv:gM w v q.locals)(hx:x.1<q.locals.length):
  Calls Tryz.prog 102 #[.pointer (some ⟨a,0,none⟩),.agg #[.int .i64 (x.1:Nat),.int .i64 (x.2:Nat)]] w fun e w'=>∃g c,e=.returned (.slice (some ⟨g,0,none⟩) (QP.ai q x).length c)/\aI w.heap.size w' (.slice (some ⟨g,0,none⟩) (QP.ai q x).length c) (QP.ai q x)/\Below w.heap.size w w':=by
 obtain⟨g,cap,rfl,jw,hg,-,hc⟩:=ku hv x.1 hx;have bg:=lt_of_heap hp;have aF:Below w.heap.size w (w.alloc (.cells #[.int .i64 (x.1:Nat),.int .i64 (x.2:Nat)] 119)):=(Below.refl _ _).alloc (jC _) _;have c0:w.cell? ⟨a,0,none⟩=some (.slice (some ⟨g,0,none⟩) q.locals.length cap):=by rw[cell_of_heap hp];rfl
 have c0A:(w.alloc (.cells #[.int .i64 (x.1:Nat),.int .i64 (x.2:Nat)] 119)).cell? ⟨a,0,none⟩=some (.slice (some ⟨g,0,none⟩) q.locals.length cap):=(aF.cell (p:=⟨a,0,none⟩) bg).trans c0;have c1A:=(aF.cell (p:=⟨g,x.1*2+1,none⟩) hg).trans hc;have c2A:(w.alloc (.cells #[.int .i64 (x.1:Nat),.int .i64 (x.2:Nat)] 119)).cell? ⟨w.heap.size,0,none⟩=some (.int .i64 (x.1:Nat)):=by simp
 have c3A:(w.alloc (.cells #[.int .i64 (x.1:Nat),.int .i64 (x.2:Nat)] 119)).cell? ⟨w.heap.size,1,none⟩=some (.int .i64 (x.2:Nat)):=by simp
 have hxi:(x.1:Int)<q.locals.length:=by omega
 have hT:Hid ((q.locals.getD x.1 ([],0)).2=q.bN x.1):=rfl;have lj:∀n,((w.alloc (.cells #[.int .i64 (x.1:Nat),.int .i64 (x.2:Nat)] 119)).drewN n).heap.size=w.heap.size+1:=fun n=>by simp
 have hd:∀n,Below w.heap.size w ((w.alloc (.cells #[.int .i64 (x.1:Nat),.int .i64 (x.2:Nat)] 119)).drewN n):=fun n=>below_drewN aF n
 generalize (q.locals.getD x.1 ([],0)).2=t at*;by_cases h0:x.2=0
 ·have b0:(((x.2:Nat):Int)==0)=true:=by rw[h0];rfl
  by_cases ht:t=2
  ·have Yj:(((t:Nat):Int)==2)=true:=by rw[ht];rfl
   have hh:QP.ai q x=[(x.1,1),(x.1,2)]:=by rw[QP.ai,jb ⟨h0,by rw[<-hT.out];exact ht⟩]
   rw[hh];clear h0 ht;go_enter Tryz.func102,Tryz.ntmps102
   go_wp2
   go_quiet (fail)
   go_wp2
   go_ret
   have hn:=gK ((w.alloc (.cells #[.int .i64 (x.1:Nat),.int .i64 (x.2:Nat)] 119)).drewN nq) [(x.1,1),(x.1,2)] (by simp);rw[lj nq]at hn;exact⟨w.heap.size+1,2,rfl,fo hn (by omega),(hd nq).alloc (hd nq).size _⟩
  ·have Yj:(((t:Nat):Int)==2)=false:=by rw[jZ];omega
   have hh:QP.ai q x=[x]:=by rw[QP.ai,ja (fun e=>ht (by rw[hT.out];exact e.2))]
   rw[hh];clear h0 ht;go_enter Tryz.func102,Tryz.ntmps102
   go_wp2
   go_quiet (fail)
   go_wp2
   go_ret
   have hn:=gK ((w.alloc (.cells #[.int .i64 (x.1:Nat),.int .i64 (x.2:Nat)] 119)).drewN nq) [x] (by simp);rw[lj nq]at hn;exact⟨w.heap.size+1,1,rfl,fo hn (by omega),(hd nq).alloc (hd nq).size _⟩
 ·have b0:(((x.2:Nat):Int)==0)=false:=by rw[jZ];omega
  have hh:QP.ai q x=[x]:=by rw[QP.ai,ja (fun e=>h0 e.1)]
  rw[hh];clear h0;go_enter Tryz.func102,Tryz.ntmps102
  go_wp2
  go_quiet (fail)
  go_wp2
  go_ret
  have hn:=gK ((w.alloc (.cells #[.int .i64 (x.1:Nat),.int .i64 (x.2:Nat)] 119)).drewN nq) [x] (by simp);rw[lj nq]at hn;exact⟨w.heap.size+1,1,rfl,fo hn (by omega),(hd nq).alloc (hd nq).size _⟩
end FlwA
namespace Own
open Go Go.RowKit Sq Aux PrjJ PrjK PrjL PrjM FlwA
structure Own where
 yd:Yd
 aO:List Int
 ints:List Int
 boxes:List Nat
def Own.num (o:Own)(p:Nat×Nat):Int:=o.ints.getD p.1 0
def Own.box (o:Own)(p:Nat×Nat):Nat:=o.boxes.getD (ae p) 0
def fb (l:List Int):List Value:=l.map fun n=> .int .i64 n
def fC (l:List Nat):List Value:=l.map fun n=> .int .i64 ((n:Nat):Int)
def fF (a:Nat)(vi:Value)(o:Own):List Value:=.pointer (some ⟨a,0,none⟩)::vi::(fb o.ints++fC o.boxes)
def cy (w:World)(v:Value)(l:List Int):Prop:=∃ad c,v=.slice ad l.length c/\l.length<=c/\c<=maxLen/\∀j,j<l.length->∃g f,ad=some ⟨g,f,none⟩/\g<w.heap.size/\w.cell? ⟨g,f+j,none⟩=some (.int .i64 (l.getD j 0))
structure dq (w0:World)(x a:Nat)(w:World)(o:Own)(vi vm vt:Value):Prop where
 eG:lk w0.heap.size x 104 (fF a vi o) w o.yd vm vt
 aZ:Below w0.heap.size w0 w
 ints:o.ints.length=12
 boxes:o.boxes.length=24
 feed:cy w0 vi o.aO
theorem Qe (a:Nat)(vi:Value){o:Own}{j:Nat}(hj:j<12)(hi:o.ints.length=12):(fF a vi o)[2+j]?=some (.int .i64 (o.ints.getD j 0)):=by
 have e:(fF a vi o)[2+j]?=(fb o.ints++fC o.boxes)[j]?:=by rw[Nat.add_comm];rfl
 rw[e,jg (by simp[fb,hi];exact hj),fb,jJ,jB (by omega),jA,jB (by omega)];rfl
theorem Qd (a:Nat)(vi:Value){o:Own}{j:Nat}(hj:j<24)(hi:o.ints.length=12)(hb:o.boxes.length=24):(fF a vi o)[14+j]?=some (.int .i64 ((o.boxes.getD j 0:Nat):Int)):=by
 have e:(fF a vi o)[14+j]?=(fb o.ints++fC o.boxes)[12+j]?:=by rw[show 14+j=(12+j)+2 by omega];rfl
 rw[e,jf (by simp[fb,hi]),show 12+j-(fb o.ints).length=j by simp[fb,hi],fC,jJ,jB (by omega),jA,jB (by omega)];rfl
theorem Gn (a:Nat)(vi:Value)(o:Own){j:Nat}(hj:j<12)(hi:o.ints.length=12)(v:Int):(fF a vi o).set (2+j) (.int .i64 v)=fF a vi {o with ints:=o.ints.set j v}:=by
 have e:(fF a vi o).set (2+j) (.int .i64 v)=.pointer (some ⟨a,0,none⟩)::vi::(fb o.ints++fC o.boxes).set j (.int .i64 v):=by rw[Nat.add_comm];rfl
 rw[e,List.set_append_left _ _ (by simp[fb,hi];exact hj)];simp[fF,fb,List.map_set]
theorem Gm (a:Nat)(vi:Value)(o:Own){j:Nat}(hi:o.ints.length=12)(n:Nat):(fF a vi o).set (14+j) (.int .i64 ((n:Nat):Int))=fF a vi {o with boxes:=o.boxes.set j n}:=by
 have e:(fF a vi o).set (14+j) (.int .i64 ((n:Nat):Int))=.pointer (some ⟨a,0,none⟩)::vi::(fb o.ints++fC o.boxes).set (12+j) (.int .i64 ((n:Nat):Int)):=by rw[show 14+j=(12+j)+2 by omega];rfl
 rw[e,List.set_append_right _ _ (by simp[fb,hi]),show 12+j-(fb o.ints).length=j by simp[fb,hi]];simp[fF,fC,List.map_set]
section
variable {z x a:Nat} {t:TypeId} {rest:List Value} {w w0 w1:World} {y:Yd} {vm vt vi vm1 vt1:Value} {o:Own}
theorem lk.oK (h:lk z x t rest w y vm vt)(j:Nat)(u:Value):lk z x t (rest.set j u) (w.setCell ⟨x,3+j,none⟩ u) y vm vt/\aA x vm vt w vm vt (w.setCell ⟨x,3+j,none⟩ u):=by
 obtain⟨n1,n2⟩:=h.ty.ne;refine⟨⟨h.base,h.ty,?_,aS h.made _ (aP h.made h.aM n1),aS h.trace _ (aP h.trace h.aM n2)⟩,⟨rfl,rfl,rfl,by simp,fun k _ h1 _ _=>Below.heap_setCell _ _ _ _ (by show k≠x;exact h1),fun _ h=> .inl h,fun _ h=> .inl h⟩⟩;rw[Aux.heap_setCell_same h.aM];congr 2;rw[List.setIfInBounds_toArray,Nat.add_comm 3 j];rfl
theorem lk.more (h:lk z x t rest w y vm vt)(j:Nat):w.cell? ⟨x,3+j,none⟩=rest[j]?/\w.frozen? ⟨x,3+j,none⟩=false:=by
 refine⟨?_,frozen_of_heap h.aM _⟩;rw[cell_of_heap h.aM,Nat.add_comm 3 j];simp
theorem dq.lt (h:dq w0 x a w o vi vm vt):x<w.heap.size:=h.eG.lt
theorem dq.below (h:dq w0 x a w o vi vm vt)(hb:Below w.heap.size w w1):dq w0 x a w1 o vi vm vt:=
 ⟨h.eG.below hb,h.aZ.trans (hb.mono h.aZ.size),h.ints,h.boxes,h.feed⟩
theorem dq.int (h:dq w0 x a w o vi vm vt){j:Nat}(hj:j<12):w.cell? ⟨x,5+j,none⟩=some (.int .i64 (o.ints.getD j 0))/\w.frozen? ⟨x,5+j,none⟩=false:=by
 have:=h.eG.more (2+j);rw[Qe a vi hj h.ints,show 3+(2+j)=5+j by omega]at this;exact this
theorem dq.bx (h:dq w0 x a w o vi vm vt){j:Nat}(hj:j<24):w.cell? ⟨x,17+j,none⟩=some (.int .i64 ((o.boxes.getD j 0:Nat):Int))/\w.frozen? ⟨x,17+j,none⟩=false:=by
 have:=h.eG.more (14+j);rw[Qd a vi hj h.ints h.boxes,show 3+(14+j)=17+j by omega]at this;exact this
theorem dq.setInt (h:dq w0 x a w o vi vm vt){j:Nat}(hj:j<12)(v:Int):dq w0 x a (w.setCell ⟨x,5+j,none⟩ (.int .i64 v)) {o with ints:=o.ints.set j v} vi vm vt/\aA x vm vt w vm vt (w.setCell ⟨x,5+j,none⟩ (.int .i64 v)):=by
 obtain⟨h1,h2⟩:=h.eG.oK (2+j) (.int .i64 v);rw[Gn a vi o hj h.ints,show 3+(2+j)=5+j by omega]at h1;rw[show 3+(2+j)=5+j by omega]at h2;exact⟨⟨h1,h.aZ.trans (h2.below h.eG (jC _) h.aZ.size),by simpa using h.ints,h.boxes,h.feed⟩,h2⟩
theorem dq.Qi (h:dq w0 x a w o vi vm vt)(j:Nat)(n:Nat):dq w0 x a (w.setCell ⟨x,17+j,none⟩ (.int .i64 ((n:Nat):Int))) {o with boxes:=o.boxes.set j n} vi vm vt/\aA x vm vt w vm vt (w.setCell ⟨x,17+j,none⟩ (.int .i64 ((n:Nat):Int))):=by
 obtain⟨h1,h2⟩:=h.eG.oK (14+j) (.int .i64 ((n:Nat):Int));rw[Gm a vi o h.ints,show 3+(14+j)=17+j by omega]at h1;rw[show 3+(14+j)=17+j by omega]at h2;exact⟨⟨h1,h.aZ.trans (h2.below h.eG (jC _) h.aZ.size),h.ints,by simpa using h.boxes,h.feed⟩,h2⟩
theorem dq.qe (h:dq w0 x a w o vi vm vt){y':Yd}(h1:lk w0.heap.size x 104 (fF a vi o) w1 y' vm1 vt1)(h2:aA x vm vt w vm1 vt1 w1):dq w0 x a w1 {o with yd:=y'} vi vm1 vt1:=
 ⟨h1,h.aZ.trans (h2.below h.eG (jC _) h.aZ.size),h.ints,h.boxes,h.feed⟩
end
end Own
namespace Own
open Go Go.RowKit Sq Aux PrjJ PrjK PrjL PrjM FlwA
section
variable {x a:Nat} {w w0:World} {vm vt vi:Value} {o:Own}
set_option maxRecDepth 20000 in
theorem fS (h:dq w0 x a w o vi vm vt)(p:Nat×Nat)(hp:p.1<12):
  Calls Tryz.prog 58 #[.pointer (some ⟨x,0,none⟩),.agg #[.int .i64 (p.1:Nat),.int .i64 (p.2:Nat)]] w fun e w'=>e=.returned (.int .i64 (o.num p))/\Below w.heap.size w w':=by
 have aF:Below w.heap.size w (w.alloc (.cells #[.int .i64 (p.1:Nat),.int .i64 (p.2:Nat)] 119)):=(Below.refl _ _).alloc (jC _) _;have HA:=h.below aF;have c1:=(HA.int hp).1;have hpi:(p.1:Int)<12:=by omega
 go_enter Tryz.func58,Tryz.ntmps58
 go_wp2
 go_region
 all_goals go_wp2_with fail
 all_goals
  go_ret
  exact⟨rfl,⟨aF.os,aF.tape,aF.output,aF.size,aF.block⟩⟩
set_option maxRecDepth 20000 in
theorem yc (h:dq w0 x a w o vi vm vt)(p:Nat×Nat)(hp:p.1<12):
  Calls Tryz.prog 99 #[.pointer (some ⟨x,0,none⟩),.agg #[.int .i64 (p.1:Nat),.int .i64 (p.2:Nat)]] w fun e w'=>e=.returned (.int .i64 ((o.box p:Nat):Int))/\Below w.heap.size w w':=by
 have aF:Below w.heap.size w (w.alloc (.cells #[.int .i64 (p.1:Nat),.int .i64 (p.2:Nat)] 119)):=(Below.refl _ _).alloc (jC _) _;have HA:=h.below aF;have lH:ae p<24:=by unfold ae;split<;>omega
 have NR:(ae p:Int)<24:=by omega
 have KS:=dc p (w.alloc (.cells #[.int .i64 (p.1:Nat),.int .i64 (p.2:Nat)] 119)).drew (by omega);go_enter Tryz.func99,Tryz.ntmps99
 go_wp2
 go_region_with (go_at_call 62;refine KS.mono ?_;rintro e w1 ⟨rfl,aG⟩;have bH:Below (w.alloc (.cells #[.int .i64 (p.1:Nat),.int .i64 (p.2:Nat)] 119)).heap.size (w.alloc (.cells #[.int .i64 (p.1:Nat),.int .i64 (p.2:Nat)] 119)) w1:=⟨aG.os,aG.tape,aG.output,aG.size,aG.block⟩;have c1:=((HA.below bH).bx lH).1)
 all_goals go_wp2_with fail
 all_goals
  go_ret
  exact⟨rfl,aF.trans (bH.mono aF.size)⟩
end
def bC (n:Int):Prop:= -9223372036854775808<=n/\n<=9223372036854775807
def ml (op:Nat)(m n:Int):Int:=if op=3 then wrap64 (m+n)else if op=4 then wrap64 (m-n)else if op=5 then wrap64 (m*n)else wrap64 (m.tdiv n)
theorem pn (op:Nat)(m n:Int)(w:World)(hn:op=6->¬n=0)(ho:op=3\/op=4\/op=5\/op=6)(_hm: -9223372036854775808<=m/\m<=9223372036854775807)(_hn': -9223372036854775808<=n/\n<=9223372036854775807):
  Calls Tryz.prog 95 #[.int .i64 (op:Nat),.int .i64 m,.int .i64 n] w fun e w'=>e=.returned (.int .i64 (ml op m n))/\w'=w:=by
 rcases ho with rfl|rfl|rfl|rfl
 ·go_enter Tryz.func95,Tryz.ntmps95
  go_wp2
  go_ret
  exact⟨rfl,rfl⟩
 ·go_enter Tryz.func95,Tryz.ntmps95
  go_wp2
  go_ret
  exact⟨rfl,rfl⟩
 ·go_enter Tryz.func95,Tryz.ntmps95
  go_wp2
  go_ret
  exact⟨rfl,rfl⟩
 ·have h0:(n==0)=false:=by rw[jZ];exact hn rfl
  go_enter Tryz.func95,Tryz.ntmps95
  go_wp2
  go_ret
  exact⟨rfl,rfl⟩
abbrev lnV (l:ab)(ap an:Option Addr)(cp cn:Nat):Value:=.agg #[.int .i64 (l.num:Nat),.int .i64 (l.op:Nat),.slice ap l.places.length cp,.int .i64 l.number,.int .i64 l.flag,.slice an l.next.length cn]
section
variable {x a:Nat} {w w0:World} {vm vt vi:Value} {o:Own}
set_option maxRecDepth 20000 in
theorem K8 {z:Nat}{l:ab}{ap an:Option Addr}{cp cn:Nat}(hl:aC z w l (.slice ap l.places.length cp) (.slice an l.next.length cn))(b:Bool)(hb:(if b then 1 else 0)<l.next.length):
  Calls Tryz.prog 100 #[lnV l ap an cp cn,.bool b] w fun e w'=>e=.returned (.int .i64 ((l.next.getD (if b then 1 else 0) 0:Nat):Int))/\Below w.heap.size w w':=by
 have aF:Below w.heap.size w (w.alloc (.cells #[.int .i64 (l.num:Nat),.int .i64 (l.op:Nat),.slice ap l.places.length cp,.int .i64 l.number,.int .i64 l.flag,.slice an l.next.length cn] 115)):=(Below.refl _ _).alloc (jC _) _;obtain⟨g,cap,e,hc,hg,aX⟩:=cW hl.next (by omega);simp only[Value.slice.injEq]at e;obtain⟨rfl,-,rfl⟩:=e;have c1:=aX (if b then 1 else 0) (by omega);have c2:(eg l.next)[if b then 1 else 0]?=some (.int .i64 ((l.next.getD (if b then 1 else 0) 0:Nat):Int)):=by
  rw[eg,jJ,jB hb,jA,jB hb];rfl
 rw[c2]at c1;have c3:=(aF.cell (p:=⟨g,if b then 1 else 0,none⟩) hg).trans c1;cases b
 ·simp only[Bool.false_eq_true,if_false]at c1 c3 hb;have WJ:(0:Int)<l.next.length:=by omega
  go_enter Tryz.func100,Tryz.ntmps100
  go_wp2
  go_ret
  exact⟨rfl,aF⟩
 ·simp only[if_true]at c1 c3 hb;have WJ:(1:Int)<l.next.length:=by omega
  go_enter Tryz.func100,Tryz.ntmps100
  go_wp2
  go_ret
  exact⟨rfl,aF⟩
end
end Own
namespace PrjS
open Go Go.RowKit Sq PrjF PrjG PrjH
def dk (c:UInt8):Bool:= !(c==35)&& !(c==118)&& !(c==102)&& !(c==98)
structure fY (nl nb:Nat)(l:ab):Prop where
 op:l.op<23
 Kp:2<=l.op
 places:∀x∈l.places,x.1<nl/\x.2<=3
 bt:l.places.length=((ah l.op).filter dk).length
 next:∀n∈l.next,n<nb
 pa:l.next.length=((ah l.op).filter (·==98)).length
 flag:0<=l.flag/\l.flag<=1000000000
 number: -1000000000<=l.number/\l.number<=1000000000
theorem fY.mono {nl nl' nb:Nat}{l:ab}(h:fY nl nb l)(hn:nl<=nl'):fY nl' nb l:=
 ⟨h.op,h.Kp,fun x hx=>⟨jK (h.places x hx).1 hn,(h.places x hx).2⟩,h.bt,h.next,h.pa,h.flag,h.number⟩
theorem SB (w:B):((bL w).getD ([],0)).2<=3:=by
 rw[bL];split
 ·simp
 ·repeat (first|(split;simp)|simp)
theorem MO (w:B): -1000000000<=(cX w).getD 0/\(cX w).getD 0<=1000000000:=by
 cases w with
 |nil=>decide
 |cons c r=>
  rw[cX];split
  ·have:=fa r;cases hd:aH r with
   |none=>simp
   |some n=>
    rw[hd]at this;simp only[Option.getD_some]at this;by_cases hn:n=0
    ·simp[hn]
    ·simp[hn];omega
  ·have:=fa (c::r);constructor<;>omega
theorem C3 {ls:List (B×Nat)}{n:B}(h:¬di ls n<0):(di ls n).toNat<ls.length:=by
 have:=rp ls n 0;change-1<=di ls n/\di ls n<_ at this;omega
theorem kt (ls:List (B×Nat))(nb:Nat):∀(f:B) (ws:List B) (l0 l:ab),bQ ls nb f ws l0=some l->(∀x∈l0.places,x.1<ls.length/\x.2<=3)->(∀n∈l0.next,n<nb)->(0<=l0.flag/\l0.flag<=1000000000)->(-1000000000<=l0.number/\l0.number<=1000000000)->
  l.op=l0.op/\l.num=l0.num/\(∀x∈l.places,x.1<ls.length/\x.2<=3)/\(∀n∈l.next,n<nb)/\l.places.length=l0.places.length+(f.filter dk).length/\l.next.length=l0.next.length+(f.filter (·==98)).length/\(0<=l.flag/\l.flag<=1000000000)/\(-1000000000<=l.number/\l.number<=1000000000)
 |[],ws,l0,l,h,h1,h2,h3,h4=>by
  simp only[bQ,Option.some.injEq]at h;subst h;exact⟨rfl,rfl,h1,h2,rfl,rfl,h3,h4⟩
 |c::f,ws,l0,l,h,h1,h2,h3,h4=>by
  rw[bQ]at h;by_cases c1:c=35\/c=118
  ·rw[jb c1]at h;have ih:=kt ls nb f (ws.drop 1) _ l h h1 h2 h3 (MO _);have e1:dk c=false:=by rcases c1 with rfl|rfl<;>rfl
   have e2:(c==98)=false:=by rcases c1 with rfl|rfl<;>rfl
   simpa [List.filter_cons,e1,e2]using ih
  ·rw[ja c1]at h;by_cases c2:c=102
   ·rw[jb c2]at h;have ih:=kt ls nb f (ws.drop 1) _ l h h1 h2 (fa _) h4;subst c2;have e1:dk 102=false:=rfl;simpa [List.filter_cons,e1]using ih
   ·rw[ja c2]at h;by_cases c3:c=98
    ·rw[jb c3]at h;split at h
     ·cases h
     ·rename_i hn;have hd:=fa (word ws 0);have ih:=kt ls nb f (ws.drop 1) _ l h h1 (fun n Kb=>by
       simp only[List.mem_append,List.mem_singleton]at Kb;rcases Kb with Kb|Kb
       ·exact h2 n Kb
       ·omega) h3 h4
      subst c3;have e1:dk 98=false:=rfl;obtain⟨i1,i2,i3,i4,i5,i6,i7,i8⟩:=ih;refine⟨i1,i2,i3,i4,by rw[i5];simp[e1],by rw[i6];simp;omega,i7,i8⟩
    ·rw[ja c3]at h;split at h
     ·cases h
     ·rename_i hn;have ih:=kt ls nb f (ws.drop 1) _ l h (fun x hx=>by
       simp only[List.mem_append,List.mem_singleton]at hx;rcases hx with hx|rfl
       ·exact h1 x hx
       ·exact⟨C3 hn,SB _⟩) h2 h3 h4
      simp only[not_or]at c1;have e1:dk c=true:=by simp[dk,c1.1,c1.2,c2,c3]
      have e2:(c==98)=false:=by simp[c3]
      obtain⟨i1,i2,i3,i4,i5,i6,i7,i8⟩:=ih;refine⟨i1,i2,i3,i4,by rw[i5];simp[e1];omega,by rw[i6];simp[e2],i7,i8⟩
theorem PH {ls:List (B×Nat)}{nb:Nat}{x:Nat×List B}{l:ab}(h:dw ls nb x=some l)(h1:x.1<23)(h2:2<=x.1):fY ls.length nb l:=by
 rw[dw]at h;obtain⟨i1,-,i3,i4,i5,i6,i7,i8⟩:=kt ls nb _ _ _ _ h (by simp) (by simp) (by simp) (by simp);simp only at i1;exact⟨by rw[i1];exact h1,by rw[i1];exact h2,i3,by rw[i1,i5];simp,i4,by rw[i1,i6];simp,i7,i8⟩
structure AE (nb:Nat)(q:QP):Prop where
 types:∀x∈q.locals,x.2<=3
 lines:∀b∈q.blocks,∀l∈b,fY q.locals.length nb l
theorem Qv {w:B}{n:Nat}(h:fp w=some n):n<4:=by
 have:=(zh _ _ _ _ h).2.1;simpa [cN]using this
theorem YA (w:B):(fp w).getD 0<=3:=by
 cases h:fp w with
 |none=>simp
 |some k=>have:=Qv h;simp;omega
theorem mF (nb:Nat):∀(S:List (Nat×List B)) (i:Nat) (q0 q:QP),aR nb S i q0=(q,none)->(∀x∈S,x.1<23)->AE nb q0->AE nb q
 |[],i,q0,q,h,_,h0=>by
  simp only[aR,Prod.mk.injEq,and_true]at h;subst h;exact h0
 |x::r,i,q0,q,h,hx,h0=>by
  have hr:∀y∈r,y.1<23:=fun y hy=>hx y (jN _ hy)
  have xY:=hx x (jM ..);rw[aR]at h;by_cases e0:x.1=0
  ·rw[jb e0]at h;split at h
   ·cases h
   ·refine mF nb r (i+1) _ q h hr ⟨fun y hy=> ?_,fun b hb l hl=>(h0.lines b hb l hl).mono (by simp[QP.addLocal])⟩;simp only[QP.addLocal,List.mem_append,List.mem_singleton]at hy;rcases hy with hy|rfl
    ·exact h0.types y hy
    ·exact YA _
  ·rw[ja e0]at h;by_cases e1:x.1=1
   ·rw[jb e1]at h;refine mF nb r (i+1) _ q h hr ⟨h0.types,fun b hb l hl=> ?_⟩;simp only[QP.addBlock,List.mem_append,List.mem_singleton]at hb;rcases hb with hb|rfl
    ·exact h0.lines b hb l hl
    ·cases hl
   ·rw[ja e1]at h;cases hl:dw q0.locals nb x with
    |none=>rw[hl]at h;cases h
    |some l=>
     rw[hl]at h;have ok:=PH hl xY (by omega);have ok':fY q0.locals.length nb {l with num:=i}:=⟨ok.op,ok.Kp,ok.places,ok.bt,ok.next,ok.pa,ok.flag,ok.number⟩;refine mF nb r (i+1) _ q h hr ⟨h0.types,fun b hb y hy=> ?_⟩;simp only[QP.addLine,List.mem_append,List.mem_singleton]at hb;rcases hb with hb|rfl
     ·exact h0.lines b (List.dropLast_subset _ hb) y hy
     ·simp only[List.mem_append,List.mem_singleton]at hy;rcases hy with hy|rfl
      ·rw[List.getLastD_eq_getLast?]at hy;cases hq:q0.blocks.getLast? with
       |none=>rw[hq]at hy;simp at hy
       |some b'=>
        rw[hq]at hy;exact h0.lines b' (List.mem_of_getLast? hq) y hy
      ·exact ok'
end PrjS
namespace PrjT
open Go Go.RowKit Sq Aux PrjF PrjG PrjH PrjI PrjJ PrjK PrjL PrjM PrjN PrjO PrjP PrjR PrjS
theorem bK {z:Nat}{w:World}{ad:Option Addr}{n c:Nat}{ps:List (Nat×Nat)}(h:w.ownsRow z 119 2 (.slice ad n c) ps.length (bf ps))(j:Nat)(hj:j<ps.length):
  ∃g,ad=some ⟨g,0,none⟩/\n=ps.length/\ps.length<=c/\g<w.heap.size/\w.cell? ⟨g,j*2,none⟩=some (.int .i64 ((ps.getD j (0,0)).1:Nat))/\w.cell? ⟨g,j*2+1,none⟩=some (.int .i64 ((ps.getD j (0,0)).2:Nat)):=by
 obtain⟨g,cap,hv,hc,hg,aX⟩:=cW h (by omega);simp only[Value.slice.injEq]at hv;obtain⟨rfl,rfl,rfl⟩:=hv;have key:∀i,i<2->w.cell? ⟨g,j*2+i,none⟩=(vu (ps.getD j (0,0)))[i]?:=fun i hi=>by
  rw[aX _ (by omega),bf,ie vu 2 (fun _=>rfl) ps j i hi];simp[hj]
 exact⟨g,rfl,rfl,hc,hg,key 0 (by decide),key 1 (by decide)⟩
theorem EJ (q:QP)(f:B)(ps:List (Nat×Nat))(k:Nat)(hk:k<ps.length):q.dN f (ps.drop k) k=(q.aB (ps.getD k (0,0)) (f.getD k 0)&&q.dN f (ps.drop (k+1)) (k+1)):=by
 rw[jE hk,QP.dN];simp[hk]
theorem Mj {q:QP}{x:Nat×Nat}{t:Nat}(h:q.kind x=some t):q.aJ x=t:=by
 rw[QP.kind]at h;rw[QP.aJ];by_cases bR:x.2=1\/x.2=2
 ·rw[jb bR]at h;rw[jb (by omega)];split at h<;>simp_all
 ·rw[ja bR]at h;by_cases h3:x.2=3
  ·rw[jb h3]at h;rw[jb (by omega)];split at h<;>simp_all
  ·rw[ja h3]at h;rw[ja (by omega)];simpa using h
theorem Kv {a b:Bool}(h:a=b):Ending.returned (.bool a)=.returned (.bool b):=by rw[h]
theorem filter_le {f:B}:(f.filter dk).length<=f.length:=List.length_filter_le ..
set_option maxRecDepth 20000 in
theorem Oo (q:QP)(l:ab)(nb z a:Nat)(v u:Value)(ap an:Option Addr)(cp cn:Nat)(w:World)(hp:w.heap[a]?=some (.cells #[v,u] 110 (0,0)))(hv:gM w v q.locals)(bU:q.locals.length<=4000)(hl:fY q.locals.length nb l)
  (hA:aC z w l (.slice ap l.places.length cp) (.slice an l.next.length cn)) (E:Env w):
  Calls Tryz.prog 171 #[.pointer (some ⟨a,0,none⟩),.agg #[.int .i64 (l.num:Nat),.int .i64 (l.op:Nat),.slice ap l.places.length cp,.int .i64 l.number,.int .i64 l.flag,.slice an l.next.length cn]] w fun e w'=>e=.returned (.bool (q.fits l))/\Below w.heap.size w w':=by
 have aF:Below w.heap.size w (w.alloc (.cells #[.int .i64 (l.num:Nat),.int .i64 (l.op:Nat),.slice ap l.places.length cp,.int .i64 l.number,.int .i64 l.flag,.slice an l.next.length cn] 115)):=(Below.refl _ _).alloc (jC _) _;have dj:(w.alloc (.cells #[.int .i64 (l.num:Nat),.int .i64 (l.op:Nat),.slice ap l.places.length cp,.int .i64 l.number,.int .i64 l.flag,.slice an l.next.length cn] 115)).heap[w.heap.size]?=some (.cells #[.int .i64 (l.num:Nat),.int .i64 (l.op:Nat),.slice ap l.places.length cp,.int .i64 l.number,.int .i64 l.flag,.slice an l.next.length cn] 115 (0,0)):=jD;have zg:=kY (E.on aF) l.op hl.op;have bg:=lt_of_heap hp;have QU:=vF l.op hl.op;have ee:l.places.length<=(ah l.op).length:=by rw[hl.bt];exact filter_le
 have Dj:=hl.places;have hpm:l.op=12->l.places.length=2:=fun e=>by rw[hl.bt,e];rfl
 have HF:Hid (q.dN (ah l.op) l.places 0=q.dN (ah l.op) (l.places.drop 0) 0):=rfl;have KK:=fun(x:Nat×Nat) (hx:x.1<q.locals.length) (w':World) (hb:Below w.heap.size w w')=>mA q x v u a w' (by rw[hb.block a bg];exact hp) (hv.below hb) bU hx
 have KS:=fun(x y:Nat×Nat) (hx:x.1<q.locals.length) (hy:y.1<q.locals.length) (w':World) (hb:Below w.heap.size w w')=>DN q x y v u a w' (by rw[hb.block a bg];exact hp) (hv.below hb) bU hx hy
 have hq:q.fits l=(q.dN (ah l.op) l.places 0&&(!(l.op==12)||q.aJ (l.places.getD 0 (0,0))==q.aJ (l.places.getD 1 (0,0)))):=rfl;have HQ:Hid (_=_):=hq;have ak:=hl.op;clear hq hl;have OH:=aF;generalize hwA:(w.alloc (.cells #[.int .i64 (l.num:Nat),.int .i64 (l.op:Nat),.slice ap l.places.length cp,.int .i64 l.number,.int .i64 l.flag,.slice an l.next.length cn] 115))=wA at OH dj zg;go_enter Tryz.func171,Tryz.ntmps171
 subst hwA;go_wp2
 go_loopw [18] (fun i wr=>∃k:Nat,k<=l.places.length/\i=.int .i64 k/\Below (w.heap.size+1) (w.alloc (.cells #[.int .i64 (l.num:Nat),.int .i64 (l.op:Nat),.slice ap l.places.length cp,.int .i64 l.number,.int .i64 l.flag,.slice an l.next.length cn] 115)) wr/\Hid (q.dN (ah l.op) l.places 0=q.dN (ah l.op) (l.places.drop k) k)) (fun i _=>l.places.length-(intOf i).toNat)
 case atStart=>exact⟨0,jQ _,rfl,Below.refl _ _,HF⟩
 case round=>
  obtain⟨k,hk,rfl,C8,HI⟩:=hrel;have hB:Below w.heap.size w wr:=aF.trans (C8.mono (by omega));have hlr:wr.heap[w.heap.size]?=_:=(C8.block w.heap.size (by omega)).trans dj;by_cases OY:k<l.places.length
  ·obtain⟨gp,rfl,-,gP,G4,c1,c2⟩:=bK (aw hA.places hB) k OY;have hx:=(Dj (l.places.getD k (0,0)) (by simp[OY])).1;have hkw:k<(ah l.op).length:=by omega
   have HS:Hid (_=_):=HI.out.trans (EJ q (ah l.op) l.places k OY);have hc:Hid ((ah l.op).getD k 0=(ah l.op)[k]):=by unfold Hid;simp[hkw]
   generalize l.places.getD k (0,0)=x at*;have eT:Below wr.heap.size wr (wr.alloc (.cells #[.int .i64 (x.1:Nat),.int .i64 (x.2:Nat)] 119)):=(Below.refl _ _).alloc (jC _) _;have KX:=KK x hx _ (hB.trans (eT.mono hB.size));have KI:=fun w'=>IH (q.aJ x) ((ah l.op)[k]) w'
   have G1:∀w1,Below (wr.alloc (.cells #[.int .i64 (x.1:Nat),.int .i64 (x.2:Nat)] 119)).heap.size (wr.alloc (.cells #[.int .i64 (x.1:Nat),.int .i64 (x.2:Nat)] 119)) w1->Below (w.heap.size+1) (w.alloc (.cells #[.int .i64 (l.num:Nat),.int .i64 (l.op:Nat),.slice (some ⟨gp,0,none⟩) l.places.length cp,.int .i64 l.number,.int .i64 l.flag,.slice an l.next.length cn] 115)) w1:=fun w1 aG=>by
    have h0:w.heap.size+1<=wr.heap.size:=by have:=C8.size;simpa using this
    exact(C8.trans (eT.mono h0)).trans (aG.mono (jS h0 eT.size))
   cases hkd:q.kind x with
   |none=>
    have Ur:q.fits l=false:=by rw[HQ.out,HS.out,QP.aB,hkd];rfl
    rw[hkd]at KX;clear hkd;go_wp2_with (go_at_call 207;refine KX.mono ?_;rintro e w1 ⟨rfl,aG⟩)
    go_ret
    exact⟨Kv Ur.symm,(aF.trans ((G1 _ aG).mono (by omega)))⟩
   |some t=>
    have LY:=Mj hkd;rw[hkd]at KX;rw[LY]at KX KI;cases hik:gi t ((ah l.op)[k])with
    |false=>
     have Ur:q.fits l=false:=by rw[HQ.out,HS.out,QP.aB,hkd,hc.out];simp only;rw[hik];rfl
     rw[hik]at KI;clear hkd hik LY;go_wp2_with (first|(go_at_call 207;refine KX.mono ?_;rintro e w1 ⟨rfl,aG⟩)|(go_at_call 208;refine(KI _).mono ?_;rintro e w2 ⟨rfl,rfl⟩))
     go_ret
     exact⟨Kv Ur.symm,(aF.trans ((G1 _ aG).mono (by omega)))⟩
    |true=>
     have Zd:Hid (q.dN (ah l.op) l.places 0=q.dN (ah l.op) (l.places.drop (k+1)) (k+1)):=by
      unfold Hid;rw[HS.out,QP.aB,hkd,hc.out];simp only;rw[hik];rfl
     rw[hik]at KI;clear hkd hik LY;go_wp2_with (first|(go_at_call 207;refine KX.mono ?_;rintro e w1 ⟨rfl,aG⟩)|(go_at_call 208;refine(KI _).mono ?_;rintro e w2 ⟨rfl,rfl⟩))
     go_roundw
     case rel=>exact⟨k+1,by omega,by go_num,G1 _ aG,Zd⟩
     case measure=>simp[intOf];omega
  ·have J7:Hid (q.fits l=(!(l.op==12)||q.aJ (l.places.getD 0 (0,0))==q.aJ (l.places.getD 1 (0,0)))):=by
    unfold Hid;rw[HQ.out,HI.out,jT (by omega)];rfl
   have r1:wr.cell? ⟨w.heap.size,1,none⟩=some (.int .i64 (l.op:Nat)):=by rw[cell_of_heap hlr];rfl
   have r2:wr.cell? ⟨w.heap.size,2,none⟩=some (.slice ap l.places.length cp):=by rw[cell_of_heap hlr];rfl
   by_cases bR:l.op=12
   ·have h2:=hpm bR;obtain⟨gp,rfl,-,gP,G4,c1,c2⟩:=bK (aw hA.places hB) 0 (by omega);obtain⟨gp',e,-,-,-,c3,c4⟩:=bK (aw hA.places hB) 1 (by omega);simp only[Option.some.injEq,Addr.mk.injEq,and_true]at e;subst e;have xY:=(Dj (l.places.getD 0 (0,0)) (by simp[h2])).1;have j6:=(Dj (l.places.getD 1 (0,0)) (by simp[h2])).1;have KX:=fun w' hb=>KS _ _ xY j6 w' hb
    have lq:q.fits l=(q.aJ (l.places.getD 0 (0,0))==q.aJ (l.places.getD 1 (0,0))):=by rw[J7.out,bR];rfl
    have hopb:(((l.op:Nat):Int) !=12)=false:=by rw[bR];rfl
    have d1:wr.cell? ⟨gp,0,none⟩=some (.int .i64 ((l.places.getD 0 (0,0)).1:Nat)):=c1;have d2:wr.cell? ⟨gp,1,none⟩=some (.int .i64 ((l.places.getD 0 (0,0)).2:Nat)):=c2;have d3:wr.cell? ⟨gp,2,none⟩=some (.int .i64 ((l.places.getD 1 (0,0)).1:Nat)):=c3;have d4:wr.cell? ⟨gp,3,none⟩=some (.int .i64 ((l.places.getD 1 (0,0)).2:Nat)):=c4;clear c1 c2 c3 c4 J7 HQ HI HF;have Zc:Hid (_=_):=lq;clear lq;generalize l.places.getD 0 (0,0)=x at*;generalize l.places.getD 1 (0,0)=y at*;generalize (q.aJ x==q.aJ y)=bb at*;rw[h2]at r2;have KXd:=KX wr.drew ⟨hB.os,hB.tape,hB.output,hB.size,hB.block⟩;go_wp2
    go_region_with (go_at_call 209;refine KXd.mono ?_;rintro e w1 ⟨rfl,aG⟩)
    all_goals (try go_wp2)
    all_goals
     go_ret
     exact⟨Kv Zc.out.symm,hB.trans ((show Below wr.heap.size wr w1 from⟨aG.os,aG.tape,aG.output,aG.size,aG.block⟩).mono hB.size)⟩
   ·have hopb:(((l.op:Nat):Int) !=12)=true:=by simp;omega
    have lq:q.fits l=true:=by rw[J7.out];simp[bR]
    have Zc:Hid (_=_):=lq;clear J7 HQ HI HF lq;go_wp2
    go_quiet (fail)
    go_wp2
    go_ret
    exact⟨Kv Zc.out.symm,below_drewN hB _⟩
end PrjT
end Go.Proofs.YtmlgajhhnojdjaaGreatDoor

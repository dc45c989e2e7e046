import Derived.Test.YtmlgajhhnojdjaaGreatDoorVAW
set_option maxHeartbeats 8000000
namespace Go.Proofs.YtmlgajhhnojdjaaGreatDoor
namespace FlwO
open Go Go.RowKit Sq Aux PrjF PrjG PrjJ PrjK PrjL PrjM PrjO PrjP PrjQ PrjS PrjU FlwA FlwB FlwC FlwD FlwE FlwF FlwG FlwH FlwI FlwJ FlwK FlwL FlwM FlwN
def oc (s:List Nat):Nat->Nat
 |0=>0
 |k+1=>oc s k+(15-s.getD k 0)
def xI:List (List Nat)->Nat
 |[]=>0
 |s::E=>oc s 24+xI E
theorem MX (a b:Nat):a<=a|||b:=Nat.left_le_or
theorem fN {s t:List Nat}(hs:s.length=24)(k:Nat):(dG s t).getD k 0=if k<24 then s.getD k 0|||t.getD k 0 else 0:=by
 unfold dG;rw[lU,hs];by_cases h:k<24
 ·rw[jb h,jb h,jb h]
 ·rw[ja h,ja h]
theorem xK {s t:List Nat}(hs:dn s)(ht:dn t):∀n,n<=24->oc (dG s t) n<=oc s n
 |0,_=>jC _
 |n+1,h=>by
  have:=xK hs ht n (by omega);unfold oc;rw[fN hs.len,jb (by omega)];have:=MX (s.getD n 0) (t.getD n 0);omega
theorem xL {s t:List Nat}(hs:dn s)(ht:dn t):∀n,n<=24->(∃k,k<n/\(dG s t).getD k 0≠s.getD k 0)->oc (dG s t) n<oc s n
 |0,_,⟨k,hk,_⟩=>by omega
 |n+1,h,⟨k,hk,c8⟩=>by
  have h1:=xK hs ht n (by omega);unfold oc;have h2:=MX (s.getD n 0) (t.getD n 0);have h3:=MY (hs.lt n) (ht.lt n);by_cases e:k=n
  ·subst e;rw[fN hs.len,jb (by omega)]at c8⊢;omega
  ·have:=xL hs ht n (by omega) ⟨k,by omega,c8⟩;rw[fN hs.len,jb (by omega)];omega
theorem DI {s t:List Nat}(hs:s.length=24)(ht:t.length=24)(h:∀k,k<24->s.getD k 0=t.getD k 0):s=t:=by
 apply List.ext_getElem?
 intro k;by_cases hk:k<24
 ·have:=h k hk;rw[jA,jA,jB (by omega),jB (by omega)]at this;rw[jB (by omega),jB (by omega)];simpa using this
 ·rw[jG (by omega),jG (by omega)]
theorem Fg {s t:List Nat}(hs:s.length=24):(dG s t).length=24:=by unfold dG;rw[oL];exact hs
theorem DZ {s t:List Nat}(hs:dn s)(h:¬dG s t=s):∃k,k<24/\(dG s t).getD k 0≠s.getD k 0:=by
 refine Classical.byContradiction fun hc=>h (DI (Fg hs.len) hs.len fun k hk=> ?_)
 exact Classical.byContradiction fun hn=>hc ⟨k,hk,hn⟩
theorem xJ:∀(E:List (List Nat)) (i:Nat) (t:List Nat),i<E.length->xI (E.set i t)+oc (E.getD i []) 24=xI E+oc t 24
 |[],_,_,h=>by simp at h
 |s::E,0,t,_=>by simp[xI];omega
 |s::E,i+1,t,h=>by
  have:=xJ E i t (by simpa using h);simp only[List.set_cons_succ,xI,List.getD_cons_succ];omega
def vB (E:List (List Nat)):Prop:=∀s∈E,dn s
theorem vB.at {E:List (List Nat)}(h:vB E){i:Nat}(hi:i<E.length):dn (E.getD i []):=h _ (DL hi)
theorem Av {s t:List Nat}(hs:dn s)(ht:dn t):dn (dG s t):=xE hs ht 24
theorem qq (E:List (List Nat))(n:Nat)(s:List Nat):(cZ E n s).length=E.length:=by unfold cZ;split<;>simp
theorem ti {E:List (List Nat)}(hE:vB E){n:Nat}(hn:n<E.length){s:List Nat}(hs:dn s):vB (cZ E n s):=by
 unfold cZ;split
 ·exact hE
 ·intro t ht;rcases List.mem_or_eq_of_mem_set ht with h|h
  ·exact hE t h
  ·rw[h];exact Av (hE.at hn) hs
def rK (E:List (List Nat))(O:Nat->Bool)(N:Nat):Nat:=2*xI E+eJ O N
theorem Fo {E:List (List Nat)}{O:Nat->Bool}{N n:Nat}(hE:vB E)(hN:E.length=N)(hn:n<N){s:List Nat}(hs:dn s):rK (cZ E n s) (eh E O n s) N<=rK E O N:=by
 unfold cZ eh rK;split
 ·exact jC _
 ·rename_i hj;have h0:=hE.at (i:=n) (by omega);have h1:=xJ E n (dG (E.getD n []) s) (by omega);have h2:=xL h0 hs 24 (jC _) (DZ h0 hj);have h3:eJ (bH O n true) N<=eJ O N+1:=by
   cases hO:O n with
   |true=>rw[qz hO];omega
   |false=>rw[pg hO N hn];omega
  omega
structure J9 (N:Nat)(t:St):Prop where
 s:dn t.1
 e:vB t.2.1
 len:t.2.1.length=N
theorem xy {N:Nat}(l:ab):∀(ns:List Nat) (i:Nat) (t:St),(∀n∈ns,n<N)->J9 N t->J9 N (eF l ns i t)/\rK (eF l ns i t).2.1 (eF l ns i t).2.2 N<=rK t.2.1 t.2.2 N
 |[],_,t,_,h=>⟨h,jC _⟩
 |n::ns,i,t,hn,h=>by
  have hs:=eQ l i h.s;have E5:=hn n (jM ..);have:=xy l ns (i+1) (cM l i t.1,cZ t.2.1 n (cM l i t.1),eh t.2.1 t.2.2 n (cM l i t.1)) (fun m hm=>hn m (jN _ hm))
   ⟨hs,ti h.e (by rw[h.len];exact E5) hs,by rw[<-h.len];exact qq _ _ _⟩
  exact⟨this.1,jS this.2 (Fo h.e h.len E5 hs)⟩
theorem sP {N:Nat}(q:QP):∀(ls:List ab) (t:St),(∀l∈ls,∀n∈l.next,n<N)->J9 N t->J9 N (dQ q ls t)/\rK (dQ q ls t).2.1 (dQ q ls t).2.2 N<=rK t.2.1 t.2.2 N
 |[],t,_,h=>⟨h,jC _⟩
 |l::ls,t,hn,h=>by
  have h1:=xy l l.next 0 (au q l t.1,t.2) (hn l (jM ..)) ⟨fy q l h.s,h.e,h.len⟩;have h2:=sP q ls _ (fun m hm=>hn m (jN _ hm)) h1.1;exact⟨h2.1,jS h2.2 h1.2⟩
theorem kU:dn aA:=⟨by decide,fun k=>by
 unfold aA;rw[jA,jO];split<;>simp⟩
section
variable {z x a ap mb:Nat} {w w':World} {q:QP} {vl vb:Value} {us:List Value} {vss:List (List (Value×Value))} {E:List (List Nat)} {O:Nat->Bool}
theorem zs (hq:vZ q.blocks.length q){b:Nat}(hb:b<q.blocks.length):∀l∈q.blocks.getD b [],∀n∈l.next,n<q.blocks.length:=fun l hl=>
 (hq.lines (q.blocks.getD b []) (by simp[hb]) l hl).next
set_option maxRecDepth 20000 in
theorem B3 (h:fZ z x a ap mb w q vl vb us vss E O)(h0:0<q.blocks.length)(hn:q.blocks.length<=4000)(dS:q.locals.length<=12)(hq:vZ q.blocks.length q)(cD:∀j,(q.blocks.getD j []).length<=4000)
  (I:List (List Nat)->(Nat->Bool)->Prop) (BH:I (cZ E 0 aA) (eh E O 0 aA))
  (hI:∀E O b,vB E->E.length=q.blocks.length->b<q.blocks.length->O b=true->I E O->I (dx q E (bH O b false) b).2.1 (dx q E (bH O b false) b).2.2):
  Calls Tryz.prog 144 #[.pointer (some ⟨x,0,none⟩)] w fun e w'=>e=.returned (.tuple #[])/\∃E' O',fZ z x a ap mb w' q vl vb us vss E' O'/\I E' O'/\(∀b,O' b=false)/\bI ap mb w w':=by
 have KS:=Gr w;have xC:=h.lt;have KL:=fun w1 (hb:Below w.heap.size w w1)=>tj (h.below hb) 0 h0 hn aA kU
 have WG:Hid (I (cZ E 0 aA) (eh E O 0 aA)):=BH;have HI:Hid (∀E O b,vB E->E.length=q.blocks.length->b<q.blocks.length->O b=true->I E O->I (dx q E (bH O b false) b).2.1 (dx q E (bH O b false) b).2.2):=hI;clear BH hI;go_enter Tryz.func144,Tryz.ntmps144
 go_wp2_with (first
  |(go_at_call 188;refine KS.mono ?_;rintro e w1 ⟨rfl,aB⟩)
  |(go_at_call 187;refine(KL w1 aB).mono ?_;rintro e w2 ⟨rfl,p5,jk⟩))
 go_loopg [5] (rK (cZ E 0 aA) (eh E O 0 aA) q.blocks.length) (fun g _ wr=>∃(E':List (List Nat)) (O':Nat->Bool),g=rK E' O' q.blocks.length/\fZ z x a ap mb wr q vl vb us vss E' O'/\Hid (I E' O')/\bI ap mb w wr)
 case atStart=>exact⟨_,_,rfl,p5,WG,(bI.mH aB).trans jk⟩
 case round=>
  obtain⟨E',O',XY,ju,U3,rB⟩:=hrel;clear KS KL p5 aB jk;obtain⟨c0,c1,c2⟩:=ju.facts;by_cases hc:eJ O' q.blocks.length=0
  ·have Qq:¬(0:Int)<(eJ O' q.blocks.length:Nat):=by omega
   have Rj:∀b,O' b=false:=fun b=>by
    by_cases hb:b<q.blocks.length
    ·exact qb _ hc b hb
    ·cases hO:O' b with
     |false=>rfl
     |true=>exact absurd (ju.kp.bound hO) hb
   go_wp2_with (at_len;refine eR _ rfl _ rfl rfl ju.kp ?_)
   go_end0
   exact⟨rfl,E',O',ju,U3.out,Rj,rB⟩
  ·have Qq:(0:Int)<(eJ O' q.blocks.length:Nat):=by omega
   have KT:=oh ju hn;have KG:=fun w1 b (hb:b<q.blocks.length) O1 (k9:fZ z x a ap mb w1 q vl vb us vss E' O1)=>vE k9 b hb hn dS hq cD
   have aP:∀b,Dw O' q.blocks.length b->b<q.blocks.length:=fun b hl=>by
    refine Nat.lt_of_le_of_ne hl.le (fun e=>hc (fH _ fun c DS=>hl.none c (by omega)))
   go_wp2_with (first
    |(at_len;refine eR _ rfl _ rfl rfl ju.kp ?_)
    |(go_at_call 146;refine KT.mono ?_;rintro e w1 ⟨b,rfl,aB,k9,jj⟩)
    |(go_at_call 189;refine(KG w1 b (aP b aB) _ k9).mono ?_;rintro e w2 ⟨rfl,p5,jk⟩))
   go_roundg (rK (dx q E' (bH O' b false) b).2.1 (dx q E' (bH O' b false) b).2.2 q.blocks.length)
   case measure=>
    have mO:=aP b aB;have h1:=(sP q (q.blocks.getD b []) (E'.getD b [],E',bH O' b false) (zs hq mO) ⟨ju.row.ok (by rw[ju.len];exact mO),ju.row.1,ju.len⟩).2;have h2:=sw (aB.kp mO) q.blocks.length mO;unfold rK at h1 XY;unfold dx rK;simp only at h1;omega
   case rel=>
    have mO:=aP b aB;exact⟨_,_,rfl,p5,HI.out E' O' b ju.row.1 ju.len mO (aB.kp mO) U3.out,(rB.trans jj).trans jk⟩
end
end FlwO
namespace FlwP
open Go Go.RowKit Sq Aux PrjF PrjG PrjJ PrjK PrjL PrjM PrjO PrjP PrjQ PrjS PrjU FlwA FlwB FlwC FlwD FlwE FlwF FlwG FlwH FlwI FlwJ FlwK FlwL FlwM FlwN FlwO
attribute [local go_sem ↓] bY bJ
def dj (q:QP):List ab->List Nat->Option Nat
 |[],_=>none
 |l::ls,s=>if bh q l s=true then some l.num else dj q ls (au q l s)
theorem zG (q:QP)(ls:List ab)(i:Nat)(hi:i<ls.length)(s:List Nat):dj q (ls.drop i) s=if bh q (ls.getD i ab.nil) s=true then some (ls.getD i ab.nil).num else dj q (ls.drop (i+1)) (au q (ls.getD i ab.nil) s):=by
 rw[jE hi];have:ls.getD i ab.nil=ls[i]:=by simp[hi]
 rw[this];rfl
def xb:Option Nat->Value
 |some n=> .tuple #[.int .i64 (n:Nat),.bool true]
 |none=> .tuple #[.int .i64 0,.bool false]
section
variable {z x a ap mb:Nat} {w w':World} {q:QP} {vl vb:Value} {us:List Value} {vss:List (List (Value×Value))} {E:List (List Nat)} {O:Nat->Bool}
set_option maxRecDepth 20000 in
theorem zF (h:fZ z x a ap mb w q vl vb us vss E O)(b:Nat)(hb:b<q.blocks.length)(_hn:q.blocks.length<=4000)(dS:q.locals.length<=12)(hq:vZ q.blocks.length q)(cD:∀j,(q.blocks.getD j []).length<=4000):
  Calls Tryz.prog 145 #[.pointer (some ⟨x,0,none⟩),.int .i64 (b:Nat)] w fun e w'=>e=.returned (xb (dj q (q.blocks.getD b []) (E.getD b [])))/\Below w.heap.size w w':=by
 have BO:b<E.length:=by rw[h.len];exact hb
 have hE:=h.row.ok BO;have Qg:=h.row.lt;have Wq:(b:Int)<(q.blocks.length:Nat):=by omega
 obtain⟨c0,c1,c2⟩:=h.facts;have has:=h.row.has b BO;have Lh:=h.row.of b BO;have HG:Hid (dj q (q.blocks.getD b []) (E.getD b [])=dj q ((q.blocks.getD b []).drop 0) (E.getD b [])):=rfl;obtain⟨dv,PE⟩:∃dv,Hid (dj q (q.blocks.getD b []) (E.getD b [])=dv):=⟨_,rfl⟩;rw[PE.out]at HG⊢;have hZ:aj (w.alloc (.cells #[.int .u8 0,.int .u8 0,.int .u8 0,.int .u8 0,.int .u8 0,.int .u8 0,.int .u8 0,.int .u8 0,.int .u8 0,.int .u8 0,.int .u8 0,.int .u8 0,.int .u8 0,.int .u8 0,.int .u8 0,.int .u8 0,.int .u8 0,.int .u8 0,.int .u8 0,.int .u8 0,.int .u8 0,.int .u8 0,.int .u8 0,.int .u8 0] 209)) w.heap.size ak:=aj.new w (s:=ak) (by decide);have H3:Below w.heap.size w (w.alloc (.cells #[.int .u8 0,.int .u8 0,.int .u8 0,.int .u8 0,.int .u8 0,.int .u8 0,.int .u8 0,.int .u8 0,.int .u8 0,.int .u8 0,.int .u8 0,.int .u8 0,.int .u8 0,.int .u8 0,.int .u8 0,.int .u8 0,.int .u8 0,.int .u8 0,.int .u8 0,.int .u8 0,.int .u8 0,.int .u8 0,.int .u8 0,.int .u8 0] 209)):=(Below.refl _ _).alloc (jC _) _;have fp:=aj.room hZ;have mP:=fu hE.len;have hJ:=aj.store hZ hE.len;have qj:Below w.heap.size w ((w.alloc (.cells #[.int .u8 0,.int .u8 0,.int .u8 0,.int .u8 0,.int .u8 0,.int .u8 0,.int .u8 0,.int .u8 0,.int .u8 0,.int .u8 0,.int .u8 0,.int .u8 0,.int .u8 0,.int .u8 0,.int .u8 0,.int .u8 0,.int .u8 0,.int .u8 0,.int .u8 0,.int .u8 0,.int .u8 0,.int .u8 0,.int .u8 0,.int .u8 0] 209)).setCells w.heap.size 0 (ag (E.getD b []))):=aU H3 (jC _) _ _;have hW:=h.below qj;clear PE;generalize E.getD b []=e0 at*;clear H3 hZ;go_enter Tryz.func145,Tryz.ntmps145
 go_upto_region 2 with fail
 generalize ((w.alloc (.cells #[.int .u8 0,.int .u8 0,.int .u8 0,.int .u8 0,.int .u8 0,.int .u8 0,.int .u8 0,.int .u8 0,.int .u8 0,.int .u8 0,.int .u8 0,.int .u8 0,.int .u8 0,.int .u8 0,.int .u8 0,.int .u8 0,.int .u8 0,.int .u8 0,.int .u8 0,.int .u8 0,.int .u8 0,.int .u8 0,.int .u8 0,.int .u8 0] 209)).setCells w.heap.size 0 (ag e0))=W at*;clear fp has Lh c0 c1 c2;obtain⟨c0,c1,c2⟩:=hW.facts;obtain⟨p0,p1,-,-⟩:=fe.facts hW.prog;obtain⟨gb,cb,adk,ck,rfl,ym,sX,aQ,DW⟩:=et hW.prog b hb;have JY:=cD b;have oF:∀l∈q.blocks.getD b [],iB q.locals.length q.blocks.length l:=hq.lines _ (by simp[hb]);have ER:w.heap.size≠ap:=by omega
 have yk:Hid (∀wn,fZ z x a ap mb wn q vl (.slice (some ⟨gb,0,none⟩) q.blocks.length cb) us vss E O->cH z wn (.slice adk (q.blocks.getD b []).length ck) (q.blocks.getD b []) (vss.getD b [])):=fun wn hwn=>by
  have h1:=hwn.prog.each b hb;rw[DW]at h1;exact h1
 have HL:Hid (∀wn,fZ z x a ap mb wn q vl (.slice (some ⟨gb,0,none⟩) q.blocks.length cb) us vss E O->∀i,i<(q.blocks.getD b []).length->∀v1 v2,(vss.getD b []).getD i (undef,undef)=(v1,v2)->aE z wn ((q.blocks.getD b []).getD i ab.nil) v1 v2):=fun wn hwn i hi v1 v2 hv=>fZ.line hwn hb hi hv
 have HS:Hid (∀i,i<(q.blocks.getD b []).length->∀s,dj q ((q.blocks.getD b []).drop i) s=if bh q ((q.blocks.getD b []).getD i ab.nil) s=true then some ((q.blocks.getD b []).getD i ab.nil).num else dj q ((q.blocks.getD b []).drop (i+1)) (au q ((q.blocks.getD b []).getD i ab.nil) s)):=fun i hi s=>zG q _ i hi s
 generalize q.blocks.getD b []=aD at*;generalize vss.getD b []=vsj at*;go_wp2
 go_loopg [27] (aD.length) (fun g v27 wr=>∃(i:Nat) (s':List Nat),i<=aD.length/\g+i=aD.length/\v27=.int .i64 i/\fZ z x a ap mb wr q vl (.slice (some ⟨gb,0,none⟩) q.blocks.length cb) us vss E O/\aj wr w.heap.size s'/\dn s'/\Below w.heap.size w wr/\Hid (dv=dj q (aD.drop i) s'))
 case atStart=>exact⟨0,e0,jQ _,rfl,rfl,hW,hJ,hE,qj,HG⟩
 case round=>
  obtain⟨i,s',hi,VS,rfl,ju,rA,Cs,yl,HR⟩:=hrel;clear hJ HG hW qj c0 c1 c2 p0 p1 aQ mP hE;by_cases hli:i<aD.length
  ·obtain⟨gl,apl,cp,an,cn,rfl,-,DS,rH,k0,k1,k2,k3,k4,k5,Oc⟩:=kt (yk.out wr ju) i hli;have hS:Hid (_=_):=HS.out i hli s';have OH:Hid (∀wn,fZ z x a ap mb wn q vl (.slice (some ⟨gb,0,none⟩) q.blocks.length cb) us vss E O->aE z wn (aD.getD i ab.nil) (.slice apl (aD.getD i ab.nil).places.length cp) (.slice an (aD.getD i ab.nil).next.length cn)):=fun wn hwn=>HL.out wn hwn i hli _ _ Oc
   have hl:=oF (aD.getD i ab.nil) (by simp[hli]);clear Oc;generalize aD.getD i ab.nil=l at*;have ko:Below wr.heap.size wr (wr.alloc (.cells #[.int .i64 (l.num:Nat),.int .i64 (l.op:Nat),.slice apl l.places.length cp,.int .i64 l.number,.int .i64 l.flag,.slice an l.next.length cn] 115)):=(Below.refl _ _).alloc (jC _) _;have Ny:=ju.below ko;have BL:=rA.below ko rA.lt;have BG:=yl.trans (ko.mono yl.size);have gY:(wr.alloc (.cells #[.int .i64 (l.num:Nat),.int .i64 (l.op:Nat),.slice apl l.places.length cp,.int .i64 l.number,.int .i64 l.flag,.slice an l.next.length cn] 115)).heap[wr.heap.size]?=some (.cells #[.int .i64 (l.num:Nat),.int .i64 (l.op:Nat),.slice apl l.places.length cp,.int .i64 l.number,.int .i64 l.flag,.slice an l.next.length cn] 115 (0,0)):=jD;have SX:w.heap.size<wr.heap.size:=rA.lt;go_upto_region 5 with fail
   generalize (wr.alloc (.cells #[.int .i64 (l.num:Nat),.int .i64 (l.op:Nat),.slice apl l.places.length cp,.int .i64 l.number,.int .i64 l.flag,.slice an l.next.length cn] 115))=WL at*;clear k0 k1 k2 k3 k4 k5 ko;have jl:Below WL.heap.size WL WL.drew:=below_drewN (Below.refl _ _) 1;have sT:=Ny.below jl;have z7:aj WL.drew w.heap.size s':=BL;have sY:WL.drew.heap[wr.heap.size]?=some (.cells #[.int .i64 (l.num:Nat),.int .i64 (l.op:Nat),.slice apl l.places.length cp,.int .i64 l.number,.int .i64 l.flag,.slice an l.next.length cn] 115 (0,0)):=gY;have Ns:=BG.trans (jl.mono BG.size);obtain⟨c0,c1,c2⟩:=Ny.facts;have l0:=(cell_of_heap gY 0).trans (by rfl:_=some (Value.int .i64 (l.num:Nat)));have l1:=(cell_of_heap gY 1).trans (by rfl:_=some (Value.int .i64 (l.op:Nat)));have l2:=(cell_of_heap gY 2).trans (by rfl:_=some (Value.slice apl l.places.length cp));have l3:=(cell_of_heap gY 3).trans (by rfl:_=some (Value.int .i64 l.number));have l4:=(cell_of_heap gY 4).trans (by rfl:_=some (Value.int .i64 l.flag));have l5:=(cell_of_heap gY 5).trans (by rfl:_=some (Value.slice an l.next.length cn));have KF:=B0 q l q.blocks.length z a w.heap.size vl _ apl an cp cn s' WL.drew ⟨sT.prog.aD,⟨_,sT.prog.locals⟩⟩ dS hl (OH.out _ sT) z7 Cs.lt;obtain⟨fq,Td⟩:∃fq,Hid (bh q l s'=fq):=⟨_,rfl⟩;rw[Td.out]at KF;go_cut [8,36] (fun v8 v36 wc=>v8=.pointer (some ⟨wr.heap.size,0,none⟩)/\v36=.bool fq/\Below WL.drew.heap.size WL.drew wc)
   case first=>
    go_region_with (go_at_call 190;refine KF.mono ?_;rintro e w1 ⟨rfl,aB⟩)
    all_goals go_wp2_with fail
    all_goals
     go_meet
     case rel=>exact⟨rfl,rfl,aB⟩
   case rest=>
    obtain⟨rfl,rfl,aB⟩:=hcut;have VM:=sT.below aB;have XK:=z7.below aB z7.lt;have Cn:=(aB.block _ (lt_of_heap sY)).trans sY;have Tn:=Ns.trans (aB.mono Ns.size);clear KF Ny BL BG gY jl sT z7 sY Ns c0 c1 c2 l0 l1 l2 l3 l4 l5 aB;cases fq with
    |true=>
     have l0:=(cell_of_heap Cn 0).trans (by rfl:_=some (Value.int .i64 (l.num:Nat)));have hA:dv=some l.num:=by rw[HR.out,hS.out,jb Td.out]
     go_wp2
     go_ret2
     rw[hA];exact⟨rfl,Tn⟩
    |false=>
     have Md:Hid (dv=dj q (aD.drop (i+1)) (au q l s')):=by unfold Hid;rw[HR.out,hS.out,ja (by rw[Td.out];decide)]
     clear HR;have jl:Below wc.heap.size wc wc.drew:=below_drewN (Below.refl _ _) 1;have Ku:=VM.below jl;have P9:aj wc.drew w.heap.size s':=XK;have PT:=Tn.trans (jl.mono Tn.size);obtain⟨c0,c1,c2⟩:=VM.facts;have l0:=(cell_of_heap Cn 0).trans (by rfl:_=some (Value.int .i64 (l.num:Nat)));have l1:=(cell_of_heap Cn 1).trans (by rfl:_=some (Value.int .i64 (l.op:Nat)));have l2:=(cell_of_heap Cn 2).trans (by rfl:_=some (Value.slice apl l.places.length cp));have l3:=(cell_of_heap Cn 3).trans (by rfl:_=some (Value.int .i64 l.number));have l4:=(cell_of_heap Cn 4).trans (by rfl:_=some (Value.int .i64 l.flag));have l5:=(cell_of_heap Cn 5).trans (by rfl:_=some (Value.slice an l.next.length cn));have KP:=mc q l q.blocks.length z a w.heap.size vl _ apl an cp cn s' wc.drew ⟨Ku.prog.aD,⟨_,Ku.prog.locals⟩⟩ dS hl (OH.out _ Ku) P9 Cs.lt;generalize wr.heap.size=lb at*;go_upto_region 7 with fail
     go_region_with (go_at_call 128;refine KP.mono ?_;rintro e w1 ⟨rfl,gC,jj⟩)
     all_goals
      have k9:=Ku.other jj P9 ER;have dk:=PT.trans (jj.below (jC _) PT.size);have Lq:=fy q l Cs;clear KP l0 l1 l2 l3 l4 l5 c0 c1 c2;go_wp2
      go_roundg (aD.length-(i+1))
      case measure=>omega
      case rel=>exact⟨i+1,_,by omega,by omega,by go_num,k9,gC,Lq,dk,Md⟩
  ·have hA:dv=none:=by rw[HR.out,jT (by omega)];rfl
   go_wp2
   go_ret2
   rw[hA];exact⟨rfl,yl⟩
end
end FlwP
end Go.Proofs.YtmlgajhhnojdjaaGreatDoor

import Derived.Test.YtmlgajhhnojdjaaGreatDoorRBD
namespace Go.Proofs.YtmlgajhhnojdjaaGreatDoor
namespace Own
open Go Go.RowKit Sq Aux PrjJ PrjK PrjL PrjM FlwA
structure Own where
 yd:Yd
 al:List Int
 ints:List Int
 boxes:List Nat
def Own.num (o:Own)(p:Nat×Nat):Int:=o.ints.getD p.1 0
def Own.box (o:Own)(p:Nat×Nat):Nat:=o.boxes.getD (ah p) 0
def fv (l:List Int):List Value:=l.map fun n=> .int .i64 n
def fP (l:List Nat):List Value:=l.map fun n=> .int .i64 ((n:Nat):Int)
def fS (a:Nat)(vi:Value)(o:Own):List Value:=.pointer (some ⟨a,0,none⟩)::vi::(fv o.ints++fP o.boxes)
def bY (w:World)(v:Value)(l:List Int):Prop:=∃ad c,v=.slice ad l.length c/\l.length<=c/\c<=maxLen/\∀j,j<l.length->∃g f,ad=some ⟨g,f,none⟩/\g<w.heap.size/\w.cell? ⟨g,f+j,none⟩=some (.int .i64 (l.getD j 0))
structure dp (w0:World)(x a:Nat)(w:World)(o:Own)(vi vm vt:Value):Prop where
 kb:oB w0.heap.size x 104 (fS a vi o) w o.yd vm vt
 br:Below w0.heap.size w0 w
 ints:o.ints.length=12
 boxes:o.boxes.length=24
 feed:bY w0 vi o.al
theorem S8 (a:Nat)(vi:Value){o:Own}{j:Nat}(hj:j<12)(hi:o.ints.length=12):(fS a vi o)[2+j]?=some (.int .i64 (o.ints.getD j 0)):=by
 have e:(fS a vi o)[2+j]?=(fv o.ints++fP o.boxes)[j]?:=by rw[Nat.add_comm];rfl
 rw[e,jg (by simp[fv,hi];exact hj),fv,jJ,jB (by omega),jA,jB (by omega)];rfl
theorem S7 (a:Nat)(vi:Value){o:Own}{j:Nat}(hj:j<24)(hi:o.ints.length=12)(hb:o.boxes.length=24):(fS a vi o)[14+j]?=some (.int .i64 ((o.boxes.getD j 0:Nat):Int)):=by
 have e:(fS a vi o)[14+j]?=(fv o.ints++fP o.boxes)[12+j]?:=by rw[show 14+j=(12+j)+2 by omega];rfl
 rw[e,jf (by simp[fv,hi]),show 12+j-(fv o.ints).length=j by simp[fv,hi],fP,jJ,jB (by omega),jA,jB (by omega)];rfl
theorem IP (a:Nat)(vi:Value)(o:Own){j:Nat}(hj:j<12)(hi:o.ints.length=12)(v:Int):(fS a vi o).set (2+j) (.int .i64 v)=fS a vi {o with ints:=o.ints.set j v}:=by
 have e:(fS a vi o).set (2+j) (.int .i64 v)=.pointer (some ⟨a,0,none⟩)::vi::(fv o.ints++fP o.boxes).set j (.int .i64 v):=by rw[Nat.add_comm];rfl
 rw[e,List.set_append_left _ _ (by simp[fv,hi];exact hj)];simp[fS,fv,List.map_set]
theorem IN (a:Nat)(vi:Value)(o:Own){j:Nat}(hi:o.ints.length=12)(n:Nat):(fS a vi o).set (14+j) (.int .i64 ((n:Nat):Int))=fS a vi {o with boxes:=o.boxes.set j n}:=by
 have e:(fS a vi o).set (14+j) (.int .i64 ((n:Nat):Int))=.pointer (some ⟨a,0,none⟩)::vi::(fv o.ints++fP o.boxes).set (12+j) (.int .i64 ((n:Nat):Int)):=by rw[show 14+j=(12+j)+2 by omega];rfl
 rw[e,List.set_append_right _ _ (by simp[fv,hi]),show 12+j-(fv o.ints).length=j by simp[fv,hi]];simp[fS,fP,List.map_set]
section
variable {z x a:Nat} {t:TypeId} {rest:List Value} {w w0 w1:World} {y:Yd} {vm vt vi vm1 vt1:Value} {o:Own}
theorem oB.E8 (h:oB z x t rest w y vm vt)(j:Nat)(u:Value):oB z x t (rest.set j u) (w.setCell ⟨x,3+j,none⟩ u) y vm vt/\aN x vm vt w vm vt (w.setCell ⟨x,3+j,none⟩ u):=by
 obtain⟨n1,n2⟩:=h.ty.ne;refine⟨⟨h.base,h.ty,?_,av h.made _ (au h.made h.aJ n1),av h.trace _ (au h.trace h.aJ n2)⟩,⟨rfl,rfl,rfl,by simp,fun k _ h1 _ _=>Below.heap_setCell _ _ _ _ (by show k≠x;exact h1),fun _ h=> .inl h,fun _ h=> .inl h⟩⟩;rw[Aux.heap_setCell_same h.aJ];congr 2;rw[List.setIfInBounds_toArray,Nat.add_comm 3 j];rfl
theorem oB.more (h:oB z x t rest w y vm vt)(j:Nat):w.cell? ⟨x,3+j,none⟩=rest[j]?/\w.frozen? ⟨x,3+j,none⟩=false:=by
 refine⟨?_,frozen_of_heap h.aJ _⟩;rw[cell_of_heap h.aJ,Nat.add_comm 3 j];simp
theorem dp.lt (h:dp w0 x a w o vi vm vt):x<w.heap.size:=h.kb.lt
theorem dp.below (h:dp w0 x a w o vi vm vt)(hb:Below w.heap.size w w1):dp w0 x a w1 o vi vm vt:=
 ⟨h.kb.below hb,h.br.trans (hb.mono h.br.size),h.ints,h.boxes,h.feed⟩
theorem dp.int (h:dp w0 x a w o vi vm vt){j:Nat}(hj:j<12):w.cell? ⟨x,5+j,none⟩=some (.int .i64 (o.ints.getD j 0))/\w.frozen? ⟨x,5+j,none⟩=false:=by
 have:=h.kb.more (2+j);rw[S8 a vi hj h.ints,show 3+(2+j)=5+j by omega]at this;exact this
theorem dp.bx (h:dp w0 x a w o vi vm vt){j:Nat}(hj:j<24):w.cell? ⟨x,17+j,none⟩=some (.int .i64 ((o.boxes.getD j 0:Nat):Int))/\w.frozen? ⟨x,17+j,none⟩=false:=by
 have:=h.kb.more (14+j);rw[S7 a vi hj h.ints h.boxes,show 3+(14+j)=17+j by omega]at this;exact this
theorem dp.setInt (h:dp w0 x a w o vi vm vt){j:Nat}(hj:j<12)(v:Int):dp w0 x a (w.setCell ⟨x,5+j,none⟩ (.int .i64 v)) {o with ints:=o.ints.set j v} vi vm vt/\aN x vm vt w vm vt (w.setCell ⟨x,5+j,none⟩ (.int .i64 v)):=by
 obtain⟨h1,h2⟩:=h.kb.E8 (2+j) (.int .i64 v);rw[IP a vi o hj h.ints,show 3+(2+j)=5+j by omega]at h1;rw[show 3+(2+j)=5+j by omega]at h2;exact⟨⟨h1,h.br.trans (h2.below h.kb (jC _) h.br.size),by simpa using h.ints,h.boxes,h.feed⟩,h2⟩
theorem dp.Th (h:dp w0 x a w o vi vm vt)(j:Nat)(n:Nat):dp w0 x a (w.setCell ⟨x,17+j,none⟩ (.int .i64 ((n:Nat):Int))) {o with boxes:=o.boxes.set j n} vi vm vt/\aN x vm vt w vm vt (w.setCell ⟨x,17+j,none⟩ (.int .i64 ((n:Nat):Int))):=by
 obtain⟨h1,h2⟩:=h.kb.E8 (14+j) (.int .i64 ((n:Nat):Int));rw[IN a vi o h.ints,show 3+(14+j)=17+j by omega]at h1;rw[show 3+(14+j)=17+j by omega]at h2;exact⟨⟨h1,h.br.trans (h2.below h.kb (jC _) h.br.size),h.ints,by simpa using h.boxes,h.feed⟩,h2⟩
theorem dp.zv (h:dp w0 x a w o vi vm vt){y':Yd}(h1:oB w0.heap.size x 104 (fS a vi o) w1 y' vm1 vt1)(h2:aN x vm vt w vm1 vt1 w1):dp w0 x a w1 {o with yd:=y'} vi vm1 vt1:=
 ⟨h1,h.br.trans (h2.below h.kb (jC _) h.br.size),h.ints,h.boxes,h.feed⟩
end
end Own
namespace Own
open Go Go.RowKit Sq Aux PrjJ PrjK PrjL PrjM FlwA
section
variable {x a:Nat} {w w0:World} {vm vt vi:Value} {o:Own}
set_option maxRecDepth 20000 in
theorem ej (h:dp w0 x a w o vi vm vt)(p:Nat×Nat)(hp:p.1<12):
  Calls Tryz.prog 58 #[.pointer (some ⟨x,0,none⟩),.agg #[.int .i64 (p.1:Nat),.int .i64 (p.2:Nat)]] w fun e w'=>e=.returned (.int .i64 (o.num p))/\Below w.heap.size w w':=by
 have aY:Below w.heap.size w (w.alloc (.cells #[.int .i64 (p.1:Nat),.int .i64 (p.2:Nat)] 119)):=(Below.refl _ _).alloc (jC _) _;have HA:=h.below aY;have c1:=(HA.int hp).1;have YV:(p.1:Int)<12:=by omega
 go_enter Tryz.func58,Tryz.ntmps58
 go_wp2
 go_region
 all_goals go_wp2_with fail
 all_goals
  go_ret
  exact⟨rfl,⟨aY.os,aY.tape,aY.output,aY.size,aY.block⟩⟩
set_option maxRecDepth 20000 in
theorem iY (h:dp w0 x a w o vi vm vt)(p:Nat×Nat)(hp:p.1<12):
  Calls Tryz.prog 99 #[.pointer (some ⟨x,0,none⟩),.agg #[.int .i64 (p.1:Nat),.int .i64 (p.2:Nat)]] w fun e w'=>e=.returned (.int .i64 ((o.box p:Nat):Int))/\Below w.heap.size w w':=by
 have aY:Below w.heap.size w (w.alloc (.cells #[.int .i64 (p.1:Nat),.int .i64 (p.2:Nat)] 119)):=(Below.refl _ _).alloc (jC _) _;have HA:=h.below aY;have yV:ah p<24:=by unfold ah;split<;>omega
 have RQ:(ah p:Int)<24:=by omega
 have KS:=kU p (w.alloc (.cells #[.int .i64 (p.1:Nat),.int .i64 (p.2:Nat)] 119)).drew (by omega);go_enter Tryz.func99,Tryz.ntmps99
 go_wp2
 go_region_with (go_at_call 62;refine KS.mono ?_;rintro e w1 ⟨rfl,aw⟩;have bU:Below (w.alloc (.cells #[.int .i64 (p.1:Nat),.int .i64 (p.2:Nat)] 119)).heap.size (w.alloc (.cells #[.int .i64 (p.1:Nat),.int .i64 (p.2:Nat)] 119)) w1:=⟨aw.os,aw.tape,aw.output,aw.size,aw.block⟩;have c1:=((HA.below bU).bx yV).1)
 all_goals go_wp2_with fail
 all_goals
  go_ret
  exact⟨rfl,aY.trans (bU.mono aY.size)⟩
end
def aO (n:Int):Prop:= -9223372036854775808<=n/\n<=9223372036854775807
def vf (op:Nat)(m n:Int):Int:=if op=3 then wrap64 (m+n)else if op=4 then wrap64 (m-n)else if op=5 then wrap64 (m*n)else wrap64 (m.tdiv n)
theorem As (op:Nat)(m n:Int)(w:World)(hn:op=6->¬n=0)(ho:op=3\/op=4\/op=5\/op=6)(_hm: -9223372036854775808<=m/\m<=9223372036854775807)(_hn': -9223372036854775808<=n/\n<=9223372036854775807):
  Calls Tryz.prog 95 #[.int .i64 (op:Nat),.int .i64 m,.int .i64 n] w fun e w'=>e=.returned (.int .i64 (vf op m n))/\w'=w:=by
 rcases ho with rfl|rfl|rfl|rfl
 ·go_enter Tryz.func95,Tryz.ntmps95
  go_wp2
  go_ret
  exact⟨rfl,rfl⟩
 ·go_enter Tryz.func95,Tryz.ntmps95
  go_wp2
  go_ret
  exact⟨rfl,rfl⟩
 ·go_enter Tryz.func95,Tryz.ntmps95
  go_wp2
  go_ret
  exact⟨rfl,rfl⟩
 ·have h0:(n==0)=false:=by rw[jZ];exact hn rfl
  go_enter Tryz.func95,Tryz.ntmps95
  go_wp2
  go_ret
  exact⟨rfl,rfl⟩
abbrev lnV (l:ab)(ap an:Option Addr)(cp cn:Nat):Value:=.agg #[.int .i64 (l.num:Nat),.int .i64 (l.op:Nat),.slice ap l.places.length cp,.int .i64 l.number,.int .i64 l.flag,.slice an l.next.length cn]
section
variable {x a:Nat} {w w0:World} {vm vt vi:Value} {o:Own}
set_option maxRecDepth 20000 in
theorem VW {z:Nat}{l:ab}{ap an:Option Addr}{cp cn:Nat}(hl:bq z w l (.slice ap l.places.length cp) (.slice an l.next.length cn))(b:Bool)(hb:(if b then 1 else 0)<l.next.length):
  Calls Tryz.prog 100 #[lnV l ap an cp cn,.bool b] w fun e w'=>e=.returned (.int .i64 ((l.next.getD (if b then 1 else 0) 0:Nat):Int))/\Below w.heap.size w w':=by
 have aY:Below w.heap.size w (w.alloc (.cells #[.int .i64 (l.num:Nat),.int .i64 (l.op:Nat),.slice ap l.places.length cp,.int .i64 l.number,.int .i64 l.flag,.slice an l.next.length cn] 115)):=(Below.refl _ _).alloc (jC _) _;obtain⟨g,cap,e,hc,hg,aD⟩:=dK hl.next (by omega);simp only[Value.slice.injEq]at e;obtain⟨rfl,-,rfl⟩:=e;have c1:=aD (if b then 1 else 0) (by omega);have c2:(dH l.next)[if b then 1 else 0]?=some (.int .i64 ((l.next.getD (if b then 1 else 0) 0:Nat):Int)):=by
  rw[dH,jJ,jB hb,jA,jB hb];rfl
 rw[c2]at c1;have c3:=(aY.cell (p:=⟨g,if b then 1 else 0,none⟩) hg).trans c1;cases b
 ·simp only[Bool.false_eq_true,if_false]at c1 c3 hb;have TV:(0:Int)<l.next.length:=by omega
  go_enter Tryz.func100,Tryz.ntmps100
  go_wp2
  go_ret
  exact⟨rfl,aY⟩
 ·simp only[if_true]at c1 c3 hb;have TV:(1:Int)<l.next.length:=by omega
  go_enter Tryz.func100,Tryz.ntmps100
  go_wp2
  go_ret
  exact⟨rfl,aY⟩
end
end Own
namespace RefRa
open Go.RowKit Sq RefA RefO Aux
def TN (k:Nat):UInt8:=UInt8.ofNat (48+k)
theorem MI {k:Nat}(h:k<=9):(TN k).toNat=48+k:=by
 unfold TN;rw[UInt8.toNat_ofNat_of_lt' (by show _<256;omega)]
def pA (n:Nat):B:=if _h:n<=9 then [TN n]else pA (n/10)++[TN (n%10)]
termination_by n
decreasing_by omega
theorem C3 (n:Nat)(h:9<n):pA n=pA (n/10)++[TN (n%10)]:=by
 rw[pA,dif_neg (by omega)]
theorem Ax (n:Nat)(h:n<=9):pA n=[TN n]:=by
 rw[pA,dif_pos h]
theorem MH (w:World)(x:Int)(c:UInt8)(h:x=(c.toNat:Int)):(convert 93 9 (.slice (some ⟨w.heap.size,0,none⟩) 1 1)).run Tryz.prog (w.alloc (.cells #[.int .u8 x] 5))=.ok (.string (bs [c])) (w.alloc (.cells #[.int .u8 x] 5)):=by
 subst h;exact F4 w c
theorem Nc (c:UInt8)(s:B):Value.string (bs [c]++bs s)=.string (bs (c::s)):=by
 rw[AF (s:=bs [c]++bs s) (l:=c::s) (by rw[eJ,aE,aE];rfl)]
theorem J0 {n m:Nat}{s:B}(hn:n<=9223372036854775807)(h:10^s.length*m<=n)(h':s=[]\/1<=m):s.length<=18:=by
 rcases h' with rfl|h'
 ·simp
 ·by_cases hl:s.length<=18
  ·exact hl
  ·exfalso;have h1:10^19<=10^s.length:=Nat.pow_le_pow_right (by omega) (by omega);have h2:10^s.length*1<=10^s.length*m:=Nat.mul_le_mul_left _ h';omega
theorem NN {n m:Nat}{s:B}(h:10^s.length*m<=n)(c:UInt8):10^(c::s).length*(m/10)<=n:=by
 have:10^(c::s).length*(m/10)=10^s.length*(10*(m/10)):=by rw[jY,Nat.pow_succ,Nat.mul_assoc]
 rw[this];exact jS (Nat.mul_le_mul_left _ (by omega)) h
set_option maxRecDepth 20000 in
set_option maxHeartbeats 1000000 in
theorem yK (n:Nat)(w:World)(hn:n<=9223372036854775807):
  Calls Tryz.prog 191 #[.int .i64 n] w fun e w'=>e=.returned (.string (bs (pA n)))/\Below w.heap.size w w':=by
 go_enter Tryz.func191,Tryz.ntmps191
 have h1:((n:Int)== -9223372036854775808)=false:=by rw[jZ];omega
 have h2:¬(n:Int)<0:=by omega
 go_wp2
 go_loopg [0,3] (n) (fun g v0 v3 wr=>∃(m:Nat) (s:B),m<=n/\g=m/\v0=.int .i64 m/\v3=.string (bs s)/\Below w.heap.size w wr/\Hid (pA n=pA m++s)/\Hid (10^s.length*m<=n)/\Hid (s=[]\/1<=m))
 case atStart=>exact⟨n,[],by omega,rfl,rfl,rfl,Below.refl _ _,by unfold Hid;simp,by unfold Hid;simp,.inl rfl⟩
 case round=>
  obtain⟨m,s,hm,hgm,rfl,rfl,hB,HI,HP,HQ⟩:=hrel;have yV:s.length<=18:=J0 hn HP.out HQ.out;by_cases h9:9<m
  ·have h9I:(9:Int)<m:=by omega
   have HS:Hid (_=_):=C3 m h9;have kc:=MH wr (48+(m:Int)%10) (TN (m%10)) (by rw[MI (by omega)];omega);go_wp2
   go_roundg (m/10)
   case rel=>exact⟨m/10,TN (m%10)::s,by omega,rfl,by go_num,Nc _ _,hB.alloc hB.size _,by unfold Hid;rw[HI.out,HS.out];simp,NN HP.out _,.inr (by omega)⟩
   case measure=>omega
  ·have h9I:¬(9:Int)<m:=by omega
   have HS:Hid (_=_):=Ax m (by omega);have kc:=MH wr (48+(m:Int)) (TN m) (by rw[MI (by omega)];omega);go_wp2
   go_ret
   refine⟨oi ?_,hB.alloc hB.size _⟩;rw[HI.out,HS.out];apply AF
   rw[eJ,aE,aE]
def su (z:Int):B:=if z<0 then 45::pA z.natAbs else pA z.natAbs
theorem JT:pA 9223372036854775808=[57,50,50,51,51,55,50,48,51,54,56,53,52,55,55,53,56,48,56]:=by
 simp[pA,TN]
theorem Ay:∀(k n:Nat),n<10^(k+1)->(pA n).length<=k+1
 |0,n,h=>by rw[Ax n (by omega)];simp
 |k+1,n,h=>by
  by_cases h9:9<n
  ·rw[C3 n h9];have:=Ay k (n/10) (by rw[Nat.pow_succ]at h;omega);simp;omega
  ·rw[Ax n (by omega)];simp
set_option maxRecDepth 20000 in
set_option maxHeartbeats 1000000 in
theorem F8 (z:Int)(w:World)(h1: -9223372036854775808<=z)(h2:z<=9223372036854775807):
  Calls Tryz.prog 191 #[.int .i64 z] w fun e w'=>e=.returned (.string (bs (su z)))/\Below w.heap.size w w':=by
 by_cases h0:z<0
 ·by_cases hl:z= -9223372036854775808
  ·subst hl;have hd:su (-9223372036854775808)=45::[57,50,50,51,51,55,50,48,51,54,56,53,52,55,55,53,56,48,56]:=by
    unfold su;rw[jb (by decide),<-JT];rfl
   rw[hd];go_enter Tryz.func191,Tryz.ntmps191
   go_wp2
   go_ret
   exact⟨rfl,Below.refl _ _⟩
  ·obtain⟨n,rfl⟩:∃n:Nat,z= -(n:Int):=⟨z.natAbs,by omega⟩;have hd:su (-(n:Int))=45::pA n:=by unfold su;rw[jb h0];simp
   have HD:Hid (_=_):=hd;clear hd;have HP:=yK n w (by omega);have GL:((-(n:Int))== -9223372036854775808)=false:=by rw[jZ];exact hl
   have hlen:=Ay 18 n (by omega);have Ko:IntKind.i64.wrap (-(-(n:Int)))=n:=by rw[IntKind.wrap_i64];omega
   go_enter Tryz.func191,Tryz.ntmps191
   go_wp2_with (go_at_call 191;refine HP.mono ?_;rintro e w' ⟨rfl,hb⟩)
   go_ret
   exact⟨by rw[HD.out,<-Nc];rfl,hb⟩
 ·obtain⟨n,rfl⟩:∃n:Nat,z=(n:Int):=⟨z.natAbs,by omega⟩;have hd:su (n:Int)=pA n:=by unfold su;rw[ja h0];rfl
  rw[hd];exact yK n w (by omega)
end RefRa
namespace Mac
open Go Go.RowKit Sq Aux PrjJ PrjK PrjL PrjM Go.Proofs.YtmlgajhhnojdjaaGreatDoor.Own
structure RM where
 ints:List Int
 has:List Bool
 held:List Nat
 ba:List UInt8
 flags:List Bool
 boxes:List (Int×Bool)
 count:Int
 trace:B
 used:Nat
 out:Nat
 value:Int
structure Fx where
 a:Nat
 owns:Bool
 room:Int
 vi:Value
 kept:List (Nat×List Value×Fin 3)
def Cw (b:Fin 3):TypeId:=if b=0 then 89 else if b=1 then 90 else 73
def KV (l:List Int):List Value:=l.map fun v=> .int .i64 v
def qj (l:List Bool):List Value:=l.map Value.bool
def mF (l:List Nat):List Value:=l.map fun v=> .int .i64 (v:Nat)
def ey (l:List UInt8):List Value:=l.map fun v=> .int .u8 (v.toNat:Nat)
def Rs (f:Fx):List Value:=[.pointer (some ⟨f.a,0,none⟩),.bool f.owns]
def Tv (f:Fx)(m:RM)(vb vt:Value):List Value:=[vb,.int .i64 m.count,.int .i64 f.room,vt,f.vi,.int .i64 (m.used:Nat),.int .i64 (m.out:Nat),.int .i64 m.value]
def RM.cells (f:Fx)(m:RM)(vb vt:Value):List Value:=
 Rs f++(KV m.ints++(qj m.has++(mF m.held++(ey m.ba++(qj m.flags++Tv f m vb vt)))))
structure RM.rO (m:RM):Prop where
 ints:m.ints.length=24
 has:m.has.length=24
 held:m.held.length=24
 ba:m.ba.length=24
 flags:m.flags.length=50
structure bO (w0:World)(x:Nat)(f:Fx)(w:World)(m:RM)(vb vt:Value):Prop where
 base:w0.heap.size<=x
 aJ:w.heap[x]?=some (.cells (m.cells f vb vt).toArray 95 (0,0))
 boxes:w.ownsRow w0.heap.size 264 2 vb m.boxes.length (bH m.boxes)
 trace:w.ownsRow w0.heap.size 5 1 vt m.trace.length (ey m.trace)
 br:Below w0.heap.size w0 w
 len:m.rO
 loc:∀e∈f.kept,w.heap[e.1]?=some (.cells e.2.1.toArray (Cw e.2.2) (0,0))
def cd (w0:World)(x:Nat)(f:Fx)(w:World)(m:RM):Prop:=∃vb vt,bO w0 x f w m vb vt
theorem dG {A C:List Value}{n:Nat}(h:A.length=n)(k:Nat):(A++C)[n+k]?=C[k]?:=by
 rw[jf (by omega)];congr 1;omega
theorem dL {A C:List Value}{n:Nat}(h:A.length=n)(k:Nat)(v:Value):(A++C).set (n+k) v=A++C.set k v:=by
 rw[List.set_append_right _ _ (by omega)];congr 2;omega
theorem Em {A C:List Value}{n k:Nat}(h:A.length=n)(hk:k<n):(A++C)[k]?=A[k]?:=by
 rw[jg (by omega)]
theorem E9 {A C:List Value}{n k:Nat}(h:A.length=n)(hk:k<n)(v:Value):(A++C).set k v=A.set k v++C:=by
 rw[List.set_append_left _ _ (by omega)]
theorem gW (f:Fx):(Rs f).length=2:=rfl
section
variable {f:Fx} {m:RM} {vb vt:Value}
theorem RM.rO.l1 (h:m.rO):(KV m.ints).length=24:=by rw[KV,jc,h.ints]
theorem RM.rO.l2 (h:m.rO):(qj m.has).length=24:=by rw[qj,jc,h.has]
theorem RM.rO.l3 (h:m.rO):(mF m.held).length=24:=by rw[mF,jc,h.held]
theorem RM.rO.l4 (h:m.rO):(ey m.ba).length=24:=by rw[ey,jc,h.ba]
theorem RM.rO.l5 (h:m.rO):(qj m.flags).length=50:=by rw[qj,jc,h.flags]
theorem RM.rO.getInt (h:m.rO){j:Nat}(hj:j<24):(m.cells f vb vt)[2+j]?=some (.int .i64 (m.ints.getD j 0)):=by
 rw[RM.cells,dG (gW f),Em h.l1 hj,KV,jJ,jB (by rw[h.ints];exact hj),jA,jB (by rw[h.ints];exact hj)];rfl
theorem RM.rO.Xc (h:m.rO){j:Nat}(hj:j<24):(m.cells f vb vt)[26+j]?=some (.bool (m.has.getD j false)):=by
 rw[RM.cells,show 26+j=2+(24+j) by omega,dG (gW f),dG h.l1,Em h.l2 hj,qj,jJ,jB (by rw[h.has];exact hj),jA,jB (by rw[h.has];exact hj)];rfl
theorem RM.rO.Uy (h:m.rO){j:Nat}(hj:j<24):(m.cells f vb vt)[50+j]?=some (.int .i64 (m.held.getD j 0:Nat)):=by
 rw[RM.cells,show 50+j=2+(24+(24+j)) by omega,dG (gW f),dG h.l1,dG h.l2,Em h.l3 hj,mF,jJ,jB (by rw[h.held];exact hj),jA,jB (by rw[h.held];exact hj)];rfl
theorem RM.rO.Xd (h:m.rO){j:Nat}(hj:j<24):(m.cells f vb vt)[74+j]?=some (.int .u8 ((m.ba.getD j 0).toNat:Nat)):=by
 rw[RM.cells,show 74+j=2+(24+(24+(24+j))) by omega,dG (gW f),dG h.l1,dG h.l2,dG h.l3,Em h.l4 hj,ey,jJ,jB (by rw[h.ba];exact hj),jA,jB (by rw[h.ba];exact hj)];rfl
theorem RM.rO.jr (h:m.rO)(j:Nat):(m.cells f vb vt)[148+j]?=(Tv f m vb vt)[j]?:=by
 rw[RM.cells,show 148+j=2+(24+(24+(24+(24+(50+j))))) by omega,dG (gW f),dG h.l1,dG h.l2,dG h.l3,dG h.l4,dG h.l5]
theorem RM.rO.setInt (h:m.rO){j:Nat}(hj:j<24)(v:Int):(m.cells f vb vt).set (2+j) (.int .i64 v)=RM.cells f {m with ints:=m.ints.set j v} vb vt:=by
 rw[RM.cells,dL (gW f),E9 h.l1 hj];unfold RM.cells;simp[KV,List.map_set];rfl
theorem RM.rO.L1 (h:m.rO){j:Nat}(hj:j<24)(v:Bool):(m.cells f vb vt).set (26+j) (.bool v)=RM.cells f {m with has:=m.has.set j v} vb vt:=by
 rw[RM.cells,show 26+j=2+(24+j) by omega,dL (gW f),dL h.l1,E9 h.l2 hj];unfold RM.cells;simp[qj,List.map_set];rfl
theorem RM.rO.zZ (h:m.rO){j:Nat}(hj:j<24)(v:Nat):(m.cells f vb vt).set (50+j) (.int .i64 (v:Nat))=RM.cells f {m with held:=m.held.set j v} vb vt:=by
 rw[RM.cells,show 50+j=2+(24+(24+j)) by omega,dL (gW f),dL h.l1,dL h.l2,E9 h.l3 hj];unfold RM.cells;simp[mF,List.map_set];rfl
theorem RM.rO.pX (h:m.rO){j:Nat}(hj:j<24)(v:UInt8):(m.cells f vb vt).set (74+j) (.int .u8 (v.toNat:Nat))=RM.cells f {m with ba:=m.ba.set j v} vb vt:=by
 rw[RM.cells,show 74+j=2+(24+(24+(24+j))) by omega,dL (gW f),dL h.l1,dL h.l2,dL h.l3,E9 h.l4 hj];unfold RM.cells;simp[ey,List.map_set];rfl
theorem RM.rO.sh (h:m.rO)(j:Nat)(v:Value):(m.cells f vb vt).set (148+j) v=Rs f++(KV m.ints++(qj m.has++(mF m.held++(ey m.ba++(qj m.flags++(Tv f m vb vt).set j v))))):=by
 rw[RM.cells,show 148+j=2+(24+(24+(24+(24+(50+j))))) by omega,dL (gW f),dL h.l1,dL h.l2,dL h.l3,dL h.l4,dL h.l5]
end
theorem oF {w0 w:World}(h:Below w0.heap.size w0 w){x:Nat}(hx:w0.heap.size<=x)(j:Nat)(v:Value):Below w0.heap.size w0 (w.setCell ⟨x,j,none⟩ v):=
 ⟨h.os,h.tape,h.output,by simpa using h.size,fun k hk=>(Below.heap_setCell _ _ _ _ (by show k≠x;omega)).trans (h.block k hk)⟩
section
variable {w0 w w1 w2 w3:World} {x:Nat} {f:Fx} {m:RM} {vb vt v':Value}
theorem bO.lt (h:bO w0 x f w m vb vt):x<w.heap.size:=lt_of_heap h.aJ
theorem bO.below (h:bO w0 x f w m vb vt)(hb:Below w.heap.size w w1):bO w0 x f w1 m vb vt:=
 ⟨h.base,by rw[hb.block x h.lt];exact h.aJ,ay h.boxes hb,ay h.trace hb,h.br.trans (hb.mono h.br.size),h.len,fun e he=>by rw[hb.block _ (lt_of_heap (h.loc e he))];exact h.loc e he⟩
theorem cd.below (h:cd w0 x f w m)(hb:Below w.heap.size w w1):cd w0 x f w1 m:=by
 obtain⟨vb,vt,h⟩:=h;exact⟨vb,vt,h.below hb⟩
theorem bO.cell (h:bO w0 x f w m vb vt)(j:Nat):w.cell? ⟨x,j,none⟩=(m.cells f vb vt)[j]?:=by
 rw[cell_of_heap h.aJ];simp
theorem bO.Ci (h:bO w0 x f w m vb vt)(j:Nat):w.frozen? ⟨x,j,none⟩=false:=frozen_of_heap h.aJ j
theorem bO.facts (h:bO w0 x f w m vb vt):w.cell? ⟨x,0,none⟩=some (.pointer (some ⟨f.a,0,none⟩))/\w.cell? ⟨x,1,none⟩=some (.bool f.owns)/\w.cell? ⟨x,148,none⟩=some vb/\w.cell? ⟨x,149,none⟩=some (.int .i64 m.count)/\w.cell? ⟨x,150,none⟩=some (.int .i64 f.room)/\
  w.cell? ⟨x,151,none⟩=some vt/\w.cell? ⟨x,152,none⟩=some f.vi/\w.cell? ⟨x,153,none⟩=some (.int .i64 (m.used:Nat))/\w.cell? ⟨x,154,none⟩=some (.int .i64 (m.out:Nat))/\w.cell? ⟨x,155,none⟩=some (.int .i64 m.value):=
 ⟨by rw[h.cell];rfl,by rw[h.cell];rfl,by rw[h.cell,h.len.jr 0];rfl,by rw[h.cell,h.len.jr 1];rfl,by rw[h.cell,h.len.jr 2];rfl,by rw[h.cell,h.len.jr 3];rfl,by rw[h.cell,h.len.jr 4];rfl,by rw[h.cell,h.len.jr 5];rfl,by rw[h.cell,h.len.jr 6];rfl,by rw[h.cell,h.len.jr 7];rfl⟩
theorem bO.eB (h:bO w0 x f w m vb vt):w.frozen? ⟨x,148,none⟩=false/\w.frozen? ⟨x,149,none⟩=false/\w.frozen? ⟨x,151,none⟩=false/\w.frozen? ⟨x,153,none⟩=false/\w.frozen? ⟨x,154,none⟩=false/\w.frozen? ⟨x,155,none⟩=false:=
 ⟨h.Ci _,h.Ci _,h.Ci _,h.Ci _,h.Ci _,h.Ci _⟩
theorem bO.MX (h:bO w0 x f w m vb vt){j:Nat}(hj:j<24):w.cell? ⟨x,2+j,none⟩=some (.int .i64 (m.ints.getD j 0))/\w.frozen? ⟨x,2+j,none⟩=false:=⟨by rw[h.cell,h.len.getInt hj],h.Ci _⟩
theorem bO.eC (h:bO w0 x f w m vb vt){j:Nat}(hj:j<24):w.cell? ⟨x,26+j,none⟩=some (.bool (m.has.getD j false))/\w.frozen? ⟨x,26+j,none⟩=false:=⟨by rw[h.cell,h.len.Xc hj],h.Ci _⟩
theorem bO.Et (h:bO w0 x f w m vb vt){j:Nat}(hj:j<24):w.cell? ⟨x,50+j,none⟩=some (.int .i64 (m.held.getD j 0:Nat))/\w.frozen? ⟨x,50+j,none⟩=false:=⟨by rw[h.cell,h.len.Uy hj],h.Ci _⟩
theorem bO.qn (h:bO w0 x f w m vb vt){j:Nat}(hj:j<24):w.cell? ⟨x,74+j,none⟩=some (.int .u8 ((m.ba.getD j 0).toNat:Nat))/\w.frozen? ⟨x,74+j,none⟩=false:=⟨by rw[h.cell,h.len.Xd hj],h.Ci _⟩
theorem Ja:264≠95:=by decide
theorem Fi:5≠95:=by decide
theorem EF:∀b:Fin 3,95≠Cw b/\264≠Cw b/\5≠Cw b:=by decide
theorem bO.apart (h:bO w0 x f w m vb vt){e:Nat×List Value×Fin 3}(he:e∈f.kept):e.1≠x:=fun e1=>by
 have h1:=h.loc e he;rw[e1,h.aJ]at h1;injection h1 with h1
 injection h1 with _ h2 _
 exact(EF e.2.2).1 h2
theorem bO.put (h:bO w0 x f w m vb vt){j:Nat}{v:Value}{m':RM}(hc:(m.cells f vb vt).set j v=m'.cells f vb vt)(h1:m'.boxes=m.boxes)(h2:m'.trace=m.trace)(h3:m'.rO):bO w0 x f (w.setCell ⟨x,j,none⟩ v) m' vb vt:=by
 refine⟨h.base,?_,?_,?_,oF h.br h.base _ _,h3,fun e he=>(Below.heap_setCell _ _ _ _ (h.apart he)).trans (h.loc e he)⟩
 ·rw[Aux.heap_setCell_same h.aJ,<-hc];simp
 ·rw[h1];exact av h.boxes _ (au h.boxes h.aJ Ja)
 ·rw[h2];exact av h.trace _ (au h.trace h.aJ Fi)
end
end Mac
namespace Mac
open Go Go.RowKit Sq Aux PrjJ PrjK PrjL PrjM Go.Proofs.YtmlgajhhnojdjaaGreatDoor.Own RefRa
theorem vU {w:World}{base:Nat}{e:TypeId}{size:Nat}{v:Value}{n:Nat}{xs:List Value}(h:w.ownsRow base e size v n xs):∃b cap,v=.slice b n cap:=by
 obtain⟨-,h⟩:=h;rcases h with⟨rfl,rfl⟩|⟨g,cap,cur,rfl,-⟩
 ·exact⟨_,_,rfl⟩
 ·exact⟨_,_,rfl⟩
section
variable {w0 w w1 w2 w3:World} {x:Nat} {f:Fx} {m:RM} {vb vt v':Value}
theorem bO.setInt (h:bO w0 x f w m vb vt){j:Nat}(hj:j<24)(v:Int):bO w0 x f (w.setCell ⟨x,2+j,none⟩ (.int .i64 v)) {m with ints:=m.ints.set j v} vb vt:=
 h.put (h.len.setInt hj v) rfl rfl ⟨by simpa using h.len.ints,h.len.has,h.len.held,h.len.ba,h.len.flags⟩
theorem bO.L1 (h:bO w0 x f w m vb vt){j:Nat}(hj:j<24)(v:Bool):bO w0 x f (w.setCell ⟨x,26+j,none⟩ (.bool v)) {m with has:=m.has.set j v} vb vt:=
 h.put (h.len.L1 hj v) rfl rfl ⟨h.len.ints,by simpa using h.len.has,h.len.held,h.len.ba,h.len.flags⟩
theorem bO.zZ (h:bO w0 x f w m vb vt){j:Nat}(hj:j<24)(v:Nat):bO w0 x f (w.setCell ⟨x,50+j,none⟩ (.int .i64 (v:Nat))) {m with held:=m.held.set j v} vb vt:=
 h.put (h.len.zZ hj v) rfl rfl ⟨h.len.ints,h.len.has,by simpa using h.len.held,h.len.ba,h.len.flags⟩
theorem bO.pX (h:bO w0 x f w m vb vt){j:Nat}(hj:j<24)(v:UInt8):bO w0 x f (w.setCell ⟨x,74+j,none⟩ (.int .u8 (v.toNat:Nat))) {m with ba:=m.ba.set j v} vb vt:=
 h.put (h.len.pX hj v) rfl rfl ⟨h.len.ints,h.len.has,h.len.held,by simpa using h.len.ba,h.len.flags⟩
theorem bO.IW (h:bO w0 x f w m vb vt)(v:Int):bO w0 x f (w.setCell ⟨x,149,none⟩ (.int .i64 v)) {m with count:=v} vb vt:=
 h.put (h.len.sh 1 _) rfl rfl ⟨h.len.ints,h.len.has,h.len.held,h.len.ba,h.len.flags⟩
theorem bO.Ni (h:bO w0 x f w m vb vt)(v:Nat):bO w0 x f (w.setCell ⟨x,153,none⟩ (.int .i64 (v:Nat))) {m with used:=v} vb vt:=
 h.put (h.len.sh 5 _) rfl rfl ⟨h.len.ints,h.len.has,h.len.held,h.len.ba,h.len.flags⟩
theorem bO.tG (h:bO w0 x f w m vb vt)(v:Nat):bO w0 x f (w.setCell ⟨x,154,none⟩ (.int .i64 (v:Nat))) {m with out:=v} vb vt:=
 h.put (h.len.sh 6 _) rfl rfl ⟨h.len.ints,h.len.has,h.len.held,h.len.ba,h.len.flags⟩
theorem bO.setValue (h:bO w0 x f w m vb vt)(v:Int):bO w0 x f (w.setCell ⟨x,155,none⟩ (.int .i64 v)) {m with value:=v} vb vt:=
 h.put (h.len.sh 7 _) rfl rfl ⟨h.len.ints,h.len.has,h.len.held,h.len.ba,h.len.flags⟩
theorem mU {w0 w w1:World}(h:Below w0.heap.size w0 w){ob:Option Nat}(hg:w.grownBy w1 ob)(ec:∀k,k<w0.heap.size->some k≠ob):Below w0.heap.size w0 w1:=
 ⟨hg.os.trans h.os,hg.tape.trans h.tape,hg.output.trans h.output,jS h.size hg.size,fun k hk=>(hg.block k (jK hk h.size) (ec k hk)).trans (h.block k hk)⟩
theorem bO.Mw (h:bO w0 x f w m vb vt){c:UInt8}(h3:w3.ownsRow w0.heap.size 5 1 v' (m.trace.length+1) (ey m.trace++[.int .u8 (c.toNat:Nat)]))(hg:w.grownBy w3 vt.ownBlock):
  w3.heap[x]?=some (.cells (m.cells f vb vt).toArray 95 (0,0))/\bO w0 x f (w3.setCell ⟨x,151,none⟩ v') {m with trace:=m.trace++[c]} vb v':=by
 have ec:some x≠vt.ownBlock:=bj h.trace h.aJ Fi;have bV:w3.heap[x]?=some (.cells (m.cells f vb vt).toArray 95 (0,0)):=by rw[hg.block x h.lt ec];exact h.aJ
 have hm:=h.boxes.kept hg (da h.boxes h.trace (by decide));have hold:Below w0.heap.size w0 w3:=mU h.br hg (fun k hk e=>by have:=(h.trace.lt k e.symm).1;omega);refine⟨bV,⟨h.base,?_,av hm _ (au hm bV Ja),?_,oF hold h.base _ _,⟨h.len.ints,h.len.has,h.len.held,h.len.ba,h.len.flags⟩,fun e he=>(Below.heap_setCell _ _ _ _ (h.apart he)).trans ((hg.block _ (lt_of_heap (h.loc e he)) (bj h.trace (h.loc e he) (EF e.2.2).2.2)).trans (h.loc e he))⟩⟩
 ·rw[Aux.heap_setCell_same bV];have:=h.len.sh (f:=f) (vb:=vb) (vt:=vt) 3 v';simp only[List.setIfInBounds_toArray];rw[this];rfl
 ·have:=av h3 (a:=⟨x,151,none⟩) v' (au h3 bV Fi);simpa [ey]using this
theorem bO.Jz (h:bO w0 x f w m vb vt){b:Int×Bool}(h3:w3.ownsRow w0.heap.size 264 2 v' (m.boxes.length+1) (bH m.boxes++py b))(hg:w.grownBy w3 vb.ownBlock):
  w3.heap[x]?=some (.cells (m.cells f vb vt).toArray 95 (0,0))/\bO w0 x f (w3.setCell ⟨x,148,none⟩ v') {m with boxes:=m.boxes++[b]} v' vt:=by
 have ec:some x≠vb.ownBlock:=bj h.boxes h.aJ Ja;have bV:w3.heap[x]?=some (.cells (m.cells f vb vt).toArray 95 (0,0)):=by rw[hg.block x h.lt ec];exact h.aJ
 have hm:=h.trace.kept hg (da h.trace h.boxes (by decide));have hold:Below w0.heap.size w0 w3:=mU h.br hg (fun k hk e=>by have:=(h.boxes.lt k e.symm).1;omega);refine⟨bV,⟨h.base,?_,?_,av hm _ (au hm bV Fi),oF hold h.base _ _,⟨h.len.ints,h.len.has,h.len.held,h.len.ba,h.len.flags⟩,fun e he=>(Below.heap_setCell _ _ _ _ (h.apart he)).trans ((hg.block _ (lt_of_heap (h.loc e he)) (bj h.boxes (h.loc e he) (EF e.2.2).2.1)).trans (h.loc e he))⟩⟩
 ·rw[Aux.heap_setCell_same bV];have:=h.len.sh (f:=f) (vb:=vb) (vt:=vt) 0 v';simp only[List.setIfInBounds_toArray];rw[this];rfl
 ·have:=av h3 (a:=⟨x,148,none⟩) v' (au h3 bV Ja);simpa [bH]using this
def RM.box (m:RM)(n:Nat):Int×Bool:=m.boxes.getD (n-1) (0,false)
theorem bO.box (h:bO w0 x f w m vb vt){n:Nat}(h1:1<=n)(hn:n<=m.boxes.length):∃g cap,vb=.slice (some ⟨g,0,none⟩) m.boxes.length cap/\m.boxes.length<=cap/\g<w.heap.size/\w.cell? ⟨g,(n-1)*2,none⟩=some (.int .i64 (m.box n).1)/\w.cell? ⟨g,(n-1)*2+1,none⟩=some (.bool (m.box n).2)/\
  w.frozen? ⟨g,(n-1)*2,none⟩=false/\w.frozen? ⟨g,(n-1)*2+1,none⟩=false:=by
 obtain⟨g,cap,rfl,hc,hg,aD⟩:=dK h.boxes (by omega);obtain⟨b0,b1⟩:=zF m.boxes (n-1) (by omega);exact⟨g,cap,rfl,hc,hg,by rw[aD _ (by omega)];exact b0,by rw[aD _ (by omega)];exact b1,h.boxes.frozenAt _,h.boxes.frozenAt _⟩
theorem bO.tF {g cap:Nat}(h:bO w0 x f w m (.slice (some ⟨g,0,none⟩) m.boxes.length cap) vt){n:Nat}(h1:1<=n)(hn:n<=m.boxes.length):
  (∀v:Int,bO w0 x f (w.setCell ⟨g,(n-1)*2,none⟩ (.int .i64 v)) {m with boxes:=m.boxes.set (n-1) (v,(m.box n).2)} (.slice (some ⟨g,0,none⟩) m.boxes.length cap) vt)/\
  (∀v:Bool,bO w0 x f (w.setCell ⟨g,(n-1)*2+1,none⟩ (.bool v)) {m with boxes:=m.boxes.set (n-1) ((m.box n).1,v)} (.slice (some ⟨g,0,none⟩) m.boxes.length cap) vt):=by
 obtain⟨b0,b1⟩:=zF m.boxes (n-1) (by omega);have Y0:x≠g:=fun e=>au h.boxes h.aJ Ja (by rw[e];rfl)
 have hzg:w0.heap.size<=g:=(h.boxes.lt g rfl).1;have htg:vt.ownBlock≠some g:=fun e=>by
  rcases da h.trace h.boxes (by decide)with h0|h0
  ·rw[e]at h0;cases h0
  ·exact h0 e
 have aJ:∀(o:Nat) (u:Value),(w.setCell ⟨g,o,none⟩ u).heap[x]?=w.heap[x]?:=fun o u=>Below.heap_setCell _ _ _ _ (by show x≠g;exact Y0)
 have hk:∀(o:Nat) (u:Value),∀e∈f.kept,(w.setCell ⟨g,o,none⟩ u).heap[e.1]?=some (.cells e.2.1.toArray (Cw e.2.2) (0,0)):=fun o u e he=>(Below.heap_setCell _ _ _ _ (by show e.1≠g;exact fun e1=>bj h.boxes (h.loc e he) (EF e.2.2).2.1 (by rw[e1];rfl))).trans (h.loc e he)
 have hl:∀L,({m with boxes:=L}:RM).rO:=fun L=>⟨h.len.ints,h.len.has,h.len.held,h.len.ba,h.len.flags⟩
 constructor
 ·intro v;refine⟨h.base,by rw[aJ];exact h.aJ,?_,av h.trace _ htg,oF h.br hzg _ _,hl _,hk _ _⟩;have:=(h.boxes.stored ((n-1)*2) (.int .i64 v)).1;have e:bH (m.boxes.set (n-1) (v,(m.box n).2))=(bH m.boxes).set ((n-1)*2) (.int .i64 v):=by
   rw[ve,jb (by omega)];refine xi ?_;rw[List.getElem?_set_ne (by omega)];exact b1
  simp only[List.length_set];rw[e];exact this
 ·intro v;refine⟨h.base,by rw[aJ];exact h.aJ,?_,av h.trace _ htg,oF h.br hzg _ _,hl _,hk _ _⟩;have:=(h.boxes.stored ((n-1)*2+1) (.bool v)).1;have e:bH (m.boxes.set (n-1) ((m.box n).1,v))=(bH m.boxes).set ((n-1)*2+1) (.bool v):=by
   rw[ve,jb (by omega)];have:(bH m.boxes).set ((n-1)*2) (.int .i64 (m.box n).1)=bH m.boxes:=xi b0;rw[this]
  simp only[List.length_set];rw[e];exact this
end
end Mac
end Go.Proofs.YtmlgajhhnojdjaaGreatDoor

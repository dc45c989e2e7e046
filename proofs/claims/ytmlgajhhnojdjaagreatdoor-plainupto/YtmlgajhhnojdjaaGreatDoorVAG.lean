import Derived.Test.YtmlgajhhnojdjaaGreatDoorVAF
import Derived.WalkSmall
import Derived.Deep.AppendLies
namespace Go.Proofs.YtmlgajhhnojdjaaGreatDoor
namespace PrjI
open Go Go.RowKit Sq RefA PrjF PrjG PrjH
theorem kG (c:UInt8):∀l:B,(Lib.index l [c]= -1/\¬c∈l)\/(∃i:Nat,Lib.index l [c]=i/\i<l.length/\l=l.take i++c::l.drop (i+1)/\¬c∈l.take i)
 |[]=> .inl ⟨rfl,by simp⟩
 |b::l=>by
  rw[Lib.index];by_cases hb:b=c
  ·subst hb;right;exact⟨0,by simp[List.isPrefixOf],by simp,by simp,by simp⟩
  ·have hp:List.isPrefixOf [c] (b::l)=false:=by simp[List.isPrefixOf];exact fun e=>hb e.symm
   rw[hp,ja (by simp)];rcases kG c l with⟨h1,h2⟩|⟨i,h1,h2,h3,h4⟩
   ·left;rw[h1];exact⟨rfl,by simp only[List.mem_cons,not_or];exact⟨fun e=>hb e.symm,h2⟩⟩
   ·right;refine⟨i+1,?_,by simp;omega,?_,?_⟩
    ·rw[h1,ja (by simp)];rfl
    ·simpa using h3
    ·simp only[List.take_succ_cons,List.mem_cons,not_or];exact⟨fun e=>hb e.symm,h4⟩
theorem sy:∀(a t:B),¬(46:UInt8)∈a->bC (a++46::t)=(a,some t)
 |[],t,_=>by simp[bC]
 |c::a,t,h=>by
  simp only[List.mem_cons,not_or]at h;rw[jW,bC,ja (fun e=>h.1 e.symm),sy a t h.2]
theorem xo:∀(a:B),¬(46:UInt8)∈a->bC a=(a,none)
 |[],_=>rfl
 |c::a,h=>by
  simp only[List.mem_cons,not_or]at h;rw[bC,ja (fun e=>h.1 e.symm),xo a h.2]
theorem Kf (l:B):Lib.cut l [46]=((bC l).1,(bC l).2.getD [],(bC l).2.isSome):=by
 unfold Lib.cut;rcases kG 46 l with⟨h1,h2⟩|⟨i,h1,h2,h3,h4⟩
 ·rw[h1,xo l h2];rfl
 ·rw[h1,jb (by omega)];have:bC l=(l.take i,some (l.drop (i+1))):=by
   conv=>lhs;rw[h3]
   exact sy _ _ h4
  rw[this];simp
set_option maxRecDepth 20000 in
theorem mj (l:B)(w:World)(h:l.length<=1048576)(E:Env w):
  Calls Tryz.prog 206 #[.string (bs l)] w fun e w'=>e=.returned (.tuple #[.string (bs ((bd l).getD ([],0)).1),.int .i64 (((bd l).getD ([],0)).2:Nat),.bool (bd l).isSome])/\Below w.heap.size w w':=by
 obtain⟨m,hm⟩:=E.FD;have JS:(bs l).data.toList=l:=by simp[bs]
 have K:=Tryz.strings_Cut (bs l) ⟨#[46]⟩ m w (by rw[cu];omega) hm;have Xh:(⟨#[46]⟩:ByteArray).data.toList=[46]:=rfl;rw[JS,Xh,Kf,IN,IN]at K;rw[bd];have hb:∀n,Below w.heap.size w (w.drewN n):=fun n=>below_drewN (Below.refl _ _) n
 cases hc:(bC l).2 with
 |none=>
  rw[hc]at K;go_enter Tryz.func206,Tryz.ntmps206
  go_wp2_with (go_at_call 230;refine K.mono ?_;rintro e w1 ⟨rfl,n,rfl⟩)
  go_ret3
  exact⟨rfl,hb n⟩
 |some t=>
  rw[hc]at K;have ht:=bp t;by_cases h97:t=[97]
  ·subst h97;go_enter Tryz.func206,Tryz.ntmps206
   go_wp2_with (go_at_call 230;refine K.mono ?_;rintro e w1 ⟨rfl,n,rfl⟩)
   go_ret3
   exact⟨rfl,hb n⟩
  ·by_cases vj:t=[98]
   ·subst vj;go_enter Tryz.func206,Tryz.ntmps206
    go_wp2_with (go_at_call 230;refine K.mono ?_;rintro e w1 ⟨rfl,n,rfl⟩)
    go_ret3
    exact⟨rfl,hb n⟩
   ·by_cases h115:t=[115]
    ·subst h115;go_enter Tryz.func206,Tryz.ntmps206
     go_wp2_with (go_at_call 230;refine K.mono ?_;rintro e w1 ⟨rfl,n,rfl⟩)
     go_ret3
     exact⟨rfl,hb n⟩
    ·simp only;rw[ja h97,ja vj,ja h115];have b1:(t==[97])=false:=by simpa using h97
     have b2:(t==[98])=false:=by simpa using vj
     have b3:(t==[115])=false:=by simpa using h115
     clear h97 vj h115;go_enter Tryz.func206,Tryz.ntmps206
     go_wp2_with (go_at_call 230;refine K.mono ?_;rintro e w1 ⟨rfl,n,rfl⟩)
     go_ret3
     exact⟨rfl,hb n⟩
theorem CU (s:ByteArray)(h:s.size<1\/4<s.size):isName s.toList=false:=by
 rw[isName,length_toList];rcases h with h|h
 ·simp[show¬1<=s.size by omega]
 ·simp[show¬s.size<=4 by omega]
set_option maxRecDepth 20000 in
theorem Ba (s:ByteArray)(w:World)(hs:s.size<=maxLen):
  Calls Tryz.prog 226 #[.string s] w fun e w'=>e=.returned (.bool (isName s.toList))/\w'=w:=by
 unfold maxLen at hs;by_cases vL:s.size<1\/4<s.size
 ·rw[CU s vL];rcases vL with vL|vL
  all_goals
   go_enter Tryz.func226,Tryz.ntmps226
   go_wp2
   go_ret
   exact⟨rfl,rfl⟩
 ·have h1:1<=s.size:=by omega
  have h4:s.size<=4:=by omega
  clear vL;go_enter Tryz.func226,Tryz.ntmps226
  go_wp2
  go_loop [14] (fun i=>∃k:Nat,k<=s.size/\i=.int .i64 k/\Hid ((s.toList.take k).all lower=true)) (fun i=>s.size-(intOf i).toNat)
  case atStart=>exact⟨0,jQ _,rfl,rfl⟩
  case round=>
   obtain⟨k,hk,rfl,Kv⟩:=hrel;by_cases aP:k<s.size
   ·by_cases rX:(s[k].toNat:Int)<97
    ·go_wp2
     go_ret
     exact⟨tN (D7 s k aP (by omega)).symm,rfl⟩
    ·by_cases vq:(122:Int)<s[k].toNat
     ·go_wp2
      go_ret
      exact⟨tN (D7 s k aP (by omega)).symm,rfl⟩
     ·go_wp2
      go_round
      case rel=>exact⟨k+1,by omega,by go_num,LJ s k aP Kv.out (by omega) (by omega)⟩
      case measure=>simp[intOf];omega
   ·go_wp2
    go_ret
    exact⟨tN (by rw[IU s k Kv.out aP];simp[h1,h4]),rfl⟩
theorem tK (l:B)(w:World)(h:l.length<=1099511627776):
  Calls Tryz.prog 226 #[.string (bs l)] w fun e w'=>e=.returned (.bool (isName l))/\w'=w:=by
 have:=Ba (bs l) w (by rw[cu];unfold maxLen;omega)
 rwa [bp]at this
theorem I0 {a b c:Bool}(h:a=true\/b=true\/c=true):a=true\/(a=false/\b=true)\/(a=false/\b=false/\c=true):=by
 cases a<;>cases b<;>simp_all
theorem CY {a b:Bool}(h:a=true\/b=true):a=true\/(a=false/\b=true):=by
 cases a<;>simp_all
theorem zP (l:B)(c:UInt8):ey l c=
  if((c.toNat:Int)==100)=true\/((c.toNat:Int)==105)=true\/((c.toNat:Int)==111)=true then isName l
  else if((c.toNat:Int)==116)=true then(c7 l).isSome
  else if((c.toNat:Int)==112)=true\/((c.toNat:Int)==109)=true then(bd l).isSome&&isName ((bd l).getD ([],0)).1
  else if((c.toNat:Int)==35)=true then(cI l).isSome
  else if((c.toNat:Int)==98)=true then(av l).isSome
  else if((c.toNat:Int)==102)=true then yf l
  else if((c.toNat:Int)==118)=true then l==[48]||l==[49]
  else false:=by
 have e:∀n:Nat,n<256->(((c.toNat:Int)==(n:Int))=true↔c=UInt8.ofNat n):=fun n hn=>by
  rw[rj c n hn,beq_iff_eq];omega
 have e1:=e 100 (by omega);have e2:=e 105 (by omega);have e3:=e 111 (by omega);have e4:=e 116 (by omega);have e5:=e 112 (by omega);have e6:=e 109 (by omega);have e7:=e 35 (by omega);have e8:=e 98 (by omega);have e9:=e 102 (by omega);have e10:=e 118 (by omega);simp only[Int.cast_ofNat_Int]at e1 e2 e3 e4 e5 e6 e7 e8 e9 e10;simp only[e1,e2,e3,e4,e5,e6,e7,e8,e9,e10];unfold ey yf;cases bd l<;>rfl
set_option maxRecDepth 20000 in
set_option maxHeartbeats 1000000 in
theorem yB (l:B)(c:UInt8)(w:World)(h:l.length<=1048576)(E:Env w):
  Calls Tryz.prog 197 #[.string (bs l),.int .u8 c.toNat] w fun e w'=>e=.returned (.bool (ey l c))/\Below w.heap.size w w':=by
 have ht:=bp l;have KN:=tK l w (by omega);have KT:=vc l w E.types;have KP:=mj l w h E;have KS:=fun w'=>tK ((bd l).getD ([],0)).1 w' (by
  cases hs:bd l with
  |none=>simp
  |some x=>
   have:x.1.length<=l.length:=by
    have h1:x.1=(bC l).1:=by
     rw[bd]at hs;split at hs
     ·cases hs;rfl
     ·repeat (first|(split at hs;(cases hs;rfl))|cases hs)
    rw[h1];cases hc:(bC l).2 with
    |none=>rw[(iK hc).1];exact jC _
    |some t=>have:=congrArg List.length (iL hc).1;simp at this;omega
   simp;omega)
 have K1:=pJ l w (by omega) E;have K2:=qK l w (by omega) E;have K3:=sG l w (by omega) E;have rf:=Below.refl w.heap.size w;rw[zP];by_cases h1:((c.toNat:Int)==100)=true\/((c.toNat:Int)==105)=true\/((c.toNat:Int)==111)=true
 ·rw[jb h1];clear KT KP KS K1 K2 K3;have xz:((c.toNat:Int)==100)=true\/(((c.toNat:Int)==100)=false/\((c.toNat:Int)==105)=true)\/(((c.toNat:Int)==100)=false/\((c.toNat:Int)==105)=false/\((c.toNat:Int)==111)=true):=I0 h1;clear h1;rcases xz with h1|⟨h1,h2⟩|⟨h1,h2,h3⟩
  all_goals
   go_enter Tryz.func197,Tryz.ntmps197
   go_wp2_with (go_at_call 226;refine KN.mono ?_;rintro e w1 ⟨rfl,rfl⟩)
   go_ret
   exact⟨rfl,rf⟩
 ·rw[ja h1];simp only[not_or,Bool.not_eq_true]at h1;obtain⟨a1,a2,a3⟩:=h1;by_cases h2:((c.toNat:Int)==116)=true
  ·rw[jb h2];clear KN KP KS K1 K2 K3;go_enter Tryz.func197,Tryz.ntmps197
   go_wp2_with (go_at_call 169;refine KT.mono ?_;rintro e w1 ⟨rfl,hb⟩)
   go_ret
   exact⟨rfl,hb⟩
  ·rw[ja h2];rw[Bool.not_eq_true]at h2;by_cases h3:((c.toNat:Int)==112)=true\/((c.toNat:Int)==109)=true
   ·rw[jb h3];clear KN KT K1 K2 K3;have Nr:((c.toNat:Int)==112)=true\/(((c.toNat:Int)==112)=false/\((c.toNat:Int)==109)=true):=CY h3;clear h3;cases hs:(bd l).isSome
    all_goals
     rw[hs]at KP;rcases Nr with h3|⟨h3,h4⟩
     all_goals
      go_enter Tryz.func197,Tryz.ntmps197
      go_wp2_with (first|(go_at_call 206;refine KP.mono ?_;rintro e w1 ⟨rfl,hb⟩)|(go_at_call 226;refine(KS _).mono ?_;rintro e w2 ⟨rfl,rfl⟩))
      go_ret
      exact⟨rfl,hb⟩
   ·rw[ja h3];simp only[not_or,Bool.not_eq_true]at h3;obtain⟨a4,a5⟩:=h3;by_cases h4:((c.toNat:Int)==35)=true
    ·rw[jb h4];clear KN KT KP KS K2 K3;go_enter Tryz.func197,Tryz.ntmps197
     go_wp2_with (go_at_call 203;refine K1.mono ?_;rintro e w1 ⟨rfl,hb⟩)
     go_ret
     exact⟨rfl,hb⟩
    ·rw[ja h4];rw[Bool.not_eq_true]at h4;by_cases h5:((c.toNat:Int)==98)=true
     ·rw[jb h5];clear KN KT KP KS K1 K3;go_enter Tryz.func197,Tryz.ntmps197
      go_wp2_with (go_at_call 205;refine K2.mono ?_;rintro e w1 ⟨rfl,hb⟩)
      go_ret
      exact⟨rfl,hb⟩
     ·rw[ja h5];rw[Bool.not_eq_true]at h5;by_cases h6:((c.toNat:Int)==102)=true
      ·rw[jb h6];clear KN KT KP KS K1 K2;go_enter Tryz.func197,Tryz.ntmps197
       go_wp2_with (go_at_call 204;refine K3.mono ?_;rintro e w1 ⟨rfl,hb⟩)
       go_ret
       exact⟨rfl,hb⟩
      ·rw[ja h6];rw[Bool.not_eq_true]at h6;clear KN KT KP KS K1 K2 K3;by_cases h7:((c.toNat:Int)==118)=true
       ·rw[jb h7];cases b1:(l==[48])
        all_goals
         go_enter Tryz.func197,Tryz.ntmps197
         go_wp2
         all_goals
          go_ret
          exact⟨rfl,rf⟩
       ·rw[ja h7];rw[Bool.not_eq_true]at h7;go_enter Tryz.func197,Tryz.ntmps197
        go_wp2
        go_ret
        exact⟨rfl,rf⟩
end PrjI
namespace Aux
theorem Qs:True:=trivial
end Aux
namespace Aux
open Go Go.RowKit Sq
section
variable {w w':World} {b1 b2:Nat} {e1 e2:TypeId} {s1 s2:Nat} {v1 v2:Value} {n1 n2:Nat} {x1 x2:List Value}
theorem cJ (h1:w.ownsRow b1 e1 s1 v1 n1 x1)(h2:w.ownsRow b2 e2 s2 v2 n2 x2)(he:e1≠e2):v1.ownBlock=none\/v1.ownBlock≠v2.ownBlock:=by
 obtain⟨-,h1⟩:=h1;obtain⟨-,h2⟩:=h2;rcases h1 with⟨rfl,-⟩|⟨g,cap,cur,rfl,-,hg,-⟩
 ·exact .inl rfl
 ·refine .inr ?_;rcases h2 with⟨rfl,-⟩|⟨g',cap',cur',rfl,-,Ck,-⟩
  ·simp[Value.ownBlock]
  ·simp only[Value.ownBlock,ne_eq,Option.some.injEq];intro e;rw[e,Ck]at hg;simp only[Option.some.injEq,Obj.cells.injEq]at hg;exact he hg.2.1.symm
theorem az (h1:w.ownsRow b1 e1 s1 v1 n1 x1){a:Nat}{cs:Array Value}{f:Nat×Nat}(ha:w.heap[a]?=some (.cells cs e2 f))(he:e1≠e2):v1.ownBlock≠some a:=by
 obtain⟨-,h1⟩:=h1;rcases h1 with⟨rfl,-⟩|⟨g,cap,cur,rfl,-,hg,-⟩
 ·simp[Value.ownBlock]
 ·simp only[Value.ownBlock,ne_eq,Option.some.injEq];intro e;rw[e,ha]at hg;simp only[Option.some.injEq,Obj.cells.injEq]at hg;exact he hg.2.1.symm
theorem dH (h:w.ownsRow b1 e1 s1 v1 n1 x1)(hw:∀g,v1.ownBlock=some g->w'.heap[g]?=w.heap[g]?):w'.ownsRow b1 e1 s1 v1 n1 x1:=by
 obtain⟨h0,h⟩:=h;refine⟨h0,?_⟩;rcases h with h|⟨g,cap,cur,rfl,hb,hg,r⟩
 ·exact .inl h
 ·exact .inr ⟨g,cap,cur,rfl,hb,by rw[hw g rfl];exact hg,r⟩
theorem al (h:w.ownsRow b1 e1 s1 v1 n1 x1)(hb:Below w.heap.size w w'):w'.ownsRow b1 e1 s1 v1 n1 x1:=
 dH h fun g hg=>hb.block g (h.lt g hg).2
theorem aC (h:w.ownsRow b1 e1 s1 v1 n1 x1){a:Addr}(u:Value)(c8:v1.ownBlock≠some a.block):(w.setCell a u).ownsRow b1 e1 s1 v1 n1 x1:=
 dH h fun g hg=>Below.heap_setCell _ _ _ _ (fun e=>c8 (by rw[hg,e]))
theorem dI (h:w.ownsRow b1 e1 s1 v1 n1 x1)(hb:b2<=b1):w.ownsRow b2 e1 s1 v1 n1 x1:=by
 obtain⟨h0,h⟩:=h;refine⟨h0,?_⟩;rcases h with h|⟨g,cap,cur,rfl,Hz,r⟩
 ·exact .inl h
 ·exact .inr ⟨g,cap,cur,rfl,by omega,r⟩
theorem I3 (h:w.ownsRow b1 e1 s1 v1 n1 x1):∀g,v1.ownBlock=some g->g<w.heap.size:=fun g hg=>(h.lt g hg).2
end
theorem heap_setCell_same {w:World}{a:Nat}{cs:Array Value}{e:TypeId}{f:Nat×Nat}(h:w.heap[a]?=some (.cells cs e f))(o:Nat)(u:Value):(w.setCell ⟨a,o,none⟩ u).heap[a]?=some (.cells (cs.setIfInBounds o u) e f):=by
 simp[World.setCell,Array.getElem?_modify,h]
theorem cell_of_heap {w:World}{a:Nat}{cs:Array Value}{e:TypeId}{f:Nat×Nat}(h:w.heap[a]?=some (.cells cs e f))(o:Nat):w.cell? ⟨a,o,none⟩=cs[o]?:=by
 simp[World.cell?,h]
theorem frozen_of_heap {w:World}{a:Nat}{cs:Array Value}{e:TypeId}(h:w.heap[a]?=some (.cells cs e (0,0)))(o:Nat):w.frozen? ⟨a,o,none⟩=false:=by
 simp[World.frozen?,h]
def df (l:List Nat):List Value:=l.map fun(n:Nat)=> .int .i64 (n:Int)
end Aux
namespace Aux
open Go Go.RowKit Sq
section
variable {P:Program} {w:World} {ops:Array Oper} {rest:List Oper} {o:Oper} {a:Act} {Q:Exit->Act->World->Prop}
theorem eU (DU:o.guard=none)(s x:Operand)(t:TypeId)
  (ho:o.op=.call {callee:=.builtin .append,args:= #[s,x],argTypes:= #[t,t]})
  (base:Nat) (e:TypeId) (i:TypeInfo) (z:Value) (bytes:Nat) (ht:P.underlying t=some (.slice e)) (hi:P.info? e=some i) (hz:i.zero=some z)
  (hsize:i.size=1) (ES:i.bytes=bytes) (hzs:z.cells.size=1)
  (v:Value) (n:Nat) (xs:List Value) (hs:a.eval s=v) (eG:w.ownsRow base e 1 v n xs)
  (u:Value) (hx:a.eval x=.slice (some ⟨w.heap.size,0,none⟩) 1 1) (h1:u.oneCell'=true)
  (aB:1<=bytes) (hbytes:(n+1)*bytes<=140737488355328) (hbase:base<=w.heap.size)
  (h:∀g cap w',w'.ownsRow base e 1 (.slice (some ⟨g,0,none⟩) (n+1) cap) (n+1) (xs++[u])->(w.alloc (.cells #[u] e)).grownBy w' v.ownBlock->(v.ownBlock=some g\/g=w.heap.size+1)->g<w'.heap.size->wpList P ops Q rest (a.put o.dst (.slice (some ⟨g,0,none⟩) (n+1) cap)) w'):wpList P ops Q (o::rest) a (w.alloc (.cells #[u] e)):=by
 refine wpList_append_lies _ DU s x t ho base e i z 1 bytes ht hi hz hsize ES hzs (by decide) v n xs hs (eG.alloc _) ⟨w.heap.size,0,none⟩ 1 1 [u] hx rfl ?_ ?_ (by decide) ?_ hbytes ?_ (w.heap.size+1) (by simp) h
 ·intro j u' hj
  match j,hj with
  |0,hj=>simp at hj;subst hj;simp[Addr.add]
 ·intro u' hu;simp at hu;subst hu;exact h1
 ·have:n+1<=(n+1)*bytes:=Nat.le_mul_of_pos_right _ aB;unfold maxLen;omega
 ·simp;omega
theorem xU {K:Act->World->Prop}{E:Prop}(DU:o.guard=none)(s x:Operand)(t:TypeId)
  (ho:o.op=.call {callee:=.builtin .append,args:= #[s,x],argTypes:= #[t,t]})
  (base:Nat) (e:TypeId) (i:TypeInfo) (z:Value) (bytes:Nat) (ht:P.underlying t=some (.slice e)) (hi:P.info? e=some i) (hz:i.zero=some z)
  (hsize:i.size=1) (ES:i.bytes=bytes) (hzs:z.cells.size=1)
  (v:Value) (n:Nat) (xs:List Value) (hs:a.eval s=v) (eG:w.ownsRow base e 1 v n xs)
  (u:Value) (hx:a.eval x=.slice (some ⟨w.heap.size,0,none⟩) 1 1) (h1:u.oneCell'=true)
  (aB:1<=bytes) (hbytes:(n+1)*bytes<=140737488355328) (hbase:base<=w.heap.size)
  (h:∀g cap w',w'.ownsRow base e 1 (.slice (some ⟨g,0,none⟩) (n+1) cap) (n+1) (xs++[u])->(w.alloc (.cells #[u] e)).grownBy w' v.ownBlock->(v.ownBlock=some g\/g=w.heap.size+1)->g<w'.heap.size->K (a.put o.dst (.slice (some ⟨g,0,none⟩) (n+1) cap)) w'):
  if Region.wanted o (yielded ops a.tmps)=true then Oper.wp P o a (w.alloc (.cells #[u] e)) K Q else E:=by
 refine step_append_lies _ DU s x t ho base e i z 1 bytes ht hi hz hsize ES hzs (by decide) v n xs hs (eG.alloc _) ⟨w.heap.size,0,none⟩ 1 1 [u] hx rfl ?_ ?_ (by decide) ?_ hbytes ?_ (w.heap.size+1) (by simp) h
 ·intro j u' hj
  match j,hj with
  |0,hj=>simp at hj;subst hj;simp[Addr.add]
 ·intro u' hu;simp at hu;subst hu;exact h1
 ·have:n+1<=(n+1)*bytes:=Nat.le_mul_of_pos_right _ aB;unfold maxLen;omega
 ·simp;omega
end
section
variable {z a:Nat} {w w3:World} {p:RP} {vl vt vb v':Value} {us:List Value} {o:Obj}
end
end Aux
namespace Aux
theorem Qt:True:=trivial
end Aux
namespace Sq
open Go
theorem dJ (a b:ByteArray):(a++b).toList=a.toList++b.toList:=by
 simp only[ByteArray.toList_eq];simp
def RP.Bt (p:RP)(w:B):Nat×Nat:=
 if partOf w=98 then(2*(p.find (aL w)).toNat+1,1)
 else if p.typeOf w=lk then(2*(p.find (aL w)).toNat,2)else(2*(p.find (aL w)).toNat,1)
end Sq
namespace Sq
open Go
structure WS where
 known:Bool
 Bt:List B
def WS.at (s:WS)(k:Nat):B:=s.Bt.getD k []
def WS.cells (s:WS):List Value:=.bool s.known::s.Bt.map fun b=> .string (bs b)
def WS.val (s:WS):Value:=.agg s.cells.toArray
def RP.some (p:RP)(w:B):B:=if p.typeOf w=oX then [110,119]else [119]
end Sq
namespace Aux
open Go Go.RowKit Sq
theorem aX (b:Nat):∀(vs:List Value) (o:Nat) (w:World) (k:Nat),k≠b->(w.setCells b o vs).heap[k]?=w.heap[k]?
 |[],_,_,_,_=>rfl
 |v::r,o,w,k,h=>by
  rw[World.setCells,aX b r (o+1) _ k h,Below.heap_setCell _ _ _ _ h]
theorem eK (b:Nat):∀(vs:List Value) (o:Nat) (w:World) (cs:Array Value) (e:TypeId) (f:Nat×Nat),w.heap[b]?=some (.cells cs e f)->
  ∃cs',(w.setCells b o vs).heap[b]?=some (.cells cs' e f)/\cs'.size=cs.size/\∀j,cs'[j]?=if o<=j/\j<o+vs.length/\j<cs.size then vs[j-o]? else cs[j]?
 |[],o,w,cs,e,f,h=>⟨cs,h,rfl,fun j=>by rw[ja (by simp;omega)]⟩
 |v::r,o,w,cs,e,f,h=>by
  obtain⟨cs',h1,h2,h3⟩:=eK b r (o+1) (w.setCell ⟨b,o,none⟩ v) (cs.setIfInBounds o v) e f (heap_setCell_same h o v);refine⟨cs',by rw[World.setCells];exact h1,by rw[h2];simp,fun j=> ?_⟩;rw[h3,Array.getElem?_setIfInBounds];by_cases hj:j=o
  ·subst hj;rw[ja (by omega),jb rfl];by_cases hs:j<cs.size
   ·rw[jb hs,jb (by simp;omega)];simp
   ·rw[ja hs,ja (by omega)];simp;omega
  ·by_cases hc:o+1<=j/\j<o+1+r.length/\j<cs.size
   ·rw[jb (by simpa using hc),jb (by simp;omega)];rw[show j-o=(j-(o+1))+1 by omega,List.getElem?_cons_succ]
   ·rw[ja (by simpa using hc),ja (by omega),ja (by simp;omega)]
section
variable {w w':World} {b:Nat} {s t:WS}
theorem aU {B:Nat}{w0:World}(h:Below B w0 w)(hB:B<=b)(o:Nat)(vs:List Value):Below B w0 (w.setCells b o vs):=by
 have Yo:∀(vs:List Value) (o:Nat) (w:World),(w.setCells b o vs).os=w.os/\(w.setCells b o vs).tape=w.tape/\(w.setCells b o vs).output=w.output/\(w.setCells b o vs).heap.size=w.heap.size:=by
  intro vs;induction vs with
  |nil=>intro o w;exact⟨rfl,rfl,rfl,rfl⟩
  |cons v r ih=>intro o w;rw[World.setCells];have:=ih (o+1) (w.setCell ⟨b,o,none⟩ v);simpa [World.setCell]using this
 obtain⟨h1,h2,h3,h4⟩:=Yo vs o w;exact h.trans ⟨h1,h2,h3,by omega,fun k hk=>aX b vs o w k (by omega)⟩
end
def WS.set (s:WS)(k:Nat)(c:B):WS:={s with Bt:=s.Bt.set k c}
theorem cK {fn:Func}{p:Tmp}{ty:TypeId}(h:fn.results= #[.cell p ty])(tmps:Array Value)(P:Program)(w:World)(b:Nat)(cs:List Value)(d:TypeDesc)(hp:tmps.getD p undef=.pointer (some ⟨b,0,none⟩))
  (hc:w.rangeAt b 0 cs) (hu:P.underlying ty=some d) (hd:d.isRow=true) (hi:(P.info? ty).map (·.size)=some cs.length):(results fn tmps).run P w=.ok (.agg cs.toArray) w:=by
 have:=run_loadVar_mid (P:=P) w b 0 ty cs d hc hu hd hi;rw[Array.getD_eq_getD_getElem?]at hp;unfold results;simp[h,hp,asAddr,this]
theorem iU {fn:Func}{p u:Tmp}{ty:TypeId}(h:fn.results= #[.cell p ty,.tmp u])(tmps:Array Value)(P:Program)(w:World)(b:Nat)(cs:List Value)(d:TypeDesc)(hp:tmps.getD p undef=.pointer (some ⟨b,0,none⟩))
  (hc:w.rangeAt b 0 cs) (hu:P.underlying ty=some d) (hd:d.isRow=true) (hi:(P.info? ty).map (·.size)=some cs.length):(results fn tmps).run P w=.ok (.tuple #[.agg cs.toArray,tmps.getD u undef]) w:=by
 have:=run_loadVar_mid (P:=P) w b 0 ty cs d hc hu hd hi;rw[Array.getD_eq_getD_getElem?]at hp;unfold results;simp[h,hp,asAddr,this]
end Aux
end Go.Proofs.YtmlgajhhnojdjaaGreatDoor

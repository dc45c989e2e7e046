import Derived.Test.YtmlgajhhnojdjaaGreatDoorUAD
import Derived.WalkSmall
import Derived.Deep.AppendLies
namespace Go.Proofs.YtmlgajhhnojdjaaGreatDoor
namespace PrjI
open Go Go.RowKit Sq RefA PrjF PrjG PrjH
theorem oA (c:UInt8):∀l:B,(Lib.index l [c]= -1/\¬c∈l)\/(∃i:Nat,Lib.index l [c]=i/\i<l.length/\l=l.take i++c::l.drop (i+1)/\¬c∈l.take i)
 |[]=> .inl ⟨rfl,by simp⟩
 |b::l=>by
  rw[Lib.index];by_cases hb:b=c
  ·subst hb;right;exact⟨0,by simp[List.isPrefixOf],by simp,by simp,by simp⟩
  ·have hp:List.isPrefixOf [c] (b::l)=false:=by simp[List.isPrefixOf];exact fun e=>hb e.symm
   rw[hp,ja (by simp)];rcases oA c l with⟨h1,h2⟩|⟨i,h1,h2,h3,h4⟩
   ·left;rw[h1];exact⟨rfl,by simp only[List.mem_cons,not_or];exact⟨fun e=>hb e.symm,h2⟩⟩
   ·right;refine⟨i+1,?_,by simp;omega,?_,?_⟩
    ·rw[h1,ja (by simp)];rfl
    ·simpa using h3
    ·simp only[List.take_succ_cons,List.mem_cons,not_or];exact⟨fun e=>hb e.symm,h4⟩
theorem yI:∀(a t:B),¬(46:UInt8)∈a->cf (a++46::t)=(a,some t)
 |[],t,_=>by simp[cf]
 |c::a,t,h=>by
  simp only[List.mem_cons,not_or]at h;rw[jW,cf,ja (fun e=>h.1 e.symm),yI a t h.2]
theorem BR:∀(a:B),¬(46:UInt8)∈a->cf a=(a,none)
 |[],_=>rfl
 |c::a,h=>by
  simp only[List.mem_cons,not_or]at h;rw[cf,ja (fun e=>h.1 e.symm),BR a h.2]
theorem Re (l:B):Lib.cut l [46]=((cf l).1,(cf l).2.getD [],(cf l).2.isSome):=by
 unfold Lib.cut;rcases oA 46 l with⟨h1,h2⟩|⟨i,h1,h2,h3,h4⟩
 ·rw[h1,BR l h2];rfl
 ·rw[h1,jb (by omega)];have:cf l=(l.take i,some (l.drop (i+1))):=by
   conv=>lhs;rw[h3]
   exact yI _ _ h4
  rw[this];simp
set_option maxRecDepth 20000 in
theorem qa (l:B)(w:World)(h:l.length<=1048576)(E:Env w):
  Calls Tryz.prog 206 #[.string (bs l)] w fun e w'=>e=.returned (.tuple #[.string (bs ((bL l).getD ([],0)).1),.int .i64 (((bL l).getD ([],0)).2:Nat),.bool (bL l).isSome])/\Below w.heap.size w w':=by
 obtain⟨m,hm⟩:=E.ME;have Ir:(bs l).data.toList=l:=by simp[bs]
 have K:=Tryz.strings_Cut (bs l) ⟨#[46]⟩ m w (by rw[fI];omega) hm;have h46:(⟨#[46]⟩:ByteArray).data.toList=[46]:=rfl;rw[Ir,h46,Re,PL,PL]at K;rw[bL];have hb:∀n,Below w.heap.size w (w.drewN n):=fun n=>below_drewN (Below.refl _ _) n
 cases hc:(cf l).2 with
 |none=>
  rw[hc]at K;go_enter Tryz.func206,Tryz.ntmps206
  go_wp2_with (go_at_call 230;refine K.mono ?_;rintro e w1 ⟨rfl,n,rfl⟩)
  go_ret3
  exact⟨rfl,hb n⟩
 |some t=>
  rw[hc]at K;have ht:=bP t;by_cases h97:t=[97]
  ·subst h97;go_enter Tryz.func206,Tryz.ntmps206
   go_wp2_with (go_at_call 230;refine K.mono ?_;rintro e w1 ⟨rfl,n,rfl⟩)
   go_ret3
   exact⟨rfl,hb n⟩
  ·by_cases tA:t=[98]
   ·subst tA;go_enter Tryz.func206,Tryz.ntmps206
    go_wp2_with (go_at_call 230;refine K.mono ?_;rintro e w1 ⟨rfl,n,rfl⟩)
    go_ret3
    exact⟨rfl,hb n⟩
   ·by_cases h115:t=[115]
    ·subst h115;go_enter Tryz.func206,Tryz.ntmps206
     go_wp2_with (go_at_call 230;refine K.mono ?_;rintro e w1 ⟨rfl,n,rfl⟩)
     go_ret3
     exact⟨rfl,hb n⟩
    ·simp only;rw[ja h97,ja tA,ja h115];have b1:(t==[97])=false:=by simpa using h97
     have b2:(t==[98])=false:=by simpa using tA
     have b3:(t==[115])=false:=by simpa using h115
     clear h97 tA h115;go_enter Tryz.func206,Tryz.ntmps206
     go_wp2_with (go_at_call 230;refine K.mono ?_;rintro e w1 ⟨rfl,n,rfl⟩)
     go_ret3
     exact⟨rfl,hb n⟩
theorem I7 (s:ByteArray)(h:s.size<1\/4<s.size):isName s.toList=false:=by
 rw[isName,length_toList];rcases h with h|h
 ·simp[show¬1<=s.size by omega]
 ·simp[show¬s.size<=4 by omega]
set_option maxRecDepth 20000 in
theorem Gc (s:ByteArray)(w:World)(hs:s.size<=maxLen):
  Calls Tryz.prog 226 #[.string s] w fun e w'=>e=.returned (.bool (isName s.toList))/\w'=w:=by
 unfold maxLen at hs;by_cases zg:s.size<1\/4<s.size
 ·rw[I7 s zg];rcases zg with zg|zg
  all_goals
   go_enter Tryz.func226,Tryz.ntmps226
   go_wp2
   go_ret
   exact⟨rfl,rfl⟩
 ·have h1:1<=s.size:=by omega
  have h4:s.size<=4:=by omega
  clear zg;go_enter Tryz.func226,Tryz.ntmps226
  go_wp2
  go_loop [14] (fun i=>∃k:Nat,k<=s.size/\i=.int .i64 k/\Hid ((s.toList.take k).all lower=true)) (fun i=>s.size-(intOf i).toNat)
  case atStart=>exact⟨0,jQ _,rfl,rfl⟩
  case round=>
   obtain⟨k,hk,rfl,Rw⟩:=hrel;by_cases bg:k<s.size
   ·by_cases xU:(s[k].toNat:Int)<97
    ·go_wp2
     go_ret
     exact⟨Ad (Km s k bg (by omega)).symm,rfl⟩
    ·by_cases AG:(122:Int)<s[k].toNat
     ·go_wp2
      go_ret
      exact⟨Ad (Km s k bg (by omega)).symm,rfl⟩
     ·go_wp2
      go_round
      case rel=>exact⟨k+1,by omega,by go_num,Sn s k bg Rw.out (by omega) (by omega)⟩
      case measure=>simp[intOf];omega
   ·go_wp2
    go_ret
    exact⟨Ad (by rw[PT s k Rw.out bg];simp[h1,h4]),rfl⟩
theorem zZ (l:B)(w:World)(h:l.length<=1099511627776):
  Calls Tryz.prog 226 #[.string (bs l)] w fun e w'=>e=.returned (.bool (isName l))/\w'=w:=by
 have:=Gc (bs l) w (by rw[fI];unfold maxLen;omega)
 rwa [bP]at this
theorem P0 {a b c:Bool}(h:a=true\/b=true\/c=true):a=true\/(a=false/\b=true)\/(a=false/\b=false/\c=true):=by
 cases a<;>cases b<;>simp_all
theorem Jd {a b:Bool}(h:a=true\/b=true):a=true\/(a=false/\b=true):=by
 cases a<;>simp_all
theorem EL (l:B)(c:UInt8):du l c=
  if((c.toNat:Int)==100)=true\/((c.toNat:Int)==105)=true\/((c.toNat:Int)==111)=true then isName l
  else if((c.toNat:Int)==116)=true then(fp l).isSome
  else if((c.toNat:Int)==112)=true\/((c.toNat:Int)==109)=true then(bL l).isSome&&isName ((bL l).getD ([],0)).1
  else if((c.toNat:Int)==35)=true then(cX l).isSome
  else if((c.toNat:Int)==98)=true then(aH l).isSome
  else if((c.toNat:Int)==102)=true then C4 l
  else if((c.toNat:Int)==118)=true then l==[48]||l==[49]
  else false:=by
 have e:∀n:Nat,n<256->(((c.toNat:Int)==(n:Int))=true↔c=UInt8.ofNat n):=fun n hn=>by
  rw[xC c n hn,beq_iff_eq];omega
 have e1:=e 100 (by omega);have e2:=e 105 (by omega);have e3:=e 111 (by omega);have e4:=e 116 (by omega);have e5:=e 112 (by omega);have e6:=e 109 (by omega);have e7:=e 35 (by omega);have e8:=e 98 (by omega);have e9:=e 102 (by omega);have e10:=e 118 (by omega);simp only[Int.cast_ofNat_Int]at e1 e2 e3 e4 e5 e6 e7 e8 e9 e10;simp only[e1,e2,e3,e4,e5,e6,e7,e8,e9,e10];unfold du C4;cases bL l<;>rfl
set_option maxRecDepth 20000 in
set_option maxHeartbeats 1000000 in
theorem Dp (l:B)(c:UInt8)(w:World)(h:l.length<=1048576)(E:Env w):
  Calls Tryz.prog 197 #[.string (bs l),.int .u8 c.toNat] w fun e w'=>e=.returned (.bool (du l c))/\Below w.heap.size w w':=by
 have ht:=bP l;have KN:=zZ l w (by omega);have KT:=Ay l w E.types;have KP:=qa l w h E;have KS:=fun w'=>zZ ((bL l).getD ([],0)).1 w' (by
  cases hs:bL l with
  |none=>simp
  |some x=>
   have:x.1.length<=l.length:=by
    have h1:x.1=(cf l).1:=by
     rw[bL]at hs;split at hs
     ·cases hs;rfl
     ·repeat (first|(split at hs;(cases hs;rfl))|cases hs)
    rw[h1];cases hc:(cf l).2 with
    |none=>rw[(lE hc).1];exact jC _
    |some t=>have:=congrArg List.length (lF hc).1;simp at this;omega
   simp;omega)
 have K1:=sT l w (by omega) E;have K2:=vN l w (by omega) E;have K3:=yT l w (by omega) E;have rf:=Below.refl w.heap.size w;rw[EL];by_cases h1:((c.toNat:Int)==100)=true\/((c.toNat:Int)==105)=true\/((c.toNat:Int)==111)=true
 ·rw[jb h1];clear KT KP KS K1 K2 K3;have B6:((c.toNat:Int)==100)=true\/(((c.toNat:Int)==100)=false/\((c.toNat:Int)==105)=true)\/(((c.toNat:Int)==100)=false/\((c.toNat:Int)==105)=false/\((c.toNat:Int)==111)=true):=P0 h1;clear h1;rcases B6 with h1|⟨h1,h2⟩|⟨h1,h2,h3⟩
  all_goals
   go_enter Tryz.func197,Tryz.ntmps197
   go_wp2_with (go_at_call 226;refine KN.mono ?_;rintro e w1 ⟨rfl,rfl⟩)
   go_ret
   exact⟨rfl,rf⟩
 ·rw[ja h1];simp only[not_or,Bool.not_eq_true]at h1;obtain⟨a1,a2,a3⟩:=h1;by_cases h2:((c.toNat:Int)==116)=true
  ·rw[jb h2];clear KN KP KS K1 K2 K3;go_enter Tryz.func197,Tryz.ntmps197
   go_wp2_with (go_at_call 169;refine KT.mono ?_;rintro e w1 ⟨rfl,hb⟩)
   go_ret
   exact⟨rfl,hb⟩
  ·rw[ja h2];rw[Bool.not_eq_true]at h2;by_cases h3:((c.toNat:Int)==112)=true\/((c.toNat:Int)==109)=true
   ·rw[jb h3];clear KN KT K1 K2 K3;have QI:((c.toNat:Int)==112)=true\/(((c.toNat:Int)==112)=false/\((c.toNat:Int)==109)=true):=Jd h3;clear h3;cases hs:(bL l).isSome
    all_goals
     rw[hs]at KP;rcases QI with h3|⟨h3,h4⟩
     all_goals
      go_enter Tryz.func197,Tryz.ntmps197
      go_wp2_with (first|(go_at_call 206;refine KP.mono ?_;rintro e w1 ⟨rfl,hb⟩)|(go_at_call 226;refine(KS _).mono ?_;rintro e w2 ⟨rfl,rfl⟩))
      go_ret
      exact⟨rfl,hb⟩
   ·rw[ja h3];simp only[not_or,Bool.not_eq_true]at h3;obtain⟨a4,a5⟩:=h3;by_cases h4:((c.toNat:Int)==35)=true
    ·rw[jb h4];clear KN KT KP KS K2 K3;go_enter Tryz.func197,Tryz.ntmps197
     go_wp2_with (go_at_call 203;refine K1.mono ?_;rintro e w1 ⟨rfl,hb⟩)
     go_ret
     exact⟨rfl,hb⟩
    ·rw[ja h4];rw[Bool.not_eq_true]at h4;by_cases h5:((c.toNat:Int)==98)=true
     ·rw[jb h5];clear KN KT KP KS K1 K3;go_enter Tryz.func197,Tryz.ntmps197
      go_wp2_with (go_at_call 205;refine K2.mono ?_;rintro e w1 ⟨rfl,hb⟩)
      go_ret
      exact⟨rfl,hb⟩
     ·rw[ja h5];rw[Bool.not_eq_true]at h5;by_cases h6:((c.toNat:Int)==102)=true
      ·rw[jb h6];clear KN KT KP KS K1 K2;go_enter Tryz.func197,Tryz.ntmps197
       go_wp2_with (go_at_call 204;refine K3.mono ?_;rintro e w1 ⟨rfl,hb⟩)
       go_ret
       exact⟨rfl,hb⟩
      ·rw[ja h6];rw[Bool.not_eq_true]at h6;clear KN KT KP KS K1 K2 K3;by_cases h7:((c.toNat:Int)==118)=true
       ·rw[jb h7];cases b1:(l==[48])
        all_goals
         go_enter Tryz.func197,Tryz.ntmps197
         go_wp2
         all_goals
          go_ret
          exact⟨rfl,rf⟩
       ·rw[ja h7];rw[Bool.not_eq_true]at h7;go_enter Tryz.func197,Tryz.ntmps197
        go_wp2
        go_ret
        exact⟨rfl,rf⟩
end PrjI
namespace Aux
theorem WU:True:=trivial
end Aux
namespace Aux
open Go Go.RowKit
theorem dX {B:Nat}{w0 w w':World}{o:Obj}{base:Nat}{e:TypeId}{size:Nat}{v:Value}{n:Nat}{xs:List Value}(hb:Below B w0 w)(hB:B<=base)(hbase:base<=w.heap.size)
  (hown:w.ownsRow base e size v n xs) (hg:(w.alloc o).grownBy w' v.ownBlock):Below B w0 w':=by
 refine(hb.alloc (by omega) o).grown hg (by simp;omega) fun k hk=> ?_
 have:=hown.lt k hk;omega
end Aux
namespace Aux
open Go Go.RowKit Sq
section
variable {w w':World} {b1 b2:Nat} {e1 e2:TypeId} {s1 s2:Nat} {v1 v2:Value} {n1 n2:Nat} {x1 x2:List Value}
theorem dF (h1:w.ownsRow b1 e1 s1 v1 n1 x1)(h2:w.ownsRow b2 e2 s2 v2 n2 x2)(he:e1≠e2):v1.ownBlock=none\/v1.ownBlock≠v2.ownBlock:=by
 obtain⟨-,h1⟩:=h1;obtain⟨-,h2⟩:=h2;rcases h1 with⟨rfl,-⟩|⟨g,cap,cur,rfl,-,hg,-⟩
 ·exact .inl rfl
 ·refine .inr ?_;rcases h2 with⟨rfl,-⟩|⟨g',cap',cur',rfl,-,G2,-⟩
  ·simp[Value.ownBlock]
  ·simp only[Value.ownBlock,ne_eq,Option.some.injEq];intro e;rw[e,G2]at hg;simp only[Option.some.injEq,Obj.cells.injEq]at hg;exact he hg.2.1.symm
theorem aP (h1:w.ownsRow b1 e1 s1 v1 n1 x1){a:Nat}{cs:Array Value}{f:Nat×Nat}(ha:w.heap[a]?=some (.cells cs e2 f))(he:e1≠e2):v1.ownBlock≠some a:=by
 obtain⟨-,h1⟩:=h1;rcases h1 with⟨rfl,-⟩|⟨g,cap,cur,rfl,-,hg,-⟩
 ·simp[Value.ownBlock]
 ·simp only[Value.ownBlock,ne_eq,Option.some.injEq];intro e;rw[e,ha]at hg;simp only[Option.some.injEq,Obj.cells.injEq]at hg;exact he hg.2.1.symm
theorem eO (h:w.ownsRow b1 e1 s1 v1 n1 x1)(hw:∀g,v1.ownBlock=some g->w'.heap[g]?=w.heap[g]?):w'.ownsRow b1 e1 s1 v1 n1 x1:=by
 obtain⟨h0,h⟩:=h;refine⟨h0,?_⟩;rcases h with h|⟨g,cap,cur,rfl,hb,hg,r⟩
 ·exact .inl h
 ·exact .inr ⟨g,cap,cur,rfl,hb,by rw[hw g rfl];exact hg,r⟩
theorem aw (h:w.ownsRow b1 e1 s1 v1 n1 x1)(hb:Below w.heap.size w w'):w'.ownsRow b1 e1 s1 v1 n1 x1:=
 eO h fun g hg=>hb.block g (h.lt g hg).2
theorem aS (h:w.ownsRow b1 e1 s1 v1 n1 x1){a:Addr}(u:Value)(dB:v1.ownBlock≠some a.block):(w.setCell a u).ownsRow b1 e1 s1 v1 n1 x1:=
 eO h fun g hg=>Below.heap_setCell _ _ _ _ (fun e=>dB (by rw[hg,e]))
theorem fo (h:w.ownsRow b1 e1 s1 v1 n1 x1)(hb:b2<=b1):w.ownsRow b2 e1 s1 v1 n1 x1:=by
 obtain⟨h0,h⟩:=h;refine⟨h0,?_⟩;rcases h with h|⟨g,cap,cur,rfl,WD,r⟩
 ·exact .inl h
 ·exact .inr ⟨g,cap,cur,rfl,by omega,r⟩
theorem P3 (h:w.ownsRow b1 e1 s1 v1 n1 x1):∀g,v1.ownBlock=some g->g<w.heap.size:=fun g hg=>(h.lt g hg).2
end
theorem heap_setCell_same {w:World}{a:Nat}{cs:Array Value}{e:TypeId}{f:Nat×Nat}(h:w.heap[a]?=some (.cells cs e f))(o:Nat)(u:Value):(w.setCell ⟨a,o,none⟩ u).heap[a]?=some (.cells (cs.setIfInBounds o u) e f):=by
 simp[World.setCell,Array.getElem?_modify,h]
theorem cell_of_heap {w:World}{a:Nat}{cs:Array Value}{e:TypeId}{f:Nat×Nat}(h:w.heap[a]?=some (.cells cs e f))(o:Nat):w.cell? ⟨a,o,none⟩=cs[o]?:=by
 simp[World.cell?,h]
theorem frozen_of_heap {w:World}{a:Nat}{cs:Array Value}{e:TypeId}(h:w.heap[a]?=some (.cells cs e (0,0)))(o:Nat):w.frozen? ⟨a,o,none⟩=false:=by
 simp[World.frozen?,h]
def eg (l:List Nat):List Value:=l.map fun(n:Nat)=> .int .i64 (n:Int)
end Aux
namespace Aux
open Go Go.RowKit Sq
section
variable {P:Program} {w:World} {ops:Array Oper} {rest:List Oper} {o:Oper} {a:Act} {Q:Exit->Act->World->Prop}
theorem gN (Iu:o.guard=none)(s x:Operand)(t:TypeId)
  (ho:o.op=.call {callee:=.builtin .append,args:= #[s,x],argTypes:= #[t,t]})
  (base:Nat) (e:TypeId) (i:TypeInfo) (z:Value) (bytes:Nat) (ht:P.underlying t=some (.slice e)) (hi:P.info? e=some i) (hz:i.zero=some z)
  (hsize:i.size=1) (OM:i.bytes=bytes) (hzs:z.cells.size=1)
  (v:Value) (n:Nat) (xs:List Value) (hs:a.eval s=v) (hown:w.ownsRow base e 1 v n xs)
  (u:Value) (hx:a.eval x=.slice (some ⟨w.heap.size,0,none⟩) 1 1) (h1:u.oneCell'=true)
  (aG:1<=bytes) (hbytes:(n+1)*bytes<=140737488355328) (hbase:base<=w.heap.size)
  (h:∀g cap w',w'.ownsRow base e 1 (.slice (some ⟨g,0,none⟩) (n+1) cap) (n+1) (xs++[u])->(w.alloc (.cells #[u] e)).grownBy w' v.ownBlock->(v.ownBlock=some g\/g=w.heap.size+1)->g<w'.heap.size->wpList P ops Q rest (a.put o.dst (.slice (some ⟨g,0,none⟩) (n+1) cap)) w'):wpList P ops Q (o::rest) a (w.alloc (.cells #[u] e)):=by
 refine wpList_append_lies _ Iu s x t ho base e i z 1 bytes ht hi hz hsize OM hzs (by decide) v n xs hs (hown.alloc _) ⟨w.heap.size,0,none⟩ 1 1 [u] hx rfl ?_ ?_ (by decide) ?_ hbytes ?_ (w.heap.size+1) (by simp) h
 ·intro j u' hj
  match j,hj with
  |0,hj=>simp at hj;subst hj;simp[Addr.add]
 ·intro u' hu;simp at hu;subst hu;exact h1
 ·have:n+1<=(n+1)*bytes:=Nat.le_mul_of_pos_right _ aG;unfold maxLen;omega
 ·simp;omega
theorem CD {K:Act->World->Prop}{E:Prop}(Iu:o.guard=none)(s x:Operand)(t:TypeId)
  (ho:o.op=.call {callee:=.builtin .append,args:= #[s,x],argTypes:= #[t,t]})
  (base:Nat) (e:TypeId) (i:TypeInfo) (z:Value) (bytes:Nat) (ht:P.underlying t=some (.slice e)) (hi:P.info? e=some i) (hz:i.zero=some z)
  (hsize:i.size=1) (OM:i.bytes=bytes) (hzs:z.cells.size=1)
  (v:Value) (n:Nat) (xs:List Value) (hs:a.eval s=v) (hown:w.ownsRow base e 1 v n xs)
  (u:Value) (hx:a.eval x=.slice (some ⟨w.heap.size,0,none⟩) 1 1) (h1:u.oneCell'=true)
  (aG:1<=bytes) (hbytes:(n+1)*bytes<=140737488355328) (hbase:base<=w.heap.size)
  (h:∀g cap w',w'.ownsRow base e 1 (.slice (some ⟨g,0,none⟩) (n+1) cap) (n+1) (xs++[u])->(w.alloc (.cells #[u] e)).grownBy w' v.ownBlock->(v.ownBlock=some g\/g=w.heap.size+1)->g<w'.heap.size->K (a.put o.dst (.slice (some ⟨g,0,none⟩) (n+1) cap)) w'):
  if Region.wanted o (yielded ops a.tmps)=true then Oper.wp P o a (w.alloc (.cells #[u] e)) K Q else E:=by
 refine step_append_lies _ Iu s x t ho base e i z 1 bytes ht hi hz hsize OM hzs (by decide) v n xs hs (hown.alloc _) ⟨w.heap.size,0,none⟩ 1 1 [u] hx rfl ?_ ?_ (by decide) ?_ hbytes ?_ (w.heap.size+1) (by simp) h
 ·intro j u' hj
  match j,hj with
  |0,hj=>simp at hj;subst hj;simp[Addr.add]
 ·intro u' hu;simp at hu;subst hu;exact h1
 ·have:n+1<=(n+1)*bytes:=Nat.le_mul_of_pos_right _ aG;unfold maxLen;omega
 ·simp;omega
end
section
variable {z a:Nat} {w w3:World} {p:RP} {vl vt vb v':Value} {us:List Value} {o:Obj}
end
end Aux
namespace Aux
theorem WV:True:=trivial
end Aux
namespace Sq
open Go
theorem fu (a b:ByteArray):(a++b).toList=a.toList++b.toList:=by
 simp only[ByteArray.toList_eq];simp
def RP.Gy (p:RP)(w:B):Nat×Nat:=
 if partOf w=98 then(2*(p.find (bh w)).toNat+1,1)
 else if p.typeOf w=oX then(2*(p.find (bh w)).toNat,2)else(2*(p.find (bh w)).toNat,1)
end Sq
namespace Sq
open Go
structure WS where
 known:Bool
 Gy:List B
def WS.at (s:WS)(k:Nat):B:=s.Gy.getD k []
def WS.cells (s:WS):List Value:=.bool s.known::s.Gy.map fun b=> .string (bs b)
def WS.val (s:WS):Value:=.agg s.cells.toArray
def RP.some (p:RP)(w:B):B:=if p.typeOf w=sa then [110,119]else [119]
end Sq
namespace Aux
open Go Go.RowKit Sq
theorem bE (b:Nat):∀(vs:List Value) (o:Nat) (w:World) (k:Nat),k≠b->(w.setCells b o vs).heap[k]?=w.heap[k]?
 |[],_,_,_,_=>rfl
 |v::r,o,w,k,h=>by
  rw[World.setCells,bE b r (o+1) _ k h,Below.heap_setCell _ _ _ _ h]
theorem fv (b:Nat):∀(vs:List Value) (o:Nat) (w:World) (cs:Array Value) (e:TypeId) (f:Nat×Nat),w.heap[b]?=some (.cells cs e f)->
  ∃cs',(w.setCells b o vs).heap[b]?=some (.cells cs' e f)/\cs'.size=cs.size/\∀j,cs'[j]?=if o<=j/\j<o+vs.length/\j<cs.size then vs[j-o]? else cs[j]?
 |[],o,w,cs,e,f,h=>⟨cs,h,rfl,fun j=>by rw[ja (by simp;omega)]⟩
 |v::r,o,w,cs,e,f,h=>by
  obtain⟨cs',h1,h2,h3⟩:=fv b r (o+1) (w.setCell ⟨b,o,none⟩ v) (cs.setIfInBounds o v) e f (heap_setCell_same h o v);refine⟨cs',by rw[World.setCells];exact h1,by rw[h2];simp,fun j=> ?_⟩;rw[h3,Array.getElem?_setIfInBounds];by_cases hj:j=o
  ·subst hj;rw[ja (by omega),jb rfl];by_cases hs:j<cs.size
   ·rw[jb hs,jb (by simp;omega)];simp
   ·rw[ja hs,ja (by omega)];simp;omega
  ·by_cases hc:o+1<=j/\j<o+1+r.length/\j<cs.size
   ·rw[jb (by simpa using hc),jb (by simp;omega)];rw[show j-o=(j-(o+1))+1 by omega,List.getElem?_cons_succ]
   ·rw[ja (by simpa using hc),ja (by omega),ja (by simp;omega)]
section
variable {w w':World} {b:Nat} {s t:WS}
theorem bp {B:Nat}{w0:World}(h:Below B w0 w)(hB:B<=b)(o:Nat)(vs:List Value):Below B w0 (w.setCells b o vs):=by
 have hos:∀(vs:List Value) (o:Nat) (w:World),(w.setCells b o vs).os=w.os/\(w.setCells b o vs).tape=w.tape/\(w.setCells b o vs).output=w.output/\(w.setCells b o vs).heap.size=w.heap.size:=by
  intro vs;induction vs with
  |nil=>intro o w;exact⟨rfl,rfl,rfl,rfl⟩
  |cons v r ih=>intro o w;rw[World.setCells];have:=ih (o+1) (w.setCell ⟨b,o,none⟩ v);simpa [World.setCell]using this
 obtain⟨h1,h2,h3,h4⟩:=hos vs o w;exact h.trans ⟨h1,h2,h3,by omega,fun k hk=>bE b vs o w k (by omega)⟩
end
def WS.set (s:WS)(k:Nat)(c:B):WS:={s with Gy:=s.Gy.set k c}
theorem bZ {fn:Func}{p:Tmp}{ty:TypeId}(h:fn.results= #[.cell p ty])(tmps:Array Value)(P:Program)(w:World)(b:Nat)(cs:List Value)(d:TypeDesc)(hp:tmps.getD p undef=.pointer (some ⟨b,0,none⟩))
  (hc:w.rangeAt b 0 cs) (hu:P.underlying ty=some d) (hd:d.isRow=true) (hi:(P.info? ty).map (·.size)=some cs.length):(results fn tmps).run P w=.ok (.agg cs.toArray) w:=by
 have:=run_loadVar_mid (P:=P) w b 0 ty cs d hc hu hd hi;rw[Array.getD_eq_getD_getElem?]at hp;unfold results;simp[h,hp,asAddr,this]
theorem lN {fn:Func}{p u:Tmp}{ty:TypeId}(h:fn.results= #[.cell p ty,.tmp u])(tmps:Array Value)(P:Program)(w:World)(b:Nat)(cs:List Value)(d:TypeDesc)(hp:tmps.getD p undef=.pointer (some ⟨b,0,none⟩))
  (hc:w.rangeAt b 0 cs) (hu:P.underlying ty=some d) (hd:d.isRow=true) (hi:(P.info? ty).map (·.size)=some cs.length):(results fn tmps).run P w=.ok (.tuple #[.agg cs.toArray,tmps.getD u undef]) w:=by
 have:=run_loadVar_mid (P:=P) w b 0 ty cs d hc hu hd hi;rw[Array.getD_eq_getD_getElem?]at hp;unfold results;simp[h,hp,asAddr,this]
end Aux
namespace PrjJ
open Go Go.RowKit Sq Aux PrjF PrjG PrjH PrjI
theorem kZ (c:UInt8):∀(a:B),¬c∈a->split c a=[a]
 |[],_=>rfl
 |x::a,h=>by
  simp only[List.mem_cons,not_or]at h;rw[split,ja (fun e=>h.1 e.symm),kZ c a h.2];rfl
theorem kz (c:UInt8):∀(a t:B),¬c∈a->split c (a++c::t)=a::split c t
 |[],t,_=>by simp[split]
 |x::a,t,h=>by
  simp only[List.mem_cons,not_or]at h;rw[jW,split,ja (fun e=>h.1 e.symm),kz c a t h.2];rfl
theorem lO (c:UInt8):∀(l:B),(split c l).length=l.count c+1
 |[]=>rfl
 |x::l=>by
  rw[split];split
  ·rename_i h;subst h;simp[lO x l]
  ·rename_i h;have:=lO c l;rw[List.count_cons_of_ne (fun e=>h e)];cases hs:split c l with
   |nil=>rw[hs]at this;simp at this
   |cons a b=>rw[hs]at this;simpa [qh]using this
theorem Cb {c:UInt8}{l:B}{i:Nat}:((bs l).extract 0 (i+0))=bs (l.take i)/\((bs l).extract (i+(⟨#[c]⟩:ByteArray).size) (bs l).size)=bs (l.drop (i+1)):=by
 constructor
 ·rw[extract_eq,bP];simp
 ·rw[extract_eq,bP];have:(⟨#[c]⟩:ByteArray).size=1:=rfl;rw[this,fI,List.take_of_length_le (by simp)]
theorem oL (c:UInt8):∀(k:Nat) (l:B),(Lib.splitB ⟨#[c]⟩ 0 k (bs l)).length=min (k+1) (split c l).length/\
  (∀j,j<k->j<(split c l).length->(Lib.splitB ⟨#[c]⟩ 0 k (bs l))[j]?=some (bs (word (split c l) j)))/\((split c l).length<=k+1->Lib.splitB ⟨#[c]⟩ 0 k (bs l)=(split c l).map bs)
 |0,l=>by
  have h1:=lO c l;refine⟨by simp[Lib.splitB];omega,fun j hj=>absurd hj (by omega),fun h=> ?_⟩;have:¬c∈l:=fun e=>by have:=List.count_pos_iff.mpr e;omega
  rw[kZ c l this];rfl
 |k+1,l=>by
  have hx:Lib.indexB (bs l) ⟨#[c]⟩=Lib.index l [c]:=by simp[Lib.indexB,bs]
  rcases oA c l with⟨h1,h2⟩|⟨i,h1,h2,h3,h4⟩
  ·rw[Lib.splitB_miss _ _ _ _ (by rw[hx,h1]),kZ c l h2];refine⟨by simp,fun j hj hl=> ?_,fun _=>rfl⟩;have:j=0:=by simpa using hl
   subst this;rfl
  ·obtain⟨e1,e2⟩:=Cb (c:=c) (l:=l) (i:=i);rw[Lib.splitB_hit _ _ _ _ i (by rw[hx,h1]),e1,e2];have hs:split c l=l.take i::split c (l.drop (i+1)):=(congrArg (split c) h3).trans (kz c _ _ h4);obtain⟨a1,a2,a3⟩:=oL c k (l.drop (i+1));rw[hs];refine⟨?_,fun j hj hl=> ?_,fun h=> ?_⟩
   ·simp only[List.length_cons,a1];omega
   ·cases j with
    |zero=>rfl
    |succ j=>
     rw[List.getElem?_cons_succ,a2 j (by omega) (by simpa using hl)];rfl
   ·rw[a3 (by simp at h;omega)];rfl
theorem CW (c:UInt8):∀(n:Nat) (l:B),l.length<=n->Lib.countB (bs l) ⟨#[c]⟩+1=(split c l).length:=by
 intro n;induction n with
 |zero=>
  intro l hl;have:l=[]:=List.eq_nil_of_length_eq_zero (by omega);subst this;rw[Lib.countB_miss (bs []) ⟨#[c]⟩ (by rfl)];rfl
 |succ n ih=>
  intro l hl;have hx:Lib.indexB (bs l) ⟨#[c]⟩=Lib.index l [c]:=by simp[Lib.indexB,bs]
  rcases oA c l with⟨h1,h2⟩|⟨i,h1,h2,h3,h4⟩
  ·rw[Lib.countB_miss _ _ (by rw[hx,h1]),kZ c l h2];rfl
  ·obtain⟨e1,e2⟩:=Cb (c:=c) (l:=l) (i:=i);rw[Lib.countB_hit (bs l) ⟨#[c]⟩ i (jC 1) (by rw[hx,h1]),e2];have hs:split c l=l.take i::split c (l.drop (i+1)):=(congrArg (split c) h3).trans (kz c _ _ h4);have:=ih (l.drop (i+1)) (by simp;omega);rw[hs,jY];omega
def fB (w:World)(v:Value)(L:List B):Prop:=
 ∃g o cap,v=.slice (some ⟨g,o,none⟩) L.length cap/\L.length<=cap/\(∃cs f,w.heap[g]?=some (.cells cs 9 f))/\∀j,j<L.length->w.cell? ⟨g,o+j,none⟩=some (.string (bs (word L j)))
theorem lt_of_heap {w:World}{g:Nat}{x:Obj}(h:w.heap[g]?=some x):g<w.heap.size:=by
 rw[Array.getElem?_eq_some_iff]at h;exact h.1
theorem fB.below {w w':World}{v:Value}{L:List B}(h:fB w v L)(hb:Below w.heap.size w w'):fB w' v L:=by
 obtain⟨g,o,cap,rfl,hc,⟨cs,f,hg⟩,aX⟩:=h;have bg:=lt_of_heap hg;exact⟨g,o,cap,rfl,hc,⟨cs,f,(hb.block g bg).trans hg⟩,fun j hj=>(hb.cell (p:=⟨g,o+j,none⟩) bg).trans (aX j hj)⟩
theorem vF (op:Nat)(h:op<23):(ah op).length<=3:=by
 have:∀op:Fin 23,(ah op.val).length<=3:=by decide
 exact this ⟨op,h⟩
theorem Jo (l:B)(w:World)(h:l.length<=1048576)(E:Env w):
  Calls Tryz.prog 195 #[.string (bs l),.string ⟨#[32]⟩,.int .i64 5] w fun e w'=>∃g cap,e=.returned (.slice (some ⟨g,0,none⟩) (min 5 (split 32 l).length) cap)/\min 5 (split 32 l).length<=cap/\(cap<=5/\(l≠[]->2<=cap))/\g<w'.heap.size/\w.heap.size<=g/\Below w.heap.size w w'/\
   w'.cell? ⟨g,0,none⟩=some (.string (bs (word (split 32 l) 0)))/\((split 32 l).length<=4->∀j,j<(split 32 l).length->w'.cell? ⟨g,j,none⟩=some (.string (bs (word (split 32 l) j))))/\(∃cs f,w'.heap[g]?=some (.cells cs 9 f)):=by
 obtain⟨m,hm⟩:=E.ME;have K:=Tryz.strings_SplitN (bs l) ⟨#[32]⟩ 5 m w (by rw[fI];omega) hm (by decide) (by decide) (by decide);refine K.mono ?_;rintro e w' ⟨rfl,rfl⟩;rw[fI];have lH:=DR 32 l;have h1:=iy 32 l;have hk:min 5 (l.length+1)-1+1=min 5 (l.length+1):=by omega
 obtain⟨a1,a2,a3⟩:=oL 32 (min 5 (l.length+1)-1) l;have hlen:(Lib.splitB ⟨#[32]⟩ 0 (min 5 (l.length+1)-1) (bs l)).length=min 5 (split 32 l).length:=by rw[a1];omega
 have aX:∀j,j<min 5 (split 32 l).length->(w.alloc (.cells (Lib.cellsOf (Lib.splitB ⟨#[32]⟩ 0 (min 5 (l.length+1)-1) (bs l)) (min 5 (l.length+1))) 9)).cell? ⟨w.heap.size,j,none⟩=(Lib.splitB ⟨#[32]⟩ 0 (min 5 (l.length+1)-1) (bs l))[j]?.map Value.string:=by
  intro j hj;have:(w.alloc (.cells (Lib.cellsOf (Lib.splitB ⟨#[32]⟩ 0 (min 5 (l.length+1)-1) (bs l)) (min 5 (l.length+1))) 9)).heap[w.heap.size]?=some (.cells (Lib.cellsOf (Lib.splitB ⟨#[32]⟩ 0 (min 5 (l.length+1)-1) (bs l)) (min 5 (l.length+1))) 9 (0,0)):=by show(w.heap.push _)[w.heap.size]?=_;simp
  simp only[World.cell?,this];unfold Lib.cellsOf;simp only[List.getElem?_toArray];rw[jg (by simp;omega),jJ];rfl
 refine⟨w.heap.size,min 5 (l.length+1),by rw[hlen],by omega,⟨by omega,fun hl=>by have:l.length≠0:=fun e=>hl (List.eq_nil_of_length_eq_zero e);omega⟩,by simp,jC _,(Below.refl _ _).alloc (jC _) _,?_,fun h4 j hj=> ?_,⟨_,_,(show(w.heap.push _)[w.heap.size]?=_ from jD)⟩⟩
 ·rw[aX 0 (by omega)];by_cases NN:0<min 5 (l.length+1)-1
  ·rw[a2 0 NN (by omega)];rfl
  ·have jy:l=[]:=List.eq_nil_of_length_eq_zero (by omega);subst jy;rfl
 ·rw[aX j (by omega),a3 (by omega),jJ];simp[word,hj]
def gY (w:World)(b:Nat):Prop:=w.heap[b]?=some (.cells #[.int .i64 0,.slice none 0 0] 240 (0,0))
theorem gY.new (w:World):gY (w.alloc (.cells #[.int .i64 0,.slice none 0 0] 240)) w.heap.size:=by
 unfold gY;show(w.heap.push _)[w.heap.size]?=_;simp
theorem gY.lt {w:World}{b:Nat}(h:gY w b):b<w.heap.size:=by
 unfold gY at h;rw[Array.getElem?_eq_some_iff]at h;exact h.1
theorem gY.below {w w':World}{b:Nat}(h:gY w b)(hb:Below w.heap.size w w'):gY w' b:=by
 unfold gY;rw[hb.block b h.lt];exact h
theorem gY.facts {w:World}{b:Nat}(h:gY w b):w.cell? ⟨b,0,none⟩=some (.int .i64 0)/\w.cell? ⟨b,1,none⟩=some (.slice none 0 0)/\w.frozen? ⟨b,0,none⟩=false/\w.frozen? ⟨b,1,none⟩=false:=by
 unfold gY at h;exact⟨by rw[cell_of_heap h];rfl,by rw[cell_of_heap h];rfl,frozen_of_heap h 0,frozen_of_heap h 1⟩
def kD (l:B)(w:World)(e:Ending)(w':World):Prop:=
 Below w.heap.size w w'/\match db (split 32 l)with
  |none=>e=.returned (.tuple #[.agg #[.int .i64 0,.slice none 0 0],.bool false])
  |some x=>∃v,e=.returned (.tuple #[.agg #[.int .i64 (x.1:Nat),v],.bool true])/\fB w' v x.2
theorem Nw {w:World}{b:Nat}(r:gY w b)(x y:Value):((w.setCell ⟨b,0,none⟩ x).setCell ⟨b,1,none⟩ y).rangeAt b 0 [x,y]:=by
 unfold gY at r;have h1:=Go.Proofs.YtmlgajhhnojdjaaGreatDoor.Aux.heap_setCell_same r 0 x;have h2:=Go.Proofs.YtmlgajhhnojdjaaGreatDoor.Aux.heap_setCell_same h1 1 y;intro j v hv;rw[cell_of_heap h2]
 match j,hv with
 |0,hv=>simpa using hv
 |1,hv=>simpa using hv
theorem Li {w w2:World}{b:Nat}(hb:Below w.heap.size w w2)(h:w.heap.size<=b)(x y:Value):Below w.heap.size w ((w2.setCell ⟨b,0,none⟩ x).setCell ⟨b,1,none⟩ y):=by
 refine⟨hb.os,hb.tape,hb.output,by simpa using hb.size,fun k hk=> ?_⟩;rw[Below.heap_setCell _ _ _ _ (by show k≠b;omega),Below.heap_setCell _ _ _ _ (by show k≠b;omega)];exact hb.block k hk
theorem Be:(Tryz.prog.info? 240).map (·.size)=some 2:=by kernel_rfl
theorem tc {l:B}{w w2:World}{tmps:Array Value}{x y:Value}{bl:Bool}(h2:tmps.getD 2 undef=.pointer (some ⟨w.heap.size,0,none⟩))(h3:tmps.getD 3 undef=.bool bl)(r:gY w2 w.heap.size)(hb:Below w.heap.size w w2)
  (P:∀w3,Below w.heap.size w w3->(∀k,k≠w.heap.size->w3.heap[k]?=w2.heap[k]?)->w3.heap.size=w2.heap.size->kD l w (.returned (.tuple #[.agg #[x,y],.bool bl])) w3):
  bodyPost Tryz.prog Tryz.f163 (kD l w) Exit.ret {tmps:=tmps,defers:=[]} ((w2.setCell ⟨w.heap.size,0,none⟩ x).setCell ⟨w.heap.size,1,none⟩ y):=by
 refine bodyPost_ret (lN Tryz.results163 tmps _ _ w.heap.size [x,y] _ h2 (Nw r x y) Tryz.underlying240 rfl Be) rfl ?_;rw[h3];refine P _ (Li hb (jC _) x y) (fun k hk=> ?_) (by simp);rw[Below.heap_setCell _ _ _ _ (by show k≠_;exact hk),Below.heap_setCell _ _ _ _ (by show k≠_;exact hk)]
theorem Qj (op:Nat)(h:op<23):fh[op*2+1]?=some (.string (bs (ah op))):=by
 have h:op=0\/op=1\/op=2\/op=3\/op=4\/op=5\/op=6\/op=7\/op=8\/op=9\/op=10\/op=11\/op=12\/op=13\/op=14\/op=15\/op=16\/op=17\/op=18\/op=19\/op=20\/op=21\/op=22:=by omega
 rcases h with rfl|rfl|rfl|rfl|rfl|rfl|rfl|rfl|rfl|rfl|rfl|rfl|rfl|rfl|rfl|rfl|rfl|rfl|rfl|rfl|rfl|rfl|rfl<;>rfl
theorem kY {w:World}(E:Env w)(op:Nat)(h:op<23):w.cell? ⟨0,op*2+1,none⟩=some (.string (bs (ah op))):=by
 have:=E.Jm (op*2+1) (.string (bs (ah op))) (Qj op h);simpa using this
set_option maxRecDepth 20000 in
theorem Ai (l:B)(w:World)(h:l.length<=1048576)(E:Env w):
  Calls Tryz.prog 163 #[.string (bs l)] w (kD l w):=by
 have KS:=fun w' (E':Env w')=>Jo l w' h E'
 have E1:=E.on ((Below.refl _ _).alloc (jC _) (.cells #[.int .i64 0,.slice none 0 0] 240));have aG:Below w.heap.size w (w.alloc (.cells #[.int .i64 0,.slice none 0 0] 240)):=(Below.refl _ _).alloc (jC _) _;have iQ:(w.alloc (.cells #[.int .i64 0,.slice none 0 0] 240)).heap.size=w.heap.size+1:=by simp
 have KO:=fun w' (E':Env w')=>PX (word (split 32 l) 0) w' E'.Jm
 have h1:=iy 32 l;cases ho:ew (word (split 32 l) 0)with
 |none=>
  have hx:db (split 32 l)=none:=by rw[db,ho]
  have P:∀w',Below w.heap.size w w'->kD l w (.returned (.tuple #[.agg #[.int .i64 0,.slice none 0 0],.bool false])) w':=fun w' hb=>⟨hb,by rw[hx]⟩
  rw[ho]at KO;go_enter Tryz.func163,Tryz.ntmps163
  go_wp2_with (first|(go_at_call 195;refine(KS _ E1).mono ?_;rintro e w1 ⟨g,cap,rfl,xU,AG,hg,G3,hb,ON,pJ,csg,fg,tX⟩;have r1:=(gY.new w).below hb)|(go_at_call 196;refine(KO _ (E1.on hb)).mono ?_;rintro e w2 ⟨rfl,bH⟩;obtain⟨rc0,rc1,rf0,rf1⟩:=(r1.below bH).facts))
  refine tc rfl rfl (r1.below bH) ((aG.trans (hb.mono (by omega))).trans (bH.mono ?_)) (fun w3 h3 _ _=>P w3 h3);have:=hb.size;omega
 |some op=>
  have ak:=mH ho;have QU:=vF op ak;rw[ho]at KO;have jy:l≠[]:=by rintro rfl;have:ew (word (split 32 []) 0)=none:=rfl;rw[this]at ho;cases ho
  have Fb:∀j,(word (split 32 l) j).length<=1048576:=fun j=>jS (ji 32 l j) h
  by_cases hlen:(split 32 l).length-1=(ah op).length
  ·have XM:min 5 (split 32 l).length=(ah op).length+1:=by omega
   have hl4:(split 32 l).length<=4:=by omega
   have XE:(split 32 l).length=(ah op).length+1:=by omega
   rw[XM]at KS;have hx:Hid (db (split 32 l)=if bc (ah op) ((split 32 l).drop 1)=true then some (op,(split 32 l).drop 1)else none):=by
    unfold Hid;rw[db,ho];simp only[hlen,true_and]
   have HF:Hid (bc (ah op) ((split 32 l).drop 1)=bc ((ah op).drop 0) ((split 32 l).drop (0+1))):=rfl;clear XM hlen;go_enter Tryz.func163,Tryz.ntmps163
   go_wp2_with (first|(go_at_call 195;refine(KS _ E1).mono ?_;rintro e w1 ⟨g,cap,rfl,xU,AG,hg,G3,hb,ON,pJ,csg,fg,tX⟩;have r1:=(gY.new w).below hb;have jw:¬cap=1:=(by have:=AG.2 jy;omega))|(go_at_call 196;refine(KO _ (E1.on hb)).mono ?_;rintro e w2 ⟨rfl,bH⟩;obtain⟨rc0,rc1,rf0,rf1⟩:=(r1.below bH).facts;have zg:=kY ((E1.on hb).on bH) op ak))
   have hB:Below w.heap.size w w2:=(aG.trans (hb.mono (by omega))).trans (bH.mono (by have:=hb.size;omega));have r2:=r1.below bH;have E2:=(E1.on hb).on bH;have E4:∀j,j<(split 32 l).length->w2.cell? ⟨g,j,none⟩=some (.string (bs (word (split 32 l) j))):=fun j hj=>(bH.cell (p:=⟨g,j,none⟩) hg).trans (pJ hl4 j hj)
   have OQ:g<w2.heap.size:=jK hg bH.size;have Yi:w2.heap[g]?=some (.cells csg 9 fg):=(bH.block g hg).trans tX;clear KS KO pJ ON rc0 rc1 rf0 rf1 zg;go_loopw [36] (fun i wr=>∃k:Nat,k<=(ah op).length/\i=.int .i64 k/\Hid (bc (ah op) ((split 32 l).drop 1)=bc ((ah op).drop k) ((split 32 l).drop (k+1)))/\Below w2.heap.size w2 wr) (fun i _=>(ah op).length-(intOf i).toNat)
   case atStart=>exact⟨0,jQ _,rfl,HF,Below.refl _ _⟩
   case round=>
    obtain⟨k,hk,rfl,HI,mi⟩:=hrel;have rr:=r2.below mi;obtain⟨rc0,rc1,rf0,rf1⟩:=rr.facts;have C8:Below w.heap.size w wr:=hB.trans (mi.mono (by have:=hB.size;omega));by_cases bg:k<(ah op).length
    ·have Ip:wr.cell? ⟨g,1+k,none⟩=some (.string (bs (word (split 32 l) (k+1)))):=by
      rw[mi.cell (p:=⟨g,1+k,none⟩) OQ,Nat.add_comm 1 k];exact E4 (k+1) (by omega)
     have KF:=Dp (word (split 32 l) (k+1)) ((ah op)[k]) wr (Fb _) (E2.on mi);have HS:Hid (bc ((ah op).drop k) ((split 32 l).drop (k+1))=(du (word (split 32 l) (k+1)) (ah op)[k]&&bc ((ah op).drop (k+1)) ((split 32 l).drop (k+2)))):=by
      unfold Hid;rw[jE bg,bc,List.drop_drop];simp[word]
     cases hf:du (word (split 32 l) (k+1)) (ah op)[k]
     ·rw[hf]at KF;have hn:db (split 32 l)=none:=by
       rw[hx.out,ja];rw[HI.out,HS.out,hf];simp
      clear hf;go_wp2_with (go_at_call 197;refine KF.mono ?_;rintro e w3 ⟨rfl,cT⟩;obtain⟨sc0,sc1,sf0,sf1⟩:=(rr.below cT).facts)
      refine tc rfl rfl (rr.below cT) (C8.trans (cT.mono (by have:=C8.size;omega))) (fun w4 h4 _ _=>⟨h4,by rw[hn]⟩)
     ·rw[hf]at KF;have Ma:Hid (bc ((ah op).drop k) ((split 32 l).drop (k+1))=bc ((ah op).drop (k+1)) ((split 32 l).drop (k+2))):=by
       unfold Hid;rw[HS.out,hf,Bool.true_and]
      clear hf;go_wp2_with (go_at_call 197;refine KF.mono ?_;rintro e w3 ⟨rfl,cT⟩)
      go_roundw
      case rel=>exact⟨k+1,by omega,by go_num,by unfold Hid;rw[HI.out,Ma.out],mi.trans (cT.mono mi.size)⟩
      case measure=>simp[intOf];omega
    ·have Ma:db (split 32 l)=some (op,(split 32 l).drop 1):=by
      rw[hx.out,jb];rw[HI.out,show k=(ah op).length by omega,List.drop_length];rfl
     go_wp2
     have Xy:g≠w.heap.size:=by omega
     refine tc rfl rfl rr C8 (fun w4 h4 hk4 hz4=>⟨h4,?_⟩);rw[Ma];refine⟨_,rfl,g,1,cap-1,?_,?_,?_,fun j hj=> ?_⟩
     ·simp only[List.length_drop,XE,Nat.add_sub_cancel]
     ·simp only[List.length_drop,XE,Nat.add_sub_cancel];omega
     ·exact⟨csg,fg,by rw[hk4 g Xy,mi.block g OQ];exact Yi⟩
     ·simp only[List.length_drop]at hj;have:w4.cell? ⟨g,1+j,none⟩=wr.cell? ⟨g,1+j,none⟩:=by
       simp only[World.cell?,hk4 g Xy]
      rw[this,mi.cell (p:=⟨g,1+j,none⟩) OQ,E4 (1+j) (by omega)];simp[word,Nat.add_comm 1 j]
  ·have hx:db (split 32 l)=none:=by
    rw[db,ho];simp only[hlen,false_and,if_false]
   have P:∀w',Below w.heap.size w w'->kD l w (.returned (.tuple #[.agg #[.int .i64 0,.slice none 0 0],.bool false])) w':=fun w' hb=>⟨hb,by rw[hx]⟩
   obtain⟨n,hn⟩:∃n,min 5 (split 32 l).length=n+1:=⟨min 5 (split 32 l).length-1,by omega⟩;have dB:¬n=(ah op).length:=by omega
   rw[hn]at KS;have tC:((n:Int)==((ah op).length:Int))=false:=by rw[jZ];omega
   clear hlen hx hn;go_enter Tryz.func163,Tryz.ntmps163
   go_wp2_with (first|(go_at_call 195;refine(KS _ E1).mono ?_;rintro e w1 ⟨g,cap,rfl,xU,AG,hg,G3,hb,ON,pJ,csg,fg,tX⟩;have r1:=(gY.new w).below hb;have jw:¬cap=1:=(by have:=AG.2 jy;omega))|(go_at_call 196;refine(KO _ (E1.on hb)).mono ?_;rintro e w2 ⟨rfl,bH⟩;obtain⟨rc0,rc1,rf0,rf1⟩:=(r1.below bH).facts;have zg:=kY ((E1.on hb).on bH) op ak))
   refine tc rfl rfl (r1.below bH) ((aG.trans (hb.mono (by omega))).trans (bH.mono ?_)) (fun w3 h3 _ _=>P w3 h3);have:=hb.size;omega
end PrjJ
end Go.Proofs.YtmlgajhhnojdjaaGreatDoor

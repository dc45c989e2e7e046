import Derived.Test.YtmlgajhhnojdjaaGreatDoorRAD
import Derived.WalkSmall
import Derived.Deep.AppendLies
namespace Go.Proofs.YtmlgajhhnojdjaaGreatDoor
namespace RefA
open Go.RowKit Sq
theorem aP {a b:Bool}(h:a=b):Ending.returned (.bool a)=.returned (.bool b):=by rw[h]
theorem Il (s:ByteArray)(k:Nat)(h:s.toList.take k|>.all lower)(hk:¬k<s.size):isName s.toList=(decide (1<=s.size)&&decide (s.size<=4)):=by
 rw[List.take_of_length_le (by rw[length_toList];omega)]at h;simp[isName,h,length_toList]
theorem zV (s:ByteArray)(k:Nat)(hk:k<s.size)(h:s[k].toNat<97\/122<s[k].toNat):isName s.toList=false:=by
 have hm:s[k]∈s.toList:=by rw[getElem_toList s k hk];exact jL _
 have:s.toList.all lower=false:=by
  rw[List.all_eq_false];exact⟨_,hm,by simp[lower];omega⟩
 simp[isName,this]
theorem M5 (s:ByteArray)(k:Nat)(hk:k<s.size)(h:(s.toList.take k).all lower=true)(h1:(97:Int)<=s[k].toNat)(h2:(s[k].toNat:Int)<=122):(s.toList.take (k+1)).all lower=true:=by
 rw[List.take_add_one,getElem?_toList s k hk,List.all_append,h];simp[lower];omega
set_option maxHeartbeats 400000 in
theorem K9 (s:ByteArray)(w:World)(hs:s.size<=maxLen):
  Calls Tryz.prog 108 #[.string s] w fun e w'=>e=.returned (.bool (isName s.toList))/\w'=w:=by
 unfold maxLen at hs;go_enter Tryz.func108,Tryz.ntmps108
 go_wp2
 go_loop [3] (fun i=>∃k:Nat,k<=s.size/\i=.int .i64 k/\Hid ((s.toList.take k).all lower=true)) (fun i=>s.size-(intOf i).toNat)
 case atStart=>exact⟨0,jQ _,rfl,rfl⟩
 case round=>
  obtain⟨k,hk,rfl,Cm⟩:=hrel;by_cases aL:k<s.size
  ·go_wp2
   ·go_ret
    exact⟨aP (zV s k aL (by omega)).symm,rfl⟩
   ·go_round
    case rel=>exact⟨k+1,by omega,by go_num,M5 s k aL Cm.out (by omega) (by omega)⟩
    case measure=>simp[intOf];omega
   ·go_ret
    exact⟨aP (zV s k aL (by omega)).symm,rfl⟩
  ·go_wp2
   all_goals
    go_ret
    refine⟨aP ?_,rfl⟩;rw[Il s k Cm.out aL,jX];simp;omega
theorem xY (l:B)(w:World)(h:l.length<=maxLen):
  Calls Tryz.prog 108 #[.string (bs l)] w fun e w'=>e=.returned (.bool (isName l))/\w'=w:=by
 have:=K9 (bs l) w (by rw[dR];exact h)
 rwa [aE]at this
theorem QT (s:ByteArray)(w:World):
  Calls Tryz.prog 85 #[.string s] w fun e w'=>e=.returned (.bool (ends s.toList))/\w'=w:=by
 go_enter Tryz.func85,Tryz.ntmps85
 go_wp2
 all_goals
  go_ret
  exact⟨aP (by simp[ends, *]),rfl⟩
theorem Ee (l:B)(w:World):
  Calls Tryz.prog 85 #[.string (bs l)] w fun e w'=>e=.returned (.bool (ends l))/\w'=w:=by
 have:=QT (bs l) w
 rwa [aE]at this
theorem oi {a b:ByteArray}(h:a=b):Ending.returned (.string a)=.returned (.string b):=by rw[h]
theorem AB (s:ByteArray)(h:2<s.size)(hd:s[s.size-2].toNat=46):dw s.toList=true:=by
 have h2:s[s.size-2]=46:=UInt8.toNat_inj.mp hd;simp[dw,length_toList,h,getElem?_toList s (s.size-2) (by omega),h2]
theorem lY (s:ByteArray)(h:2<s.size)(hd:¬s[s.size-2].toNat=46):dw s.toList=false:=by
 have h2:¬s[s.size-2]=46:=fun e=>hd (by rw[e];rfl)
 simp[dw,length_toList,getElem?_toList s (s.size-2) (by omega),h2]
theorem vq (s:ByteArray)(h:¬2<s.size):dw s.toList=false:=by
 simp[dw,length_toList,h]
theorem OR (s:ByteArray)(hd:dw s.toList=true):s.extract 0 (s.size-2)=bs (aj s.toList):=by
 rw[extract_eq];simp[aj,hd,length_toList]
theorem Bk (s:ByteArray)(hd:dw s.toList=false):s=bs (aj s.toList):=by
 simp[aj,hd,xD]
theorem OQ (s:ByteArray)(w:World)(hs:s.size<=maxLen):
  Calls Tryz.prog 111 #[.string s] w fun e w'=>e=.returned (.string (bs (aj s.toList)))/\w'=w:=by
 unfold maxLen at hs;go_enter Tryz.func111,Tryz.ntmps111
 go_wp2
 all_goals go_ret
 ·exact⟨oi (OR s (AB s (by omega) (by simp_all;omega))),rfl⟩
 ·exact⟨oi (Bk s (lY s (by omega) (by simp_all;omega))),rfl⟩
 ·exact⟨oi (Bk s (vq s (by omega))),rfl⟩
theorem zY {k:IntKind}{a b:Int}(h:a=b):Ending.returned (.int k a)=.returned (.int k b):=by rw[h]
theorem Pj (s:ByteArray)(h:2<s.size)(hd:dw s.toList=true):(s[s.size-1].toNat:Int)=(partOf s.toList).toNat:=by
 have h2:=getElem?_toList s (s.size-1) (by omega);have:s.toList.getLastD 0=s[s.size-1]:=by
  rw[List.getLastD_eq_getLast?,List.getLast?_eq_getElem?,length_toList,h2];rfl
 rw[partOf,jb hd,this]
theorem S0 (s:ByteArray)(w:World)(hs:s.size<=maxLen):
  Calls Tryz.prog 159 #[.string s] w fun e w'=>e=.returned (.int .u8 (partOf s.toList).toNat)/\w'=w:=by
 unfold maxLen at hs;go_enter Tryz.func159,Tryz.ntmps159
 go_wp2
 all_goals go_ret
 ·exact⟨zY (Pj s (by omega) (AB s (by omega) (by simp_all;omega))),rfl⟩
 ·refine⟨?_,rfl⟩;rw[partOf,lY s (by omega) (by simp_all;omega)];rfl
 ·refine⟨?_,rfl⟩;rw[partOf,vq s (by omega)];rfl
theorem vR (l:B)(w:World)(h:l.length<=maxLen):
  Calls Tryz.prog 111 #[.string (bs l)] w fun e w'=>e=.returned (.string (bs (aj l)))/\w'=w:=by
 have:=OQ (bs l) w (by rw[dR];exact h)
 rwa [aE]at this
theorem vX (l:B)(w:World)(h:l.length<=maxLen):
  Calls Tryz.prog 159 #[.string (bs l)] w fun e w'=>e=.returned (.int .u8 (partOf l).toNat)/\w'=w:=by
 have:=S0 (bs l) w (by rw[dR];exact h)
 rwa [aE]at this
end RefA
namespace PrjI
open Go Go.RowKit Sq RefA PrjF PrjG PrjH
theorem pI (c:UInt8):∀l:B,(Lib.index l [c]= -1/\¬c∈l)\/(∃i:Nat,Lib.index l [c]=i/\i<l.length/\l=l.take i++c::l.drop (i+1)/\¬c∈l.take i)
 |[]=> .inl ⟨rfl,by simp⟩
 |b::l=>by
  rw[Lib.index];by_cases hb:b=c
  ·subst hb;right;exact⟨0,by simp[List.isPrefixOf],by simp,by simp,by simp⟩
  ·have hp:List.isPrefixOf [c] (b::l)=false:=by simp[List.isPrefixOf];exact fun e=>hb e.symm
   rw[hp,ja (by simp)];rcases pI c l with⟨h1,h2⟩|⟨i,h1,h2,h3,h4⟩
   ·left;rw[h1];exact⟨rfl,by simp only[List.mem_cons,not_or];exact⟨fun e=>hb e.symm,h2⟩⟩
   ·right;refine⟨i+1,?_,by simp;omega,?_,?_⟩
    ·rw[h1,ja (by simp)];rfl
    ·simpa using h3
    ·simp only[List.take_succ_cons,List.mem_cons,not_or];exact⟨fun e=>hb e.symm,h4⟩
theorem Aw:∀(a t:B),¬(46:UInt8)∈a->cE (a++46::t)=(a,some t)
 |[],t,_=>by simp[cE]
 |c::a,t,h=>by
  simp only[List.mem_cons,not_or]at h;rw[jW,cE,ja (fun e=>h.1 e.symm),Aw a t h.2]
theorem C2:∀(a:B),¬(46:UInt8)∈a->cE a=(a,none)
 |[],_=>rfl
 |c::a,h=>by
  simp only[List.mem_cons,not_or]at h;rw[cE,ja (fun e=>h.1 e.symm),C2 a h.2]
theorem Uo (l:B):Lib.cut l [46]=((cE l).1,(cE l).2.getD [],(cE l).2.isSome):=by
 unfold Lib.cut;rcases pI 46 l with⟨h1,h2⟩|⟨i,h1,h2,h3,h4⟩
 ·rw[h1,C2 l h2];rfl
 ·rw[h1,jb (by omega)];have:cE l=(l.take i,some (l.drop (i+1))):=by
   conv=>lhs;rw[h3]
   exact Aw _ _ h4
  rw[this];simp
set_option maxRecDepth 20000 in
theorem rz (l:B)(w:World)(h:l.length<=1048576)(E:Env w):
  Calls Tryz.prog 206 #[.string (bs l)] w fun e w'=>e=.returned (.tuple #[.string (bs ((bS l).getD ([],0)).1),.int .i64 (((bS l).getD ([],0)).2:Nat),.bool (bS l).isSome])/\Below w.heap.size w w':=by
 obtain⟨m,hm⟩:=E.OZ;have TY:(bs l).data.toList=l:=by simp[bs]
 have K:=Tryz.strings_Cut (bs l) ⟨#[46]⟩ m w (by rw[dR];omega) hm;have h46:(⟨#[46]⟩:ByteArray).data.toList=[46]:=rfl;rw[TY,h46,Uo,Sm,Sm]at K;rw[bS];have hb:∀n,Below w.heap.size w (w.drewN n):=fun n=>below_drewN (Below.refl _ _) n
 cases hc:(cE l).2 with
 |none=>
  rw[hc]at K;go_enter Tryz.func206,Tryz.ntmps206
  go_wp2_with (go_at_call 230;refine K.mono ?_;rintro e w1 ⟨rfl,n,rfl⟩)
  go_ret3
  exact⟨rfl,hb n⟩
 |some t=>
  rw[hc]at K;have ht:=aE t;by_cases h97:t=[97]
  ·subst h97;go_enter Tryz.func206,Tryz.ntmps206
   go_wp2_with (go_at_call 230;refine K.mono ?_;rintro e w1 ⟨rfl,n,rfl⟩)
   go_ret3
   exact⟨rfl,hb n⟩
  ·by_cases h98:t=[98]
   ·subst h98;go_enter Tryz.func206,Tryz.ntmps206
    go_wp2_with (go_at_call 230;refine K.mono ?_;rintro e w1 ⟨rfl,n,rfl⟩)
    go_ret3
    exact⟨rfl,hb n⟩
   ·by_cases h115:t=[115]
    ·subst h115;go_enter Tryz.func206,Tryz.ntmps206
     go_wp2_with (go_at_call 230;refine K.mono ?_;rintro e w1 ⟨rfl,n,rfl⟩)
     go_ret3
     exact⟨rfl,hb n⟩
    ·simp only;rw[ja h97,ja h98,ja h115];have b1:(t==[97])=false:=by simpa using h97
     have b2:(t==[98])=false:=by simpa using h98
     have b3:(t==[115])=false:=by simpa using h115
     clear h97 h98 h115;go_enter Tryz.func206,Tryz.ntmps206
     go_wp2_with (go_at_call 230;refine K.mono ?_;rintro e w1 ⟨rfl,n,rfl⟩)
     go_ret3
     exact⟨rfl,hb n⟩
theorem Lw (s:ByteArray)(h:s.size<1\/4<s.size):isName s.toList=false:=by
 rw[isName,length_toList];rcases h with h|h
 ·simp[show¬1<=s.size by omega]
 ·simp[show¬s.size<=4 by omega]
set_option maxRecDepth 20000 in
theorem IE (s:ByteArray)(w:World)(hs:s.size<=maxLen):
  Calls Tryz.prog 226 #[.string s] w fun e w'=>e=.returned (.bool (isName s.toList))/\w'=w:=by
 unfold maxLen at hs;by_cases Cs:s.size<1\/4<s.size
 ·rw[Lw s Cs];rcases Cs with Cs|Cs
  all_goals
   go_enter Tryz.func226,Tryz.ntmps226
   go_wp2
   go_ret
   exact⟨rfl,rfl⟩
 ·have h1:1<=s.size:=by omega
  have h4:s.size<=4:=by omega
  clear Cs;go_enter Tryz.func226,Tryz.ntmps226
  go_wp2
  go_loop [14] (fun i=>∃k:Nat,k<=s.size/\i=.int .i64 k/\Hid ((s.toList.take k).all lower=true)) (fun i=>s.size-(intOf i).toNat)
  case atStart=>exact⟨0,jQ _,rfl,rfl⟩
  case round=>
   obtain⟨k,hk,rfl,Cm⟩:=hrel;by_cases aL:k<s.size
   ·by_cases kq:(s[k].toNat:Int)<97
    ·go_wp2
     go_ret
     exact⟨aP (zV s k aL (by omega)).symm,rfl⟩
    ·by_cases oa:(122:Int)<s[k].toNat
     ·go_wp2
      go_ret
      exact⟨aP (zV s k aL (by omega)).symm,rfl⟩
     ·go_wp2
      go_round
      case rel=>exact⟨k+1,by omega,by go_num,M5 s k aL Cm.out (by omega) (by omega)⟩
      case measure=>simp[intOf];omega
   ·go_wp2
    go_ret
    exact⟨aP (by rw[Il s k Cm.out aL];simp[h1,h4]),rfl⟩
theorem BD (l:B)(w:World)(h:l.length<=1099511627776):
  Calls Tryz.prog 226 #[.string (bs l)] w fun e w'=>e=.returned (.bool (isName l))/\w'=w:=by
 have:=IE (bs l) w (by rw[dR];unfold maxLen;omega)
 rwa [aE]at this
theorem SO {a b c:Bool}(h:a=true\/b=true\/c=true):a=true\/(a=false/\b=true)\/(a=false/\b=false/\c=true):=by
 cases a<;>cases b<;>simp_all
theorem SP {a b:Bool}(h:a=true\/b=true):a=true\/(a=false/\b=true):=by
 cases a<;>simp_all
theorem Gr (l:B)(c:UInt8):jq l c=
  if((c.toNat:Int)==100)=true\/((c.toNat:Int)==105)=true\/((c.toNat:Int)==111)=true then isName l
  else if((c.toNat:Int)==116)=true then(gN l).isSome
  else if((c.toNat:Int)==112)=true\/((c.toNat:Int)==109)=true then(bS l).isSome&&isName ((bS l).getD ([],0)).1
  else if((c.toNat:Int)==35)=true then(dP l).isSome
  else if((c.toNat:Int)==98)=true then(aA l).isSome
  else if((c.toNat:Int)==102)=true then Ei l
  else if((c.toNat:Int)==118)=true then l==[48]||l==[49]
  else false:=by
 have e:∀n:Nat,n<256->(((c.toNat:Int)==(n:Int))=true↔c=UInt8.ofNat n):=fun n hn=>by
  rw[kW c n hn,beq_iff_eq];omega
 have e1:=e 100 (by omega);have e2:=e 105 (by omega);have e3:=e 111 (by omega);have e4:=e 116 (by omega);have e5:=e 112 (by omega);have e6:=e 109 (by omega);have e7:=e 35 (by omega);have e8:=e 98 (by omega);have e9:=e 102 (by omega);have e10:=e 118 (by omega);simp only[Int.cast_ofNat_Int]at e1 e2 e3 e4 e5 e6 e7 e8 e9 e10;simp only[e1,e2,e3,e4,e5,e6,e7,e8,e9,e10];unfold jq Ei;cases bS l<;>rfl
set_option maxRecDepth 20000 in
set_option maxHeartbeats 1000000 in
theorem EC (l:B)(c:UInt8)(w:World)(h:l.length<=1048576)(E:Env w):
  Calls Tryz.prog 197 #[.string (bs l),.int .u8 c.toNat] w fun e w'=>e=.returned (.bool (jq l c))/\Below w.heap.size w w':=by
 have ht:=aE l;have KN:=BD l w (by omega);have KT:=iB l w E.types;have KP:=rz l w h E;have KS:=fun w'=>BD ((bS l).getD ([],0)).1 w' (by
  cases hs:bS l with
  |none=>simp
  |some x=>
   have:x.1.length<=l.length:=by
    have h1:x.1=(cE l).1:=by
     rw[bS]at hs;split at hs
     ·cases hs;rfl
     ·repeat (first|(split at hs;(cases hs;rfl))|cases hs)
    rw[h1];cases hc:(cE l).2 with
    |none=>rw[(mX hc).1];exact jC _
    |some t=>have:=congrArg List.length (mY hc).1;simp at this;omega
   simp;omega)
 have K1:=vT l w (by omega) E;have K2:=yG l w (by omega) E;have K3:=AK l w (by omega) E;have rf:=Below.refl w.heap.size w;rw[Gr];by_cases h1:((c.toNat:Int)==100)=true\/((c.toNat:Int)==105)=true\/((c.toNat:Int)==111)=true
 ·rw[jb h1];clear KT KP KS K1 K2 K3;have TO:((c.toNat:Int)==100)=true\/(((c.toNat:Int)==100)=false/\((c.toNat:Int)==105)=true)\/(((c.toNat:Int)==100)=false/\((c.toNat:Int)==105)=false/\((c.toNat:Int)==111)=true):=SO h1;clear h1;rcases TO with h1|⟨h1,h2⟩|⟨h1,h2,h3⟩
  all_goals
   go_enter Tryz.func197,Tryz.ntmps197
   go_wp2_with (go_at_call 226;refine KN.mono ?_;rintro e w1 ⟨rfl,rfl⟩)
   go_ret
   exact⟨rfl,rf⟩
 ·rw[ja h1];simp only[not_or,Bool.not_eq_true]at h1;obtain⟨a1,a2,a3⟩:=h1;by_cases h2:((c.toNat:Int)==116)=true
  ·rw[jb h2];clear KN KP KS K1 K2 K3;go_enter Tryz.func197,Tryz.ntmps197
   go_wp2_with (go_at_call 169;refine KT.mono ?_;rintro e w1 ⟨rfl,hb⟩)
   go_ret
   exact⟨rfl,hb⟩
  ·rw[ja h2];rw[Bool.not_eq_true]at h2;by_cases h3:((c.toNat:Int)==112)=true\/((c.toNat:Int)==109)=true
   ·rw[jb h3];clear KN KT K1 K2 K3;have Zm:((c.toNat:Int)==112)=true\/(((c.toNat:Int)==112)=false/\((c.toNat:Int)==109)=true):=SP h3;clear h3;cases hs:(bS l).isSome
    all_goals
     rw[hs]at KP;rcases Zm with h3|⟨h3,h4⟩
     all_goals
      go_enter Tryz.func197,Tryz.ntmps197
      go_wp2_with (first|(go_at_call 206;refine KP.mono ?_;rintro e w1 ⟨rfl,hb⟩)|(go_at_call 226;refine(KS _).mono ?_;rintro e w2 ⟨rfl,rfl⟩))
      go_ret
      exact⟨rfl,hb⟩
   ·rw[ja h3];simp only[not_or,Bool.not_eq_true]at h3;obtain⟨a4,a5⟩:=h3;by_cases h4:((c.toNat:Int)==35)=true
    ·rw[jb h4];clear KN KT KP KS K2 K3;go_enter Tryz.func197,Tryz.ntmps197
     go_wp2_with (go_at_call 203;refine K1.mono ?_;rintro e w1 ⟨rfl,hb⟩)
     go_ret
     exact⟨rfl,hb⟩
    ·rw[ja h4];rw[Bool.not_eq_true]at h4;by_cases h5:((c.toNat:Int)==98)=true
     ·rw[jb h5];clear KN KT KP KS K1 K3;go_enter Tryz.func197,Tryz.ntmps197
      go_wp2_with (go_at_call 205;refine K2.mono ?_;rintro e w1 ⟨rfl,hb⟩)
      go_ret
      exact⟨rfl,hb⟩
     ·rw[ja h5];rw[Bool.not_eq_true]at h5;by_cases h6:((c.toNat:Int)==102)=true
      ·rw[jb h6];clear KN KT KP KS K1 K2;go_enter Tryz.func197,Tryz.ntmps197
       go_wp2_with (go_at_call 204;refine K3.mono ?_;rintro e w1 ⟨rfl,hb⟩)
       go_ret
       exact⟨rfl,hb⟩
      ·rw[ja h6];rw[Bool.not_eq_true]at h6;clear KN KT KP KS K1 K2 K3;by_cases h7:((c.toNat:Int)==118)=true
       ·rw[jb h7];cases b1:(l==[48])
        all_goals
         go_enter Tryz.func197,Tryz.ntmps197
         go_wp2
         all_goals
          go_ret
          exact⟨rfl,rf⟩
       ·rw[ja h7];rw[Bool.not_eq_true]at h7;go_enter Tryz.func197,Tryz.ntmps197
        go_wp2
        go_ret
        exact⟨rfl,rf⟩
end PrjI
namespace Aux
open Go Go.RowKit Sq
def Ad (w:World)(v:Value)(L:List B):Prop:=
 ∃g cap,v=.slice (some ⟨g,0,none⟩) L.length cap/\L.length<=cap/\g<w.heap.size/\∀j,j<L.length->w.cell? ⟨g,j,none⟩=some (.string (bs (word L j)))
def xu (w:World)(v:Value)(L:List Nat):Prop:=
 (L=[]/\v=.slice none 0 0)\/∃g cap,v=.slice (some ⟨g,0,none⟩) L.length cap/\L.length<=cap/\g<w.heap.size/\∀j,j<L.length->w.cell? ⟨g,j,none⟩=some (.int .i64 (L.getD j 0))
def zx (w:World)(v:Value)(L:List (List B)):Prop:=
 (L=[]/\v=.slice none 0 0)\/∃g cap,v=.slice (some ⟨g,0,none⟩) L.length cap/\L.length<=cap/\g<w.heap.size/\∀j,j<L.length->∃u,w.cell? ⟨g,j,none⟩=some u/\Ad w u (L.getD j [])
structure bf (w:World)(a:Nat)(p:RP):Prop where
 lt:a<w.heap.size
 lines:∃v,w.cell? ⟨a,0,none⟩=some v/\zx w v p.lines
 lets:∃v,w.cell? ⟨a,1,none⟩=some v/\xu w v p.lets
 blocks:∃v,w.cell? ⟨a,2,none⟩=some v/\xu w v p.blocks
 raw:w.cell? ⟨a,3,none⟩=some (.bool p.raw)
theorem Ad.below {w w':World}{v:Value}{L:List B}(h:Ad w v L)(hb:Below w.heap.size w w'):Ad w' v L:=by
 obtain⟨g,cap,rfl,hc,hg,aD⟩:=h;exact⟨g,cap,rfl,hc,jK hg hb.size,fun j hj=>(hb.cell (p:=⟨g,j,none⟩) hg).trans (aD j hj)⟩
theorem xu.below {w w':World}{v:Value}{L:List Nat}(h:xu w v L)(hb:Below w.heap.size w w'):xu w' v L:=by
 rcases h with h|⟨g,cap,rfl,hc,hg,aD⟩
 ·exact .inl h
 ·exact .inr ⟨g,cap,rfl,hc,jK hg hb.size,fun j hj=>(hb.cell (p:=⟨g,j,none⟩) hg).trans (aD j hj)⟩
theorem zx.below {w w':World}{v:Value}{L:List (List B)}(h:zx w v L)(hb:Below w.heap.size w w'):zx w' v L:=by
 rcases h with h|⟨g,cap,rfl,hc,hg,aD⟩
 ·exact .inl h
 ·exact .inr ⟨g,cap,rfl,hc,jK hg hb.size,fun j hj=>by
   obtain⟨u,hu,hr⟩:=aD j hj;exact⟨u,(hb.cell (p:=⟨g,j,none⟩) hg).trans hu,hr.below hb⟩⟩
theorem bf.below {w w':World}{a:Nat}{p:RP}(h:bf w a p)(hb:Below w.heap.size w w'):bf w' a p:=by
 obtain⟨aL,⟨v1,h1,r1⟩,⟨v2,h2,r2⟩,⟨v3,h3,r3⟩,h4⟩:=h;exact⟨jK aL hb.size,⟨v1,(hb.cell (p:=⟨a,0,none⟩) aL).trans h1,r1.below hb⟩,⟨v2,(hb.cell (p:=⟨a,1,none⟩) aL).trans h2,r2.below hb⟩,
  ⟨v3,(hb.cell (p:=⟨a,2,none⟩) aL).trans h3,r3.below hb⟩,(hb.cell (p:=⟨a,3,none⟩) aL).trans h4⟩
theorem bf.drewN {w:World}{a:Nat}{p:RP}(h:bf w a p)(n:Nat):bf (w.drewN n) a p:=h.below (below_drewN (Below.refl _ _) n)
theorem bf.gH {w:World}{a:Nat}{p:RP}(h:bf w a p)(i:Nat)(hi:i<p.lines.length):
  ∃(g cap gl dt:Nat),w.cell? ⟨a,0,none⟩=some (.slice (some ⟨g,0,none⟩) p.lines.length cap)/\p.lines.length<=cap/\w.cell? ⟨g,i,none⟩=some (.slice (some ⟨gl,0,none⟩) (p.line i).length dt)/\(p.line i).length<=dt/\
   ∀j,j<(p.line i).length->w.cell? ⟨gl,j,none⟩=some (.string (bs (word (p.line i) j))):=by
 obtain⟨v,hv,hr⟩:=h.lines;rcases hr with⟨he,_⟩|⟨g,cap,rfl,hc,hg,aD⟩
 ·rw[he]at hi;simp at hi
 ·obtain⟨u,hu,gl,dt,rfl,AW,Wh,hw⟩:=aD i hi;exact⟨g,cap,gl,dt,hv,hc,hu,AW,hw⟩
theorem bf.M1 {w:World}{a:Nat}{p:RP}(h:bf w a p):
  ∃v,w.cell? ⟨a,1,none⟩=some v/\((p.lets=[]/\v=.slice none 0 0)\/∃g cap,v=.slice (some ⟨g,0,none⟩) p.lets.length cap/\p.lets.length<=cap/\∀j,j<p.lets.length->w.cell? ⟨g,j,none⟩=some (.int .i64 (p.lets.getD j 0))):=by
 obtain⟨v,hv,hr⟩:=h.lets;rcases hr with hr|⟨g,cap,e,hc,_,aD⟩
 ·exact⟨v,hv,.inl hr⟩
 ·exact⟨v,hv,.inr ⟨g,cap,e,hc,aD⟩⟩
theorem bf.oI {w:World}{a:Nat}{p:RP}(h:bf w a p):
  ∃v,w.cell? ⟨a,2,none⟩=some v/\((p.blocks=[]/\v=.slice none 0 0)\/∃g cap,v=.slice (some ⟨g,0,none⟩) p.blocks.length cap/\p.blocks.length<=cap/\∀j,j<p.blocks.length->w.cell? ⟨g,j,none⟩=some (.int .i64 (p.blocks.getD j 0))):=by
 obtain⟨v,hv,hr⟩:=h.blocks;rcases hr with hr|⟨g,cap,e,hc,_,aD⟩
 ·exact⟨v,hv,.inl hr⟩
 ·exact⟨v,hv,.inr ⟨g,cap,e,hc,aD⟩⟩
theorem bf.EK {w:World}{a:Nat}{p:RP}(h:bf w a p)(j:Nat)(hj:j<p.lets.length):
  ∃g cap,w.cell? ⟨a,1,none⟩=some (.slice (some ⟨g,0,none⟩) p.lets.length cap)/\p.lets.length<=cap/\w.cell? ⟨g,j,none⟩=some (.int .i64 (p.lets.getD j 0)):=by
 obtain⟨v,hv,hr⟩:=h.M1;rcases hr with⟨he,_⟩|⟨g,cap,rfl,hc,aD⟩
 ·rw[he]at hj;simp at hj
 ·exact⟨g,cap,hv,hc,aD j hj⟩
theorem bf.Ao {w:World}{a:Nat}{p:RP}(h:bf w a p)(j:Nat)(hj:j<p.blocks.length):
  ∃g cap,w.cell? ⟨a,2,none⟩=some (.slice (some ⟨g,0,none⟩) p.blocks.length cap)/\p.blocks.length<=cap/\w.cell? ⟨g,j,none⟩=some (.int .i64 (p.blocks.getD j 0)):=by
 obtain⟨v,hv,hr⟩:=h.oI;rcases hr with⟨he,_⟩|⟨g,cap,rfl,hc,aD⟩
 ·rw[he]at hj;simp at hj
 ·exact⟨g,cap,hv,hc,aD j hj⟩
theorem bf.q9 {w:World}{a:Nat}{p:RP}(h:bf w a p):∃b cap,w.cell? ⟨a,1,none⟩=some (.slice b p.lets.length cap):=by
 obtain⟨v,hv,hr⟩:=h.M1;rcases hr with⟨he,rfl⟩|⟨g,cap,rfl,hc,aD⟩
 ·exact⟨none,0,by rw[he];exact hv⟩
 ·exact⟨_,cap,hv⟩
theorem bf.px {w:World}{a:Nat}{p:RP}(h:bf w a p):∃b cap,w.cell? ⟨a,2,none⟩=some (.slice b p.blocks.length cap):=by
 obtain⟨v,hv,hr⟩:=h.oI;rcases hr with⟨he,rfl⟩|⟨g,cap,rfl,hc,aD⟩
 ·exact⟨none,0,by rw[he];exact hv⟩
 ·exact⟨_,cap,hv⟩
end Aux
namespace Aux
open Go Go.RowKit
theorem Aj {P:Program}{w:World}{ops:Array Oper}{rest:List Oper}{o:Oper}{a:Act}{Q:Exit->Act->World->Prop}(Kk:o.guard=none)(s x:Operand)(t:TypeId)
  (ho:o.op=.call {callee:=.builtin .append,args:= #[s,x],argTypes:= #[t,t]})
  (base:Nat) (e:TypeId) (i:TypeInfo) (z:Value) (bytes:Nat) (ht:P.underlying t=some (.slice e)) (hi:P.info? e=some i) (hz:i.zero=some z)
  (hsize:i.size=1) (hby:i.bytes=bytes) (hzs:z.cells.size=1)
  (v:Value) (n:Nat) (xs:List Value) (hs:a.eval s=v) (js:w.ownsRow base e 1 v n xs)
  (u:Value) (hx:a.eval x=.slice (some ⟨w.heap.size,0,none⟩) 1 1) (h1:u.oneCell'=true)
  (aw:1<=bytes) (hbytes:(n+1)*bytes<=140737488355328) (qP:base<=w.heap.size)
  (h:∀v' w',w'.ownsRow base e 1 v' (n+1) (xs++[u])->(w.alloc (.cells #[u] e)).grownBy w' v.ownBlock->wpList P ops Q rest (a.put o.dst v') w'):wpList P ops Q (o::rest) a (w.alloc (.cells #[u] e)):=by
 refine wpList_append_own _ Kk s x t ho base e i z 1 bytes ht hi hz hsize hby hzs (by decide) v n xs hs (js.alloc _) ⟨w.heap.size,0,none⟩ 1 1 [u] hx rfl ?_ ?_ ?_ hbytes ?_ (fun v' w' a b _=>h v' w' a b)
 ·intro j u' hj
  match j,hj with
  |0,hj=>simp at hj;subst hj;simp[Addr.add]
 ·intro u' hu;simp at hu;subst hu;exact h1
 ·have:n+1<=(n+1)*bytes:=Nat.le_mul_of_pos_right _ aw;unfold maxLen;omega
 ·simp;omega
theorem fu {B:Nat}{w0 w w':World}{o:Obj}{base:Nat}{e:TypeId}{size:Nat}{v:Value}{n:Nat}{xs:List Value}(hb:Below B w0 w)(hB:B<=base)(qP:base<=w.heap.size)
  (js:w.ownsRow base e size v n xs) (hg:(w.alloc o).grownBy w' v.ownBlock):Below B w0 w':=by
 refine(hb.alloc (by omega) o).grown hg (by simp;omega) fun k hk=> ?_
 have:=js.lt k hk;omega
end Aux
namespace Aux
open Go Go.RowKit Sq
section
variable {w w':World} {b1 b2:Nat} {e1 e2:TypeId} {s1 s2:Nat} {v1 v2:Value} {n1 n2:Nat} {x1 x2:List Value}
theorem da (h1:w.ownsRow b1 e1 s1 v1 n1 x1)(h2:w.ownsRow b2 e2 s2 v2 n2 x2)(he:e1≠e2):v1.ownBlock=none\/v1.ownBlock≠v2.ownBlock:=by
 obtain⟨-,h1⟩:=h1;obtain⟨-,h2⟩:=h2;rcases h1 with⟨rfl,-⟩|⟨g,cap,cur,rfl,-,hg,-⟩
 ·exact .inl rfl
 ·refine .inr ?_;rcases h2 with⟨rfl,-⟩|⟨g',cap',cur',rfl,-,Rw,-⟩
  ·simp[Value.ownBlock]
  ·simp only[Value.ownBlock,ne_eq,Option.some.injEq];intro e;rw[e,Rw]at hg;simp only[Option.some.injEq,Obj.cells.injEq]at hg;exact he hg.2.1.symm
theorem au (h1:w.ownsRow b1 e1 s1 v1 n1 x1){a:Nat}{cs:Array Value}{f:Nat×Nat}(ha:w.heap[a]?=some (.cells cs e2 f))(he:e1≠e2):v1.ownBlock≠some a:=by
 obtain⟨-,h1⟩:=h1;rcases h1 with⟨rfl,-⟩|⟨g,cap,cur,rfl,-,hg,-⟩
 ·simp[Value.ownBlock]
 ·simp only[Value.ownBlock,ne_eq,Option.some.injEq];intro e;rw[e,ha]at hg;simp only[Option.some.injEq,Obj.cells.injEq]at hg;exact he hg.2.1.symm
theorem gi (h:w.ownsRow b1 e1 s1 v1 n1 x1)(hw:∀g,v1.ownBlock=some g->w'.heap[g]?=w.heap[g]?):w'.ownsRow b1 e1 s1 v1 n1 x1:=by
 obtain⟨h0,h⟩:=h;refine⟨h0,?_⟩;rcases h with h|⟨g,cap,cur,rfl,hb,hg,r⟩
 ·exact .inl h
 ·exact .inr ⟨g,cap,cur,rfl,hb,by rw[hw g rfl];exact hg,r⟩
theorem ay (h:w.ownsRow b1 e1 s1 v1 n1 x1)(hb:Below w.heap.size w w'):w'.ownsRow b1 e1 s1 v1 n1 x1:=
 gi h fun g hg=>hb.block g (h.lt g hg).2
theorem av (h:w.ownsRow b1 e1 s1 v1 n1 x1){a:Addr}(u:Value)(ec:v1.ownBlock≠some a.block):(w.setCell a u).ownsRow b1 e1 s1 v1 n1 x1:=
 gi h fun g hg=>Below.heap_setCell _ _ _ _ (fun e=>ec (by rw[hg,e]))
theorem oY (h:w.ownsRow b1 e1 s1 v1 n1 x1)(hb:b2<=b1):w.ownsRow b2 e1 s1 v1 n1 x1:=by
 obtain⟨h0,h⟩:=h;refine⟨h0,?_⟩;rcases h with h|⟨g,cap,cur,rfl,FA,r⟩
 ·exact .inl h
 ·exact .inr ⟨g,cap,cur,rfl,by omega,r⟩
theorem LG (h:w.ownsRow b1 e1 s1 v1 n1 x1):∀g,v1.ownBlock=some g->g<w.heap.size:=fun g hg=>(h.lt g hg).2
end
theorem heap_setCell_same {w:World}{a:Nat}{cs:Array Value}{e:TypeId}{f:Nat×Nat}(h:w.heap[a]?=some (.cells cs e f))(o:Nat)(u:Value):(w.setCell ⟨a,o,none⟩ u).heap[a]?=some (.cells (cs.setIfInBounds o u) e f):=by
 simp[World.setCell,Array.getElem?_modify,h]
theorem cell_of_heap {w:World}{a:Nat}{cs:Array Value}{e:TypeId}{f:Nat×Nat}(h:w.heap[a]?=some (.cells cs e f))(o:Nat):w.cell? ⟨a,o,none⟩=cs[o]?:=by
 simp[World.cell?,h]
theorem frozen_of_heap {w:World}{a:Nat}{cs:Array Value}{e:TypeId}(h:w.heap[a]?=some (.cells cs e (0,0)))(o:Nat):w.frozen? ⟨a,o,none⟩=false:=by
 simp[World.frozen?,h]
def dH (l:List Nat):List Value:=l.map fun(n:Nat)=> .int .i64 (n:Int)
structure j9 (z a:Nat)(w:World)(p:RP)(vl vt vb:Value)(us:List Value):Prop where
 base:z<=a
 aJ:w.heap[a]?=some (.cells #[vl,vt,vb,.bool p.raw] 128 (0,0))
 lines:w.ownsRow z 34 1 vl p.lines.length us
 each:∀j,j<us.length->w.ownsRow z 9 1 (us.getD j undef) (p.line j).length (cellsOf (p.line j))
 lets:w.ownsRow z 3 1 vt p.lets.length (dH p.lets)
 blocks:w.ownsRow z 3 1 vb p.blocks.length (dH p.blocks)
 apart:vt.ownBlock=none\/vb.ownBlock=none\/vt.ownBlock≠vb.ownBlock
theorem j9.WM {z a:Nat}{w:World}{p:RP}{vl vt vb:Value}{us:List Value}(h:j9 z a w p vl vt vb us):us.length=p.lines.length:=by
 have:=h.lines.1;omega
theorem j9.lt {z a:Nat}{w:World}{p:RP}{vl vt vb:Value}{us:List Value}(h:j9 z a w p vl vt vb us):a<w.heap.size:=by
 have:=h.aJ;rw[Array.getElem?_eq_some_iff]at this;exact this.1
theorem ym {w:World}{z:Nat}{v:Value}{L:List B}(h:w.ownsRow z 9 1 v L.length (cellsOf L))(hL:1<=L.length):Ad w v L:=by
 have hl:=h.lt;obtain⟨h0,h⟩:=h;rcases h with⟨-,h⟩|⟨g,cap,cur,rfl,hb,hg,hc,hm,hs,ht⟩
 ·omega
 ·refine⟨g,cap,rfl,hc,(hl g rfl).2,fun j hj=> ?_⟩;rw[cell_of_heap hg];have:(cur.toList.take (L.length*1))[j]?=cur[j]?:=by
   rw[List.getElem?_take,jb (by omega)];simp
  rw[<-this,ht,cellsOf,jJ];simp[word,hj]
theorem Dk {w:World}{z:Nat}{v:Value}{L:List Nat}(h:w.ownsRow z 3 1 v L.length (dH L)):xu w v L:=by
 have hl:=h.lt;obtain⟨h0,h⟩:=h;rcases h with⟨h,h'⟩|⟨g,cap,cur,rfl,hb,hg,hc,hm,hs,ht⟩
 ·exact .inl ⟨List.eq_nil_of_length_eq_zero h',h⟩
 ·refine .inr ⟨g,cap,rfl,hc,(hl g rfl).2,fun j hj=> ?_⟩;rw[cell_of_heap hg];have:(cur.toList.take (L.length*1))[j]?=cur[j]?:=by
   rw[List.getElem?_take,jb (by omega)];simp
  rw[<-this,ht,dH,jJ];simp[hj]
theorem j9.yc {z a:Nat}{w:World}{p:RP}{vl vt vb:Value}{us:List Value}(h:j9 z a w p vl vt vb us)(hw:∀i,i<p.lines.length->1<=(p.line i).length):bf w a p:=by
 have hu:=h.WM;refine⟨h.lt,⟨vl,by rw[cell_of_heap h.aJ];rfl,?_⟩,⟨vt,by rw[cell_of_heap h.aJ];rfl,Dk h.lets⟩,⟨vb,by rw[cell_of_heap h.aJ];rfl,Dk h.blocks⟩,by rw[cell_of_heap h.aJ];rfl⟩;have hl:=h.lines.lt;obtain⟨h0,hh⟩:=h.lines;rcases hh with⟨hh,h'⟩|⟨g,cap,cur,rfl,hb,hg,hc,hm,hs,ht⟩
 ·exact .inl ⟨List.eq_nil_of_length_eq_zero h',hh⟩
 ·refine .inr ⟨g,cap,rfl,hc,(hl g rfl).2,fun j hj=> ?_⟩;rw[cell_of_heap hg];have:(cur.toList.take (p.lines.length*1))[j]?=cur[j]?:=by
   rw[List.getElem?_take,jb (by omega)];simp
  rw[<-this,ht];refine⟨us.getD j undef,by simp[hu,hj],?_⟩;have he:=h.each j (by omega);exact ym he (hw j hj)
theorem j9.below {z a:Nat}{w w':World}{p:RP}{vl vt vb:Value}{us:List Value}(h:j9 z a w p vl vt vb us)(hb:Below w.heap.size w w'):j9 z a w' p vl vt vb us:=
 ⟨h.base,by rw[hb.block a h.lt];exact h.aJ,ay h.lines hb,fun j hj=>ay (h.each j hj) hb,ay h.lets hb,ay h.blocks hb,h.apart⟩
theorem j9.addLine {z a:Nat}{w w2 w3:World}{p:RP}{vl vt vb vl' u:Value}{us:List Value}{L:List B}{o:Obj}(h:j9 z a w p vl vt vb us)
  (hu:w.ownsRow z 9 1 u L.length (cellsOf L)) (h2:w2=w.alloc o) (h3:w3.ownsRow z 34 1 vl' (p.lines.length+1) (us++[u])) (hg:w2.grownBy w3 vl.ownBlock):
  j9 z a (w3.setCell ⟨a,0,none⟩ vl') {p with lines:=p.lines++[L]} vl' vt vb (us++[u]):=by
 subst h2;have lI:Below w.heap.size w (w.alloc o):=(Below.refl _ _).alloc (jC _) o;have H:=h.below lI;have hua:=ay hu lI;have ec:some a≠vl.ownBlock:=(au H.lines H.aJ (by decide)).symm;have bV:w3.heap[a]?=some (.cells #[vl,vt,vb,.bool p.raw] 128 (0,0)):=by rw[hg.block a H.lt ec];exact H.aJ
 have df:∀{e:TypeId} {v:Value} {n:Nat} {xs:List Value},(w.alloc o).ownsRow z e 1 v n xs->e≠34->e≠128->(w3.setCell ⟨a,0,none⟩ vl').ownsRow z e 1 v n xs:=by
  intro e v n xs hv he Jq;have hk:=hv.kept hg (da hv H.lines he);exact av hk _ (au hk bV Jq)
 have hlen:=h.WM;refine⟨h.base,?_,?_,fun j hj=> ?_,df H.lets (by decide) (by decide),df H.blocks (by decide) (by decide),h.apart⟩
 ·rw[heap_setCell_same bV];rfl
 ·have:=av h3 (a:=⟨a,0,none⟩) vl' (au h3 bV (by decide));simpa using this
 ·simp at hj;have vD:∀j,RP.line {p with lines:=p.lines++[L]} j=if j<p.lines.length then p.line j else if j=p.lines.length then L else []:=by
   intro j;simp only[RP.line,List.getD_eq_getElem?_getD,List.getElem?_append];split
   ·rfl
   ·split
    ·rename_i h1 h2;subst h2;simp
    ·rw[jG (by simp;omega)];rfl
  rw[vD];by_cases aL:j<us.length
  ·rw[jb (by omega)];have:(us++[u]).getD j undef=us.getD j undef:=by simp[List.getD_eq_getElem?_getD,List.getElem?_append,aL]
   rw[this];exact df (H.each j aL) (by decide) (by decide)
  ·obtain rfl:j=us.length:=by omega
   rw[ja (by omega),jb hlen];have:(us++[u]).getD us.length undef=u:=by simp[List.getD_eq_getElem?_getD]
   rw[this];exact df hua (by decide) (by decide)
end Aux
namespace Aux
open Go Go.RowKit Sq
section
variable {P:Program} {w:World} {ops:Array Oper} {rest:List Oper} {o:Oper} {a:Act} {Q:Exit->Act->World->Prop}
theorem qD (Kk:o.guard=none)(s x:Operand)(t:TypeId)
  (ho:o.op=.call {callee:=.builtin .append,args:= #[s,x],argTypes:= #[t,t]})
  (base:Nat) (e:TypeId) (i:TypeInfo) (z:Value) (bytes:Nat) (ht:P.underlying t=some (.slice e)) (hi:P.info? e=some i) (hz:i.zero=some z)
  (hsize:i.size=1) (hby:i.bytes=bytes) (hzs:z.cells.size=1)
  (v:Value) (n:Nat) (xs:List Value) (hs:a.eval s=v) (js:w.ownsRow base e 1 v n xs)
  (u:Value) (hx:a.eval x=.slice (some ⟨w.heap.size,0,none⟩) 1 1) (h1:u.oneCell'=true)
  (aw:1<=bytes) (hbytes:(n+1)*bytes<=140737488355328) (qP:base<=w.heap.size)
  (h:∀g cap w',w'.ownsRow base e 1 (.slice (some ⟨g,0,none⟩) (n+1) cap) (n+1) (xs++[u])->(w.alloc (.cells #[u] e)).grownBy w' v.ownBlock->(v.ownBlock=some g\/g=w.heap.size+1)->g<w'.heap.size->wpList P ops Q rest (a.put o.dst (.slice (some ⟨g,0,none⟩) (n+1) cap)) w'):wpList P ops Q (o::rest) a (w.alloc (.cells #[u] e)):=by
 refine wpList_append_lies _ Kk s x t ho base e i z 1 bytes ht hi hz hsize hby hzs (by decide) v n xs hs (js.alloc _) ⟨w.heap.size,0,none⟩ 1 1 [u] hx rfl ?_ ?_ (by decide) ?_ hbytes ?_ (w.heap.size+1) (by simp) h
 ·intro j u' hj
  match j,hj with
  |0,hj=>simp at hj;subst hj;simp[Addr.add]
 ·intro u' hu;simp at hu;subst hu;exact h1
 ·have:n+1<=(n+1)*bytes:=Nat.le_mul_of_pos_right _ aw;unfold maxLen;omega
 ·simp;omega
theorem PM {K:Act->World->Prop}{E:Prop}(Kk:o.guard=none)(s x:Operand)(t:TypeId)
  (ho:o.op=.call {callee:=.builtin .append,args:= #[s,x],argTypes:= #[t,t]})
  (base:Nat) (e:TypeId) (i:TypeInfo) (z:Value) (bytes:Nat) (ht:P.underlying t=some (.slice e)) (hi:P.info? e=some i) (hz:i.zero=some z)
  (hsize:i.size=1) (hby:i.bytes=bytes) (hzs:z.cells.size=1)
  (v:Value) (n:Nat) (xs:List Value) (hs:a.eval s=v) (js:w.ownsRow base e 1 v n xs)
  (u:Value) (hx:a.eval x=.slice (some ⟨w.heap.size,0,none⟩) 1 1) (h1:u.oneCell'=true)
  (aw:1<=bytes) (hbytes:(n+1)*bytes<=140737488355328) (qP:base<=w.heap.size)
  (h:∀g cap w',w'.ownsRow base e 1 (.slice (some ⟨g,0,none⟩) (n+1) cap) (n+1) (xs++[u])->(w.alloc (.cells #[u] e)).grownBy w' v.ownBlock->(v.ownBlock=some g\/g=w.heap.size+1)->g<w'.heap.size->K (a.put o.dst (.slice (some ⟨g,0,none⟩) (n+1) cap)) w'):
  if Region.wanted o (yielded ops a.tmps)=true then Oper.wp P o a (w.alloc (.cells #[u] e)) K Q else E:=by
 refine step_append_lies _ Kk s x t ho base e i z 1 bytes ht hi hz hsize hby hzs (by decide) v n xs hs (js.alloc _) ⟨w.heap.size,0,none⟩ 1 1 [u] hx rfl ?_ ?_ (by decide) ?_ hbytes ?_ (w.heap.size+1) (by simp) h
 ·intro j u' hj
  match j,hj with
  |0,hj=>simp at hj;subst hj;simp[Addr.add]
 ·intro u' hu;simp at hu;subst hu;exact h1
 ·have:n+1<=(n+1)*bytes:=Nat.le_mul_of_pos_right _ aw;unfold maxLen;omega
 ·simp;omega
end
section
variable {z a:Nat} {w w3:World} {p:RP} {vl vt vb v':Value} {us:List Value} {o:Obj}
theorem j9.dD (h:j9 z a w p vl vt vb us)(k:Nat)(h3:w3.ownsRow z 3 1 v' (p.lets.length+1) (dH p.lets++[.int .i64 (k:Int)]))(hg:(w.alloc o).grownBy w3 vt.ownBlock)
  (Er:∀g,v'.ownBlock=some g->vt.ownBlock=some g\/g=w.heap.size+1):
  j9 z a (w3.setCell ⟨a,1,none⟩ v') {p with lets:=p.lets++[k]} vl v' vb us:=by
 have lI:Below w.heap.size w (w.alloc o):=(Below.refl _ _).alloc (jC _) o;have H:=h.below lI;have ec:some a≠vt.ownBlock:=(au H.lets H.aJ (by decide)).symm;have bV:w3.heap[a]?=some (.cells #[vl,vt,vb,.bool p.raw] 128 (0,0)):=by rw[hg.block a H.lt ec];exact H.aJ
 have df:∀{e:TypeId} {v:Value} {n:Nat} {xs:List Value},(w.alloc o).ownsRow z e 1 v n xs->(v.ownBlock=none\/v.ownBlock≠vt.ownBlock)->e≠128->(w3.setCell ⟨a,1,none⟩ v').ownsRow z e 1 v n xs:=by
  intro e v n xs hv hn Jq;have hk:=hv.kept hg hn;exact av hk _ (au hk bV Jq)
 refine⟨h.base,?_,df H.lines (da H.lines H.lets (by decide)) (by decide),fun j hj=>df (H.each j hj) (da (H.each j hj) H.lets (by decide)) (by decide),?_,df H.blocks ?_ (by decide),?_⟩
 ·rw[heap_setCell_same bV];rfl
 ·have:=av h3 (a:=⟨a,1,none⟩) v' (au h3 bV (by decide));simpa [dH]using this
 ·rcases h.apart with hx|hx|hx
  ·cases hb:vb.ownBlock with
   |none=>exact .inl rfl
   |some g=>exact .inr (by rw[hx];simp)
  ·exact .inl hx
  ·exact .inr (Ne.symm hx)
 ·cases hv':v'.ownBlock with
  |none=>exact .inl rfl
  |some g=>
   cases hb:vb.ownBlock with
   |none=>exact .inr (.inl rfl)
   |some g'=>
    refine .inr (.inr ?_);rcases Er g hv' with hx|hx
    ·rcases h.apart with hy|hy|hy
     ·rw[hx]at hy;cases hy
     ·rw[hb]at hy;cases hy
     ·rw[hx,hb]at hy;exact hy
    ·have:=LG h.blocks g' hb;simp;omega
theorem j9.addBlock (h:j9 z a w p vl vt vb us)(k:Nat)(h3:w3.ownsRow z 3 1 v' (p.blocks.length+1) (dH p.blocks++[.int .i64 (k:Int)]))(hg:(w.alloc o).grownBy w3 vb.ownBlock)
  (Er:∀g,v'.ownBlock=some g->vb.ownBlock=some g\/g=w.heap.size+1):
  j9 z a (w3.setCell ⟨a,2,none⟩ v') {p with blocks:=p.blocks++[k]} vl vt v' us:=by
 have lI:Below w.heap.size w (w.alloc o):=(Below.refl _ _).alloc (jC _) o;have H:=h.below lI;have ec:some a≠vb.ownBlock:=(au H.blocks H.aJ (by decide)).symm;have bV:w3.heap[a]?=some (.cells #[vl,vt,vb,.bool p.raw] 128 (0,0)):=by rw[hg.block a H.lt ec];exact H.aJ
 have df:∀{e:TypeId} {v:Value} {n:Nat} {xs:List Value},(w.alloc o).ownsRow z e 1 v n xs->(v.ownBlock=none\/v.ownBlock≠vb.ownBlock)->e≠128->(w3.setCell ⟨a,2,none⟩ v').ownsRow z e 1 v n xs:=by
  intro e v n xs hv hn Jq;have hk:=hv.kept hg hn;exact av hk _ (au hk bV Jq)
 refine⟨h.base,?_,df H.lines (da H.lines H.blocks (by decide)) (by decide),fun j hj=>df (H.each j hj) (da (H.each j hj) H.blocks (by decide)) (by decide),df H.lets ?_ (by decide),?_,?_⟩
 ·rw[heap_setCell_same bV];rfl
 ·rcases h.apart with hx|hx|hx
  ·exact .inl hx
  ·cases hb:vt.ownBlock with
   |none=>exact .inl rfl
   |some g=>exact .inr (by rw[hx];simp)
  ·exact .inr hx
 ·have:=av h3 (a:=⟨a,2,none⟩) v' (au h3 bV (by decide));simpa [dH]using this
 ·cases hb:vt.ownBlock with
  |none=>exact .inl rfl
  |some g'=>
   cases hv':v'.ownBlock with
   |none=>exact .inr (.inl rfl)
   |some g=>
    refine .inr (.inr ?_);rcases Er g hv' with hx|hx
    ·rcases h.apart with hy|hy|hy
     ·rw[hb]at hy;cases hy
     ·rw[hx]at hy;cases hy
     ·rw[hx,hb]at hy;exact hy
    ·have:=LG h.lets g' hb;simp;omega
end
end Aux
end Go.Proofs.YtmlgajhhnojdjaaGreatDoor

import Derived.Deep.DeepCutAuto
import Derived.Deep.Light
import Derived.Deep.DeepMust
import Derived.BigQuiet
import Derived.Test.YtmlgajhhnojdjaaGreatDoorRAE
namespace Go.Proofs.YtmlgajhhnojdjaaGreatDoor
namespace RefA
open Go.RowKit Sq
theorem aO {a b:Bool}(h:a=b):Ending.returned (.bool a)=.returned (.bool b):=by rw[h]
theorem Ik (s:ByteArray)(k:Nat)(h:s.toList.take k|>.all lower)(hk:¬k<s.size):isName s.toList=(decide (1<=s.size)&&decide (s.size<=4)):=by
 rw[List.take_of_length_le (by rw[length_toList];omega)]at h;simp[isName,h,length_toList]
theorem zU (s:ByteArray)(k:Nat)(hk:k<s.size)(h:s[k].toNat<97\/122<s[k].toNat):isName s.toList=false:=by
 have hm:s[k]∈s.toList:=by rw[getElem_toList s k hk];exact jL _
 have:s.toList.all lower=false:=by
  rw[List.all_eq_false];exact⟨_,hm,by simp[lower];omega⟩
 simp[isName,this]
theorem M4 (s:ByteArray)(k:Nat)(hk:k<s.size)(h:(s.toList.take k).all lower=true)(h1:(97:Int)<=s[k].toNat)(h2:(s[k].toNat:Int)<=122):(s.toList.take (k+1)).all lower=true:=by
 rw[List.take_add_one,getElem?_toList s k hk,List.all_append,h];simp[lower];omega
set_option maxHeartbeats 400000 in
theorem K8 (s:ByteArray)(w:World)(hs:s.size<=maxLen):
  Calls Tryz.prog 108 #[.string s] w fun e w'=>e=.returned (.bool (isName s.toList))/\w'=w:=by
 unfold maxLen at hs;go_enter Tryz.func108,Tryz.ntmps108
 go_wp2
 go_loop [3] (fun i=>∃k:Nat,k<=s.size/\i=.int .i64 k/\Hid ((s.toList.take k).all lower=true)) (fun i=>s.size-(intOf i).toNat)
 case atStart=>exact⟨0,jQ _,rfl,rfl⟩
 case round=>
  obtain⟨k,hk,rfl,Cl⟩:=hrel;by_cases aK:k<s.size
  ·go_wp2
   ·go_ret
    exact⟨aO (zU s k aK (by omega)).symm,rfl⟩
   ·go_round
    case rel=>exact⟨k+1,by omega,by go_num,M4 s k aK Cl.out (by omega) (by omega)⟩
    case measure=>simp[intOf];omega
   ·go_ret
    exact⟨aO (zU s k aK (by omega)).symm,rfl⟩
  ·go_wp2
   all_goals
    go_ret
    refine⟨aO ?_,rfl⟩;rw[Ik s k Cl.out aK,jX];simp;omega
theorem xX (l:B)(w:World)(h:l.length<=maxLen):
  Calls Tryz.prog 108 #[.string (bs l)] w fun e w'=>e=.returned (.bool (isName l))/\w'=w:=by
 have:=K8 (bs l) w (by rw[dQ];exact h)
 rwa [aD]at this
theorem QS (s:ByteArray)(w:World):
  Calls Tryz.prog 85 #[.string s] w fun e w'=>e=.returned (.bool (ends s.toList))/\w'=w:=by
 go_enter Tryz.func85,Tryz.ntmps85
 go_wp2
 all_goals
  go_ret
  exact⟨aO (by simp[ends, *]),rfl⟩
theorem Ed (l:B)(w:World):
  Calls Tryz.prog 85 #[.string (bs l)] w fun e w'=>e=.returned (.bool (ends l))/\w'=w:=by
 have:=QS (bs l) w
 rwa [aD]at this
theorem oh {a b:ByteArray}(h:a=b):Ending.returned (.string a)=.returned (.string b):=by rw[h]
theorem AA (s:ByteArray)(h:2<s.size)(hd:s[s.size-2].toNat=46):dv s.toList=true:=by
 have h2:s[s.size-2]=46:=UInt8.toNat_inj.mp hd;simp[dv,length_toList,h,getElem?_toList s (s.size-2) (by omega),h2]
theorem lX (s:ByteArray)(h:2<s.size)(hd:¬s[s.size-2].toNat=46):dv s.toList=false:=by
 have h2:¬s[s.size-2]=46:=fun e=>hd (by rw[e];rfl)
 simp[dv,length_toList,getElem?_toList s (s.size-2) (by omega),h2]
theorem vj (s:ByteArray)(h:¬2<s.size):dv s.toList=false:=by
 simp[dv,length_toList,h]
theorem OQ (s:ByteArray)(hd:dv s.toList=true):s.extract 0 (s.size-2)=bs (ai s.toList):=by
 rw[extract_eq];simp[ai,hd,length_toList]
theorem Bj (s:ByteArray)(hd:dv s.toList=false):s=bs (ai s.toList):=by
 simp[ai,hd,xC]
theorem OP (s:ByteArray)(w:World)(hs:s.size<=maxLen):
  Calls Tryz.prog 111 #[.string s] w fun e w'=>e=.returned (.string (bs (ai s.toList)))/\w'=w:=by
 unfold maxLen at hs;go_enter Tryz.func111,Tryz.ntmps111
 go_wp2
 all_goals go_ret
 ·exact⟨oh (OQ s (AA s (by omega) (by simp_all;omega))),rfl⟩
 ·exact⟨oh (Bj s (lX s (by omega) (by simp_all;omega))),rfl⟩
 ·exact⟨oh (Bj s (vj s (by omega))),rfl⟩
theorem zX {k:IntKind}{a b:Int}(h:a=b):Ending.returned (.int k a)=.returned (.int k b):=by rw[h]
theorem Ph (s:ByteArray)(h:2<s.size)(hd:dv s.toList=true):(s[s.size-1].toNat:Int)=(partOf s.toList).toNat:=by
 have h2:=getElem?_toList s (s.size-1) (by omega);have:s.toList.getLastD 0=s[s.size-1]:=by
  rw[List.getLastD_eq_getLast?,List.getLast?_eq_getElem?,length_toList,h2];rfl
 rw[partOf,jb hd,this]
theorem SZ (s:ByteArray)(w:World)(hs:s.size<=maxLen):
  Calls Tryz.prog 159 #[.string s] w fun e w'=>e=.returned (.int .u8 (partOf s.toList).toNat)/\w'=w:=by
 unfold maxLen at hs;go_enter Tryz.func159,Tryz.ntmps159
 go_wp2
 all_goals go_ret
 ·exact⟨zX (Ph s (by omega) (AA s (by omega) (by simp_all;omega))),rfl⟩
 ·refine⟨?_,rfl⟩;rw[partOf,lX s (by omega) (by simp_all;omega)];rfl
 ·refine⟨?_,rfl⟩;rw[partOf,vj s (by omega)];rfl
theorem vQ (l:B)(w:World)(h:l.length<=maxLen):
  Calls Tryz.prog 111 #[.string (bs l)] w fun e w'=>e=.returned (.string (bs (ai l)))/\w'=w:=by
 have:=OP (bs l) w (by rw[dQ];exact h)
 rwa [aD]at this
theorem vW (l:B)(w:World)(h:l.length<=maxLen):
  Calls Tryz.prog 159 #[.string (bs l)] w fun e w'=>e=.returned (.int .u8 (partOf l).toNat)/\w'=w:=by
 have:=SZ (bs l) w (by rw[dQ];exact h)
 rwa [aD]at this
end RefA
namespace RefB
open Go.RowKit Sq RefA
theorem Ln (l:B):(ai l).length<=l.length:=by
 unfold ai;split<;>simp
theorem K9 (l:B)(w:World)(h:l.length<=maxLen):
  Calls Tryz.prog 158 #[.string (bs l)] w fun e w'=>e=.returned (.bool (bW l))/\w'=w:=by
 have hl:=jS (Ln l) h;have h1:=aD l;have h2:=aD (ai l);go_enter Tryz.func158,Tryz.ntmps158
 go_wp2_with (first
  |(go_at_call 111;refine(vQ l _ h).mono ?_;rintro e w' ⟨rfl,rfl⟩)
  |(go_at_call 108;refine(xX _ _ hl).mono ?_;rintro e w' ⟨rfl,rfl⟩)
  |(go_at_call 159;refine(vW l _ h).mono ?_;rintro e w' ⟨rfl,rfl⟩))
 all_goals
  go_ret
  refine⟨aO ?_,rfl⟩;rw[G5,jX];first|(simp[*];done)|(simp[*];omega)|simp_all
end RefB
namespace RefC
open Go.RowKit Sq RefA
theorem kE {o:Option Int}{a:Int}{b:Bool}(h:o.getD 0=a)(h':o.isSome=b):Ending.returned (.tuple #[.int .i64 a,.bool b])=.returned (.tuple #[.int .i64 (o.getD 0),.bool o.isSome]):=by rw[h,h']
theorem Dw (m:Int)(d:ByteArray)(k:Nat)(hk:¬k<d.size):cg m (d.toList.drop k)=some m:=by
 rw[jT (by rw[length_toList];omega)];rfl
theorem Dv (m:Int)(d:ByteArray)(k:Nat)(hk:k<d.size)(h:d[k].toNat<48\/57<d[k].toNat):cg m (d.toList.drop k)=none:=by
 rw[jE (by rw[length_toList];exact hk),<-getElem_toList d k hk,cg,ja];simp[digit];omega
theorem It (m:Int)(d:ByteArray)(k:Nat)(hk:k<d.size)(h:1000000000<10*m+((d[k].toNat:Int)-48)):cg m (d.toList.drop k)=none:=by
 rw[jE (by rw[length_toList];exact hk),<-getElem_toList d k hk,cg];by_cases hd:digit d[k]=true
 ·rw[jb hd,jb h]
 ·rw[ja hd]
theorem SF (m:Int)(d:ByteArray)(k:Nat)(hk:k<d.size)(h1:48<=d[k].toNat)(h2:d[k].toNat<=57)(h:10*m+((d[k].toNat:Int)-48)<=1000000000):cg m (d.toList.drop k)=cg (10*m+((d[k].toNat:Int)-48)) (d.toList.drop (k+1)):=by
 rw[jE (by rw[length_toList];exact hk),<-getElem_toList d k hk,cg,jb,ja (by omega)];simp[digit];omega
theorem rG (s:ByteArray)(h:0<s.size)(h0:s[0].toNat=45):dk s.toList=(s.extract 1 s.size).toList/\signed s.toList=true:=by
 have e:s.toList=s[0]::s.toList.drop 1:=by
  conv=>lhs;rw[<-List.drop_zero (l:=s.toList),jE (by rw[length_toList];exact h),<-getElem_toList s 0 h]
 have h1:s[0]=45:=(kV _ 45 (by omega)).mpr h0;rw[extract_toList];constructor
 ·rw[e,dk,jb h1,List.drop_succ_cons,List.drop_zero,List.take_of_length_le (by simp[length_toList])]
 ·rw[e,signed];simp[h1]
theorem j6 (s:ByteArray)(h:s.size=0\/∃h:0<s.size,¬s[0].toNat=45):dk s.toList=s.toList/\signed s.toList=false:=by
 rcases h with h|⟨h,h0⟩
 ·have:s.toList=[]:=List.eq_nil_of_length_eq_zero (by rw[length_toList];exact h);simp[this,dk,signed]
 ·have e:s.toList=s[0]::s.toList.drop 1:=by
   conv=>lhs;rw[<-List.drop_zero (l:=s.toList),jE (by rw[length_toList];exact h),<-getElem_toList s 0 h]
  have h1:¬s[0]=45:=fun e=>h0 ((kV _ 45 (by omega)).mp e)
  constructor
  ·conv=>lhs;rw[e]
   rw[dk,ja h1,<-e]
  ·rw[e,signed];simp[h1]
theorem y5 (s:ByteArray)(d:ByteArray)(hu:dk s.toList=d.toList)(h:d.size<1\/(∃h:0<d.size,d[0].toNat=48/\¬s.toList=[48])):number s.toList=none:=by
 rw[number,jb];rw[hu,length_toList];rcases h with h|⟨h,h0,h1⟩
 ·exact .inl h
 ·refine .inr ⟨?_,h1⟩;rw[List.head?_eq_getElem?,getElem?_toList d 0 h,(kV d[0] 48 (by omega)).mpr h0];rfl
theorem O7 (s:ByteArray)(d:ByteArray)(hu:dk s.toList=d.toList)(h:0<d.size)(h0:d[0].toNat=48->s.toList=[48]):number s.toList=(cg 0 d.toList).map fun n=>if signed s.toList then-n else n:=by
 rw[number,ja,hu]
 ·cases cg 0 d.toList<;>rfl
 ·rw[hu,length_toList];rintro(h'|⟨h',h2⟩)
  ·omega
  ·rw[List.head?_eq_getElem?,getElem?_toList d 0 h]at h';exact h2 (h0 ((kV d[0] 48 (by omega)).mp (by simpa using h')))
theorem DI (s:ByteArray)(h:s.size=0):signed s.toList=false:=(j6 s (.inl h)).2
theorem yg (s:ByteArray)(h:0<s.size):signed s.toList=decide (s[0].toNat=45):=by
 by_cases h0:s[0].toNat=45
 ·rw[(rG s h h0).2];simp[h0]
 ·rw[(j6 s (.inr ⟨h,h0⟩)).2];simp[h0]
theorem Fk (s:ByteArray)(h:signed s.toList=true):dk s.toList=(s.extract 1 s.size).toList/\0<s.size:=by
 by_cases h0:0<s.size
 ·rw[yg s h0]at h;exact⟨(rG s h0 (by simpa using h)).1,h0⟩
 ·rw[DI s (by omega)]at h;cases h
theorem Jd (s:ByteArray)(h:signed s.toList=false):dk s.toList=s.toList:=by
 by_cases h0:0<s.size
 ·rw[yg s h0]at h;exact(j6 s (.inr ⟨h0,by simpa using h⟩)).1
 ·exact(j6 s (.inl (by omega))).1
set_option maxHeartbeats 1000000 in
theorem ei (s:ByteArray)(w:World)(hs:s.size<=maxLen):
  Calls Tryz.prog 112 #[.string s] w fun e w'=>e=.returned (.tuple #[.int .i64 ((number s.toList).getD 0),.bool (number s.toList).isSome])/\w'=w:=by
 unfold maxLen at hs;go_enter Tryz.func112,Tryz.ntmps112
 go_upto_region 2 with fail
 go_cut [5] (fun ls wc=>wc=w/\ls=.bool (signed s.toList))
 case first=>
  by_cases h0:0<s.size
  ·have hx:Hid (signed s.toList=decide (s[0].toNat=45)):=yg s h0;go_wp2
   go_meet
   case rel=>exact⟨rfl,by rw[hx.out];congr 1;rw[jX];simp;omega⟩
  ·have hx:Hid (signed s.toList=false):=DI s (by omega);go_wp2
   go_meet
   case rel=>exact⟨rfl,by rw[hx.out]⟩
 case rest=>
  obtain⟨rfl,rfl⟩:=hcut;go_upto_if 17 with fail
  go_cut [4] (fun d wc'=>wc'=wc/\∃d':ByteArray,d=.string d'/\d'.size<=9223372036854775807/\Hid (dk s.toList=d'.toList))
  case first=>
   by_cases hg:signed s.toList=true
   ·have hu:=Fk s hg;obtain⟨YW,hu2⟩:=hu;have HU:Hid (dk s.toList=(s.extract 1 s.size).toList):=YW;clear YW;go_wp2
    ·go_meet
     case rel=>exact⟨rfl,_,rfl,by simp;omega,HU⟩
    ·exact absurd hg (by simp[‹signed s.toList=false›])
   ·have HU:Hid (dk s.toList=s.toList):=Jd s (by simpa using hg);go_wp2
    go_meet
    case rel=>exact⟨rfl,_,rfl,by omega,HU⟩
  case rest=>
   obtain⟨rfl,d,rfl,lx,HU⟩:=hcut;by_cases hz:d.size=0
   ·have hn:Hid (number s.toList=none):=y5 s _ HU.out (.inl (by omega));go_wp2
    go_ret2
    exact⟨kE (by rw[hn.out];rfl) (by rw[hn.out];rfl),rfl⟩
   have Ey:0<d.size:=by omega
   clear hz;by_cases hq:d[0].toNat=48/\¬s.toList=[48]
   ·have hn:Hid (number s.toList=none):=y5 s _ HU.out (.inr ⟨by omega,hq⟩);obtain⟨hq1,XT⟩:=hq;have hb:(s.toList==[48])=false:=by simpa using XT
    clear XT;go_wp2
    go_ret2
    exact⟨kE (by rw[hn.out];rfl) (by rw[hn.out];rfl),rfl⟩
   have Hq:d[0].toNat=48->s.toList=[48]:=fun e=>by
    by_cases h':s.toList=[48]
    ·exact h'
    ·exact absurd ⟨e,h'⟩ hq
   clear hq;have hn:Hid (number s.toList=(cg 0 d.toList).map fun n=>if signed s.toList then-n else n):=O7 s _ HU.out (by omega) Hq;go_upto_region 5 with fail
   go_cut [31] (fun b wc'=>wc'=wc/\b=.bool false)
   case first=>
    by_cases hc:d[0].toNat=48
    ·have hb:(s.toList==[48])=true:=by simp[Hq hc]
     clear Hq;go_wp2
     go_meet
     case rel=>exact⟨rfl,by congr 1;simp;omega⟩
    ·clear Hq;go_wp2
     go_meet
     case rel=>exact⟨rfl,by congr 1;simp;omega⟩
   case rest=>
    obtain⟨rfl,rfl⟩:=hcut;clear Hq;go_wp2
    go_loop [6,7] (fun n i=>∃(k:Nat) (m:Int),k<=d.size/\i=.int .i64 k/\n=.int .i64 m/\0<=m/\m<=1000000000/\Hid (cg 0 d.toList=cg m (d.toList.drop k))) (fun _ i=>d.size-(intOf i).toNat)
    case atStart=>exact⟨0,0,jQ _,rfl,rfl,by omega,by omega,rfl⟩
    case round=>
     obtain⟨k,m,hk,rfl,rfl,hm0,YQ,HM⟩:=hrel;by_cases aK:k<d.size
     ·go_wp2
      ·go_ret2
       have hx:number s.toList=none:=by rw[hn.out,HM.out,Dv m _ k aK (by omega)];rfl
       exact⟨kE (by rw[hx];rfl) (by rw[hx];rfl),rfl⟩
      ·go_ret2
       have hx:number s.toList=none:=by rw[hn.out,HM.out,It m _ k aK (by omega)];rfl
       exact⟨kE (by rw[hx];rfl) (by rw[hx];rfl),rfl⟩
      ·go_round
       case rel=>exact⟨k+1,10*m+((d[k].toNat:Int)-48),by omega,by go_num,by go_num,by omega,by omega,by rw[HM.out];exact SF m _ k aK (by omega) (by omega) (by omega)⟩
       case measure=>simp[intOf];omega
      ·go_ret2
       have hx:number s.toList=none:=by rw[hn.out,HM.out,Dv m _ k aK (by omega)];rfl
       exact⟨kE (by rw[hx];rfl) (by rw[hx];rfl),rfl⟩
     ·go_wp2
      ·go_ret2
       have hx:number s.toList=some (-m):=by rw[hn.out,HM.out,Dw m _ k aK,‹signed s.toList=true›];rfl
       exact⟨kE (by rw[hx];rfl) (by rw[hx];rfl),rfl⟩
      ·go_ret2
       have hx:number s.toList=some m:=by rw[hn.out,HM.out,Dw m _ k aK,‹signed s.toList=false›];rfl
       exact⟨kE (by rw[hx];rfl) (by rw[hx];rfl),rfl⟩
theorem x9 (l:B)(w:World)(h:l.length<=maxLen):
  Calls Tryz.prog 112 #[.string (bs l)] w fun e w'=>e=.returned (.tuple #[.int .i64 ((number l).getD 0),.bool (number l).isSome])/\w'=w:=by
 have:=ei (bs l) w (by rw[dQ];exact h)
 rwa [aD]at this
end RefC
namespace RefD
open Go.RowKit Sq RefA RefB RefC
def known:List B:=[[115,101,116],[97,100,100],[115,117,98],[109,117,108],[100,105,118],[105,110],[111,117,116],[101,110,100],[110,101,119],[115,116,111,114,101],[108,111,97,100],[109,111,118,101],[110,111,110,101],[115,111,109,101],[103,111,116,111],[105,102],[109,97,116,99,104],[100,114,111,112],[102,114,101,101],[102,108,97,103],[116,101,115,116]]
theorem VM {a b:ByteArray}{x y:Bool}(h:a=b)(h':x=y):Ending.returned (.tuple #[.string a,.bool x])=.returned (.tuple #[.string b,.bool y]):=by rw[h,h']
theorem JI (l:B)(r:Bool)(h:l∉known):behind l r=([],false):=by
 simp only[known,List.mem_cons,List.not_mem_nil,or_false,not_or]at h;simp[behind,h]
set_option maxHeartbeats 2000000 in
theorem D3 (l:B)(r:Bool)(w:World)(h:l∈known):
  Calls Tryz.prog 87 #[.string (bs l),.bool r] w fun e w'=>e=.returned (.tuple #[.string (bs (behind l r).1),.bool (behind l r).2])/\w'=w:=by
 have ht:=aD l;simp only[known,List.mem_cons,List.not_mem_nil,or_false]at h;rcases h with rfl|rfl|rfl|rfl|rfl|rfl|rfl|rfl|rfl|rfl|rfl|rfl|rfl|rfl|rfl|rfl|rfl|rfl|rfl|rfl|rfl
 all_goals
  go_enter Tryz.func87,Tryz.ntmps87
  go_wp2
  go_ret2
  exact⟨VM (by simp[behind,bs]) (by simp[behind]),rfl⟩
set_option maxHeartbeats 2000000 in
theorem D4 (l:B)(r:Bool)(w:World)(h:l∉known):
  Calls Tryz.prog 87 #[.string (bs l),.bool r] w fun e w'=>e=.returned (.tuple #[.string (bs (behind l r).1),.bool (behind l r).2])/\w'=w:=by
 have ht:=aD l;rw[JI l r h];have h':∀x∈known,(l==x)=false:=fun x hx=>jZ.mpr (fun e=>h (e▸hx))
 clear h;simp only[known,List.forall_mem_cons,List.not_mem_nil,false_implies,implies_true,and_true]at h';obtain⟨h1,h2,h3,h4,h5,h6,h7,h8,h9,V5,oL,cf,En,B5,su,YD,YE,sv,Uy,P5,h21⟩:=h';go_enter Tryz.func87,Tryz.ntmps87
 go_wp2
 go_ret2
 exact⟨rfl,rfl⟩
theorem rR (l:B)(r:Bool)(w:World):
  Calls Tryz.prog 87 #[.string (bs l),.bool r] w fun e w'=>e=.returned (.tuple #[.string (bs (behind l r).1),.bool (behind l r).2])/\w'=w:=by
 by_cases h:l∈known
 ·exact D3 l r w h
 ·exact D4 l r w h
theorem qb (k:UInt8)(n:Nat)(hn:n<256):((k.toNat:Int)==(n:Int))=decide (k=UInt8.ofNat n):=by
 rw[jX,decide_eq_true_eq,kV k n hn];simp;omega
theorem Mm (k:UInt8)(l:B):iB k l=
  if((k.toNat:Int)==105)=true\/((k.toNat:Int)==111)=true then isName l
  else if((k.toNat:Int)==112)=true\/((k.toNat:Int)==109)=true\/((k.toNat:Int)==100)=true then bW l
  else if((k.toNat:Int)==110)=true then(number l).isSome
  else if((k.toNat:Int)==78)=true then(number l).isSome&&decide (0<=(number l).getD 0)
  else if((k.toNat:Int)==102)=true then(number l).isSome&&decide (0<=(number l).getD 0)&&decide ((number l).getD 0<50)
  else(number l).isSome&&(decide ((number l).getD 0=0)||decide ((number l).getD 0=1)):=by
 have e:=fun n hn=>qb k n hn
 have e1:=e 105 (by omega);have e2:=e 111 (by omega);have e3:=e 112 (by omega);have e4:=e 109 (by omega);have e5:=e 100 (by omega);have e6:=e 110 (by omega);have e7:=e 78 (by omega);have e8:=e 102 (by omega);simp only[Int.cast_ofNat_Int]at e1 e2 e3 e4 e5 e6 e7 e8;rw[e1,e2,e3,e4,e5,e6,e7,e8];simp only[decide_eq_true_eq,iB];cases number l<;>rfl
theorem P1 (k:UInt8)(l:B)(w:World)(h:l.length<=maxLen):
  Calls Tryz.prog 109 #[.int .u8 k.toNat,.string (bs l)] w fun e w'=>e=.returned (.bool (iB k l))/\w'=w:=by
 go_enter Tryz.func109,Tryz.ntmps109
 go_wp2_with (first
  |(go_at_call 112;refine(x9 l _ h).mono ?_;rintro e w' ⟨rfl,rfl⟩)
  |(go_at_call 108;refine(xX _ _ h).mono ?_;rintro e w' ⟨rfl,rfl⟩)
  |(go_at_call 158;refine(K9 l _ h).mono ?_;rintro e w' ⟨rfl,rfl⟩))
 all_goals
  go_ret
  refine⟨aO ?_,rfl⟩;go_light
  rw[Mm];first|(simp[*];done)|(simp[*];omega)|(rw[jX];simp[*];done)|(rw[jX];simp[*];omega)
end RefD
namespace RefE
open Go.RowKit Sq RefA Aux
theorem G1:(Tryz.prog.info? 9).map (fun i=>(i.zero,i.size,i.bytes))=some (some (.string ⟨#[]⟩),1,16):=by kernel_rfl
set_option maxRecDepth 20000 in
set_option maxHeartbeats 1000000 in
theorem yh (s:ByteArray)(c:UInt8)(w:World)(hs:s.size<=1099511627776):
  Calls Tryz.prog 67 #[.string s,.int .u8 c.toNat] w fun e w'=>∃v,e=.returned v/\w'.ownsRow w.heap.size 9 1 v (split c s.toList).length (cellsOf (split c s.toList))/\Below w.heap.size w w':=by
 obtain⟨i,hi,A0,Ey,xW⟩:=info_parts G1;have HS:Hid (s.size<=1099511627776):=hs
 replace hs:s.size<=9223372036854775806:=by omega
 go_enter Tryz.func67,Tryz.ntmps67
 go_wp2
 go_loopw [5,6,7] (fun v fr i wr=>∃(k f:Nat) (done:List B),f<=k/\k<=s.size+1/\i=.int .i64 k/\fr=.int .i64 f/\wr.ownsRow w.heap.size 9 1 v done.length (cellsOf done)/\Below w.heap.size w wr/\Hid (k<=s.size->kf c s.toList done f k)/\Hid (k=s.size+1->split c s.toList=done)) (fun _ _ i _=>s.size+1-(intOf i).toNat)
 case atStart=>exact⟨0,0,[],jC _,jQ _,rfl,rfl,World.ownsRow_nil _ _ _ _,Below.refl _ _,fun _=>ET _ _,fun h=>by omega⟩
 case round=>
  obtain⟨k,f,done,hf,hk,rfl,rfl,jr,hb,H1,H2⟩:=hrel;by_cases hle:k<=s.size
  ·have hlen:Hid (done.length<=s.size):=by have:=Cy (H1.out hle);rwa [length_toList]at this
   have lx:=hb.size;by_cases aK:k<s.size
   ·by_cases hc:s[k].toNat=c.toNat
    ·have FB:((s[k].toNat:Int)==(c.toNat:Int))=true:=by simp[hc]
     have HC:Hid (s[k].toNat=c.toNat):=hc;clear hc;go_wp2_with (at_builtin;go_must (refine Ai rfl _ _ 34 rfl w.heap.size 9 i (.string ⟨#[]⟩) 16 Tryz.underlying34 hi A0 Ey xW rfl _ _ _ rfl jr _ rfl rfl (by decide) (by have:=hlen.out;have:=HS.out;omega) lx ?_);intro v' w1 hown' hgrow)
     go_roundw
     case rel=>
      refine⟨k+1,k+1,done++[(s.toList.drop f).take (k-f)],jC _,by omega,by go_num,by go_num,?_,fp hb (jC _) lx jr hgrow,fun _=> ?_,fun h=> ?_⟩
      ·rw[extract_eq]at hown';simpa [cellsOf]using hown'
      ·exact Pj (H1.out hle) (by rw[length_toList];exact aK) (by rw[<-getElem_toList s k aK];exact UInt8.toNat_inj.mp HC.out)
      ·omega
     case measure=>simp[intOf];omega
    ·have FB:((s[k].toNat:Int)==(c.toNat:Int))=false:=by simp;omega
     have HC:Hid (¬s[k].toNat=c.toNat):=hc;clear hc;go_wp2
     go_roundw
     case rel=>
      refine⟨k+1,f,done,by omega,by omega,by go_num,by go_num,jr,hb,fun _=> ?_,fun h=> ?_⟩
      ·exact Pk (H1.out hle) hf (by rw[length_toList];exact aK) (by rw[<-getElem_toList s k aK];exact fun e=>HC.out (by rw[e]))
      ·omega
     case measure=>simp[intOf];omega
   ·obtain rfl:k=s.size:=by omega
    go_wp2_with (at_builtin;refine Ai rfl _ _ 34 rfl w.heap.size 9 i (.string ⟨#[]⟩) 16 Tryz.underlying34 hi A0 Ey xW rfl _ _ _ rfl jr _ rfl rfl (by decide) (by have:=hlen.out;have:=HS.out;omega) lx ?_;intro v' w1 hown' hgrow)
    go_roundw
    case rel=>
     refine⟨s.size+1,s.size+1,done++[(s.toList.drop f).take (s.size-f)],jC _,by omega,by go_num,by go_num,?_,fp hb (jC _) lx jr hgrow,fun _=> ?_,fun h=> ?_⟩
     ·rw[extract_eq]at hown';simpa [cellsOf]using hown'
     ·omega
     ·exact LH (H1.out hle) (length_toList s).symm
    case measure=>simp[intOf]
  ·go_wp2
   go_ret
   have e:=H2.out (by omega);exact⟨_,rfl,by rw[e];exact jr,hb⟩
theorem Tn (l:B)(c:UInt8)(w:World)(h:l.length<=1099511627776):
  Calls Tryz.prog 67 #[.string (bs l),.int .u8 c.toNat] w fun e w'=>∃v,e=.returned v/\w'.ownsRow w.heap.size 9 1 v (split c l).length (cellsOf (split c l))/\Below w.heap.size w w':=by
 have:=yh (bs l) c w (by rw[dQ];exact h)
 rwa [aD]at this
end RefE
namespace RefF
open Go.RowKit Sq RefA Aux
theorem G2 (p:RP)(k:Nat)(hk:k<p.lines.length):p.inside (k+1)=if word (p.line k) 0=aQ then true else if ends (word (p.line k) 0)then false else p.inside k:=by
 unfold RP.inside;rw[List.take_add_one,jB hk];have:p.line k=p.lines[k]:=by simp[RP.line,hk]
 rw[this,Option.toList_some,List.reverse_append,List.reverse_singleton,List.singleton_append,lJ]
set_option maxRecDepth 20000 in
set_option maxHeartbeats 1000000 in
theorem ir (p:RP)(a i:Nat)(w:World)(hp:bd w a p)(cd:p.Ok)(hi:i<=p.lines.length):
  Calls Tryz.prog 69 #[.pointer (some ⟨a,0,none⟩),.int .i64 i] w fun e w'=>e=.returned (.bool (p.inside i))/\∃n,w'=w.drewN n:=by
 have lx:=cd.size;go_enter Tryz.func69,Tryz.ntmps69
 go_wp2
 go_loopw [5] (fun kk wr=>∃k:Nat,k<=i/\kk=.int .i64 ((k:Int)-1)/\Hid (p.inside i=p.inside k)/\∃n,wr=w.drewN n) (fun kk _=>(intOf kk+1).toNat)
 case atStart=>exact⟨i,jC _,by go_num,rfl,0,rfl⟩
 case round=>
  obtain⟨k,hk,rfl,HI,n,rfl⟩:=hrel;by_cases h0:k=0
  ·subst h0;go_wp2
   go_ret
   exact⟨aO (by rw[HI.out];rfl),n,rfl⟩
  ·obtain⟨k,rfl⟩:∃j,k=j+1:=⟨k-1,by omega⟩;have tM:k<p.lines.length:=by omega
   obtain⟨g,cap,gl,dr,ko,vA,mZ,xP,hw⟩:=hp.gG k tM;have tP:=cd.words k tM;have qS:=hw 0 (by omega);have HS:Hid (_=_):=G2 p k tM;go_wp2_with (go_at_call 85;refine(Ed _ _).mono ?_;rintro e w' ⟨rfl,rfl⟩)
   ·go_ret
    exact⟨aO (by rw[HI.out,HS.out,jb (by simpa using‹(word (p.line k) 0==_)=true›)]),n,rfl⟩
   ·go_ret
    exact⟨aO (by rw[HI.out,HS.out,ja (by simpa using‹(word (p.line k) 0==_)=false›),jb ‹_›]),n,rfl⟩
   ·go_roundw
    case rel=>exact⟨k,by omega,rfl,by rw[HI.out,HS.out,ja (by simpa using‹(word (p.line k) 0==_)=false›),ja (by simp[*])];rfl,n,rfl⟩
    case measure=>simp[intOf]
end RefF
namespace RefG
open Go.RowKit Sq RefA Aux
theorem NX (p:RP)(name:B)(k:Nat)(hk:k<p.lets.length):p.jh name (p.lets.drop k) k=if word (p.line (p.lets.getD k 0)) 1=name then(k:Int)else p.jh name (p.lets.drop (k+1)) (k+1):=by
 rw[jE hk,RP.jh];have:p.lets.getD k 0=p.lets[k]:=by simp[hk]
 rw[this]
set_option maxRecDepth 20000 in
set_option maxHeartbeats 1000000 in
theorem mh (p:RP)(a:Nat)(name:B)(w:World)(hp:bd w a p)(cd:p.Ok):
  Calls Tryz.prog 110 #[.pointer (some ⟨a,0,none⟩),.string (bs name)] w fun e w'=>e=.returned (.int .i64 (p.find name))/\∃n,w'=w.drewN n:=by
 have lx:=cd.size;have kZ:=cd.Hy;obtain⟨bl,cl,hlen⟩:=hp.q8;go_enter Tryz.func110,Tryz.ntmps110
 go_wp2
 go_loopw [5] (fun kk wr=>∃k:Nat,k<=p.lets.length/\kk=.int .i64 k/\Hid (p.find name=p.jh name (p.lets.drop k) k)/\∃n,wr=w.drewN n) (fun kk _=>p.lets.length-(intOf kk).toNat)
 case atStart=>exact⟨0,jQ _,rfl,rfl,0,rfl⟩
 case round=>
  obtain⟨k,hk,rfl,HI,n,rfl⟩:=hrel;by_cases aK:k<p.lets.length
  ·clear hlen;obtain⟨gt,ct,ht1,ht1',X2⟩:=hp.EJ k aK;have xT:p.lets.getD k 0∈p.lets:=by simp[aK]
   obtain⟨tm,Dg⟩:=cd.lets _ xT;have HS:Hid (_=_):=NX p name k aK;generalize p.lets.getD k 0=t at*;obtain⟨g,cap,gl,dr,ko,vA,mZ,xP,hw⟩:=hp.gG t tm;have tP:=hw 1 (by omega);have tO:(t:Int)<p.lines.length:=by omega
   have ht3:(1:Int)<(p.line t).length:=by omega
   go_wp2
   go_quiet (fail)
   go_wp2
   ·go_ret
    refine⟨zX ?_,n+nq,by simp⟩;rw[HI.out,HS.out,jb (by simpa using‹(word (p.line t) 1==name)=true›)]
   ·go_roundw
    case rel=>exact⟨k+1,by omega,by go_num,by rw[HI.out,HS.out,ja (by simpa using‹(word (p.line t) 1==name)=false›)];rfl,n+nq,rfl⟩
    case measure=>simp[intOf];omega
  ·go_wp2
   go_ret
   refine⟨zX ?_,n,rfl⟩;rw[HI.out,jT (by omega)];rfl
end RefG
namespace RefH
open Go.RowKit Sq RefA RefB RefG Aux
theorem qb (k:UInt8)(n:Nat)(hn:n<256):((k.toNat:Int)==(n:Int))=decide (k=UInt8.ofNat n):=by
 rw[jX,decide_eq_true_eq,kV k n hn];simp;omega
theorem Mf (p:RP)(l:B):p.typeOf l=
  if(((partOf l).toNat:Int)==97)=true\/(((partOf l).toNat:Int)==98)=true then(if(!(p.j5 l==[112,97,105,114]))=true then []else [98,111,120])
  else if(((partOf l).toNat:Int)==115)=true then(if(!(p.j5 l==[111,112,116]))=true then []else [98,111,120])else p.j5 l:=by
 have e1:=qb (partOf l) 97 (by omega);have e2:=qb (partOf l) 98 (by omega);have e3:=qb (partOf l) 115 (by omega);simp only[Int.cast_ofNat_Int]at e1 e2 e3;rw[e1,e2,e3];simp only[decide_eq_true_eq,RP.typeOf,cj,eG,kz,Bool.not_eq_true',beq_eq_false_iff_ne,ne_eq,ite_not];rfl
set_option maxRecDepth 20000 in
set_option maxHeartbeats 1000000 in
theorem iA (p:RP)(a:Nat)(l:B)(w:World)(hp:bd w a p)(cd:p.Ok)(hl:l.length<=maxLen)(hf:0<=p.find (ai l)):
  Calls Tryz.prog 113 #[.pointer (some ⟨a,0,none⟩),.string (bs l)] w fun e w'=>e=.returned (.string (bs (p.typeOf l)))/\∃n,w'=w.drewN n:=by
 obtain⟨j,hj,ot,_⟩:=RP.ez hf;have HT:Hid (p.j5 l=word (p.line (p.lets.getD j 0)) 2):=by unfold Hid RP.j5;rw[hj];rfl
 have lx:=cd.size;have kZ:=cd.Hy;obtain⟨gt,ct,ht1,ht1',X2⟩:=hp.EJ j ot;have xT:p.lets.getD j 0∈p.lets:=by simp[ot]
 obtain⟨tm,Dg⟩:=cd.lets _ xT;generalize p.lets.getD j 0=t at*;obtain⟨g,cap,gl,dr,ko,vA,mZ,xP,hw⟩:=hp.gG t tm;have tP:=hw 2 (by omega);have tO:(t:Int)<p.lines.length:=by omega
 have ht3:(2:Int)<(p.line t).length:=by omega
 have hj0:(j:Int)<p.lets.length:=by omega
 have HF:∀n,Calls Tryz.prog 110 #[.pointer (some ⟨a,0,none⟩),.string (bs (ai l))] (w.drewN n) fun e w'=>e=.returned (.int .i64 j)/\∃m,w'=w.drewN m:=fun n=>
  (mh p a (ai l) (w.drewN n) (hp.drewN n) cd).mono fun e w' ⟨he,m,hm⟩=>⟨by rw[he,hj],n+m,by rw[hm];simp⟩
 clear hj hf;go_enter Tryz.func113,Tryz.ntmps113
 go_wp2
 go_quiet ((first|(go_at_call 111;exact Calls.quiet_of_same (vQ l _ hl))|(go_at_call 110;exact HF _)))
 go_wp2_with (go_at_call 159;refine(vW l _ hl).mono ?_;rintro e w' ⟨rfl,rfl⟩)
 all_goals
  go_ret
  refine⟨oh ?_,_,rfl⟩;go_light
  rw[Mf,HT.out];simp[bs, *]
end RefH
namespace RefO
open Go.RowKit Sq RefA RefG RefH Aux
theorem zQ (l:B)(w:World)(h:l.length<=maxLen):
  Calls Tryz.prog 140 #[.string (bs l)] w fun e w'=>e=.returned (.string (bs (left l)))/\w'=w:=by
 have e3:=qb (partOf l) 115 (by omega);simp only[Int.cast_ofNat_Int]at e3;have HE:Hid (_=_):=e3;clear e3;go_enter Tryz.func140,Tryz.ntmps140
 go_wp2_with (go_at_call 159;refine(vW l _ h).mono ?_;rintro e w' ⟨rfl,rfl⟩)
 all_goals
  go_ret
  refine⟨oh ?_,rfl⟩;have hE:=HE.out
  simp_all [left,bs]
theorem F3 (w:World)(c:UInt8):(convert 93 9 (.slice (some ⟨w.heap.size,0,none⟩) 1 1)).run Tryz.prog (w.alloc (.cells #[.int .u8 (c.toNat:Int)] 5))=.ok (.string (bs [c])) (w.alloc (.cells #[.int .u8 (c.toNat:Int)] 5)):=by
 rw[run_convert_bytes_string (e:=5) _ _ _ _ _ _ Tryz.underlying93 Tryz.underlying5 Tryz.underlying9];rw[run_bytesToString (P:=Tryz.prog) _ ⟨w.heap.size,0,none⟩ 1 1 [(c.toNat:Int)] (by go_simp)];simp[bs];rfl
theorem SD (s:ByteArray)(c:UInt8)(k:Nat)(hk:k<s.size)(h:c∉s.toList.take k)(hc:¬s[k].toNat=c.toNat):c∉s.toList.take (k+1):=by
 rw[List.take_add_one,getElem?_toList s k hk];simp only[Option.toList_some,List.mem_append,List.mem_singleton,not_or];exact⟨h,fun e=>hc (by rw[e])⟩
theorem VW (s:ByteArray)(c:UInt8)(k:Nat)(hk:k<s.size)(hc:s[k].toNat=c.toNat):fS s.toList c=s.toList:=by
 rw[fS,jb];have:s[k]=c:=UInt8.toNat_inj.mp hc;rw[<-this,getElem_toList s k hk];exact jL _
theorem TL (s:ByteArray)(c:UInt8)(k:Nat)(hk:¬k<s.size)(h:c∉s.toList.take k):fS s.toList c=s.toList++[c]:=by
 rw[fS,ja]
 rwa [List.take_of_length_le (by rw[length_toList];omega)]at h
set_option maxRecDepth 20000 in
set_option maxHeartbeats 1000000 in
theorem TK (s:ByteArray)(c:UInt8)(w:World)(hs:s.size<=1000):
  Calls Tryz.prog 142 #[.string s,.int .u8 c.toNat] w fun e w'=>e=.returned (.string (bs (fS s.toList c)))/\Below w.heap.size w w':=by
 go_enter Tryz.func142,Tryz.ntmps142
 go_wp2
 go_loopg [5] (s.size) (fun gk i wr=>∃k:Nat,k<=s.size/\gk+k=s.size/\i=.int .i64 k/\wr=w/\Hid (c∉s.toList.take k))
 case atStart=>exact⟨0,jQ _,rfl,rfl,rfl,by simp[Hid]⟩
 case round=>
  obtain⟨k,hk,GH,rfl,rfl,HM⟩:=hrel;by_cases aK:k<s.size
  ·by_cases hc:s[k].toNat=c.toNat
   ·have FB:((s[k].toNat:Int)==(c.toNat:Int))=true:=by simp[hc]
    have HC:Hid (s[k].toNat=c.toNat):=hc;clear hc;go_wp2
    go_ret
    exact⟨oh (by rw[VW s c k aK HC.out,xC]),Below.refl _ _⟩
   ·have FB:((s[k].toNat:Int)==(c.toNat:Int))=false:=by simp;omega
    have HC:Hid (¬s[k].toNat=c.toNat):=hc;clear hc;go_wp2
    go_roundg (s.size-(k+1))
    case rel=>exact⟨k+1,by omega,by omega,by go_num,rfl,SD s c k aK HM.out HC.out⟩
    case measure=>omega
  ·have kc:=F3 wr c;have hx:=TL s c k aK HM.out;go_wp2
   go_ret
   refine⟨oh ?_,(Below.refl _ _).alloc (jC _) _⟩;rw[hx];apply AE
   rw[eI,aD]
theorem Qt (s:ByteArray)(f:UInt8->Bool)(k:Nat)(hk:k<s.size)(h:(s.toList.take k).all f=true)(hc:f s[k]=true):(s.toList.take (k+1)).all f=true:=by
 rw[List.take_add_one,getElem?_toList s k hk,List.all_append,h];simpa using hc
theorem SJ (s t:ByteArray)(k:Nat)(hk:¬k<s.size)(h:(s.toList.take k).all (fun c=>has t.toList c)=true):only s.toList t.toList=true:=by
 rwa [List.take_of_length_le (by rw[length_toList];omega)]at h
theorem Vz (s t:ByteArray)(k:Nat)(hk:k<s.size)(hc:has t.toList s[k]=false):only s.toList t.toList=false:=by
 rw[only,List.all_eq_false];exact⟨s[k],by rw[getElem_toList s k hk];exact jL _,by rw[hc];decide⟩
theorem Rg (t:ByteArray)(c:UInt8)(j:Nat)(hj:j<t.size):has (t.toList.take (j+1)) c=(has (t.toList.take j) c||((t[j].toNat:Int)==(c.toNat:Int))):=by
 rw[List.take_add_one,getElem?_toList t j hj];have e:((t[j].toNat:Int)==(c.toNat:Int))=(t[j]==c):=by
  rw[jX];simp[<-UInt8.toNat_inj];omega
 rw[e,jX];simp only[has,Option.toList_some,List.contains_iff_mem,List.mem_append,List.mem_singleton,Bool.or_eq_true,beq_iff_eq];exact⟨fun h=>h.imp id Eq.symm,fun h=>h.imp id Eq.symm⟩
theorem UG (t:ByteArray)(c:UInt8)(j:Nat)(hj:¬j<t.size):has (t.toList.take j) c=has t.toList c:=by
 rw[List.take_of_length_le (by rw[length_toList];omega)]
set_option maxRecDepth 20000 in
set_option maxHeartbeats 1000000 in
theorem Iv (s t:ByteArray)(w:World)(hs:s.size<=1000)(ht:t.size<=1000):
  Calls Tryz.prog 186 #[.string s,.string t] w fun e w'=>e=.returned (.bool (only s.toList t.toList))/\∃n,w'=w.drewN n:=by
 go_enter Tryz.func186,Tryz.ntmps186
 go_wp2
 go_loopg [5] (s.size) (fun gk i wr=>∃k n:Nat,k<=s.size/\gk+k=s.size/\i=.int .i64 k/\wr=w.drewN n/\Hid ((s.toList.take k).all (fun c=>has t.toList c)=true))
 case atStart=>exact⟨0,0,jQ _,rfl,rfl,rfl,rfl⟩
 case round=>
  obtain⟨k,n,hk,GH,rfl,rfl,HM⟩:=hrel;by_cases aK:k<s.size
  ·go_wp2
   go_loopg [6,7] (t.size) (fun gj b i wr=>∃j m:Nat,j<=t.size/\gj+j=t.size/\i=.int .i64 j/\wr=w.drewN m/\b=.bool (has (t.toList.take j) s[k]))
   case atStart=>exact⟨0,n,jQ _,rfl,rfl,rfl,by simp[has]⟩
   case round=>
    obtain⟨j,m,hj,hgj,rfl,rfl,rfl⟩:=hrel;by_cases hjt:j<t.size
    ·have HS:Hid (_=_):=Rg t s[k] j hjt;cases hb:has (t.toList.take j) s[k]
     all_goals
      have HB:Hid (_=_):=hb;clear hb;go_wp2
      go_quiet (fail)
      go_wp2
      go_roundg (t.size-(j+1))
      case rel=>exact⟨j+1,m+nq,by omega,by omega,by go_num,by simp,by rw[HS.out,HB.out];rfl⟩
      case measure=>omega
    ·have HE:Hid (_=_):=UG t s[k] j hjt;cases hb:has (t.toList.take j) s[k]
     ·have HX:Hid (has t.toList s[k]=false):=by unfold Hid;rw[<-HE.out,hb]
      clear hb;go_wp2
      go_ret
      exact⟨aO (Vz s t k aK HX.out).symm,m,rfl⟩
     ·have HX:Hid (has t.toList s[k]=true):=by unfold Hid;rw[<-HE.out,hb]
      clear hb;go_wp2
      go_roundg (s.size-(k+1))
      case rel=>exact⟨k+1,m,by omega,by omega,by go_num,rfl,Qt s (fun c=>has t.toList c) k aK HM.out HX.out⟩
      case measure=>omega
  ·go_wp2
   go_ret
   exact⟨aO (SJ s t k aK HM.out).symm,n,rfl⟩
end RefO
namespace RefP
open Go.RowKit Sq RefA RefC RefG RefH RefO Aux
theorem E3 {a b c d:Int}(h:a=c)(h':b=d):Ending.returned (.tuple #[.int .i64 a,.int .i64 b])=.returned (.tuple #[.int .i64 c,.int .i64 d]):=by rw[h,h']
set_option maxRecDepth 20000 in
set_option maxHeartbeats 1000000 in
theorem ku (p:RP)(a:Nat)(l:B)(w:World)(hp:bd w a p)(cd:p.Ok)(hl:l.length<=maxLen)(hf:0<=p.find (ai l)):
  Calls Tryz.prog 143 #[.pointer (some ⟨a,0,none⟩),.string (bs l)] w fun e w'=>e=.returned (.tuple #[.int .i64 ((p.aj l).1:Int),.int .i64 ((p.aj l).2:Int)])/\∃n,w'=w.drewN n:=by
 obtain⟨j,hj,ot,_⟩:=RP.ez hf;have kZ:=cd.Hy;have HF:∀n,Calls Tryz.prog 110 #[.pointer (some ⟨a,0,none⟩),.string (bs (ai l))] (w.drewN n) fun e w'=>e=.returned (.int .i64 j)/\∃m,w'=w.drewN m:=fun n=>
  (mh p a (ai l) (w.drewN n) (hp.drewN n) cd).mono fun e w' ⟨he,m,hm⟩=>⟨by rw[he,hj],n+m,by rw[hm];simp⟩
 have HT:∀n,Calls Tryz.prog 113 #[.pointer (some ⟨a,0,none⟩),.string (bs l)] (w.drewN n) fun e w'=>e=.returned (.string (bs (p.typeOf l)))/\∃m,w'=w.drewN m:=fun n=>
  (iA p a l (w.drewN n) (hp.drewN n) cd hl hf).mono fun e w' ⟨he,m,hm⟩=>⟨he,n+m,by rw[hm];simp⟩
 have HS:Hid (p.aj l=if partOf l=98 then(2*j+1,1)else if p.typeOf l=cj then(2*j,2)else(2*j,1)):=by unfold Hid RP.aj;rw[hj];rfl
 have e2:=qb (partOf l) 98 (by omega);simp only[Int.cast_ofNat_Int]at e2;have HE:Hid (_=_):=e2;clear hj hf e2;obtain⟨w0,rfl⟩:∃w0:World,w=w0.drewN 0:=⟨w,rfl⟩;go_enter Tryz.func143,Tryz.ntmps143
 go_wp2_with (first
  |(go_at_call 111;refine(vQ l _ hl).mono ?_;rintro e w' ⟨rfl,rfl⟩)
  |(go_at_call 110;refine(HF _).mono ?_;rintro e w' ⟨rfl,n1,rfl⟩)
  |(go_at_call 159;refine(vW l _ hl).mono ?_;rintro e w' ⟨rfl,rfl⟩)
  |(go_at_call 113;refine(HT _).mono ?_;rintro e w' ⟨rfl,n2,rfl⟩))
 ·go_ret2
  have hx:partOf l=98:=by have h1:=HE.out;rw[‹(((partOf l).toNat:Int)==98)=true›]at h1;simpa using h1.symm
  exact⟨E3 (by rw[HS.out,jb hx];rfl) (by rw[HS.out,jb hx];rfl),n1,by simp⟩
 ·go_ret2
  have hx:¬partOf l=98:=by have h1:=HE.out;rw[‹(((partOf l).toNat:Int)==98)=false›]at h1;simpa using h1.symm
  have hy:p.typeOf l=cj:=by simpa [cj]using‹(p.typeOf l==_)=true›
  exact⟨E3 (by rw[HS.out,ja hx,jb hy];rfl) (by rw[HS.out,ja hx,jb hy];rfl),n2,by simp⟩
 ·go_ret2
  have hx:¬partOf l=98:=by have h1:=HE.out;rw[‹(((partOf l).toNat:Int)==98)=false›]at h1;simpa using h1.symm
  have hy:¬p.typeOf l=cj:=by simpa [cj]using‹(p.typeOf l==_)=false›
  exact⟨E3 (by rw[HS.out,ja hx,ja hy];rfl) (by rw[HS.out,ja hx,ja hy];rfl),n2,by simp⟩
set_option maxRecDepth 20000 in
set_option maxHeartbeats 1000000 in
theorem CU (p:RP)(a:Nat)(l:B)(n:Nat)(w:World)(hp:bd w a p)(cd:p.Ok)(hl:l.length<=maxLen)(hn:number l=some (n:Int))(hb:n<p.blocks.length):
  Calls Tryz.prog 89 #[.pointer (some ⟨a,0,none⟩),.string (bs l)] w fun e w'=>e=.returned (.int .i64 (p.blocks.getD n 0))/\∃m,w'=w.drewN m:=by
 obtain⟨g,c,h1,TN,h2⟩:=hp.An n hb;have Dd:=cd.s9;have HN:=x9 l w hl;rw[hn]at HN;have fB:(n:Int)<p.blocks.length:=by omega
 clear hn;go_enter Tryz.func89,Tryz.ntmps89
 go_wp2_with (go_at_call 112;refine HN.mono ?_;rintro e w' ⟨rfl,rfl⟩)
 go_ret
 exact⟨zX (by simp[hb]),0,rfl⟩
end RefP
namespace RefQ
open Go.RowKit Sq RefA RefC RefG RefH RefO RefP Aux
set_option maxRecDepth 20000 in
set_option maxHeartbeats 1000000 in
theorem iJ (p:RP)(a:Nat)(s:WS)(l:B)(w:World)(hp:bd w a p)(cd:p.Ok)(hs:s.Ok)(hl:l.length<=maxLen)(hf:0<=p.find (ai l))(cf:p.lets.length<=12):
  Calls Tryz.prog 138 #[.pointer (some ⟨a,0,none⟩),s.val,.string (bs l)] w fun e w'=>e=.returned (.bool (p.there s l))/\Below w.heap.size w w':=by
 obtain⟨j,hj,ot,_⟩:=RP.ez hf;obtain⟨av,bT⟩:=RP.gq hj;have hW:Below w.heap.size w (w.alloc (.cells s.cells.toArray 155)):=(Below.refl _ _).alloc (jC _) _;have yQ:=hp.below hW;have HC:Hid (∀k,k<24->(w.alloc (.cells s.cells.toArray 155)).cell? ⟨w.heap.size,1+k,none⟩=some (.string (bs (s.at k)))):=fun k hk=>by
  have:=WS.FV hs k hk;rw[cell_of_heap (cs:=s.cells.toArray) (e:=155) (f:=(0,0)) (by show(w.heap.push _)[w.heap.size]?=_;simp)];simpa using this
 have HT:∀n,Calls Tryz.prog 113 #[.pointer (some ⟨a,0,none⟩),.string (bs l)] ((w.alloc (.cells s.cells.toArray 155)).drewN n) fun e w'=>e=.returned (.string (bs (p.typeOf l)))/\∃m,w'=(w.alloc (.cells s.cells.toArray 155)).drewN m:=fun n=>
  (iA p a l _ (yQ.drewN n) cd hl hf).mono fun e w' ⟨he,m,hm⟩=>⟨he,n+m,by rw[hm];simp⟩
 have Qe:∀n,Calls Tryz.prog 143 #[.pointer (some ⟨a,0,none⟩),.string (bs l)] ((w.alloc (.cells s.cells.toArray 155)).drewN n) fun e w'=>e=.returned (.tuple #[.int .i64 ((p.aj l).1:Int),.int .i64 ((p.aj l).2:Int)])/\∃m,w'=(w.alloc (.cells s.cells.toArray 155)).drewN m:=fun n=>
  (ku p a l _ (yQ.drewN n) cd hl hf).mono fun e w' ⟨he,m,hm⟩=>⟨he,n+m,by rw[hm];simp⟩
 have HTh:Hid (p.there s l=dR s (p.some l) ((p.aj l).1+(p.aj l).2-(p.aj l).1) (p.aj l).1):=by unfold Hid RP.there;rw[Nat.add_sub_cancel_left]
 have xQ:=hs.fc;have AZ:(bs (p.some l)).size<=1000:=by rw[dQ];unfold RP.some;split<;>simp
 have HSM:Hid (p.some l=if p.typeOf l=eG then [110,119]else [119]):=rfl;have Zk:(p.aj l).1+(p.aj l).2<=24:=by omega
 unfold WS.val;clear hf hj av ot;go_enter Tryz.func138,Tryz.ntmps138
 go_wp2_with fail
 refine(HT 0).mono ?_;rintro e w' ⟨rfl,n1,rfl⟩;have hbw:∀n,Below w.heap.size w ((w.alloc (.cells s.cells.toArray 155)).drewN n):=fun n=>below_drewN hW n
 have Er:∀k,k<24->(w.alloc (.cells s.cells.toArray 155)).cell? ⟨w.heap.size,1+k,none⟩=some (.string (bs (s.at k))):=HC.out;clear HC HT hW yQ hp;generalize w.alloc (.cells s.cells.toArray 155)=W at*;go_upto_if 17 with fail
 go_cut [8] (fun v wc=>wc=W.drewN n1/\v=.string (bs (p.some l)))
 case first=>
  go_wp2
  ·go_meet
   case rel=>exact⟨rfl,by rw[HSM.out,jb (by simpa [eG]using‹(p.typeOf l==_)=true›)];rfl⟩
  ·go_meet
   case rel=>exact⟨rfl,by rw[HSM.out,ja (by simpa [eG]using‹(p.typeOf l==_)=false›)];rfl⟩
 case rest=>
  obtain⟨rfl,rfl⟩:=hcut;go_wp2_with (go_at_call 143;refine(Qe _).mono ?_;rintro e w' ⟨rfl,n2,rfl⟩)
  clear Qe;generalize (p.aj l).1=i0 at*;generalize (p.aj l).2=m0 at*;go_loopg [11] (m0) (fun gk i wr=>∃k n:Nat,k<=i0+m0/\gk+k=i0+m0/\i=.int .i64 k/\wr=W.drewN n/\Hid (p.there s l=dR s (p.some l) (i0+m0-k) k))
  case atStart=>exact⟨i0,n2,by omega,by omega,rfl,rfl,HTh⟩
  case round=>
   obtain⟨k,n,hk,GH,rfl,rfl,HI⟩:=hrel;by_cases aK:k<i0+m0
   ·have HS:Hid (_=_):=Ff s (p.some l) i0 m0 k aK;have TW:=Er k (by omega);have zl:(k:Int)<24:=by omega
    have HO:=Iv (bs (s.at k)) (bs (p.some l)) (W.drewN n) (by rw[dQ];exact xQ k) AZ;rw[aD,aD]at HO;clear Er;cases ho:only (s.at k) (p.some l)
    ·rw[ho]at HO;have hx:p.there s l=false:=by rw[HI.out,HS.out,ho];rfl
     clear ho;go_wp2_with (go_at_call 186;refine HO.mono ?_;rintro e w' ⟨rfl,n3,rfl⟩)
     go_ret
     exact⟨aO hx.symm,hbw _⟩
    ·rw[ho]at HO;have hx:Hid (dR s (p.some l) (i0+m0-k) k=dR s (p.some l) (i0+m0-(k+1)) (k+1)):=by unfold Hid;rw[HS.out,ho];rfl
     clear ho;go_wp2_with (go_at_call 186;refine HO.mono ?_;rintro e w' ⟨rfl,n3,rfl⟩)
     go_roundg (i0+m0-(k+1))
     case rel=>exact⟨k+1,n+n3,by omega,by omega,by go_num,by simp,by rw[HI.out,hx.out];rfl⟩
     case measure=>omega
   ·have hx:p.there s l=true:=by rw[HI.out,show i0+m0-k=0 by omega];rfl
    go_wp2
    go_ret
    exact⟨aO hx.symm,hbw _⟩
end RefQ
end Go.Proofs.YtmlgajhhnojdjaaGreatDoor

import Derived.Test.YtmlgajhhnojdjaaGreatDoorRAP
import Derived.Deep.RegionHeld3
namespace Go.Proofs.YtmlgajhhnojdjaaGreatDoor
namespace RefO
open Go.RowKit Sq RefA RefG RefH Aux
theorem zR (l:B)(w:World)(h:l.length<=maxLen):
  Calls Tryz.prog 140 #[.string (bs l)] w fun e w'=>e=.returned (.string (bs (left l)))/\w'=w:=by
 have e3:=qc (partOf l) 115 (by omega);simp only[Int.cast_ofNat_Int]at e3;have HE:Hid (_=_):=e3;clear e3;go_enter Tryz.func140,Tryz.ntmps140
 go_wp2_with (go_at_call 159;refine(vX l _ h).mono ?_;rintro e w' ⟨rfl,rfl⟩)
 all_goals
  go_ret
  refine⟨oi ?_,rfl⟩;have hE:=HE.out
  simp_all [left,bs]
theorem F4 (w:World)(c:UInt8):(convert 93 9 (.slice (some ⟨w.heap.size,0,none⟩) 1 1)).run Tryz.prog (w.alloc (.cells #[.int .u8 (c.toNat:Int)] 5))=.ok (.string (bs [c])) (w.alloc (.cells #[.int .u8 (c.toNat:Int)] 5)):=by
 rw[run_convert_bytes_string (e:=5) _ _ _ _ _ _ Tryz.underlying93 Tryz.underlying5 Tryz.underlying9];rw[run_bytesToString (P:=Tryz.prog) _ ⟨w.heap.size,0,none⟩ 1 1 [(c.toNat:Int)] (by go_simp)];simp[bs];rfl
theorem SE (s:ByteArray)(c:UInt8)(k:Nat)(hk:k<s.size)(h:c∉s.toList.take k)(hc:¬s[k].toNat=c.toNat):c∉s.toList.take (k+1):=by
 rw[List.take_add_one,getElem?_toList s k hk];simp only[Option.toList_some,List.mem_append,List.mem_singleton,not_or];exact⟨h,fun e=>hc (by rw[e])⟩
theorem VX (s:ByteArray)(c:UInt8)(k:Nat)(hk:k<s.size)(hc:s[k].toNat=c.toNat):fT s.toList c=s.toList:=by
 rw[fT,jb];have:s[k]=c:=UInt8.toNat_inj.mp hc;rw[<-this,getElem_toList s k hk];exact jL _
theorem TM (s:ByteArray)(c:UInt8)(k:Nat)(hk:¬k<s.size)(h:c∉s.toList.take k):fT s.toList c=s.toList++[c]:=by
 rw[fT,ja]
 rwa [List.take_of_length_le (by rw[length_toList];omega)]at h
set_option maxRecDepth 20000 in
set_option maxHeartbeats 1000000 in
theorem TL (s:ByteArray)(c:UInt8)(w:World)(hs:s.size<=1000):
  Calls Tryz.prog 142 #[.string s,.int .u8 c.toNat] w fun e w'=>e=.returned (.string (bs (fT s.toList c)))/\Below w.heap.size w w':=by
 go_enter Tryz.func142,Tryz.ntmps142
 go_wp2
 go_loopg [5] (s.size) (fun gk i wr=>∃k:Nat,k<=s.size/\gk+k=s.size/\i=.int .i64 k/\wr=w/\Hid (c∉s.toList.take k))
 case atStart=>exact⟨0,jQ _,rfl,rfl,rfl,by simp[Hid]⟩
 case round=>
  obtain⟨k,hk,GI,rfl,rfl,HM⟩:=hrel;by_cases aL:k<s.size
  ·by_cases hc:s[k].toNat=c.toNat
   ·have FC:((s[k].toNat:Int)==(c.toNat:Int))=true:=by simp[hc]
    have HC:Hid (s[k].toNat=c.toNat):=hc;clear hc;go_wp2
    go_ret
    exact⟨oi (by rw[VX s c k aL HC.out,xD]),Below.refl _ _⟩
   ·have FC:((s[k].toNat:Int)==(c.toNat:Int))=false:=by simp;omega
    have HC:Hid (¬s[k].toNat=c.toNat):=hc;clear hc;go_wp2
    go_roundg (s.size-(k+1))
    case rel=>exact⟨k+1,by omega,by omega,by go_num,rfl,SE s c k aL HM.out HC.out⟩
    case measure=>omega
  ·have kc:=F4 wr c;have hx:=TM s c k aL HM.out;go_wp2
   go_ret
   refine⟨oi ?_,(Below.refl _ _).alloc (jC _) _⟩;rw[hx];apply AF
   rw[eJ,aE]
theorem Qu (s:ByteArray)(f:UInt8->Bool)(k:Nat)(hk:k<s.size)(h:(s.toList.take k).all f=true)(hc:f s[k]=true):(s.toList.take (k+1)).all f=true:=by
 rw[List.take_add_one,getElem?_toList s k hk,List.all_append,h];simpa using hc
theorem SK (s t:ByteArray)(k:Nat)(hk:¬k<s.size)(h:(s.toList.take k).all (fun c=>has t.toList c)=true):only s.toList t.toList=true:=by
 rwa [List.take_of_length_le (by rw[length_toList];omega)]at h
theorem VA (s t:ByteArray)(k:Nat)(hk:k<s.size)(hc:has t.toList s[k]=false):only s.toList t.toList=false:=by
 rw[only,List.all_eq_false];exact⟨s[k],by rw[getElem_toList s k hk];exact jL _,by rw[hc];decide⟩
theorem Rh (t:ByteArray)(c:UInt8)(j:Nat)(hj:j<t.size):has (t.toList.take (j+1)) c=(has (t.toList.take j) c||((t[j].toNat:Int)==(c.toNat:Int))):=by
 rw[List.take_add_one,getElem?_toList t j hj];have e:((t[j].toNat:Int)==(c.toNat:Int))=(t[j]==c):=by
  rw[jX];simp[<-UInt8.toNat_inj];omega
 rw[e,jX];simp only[has,Option.toList_some,List.contains_iff_mem,List.mem_append,List.mem_singleton,Bool.or_eq_true,beq_iff_eq];exact⟨fun h=>h.imp id Eq.symm,fun h=>h.imp id Eq.symm⟩
theorem UH (t:ByteArray)(c:UInt8)(j:Nat)(hj:¬j<t.size):has (t.toList.take j) c=has t.toList c:=by
 rw[List.take_of_length_le (by rw[length_toList];omega)]
set_option maxRecDepth 20000 in
set_option maxHeartbeats 1000000 in
theorem Iw (s t:ByteArray)(w:World)(hs:s.size<=1000)(ht:t.size<=1000):
  Calls Tryz.prog 186 #[.string s,.string t] w fun e w'=>e=.returned (.bool (only s.toList t.toList))/\∃n,w'=w.drewN n:=by
 go_enter Tryz.func186,Tryz.ntmps186
 go_wp2
 go_loopg [5] (s.size) (fun gk i wr=>∃k n:Nat,k<=s.size/\gk+k=s.size/\i=.int .i64 k/\wr=w.drewN n/\Hid ((s.toList.take k).all (fun c=>has t.toList c)=true))
 case atStart=>exact⟨0,0,jQ _,rfl,rfl,rfl,rfl⟩
 case round=>
  obtain⟨k,n,hk,GI,rfl,rfl,HM⟩:=hrel;by_cases aL:k<s.size
  ·go_wp2
   go_loopg [6,7] (t.size) (fun gj b i wr=>∃j m:Nat,j<=t.size/\gj+j=t.size/\i=.int .i64 j/\wr=w.drewN m/\b=.bool (has (t.toList.take j) s[k]))
   case atStart=>exact⟨0,n,jQ _,rfl,rfl,rfl,by simp[has]⟩
   case round=>
    obtain⟨j,m,hj,hgj,rfl,rfl,rfl⟩:=hrel;by_cases hjt:j<t.size
    ·have HS:Hid (_=_):=Rh t s[k] j hjt;cases hb:has (t.toList.take j) s[k]
     all_goals
      have HB:Hid (_=_):=hb;clear hb;go_wp2
      go_quiet (fail)
      go_wp2
      go_roundg (t.size-(j+1))
      case rel=>exact⟨j+1,m+nq,by omega,by omega,by go_num,by simp,by rw[HS.out,HB.out];rfl⟩
      case measure=>omega
    ·have HE:Hid (_=_):=UH t s[k] j hjt;cases hb:has (t.toList.take j) s[k]
     ·have HX:Hid (has t.toList s[k]=false):=by unfold Hid;rw[<-HE.out,hb]
      clear hb;go_wp2
      go_ret
      exact⟨aP (VA s t k aL HX.out).symm,m,rfl⟩
     ·have HX:Hid (has t.toList s[k]=true):=by unfold Hid;rw[<-HE.out,hb]
      clear hb;go_wp2
      go_roundg (s.size-(k+1))
      case rel=>exact⟨k+1,m,by omega,by omega,by go_num,rfl,Qu s (fun c=>has t.toList c) k aL HM.out HX.out⟩
      case measure=>omega
  ·go_wp2
   go_ret
   exact⟨aP (SK s t k aL HM.out).symm,n,rfl⟩
end RefO
namespace RefP
open Go.RowKit Sq RefA RefC RefG RefH RefO Aux
theorem E4 {a b c d:Int}(h:a=c)(h':b=d):Ending.returned (.tuple #[.int .i64 a,.int .i64 b])=.returned (.tuple #[.int .i64 c,.int .i64 d]):=by rw[h,h']
set_option maxRecDepth 20000 in
set_option maxHeartbeats 1000000 in
theorem kz (p:RP)(a:Nat)(l:B)(w:World)(hp:bf w a p)(cf:p.Ok)(hl:l.length<=maxLen)(hf:0<=p.find (aj l)):
  Calls Tryz.prog 143 #[.pointer (some ⟨a,0,none⟩),.string (bs l)] w fun e w'=>e=.returned (.tuple #[.int .i64 ((p.ak l).1:Int),.int .i64 ((p.ak l).2:Int)])/\∃n,w'=w.drewN n:=by
 obtain⟨j,hj,ou,_⟩:=RP.eA hf;have la:=cf.Hz;have HF:∀n,Calls Tryz.prog 110 #[.pointer (some ⟨a,0,none⟩),.string (bs (aj l))] (w.drewN n) fun e w'=>e=.returned (.int .i64 j)/\∃m,w'=w.drewN m:=fun n=>
  (mi p a (aj l) (w.drewN n) (hp.drewN n) cf).mono fun e w' ⟨he,m,hm⟩=>⟨by rw[he,hj],n+m,by rw[hm];simp⟩
 have HT:∀n,Calls Tryz.prog 113 #[.pointer (some ⟨a,0,none⟩),.string (bs l)] (w.drewN n) fun e w'=>e=.returned (.string (bs (p.typeOf l)))/\∃m,w'=w.drewN m:=fun n=>
  (iB p a l (w.drewN n) (hp.drewN n) cf hl hf).mono fun e w' ⟨he,m,hm⟩=>⟨he,n+m,by rw[hm];simp⟩
 have HS:Hid (p.ak l=if partOf l=98 then(2*j+1,1)else if p.typeOf l=cm then(2*j,2)else(2*j,1)):=by unfold Hid RP.ak;rw[hj];rfl
 have e2:=qc (partOf l) 98 (by omega);simp only[Int.cast_ofNat_Int]at e2;have HE:Hid (_=_):=e2;clear hj hf e2;obtain⟨w0,rfl⟩:∃w0:World,w=w0.drewN 0:=⟨w,rfl⟩;go_enter Tryz.func143,Tryz.ntmps143
 go_wp2_with (first
  |(go_at_call 111;refine(vR l _ hl).mono ?_;rintro e w' ⟨rfl,rfl⟩)
  |(go_at_call 110;refine(HF _).mono ?_;rintro e w' ⟨rfl,n1,rfl⟩)
  |(go_at_call 159;refine(vX l _ hl).mono ?_;rintro e w' ⟨rfl,rfl⟩)
  |(go_at_call 113;refine(HT _).mono ?_;rintro e w' ⟨rfl,n2,rfl⟩))
 ·go_ret2
  have hx:partOf l=98:=by have h1:=HE.out;rw[‹(((partOf l).toNat:Int)==98)=true›]at h1;simpa using h1.symm
  exact⟨E4 (by rw[HS.out,jb hx];rfl) (by rw[HS.out,jb hx];rfl),n1,by simp⟩
 ·go_ret2
  have hx:¬partOf l=98:=by have h1:=HE.out;rw[‹(((partOf l).toNat:Int)==98)=false›]at h1;simpa using h1.symm
  have hy:p.typeOf l=cm:=by simpa [cm]using‹(p.typeOf l==_)=true›
  exact⟨E4 (by rw[HS.out,ja hx,jb hy];rfl) (by rw[HS.out,ja hx,jb hy];rfl),n2,by simp⟩
 ·go_ret2
  have hx:¬partOf l=98:=by have h1:=HE.out;rw[‹(((partOf l).toNat:Int)==98)=false›]at h1;simpa using h1.symm
  have hy:¬p.typeOf l=cm:=by simpa [cm]using‹(p.typeOf l==_)=false›
  exact⟨E4 (by rw[HS.out,ja hx,ja hy];rfl) (by rw[HS.out,ja hx,ja hy];rfl),n2,by simp⟩
set_option maxRecDepth 20000 in
set_option maxHeartbeats 1000000 in
theorem CV (p:RP)(a:Nat)(l:B)(n:Nat)(w:World)(hp:bf w a p)(cf:p.Ok)(hl:l.length<=maxLen)(hn:number l=some (n:Int))(hb:n<p.blocks.length):
  Calls Tryz.prog 89 #[.pointer (some ⟨a,0,none⟩),.string (bs l)] w fun e w'=>e=.returned (.int .i64 (p.blocks.getD n 0))/\∃m,w'=w.drewN m:=by
 obtain⟨g,c,h1,TO,h2⟩:=hp.Ao n hb;have De:=cf.ta;have HN:=ya l w hl;rw[hn]at HN;have fC:(n:Int)<p.blocks.length:=by omega
 clear hn;go_enter Tryz.func89,Tryz.ntmps89
 go_wp2_with (go_at_call 112;refine HN.mono ?_;rintro e w' ⟨rfl,rfl⟩)
 go_ret
 exact⟨zY (by simp[hb]),0,rfl⟩
end RefP
namespace RefQ
open Go.RowKit Sq RefA RefC RefG RefH RefO RefP Aux
set_option maxRecDepth 20000 in
set_option maxHeartbeats 1000000 in
theorem iK (p:RP)(a:Nat)(s:WS)(l:B)(w:World)(hp:bf w a p)(cf:p.Ok)(hs:s.Ok)(hl:l.length<=maxLen)(hf:0<=p.find (aj l))(cg:p.lets.length<=12):
  Calls Tryz.prog 138 #[.pointer (some ⟨a,0,none⟩),s.val,.string (bs l)] w fun e w'=>e=.returned (.bool (p.there s l))/\Below w.heap.size w w':=by
 obtain⟨j,hj,ou,_⟩:=RP.eA hf;obtain⟨aw,bU⟩:=RP.gu hj;have hW:Below w.heap.size w (w.alloc (.cells s.cells.toArray 155)):=(Below.refl _ _).alloc (jC _) _;have yR:=hp.below hW;have HC:Hid (∀k,k<24->(w.alloc (.cells s.cells.toArray 155)).cell? ⟨w.heap.size,1+k,none⟩=some (.string (bs (s.at k)))):=fun k hk=>by
  have:=WS.FW hs k hk;rw[cell_of_heap (cs:=s.cells.toArray) (e:=155) (f:=(0,0)) (by show(w.heap.push _)[w.heap.size]?=_;simp)];simpa using this
 have HT:∀n,Calls Tryz.prog 113 #[.pointer (some ⟨a,0,none⟩),.string (bs l)] ((w.alloc (.cells s.cells.toArray 155)).drewN n) fun e w'=>e=.returned (.string (bs (p.typeOf l)))/\∃m,w'=(w.alloc (.cells s.cells.toArray 155)).drewN m:=fun n=>
  (iB p a l _ (yR.drewN n) cf hl hf).mono fun e w' ⟨he,m,hm⟩=>⟨he,n+m,by rw[hm];simp⟩
 have Qf:∀n,Calls Tryz.prog 143 #[.pointer (some ⟨a,0,none⟩),.string (bs l)] ((w.alloc (.cells s.cells.toArray 155)).drewN n) fun e w'=>e=.returned (.tuple #[.int .i64 ((p.ak l).1:Int),.int .i64 ((p.ak l).2:Int)])/\∃m,w'=(w.alloc (.cells s.cells.toArray 155)).drewN m:=fun n=>
  (kz p a l _ (yR.drewN n) cf hl hf).mono fun e w' ⟨he,m,hm⟩=>⟨he,n+m,by rw[hm];simp⟩
 have HTh:Hid (p.there s l=dS s (p.some l) ((p.ak l).1+(p.ak l).2-(p.ak l).1) (p.ak l).1):=by unfold Hid RP.there;rw[Nat.add_sub_cancel_left]
 have xR:=hs.fe;have A0:(bs (p.some l)).size<=1000:=by rw[dR];unfold RP.some;split<;>simp
 have HSM:Hid (p.some l=if p.typeOf l=eH then [110,119]else [119]):=rfl;have Zl:(p.ak l).1+(p.ak l).2<=24:=by omega
 unfold WS.val;clear hf hj aw ou;go_enter Tryz.func138,Tryz.ntmps138
 go_wp2_with fail
 refine(HT 0).mono ?_;rintro e w' ⟨rfl,n1,rfl⟩;have hbw:∀n,Below w.heap.size w ((w.alloc (.cells s.cells.toArray 155)).drewN n):=fun n=>below_drewN hW n
 have Es:∀k,k<24->(w.alloc (.cells s.cells.toArray 155)).cell? ⟨w.heap.size,1+k,none⟩=some (.string (bs (s.at k))):=HC.out;clear HC HT hW yR hp;generalize w.alloc (.cells s.cells.toArray 155)=W at*;go_upto_if 17 with fail
 go_cut [8] (fun v wc=>wc=W.drewN n1/\v=.string (bs (p.some l)))
 case first=>
  go_wp2
  ·go_meet
   case rel=>exact⟨rfl,by rw[HSM.out,jb (by simpa [eH]using‹(p.typeOf l==_)=true›)];rfl⟩
  ·go_meet
   case rel=>exact⟨rfl,by rw[HSM.out,ja (by simpa [eH]using‹(p.typeOf l==_)=false›)];rfl⟩
 case rest=>
  obtain⟨rfl,rfl⟩:=hcut;go_wp2_with (go_at_call 143;refine(Qf _).mono ?_;rintro e w' ⟨rfl,n2,rfl⟩)
  clear Qf;generalize (p.ak l).1=i0 at*;generalize (p.ak l).2=m0 at*;go_loopg [11] (m0) (fun gk i wr=>∃k n:Nat,k<=i0+m0/\gk+k=i0+m0/\i=.int .i64 k/\wr=W.drewN n/\Hid (p.there s l=dS s (p.some l) (i0+m0-k) k))
  case atStart=>exact⟨i0,n2,by omega,by omega,rfl,rfl,HTh⟩
  case round=>
   obtain⟨k,n,hk,GI,rfl,rfl,HI⟩:=hrel;by_cases aL:k<i0+m0
   ·have HS:Hid (_=_):=Fg s (p.some l) i0 m0 k aL;have TX:=Es k (by omega);have zm:(k:Int)<24:=by omega
    have HO:=Iw (bs (s.at k)) (bs (p.some l)) (W.drewN n) (by rw[dR];exact xR k) A0;rw[aE,aE]at HO;clear Es;cases ho:only (s.at k) (p.some l)
    ·rw[ho]at HO;have hx:p.there s l=false:=by rw[HI.out,HS.out,ho];rfl
     clear ho;go_wp2_with (go_at_call 186;refine HO.mono ?_;rintro e w' ⟨rfl,n3,rfl⟩)
     go_ret
     exact⟨aP hx.symm,hbw _⟩
    ·rw[ho]at HO;have hx:Hid (dS s (p.some l) (i0+m0-k) k=dS s (p.some l) (i0+m0-(k+1)) (k+1)):=by unfold Hid;rw[HS.out,ho];rfl
     clear ho;go_wp2_with (go_at_call 186;refine HO.mono ?_;rintro e w' ⟨rfl,n3,rfl⟩)
     go_roundg (i0+m0-(k+1))
     case rel=>exact⟨k+1,n+n3,by omega,by omega,by go_num,by simp,by rw[HI.out,hx.out];rfl⟩
     case measure=>omega
   ·have hx:p.there s l=true:=by rw[HI.out,show i0+m0-k=0 by omega];rfl
    go_wp2
    go_ret
    exact⟨aP hx.symm,hbw _⟩
end RefQ
namespace Sq
open Go Aux
def oh (c:B):Nat->Nat->WS->WS
 |0,_,s=>s
 |m+1,k,s=>oh c m (k+1) (WS.set s k c)
def RP.now (p:RP)(s:WS)(l c:B):WS:=oh c (p.ak l).2 (p.ak l).1 s
def aI:WS:=⟨false,List.replicate 24 []⟩
theorem bF:aI.Ok:=⟨rfl,fun k=>by
 unfold WS.at aI;simp only[List.getD_eq_getElem?_getD,List.getElem?_replicate];split<;>simp⟩
theorem LB (c:B)(i n k:Nat)(s:WS)(hk:k<i+n):oh c (i+n-k) k s=oh c (i+n-(k+1)) (k+1) (WS.set s k c):=by
 rw[show i+n-k=(i+n-(k+1))+1 by omega,oh]
theorem It (c:B)(hc:c.length<=1000):∀(m k:Nat) (s:WS),s.Ok->(oh c m k s).Ok
 |0,_,_,h=>h
 |m+1,k,_,h=>It c hc m (k+1) _ (WS.Tj h k hc)
theorem RP.oy (p:RP){s:WS}(hs:s.Ok)(l:B){c:B}(hc:c.length<=1000):(p.now s l c).Ok:=It c hc _ _ _ hs
end Sq
namespace RefR
open Go.RowKit Sq RefA RefC RefG RefH RefO RefP Aux
theorem Ou:(Tryz.prog.info? 155).map (·.size)=some 25:=by kernel_rfl
theorem eD {s:WS}(h:s.Ok):(Tryz.prog.info? 155).map (·.size)=some s.cells.length:=by rw[WS.cT h];exact Ou
theorem ov {s:WS}(h:s.Ok):(Tryz.prog.info? 155).map (·.size)=some s.cells.toArray.size:=by simpa using eD h
set_option maxRecDepth 20000 in
set_option maxHeartbeats 1000000 in
theorem kC (p:RP)(a:Nat)(s:WS)(l c:B)(w:World)(hp:bf w a p)(cf:p.Ok)(hs:s.Ok)(hl:l.length<=maxLen)(hc:c.length<=1000)(hf:0<=p.find (aj l))(cg:p.lets.length<=12):
  Calls Tryz.prog 88 #[.pointer (some ⟨a,0,none⟩),s.val,.string (bs l),.string (bs c)] w fun e w'=>e=.returned (p.now s l c).val/\Below w.heap.size w w':=by
 obtain⟨j,hj,ou,_⟩:=RP.eA hf;obtain⟨aw,bU⟩:=RP.gu hj;have Zl:(p.ak l).1+(p.ak l).2<=24:=by omega
 have TS:Below w.heap.size w ((w.alloc (.cells s.cells.toArray 155)).alloc (.cells aI.cells.toArray 155)):=((Below.refl _ _).alloc (jC _) _).alloc (by simp) _;have hA:aB ((w.alloc (.cells s.cells.toArray 155)).alloc (.cells aI.cells.toArray 155)) w.heap.size s:=(aB.new w s).below (bG _ _);have hZ:aB ((w.alloc (.cells s.cells.toArray 155)).alloc (.cells aI.cells.toArray 155)) (w.heap.size+1) aI:=by
  have:=aB.new (w.alloc (.cells s.cells.toArray 155)) aI;simpa using this
 have Qf:=kz p a l _ (hp.below TS) cf hl hf;have Zb:Hid (p.now s l c=oh c ((p.ak l).1+(p.ak l).2-(p.ak l).1) (p.ak l).1 s):=by unfold Hid RP.now;rw[Nat.add_sub_cancel_left]
 have HOK:Hid ((p.now s l c).Ok):=p.oy hs l hc;unfold WS.val;clear hf hj aw ou hp;go_enter Tryz.func88,Tryz.ntmps88
 go_wp2_with fail
 refine Qf.mono ?_;rintro e w' ⟨rfl,n1,rfl⟩
 replace TS:=below_drewN TS n1
 replace hA:=hA.drewN n1
 replace hZ:=hZ.drewN n1
 clear Qf;generalize World.drewN _ n1=W at*;go_wp2
 generalize (p.ak l).1=i0 at*;generalize (p.ak l).2=m0 at*;go_loopg [11] (m0) (fun gk i wr=>∃(k:Nat) (sk:WS),k<=i0+m0/\gk+k=i0+m0/\i=.int .i64 k/\aB wr w.heap.size sk/\aB wr (w.heap.size+1) aI/\Below w.heap.size w wr/\Hid (sk.Ok)/\Hid (p.now s l c=oh c (i0+m0-k) k sk))
 case atStart=>exact⟨i0,s,by omega,by omega,rfl,hA,hZ,TS,hs,Zb⟩
 case round=>
  clear hA hZ TS Zb;obtain⟨k,sk,hk,GI,rfl,hA,hZ,hB,WT,HI⟩:=hrel;by_cases aL:k<i0+m0
  ·have HS:Hid (_=_):=LB c i0 m0 k sk aL;have TX:=hA.cell WT.out k (by omega);have hfk:=hA.frozen (1+k);have zm:(k:Int)<24:=by omega
   go_wp2
   go_roundg (i0+m0-(k+1))
   case rel=>
    exact⟨k+1,WS.set sk k c,by omega,by omega,by go_num,hA.set k c,hZ.setOther (by simp) _,hB.setCell (jC _) _,WS.Tj WT.out k hc,by rw[HI.out,HS.out];rfl⟩
   case measure=>omega
  ·have HX:Hid (p.now s l c=sk):=by unfold Hid;rw[HI.out,show i0+m0-k=0 by omega];rfl
   have hr:=hA.range;have ht:wr.there (w.heap.size+1) 0 sk.cells.toArray.size:=by
    have:=hZ.there bF;have hlen:=WS.cT WT.out
    rwa [<-hlen,<-List.size_toArray]at this
   go_wp2_with (first
    |(refine wpList_load_mid rfl 155 _ rfl w.heap.size 0 rfl sk.cells _ hr Tryz.underlying155 rfl (eD WT.out) ?_)
    |(refine wpList_store_mid rfl 155 _ _ rfl (w.heap.size+1) 0 sk.cells.toArray rfl rfl ht (ov WT.out) (all_oneCell_toArray (WS.xE sk)) ?_))
   refine bodyPost_ret (dQ Tryz.results88 _ _ _ (w.heap.size+1) sk.cells _ rfl (hZ.store bF WT.out).range Tryz.underlying155 rfl (eD WT.out)) rfl ⟨?_,az hB (by omega) _ _⟩;rw[HX.out]
end RefR
namespace RefS
open Go.RowKit Sq RefA RefC RefG RefH RefO RefP RefR Aux
def cy (p:RP)(s:WS)(l:B):Bool:= !(partOf l==115)||only (s.at (p.ak l).1) [119,104]
theorem Fv (p:RP)(s:WS)(l:B):cy p s l=((!(((partOf l).toNat:Int)==115))||only (s.at (p.ak l).1) [119,104]):=by
 have e3:=qc (partOf l) 115 (by omega);simp only[Int.cast_ofNat_Int]at e3;rw[cy,e3];rfl
set_option maxRecDepth 20000 in
set_option maxHeartbeats 1000000 in
theorem qf (p:RP)(a:Nat)(s:WS)(l:B)(w:World)(hp:bf w a p)(cf:p.Ok)(hs:s.Ok)(hl:l.length<=maxLen)(hf:0<=p.find (aj l))(cg:p.lets.length<=12):
  Calls Tryz.prog 139 #[.pointer (some ⟨a,0,none⟩),s.val,.string (bs l)] w fun e w'=>e=.returned (.bool (cy p s l))/\Below w.heap.size w w':=by
 obtain⟨j,hj,ou,_⟩:=RP.eA hf;obtain⟨aw,bU⟩:=RP.gu hj;have Zl:(p.ak l).1<24:=by omega
 have TS:Below w.heap.size w (w.alloc (.cells s.cells.toArray 155)):=bG _ _;have hA:=aB.new w s;have Qf:=kz p a l _ (hp.below TS) cf hl hf;have HWR:Hid (_=_):=Fv p s l;have xR:=hs.fe;unfold WS.val;clear hf hj aw ou hp;go_enter Tryz.func139,Tryz.ntmps139
 go_wp2_with fail
 refine Qf.mono ?_;rintro e w' ⟨rfl,n1,rfl⟩
 replace TS:=below_drewN TS n1
 replace hA:=hA.drewN n1
 clear Qf;generalize World.drewN _ n1=W at*;generalize (p.ak l).1=i0 at*;have TX:=hA.cell hs i0 Zl;have zm:(i0:Int)<24:=by omega
 have HO:=Iw (bs (s.at i0)) (bs [119,104]) W (by rw[dR];exact xR i0) (by simp);rw[aE,aE]at HO;go_wp2_with (first
  |(go_at_call 186;refine HO.mono ?_;rintro e w' ⟨rfl,n2,rfl⟩)
  |(go_at_call 159;refine(vX l _ hl).mono ?_;rintro e w' ⟨rfl,rfl⟩))
 all_goals
  go_ret
  refine⟨aP ?_,below_drewN TS _⟩;rw[HWR.out];simp[*]
end RefS
namespace Aux
open Go Go.RowKit Sq RefR
def aU (w:World)(b:Nat):Prop:=∃s:WS,s.Ok/\aB w b s
def B1 (w:World)(b:Nat):Array Value:=match w.heap[b]? with|some (.cells cs _ _)=>cs|_=> #[]
def dh (xs:Array Value):Prop:=∃s:WS,s.Ok/\xs=s.cells.toArray
theorem bu {w:World}{b:Nat}{s:WS}(h:aB w b s):B1 w b=s.cells.toArray:=by
 unfold aB at h;simp[B1,h]
theorem EN (w:World)(b:Nat)(h:aU w b):(loadVar 155 ⟨b,0,none⟩).run Tryz.prog w=.ok (.agg (B1 w b)) w:=by
 obtain⟨s,hs,hw⟩:=h;rw[bu hw];exact run_loadVar_mid w b 0 155 s.cells _ hw.range Tryz.underlying155 rfl (eD hs)
theorem CG (w:World)(b:Nat)(xs:Array Value)(h:aU w b)(hx:dh xs):(storeVar 155 ⟨b,0,none⟩ (.agg xs)).run Tryz.prog w=.ok () (w.setCells b 0 xs.toList):=by
 obtain⟨s,hs,hw⟩:=h;obtain⟨t,ht,rfl⟩:=hx;refine run_storeVar_mid w b 0 155 t.cells.toArray ?_ (ov ht) (all_oneCell_toArray (WS.xE t));have:=hw.there hs
 rwa [<-WS.cT ht,<-List.size_toArray]at this
def jy:Value->Nat
 | .pointer (some ad)=>ad.block
 |_=>0
def rP (w:World)(v:Value):Prop:=∃b,v=.pointer (some ⟨b,0,none⟩)/\aU w b
def qC:Value->Array Value
 | .agg xs=>xs
 |_=> #[]
def rK (v:Value):Prop:=∃xs,v=.agg xs/\dh xs
@[simp] theorem lO (ad : Addr) : jy (.pointer (some ad)) = ad.block := rfl
@[simp] theorem WI (w : World) (b : Nat) : rP w (.pointer (some ⟨b, 0, none⟩)) = aU w b := by
 simp[rP]
@[simp] theorem tX (xs : Array Value) : qC (.agg xs) = xs := rfl
@[simp] theorem V3 (xs : Array Value) : rK (.agg xs) = dh xs := by
 simp[rK]
section
variable (d:Option Tmp) (x y:Operand) (t:TypeId) (ps:String) (af:Array Edge) (g:Option (Nat×Bool)) (a:Act) (w:World) (K:Act->World->Prop) (Q:Exit->Act->World->Prop)
theorem dd (h:rP w (a.eval x)):Oper.wp Tryz.prog {dst:=d,op:=Op.load 155 x,type:=t,pos:=ps,after:=af,guard:=g} a w K Q=K (a.put d (.agg (B1 w (jy (a.eval x))))) w:=by
 obtain⟨b,hb,hh⟩:=h;have:=EN w b hh;unfold Oper.wp execOp;simp only[hb,Instr.loadAt,Instr.sureAddr,Sem.run_bind,Sem.run_pure,Result.andThen_ok,this,lO];rfl
theorem cH (h:rP w (a.eval x))(h':rK (a.eval y)):Oper.wp Tryz.prog {dst:=d,op:=Op.store 155 x y,type:=t,pos:=ps,after:=af,guard:=g} a w K Q=K (a.put d undef) (w.setCells (jy (a.eval x)) 0 (qC (a.eval y)).toList):=by
 obtain⟨b,hb,hh⟩:=h;obtain⟨xs,hy,hx⟩:=h';have:=CG w b xs hh hx;unfold Oper.wp execOp;simp only[hb,hy,Instr.storeAt,Instr.sureAddr,Sem.run_bind,Sem.run_pure,Result.andThen_ok,this,lO,tX];rfl
end
end Aux
namespace RefT
open Go.RowKit Sq RefA RefC RefG RefH RefO RefP RefQ RefR RefS Aux
attribute [local go_sem ↓] dd cH
structure Kept (w:World)(wr:World)(s:WS):Prop where
 here:aB wr w.heap.size s
 zero:aB wr (w.heap.size+1) aI
 br:Below w.heap.size w wr
theorem Kept.below {w wr w':World}{s:WS}(h:Kept w wr s)(hb:Below wr.heap.size wr w'):Kept w w' s:=⟨h.here.below hb,h.zero.below hb,h.br.trans (hb.mono h.br.size)⟩
theorem Kept.drewN {w wr:World}{s:WS}(h:Kept w wr s)(n:Nat):Kept w (wr.drewN n) s:=h.below (below_drewN (Below.refl _ _) n)
theorem Kept.store {w wr:World}{s t:WS}(h:Kept w wr s)(hs:s.Ok)(ht:t.Ok):Kept w (wr.setCells w.heap.size 0 t.cells) t:=
 ⟨h.here.store hs ht,h.zero.other (by omega) _ _,az h.br (jC _) _ _⟩
theorem eg (w:World)(s:WS):Kept w ((w.alloc (.cells s.cells.toArray 155)).alloc (.cells aI.cells.toArray 155)) s:=
 ⟨(aB.new w s).below (bG _ _),by simpa using aB.new (w.alloc (.cells s.cells.toArray 155)) aI,((Below.refl _ _).alloc (jC _) _).alloc (by simp) _⟩
def RP.taken (p:RP)(s:WS)(ws:List B):WS:=p.now (p.now s (word ws 2) (left (word ws 2))) (word ws 1) [119]
def RP.cK (p:RP)(ws:List B)(s:WS):WS×Bool:=
 (if word ws 0=[109,111,118,101]/\p.typeOf (word ws 1)=[111,112,116]then p.now (RP.taken p s ws) (word ws 1) (s.at (p.ak (word ws 2)).1)else RP.taken p s ws,
  p.there s (word ws 2)&&(cy p (p.now s (word ws 2) (left (word ws 2))) (word ws 1)||(word ws 0==[115,111,109,101])))
set_option maxRecDepth 20000 in
set_option maxHeartbeats 4000000 in
theorem PX (p:RP)(a:Nat)(s:WS)(ws:List B)(gw cw:Nat)(w:World)(hp:bf w a p)(cf:p.Ok)(hs:s.Ok)(cg:p.lets.length<=12)
  (US:gw<w.heap.size) (hws:∀j,j<3->w.cell? ⟨gw,j,none⟩=some (.string (bs (word ws j)))) (hl:∀j,(word ws j).length<=maxLen)
  (pG:0<=p.find (aj (word ws 1))) (FD:0<=p.find (aj (word ws 2))):
  Calls Tryz.prog 141 #[.pointer (some ⟨a,0,none⟩),.slice (some ⟨gw,0,none⟩) 3 cw,s.val] w fun e w'=>e=.returned (.tuple #[(RP.cK p ws s).1.val,.bool (RP.cK p ws s).2])/\Below w.heap.size w w':=by
 have HC:Hid (∀j wr,j<3->Below w.heap.size w wr->wr.cell? ⟨gw,j,none⟩=some (.string (bs (word ws j)))):=fun j wr hj hb=>(hb.cell (p:=⟨gw,j,none⟩) US).trans (hws j hj)
 obtain⟨j2,XI,hjl2,_⟩:=RP.eA FD;obtain⟨hb21,hb22⟩:=RP.gu XI;have Zl:(p.ak (word ws 2)).1<24:=by omega
 have HRES:Hid (RP.cK p ws s=_):=rfl;have sJ:(left (word ws 2)).length<=1000:=by unfold left;split<;>simp
 have lx:=p.oy hs (word ws 2) sJ;have Ca:=p.oy lx (word ws 1) (c:=[119]) (by simp);have hwas:=hs.fe (p.ak (word ws 2)).1;have XX:=p.oy Ca (word ws 1) hwas;clear hws XI hb21 hb22 hjl2;unfold WS.val;go_enter Tryz.func141,Tryz.ntmps141
 go_upto_region 0 with fail
 go_cut [5,6,7] (fun v5 v6 v7 wc=>Kept w wc s/\v5=.pointer (some ⟨w.heap.size,0,none⟩)/\v6=.pointer (some ⟨w.heap.size+1,0,none⟩)/\v7=.bool false)
 case first=>
  go_wp2
  go_meet
  case rel=>exact⟨eg w s,rfl,rfl,rfl⟩
 case rest=>
  obtain⟨hK,rfl,rfl,rfl⟩:=hcut;go_upto_region 1 with fail
  go_cut [8] (fun v wc=>Kept w wc s/\v=.bool (p.there s (word ws 2)))
  case first=>
   have oa:=HC.out 2 _ (by omega) hK.br;have cM:Kept w wc.drew s:=hK.below ((Below.refl _ _).drew);have hh:aU wc.drew w.heap.size:=⟨s,hs,cM.here⟩;have hv:=bu cM.here;have HTh:=iK p a s (word ws 2) wc.drew (hp.below cM.br) cf hs (hl 2) FD cg;unfold WS.val at HTh;go_region_law (go_simp;go_at_call 138;refine HTh.mono ?_;rintro e w1 ⟨rfl,aw⟩)
   all_goals go_wp2_with fail
   all_goals
    go_meet
    case rel=>exact⟨cM.below aw,rfl⟩
  case rest=>
   obtain⟨AR,rfl⟩:=hcut;clear hK;have oa:=HC.out 2 _ (by omega) AR.br;have Qf:=kz p a (word ws 2) _ (hp.below AR.br) cf (hl 2) FD;have TX:=AR.here.cell hs _ Zl;have zm:((p.ak (word ws 2)).1:Int)<24:=by omega
   go_upto_region 4 with(go_at_call 143;refine Qf.mono ?_;rintro e w' ⟨rfl,n2,rfl⟩)
   have J8:=AR.drewN n2;clear TX oa Qf AR;generalize hW:World.drewN _ n2=W at*;clear hW;generalize hs1':p.now s (word ws 2) (left (word ws 2))=s1 at*;have HS1:Hid (_=_):=hs1';go_cut [] (fun wc'=>Kept w wc' s1)
   case first=>
    have cM:Kept w W.drew s:=J8.below ((Below.refl _ _).drew);have oa:=HC.out 2 _ (by omega) J8.br;have hh:aU W.drew w.heap.size:=⟨s,hs,cM.here⟩;have hv:=bu cM.here;have qy:=kC p a s (word ws 2) (left (word ws 2)) W.drew (hp.below cM.br) cf hs (hl 2) sJ FD cg;rw[hs1']at qy;unfold WS.val at qy;clear hs1';go_region_law (first
     |(go_simp;go_at_call 140;refine(zR _ _ (hl 2)).mono ?_;rintro e w' ⟨rfl,rfl⟩)
     |(go_simp;go_at_call 88;refine qy.mono ?_;rintro e w1 ⟨rfl,aw⟩;have UT:aU w1 w.heap.size:=⟨s,hs,(cM.below aw).here⟩;have xT:dh s1.cells.toArray:=⟨s1,lx,rfl⟩))
    all_goals go_wp2_with fail
    all_goals
     go_meet
     case rel=>exact(cM.below aw).store hs lx
   case rest=>
    rename_i hcutOld;have hK3:=hcut;clear hcut J8;go_upto_region 5 with fail
    go_cut [12] (fun v wc=>Kept w wc s1/\v=.bool (cy p s1 (word ws 1)))
    case first=>
     have kq:=HC.out 1 _ (by omega) hK3.br;have cM:=hK3.below ((Below.refl _ _).drew);have hh:aU wc.drew w.heap.size:=⟨s1,lx,cM.here⟩;have hv:=bu cM.here;have HWr:=qf p a s1 (word ws 1) wc.drew (hp.below cM.br) cf lx (hl 1) pG cg;unfold WS.val at HWr;go_region_law (go_simp;go_at_call 139;refine HWr.mono ?_;rintro e w1 ⟨rfl,aw⟩)
     all_goals go_wp2_with fail
     all_goals
      go_meet
      case rel=>exact⟨cM.below aw,rfl⟩
    case rest=>
     obtain⟨hK4,rfl⟩:=hcut;clear hK3;have kq:=HC.out 1 _ (by omega) hK4.br;have HT:=iB p a (word ws 1) _ (hp.below hK4.br) cf (hl 1) pG;go_upto_region 7 with(go_at_call 113;refine HT.mono ?_;rintro e w' ⟨rfl,n3,rfl⟩)
     have hK5:=hK4.drewN n3;clear kq HT hK4;generalize AT:World.drewN _ n3=W2 at*;clear AT;generalize RO:p.now s1 (word ws 1) [119]=s2 at*;have HS2:Hid (_=_):=RO;go_cut [] (fun wc'=>Kept w wc' s2)
     case first=>
      have cM:=hK5.below ((Below.refl _ _).drew);have kq:=HC.out 1 _ (by omega) hK5.br;have hh:aU W2.drew w.heap.size:=⟨s1,lx,cM.here⟩;have hv:=bu cM.here;have qy:=kC p a s1 (word ws 1) [119] W2.drew (hp.below cM.br) cf lx (hl 1) (by simp) pG cg;rw[RO]at qy;unfold WS.val at qy;clear RO;go_region_law (go_simp;go_at_call 88;refine qy.mono ?_;rintro e w1 ⟨rfl,aw⟩;have UT:aU w1 w.heap.size:=⟨s1,lx,(cM.below aw).here⟩;have xT:dh s2.cells.toArray:=⟨s2,Ca,rfl⟩)
      all_goals go_wp2_with fail
      all_goals
       go_meet
       case rel=>exact(cM.below aw).store lx Ca
     case rest=>
      have hK6:=hcut;clear hcut hK5;have mZ:=HC.out 0 _ (by omega) hK6.br;go_upto_region 8 with fail
      go_cut [66] (fun v wc'=>Kept w wc' s2/\v=.bool ((word ws 0==[109,111,118,101])&&(p.typeOf (word ws 1)==[111,112,116])))
      case first=>
       go_wp2
       all_goals
        go_meet
        case rel=>exact⟨hK6,by simp[*]⟩
      case rest=>
       obtain⟨hK7,rfl⟩:=hcut;clear hK6 mZ;have Ze:Hid ((RP.cK p ws s).1=if((word ws 0==[109,111,118,101])&&(p.typeOf (word ws 1)==[111,112,116]))=true then p.now s2 (word ws 1) (s.at (p.ak (word ws 2)).1)else s2):=by
        unfold Hid RP.cK RP.taken;rw[HS1.out,HS2.out];simp only[Bool.and_eq_true,beq_iff_eq]
       have HX2:Hid ((RP.cK p ws s).2=(p.there s (word ws 2)&&(cy p s1 (word ws 1)||(word ws 0==[115,111,109,101])))):=by
        unfold Hid RP.cK;rw[HS1.out]
       generalize ((word ws 0==[109,111,118,101])&&(p.typeOf (word ws 1)==[111,112,116]))=bb at*;have HOK3:Hid ((RP.cK p ws s).1.Ok):=by unfold Hid;rw[Ze.out];split;exact XX;exact Ca
       clear HRES HS1 HS2 hs1' RO;go_upto_if 66 with fail
       go_cut [] (fun wc'=>Kept w wc' (RP.cK p ws s).1)
       case first=>
        cases bb
        ·have HX3:Hid ((RP.cK p ws s).1=s2):=by unfold Hid;rw[Ze.out,ja (by decide)]
         go_wp2
         go_meet
         case rel=>rw[HX3.out];exact hK7
        ·have HX3:Hid ((RP.cK p ws s).1=p.now s2 (word ws 1) (s.at (p.ak (word ws 2)).1)):=by unfold Hid;rw[Ze.out,jb rfl]
         generalize hs3':p.now s2 (word ws 1) (s.at (p.ak (word ws 2)).1)=s3 at*;have kq:=HC.out 1 _ (by omega) hK7.br;have cM:=hK7.below ((Below.refl _ _).drew);have hh:aU wc.drew w.heap.size:=⟨s2,Ca,cM.here⟩;have hv:=bu cM.here;have qy:=kC p a s2 (word ws 1) (s.at (p.ak (word ws 2)).1) wc.drew (hp.below cM.br) cf Ca (hl 1) hwas pG cg;rw[hs3']at qy;unfold WS.val at qy;clear hs3' Ze;go_wp2_with fail
         go_region_law (go_simp;go_at_call 88;refine qy.mono ?_;rintro e w1 ⟨rfl,aw⟩;have UT:aU w1 w.heap.size:=⟨s2,Ca,(cM.below aw).here⟩;have xT:dh s3.cells.toArray:=⟨s3,XX,rfl⟩)
         all_goals go_wp2_with fail
         all_goals
          go_meet
          case rel=>rw[HX3.out];exact(cM.below aw).store Ca XX
       case rest=>
        have hK8:=hcut;clear hcut hK7 Ze;have UB:=HOK3.out;have mZ:=HC.out 0 _ (by omega) hK8.br;have cM:=hK8.below ((Below.refl _ _).drew);have hh:aU wc.drew w.heap.size:=⟨(RP.cK p ws s).1,UB,cM.here⟩;have hz:aU wc.drew (w.heap.size+1):=⟨aI,bF,cM.zero⟩;have hv:=bu cM.here;have xT:dh (RP.cK p ws s).1.cells.toArray:=⟨(RP.cK p ws s).1,UB,rfl⟩;have hc0':(wc.drew.setCells (w.heap.size+1) 0 (RP.cK p ws s).1.cells).cell? ⟨gw,0,none⟩=some (.string (bs (word ws 0))):=by
         rw[World.cell?_setCells_out _ _ _ _ _ (fun e _=>by simp at e;omega)];exact mZ
        cases hthere:p.there s (word ws 2)<;>cases YZ:cy p s1 (word ws 1)
        all_goals
         rw[hthere,YZ]at HX2;clear hthere YZ;go_wp2_with fail
         go_region
         all_goals go_wp2_with fail
         all_goals
          refine bodyPost_ret (eG Tryz.results141 _ _ _ (w.heap.size+1) (RP.cK p ws s).1.cells _ rfl (cM.zero.store bF UB).range Tryz.underlying155 rfl (eD UB)) rfl ⟨?_,az cM.br (by omega) _ _⟩;rw[HX2.out];rfl
end RefT
namespace Sq
open Go RefS RefT
def RP.step (p:RP)(ws:List B)(s:WS):WS×Bool:=
 if word ws 0=[115,101,116]\/word ws 0=[105,110]then(p.now s (word ws 1) [119],true)
 else if word ws 0=[97,100,100]\/word ws 0=[115,117,98]\/word ws 0=[109,117,108]\/word ws 0=[100,105,118]then(p.now s (word ws 1) [119],p.there s (word ws 2)&&p.there s (word ws 3))
 else if word ws 0=[111,117,116]\/word ws 0=[105,102]\/word ws 0=[101,110,100]\/word ws 0=[109,97,116,99,104]then(s,p.there s (word ws 1))
 else if word ws 0=[110,101,119]then(p.now s (word ws 1) [119],p.there s (word ws 2)&&cy p s (word ws 1))
 else if word ws 0=[108,111,97,100]then(p.now s (word ws 1) [119],p.there s (word ws 2))
 else if word ws 0=[115,116,111,114,101]then(s,p.there s (word ws 1)&&p.there s (word ws 2))
 else if word ws 0=[110,111,110,101]then(p.now s (word ws 1) [110],true)
 else if word ws 0=[100,114,111,112]then(p.now s (word ws 1) (left (word ws 1)),cy p s (word ws 1))
 else if word ws 0=[109,111,118,101]\/word ws 0=[115,111,109,101]then RP.cK p ws s
 else(s,true)
end Sq
end Go.Proofs.YtmlgajhhnojdjaaGreatDoor

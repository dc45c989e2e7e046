import Derived.Test.YtmlgajhhnojdjaaGreatDoorRAP
namespace Go.Proofs.YtmlgajhhnojdjaaGreatDoor
namespace RefI
open Go.RowKit Sq RefA RefB RefC RefD RefG Aux
theorem tw (p:RP)(c:UInt8)(w:B):p.rh c w=
  if((c.toNat:Int)==105)=true\/((c.toNat:Int)==111)=true\/((c.toNat:Int)==112)=true\/((c.toNat:Int)==109)=true\/((c.toNat:Int)==100)=true then decide (0<=p.find (aj w))
  else if((c.toNat:Int)==78)=true then decide ((number w).getD 0<p.blocks.length)else true:=by
 have e:=fun n hn=>qc c n hn
 have e1:=e 105 (by omega);have e2:=e 111 (by omega);have e3:=e 112 (by omega);have e4:=e 109 (by omega);have e5:=e 100 (by omega);have e6:=e 78 (by omega);simp only[Int.cast_ofNat_Int]at e1 e2 e3 e4 e5 e6;rw[e1,e2,e3,e4,e5,e6];simp only[decide_eq_true_eq,RP.rh];rfl
set_option maxRecDepth 20000 in
set_option maxHeartbeats 1000000 in
theorem O5 (p:RP)(a i:Nat)(w:World)(hp:bf w a p)(cf:p.Ok)(hi:i<p.lines.length)(ew:word (p.line i) 0=cx)(h3:(p.line i).length=3)(hf:0<=p.find (word (p.line i) 1)):
  Calls Tryz.prog 70 #[.pointer (some ⟨a,0,none⟩),.int .i64 i] w fun e w'=>e=.returned (.bool (p.names i))/\∃n,w'=w.drewN n:=by
 obtain⟨j,hj,ou,_⟩:=RP.eA hf;have HN:Hid (p.names i=decide (p.lets.getD j 0=i)):=by unfold Hid RP.names;rw[jb ew,hj];rfl
 have ly:=cf.size;have la:=cf.Hz;obtain⟨gt,ct,ht1,ht1',X3⟩:=hp.EK j ou;generalize p.lets.getD j 0=t at*;obtain⟨g,cap,gl,dt,kq,vB,oa,xQ,hw⟩:=hp.gH i hi;have qT:=hw 0 (by omega);have tQ:=hw 1 (by omega);have hj0:(j:Int)<p.lets.length:=by omega
 have XF:(1:Int)<(p.line i).length:=by omega
 have HF:∀n,Calls Tryz.prog 110 #[.pointer (some ⟨a,0,none⟩),.string (bs (word (p.line i) 1))] (w.drewN n) fun e w'=>e=.returned (.int .i64 j)/\∃m,w'=w.drewN m:=fun n=>
  (mi p a _ (w.drewN n) (hp.drewN n) cf).mono fun e w' ⟨he,m,hm⟩=>⟨by rw[he,hj],n+m,by rw[hm];simp⟩
 have ql:(word (p.line i) 0==[108,101,116])=true:=by rw[ew];rfl
 clear hj hf ew;go_enter Tryz.func70,Tryz.ntmps70
 go_wp2
 go_quiet ((go_at_call 110;exact HF _))
 go_wp2
 go_ret
 refine⟨aP ?_,_,rfl⟩;rw[HN.out,jX];simp;omega
set_option maxRecDepth 20000 in
set_option maxHeartbeats 2000000 in
theorem Lx (p:RP)(a i:Nat)(w:World)(hp:bf w a p)(cf:p.Ok)(hi:i<p.lines.length)(ew:¬word (p.line i) 0=cx)(h3:(behind (word (p.line i) 0) p.raw).1.length+1<=(p.line i).length):
  Calls Tryz.prog 70 #[.pointer (some ⟨a,0,none⟩),.int .i64 i] w fun e w'=>e=.returned (.bool (p.names i))/\∃n,w'=w.drewN n:=by
 have HN:Hid (p.names i=p.et (behind (word (p.line i) 0) p.raw).1 ((p.line i).drop 1)):=by unfold Hid RP.names;rw[ja ew]
 have ly:=cf.size;have De:=cf.ta;have dj:=cf.long;obtain⟨g,cap,gl,dt,kq,vB,oa,xQ,hw⟩:=hp.gH i hi;have FF:=cf.words i hi;have qT:=hw 0 (by omega);have XF:(0:Int)<(p.line i).length:=by omega
 have xV:=hp.raw;obtain⟨bb,cb,RA⟩:=hp.px;have ql:(word (p.line i) 0==[108,101,116])=false:=by simpa [cx]using ew
 have lJ:=po (word (p.line i) 0) p.raw;clear ew;go_enter Tryz.func70,Tryz.ntmps70
 go_wp2
 go_quiet ((go_at_call 87;exact Calls.quiet_of_same (rT _ _ _)))
 go_wp2
 generalize (behind (word (p.line i) 0) p.raw).1=f at*;go_loopw [8] (fun kk wr=>∃k:Nat,k<=f.length/\kk=.int .i64 k/\Hid (p.names i=p.et (f.drop k) ((p.line i).drop (k+1)))/\∃n,wr=w.drewN n) (fun kk _=>f.length-(intOf kk).toNat)
 case atStart=>exact⟨0,jQ _,rfl,HN,_,rfl⟩
 case round=>
  obtain⟨k,hk,rfl,HI,n,rfl⟩:=hrel;clear HN;by_cases aL:k<f.length
  ·have HS:Hid (_=_):=p.EO f (p.line i) k aL;have hwk:=hw (k+1) (by omega);have xt:(word (p.line i) (k+1)).length<=maxLen:=jS (dj i (k+1)) (by decide);have YP:(k:Int)+1<(p.line i).length:=by omega
   clear dj hw;go_wp2_with (first
    |(go_at_call 111;refine(vR _ _ xt).mono ?_;rintro e w' ⟨rfl,rfl⟩)
    |(go_at_call 110;refine(mi p a _ _ (hp.drewN _) cf).mono ?_;rintro e w' ⟨rfl,nf,rfl⟩)
    |(go_at_call 112;refine(ya _ _ xt).mono ?_;rintro e w' ⟨rfl,rfl⟩))
   all_goals first
    |(go_ret
      go_light
      have hx:decide (0<=p.find (aj (word (p.line i) (k+1))))=false:=by simp;omega
      exact⟨aP (by rw[HI.out,HS.out,tw];simp[*]),_,rfl⟩)
    |(go_ret
      go_light
      have hx:decide ((number (word (p.line i) (k+1))).getD 0<p.blocks.length)=false:=by simp;omega
      exact⟨aP (by rw[HI.out,HS.out,tw];simp[*]),_,rfl⟩)
    |(go_roundw
      case rel=>
       go_light
       exact⟨k+1,by omega,by go_num,by rw[HI.out,HS.out,tw];simp[*,Hid],_,rfl⟩
      case measure=>simp[intOf];omega)
  ·go_wp2
   go_ret
   refine⟨aP ?_,n,rfl⟩;rw[HI.out,jT (by omega)];rfl
end RefI
namespace RefJ
open Go.RowKit Sq RefA RefB RefC RefD RefG RefH Aux
theorem bN (p:RP)(c:UInt8)(w w1:B):p.di c w w1=
  if c=110\/c=78\/c=102\/c=118 then true
  else if(p.typeOf w).isEmpty=true then false
  else if(c=105/\(!(p.typeOf w==[105,110,116]))=true)\/(c=112/\(!(p.typeOf w==[98,111,120]))=true)\/(c=111/\(!(p.typeOf w==[111,112,116]))=true)then false
  else if(c=109\/c=100)/\(p.typeOf w==[105,110,116])=true then false
  else if c=109/\(!(p.typeOf w==p.typeOf w1))=true then false else true:=by
 simp only[RP.di,mN,kA,eH,List.isEmpty_iff,Bool.not_eq_true',beq_eq_false_iff_ne,ne_eq,beq_iff_eq]
 repeat' congr
theorem mem_of (f:B)(k:Nat)(h:k<f.length)(c:UInt8)(e:f[k]=c):c∈f:=by rw[<-e];exact jL h
set_option maxRecDepth 20000 in
set_option maxHeartbeats 4000000 in
theorem P1 (p:RP)(a i:Nat)(w:World)(hp:bf w a p)(cf:p.Ok)(hi:i<p.lines.length)(h3:(behind (word (p.line i) 0) p.raw).1.length+1<=(p.line i).length)
  (hn:∀k (h:k<(behind (word (p.line i) 0) p.raw).1.length),(behind (word (p.line i) 0) p.raw).1[k]∈[105,112,109,111,100]->0<=p.find (aj (word (p.line i) (k+1))))
  (hm:109∈(behind (word (p.line i) 0) p.raw).1->0<=p.find (aj (word (p.line i) 1))):
  Calls Tryz.prog 71 #[.pointer (some ⟨a,0,none⟩),.int .i64 i] w fun e w'=>e=.returned (.bool (p.types i))/\∃n,w'=w.drewN n:=by
 have HN:Hid (p.types i=p.fy (word (p.line i) 1) (behind (word (p.line i) 0) p.raw).1 ((p.line i).drop 1)):=rfl;have ly:=cf.size;have dj:=cf.long;obtain⟨g,cap,gl,dt,kq,vB,oa,xQ,hw⟩:=hp.gH i hi;have FF:=cf.words i hi;have qT:=hw 0 (by omega);have XF:(0:Int)<(p.line i).length:=by omega
 have xV:=hp.raw;have lJ:=po (word (p.line i) 0) p.raw;have HK:Hid (∀x∈(behind (word (p.line i) 0) p.raw).1,x∈kinds):=D3 _ _;have HM:Hid (109∈(behind (word (p.line i) 0) p.raw).1->0<=p.find (aj (word (p.line i) 1))):=hm;have Hn:Hid (∀k (h:k<(behind (word (p.line i) 0) p.raw).1.length),(behind (word (p.line i) 0) p.raw).1[k]∈[105,112,109,111,100]->0<=p.find (aj (word (p.line i) (k+1)))):=hn;clear hm hn;go_enter Tryz.func71,Tryz.ntmps71
 go_wp2
 go_quiet ((go_at_call 87;exact Calls.quiet_of_same (rT _ _ _)))
 go_wp2
 generalize (behind (word (p.line i) 0) p.raw).1=f at*;go_loopw [8] (fun kk wr=>∃k:Nat,k<=f.length/\kk=.int .i64 k/\Hid (p.types i=p.fy (word (p.line i) 1) (f.drop k) ((p.line i).drop (k+1)))/\∃n,wr=w.drewN n) (fun kk _=>f.length-(intOf kk).toNat)
 case atStart=>exact⟨0,jQ _,rfl,HN,_,rfl⟩
 case round=>
  obtain⟨k,hk,rfl,HI,n,rfl⟩:=hrel;clear HN;by_cases aL:k<f.length
  ·have HS:Hid (_=_):=p.Fj (word (p.line i) 1) f (p.line i) k aL;have hwk:=hw (k+1) (by omega);have tQ:=hw 1 (by omega);have xt:(word (p.line i) (k+1)).length<=maxLen:=jS (dj i (k+1)) (by decide);have tn:(word (p.line i) 1).length<=maxLen:=jS (dj i 1) (by decide);have YP:(k:Int)+1<(p.line i).length:=by omega
   have hk4:(1:Int)<(p.line i).length:=by omega
   have Hk:=HK.out _ (jL aL);have Ms:=Hn.out k aL;have Hm:f[k]=109->0<=p.find (aj (word (p.line i) 1)):=fun e=>HM.out (mem_of f k aL _ e)
   clear dj hw HK Hn HM;simp only[kinds,List.mem_cons,List.not_mem_nil,or_false]at Hk;have HT:Hid (∀l:B,l.length<=maxLen->0<=p.find (aj l)->∀n,Calls Tryz.prog 113 #[.pointer (some ⟨a,0,none⟩),.string (bs l)] (w.drewN n) fun e w'=>e=.returned (.string (bs (p.typeOf l)))/\∃m,w'=w.drewN m):=
    fun l hl hf n=>(iB p a l (w.drewN n) (hp.drewN n) cf hl hf).mono fun e w' ⟨he,m,hm⟩=>⟨he,n+m,by rw[hm];simp⟩
   rcases Hk with E|E|E|E|E|E|E|E|E
   ·have Od:=Ms (by simp[E]);have Oe:f[k].toNat=105:=by rw[E];rfl
    have HE:Hid (f[k]=105):=E;clear Ms Hm E;go_wp2_with (go_at_call 113;refine(HT.out _ (by assumption) (by assumption) _).mono ?_;rintro e w' ⟨rfl,nf,rfl⟩)
    all_goals first
     |(go_ret
       go_light
       exact⟨aP (by rw[HI.out,HS.out,HE.out,bN];first|(simp[*];done)|simp_all),_,rfl⟩)
     |(go_roundw
       case rel=>
        go_light
        exact⟨k+1,by omega,by go_num,by rw[HI.out,HS.out,HE.out,bN];first|(simp[*,Hid];done)|simp_all [Hid],_,rfl⟩
       case measure=>simp[intOf];omega)
   ·have Oe:f[k].toNat=110:=by rw[E];rfl
    have HE:Hid (f[k]=110):=E;clear Ms Hm E;go_wp2
    all_goals first
     |(go_ret
       go_light
       exact⟨aP (by rw[HI.out,HS.out,HE.out,bN];first|(simp[*];done)|simp_all),_,rfl⟩)
     |(go_roundw
       case rel=>
        go_light
        exact⟨k+1,by omega,by go_num,by rw[HI.out,HS.out,HE.out,bN];first|(simp[*,Hid];done)|simp_all [Hid],_,rfl⟩
       case measure=>simp[intOf];omega)
   ·have Od:=Ms (by simp[E]);have Oe:f[k].toNat=112:=by rw[E];rfl
    have HE:Hid (f[k]=112):=E;clear Ms Hm E;go_wp2_with (go_at_call 113;refine(HT.out _ (by assumption) (by assumption) _).mono ?_;rintro e w' ⟨rfl,nf,rfl⟩)
    all_goals first
     |(go_ret
       go_light
       exact⟨aP (by rw[HI.out,HS.out,HE.out,bN];first|(simp[*];done)|simp_all),_,rfl⟩)
     |(go_roundw
       case rel=>
        go_light
        exact⟨k+1,by omega,by go_num,by rw[HI.out,HS.out,HE.out,bN];first|(simp[*,Hid];done)|simp_all [Hid],_,rfl⟩
       case measure=>simp[intOf];omega)
   ·have Od:=Ms (by simp[E]);have pG:=Hm E;have Oe:f[k].toNat=109:=by rw[E];rfl
    have HE:Hid (f[k]=109):=E;clear Ms Hm E;go_wp2_with (go_at_call 113;refine(HT.out _ (by assumption) (by assumption) _).mono ?_;rintro e w' ⟨rfl,nf,rfl⟩)
    all_goals first
     |(go_ret
       go_light
       exact⟨aP (by rw[HI.out,HS.out,HE.out,bN];first|(simp[*];done)|simp_all),_,rfl⟩)
     |(go_roundw
       case rel=>
        go_light
        exact⟨k+1,by omega,by go_num,by rw[HI.out,HS.out,HE.out,bN];first|(simp[*,Hid];done)|simp_all [Hid],_,rfl⟩
       case measure=>simp[intOf];omega)
   ·have Od:=Ms (by simp[E]);have Oe:f[k].toNat=111:=by rw[E];rfl
    have HE:Hid (f[k]=111):=E;clear Ms Hm E;go_wp2_with (go_at_call 113;refine(HT.out _ (by assumption) (by assumption) _).mono ?_;rintro e w' ⟨rfl,nf,rfl⟩)
    all_goals first
     |(go_ret
       go_light
       exact⟨aP (by rw[HI.out,HS.out,HE.out,bN];first|(simp[*];done)|simp_all),_,rfl⟩)
     |(go_roundw
       case rel=>
        go_light
        exact⟨k+1,by omega,by go_num,by rw[HI.out,HS.out,HE.out,bN];first|(simp[*,Hid];done)|simp_all [Hid],_,rfl⟩
       case measure=>simp[intOf];omega)
   ·have Oe:f[k].toNat=78:=by rw[E];rfl
    have HE:Hid (f[k]=78):=E;clear Ms Hm E;go_wp2
    all_goals first
     |(go_ret
       go_light
       exact⟨aP (by rw[HI.out,HS.out,HE.out,bN];first|(simp[*];done)|simp_all),_,rfl⟩)
     |(go_roundw
       case rel=>
        go_light
        exact⟨k+1,by omega,by go_num,by rw[HI.out,HS.out,HE.out,bN];first|(simp[*,Hid];done)|simp_all [Hid],_,rfl⟩
       case measure=>simp[intOf];omega)
   ·have Od:=Ms (by simp[E]);have Oe:f[k].toNat=100:=by rw[E];rfl
    have HE:Hid (f[k]=100):=E;clear Ms Hm E;go_wp2_with (go_at_call 113;refine(HT.out _ (by assumption) (by assumption) _).mono ?_;rintro e w' ⟨rfl,nf,rfl⟩)
    all_goals first
     |(go_ret
       go_light
       exact⟨aP (by rw[HI.out,HS.out,HE.out,bN];first|(simp[*];done)|simp_all),_,rfl⟩)
     |(go_roundw
       case rel=>
        go_light
        exact⟨k+1,by omega,by go_num,by rw[HI.out,HS.out,HE.out,bN];first|(simp[*,Hid];done)|simp_all [Hid],_,rfl⟩
       case measure=>simp[intOf];omega)
   ·have Oe:f[k].toNat=102:=by rw[E];rfl
    have HE:Hid (f[k]=102):=E;clear Ms Hm E;go_wp2
    all_goals first
     |(go_ret
       go_light
       exact⟨aP (by rw[HI.out,HS.out,HE.out,bN];first|(simp[*];done)|simp_all),_,rfl⟩)
     |(go_roundw
       case rel=>
        go_light
        exact⟨k+1,by omega,by go_num,by rw[HI.out,HS.out,HE.out,bN];first|(simp[*,Hid];done)|simp_all [Hid],_,rfl⟩
       case measure=>simp[intOf];omega)
   ·have Oe:f[k].toNat=118:=by rw[E];rfl
    have HE:Hid (f[k]=118):=E;clear Ms Hm E;go_wp2
    all_goals first
     |(go_ret
       go_light
       exact⟨aP (by rw[HI.out,HS.out,HE.out,bN];first|(simp[*];done)|simp_all),_,rfl⟩)
     |(go_roundw
       case rel=>
        go_light
        exact⟨k+1,by omega,by go_num,by rw[HI.out,HS.out,HE.out,bN];first|(simp[*,Hid];done)|simp_all [Hid],_,rfl⟩
       case measure=>simp[intOf];omega)
  ·go_wp2
   go_ret
   refine⟨aP ?_,n,rfl⟩;rw[HI.out,jT (by omega)];rfl
end RefJ
namespace RefK
open Go.RowKit Sq RefA RefB RefC RefD RefF RefG Aux
theorem Gq (p:RP)(i:Nat)(h:word (p.line i) 0=cx)(h1:(p.line i).length=3)(h2:¬0<p.blocks.length)(h3:¬12<=p.lets.length):p.form i=(isName (word (p.line i) 1)&&(word (p.line i) 2==[105,110,116]||word (p.line i) 2==[98,111,120]||word (p.line i) 2==[112,97,105,114]||word (p.line i) 2==[111,112,116])):=by
 rw[RP.form,jb h,ja (by omega)];rfl
theorem qL (p:RP)(i:Nat)(h:word (p.line i) 0=cx)(h1:¬(p.line i).length=3\/0<p.blocks.length\/12<=p.lets.length):p.form i=false:=by
 rw[RP.form,jb h,jb (by omega)]
set_option maxRecDepth 20000 in
set_option maxHeartbeats 2000000 in
theorem Ra (p:RP)(a i:Nat)(w:World)(hp:bf w a p)(cf:p.Ok)(hi:i<p.lines.length)(ew:word (p.line i) 0=cx):
  Calls Tryz.prog 68 #[.pointer (some ⟨a,0,none⟩),.int .i64 i] w fun e w'=>e=.returned (.bool (p.form i))/\∃n,w'=w.drewN n:=by
 have ly:=cf.size;have la:=cf.Hz;have De:=cf.ta;have Wv:=cf.wide i;obtain⟨g,cap,gl,dt,kq,vB,oa,xQ,hw⟩:=hp.gH i hi;have FF:=cf.words i hi;have qT:=hw 0 (by omega);obtain⟨bl,cl,hlen⟩:=hp.q9;obtain⟨bb,cb,RA⟩:=hp.px;have HW:Hid (word (p.line i) 0=cx):=ew;have ql:(word (p.line i) 0==[108,101,116])=true:=by rw[ew];rfl
 have tn:(word (p.line i) 1).length<=maxLen:=jS (cf.long i 1) (by decide);clear ew;by_cases h3:(p.line i).length=3
 ·by_cases hb:0<p.blocks.length
  ·have HE:Hid (p.form i=false):=qL p i HW.out (.inr (.inl hb));clear hw;go_enter Tryz.func68,Tryz.ntmps68
   go_wp2_with (go_at_call 69;refine(iu p a i _ hp cf (by omega)).mono ?_;rintro e w' ⟨rfl,n,rfl⟩)
   go_ret
   exact⟨aP HE.out.symm,_,rfl⟩
  ·by_cases hl:12<=p.lets.length
   ·have HE:Hid (p.form i=false):=qL p i HW.out (.inr (.inr hl));clear hw;go_enter Tryz.func68,Tryz.ntmps68
    go_wp2_with (go_at_call 69;refine(iu p a i _ hp cf (by omega)).mono ?_;rintro e w' ⟨rfl,n,rfl⟩)
    go_ret
    exact⟨aP HE.out.symm,_,rfl⟩
   ·have HE:Hid (_=_):=Gq p i HW.out h3 hb hl;have tQ:=hw 1 (by omega);have hw2:=hw 2 (by omega);have h31:(1:Int)<(p.line i).length:=by omega
    have h32:(2:Int)<(p.line i).length:=by omega
    clear hw;go_enter Tryz.func68,Tryz.ntmps68
    go_wp2_with (first
     |(go_at_call 69;refine(iu p a i _ hp cf (by omega)).mono ?_;rintro e w' ⟨rfl,n,rfl⟩)
     |(go_at_call 108;refine(xY _ _ tn).mono ?_;rintro e w' ⟨rfl,rfl⟩))
    all_goals
     go_ret
     refine⟨aP ?_,_,rfl⟩;go_light
     rw[HE.out];first|(simp[*];done)|simp_all
 ·have HE:Hid (p.form i=false):=qL p i HW.out (.inl h3);clear hw;go_enter Tryz.func68,Tryz.ntmps68
  go_wp2_with (go_at_call 69;refine(iu p a i _ hp cf (by omega)).mono ?_;rintro e w' ⟨rfl,n,rfl⟩)
  go_ret
  exact⟨aP HE.out.symm,_,rfl⟩
end RefK
namespace RefL
open Go.RowKit Sq RefA RefB RefC RefD RefF RefG RefK Aux
theorem Ch (p:RP)(i:Nat)(h:word (p.line i) 0=aR):p.form i=(decide ((p.line i).length=1)&& !p.inside i&&decide (0<p.lets.length)&&decide (p.blocks.length<if p.raw then 2000 else 20)):=by
 rw[RP.form,ja (by rw[h];decide),jb h]
set_option maxRecDepth 20000 in
set_option maxHeartbeats 2000000 in
theorem J5 (p:RP)(a i:Nat)(w:World)(hp:bf w a p)(cf:p.Ok)(hi:i<p.lines.length)(bV:word (p.line i) 0=aR):
  Calls Tryz.prog 68 #[.pointer (some ⟨a,0,none⟩),.int .i64 i] w fun e w'=>e=.returned (.bool (p.form i))/\∃n,w'=w.drewN n:=by
 have ly:=cf.size;have la:=cf.Hz;have De:=cf.ta;have Wv:=cf.wide i;obtain⟨g,cap,gl,dt,kq,vB,oa,xQ,hw⟩:=hp.gH i hi;have FF:=cf.words i hi;have qT:=hw 0 (by omega);have XF:(0:Int)<(p.line i).length:=by omega
 obtain⟨bl,cl,hlen⟩:=hp.q9;obtain⟨bb,cb,RA⟩:=hp.px;have xV:=hp.raw;have HE:Hid (_=_):=Ch p i bV;have ql:(word (p.line i) 0==[108,101,116])=false:=by rw[bV];rfl
 have B7:(word (p.line i) 0==[98,108,111,99,107])=true:=by rw[bV];rfl
 have FG:=iu p a i w hp cf (by omega);clear bV hw;cases lg:p.inside i<;>cases hr:p.raw
 all_goals
  rw[lg]at FG;rw[hr]at xV;have Hin:Hid (_=_):=lg;have Hr:Hid (_=_):=hr;clear lg hr;go_enter Tryz.func68,Tryz.ntmps68
  go_wp2_with (go_at_call 69;refine FG.mono ?_;rintro e w' ⟨rfl,n,rfl⟩)
  all_goals
   go_ret
   refine⟨aP ?_,_,rfl⟩;go_light
   rw[HE.out,Hin.out,Hr.out,jX];simp;try omega
theorem Ek (p:RP)(i:Nat)(h1:¬word (p.line i) 0=cx)(h2:¬word (p.line i) 0=aR)(h:(behind (word (p.line i) 0) p.raw).2=false\/p.inside i=false\/¬(p.line i).length=(behind (word (p.line i) 0) p.raw).1.length+1):p.form i=false:=by
 rw[RP.form,ja h1,ja h2,jb h]
theorem Ej (p:RP)(i:Nat)(h1:¬word (p.line i) 0=cx)(h2:¬word (p.line i) 0=aR)(h:(behind (word (p.line i) 0) p.raw).2=true)(h':p.inside i=true)(h'':(p.line i).length=(behind (word (p.line i) 0) p.raw).1.length+1):p.form i=jo (behind (word (p.line i) 0) p.raw).1 ((p.line i).drop 1):=by
 rw[RP.form,ja h1,ja h2,ja];simp[h,h',h'']
set_option maxRecDepth 20000 in
set_option maxHeartbeats 2000000 in
theorem N2 (p:RP)(a i:Nat)(w:World)(hp:bf w a p)(cf:p.Ok)(hi:i<p.lines.length)(hl:¬word (p.line i) 0=cx)(hb:¬word (p.line i) 0=aR):
  Calls Tryz.prog 68 #[.pointer (some ⟨a,0,none⟩),.int .i64 i] w fun e w'=>e=.returned (.bool (p.form i))/\∃n,w'=w.drewN n:=by
 have ly:=cf.size;have Wv:=cf.wide i;have dj:=cf.long;obtain⟨g,cap,gl,dt,kq,vB,oa,xQ,hw⟩:=hp.gH i hi;have FF:=cf.words i hi;have qT:=hw 0 (by omega);have XF:(0:Int)<(p.line i).length:=by omega
 have xV:=hp.raw;have HN:Hid (∀h:(behind (word (p.line i) 0) p.raw).2=false\/p.inside i=false\/¬(p.line i).length=(behind (word (p.line i) 0) p.raw).1.length+1,p.form i=false):=Ek p i hl hb;have HE:Hid (∀(h:(behind (word (p.line i) 0) p.raw).2=true) (h':p.inside i=true) (h'':(p.line i).length=(behind (word (p.line i) 0) p.raw).1.length+1),p.form i=jo (behind (word (p.line i) 0) p.raw).1 ((p.line i).drop 1)):=Ej p i hl hb;have ql:(word (p.line i) 0==[108,101,116])=false:=by simpa [cx]using hl
 have B7:(word (p.line i) 0==[98,108,111,99,107])=false:=by simpa [aR]using hb
 have FG:=iu p a i w hp cf (by omega);have HB:∀W,Calls Tryz.prog 87 #[.string (bs (word (p.line i) 0)),.bool p.raw] W fun e w'=>e=.returned (.tuple #[.string (bs (behind (word (p.line i) 0) p.raw).1),.bool (behind (word (p.line i) 0) p.raw).2])/\w'=W:=fun W=>rT _ _ _
 have lJ:=po (word (p.line i) 0) p.raw;clear hl hb;generalize (behind (word (p.line i) 0) p.raw).1=f at*;generalize (behind (word (p.line i) 0) p.raw).2=ok at*;generalize p.inside i=inn at*;cases ok
 ·have hx:=HN.out (.inl rfl);clear HN HE;go_enter Tryz.func68,Tryz.ntmps68
  go_wp2_with (go_at_call 69;refine FG.mono ?_;rintro e w' ⟨rfl,n,rfl⟩)
  go_quiet ((go_at_call 87;exact(HB _).mono fun _ _ ⟨he,hm⟩=>⟨he,_,hm⟩))
  go_wp2
  go_ret
  exact⟨aP hx.symm,_,rfl⟩
 cases inn
 ·have hx:=HN.out (.inr (.inl rfl));clear HN HE;go_enter Tryz.func68,Tryz.ntmps68
  go_wp2_with (go_at_call 69;refine FG.mono ?_;rintro e w' ⟨rfl,n,rfl⟩)
  go_quiet ((go_at_call 87;exact(HB _).mono fun _ _ ⟨he,hm⟩=>⟨he,_,hm⟩))
  go_wp2
  go_ret
  exact⟨aP hx.symm,_,rfl⟩
 by_cases h3:(p.line i).length=f.length+1
 ·have HX:Hid (_=_):=HE.out rfl rfl h3;clear HN HE;go_enter Tryz.func68,Tryz.ntmps68
  go_wp2_with (go_at_call 69;refine FG.mono ?_;rintro e w' ⟨rfl,n,rfl⟩)
  go_quiet ((go_at_call 87;exact(HB _).mono fun _ _ ⟨he,hm⟩=>⟨he,_,hm⟩))
  go_wp2
  clear HB FG;go_loopw [12] (fun kk wr=>∃k:Nat,k<=f.length/\kk=.int .i64 k/\Hid (p.form i=jo (f.drop k) ((p.line i).drop (k+1)))/\∃n,wr=w.drewN n) (fun kk _=>f.length-(intOf kk).toNat)
  case atStart=>exact⟨0,jQ _,rfl,HX,_,rfl⟩
  case round=>
   obtain⟨k,hk,rfl,HI,n,rfl⟩:=hrel;by_cases aL:k<f.length
   ·have HS:Hid (_=_):=Gn f (p.line i) k aL;have hwk:=hw (k+1) (by omega);have xt:(word (p.line i) (k+1)).length<=maxLen:=jS (dj i (k+1)) (by decide);have YP:(k:Int)+1<(p.line i).length:=by omega
    have hk5:(k:Int)<f.length:=by omega
    have HWD:∀W,Calls Tryz.prog 109 #[.int .u8 f[k].toNat,.string (bs (word (p.line i) (k+1)))] W fun e w'=>e=.returned (.bool (iC f[k] (word (p.line i) (k+1))))/\w'=W:=fun W=>P2 _ _ _ xt
    clear dj hw;go_wp2
    go_quiet ((go_at_call 109;exact(HWD _).mono fun _ _ ⟨he,hm⟩=>⟨he,_,hm⟩))
    go_wp2
    ·go_ret
     go_light
     refine⟨aP ?_,_,rfl⟩;rw[HI.out,HS.out];simp_all
    ·go_roundw
     case rel=>
      go_light
      exact⟨k+1,by omega,by go_num,by rw[HI.out,HS.out];simp_all [Hid],_,rfl⟩
     case measure=>simp[intOf];omega
   ·go_wp2
    go_ret
    refine⟨aP ?_,n,rfl⟩;rw[HI.out,jT (by omega)];rfl
 ·have hx:=HN.out (.inr (.inr h3));clear HN HE;go_enter Tryz.func68,Tryz.ntmps68
  go_wp2_with (go_at_call 69;refine FG.mono ?_;rintro e w' ⟨rfl,n,rfl⟩)
  go_quiet ((go_at_call 87;exact(HB _).mono fun _ _ ⟨he,hm⟩=>⟨he,_,hm⟩))
  go_wp2
  go_ret
  exact⟨aP hx.symm,_,rfl⟩
theorem Q9 (p:RP)(a i:Nat)(w:World)(hp:bf w a p)(cf:p.Ok)(hi:i<p.lines.length):
  Calls Tryz.prog 68 #[.pointer (some ⟨a,0,none⟩),.int .i64 i] w fun e w'=>e=.returned (.bool (p.form i))/\∃n,w'=w.drewN n:=by
 by_cases hl:word (p.line i) 0=cx
 ·exact Ra p a i w hp cf hi hl
 by_cases hb:word (p.line i) 0=aR
 ·exact J5 p a i w hp cf hi hb
 ·exact N2 p a i w hp cf hi hl hb
end RefL
namespace RefN
open Go.RowKit Sq RefA RefI RefJ Aux
theorem Sw (p:RP)(a i:Nat)(w:World)(hp:bf w a p)(cf:p.Ok)(hi:i<p.lines.length)(hl:p.gO i):
  Calls Tryz.prog 70 #[.pointer (some ⟨a,0,none⟩),.int .i64 i] w fun e w'=>e=.returned (.bool (p.names i))/\∃n,w'=w.drewN n:=by
 unfold RP.gO at hl;by_cases ew:word (p.line i) 0=cx
 ·rw[jb ew]at hl;exact O5 p a i w hp cf hi ew hl.1 (RP.Q0 hl.2)
 ·rw[ja ew]at hl;exact Lx p a i w hp cf hi ew hl
theorem TG (p:RP)(a i:Nat)(w:World)(hp:bf w a p)(cf:p.Ok)(hi:i<p.lines.length)(hl:p.gO i)(ew:¬word (p.line i) 0=cx)(hn:p.names i=true):
  Calls Tryz.prog 71 #[.pointer (some ⟨a,0,none⟩),.int .i64 i] w fun e w'=>e=.returned (.bool (p.types i))/\∃n,w'=w.drewN n:=by
 unfold RP.gO at hl;rw[ja ew]at hl;exact P1 p a i w hp cf hi hl (fun k hk hc=>RP.iw hn ew k hk hc) (fun hm=>RP.Vo hn ew hm)
end RefN
end Go.Proofs.YtmlgajhhnojdjaaGreatDoor

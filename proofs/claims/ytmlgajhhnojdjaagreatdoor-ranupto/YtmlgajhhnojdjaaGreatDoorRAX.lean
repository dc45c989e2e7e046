import Derived.Test.YtmlgajhhnojdjaaGreatDoorRAN
namespace Go.Proofs.YtmlgajhhnojdjaaGreatDoor
namespace RefZd
open Go.RowKit Sq RefT RefU RefV RefW RefX RefY RefZ RefZa RefZb Aux
theorem MN {p:RP}{i:Nat}{f:B}(N:p.names i=true)(hl:¬word (p.line i) 0=cv)(hb:(behind (word (p.line i) 0) p.raw).1=f)(k:Nat)(hk:k<f.length)(hc:f[k]∈[(105:UInt8),112,109,111,100]):0<=p.find (ai (word (p.line i) (k+1))):=by
 subst hb;exact RP.iv N hl k hk hc
theorem Lf {raw:Bool}{ws:List B}(h:dI raw ws=true)(hl:¬word ws 0=cv)(hb:¬word ws 0=aQ):(behind (word ws 0) raw).2=true/\ws.length=(behind (word ws 0) raw).1.length+1:=by
 unfold dI at h;rw[ja hl,ja hb]at h;simp only[Bool.and_eq_true,decide_eq_true_eq]at h;exact h.1
def l8:List B:=[[115,101,116],[105,110],[97,100,100],[115,117,98],[109,117,108],[100,105,118],[111,117,116],[105,102],[101,110,100],[109,97,116,99,104],[110,101,119],[108,111,97,100],[115,116,111,114,101],[110,111,110,101],[100,114,111,112],[109,111,118,101],[115,111,109,101],[103,111,116,111]]
theorem po (w:B)(h:(behind w false).2=true):w∈l8:=by
 by_cases hn:w∈l8
 ·exact hn
 ·exfalso;simp only[l8,List.mem_cons,List.not_mem_nil,or_false,not_or]at hn;obtain⟨h1,h2,h3,h4,h5,h6,h7,h8,h9,V5,oL,cf,En,B5,su,YD,YE,sv⟩:=hn;unfold behind at h;simp only[h1,h2,h3,h4,h5,h6,h7,h8,h9,V5,oL,cf,En,B5,su,YD,YE,sv,or_self,if_false]at h
  repeat (split at h<;>first|(cases h;done)|skip)
theorem Tq (p:RP)(a:Nat)(s:WS)(i:Nat)(gw cw:Nat)(w:World)(H:iT p a s (p.line i) gw w)(hF:dI false (p.line i)=true)(hN:p.names i=true)(hr:p.raw=false)(hs:s.dS):
  Calls Tryz.prog 84 #[.pointer (some ⟨a,0,none⟩),.slice (some ⟨gw,0,none⟩) (p.line i).length cw,s.val] w fun e w'=>e=.returned (.tuple #[(p.step (p.line i) s).1.val,.bool (p.step (p.line i) s).2])/\Below w.heap.size w w':=by
 by_cases hl:word (p.line i) 0=cv
 ·exact tH p a s _ gw cw w H H.one (.inr (.inr hl))
 by_cases hb:word (p.line i) 0=aQ
 ·exact tH p a s _ gw cw w H H.one (.inr (.inl hb))
 obtain⟨h1,h2⟩:=Lf hF hl hb;have hB:=fun f (e:(behind (word (p.line i) 0) false).1=f)=> @MN p i f hN hl (by rw[hr];exact e)
 have hm:=po _ h1;simp only[l8,List.mem_cons,List.not_mem_nil,or_false]at hm;rcases hm with h|h|h|h|h|h|h|h|h|h|h|h|h|h|h|h|h|h
 ·have hf:(behind (word (p.line i) 0) false).1=[105,110]:=by rw[h];rfl
  exact I3 p a s _ gw cw w H (by rw[h2,hf];decide) (hB _ hf 0 (by simp) (by simp)) (.inl h)
 ·have hf:(behind (word (p.line i) 0) false).1=[105]:=by rw[h];rfl
  exact I3 p a s _ gw cw w H (by rw[h2,hf];decide) (hB _ hf 0 (by simp) (by simp)) (.inr (h))
 ·have hf:(behind (word (p.line i) 0) false).1=[105,105,105]:=by rw[h];rfl
  exact p8 p a s _ gw cw w H (by rw[h2,hf];decide) (hB _ hf 0 (by simp) (by simp)) (hB _ hf 1 (by simp) (by simp)) (hB _ hf 2 (by simp) (by simp)) (.inl h)
 ·have hf:(behind (word (p.line i) 0) false).1=[105,105,105]:=by rw[h];rfl
  exact p8 p a s _ gw cw w H (by rw[h2,hf];decide) (hB _ hf 0 (by simp) (by simp)) (hB _ hf 1 (by simp) (by simp)) (hB _ hf 2 (by simp) (by simp)) (.inr (.inl h))
 ·have hf:(behind (word (p.line i) 0) false).1=[105,105,105]:=by rw[h];rfl
  exact p8 p a s _ gw cw w H (by rw[h2,hf];decide) (hB _ hf 0 (by simp) (by simp)) (hB _ hf 1 (by simp) (by simp)) (hB _ hf 2 (by simp) (by simp)) (.inr (.inr (.inl h)))
 ·have hf:(behind (word (p.line i) 0) false).1=[105,105,105]:=by rw[h];rfl
  exact p8 p a s _ gw cw w H (by rw[h2,hf];decide) (hB _ hf 0 (by simp) (by simp)) (hB _ hf 1 (by simp) (by simp)) (hB _ hf 2 (by simp) (by simp)) (.inr (.inr (.inr (h))))
 ·have hf:(behind (word (p.line i) 0) false).1=[105]:=by rw[h];rfl
  exact xk p a s _ gw cw w H (by rw[h2,hf];decide) (hB _ hf 0 (by simp) (by simp)) (.inl h)
 ·have hf:(behind (word (p.line i) 0) false).1=[105,78,78]:=by rw[h];rfl
  exact xk p a s _ gw cw w H (by rw[h2,hf];decide) (hB _ hf 0 (by simp) (by simp)) (.inr (.inl h))
 ·have hf:(behind (word (p.line i) 0) false).1=[105]:=by rw[h];rfl
  exact xk p a s _ gw cw w H (by rw[h2,hf];decide) (hB _ hf 0 (by simp) (by simp)) (.inr (.inr (.inl h)))
 ·have hf:(behind (word (p.line i) 0) false).1=[111,78,78]:=by rw[h];rfl
  exact xk p a s _ gw cw w H (by rw[h2,hf];decide) (hB _ hf 0 (by simp) (by simp)) (.inr (.inr (.inr (h))))
 ·have hf:(behind (word (p.line i) 0) false).1=[112,105]:=by rw[h];rfl
  exact Tr p a s _ gw cw w H (by rw[h2,hf];decide) (hB _ hf 0 (by simp) (by simp)) (hB _ hf 1 (by simp) (by simp)) (h)
 ·have hf:(behind (word (p.line i) 0) false).1=[105,112]:=by rw[h];rfl
  exact PM p a s _ gw cw w H (by rw[h2,hf];decide) (hB _ hf 0 (by simp) (by simp)) (hB _ hf 1 (by simp) (by simp)) (h)
 ·have hf:(behind (word (p.line i) 0) false).1=[112,105]:=by rw[h];rfl
  exact L6 p a s _ gw cw w H (by rw[h2,hf];decide) (hB _ hf 0 (by simp) (by simp)) (hB _ hf 1 (by simp) (by simp)) (h)
 ·have hf:(behind (word (p.line i) 0) false).1=[111]:=by rw[h];rfl
  exact PN p a s _ gw cw w H (by rw[h2,hf];decide) (hB _ hf 0 (by simp) (by simp)) (h)
 ·have hf:(behind (word (p.line i) 0) false).1=[100]:=by rw[h];rfl
  exact step_drop p a s _ gw cw w H (by rw[h2,hf];decide) (hB _ hf 0 (by simp) (by simp)) (h)
 ·have hf:(behind (word (p.line i) 0) false).1=[109,109]:=by rw[h];rfl
  exact BO p a s _ gw cw w H (hB _ hf 0 (by simp) (by simp)) (hB _ hf 1 (by simp) (by simp)) (.inl h) (by rw[h2,hf];rfl) (p.yn hs _).ok
 ·have hf:(behind (word (p.line i) 0) false).1=[111,112]:=by rw[h];rfl
  exact BO p a s _ gw cw w H (hB _ hf 0 (by simp) (by simp)) (hB _ hf 1 (by simp) (by simp)) (.inr (h)) (by rw[h2,hf];rfl) (p.yn hs _).ok
 ·have hf:(behind (word (p.line i) 0) false).1=[78]:=by rw[h];rfl
  exact tH p a s _ gw cw w H (by rw[h2,hf];decide) (.inl h)
end RefZd
namespace RefI
open Go.RowKit Sq RefA RefB RefC RefD RefG Aux
theorem tv (p:RP)(c:UInt8)(w:B):p.re c w=
  if((c.toNat:Int)==105)=true\/((c.toNat:Int)==111)=true\/((c.toNat:Int)==112)=true\/((c.toNat:Int)==109)=true\/((c.toNat:Int)==100)=true then decide (0<=p.find (ai w))
  else if((c.toNat:Int)==78)=true then decide ((number w).getD 0<p.blocks.length)else true:=by
 have e:=fun n hn=>qb c n hn
 have e1:=e 105 (by omega);have e2:=e 111 (by omega);have e3:=e 112 (by omega);have e4:=e 109 (by omega);have e5:=e 100 (by omega);have e6:=e 78 (by omega);simp only[Int.cast_ofNat_Int]at e1 e2 e3 e4 e5 e6;rw[e1,e2,e3,e4,e5,e6];simp only[decide_eq_true_eq,RP.re];rfl
set_option maxRecDepth 20000 in
set_option maxHeartbeats 1000000 in
theorem O4 (p:RP)(a i:Nat)(w:World)(hp:bd w a p)(cd:p.Ok)(hi:i<p.lines.length)(et:word (p.line i) 0=cv)(h3:(p.line i).length=3)(hf:0<=p.find (word (p.line i) 1)):
  Calls Tryz.prog 70 #[.pointer (some ⟨a,0,none⟩),.int .i64 i] w fun e w'=>e=.returned (.bool (p.names i))/\∃n,w'=w.drewN n:=by
 obtain⟨j,hj,ot,_⟩:=RP.ez hf;have HN:Hid (p.names i=decide (p.lets.getD j 0=i)):=by unfold Hid RP.names;rw[jb et,hj];rfl
 have lx:=cd.size;have kZ:=cd.Hy;obtain⟨gt,ct,ht1,ht1',X2⟩:=hp.EJ j ot;generalize p.lets.getD j 0=t at*;obtain⟨g,cap,gl,dr,ko,vA,mZ,xP,hw⟩:=hp.gG i hi;have qS:=hw 0 (by omega);have tP:=hw 1 (by omega);have hj0:(j:Int)<p.lets.length:=by omega
 have XE:(1:Int)<(p.line i).length:=by omega
 have HF:∀n,Calls Tryz.prog 110 #[.pointer (some ⟨a,0,none⟩),.string (bs (word (p.line i) 1))] (w.drewN n) fun e w'=>e=.returned (.int .i64 j)/\∃m,w'=w.drewN m:=fun n=>
  (mh p a _ (w.drewN n) (hp.drewN n) cd).mono fun e w' ⟨he,m,hm⟩=>⟨by rw[he,hj],n+m,by rw[hm];simp⟩
 have qk:(word (p.line i) 0==[108,101,116])=true:=by rw[et];rfl
 clear hj hf et;go_enter Tryz.func70,Tryz.ntmps70
 go_wp2
 go_quiet ((go_at_call 110;exact HF _))
 go_wp2
 go_ret
 refine⟨aO ?_,_,rfl⟩;rw[HN.out,jX];simp;omega
set_option maxRecDepth 20000 in
set_option maxHeartbeats 2000000 in
theorem Lw (p:RP)(a i:Nat)(w:World)(hp:bd w a p)(cd:p.Ok)(hi:i<p.lines.length)(et:¬word (p.line i) 0=cv)(h3:(behind (word (p.line i) 0) p.raw).1.length+1<=(p.line i).length):
  Calls Tryz.prog 70 #[.pointer (some ⟨a,0,none⟩),.int .i64 i] w fun e w'=>e=.returned (.bool (p.names i))/\∃n,w'=w.drewN n:=by
 have HN:Hid (p.names i=p.er (behind (word (p.line i) 0) p.raw).1 ((p.line i).drop 1)):=by unfold Hid RP.names;rw[ja et]
 have lx:=cd.size;have Dd:=cd.s9;have di:=cd.long;obtain⟨g,cap,gl,dr,ko,vA,mZ,xP,hw⟩:=hp.gG i hi;have FE:=cd.words i hi;have qS:=hw 0 (by omega);have XE:(0:Int)<(p.line i).length:=by omega
 have xU:=hp.raw;obtain⟨bb,cb,Rz⟩:=hp.pw;have qk:(word (p.line i) 0==[108,101,116])=false:=by simpa [cv]using et
 have lI:=pn (word (p.line i) 0) p.raw;clear et;go_enter Tryz.func70,Tryz.ntmps70
 go_wp2
 go_quiet ((go_at_call 87;exact Calls.quiet_of_same (rR _ _ _)))
 go_wp2
 generalize (behind (word (p.line i) 0) p.raw).1=f at*;go_loopw [8] (fun kk wr=>∃k:Nat,k<=f.length/\kk=.int .i64 k/\Hid (p.names i=p.er (f.drop k) ((p.line i).drop (k+1)))/\∃n,wr=w.drewN n) (fun kk _=>f.length-(intOf kk).toNat)
 case atStart=>exact⟨0,jQ _,rfl,HN,_,rfl⟩
 case round=>
  obtain⟨k,hk,rfl,HI,n,rfl⟩:=hrel;clear HN;by_cases aK:k<f.length
  ·have HS:Hid (_=_):=p.EN f (p.line i) k aK;have hwk:=hw (k+1) (by omega);have xr:(word (p.line i) (k+1)).length<=maxLen:=jS (di i (k+1)) (by decide);have YO:(k:Int)+1<(p.line i).length:=by omega
   clear di hw;go_wp2_with (first
    |(go_at_call 111;refine(vQ _ _ xr).mono ?_;rintro e w' ⟨rfl,rfl⟩)
    |(go_at_call 110;refine(mh p a _ _ (hp.drewN _) cd).mono ?_;rintro e w' ⟨rfl,nf,rfl⟩)
    |(go_at_call 112;refine(x9 _ _ xr).mono ?_;rintro e w' ⟨rfl,rfl⟩))
   all_goals first
    |(go_ret
      go_light
      have hx:decide (0<=p.find (ai (word (p.line i) (k+1))))=false:=by simp;omega
      exact⟨aO (by rw[HI.out,HS.out,tv];simp[*]),_,rfl⟩)
    |(go_ret
      go_light
      have hx:decide ((number (word (p.line i) (k+1))).getD 0<p.blocks.length)=false:=by simp;omega
      exact⟨aO (by rw[HI.out,HS.out,tv];simp[*]),_,rfl⟩)
    |(go_roundw
      case rel=>
       go_light
       exact⟨k+1,by omega,by go_num,by rw[HI.out,HS.out,tv];simp[*,Hid],_,rfl⟩
      case measure=>simp[intOf];omega)
  ·go_wp2
   go_ret
   refine⟨aO ?_,n,rfl⟩;rw[HI.out,jT (by omega)];rfl
end RefI
namespace RefJ
open Go.RowKit Sq RefA RefB RefC RefD RefG RefH Aux
theorem bM (p:RP)(c:UInt8)(w w1:B):p.dh c w w1=
  if c=110\/c=78\/c=102\/c=118 then true
  else if(p.typeOf w).isEmpty=true then false
  else if(c=105/\(!(p.typeOf w==[105,110,116]))=true)\/(c=112/\(!(p.typeOf w==[98,111,120]))=true)\/(c=111/\(!(p.typeOf w==[111,112,116]))=true)then false
  else if(c=109\/c=100)/\(p.typeOf w==[105,110,116])=true then false
  else if c=109/\(!(p.typeOf w==p.typeOf w1))=true then false else true:=by
 simp only[RP.dh,mM,kz,eG,List.isEmpty_iff,Bool.not_eq_true',beq_eq_false_iff_ne,ne_eq,beq_iff_eq]
 repeat' congr
theorem mem_of (f:B)(k:Nat)(h:k<f.length)(c:UInt8)(e:f[k]=c):c∈f:=by rw[<-e];exact jL h
set_option maxRecDepth 20000 in
set_option maxHeartbeats 4000000 in
theorem P0 (p:RP)(a i:Nat)(w:World)(hp:bd w a p)(cd:p.Ok)(hi:i<p.lines.length)(h3:(behind (word (p.line i) 0) p.raw).1.length+1<=(p.line i).length)
  (hn:∀k (h:k<(behind (word (p.line i) 0) p.raw).1.length),(behind (word (p.line i) 0) p.raw).1[k]∈[105,112,109,111,100]->0<=p.find (ai (word (p.line i) (k+1))))
  (hm:109∈(behind (word (p.line i) 0) p.raw).1->0<=p.find (ai (word (p.line i) 1))):
  Calls Tryz.prog 71 #[.pointer (some ⟨a,0,none⟩),.int .i64 i] w fun e w'=>e=.returned (.bool (p.types i))/\∃n,w'=w.drewN n:=by
 have HN:Hid (p.types i=p.fx (word (p.line i) 1) (behind (word (p.line i) 0) p.raw).1 ((p.line i).drop 1)):=rfl;have lx:=cd.size;have di:=cd.long;obtain⟨g,cap,gl,dr,ko,vA,mZ,xP,hw⟩:=hp.gG i hi;have FE:=cd.words i hi;have qS:=hw 0 (by omega);have XE:(0:Int)<(p.line i).length:=by omega
 have xU:=hp.raw;have lI:=pn (word (p.line i) 0) p.raw;have HK:Hid (∀x∈(behind (word (p.line i) 0) p.raw).1,x∈kinds):=D2 _ _;have HM:Hid (109∈(behind (word (p.line i) 0) p.raw).1->0<=p.find (ai (word (p.line i) 1))):=hm;have Hn:Hid (∀k (h:k<(behind (word (p.line i) 0) p.raw).1.length),(behind (word (p.line i) 0) p.raw).1[k]∈[105,112,109,111,100]->0<=p.find (ai (word (p.line i) (k+1)))):=hn;clear hm hn;go_enter Tryz.func71,Tryz.ntmps71
 go_wp2
 go_quiet ((go_at_call 87;exact Calls.quiet_of_same (rR _ _ _)))
 go_wp2
 generalize (behind (word (p.line i) 0) p.raw).1=f at*;go_loopw [8] (fun kk wr=>∃k:Nat,k<=f.length/\kk=.int .i64 k/\Hid (p.types i=p.fx (word (p.line i) 1) (f.drop k) ((p.line i).drop (k+1)))/\∃n,wr=w.drewN n) (fun kk _=>f.length-(intOf kk).toNat)
 case atStart=>exact⟨0,jQ _,rfl,HN,_,rfl⟩
 case round=>
  obtain⟨k,hk,rfl,HI,n,rfl⟩:=hrel;clear HN;by_cases aK:k<f.length
  ·have HS:Hid (_=_):=p.Fi (word (p.line i) 1) f (p.line i) k aK;have hwk:=hw (k+1) (by omega);have tP:=hw 1 (by omega);have xr:(word (p.line i) (k+1)).length<=maxLen:=jS (di i (k+1)) (by decide);have tm:(word (p.line i) 1).length<=maxLen:=jS (di i 1) (by decide);have YO:(k:Int)+1<(p.line i).length:=by omega
   have hk4:(1:Int)<(p.line i).length:=by omega
   have Hk:=HK.out _ (jL aK);have Mr:=Hn.out k aK;have Hm:f[k]=109->0<=p.find (ai (word (p.line i) 1)):=fun e=>HM.out (mem_of f k aK _ e)
   clear di hw HK Hn HM;simp only[kinds,List.mem_cons,List.not_mem_nil,or_false]at Hk;have HT:Hid (∀l:B,l.length<=maxLen->0<=p.find (ai l)->∀n,Calls Tryz.prog 113 #[.pointer (some ⟨a,0,none⟩),.string (bs l)] (w.drewN n) fun e w'=>e=.returned (.string (bs (p.typeOf l)))/\∃m,w'=w.drewN m):=
    fun l hl hf n=>(iA p a l (w.drewN n) (hp.drewN n) cd hl hf).mono fun e w' ⟨he,m,hm⟩=>⟨he,n+m,by rw[hm];simp⟩
   rcases Hk with E|E|E|E|E|E|E|E|E
   ·have Oc:=Mr (by simp[E]);have Od:f[k].toNat=105:=by rw[E];rfl
    have HE:Hid (f[k]=105):=E;clear Mr Hm E;go_wp2_with (go_at_call 113;refine(HT.out _ (by assumption) (by assumption) _).mono ?_;rintro e w' ⟨rfl,nf,rfl⟩)
    all_goals first
     |(go_ret
       go_light
       exact⟨aO (by rw[HI.out,HS.out,HE.out,bM];first|(simp[*];done)|simp_all),_,rfl⟩)
     |(go_roundw
       case rel=>
        go_light
        exact⟨k+1,by omega,by go_num,by rw[HI.out,HS.out,HE.out,bM];first|(simp[*,Hid];done)|simp_all [Hid],_,rfl⟩
       case measure=>simp[intOf];omega)
   ·have Od:f[k].toNat=110:=by rw[E];rfl
    have HE:Hid (f[k]=110):=E;clear Mr Hm E;go_wp2
    all_goals first
     |(go_ret
       go_light
       exact⟨aO (by rw[HI.out,HS.out,HE.out,bM];first|(simp[*];done)|simp_all),_,rfl⟩)
     |(go_roundw
       case rel=>
        go_light
        exact⟨k+1,by omega,by go_num,by rw[HI.out,HS.out,HE.out,bM];first|(simp[*,Hid];done)|simp_all [Hid],_,rfl⟩
       case measure=>simp[intOf];omega)
   ·have Oc:=Mr (by simp[E]);have Od:f[k].toNat=112:=by rw[E];rfl
    have HE:Hid (f[k]=112):=E;clear Mr Hm E;go_wp2_with (go_at_call 113;refine(HT.out _ (by assumption) (by assumption) _).mono ?_;rintro e w' ⟨rfl,nf,rfl⟩)
    all_goals first
     |(go_ret
       go_light
       exact⟨aO (by rw[HI.out,HS.out,HE.out,bM];first|(simp[*];done)|simp_all),_,rfl⟩)
     |(go_roundw
       case rel=>
        go_light
        exact⟨k+1,by omega,by go_num,by rw[HI.out,HS.out,HE.out,bM];first|(simp[*,Hid];done)|simp_all [Hid],_,rfl⟩
       case measure=>simp[intOf];omega)
   ·have Oc:=Mr (by simp[E]);have pF:=Hm E;have Od:f[k].toNat=109:=by rw[E];rfl
    have HE:Hid (f[k]=109):=E;clear Mr Hm E;go_wp2_with (go_at_call 113;refine(HT.out _ (by assumption) (by assumption) _).mono ?_;rintro e w' ⟨rfl,nf,rfl⟩)
    all_goals first
     |(go_ret
       go_light
       exact⟨aO (by rw[HI.out,HS.out,HE.out,bM];first|(simp[*];done)|simp_all),_,rfl⟩)
     |(go_roundw
       case rel=>
        go_light
        exact⟨k+1,by omega,by go_num,by rw[HI.out,HS.out,HE.out,bM];first|(simp[*,Hid];done)|simp_all [Hid],_,rfl⟩
       case measure=>simp[intOf];omega)
   ·have Oc:=Mr (by simp[E]);have Od:f[k].toNat=111:=by rw[E];rfl
    have HE:Hid (f[k]=111):=E;clear Mr Hm E;go_wp2_with (go_at_call 113;refine(HT.out _ (by assumption) (by assumption) _).mono ?_;rintro e w' ⟨rfl,nf,rfl⟩)
    all_goals first
     |(go_ret
       go_light
       exact⟨aO (by rw[HI.out,HS.out,HE.out,bM];first|(simp[*];done)|simp_all),_,rfl⟩)
     |(go_roundw
       case rel=>
        go_light
        exact⟨k+1,by omega,by go_num,by rw[HI.out,HS.out,HE.out,bM];first|(simp[*,Hid];done)|simp_all [Hid],_,rfl⟩
       case measure=>simp[intOf];omega)
   ·have Od:f[k].toNat=78:=by rw[E];rfl
    have HE:Hid (f[k]=78):=E;clear Mr Hm E;go_wp2
    all_goals first
     |(go_ret
       go_light
       exact⟨aO (by rw[HI.out,HS.out,HE.out,bM];first|(simp[*];done)|simp_all),_,rfl⟩)
     |(go_roundw
       case rel=>
        go_light
        exact⟨k+1,by omega,by go_num,by rw[HI.out,HS.out,HE.out,bM];first|(simp[*,Hid];done)|simp_all [Hid],_,rfl⟩
       case measure=>simp[intOf];omega)
   ·have Oc:=Mr (by simp[E]);have Od:f[k].toNat=100:=by rw[E];rfl
    have HE:Hid (f[k]=100):=E;clear Mr Hm E;go_wp2_with (go_at_call 113;refine(HT.out _ (by assumption) (by assumption) _).mono ?_;rintro e w' ⟨rfl,nf,rfl⟩)
    all_goals first
     |(go_ret
       go_light
       exact⟨aO (by rw[HI.out,HS.out,HE.out,bM];first|(simp[*];done)|simp_all),_,rfl⟩)
     |(go_roundw
       case rel=>
        go_light
        exact⟨k+1,by omega,by go_num,by rw[HI.out,HS.out,HE.out,bM];first|(simp[*,Hid];done)|simp_all [Hid],_,rfl⟩
       case measure=>simp[intOf];omega)
   ·have Od:f[k].toNat=102:=by rw[E];rfl
    have HE:Hid (f[k]=102):=E;clear Mr Hm E;go_wp2
    all_goals first
     |(go_ret
       go_light
       exact⟨aO (by rw[HI.out,HS.out,HE.out,bM];first|(simp[*];done)|simp_all),_,rfl⟩)
     |(go_roundw
       case rel=>
        go_light
        exact⟨k+1,by omega,by go_num,by rw[HI.out,HS.out,HE.out,bM];first|(simp[*,Hid];done)|simp_all [Hid],_,rfl⟩
       case measure=>simp[intOf];omega)
   ·have Od:f[k].toNat=118:=by rw[E];rfl
    have HE:Hid (f[k]=118):=E;clear Mr Hm E;go_wp2
    all_goals first
     |(go_ret
       go_light
       exact⟨aO (by rw[HI.out,HS.out,HE.out,bM];first|(simp[*];done)|simp_all),_,rfl⟩)
     |(go_roundw
       case rel=>
        go_light
        exact⟨k+1,by omega,by go_num,by rw[HI.out,HS.out,HE.out,bM];first|(simp[*,Hid];done)|simp_all [Hid],_,rfl⟩
       case measure=>simp[intOf];omega)
  ·go_wp2
   go_ret
   refine⟨aO ?_,n,rfl⟩;rw[HI.out,jT (by omega)];rfl
end RefJ
namespace RefK
open Go.RowKit Sq RefA RefB RefC RefD RefF RefG Aux
theorem Gp (p:RP)(i:Nat)(h:word (p.line i) 0=cv)(h1:(p.line i).length=3)(h2:¬0<p.blocks.length)(h3:¬12<=p.lets.length):p.form i=(isName (word (p.line i) 1)&&(word (p.line i) 2==[105,110,116]||word (p.line i) 2==[98,111,120]||word (p.line i) 2==[112,97,105,114]||word (p.line i) 2==[111,112,116])):=by
 rw[RP.form,jb h,ja (by omega)];rfl
theorem qK (p:RP)(i:Nat)(h:word (p.line i) 0=cv)(h1:¬(p.line i).length=3\/0<p.blocks.length\/12<=p.lets.length):p.form i=false:=by
 rw[RP.form,jb h,jb (by omega)]
set_option maxRecDepth 20000 in
set_option maxHeartbeats 2000000 in
theorem Q9 (p:RP)(a i:Nat)(w:World)(hp:bd w a p)(cd:p.Ok)(hi:i<p.lines.length)(et:word (p.line i) 0=cv):
  Calls Tryz.prog 68 #[.pointer (some ⟨a,0,none⟩),.int .i64 i] w fun e w'=>e=.returned (.bool (p.form i))/\∃n,w'=w.drewN n:=by
 have lx:=cd.size;have kZ:=cd.Hy;have Dd:=cd.s9;have Wu:=cd.wide i;obtain⟨g,cap,gl,dr,ko,vA,mZ,xP,hw⟩:=hp.gG i hi;have FE:=cd.words i hi;have qS:=hw 0 (by omega);obtain⟨bl,cl,hlen⟩:=hp.q8;obtain⟨bb,cb,Rz⟩:=hp.pw;have HW:Hid (word (p.line i) 0=cv):=et;have qk:(word (p.line i) 0==[108,101,116])=true:=by rw[et];rfl
 have tm:(word (p.line i) 1).length<=maxLen:=jS (cd.long i 1) (by decide);clear et;by_cases h3:(p.line i).length=3
 ·by_cases hb:0<p.blocks.length
  ·have HE:Hid (p.form i=false):=qK p i HW.out (.inr (.inl hb));clear hw;go_enter Tryz.func68,Tryz.ntmps68
   go_wp2_with (go_at_call 69;refine(ir p a i _ hp cd (by omega)).mono ?_;rintro e w' ⟨rfl,n,rfl⟩)
   go_ret
   exact⟨aO HE.out.symm,_,rfl⟩
  ·by_cases hl:12<=p.lets.length
   ·have HE:Hid (p.form i=false):=qK p i HW.out (.inr (.inr hl));clear hw;go_enter Tryz.func68,Tryz.ntmps68
    go_wp2_with (go_at_call 69;refine(ir p a i _ hp cd (by omega)).mono ?_;rintro e w' ⟨rfl,n,rfl⟩)
    go_ret
    exact⟨aO HE.out.symm,_,rfl⟩
   ·have HE:Hid (_=_):=Gp p i HW.out h3 hb hl;have tP:=hw 1 (by omega);have hw2:=hw 2 (by omega);have h31:(1:Int)<(p.line i).length:=by omega
    have h32:(2:Int)<(p.line i).length:=by omega
    clear hw;go_enter Tryz.func68,Tryz.ntmps68
    go_wp2_with (first
     |(go_at_call 69;refine(ir p a i _ hp cd (by omega)).mono ?_;rintro e w' ⟨rfl,n,rfl⟩)
     |(go_at_call 108;refine(xX _ _ tm).mono ?_;rintro e w' ⟨rfl,rfl⟩))
    all_goals
     go_ret
     refine⟨aO ?_,_,rfl⟩;go_light
     rw[HE.out];first|(simp[*];done)|simp_all
 ·have HE:Hid (p.form i=false):=qK p i HW.out (.inl h3);clear hw;go_enter Tryz.func68,Tryz.ntmps68
  go_wp2_with (go_at_call 69;refine(ir p a i _ hp cd (by omega)).mono ?_;rintro e w' ⟨rfl,n,rfl⟩)
  go_ret
  exact⟨aO HE.out.symm,_,rfl⟩
end RefK
namespace RefL
open Go.RowKit Sq RefA RefB RefC RefD RefF RefG RefK Aux
theorem Cg (p:RP)(i:Nat)(h:word (p.line i) 0=aQ):p.form i=(decide ((p.line i).length=1)&& !p.inside i&&decide (0<p.lets.length)&&decide (p.blocks.length<if p.raw then 2000 else 20)):=by
 rw[RP.form,ja (by rw[h];decide),jb h]
set_option maxRecDepth 20000 in
set_option maxHeartbeats 2000000 in
theorem J4 (p:RP)(a i:Nat)(w:World)(hp:bd w a p)(cd:p.Ok)(hi:i<p.lines.length)(bU:word (p.line i) 0=aQ):
  Calls Tryz.prog 68 #[.pointer (some ⟨a,0,none⟩),.int .i64 i] w fun e w'=>e=.returned (.bool (p.form i))/\∃n,w'=w.drewN n:=by
 have lx:=cd.size;have kZ:=cd.Hy;have Dd:=cd.s9;have Wu:=cd.wide i;obtain⟨g,cap,gl,dr,ko,vA,mZ,xP,hw⟩:=hp.gG i hi;have FE:=cd.words i hi;have qS:=hw 0 (by omega);have XE:(0:Int)<(p.line i).length:=by omega
 obtain⟨bl,cl,hlen⟩:=hp.q8;obtain⟨bb,cb,Rz⟩:=hp.pw;have xU:=hp.raw;have HE:Hid (_=_):=Cg p i bU;have qk:(word (p.line i) 0==[108,101,116])=false:=by rw[bU];rfl
 have B6:(word (p.line i) 0==[98,108,111,99,107])=true:=by rw[bU];rfl
 have FF:=ir p a i w hp cd (by omega);clear bU hw;cases lf:p.inside i<;>cases hr:p.raw
 all_goals
  rw[lf]at FF;rw[hr]at xU;have Hin:Hid (_=_):=lf;have Hr:Hid (_=_):=hr;clear lf hr;go_enter Tryz.func68,Tryz.ntmps68
  go_wp2_with (go_at_call 69;refine FF.mono ?_;rintro e w' ⟨rfl,n,rfl⟩)
  all_goals
   go_ret
   refine⟨aO ?_,_,rfl⟩;go_light
   rw[HE.out,Hin.out,Hr.out,jX];simp;try omega
theorem Ej (p:RP)(i:Nat)(h1:¬word (p.line i) 0=cv)(h2:¬word (p.line i) 0=aQ)(h:(behind (word (p.line i) 0) p.raw).2=false\/p.inside i=false\/¬(p.line i).length=(behind (word (p.line i) 0) p.raw).1.length+1):p.form i=false:=by
 rw[RP.form,ja h1,ja h2,jb h]
theorem Ei (p:RP)(i:Nat)(h1:¬word (p.line i) 0=cv)(h2:¬word (p.line i) 0=aQ)(h:(behind (word (p.line i) 0) p.raw).2=true)(h':p.inside i=true)(h'':(p.line i).length=(behind (word (p.line i) 0) p.raw).1.length+1):p.form i=jn (behind (word (p.line i) 0) p.raw).1 ((p.line i).drop 1):=by
 rw[RP.form,ja h1,ja h2,ja];simp[h,h',h'']
set_option maxRecDepth 20000 in
set_option maxHeartbeats 2000000 in
theorem N1 (p:RP)(a i:Nat)(w:World)(hp:bd w a p)(cd:p.Ok)(hi:i<p.lines.length)(hl:¬word (p.line i) 0=cv)(hb:¬word (p.line i) 0=aQ):
  Calls Tryz.prog 68 #[.pointer (some ⟨a,0,none⟩),.int .i64 i] w fun e w'=>e=.returned (.bool (p.form i))/\∃n,w'=w.drewN n:=by
 have lx:=cd.size;have Wu:=cd.wide i;have di:=cd.long;obtain⟨g,cap,gl,dr,ko,vA,mZ,xP,hw⟩:=hp.gG i hi;have FE:=cd.words i hi;have qS:=hw 0 (by omega);have XE:(0:Int)<(p.line i).length:=by omega
 have xU:=hp.raw;have HN:Hid (∀h:(behind (word (p.line i) 0) p.raw).2=false\/p.inside i=false\/¬(p.line i).length=(behind (word (p.line i) 0) p.raw).1.length+1,p.form i=false):=Ej p i hl hb;have HE:Hid (∀(h:(behind (word (p.line i) 0) p.raw).2=true) (h':p.inside i=true) (h'':(p.line i).length=(behind (word (p.line i) 0) p.raw).1.length+1),p.form i=jn (behind (word (p.line i) 0) p.raw).1 ((p.line i).drop 1)):=Ei p i hl hb;have qk:(word (p.line i) 0==[108,101,116])=false:=by simpa [cv]using hl
 have B6:(word (p.line i) 0==[98,108,111,99,107])=false:=by simpa [aQ]using hb
 have FF:=ir p a i w hp cd (by omega);have HB:∀W,Calls Tryz.prog 87 #[.string (bs (word (p.line i) 0)),.bool p.raw] W fun e w'=>e=.returned (.tuple #[.string (bs (behind (word (p.line i) 0) p.raw).1),.bool (behind (word (p.line i) 0) p.raw).2])/\w'=W:=fun W=>rR _ _ _
 have lI:=pn (word (p.line i) 0) p.raw;clear hl hb;generalize (behind (word (p.line i) 0) p.raw).1=f at*;generalize (behind (word (p.line i) 0) p.raw).2=ok at*;generalize p.inside i=inn at*;cases ok
 ·have hx:=HN.out (.inl rfl);clear HN HE;go_enter Tryz.func68,Tryz.ntmps68
  go_wp2_with (go_at_call 69;refine FF.mono ?_;rintro e w' ⟨rfl,n,rfl⟩)
  go_quiet ((go_at_call 87;exact(HB _).mono fun _ _ ⟨he,hm⟩=>⟨he,_,hm⟩))
  go_wp2
  go_ret
  exact⟨aO hx.symm,_,rfl⟩
 cases inn
 ·have hx:=HN.out (.inr (.inl rfl));clear HN HE;go_enter Tryz.func68,Tryz.ntmps68
  go_wp2_with (go_at_call 69;refine FF.mono ?_;rintro e w' ⟨rfl,n,rfl⟩)
  go_quiet ((go_at_call 87;exact(HB _).mono fun _ _ ⟨he,hm⟩=>⟨he,_,hm⟩))
  go_wp2
  go_ret
  exact⟨aO hx.symm,_,rfl⟩
 by_cases h3:(p.line i).length=f.length+1
 ·have HX:Hid (_=_):=HE.out rfl rfl h3;clear HN HE;go_enter Tryz.func68,Tryz.ntmps68
  go_wp2_with (go_at_call 69;refine FF.mono ?_;rintro e w' ⟨rfl,n,rfl⟩)
  go_quiet ((go_at_call 87;exact(HB _).mono fun _ _ ⟨he,hm⟩=>⟨he,_,hm⟩))
  go_wp2
  clear HB FF;go_loopw [12] (fun kk wr=>∃k:Nat,k<=f.length/\kk=.int .i64 k/\Hid (p.form i=jn (f.drop k) ((p.line i).drop (k+1)))/\∃n,wr=w.drewN n) (fun kk _=>f.length-(intOf kk).toNat)
  case atStart=>exact⟨0,jQ _,rfl,HX,_,rfl⟩
  case round=>
   obtain⟨k,hk,rfl,HI,n,rfl⟩:=hrel;by_cases aK:k<f.length
   ·have HS:Hid (_=_):=Gm f (p.line i) k aK;have hwk:=hw (k+1) (by omega);have xr:(word (p.line i) (k+1)).length<=maxLen:=jS (di i (k+1)) (by decide);have YO:(k:Int)+1<(p.line i).length:=by omega
    have hk5:(k:Int)<f.length:=by omega
    have HWD:∀W,Calls Tryz.prog 109 #[.int .u8 f[k].toNat,.string (bs (word (p.line i) (k+1)))] W fun e w'=>e=.returned (.bool (iB f[k] (word (p.line i) (k+1))))/\w'=W:=fun W=>P1 _ _ _ xr
    clear di hw;go_wp2
    go_quiet ((go_at_call 109;exact(HWD _).mono fun _ _ ⟨he,hm⟩=>⟨he,_,hm⟩))
    go_wp2
    ·go_ret
     go_light
     refine⟨aO ?_,_,rfl⟩;rw[HI.out,HS.out];simp_all
    ·go_roundw
     case rel=>
      go_light
      exact⟨k+1,by omega,by go_num,by rw[HI.out,HS.out];simp_all [Hid],_,rfl⟩
     case measure=>simp[intOf];omega
   ·go_wp2
    go_ret
    refine⟨aO ?_,n,rfl⟩;rw[HI.out,jT (by omega)];rfl
 ·have hx:=HN.out (.inr (.inr h3));clear HN HE;go_enter Tryz.func68,Tryz.ntmps68
  go_wp2_with (go_at_call 69;refine FF.mono ?_;rintro e w' ⟨rfl,n,rfl⟩)
  go_quiet ((go_at_call 87;exact(HB _).mono fun _ _ ⟨he,hm⟩=>⟨he,_,hm⟩))
  go_wp2
  go_ret
  exact⟨aO hx.symm,_,rfl⟩
theorem Q8 (p:RP)(a i:Nat)(w:World)(hp:bd w a p)(cd:p.Ok)(hi:i<p.lines.length):
  Calls Tryz.prog 68 #[.pointer (some ⟨a,0,none⟩),.int .i64 i] w fun e w'=>e=.returned (.bool (p.form i))/\∃n,w'=w.drewN n:=by
 by_cases hl:word (p.line i) 0=cv
 ·exact Q9 p a i w hp cd hi hl
 by_cases hb:word (p.line i) 0=aQ
 ·exact J4 p a i w hp cd hi hb
 ·exact N1 p a i w hp cd hi hl hb
end RefL
namespace RefN
open Go.RowKit Sq RefA RefI RefJ Aux
theorem Sv (p:RP)(a i:Nat)(w:World)(hp:bd w a p)(cd:p.Ok)(hi:i<p.lines.length)(hl:p.gN i):
  Calls Tryz.prog 70 #[.pointer (some ⟨a,0,none⟩),.int .i64 i] w fun e w'=>e=.returned (.bool (p.names i))/\∃n,w'=w.drewN n:=by
 unfold RP.gN at hl;by_cases et:word (p.line i) 0=cv
 ·rw[jb et]at hl;exact O4 p a i w hp cd hi et hl.1 (RP.QZ hl.2)
 ·rw[ja et]at hl;exact Lw p a i w hp cd hi et hl
theorem TF (p:RP)(a i:Nat)(w:World)(hp:bd w a p)(cd:p.Ok)(hi:i<p.lines.length)(hl:p.gN i)(et:¬word (p.line i) 0=cv)(hn:p.names i=true):
  Calls Tryz.prog 71 #[.pointer (some ⟨a,0,none⟩),.int .i64 i] w fun e w'=>e=.returned (.bool (p.types i))/\∃n,w'=w.drewN n:=by
 unfold RP.gN at hl;rw[ja et]at hl;exact P0 p a i w hp cd hi hl (fun k hk hc=>RP.iv hn et k hk hc) (fun hm=>RP.Vn hn et hm)
end RefN
end Go.Proofs.YtmlgajhhnojdjaaGreatDoor
